/-
  Texts of one kind, one behind the other: EpcRef, EpcRefNext.
-/
import Derived.Test.YtkfodhkeajmbhaaGreatDoorEpcB
namespace Go.Proofs.YtkfodhkeajmbhaaGreatDoor
set_option linter.unusedVariables false
set_option maxRecDepth 100000

set_option linter.unusedSectionVars false

open Go.ChangeShapes Go.WideShapes Go.ChangeAt Go.RowKit Go.BigFrame

theorem rLimbo_any (e : Nat) (w : World) : Calls Tryz.prog 106 #[.int .u64 (e : Int)] w fun x w' => x = .returned (.int .i64 (limboN e : Nat)) ∧ w = w' := by
  have h1 : Int.tmod (e : Int) 3 = ((e % 3 : Nat) : Int) := (Int.ofNat_tmod e 3).symm
  have h2 : (4 : Int) + ((e % 3 : Nat) : Int) = ((limboN e : Nat) : Int) := by unfold limboN; omega
  have h3 : e % 3 < 3 := Nat.mod_lt _ (by decide)
  generalize e % 3 = m at *
  generalize limboN e = l at *
  go_enter Tryz.func106, Tryz.ntmps106
  go_wp2_with fail
  go_ret
  exact ⟨rfl, rfl⟩
section
variable {g : Nat} {A : Option Addr} {n cap : Nat} {log : List Res} {w0 wb : World}
theorem RefEnd.fin {R : Ran (List Res)} {d : Nat} {c : CS} {w' : World} {ret : Nat → Value} (h : (Prg.ret d).runC c = R) (hI : CurI g A n cap log w0 wb c w') : RefEnd g A n cap log w0 wb ret R (.returned (ret d)) w' := by
  subst h
  cases c with
  | «at» s => exact ⟨rfl, hI⟩
  | stop k i a b => exact ⟨d, rfl, hI⟩
section
variable (OK : Hid (CurOk g A n log w0 wb)) {R : Ran (List Res)} {f : Nat → Prg} {c : CS}
include OK
end
variable (OK : Hid (CurOk g A n log w0 wb))
include OK
end
end Go.Proofs.YtkfodhkeajmbhaaGreatDoor
