/- EpcC -/
import Derived.Test.YtibpfkcackdbgaaGreatDoorEpcB
namespace Go.Proofs.YtibpfkcackdbgaaGreatDoor
set_option linter.unusedVariables false
set_option maxRecDepth 100000
set_option linter.unusedSectionVars false
open Go.ChangeShapes Go.WideShapes Go.ChangeAt Go.RowKit Go.BigFrame
theorem curSwap_of (g : Nat) (i : Int) (a : Nat) (N : Nat) (P : World → Prop) (hP : ∀ x y, P x → Below x.heap.size x y → P y) (w : World) (hgw : g < w.heap.size)
  (h : Calls Tryz.prog 151 #[.pointer (some ⟨g, 0, none⟩), .agg #[.int .i64 4, .int .i64 i, .int .u64 (a : Int), .int .u64 0, .slice none 0 0, .slice none 0 0]] w (fun e w' => (∃ B bn bc fl, e = .returned (.agg #[.int .u64 (N : Int), .slice B bn bc, .bool fl])) ∧ P w' ∧ But g w w')) :
  Calls Tryz.prog 190 #[.pointer (some ⟨g, 0, none⟩), .int .i64 i, .int .u64 (a : Int)] w (fun e w' => e = .returned (.int .u64 (N : Int)) ∧ P w' ∧ But g w w') := by
 have HG := Lib.hid hgw
 have hf := field_n
 clear hgw
 go_enter Tryz.func190, Tryz.ntmps190
 go_wp2_with fail
 (with_reducible refine h.mono ?_)
 rintro e w' ⟨⟨B, bn, bc, fl, rfl⟩, hp, hb⟩
 have HP := Lib.hid hp
 have HB := Lib.hid hb
 clear hp hb h
 go_wp2_with fail
 have hg := HG.out
 have hb := HB.out
 have hsz := hb.size
 go_ret
 exact ⟨rfl, hP _ _ HP.out belA, butA⟩
theorem wrapUp (e k : Nat) (hk : k < 100) : IntKind.u64.wrap ((e : Int) + (k : Int)) = ((upN e k : Nat) : Int) := by rw [IntKind.wrap_u64]; unfold upN; omega
theorem rLimbo_any (e : Nat) (w : World) : Calls Tryz.prog 191 #[.int .u64 (e : Int)] w fun x w' => x = .returned (.int .i64 (limboN e : Nat)) ∧ w = w' := by
 have h1 : Int.tmod (e : Int) 3 = ((e % 3 : Nat) : Int) := (Int.ofNat_tmod e 3).symm
 have h2 : (4 : Int) + ((e % 3 : Nat) : Int) = ((limboN e : Nat) : Int) := by unfold limboN; omega
 have h3 : e % 3 < 3 := Nat.mod_lt _ (by decide)
 generalize e % 3 = m at *
 generalize limboN e = l at *
 go_enter Tryz.func191, Tryz.ntmps191
 go_wp2_with fail
 go_ret
 exact ⟨rfl, rfl⟩
section
variable {g : Nat} {A : Option Addr} {n cap : Nat} {log : List Res} {w0 wb : World}
theorem RefEnd.fin {R : Ran (List Res)} {d : Nat} {c : CS} {w' : World} {ret : Nat → Value} (h : (Prg.ret d).runC c = R) (hI : CurI g A n cap log w0 wb c w') : RefEnd g A n cap log w0 wb ret R (.returned (ret d)) w' := by
 subst h
 cases c with
 | «at» s => exact ⟨rfl, hI⟩
 | stop k i a b => exact ⟨d, rfl, hI⟩
section
variable (OK : Hid (CurOk g A n log w0 wb)) {R : Ran (List Res)} {f : Nat → Prg} {c : CS}
include OK
end
variable (OK : Hid (CurOk g A n log w0 wb))
include OK
end
end Go.Proofs.YtibpfkcackdbgaaGreatDoor
