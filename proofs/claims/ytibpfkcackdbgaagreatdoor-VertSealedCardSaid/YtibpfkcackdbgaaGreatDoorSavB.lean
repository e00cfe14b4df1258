/- SavB -/
import Derived.Test.YtibpfkcackdbgaaGreatDoorSavSrv
import Derived.Test.YtibpfkcackdbgaaGreatDoorPolB
import Derived.Test.YtibpfkcackdbgaaGreatDoorSavA
import Derived.Test.YtibpfkcackdbgaaGreatDoorEntB
import Derived.Test.YtibpfkcackdbgaaGreatDoorFrmB
import Derived.Test.YtibpfkcackdbgaaGreatDoorSmal
namespace Go.Proofs.YtibpfkcackdbgaaGreatDoor
open Go.ChangeShapes Go.WideShapes Go.ChangeAt Go.RowKit Go.BigFrame
set_option linter.unusedVariables false
set_option maxRecDepth 100000
inductive CSD where
 | at (s : List Res)
 | stop (k i : Int) (a b : Nat) (d : List Nat)
def CSD.tell : CSD → Int → Int → Nat → Nat → List Nat → Nat × CSD
 | .at (r :: rest), k, _, _, _, _ => (toldR k r, .at rest)
 | .at [], k, i, a, b, d => (0, .stop k i a b d)
 | .stop k i a b d, _, _, _, _, _ => (0, .stop k i a b d)
def CSD.stops : CSD → Bool
 | .at _ => false
 | .stop _ _ _ _ _ => true
theorem CSD.small (c : CSD) (k i : Int) (a b : Nat) (d : List Nat) : (c.tell k i a b d).1 < 18446744073709551616 := by
 rcases c with (_ | ⟨r, s⟩) | ⟨_, _, _, _, _⟩
 ·exact (by decide : 0 < 18446744073709551616)
 ·exact toldR_lt k r
 ·exact (by decide : 0 < 18446744073709551616)
namespace Prd
def runCD (p : Prd) : CSD → RanD (List Res)
 | .at s => p.run tapeTellD s
 | .stop k i a b d => .left k i a b d
end Prd
def CurXD (lo g : Nat) (A : Option Addr) (n cap : Nat) (k i : Int) (a b : Nat) (d : List Nat) (x : World) : Prop :=
 ∃ D dc, VarAt x g (curV A n cap (n : Int) true (.int .i64 k) (.int .i64 i) (.int .u64 (a : Int)) (.int .u64 (b : Int)) (.slice D d.length dc) (.slice none 0 0)) ∧ AtB x D d.length d ∧ d.length ≤ dc ∧ OffW (fun c => c ≠ g ∧ lo ≤ c) D d.length ∧ d.length ≤ 100000
def CurVD (lo g : Nat) (A : Option Addr) (n cap : Nat) (log : List Res) (c : CSD) (w : World) : Prop := match c with | .at s => CurS g A n cap log s w | .stop k i a b d => CurXD lo g A n cap k i a b d w
def CSD.plain : CSD → Prop
 | .at _ => True
 | .stop _ _ _ _ d => d = []
structure CurID (g : Nat) (A : Option Addr) (n cap : Nat) (log : List Res) (w0 wb : World) (c : CSD) (w : World) : Prop where
 cur : CurVD wb.heap.size g A n cap log c w
 but : But g wb w
section
variable {lo g : Nat} {A : Option Addr} {n cap : Nat} {log : List Res} {w0 wb : World}
theorem CurVD.below {c : CSD} {x y : World} (h : CurVD lo g A n cap log c x) (hb : Below x.heap.size x y) : CurVD lo g A n cap log c y := by
 cases c with
 | «at» s => exact CurS.below g A n cap log h hb
 | stop k i a b d =>
  obtain ⟨D, dc, h1, h2, h3, h4, h5⟩ := h
  exact ⟨D, dc, h1.below hb, AtB.later (Lib.hid h2) hb, h3, h4, h5⟩
theorem CurVD.put {c : CSD} {x : World} (h : CurVD lo g A n cap log c x) {b' : Nat} (j : Nat) (v : Value) (hne : b' ≠ g) (hm : c.plain ∨ b' < lo) : CurVD lo g A n cap log c (x.setCell ⟨b', j, none⟩ v) := by
 cases c with
 | «at» s => obtain ⟨q, h1, h2, h3⟩ := h; exact ⟨q, h1, h2, h3.apart j v hne⟩
 | stop k i a b d =>
  obtain ⟨D, dc, h1, h2, h3, h4, h5⟩ := h
  have ho : OffW (fun c => c ≠ b') D d.length := by
   rcases hm with hm | hm
   ·have e : d = [] := hm
    rw [e]
    exact OffW.nil _ _
   ·exact h4.mono fun c hc => by omega
  exact ⟨D, dc, h1.apart j v hne, h2.svd (Q := fun c => c ≠ b') ((Svd.refl _ _).set b' j v (fun _ h => h rfl)) ho, h3, h4, h5⟩
theorem CurVD.lt {c : CSD} {w : World} (h : CurVD lo g A n cap log c w) : g < w.heap.size := by
 cases c with
 | «at» s => exact CurS.lt g A n cap log h
 | stop k i a b d => obtain ⟨D, dc, h1, _⟩ := h; exact h1.1
theorem CurID.lt {c : CSD} {w : World} (h : CurID g A n cap log w0 wb c w) : g < w.heap.size := h.cur.lt
theorem CurID.below {c : CSD} {x y : World} (h : CurID g A n cap log w0 wb c x) (hb : Below x.heap.size x y) : CurID g A n cap log w0 wb c y :=
 ⟨h.cur.below hb, h.but.later hb h.lt⟩
theorem CurID.put {c : CSD} {x : World} (h : CurID g A n cap log w0 wb c x) {b' : Nat} (j : Nat) (v : Value) (hp : c.plain) (hg : g < wb.heap.size) (hb : wb.heap.size ≤ b') : CurID g A n cap log w0 wb c (x.setCell ⟨b', j, none⟩ v) :=
 ⟨h.cur.put j v (by omega) (.inl hp), h.but.new _ _ _ (by omega) hb⟩
theorem CurID.two {c : CSD} {w : World} (h : CurID g A n cap log w0 wb c w) : w.cell? ⟨g, 2, none⟩ = some (.bool c.stops) := by
 cases c with
 | «at» s => obtain ⟨j, h1, h2, h3⟩ := h.cur; exact h3.2.1 2 _ rfl
 | stop k i a b d => obtain ⟨D, dc, h1, _⟩ := h.cur; exact h1.2.1 2 _ rfl
def RefD (g : Nat) (A : Option Addr) (n cap : Nat) (log : List Res) (w0 wb : World) (ret : Nat → Value) (R : RanD (List Res)) (e : Ending) (w' : World) : Prop :=
 ∃ d c', e = .returned (ret d) ∧ CurID g A n cap log w0 wb c' w' ∧ (Prd.ret d).runCD c' = R
section
variable (OK : Hid (CurOk g A n log w0 wb)) {R : RanD (List Res)} {f : Nat → Prd} {c : CSD}
include OK
end
theorem RefD.fin {R : RanD (List Res)} {d : Nat} {c : CSD} {w' : World} {ret : Nat → Value} (h : (Prd.ret d).runCD c = R) (hI : CurID g A n cap log w0 wb c w') : RefD g A n cap log w0 wb ret R (.returned (ret d)) w' := ⟨d, c, rfl, hI, h⟩
end
end Go.Proofs.YtibpfkcackdbgaaGreatDoor
namespace Go.Proofs.YtibpfkcackdbgaaGreatDoor
open Go.ChangeShapes Go.WideShapes Go.ChangeAt Go.RowKit Go.BigFrame Go.Deep
set_option linter.unusedVariables false
set_option maxRecDepth 100000
set_option linter.unusedSectionVars false
section
variable {g : Nat} {A : Option Addr} {n cap : Nat} {log : List Res} {w0 wb : World} (OK : Hid (CurOk g A n log w0 wb))
include OK
end
end Go.Proofs.YtibpfkcackdbgaaGreatDoor
namespace Go.Proofs.YtibpfkcackdbgaaGreatDoor
open Go.ChangeShapes Go.WideShapes Go.ChangeAt Go.RowKit Go.BigFrame Go.Deep
set_option linter.unusedVariables false
set_option maxRecDepth 100000
set_option linter.unusedSectionVars false
section
variable {g : Nat} {A : Option Addr} {n cap : Nat} {log : List Res} {w0 wb : World} (OK : Hid (CurOk g A n log w0 wb))
include OK
end
end Go.Proofs.YtibpfkcackdbgaaGreatDoor
