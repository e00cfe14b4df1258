/-
  The contract of the document's own Same of two memories that read alike; the contract of the document's examples.
-/
import Derived.Test.YthcifknnppohfaaCllNew
import Derived.Deep.RegionHeld3
import Derived.Test.YthcifknnppohfaaLexFast
namespace Go.Proofs.Ythcifknnppohfaa
open Go.ChangeShapes Go.WideShapes Go.ChangeAt Go.RowKit Go.BigFrame
set_option linter.unusedVariables false
set_option maxRecDepth 100000

/-- The two variables, and the two rows, while the rows are compared. -/
def SameRel (w : World) (t c : Int) (A B : Option Addr) (n a b : Nat) (f : Nat → Nat) (wr : World) : Prop :=
  VarAt wr w.heap.size [.int .i64 t, .int .i64 c, .slice A n a] ∧ VarAt wr (w.heap.size + 1) [.int .i64 t, .int .i64 c, .slice B n b] ∧ AtW wr A n f ∧ AtW wr B n f ∧ Below w.heap.size w wr
theorem SameRel.drewN {w wr : World} {t c : Int} {A B : Option Addr} {n a b : Nat} {f : Nat → Nat} (h : SameRel w t c A B n a b f wr) (k : Nat) : SameRel w t c A B n a b f (wr.drewN k) :=
  ⟨h.1.drewN k, h.2.1.drewN k, h.2.2.1, h.2.2.2.1, below_draw h.2.2.2.2 k⟩
theorem SameRel.start (w : World) (t c : Int) (A B : Option Addr) (n a b : Nat) (f : Nat → Nat) (hA : AtW w A n f) (hB : AtW w B n f) :
    SameRel w t c A B n a b f ((w.alloc (.cells #[.int .i64 t, .int .i64 c, .slice A n a] 45)).alloc (.cells #[.int .i64 t, .int .i64 c, .slice B n b] 45)) :=
  ⟨VarAt.three0 w _ _ _ _ _, VarAt.three1 w _ _ _ _ _, hA.later (below_pair w _ _), hB.later (below_pair w _ _), below_pair w _ _⟩
set_option maxHeartbeats 1000000 in
theorem refSame_yes (t c : Int) (A B : Option Addr) (n a b : Nat) (f : Nat → Nat) (hn : n ≤ 140737488355328) (w : World) (hA : Hid (AtW w A n f)) (hB : Hid (AtW w B n f)) :
    Calls Try.prog 57 #[.agg #[.int .i64 t, .int .i64 c, .slice A n a], .agg #[.int .i64 t, .int .i64 c, .slice B n b]] w (Kept w (.bool true)) := by
  have HN := Lib.hid hn
  have HS := Lib.hid (SameRel.start w t c A B n a b f hA.out hB.out)
  go_enter Try.func57, Try.ntmps57
  go_wp2_with fail
  go_loopw [5] (fun i wr => ∃ k : Nat, k ≤ n ∧ i = .int .i64 (k : Int) ∧ SameRel w t c A B n a b f wr) (fun i _ => n - (intOf i).toNat)
  case atStart => exact ⟨0, Nat.zero_le _, rfl, HS.out⟩
  case round =>
    obtain ⟨k, hk, rfl, hrel⟩ := hrel
    have HR := Lib.hid hrel
    by_cases hlt : k < n
    · have HX := Lib.hid (hrel.drewN 1)
      obtain ⟨h0, h1, ha, hb, hbe⟩ := hrel
      obtain ⟨b0, o0, rfl, l0, m0⟩ := ha.2 (by omega)
      obtain ⟨b1, o1, rfl, l1, m1⟩ := hb.2 (by omega)
      have x0 := m0 k hlt
      have x1 := m1 k hlt
      obtain ⟨r, r0, r1, r2, q0, q1, q2⟩ := h0.three
      obtain ⟨v, v0, v1, v2, g0, g1, g2⟩ := h1.three
      have i0 : (0 : Int) ≤ (k : Int) := by omega
      have i1 : (k : Int) < (n : Int) := by omega
      clear h0 h1 ha hb hbe m0 m1 l0 l1 r v
      go_wp2_with fail
      go_quiet (fail)
      go_wp2_with fail
      go_roundw
      case rel => exact ⟨k + 1, by omega, by go_num, HR.out.drewN nq⟩
      case measure => simp [intOf]; omega
    · obtain rfl : k = n := by omega
      obtain ⟨h0, h1, ha, hb, hbe⟩ := hrel
      obtain ⟨r, r0, r1, r2, q0, q1, q2⟩ := h0.three
      have HBE := Lib.hid hbe
      clear h0 h1 ha hb hbe r
      go_wp2_with fail
      go_ret
      exact ⟨rfl, HBE.out⟩

/-! ### The document's examples -/
/-- A memory in a variable of the call's own. -/
def MemAt (w : World) (b : Nat) (t c : Int) (A : Option Addr) (n cap : Nat) (f : Nat → Nat) : Prop :=
  VarAt w b [.int .i64 t, .int .i64 c, .slice A n cap] ∧ AtW w A n f
theorem MemAt.later {w w' : World} {b : Nat} {t c : Int} {A : Option Addr} {n cap : Nat} {f : Nat → Nat} (h : MemAt w b t c A n cap f) (hb : Below w.heap.size w w') : MemAt w' b t c A n cap f := ⟨h.1.below hb, h.2.later hb⟩
theorem MemAt.made (w : World) (t c : Int) {A : Option Addr} {n : Nat} (cap : Nat) {f : Nat → Nat} (h : AtW w A n f) : MemAt (w.alloc (.cells #[.int .i64 t, .int .i64 c, .slice A n cap] 45)) w.heap.size t c A n cap f :=
  ⟨VarAt.made w _ _, h.later (al_below _ _)⟩
/-- What New tells, whatever it is asked: a memory, and a code. -/
def MemPost (w : World) (T C : Int) (n : Nat) (f : Nat → Nat) (code : Int) (e : Ending) (w' : World) : Prop :=
  ∃ A, e = .returned (.tuple #[.agg #[.int .i64 T, .int .i64 C, .slice A n n], .int .i64 code]) ∧ AtW w' A n f ∧ Below w.heap.size w w'
theorem rightM_zero : rightM 0 0 0 = false := rfl
theorem rightM_yes {t c : Nat} (h1 : 1 ≤ t) (h2 : t ≤ 64) (h3 : c ≤ 65536) : rightM (t : Int) (c : Int) (sizeN t c) = true := by
  unfold rightM
  rw [mayB_yes h1 h2 h3, Bool.true_and, decide_eq_true_iff]
  unfold sizeN
  omega
def New23 (w : World) (e : Ending) (w' : World) : Prop :=
  ∃ g, e = .returned (.tuple #[.agg #[.int .i64 2, .int .i64 3, .slice (some ⟨g, 0, none⟩) 34 34], .int .i64 0]) ∧ w.heap.size ≤ g ∧ RowW w' g 34 (newF 2 3) ∧ Below w.heap.size w w'
end Go.Proofs.Ythcifknnppohfaa
