/-
  The contract of the document's own Same of two memories that read alike; the contract of the document's examples.
-/
import Derived.Test.YtjjkdebdikkceaaCllNew
import Derived.Deep.RegionHeld3
import Derived.Test.YtjjkdebdikkceaaLexFast
namespace Go.Proofs.Ytjjkdebdikkceaa
open Go.ChangeShapes Go.WideShapes Go.ChangeAt Go.RowKit Go.BigFrame
set_option linter.unusedVariables false

/-- The two variables, and the two rows, while the rows are compared. -/
def SameRel (w : World) (t c : Int) (A B : Option Addr) (n a b : Nat) (f : Nat → Nat) (wr : World) : Prop :=
  VarAt wr w.heap.size [.int .i64 t, .int .i64 c, .slice A n a] ∧ VarAt wr (w.heap.size + 1) [.int .i64 t, .int .i64 c, .slice B n b] ∧ AtW wr A n f ∧ AtW wr B n f ∧ Below w.heap.size w wr
theorem SameRel.drewN {w wr : World} {t c : Int} {A B : Option Addr} {n a b : Nat} {f : Nat → Nat} (h : SameRel w t c A B n a b f wr) (k : Nat) : SameRel w t c A B n a b f (wr.drewN k) :=
  ⟨h.1.drewN k, h.2.1.drewN k, h.2.2.1, h.2.2.2.1, below_draw h.2.2.2.2 k⟩
theorem SameRel.start (w : World) (t c : Int) (A B : Option Addr) (n a b : Nat) (f : Nat → Nat) (hA : AtW w A n f) (hB : AtW w B n f) :
    SameRel w t c A B n a b f ((w.alloc (.cells #[.int .i64 t, .int .i64 c, .slice A n a] 24)).alloc (.cells #[.int .i64 t, .int .i64 c, .slice B n b] 24)) :=
  ⟨VarAt.three0 w _ _ _ _ _, VarAt.three1 w _ _ _ _ _, hA.later (below_pair w _ _), hB.later (below_pair w _ _), below_pair w _ _⟩
set_option maxHeartbeats 1000000 in
theorem refSame_yes (t c : Int) (A B : Option Addr) (n a b : Nat) (f : Nat → Nat) (hn : n ≤ 140737488355328) (w : World) (hA : Hid (AtW w A n f)) (hB : Hid (AtW w B n f)) :
    Calls Try.prog 11 #[.agg #[.int .i64 t, .int .i64 c, .slice A n a], .agg #[.int .i64 t, .int .i64 c, .slice B n b]] w (Kept w (.bool true)) := by
  have HN := Lib.hid hn
  have HS := Lib.hid (SameRel.start w t c A B n a b f hA.out hB.out)
  go_enter Try.func11, Try.ntmps11
  go_wp2_with fail
  go_loopw [5] (fun i wr => ∃ k : Nat, k ≤ n ∧ i = .int .i64 (k : Int) ∧ SameRel w t c A B n a b f wr) (fun i _ => n - (intOf i).toNat)
  case atStart => exact ⟨0, Nat.zero_le _, rfl, HS.out⟩
  case round =>
    obtain ⟨k, hk, rfl, hrel⟩ := hrel
    have HR := Lib.hid hrel
    by_cases hlt : k < n
    · have HX := Lib.hid (hrel.drewN 1)
      obtain ⟨h0, h1, ha, hb, hbe⟩ := hrel
      obtain ⟨b0, o0, rfl, l0, m0⟩ := ha.2 (by omega)
      obtain ⟨b1, o1, rfl, l1, m1⟩ := hb.2 (by omega)
      have x0 := m0 k hlt
      have x1 := m1 k hlt
      obtain ⟨r, r0, r1, r2, q0, q1, q2⟩ := h0.three
      obtain ⟨v, v0, v1, v2, g0, g1, g2⟩ := h1.three
      have i0 : (0 : Int) ≤ (k : Int) := by omega
      have i1 : (k : Int) < (n : Int) := by omega
      clear h0 h1 ha hb hbe m0 m1 l0 l1 r v
      go_wp2_with fail
      go_quiet (fail)
      go_wp2_with fail
      go_roundw
      case rel => exact ⟨k + 1, by omega, by go_num, HR.out.drewN nq⟩
      case measure => simp [intOf]; omega
    · obtain rfl : k = n := by omega
      obtain ⟨h0, h1, ha, hb, hbe⟩ := hrel
      obtain ⟨r, r0, r1, r2, q0, q1, q2⟩ := h0.three
      have HBE := Lib.hid hbe
      clear h0 h1 ha hb hbe r
      go_wp2_with fail
      go_ret
      exact ⟨rfl, HBE.out⟩

/-! ### The document's examples -/
/-- A memory in a variable of the call's own. -/
def MemAt (w : World) (b : Nat) (t c : Int) (A : Option Addr) (n cap : Nat) (f : Nat → Nat) : Prop :=
  VarAt w b [.int .i64 t, .int .i64 c, .slice A n cap] ∧ AtW w A n f
theorem MemAt.later {w w' : World} {b : Nat} {t c : Int} {A : Option Addr} {n cap : Nat} {f : Nat → Nat} (h : MemAt w b t c A n cap f) (hb : Below w.heap.size w w') : MemAt w' b t c A n cap f := ⟨h.1.below hb, h.2.later hb⟩
theorem MemAt.made (w : World) (t c : Int) {A : Option Addr} {n : Nat} (cap : Nat) {f : Nat → Nat} (h : AtW w A n f) : MemAt (w.alloc (.cells #[.int .i64 t, .int .i64 c, .slice A n cap] 24)) w.heap.size t c A n cap f :=
  ⟨VarAt.made w _ _, h.later (al_below _ _)⟩
/-- What New tells, whatever it is asked: a memory, and a code. -/
def MemPost (w : World) (T C : Int) (n : Nat) (f : Nat → Nat) (code : Int) (e : Ending) (w' : World) : Prop :=
  ∃ A, e = .returned (.tuple #[.agg #[.int .i64 T, .int .i64 C, .slice A n n], .int .i64 code]) ∧ AtW w' A n f ∧ Below w.heap.size w w'
theorem newBoth (t c : Int) : ∃ (T C : Int) (n : Nat) (f : Nat → Nat) (code : Int), n ≤ 1000000 ∧ (∀ w, Calls Try.prog 9 #[.int .i64 t, .int .i64 c] w (MemPost w T C n f code)) ∧
    ∀ w, Calls Try.prog 10 #[.int .i64 t, .int .i64 c] w (MemPost w T C n f code) := by
  by_cases h : mayB t c = true
  · obtain ⟨tn, cn, rfl, rfl, h1, h2, h3⟩ := mayB_iff h
    exact ⟨tn, cn, sizeN tn cn, newF tn cn, 0, by unfold sizeN; omega,
      fun w => (new_yes tn cn h1 h2 h3 w).mono fun e w' ⟨g, he, _, hr, hb⟩ => ⟨_, he, hr.at_, hb⟩, fun w => (refNew_yes tn cn h1 h2 h3 w).mono fun e w' ⟨g, he, _, hr, hb⟩ => ⟨_, he, hr.at_, hb⟩⟩
  · have h' : mayB t c = false := by simpa using h
    exact ⟨0, 0, 0, fun _ => 0, 1, by omega, fun w => (new_no t c h' w).mono fun e w' ⟨he, hb⟩ => ⟨none, he, AtW.nil _ _, hb⟩, fun w => (refNew_no t c h' w).mono fun e w' ⟨he, hb⟩ => ⟨none, he, AtW.nil _ _, hb⟩⟩
theorem rightM_zero : rightM 0 0 0 = false := rfl
theorem rightM_yes {t c : Nat} (h1 : 1 ≤ t) (h2 : t ≤ 64) (h3 : c ≤ 65536) : rightM (t : Int) (c : Int) (sizeN t c) = true := by
  unfold rightM
  rw [mayB_yes h1 h2 h3, Bool.true_and, decide_eq_true_iff]
  unfold sizeN
  omega
def New23 (w : World) (e : Ending) (w' : World) : Prop :=
  ∃ g, e = .returned (.tuple #[.agg #[.int .i64 2, .int .i64 3, .slice (some ⟨g, 0, none⟩) 34 34], .int .i64 0]) ∧ w.heap.size ≤ g ∧ RowW w' g 34 (newF 2 3) ∧ Below w.heap.size w w'
theorem new_23 (w : World) : Calls Try.prog 9 #[.int .i64 2, .int .i64 3] w (New23 w) := new_yes 2 3 (by decide) (by decide) (by decide) w
set_option maxRecDepth 100000 in
set_option maxHeartbeats 2000000 in
theorem shown_any (w : World) : Calls Try.prog 8 #[] w fun e w' => e = .returned (.bool true) ∧ Below w.heap.size w w' := by
  go_enter Try.func8, Try.ntmps8
  go_wp2_with fail
  refine (new_23 w).mono ?_
  rintro e w1 ⟨g, rfl, hg, hrow, hb1⟩
  obtain ⟨x1, hx1⟩ : ∃ x, w1.alloc (.cells #[.int .i64 2, .int .i64 3, .slice (some ⟨g, 0, none⟩) 34 34] 24) = x := ⟨_, rfl⟩
  have M1 : Hid (MemAt x1 w1.heap.size 2 3 (some ⟨g, 0, none⟩) 34 34 (newF 2 3)) := Lib.hid (by rw [← hx1]; exact MemAt.made w1 2 3 34 hrow.at_)
  have BX : Hid (Below w.heap.size w x1) := Lib.hid (by rw [← hx1]; exact below_al hb1)
  clear hg hrow hb1
  go_wp2_with fail
  refine (show Calls Try.prog 9 #[.int .i64 0, .int .i64 3] x1 (NoPost x1) from new_no 0 3 (by decide) x1).mono ?_
  rintro e w2 ⟨rfl, hb2⟩
  have hb2x := hb2.trans ((al_below w2 (.cells #[.int .i64 0, .int .i64 0, .slice none 0 0] 24)).mono hb2.size)
  have M2 := Lib.hid (M1.out.later hb2x)
  have BY := Lib.hid (BX.out.trans (hb2x.mono BX.out.size))
  obtain ⟨v, v0, v1, v2, g0, g1, g2⟩ := M2.out.1.three
  obtain ⟨b, off, e, _, hc⟩ := M2.out.2.2 (by decide)
  cases e
  have c1 : (w2.alloc (.cells #[.int .i64 0, .int .i64 0, .slice none 0 0] 24)).cell? ⟨g, 1, none⟩ = some (.int .u64 1) := hc 1 (by decide)
  have c2 : (w2.alloc (.cells #[.int .i64 0, .int .i64 0, .slice none 0 0] 24)).cell? ⟨g, 17, none⟩ = some (.int .u64 2) := hc 17 (by decide)
  have c3 : (w2.alloc (.cells #[.int .i64 0, .int .i64 0, .slice none 0 0] 24)).cell? ⟨g, 25, none⟩ = some (.int .u64 3) := hc 25 (by decide)
  have c4 : (w2.alloc (.cells #[.int .i64 0, .int .i64 0, .slice none 0 0] 24)).cell? ⟨g, 33, none⟩ = some (.int .u64 0) := hc 33 (by decide)
  clear M1 BX hb2 hb2x hc
  go_wp2_with fail
  refine (show Calls Try.prog 16 #[.int .i64 2, .int .i64 1, .int .i64 0] _ (fun e w' => e = .returned (.int .i64 10) ∧ _ = w') from field_any 2 1 0 (by decide) (by decide) (by decide) (by decide) _).mono ?_
  rintro e w' ⟨rfl, rfl⟩
  go_wp2_with fail
  refine (show Calls Try.prog 14 #[.int .i64 1] _ (fun e w' => e = .returned (.int .i64 9) ∧ _ = w') from pin_at 1 (by decide) _).mono ?_
  rintro e w' ⟨rfl, rfl⟩
  go_wp2_with fail
  refine (show Calls Try.prog 18 #[.int .i64 2, .int .i64 0] _ (fun e w' => e = .returned (.int .i64 0) ∧ _ = w') from next_any 2 0 (by decide) (by decide) _).mono ?_
  rintro e w' ⟨rfl, rfl⟩
  go_wp2_with fail
  refine (show Calls Try.prog 18 #[.int .i64 2, .int .i64 2] _ (fun e w' => e = .returned (.int .i64 18) ∧ _ = w') from next_any 2 2 (by decide) (by decide) _).mono ?_
  rintro e w' ⟨rfl, rfl⟩
  go_wp2_with fail
  refine (show Calls Try.prog 12 #[.agg #[.int .i64 2, .int .i64 3, .slice (some ⟨g, 0, none⟩) 34 34]] _ (Kept _ (.bool true)) from right_memory 2 3 (some ⟨g, 0, none⟩) 34 34 _).mono ?_
  rintro e w3 ⟨rfl, hb3⟩
  have BZ := Lib.hid (below_step hb3 BY.out)
  clear hb3
  go_wp2_with fail
  refine (show Calls Try.prog 12 #[.agg #[.int .i64 0, .int .i64 0, .slice none 0 0]] _ (Kept _ (.bool false)) from right_memory 0 0 none 0 0 _).mono ?_
  rintro e w4 ⟨rfl, hb4⟩
  have BW := Lib.hid (below_step hb4 BZ.out)
  clear hb4
  go_wp2_with fail
  go_ret
  exact ⟨rfl, BW.out⟩
end Go.Proofs.Ytjjkdebdikkceaa
