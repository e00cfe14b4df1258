/-
  The contracts of package cell (layer 9): mayBe, Pin, Field, size, behind, Next, Right; word.Top of no tag; and of the document's own: Pin, Field, Next, Right.
-/
import Derived.Test.YtjbhichgojjakaaWds
namespace Go.Proofs.Ytjbhichgojjakaa
open Go.ChangeShapes Go.WideShapes Go.ChangeAt Go.RowKit
set_option linter.unusedVariables false
set_option maxRecDepth 100000

theorem ret_boolc {a b : Bool} (h : a = b) : Ending.returned (.bool a) = .returned (.bool b) := by rw [h]
theorem ret_i64c {a b : Int} (h : a = b) : Ending.returned (.int .i64 a) = .returned (.int .i64 b) := by rw [h]
theorem ret_u64c {a b : Int} (h : a = b) : Ending.returned (.int .u64 a) = .returned (.int .u64 b) := by rw [h]

/-- May a memory be for so many threads and records? -/
def mayB (t c : Int) : Bool := decide (1 ≤ t ∧ t ≤ 64 ∧ 0 ≤ c ∧ c ≤ 65536)
/-- Places, and sizes. -/
def pinN (i : Nat) : Nat := 8 + i
def fieldN (t r f : Nat) : Nat := 8 + t + 8 * (r - 1) + f
def nextN (t r : Nat) : Nat := if r = 0 then 0 else fieldN t r 0
def sizeN (t c : Nat) : Nat := 8 + t + 8 * c
def behindN (r c : Nat) : Nat := if r = c then 0 else r + 1
theorem mayB_yes {t c : Nat} (h1 : 1 ≤ t) (h2 : t ≤ 64) (h3 : c ≤ 65536) : mayB (t : Int) (c : Int) = true := by unfold mayB; rw [decide_eq_true_iff]; omega
theorem mayB_iff {t c : Int} (h : mayB t c = true) : ∃ n k : Nat, t = (n : Int) ∧ c = (k : Int) ∧ 1 ≤ n ∧ n ≤ 64 ∧ k ≤ 65536 := by
  unfold mayB at h
  rw [decide_eq_true_iff] at h
  exact ⟨t.toNat, c.toNat, by omega, by omega, by omega, by omega, by omega⟩

theorem mayBe_any (t c : Int) (w : World) : Calls Try.prog 73 #[.int .i64 t, .int .i64 c] w fun e w' => e = .returned (.bool (mayB t c)) ∧ w = w' := by
  by_cases h1 : 1 ≤ t
  · by_cases h2 : t ≤ 64
    · by_cases h3 : 0 ≤ c
      · have E : Hid (mayB t c = decide (c ≤ 65536)) := Lib.hid (by unfold mayB; simp [h1, h2, h3])
        go_enter Try.func73, Try.ntmps73
        go_wp2_with fail
        go_ret
        exact ⟨ret_boolc E.out.symm, rfl⟩
      · have E : Hid (mayB t c = false) := Lib.hid (by unfold mayB; simp [h3])
        have d : decide (0 ≤ c) = false := decide_eq_false h3
        go_enter Try.func73, Try.ntmps73
        go_wp2_with fail
        go_ret
        exact ⟨ret_boolc E.out.symm, rfl⟩
    · have E : Hid (mayB t c = false) := Lib.hid (by unfold mayB; simp [h2])
      have d : decide (t ≤ 64) = false := decide_eq_false h2
      go_enter Try.func73, Try.ntmps73
      go_wp2_with fail
      go_ret
      exact ⟨ret_boolc E.out.symm, rfl⟩
  · have E : Hid (mayB t c = false) := Lib.hid (by unfold mayB; simp [h1])
    have d : decide (1 ≤ t) = false := decide_eq_false h1
    go_enter Try.func73, Try.ntmps73
    go_wp2_with fail
    go_ret
    exact ⟨ret_boolc E.out.symm, rfl⟩
theorem pin_at (i : Nat) (h : i < 1000000) (w : World) : Calls Try.prog 94 #[.int .i64 (i : Int)] w fun e w' => e = .returned (.int .i64 (pinN i : Nat)) ∧ w = w' := by
  go_enter Try.func94, Try.ntmps94
  go_wp2_with fail
  go_ret
  exact ⟨ret_i64c (by unfold pinN; omega), rfl⟩
theorem field_any (t r f : Nat) (ht : t < 1000000) (h1 : 1 ≤ r) (hr : r < 1000000) (hf : f < 1000000) (w : World) :
    Calls Try.prog 90 #[.int .i64 (t : Int), .int .i64 (r : Int), .int .i64 (f : Int)] w fun e w' => e = .returned (.int .i64 (fieldN t r f : Nat)) ∧ w = w' := by
  have hp : (pinN t : Int) = 8 + (t : Int) := by unfold pinN; omega
  go_enter Try.func90, Try.ntmps90
  go_wp2_with (go_at_call 94; (with_reducible refine (pin_at t ht _).mono ?_); rintro e w' ⟨rfl, rfl⟩)
  go_ret
  exact ⟨ret_i64c (by unfold fieldN; omega), rfl⟩
theorem size_at (t c : Nat) (ht : t < 1000000) (hc : c < 100000) (w : World) :
    Calls Try.prog 74 #[.int .i64 (t : Int), .int .i64 (c : Int)] w fun e w' => e = .returned (.int .i64 (sizeN t c : Nat)) ∧ w = w' := by
  have E : Hid (fieldN t (c + 1) 0 = sizeN t c) := Lib.hid (by unfold fieldN sizeN; omega)
  have hcall : ∀ w, Calls Try.prog 90 #[.int .i64 (t : Int), .int .i64 ((c : Int) + 1), .int .i64 0] w fun e w' => e = .returned (.int .i64 (sizeN t c : Nat)) ∧ w = w' := fun w => by
    have h := field_any t (c + 1) 0 ht (by omega) (by omega) (by omega) w
    rw [E.out] at h
    exact h
  go_enter Try.func74, Try.ntmps74
  go_wp2_with (go_at_call 90; (with_reducible refine (hcall _).mono ?_); rintro e w' ⟨rfl, rfl⟩)
  go_ret
  exact ⟨rfl, rfl⟩
theorem kept_bool {w w2 : World} {p b : Bool} (E : Hid (p = b)) (h : Below w.heap.size w w2) : Kept w (.bool p) (.returned (.bool b)) w2 := ⟨ret_boolc E.out.symm, h⟩
/-- Is a memory right? -/
def rightM (t c : Int) (n : Nat) : Bool := mayB t c && decide ((n : Int) = 8 + t + 8 * c)
theorem right_memory (t c : Int) (a : Option Addr) (n cap : Nat) (w : World) :
    Calls Try.prog 53 #[.agg #[.int .i64 t, .int .i64 c, .slice a n cap]] w (Kept w (.bool (rightM t c n))) := by
  by_cases h : mayB t c = true
  · obtain ⟨tn, cn, rfl, rfl, h1, h2, h3⟩ := mayB_iff h
    have E : Hid (rightM (tn : Int) (cn : Int) n = decide (n = sizeN tn cn)) := Lib.hid (by unfold rightM sizeN; rw [h, Bool.true_and, decide_eq_decide]; omega)
    have hc1 := fun w => mayBe_any (tn : Int) (cn : Int) w
    rw [h] at hc1
    have hc2 := fun w => size_at tn cn (by omega) (by omega) w
    have E2 : Hid ((((n : Nat) : Int) == ((sizeN tn cn : Nat) : Int)) = decide (n = sizeN tn cn)) := Lib.hid (by rw [Bool.eq_iff_iff, beq_iff_eq, decide_eq_true_iff]; omega)
    clear h h1 h2 h3
    generalize sizeN tn cn = sz at *
    go_enter Try.func53, Try.ntmps53
    go_wp2_with fail
    go_quiet (first | (go_at_call 73; with_reducible exact quiet_call (hc1 _)) | (go_at_call 74; with_reducible exact quiet_call (hc2 _)))
    go_wp2_with fail
    go_ret
    exact ⟨ret_boolc (E2.out.trans E.out.symm), below_draw ((Below.refl _ w).alloc (Nat.le_refl _) _) _⟩
  · have h' : mayB t c = false := by simpa using h
    have E : Hid (rightM t c n = false) := Lib.hid (by unfold rightM; rw [h', Bool.false_and])
    have hc1 := fun w => mayBe_any t c w
    rw [h'] at hc1
    clear h h'
    go_enter Try.func53, Try.ntmps53
    go_wp2_with fail
    go_quiet (first | (go_at_call 73; with_reducible exact quiet_call (hc1 _)))
    go_wp2_with fail
    go_ret
    exact ⟨ret_boolc E.out.symm, below_draw ((Below.refl _ w).alloc (Nat.le_refl _) _) _⟩
theorem refRight_memory (t c : Int) (a : Option Addr) (n cap : Nat) (hn : n ≤ 9223372036854775807) (w : World) :
    Calls Try.prog 64 #[.agg #[.int .i64 t, .int .i64 c, .slice a n cap]] w (Kept w (.bool (rightM t c n))) := by
  by_cases h1 : 1 ≤ t
  · by_cases h2 : t ≤ 64
    · by_cases h3 : 0 ≤ c
      · by_cases h4 : c ≤ 65536
        · have E : Hid (rightM t c n = ((n : Int) == 8 + t + 8 * c)) := Lib.hid (by unfold rightM mayB; simp [h1, h2, h3, h4]; rfl)
          go_enter Try.func64, Try.ntmps64
          go_wp2_with fail
          go_ret
          exact kept_bool E ((Below.refl _ w).alloc (Nat.le_refl _) _)
        · have E : Hid (rightM t c n = false) := Lib.hid (by unfold rightM mayB; simp [h4])
          have d : decide (c ≤ 65536) = false := decide_eq_false h4
          go_enter Try.func64, Try.ntmps64
          go_wp2_with fail
          go_ret
          exact kept_bool E ((Below.refl _ w).alloc (Nat.le_refl _) _)
      · have E : Hid (rightM t c n = false) := Lib.hid (by unfold rightM mayB; simp [h3])
        have d : decide (0 ≤ c) = false := decide_eq_false h3
        go_enter Try.func64, Try.ntmps64
        go_wp2_with fail
        go_ret
        exact kept_bool E ((Below.refl _ w).alloc (Nat.le_refl _) _)
    · have E : Hid (rightM t c n = false) := Lib.hid (by unfold rightM mayB; simp [h2])
      have d : decide (t ≤ 64) = false := decide_eq_false h2
      go_enter Try.func64, Try.ntmps64
      go_wp2_with fail
      go_ret
      exact kept_bool E ((Below.refl _ w).alloc (Nat.le_refl _) _)
  · have E : Hid (rightM t c n = false) := Lib.hid (by unfold rightM mayB; simp [h1])
    have d : decide (1 ≤ t) = false := decide_eq_false h1
    go_enter Try.func64, Try.ntmps64
    go_wp2_with fail
    go_ret
    exact kept_bool E ((Below.refl _ w).alloc (Nat.le_refl _) _)
theorem refField_any (t r f : Nat) (ht : t < 1000000) (h1 : 1 ≤ r) (hr : r < 1000000) (hf : f < 1000000) (w : World) :
    Calls Try.prog 55 #[.int .i64 (t : Int), .int .i64 (r : Int), .int .i64 (f : Int)] w fun e w' => e = .returned (.int .i64 (fieldN t r f : Nat)) ∧ w = w' := by
  go_enter Try.func55, Try.ntmps55
  go_wp2_with fail
  go_ret
  exact ⟨ret_i64c (by unfold fieldN; omega), rfl⟩
end Go.Proofs.Ytjbhichgojjakaa
