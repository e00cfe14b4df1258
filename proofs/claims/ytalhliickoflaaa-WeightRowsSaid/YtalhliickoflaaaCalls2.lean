/-
  The contracts of the functions of layer 2 (weights), second part: the place in the order, which of two is ahead, and the kind, of the program and of the document's own answer.
-/
import Derived.Test.YtalhliickoflaaaCalls
import Derived.Test.YtalhliickoflaaaVals
namespace Go.Proofs.Ytalhliickoflaaa
open Go.ChangeShapes Go.WideShapes Go.ChangeAt Go.RowKit
set_option linter.unusedVariables false

theorem ret_int {k : IntKind} {a b : Int} (h : a = b) : Ending.returned (.int k a) = .returned (.int k b) := by rw [h]
theorem ret_bool {a b : Bool} (h : a = b) : Ending.returned (.bool a) = .returned (.bool b) := by rw [h]

theorem place_any (a : Int) (w : World) (h0 : 0 ≤ a) (h1 : a < 18446744073709551616) :
    Calls Try.prog 21 #[.int .u64 a] w fun e w' => e = .returned (.int .u64 (plI a)) ∧ w = w' := by
  by_cases h : 9223372036854775808 ≤ a
  · have m1 : bits .and .u64 a 9223372036854775808 = 9223372036854775808 := by rw [and_sign a h0 h1, if_pos h]
    have m2 := not_max a h0 h1
    have m3 : plI a = 18446744073709551615 - a := by unfold plI; rw [if_pos h]
    have m4 := Lib.hid m3
    clear m3
    go_enter Try.func21, Try.ntmps21
    go_wp2
    go_ret
    exact ⟨ret_int m4.out.symm, rfl⟩
  · have m1 : bits .and .u64 a 9223372036854775808 = 0 := by rw [and_sign a h0 h1, if_neg h]
    have m2 := or_sign a h0 (by omega)
    have m3 : plI a = a + 9223372036854775808 := by unfold plI; rw [if_neg h]
    have m4 := Lib.hid m3
    clear m3 h
    go_enter Try.func21, Try.ntmps21
    go_wp2
    go_ret
    exact ⟨ret_int m4.out.symm, rfl⟩

theorem less_any (a b : Int) (w : World) (h0 : 0 ≤ a) (h1 : a < 18446744073709551616) (h2 : 0 ≤ b) (h3 : b < 18446744073709551616) :
    Calls Try.prog 16 #[.int .u64 a, .int .u64 b] w fun e w' => e = .returned (.bool (lessB a b)) ∧ w = w' := by
  have hp := plI_bd a h0 h1
  have hq := plI_bd b h2 h3
  obtain ⟨hp0, hp1⟩ := hp
  obtain ⟨hq0, hq1⟩ := hq
  have hl : lessB a b = decide (plI a < plI b) := rfl
  rcases ord_cases a b h0 h1 h2 h3 with ⟨_, ho⟩ | ⟨_, _, ho, hy, _⟩ | ⟨_, _, ho, hy, _⟩ | ⟨_, _, ho, _⟩
  · have L := Lib.hid hl
    clear hl
    go_enter Try.func16, Try.ntmps16
    go_wp2_with (first | (go_at_call 19; refine (of_any _ _).mono ?_; rintro e w' ⟨rfl, rfl⟩) | (go_at_call 21; refine (place_any _ _ (by omega) (by omega)).mono ?_; rintro e w' ⟨rfl, rfl⟩))
    go_ret
    exact ⟨ret_bool L.out.symm, rfl⟩
  · have L := Lib.hid hy
    clear hl hy
    go_enter Try.func16, Try.ntmps16
    go_wp2_with (first | (go_at_call 19; refine (of_any _ _).mono ?_; rintro e w' ⟨rfl, rfl⟩) | (go_at_call 21; refine (place_any _ _ (by omega) (by omega)).mono ?_; rintro e w' ⟨rfl, rfl⟩))
    go_ret
    exact ⟨ret_bool L.out.symm, rfl⟩
  · have L := Lib.hid hy
    clear hl hy
    go_enter Try.func16, Try.ntmps16
    go_wp2_with (first | (go_at_call 19; refine (of_any _ _).mono ?_; rintro e w' ⟨rfl, rfl⟩) | (go_at_call 21; refine (place_any _ _ (by omega) (by omega)).mono ?_; rintro e w' ⟨rfl, rfl⟩))
    go_ret
    exact ⟨ret_bool L.out.symm, rfl⟩
  · have L := Lib.hid hl
    clear hl
    go_enter Try.func16, Try.ntmps16
    go_wp2_with (first | (go_at_call 19; refine (of_any _ _).mono ?_; rintro e w' ⟨rfl, rfl⟩) | (go_at_call 21; refine (place_any _ _ (by omega) (by omega)).mono ?_; rintro e w' ⟨rfl, rfl⟩))
    go_ret
    exact ⟨ret_bool L.out.symm, rfl⟩

theorem refLess_any (a b : Int) (w : World) (h0 : 0 ≤ a) (h1 : a < 18446744073709551616) (h2 : 0 ≤ b) (h3 : b < 18446744073709551616) :
    Calls Try.prog 17 #[.int .u64 a, .int .u64 b] w fun e w' => e = .returned (.bool (lessB a b)) ∧ w = w' := by
  have hl : lessB a b = decide (plI a < plI b) := rfl
  by_cases ha : 9223372036854775808 ≤ a <;> by_cases hb : 9223372036854775808 ≤ b
  · have L : Hid (decide (a > b) = lessB a b) := Lib.hid (by rw [hl, decide_eq_decide]; unfold plI; rw [if_pos ha, if_pos hb]; omega)
    have f1 : decide (a ≥ 9223372036854775808) = true := by simpa using ha
    have f2 : decide (b ≥ 9223372036854775808) = true := by simpa using hb
    clear hl
    go_enter Try.func17, Try.ntmps17
    go_wp2
    go_ret
    exact ⟨ret_bool L.out, rfl⟩
  · have L : Hid (lessB a b = true) := Lib.hid (by rw [hl, decide_eq_true_eq]; unfold plI; rw [if_pos ha, if_neg hb]; omega)
    have f1 : decide (a ≥ 9223372036854775808) = true := by simpa using ha
    have f2 : decide (b ≥ 9223372036854775808) = false := by simpa using hb
    clear hl hb
    go_enter Try.func17, Try.ntmps17
    go_wp2
    go_ret
    exact ⟨ret_bool L.out.symm, rfl⟩
  · have L : Hid (lessB a b = false) := Lib.hid (by rw [hl, decide_eq_false_iff_not]; unfold plI; rw [if_neg ha, if_pos hb]; omega)
    have f1 : decide (a ≥ 9223372036854775808) = false := by simpa using ha
    have f2 : decide (b ≥ 9223372036854775808) = true := by simpa using hb
    clear hl ha
    go_enter Try.func17, Try.ntmps17
    go_wp2
    go_ret
    exact ⟨ret_bool L.out.symm, rfl⟩
  · have L : Hid (decide (a < b) = lessB a b) := Lib.hid (by rw [hl, decide_eq_decide]; unfold plI; rw [if_neg ha, if_neg hb]; omega)
    have f1 : decide (a ≥ 9223372036854775808) = false := by simpa using ha
    have f2 : decide (b ≥ 9223372036854775808) = false := by simpa using hb
    clear hl ha hb
    go_enter Try.func17, Try.ntmps17
    go_wp2
    go_ret
    exact ⟨ret_bool L.out, rfl⟩

theorem kind_any (a : Int) (w : World) (h0 : 0 ≤ a) (h1 : a < 18446744073709551616) :
    Calls Try.prog 14 #[.int .u64 a] w fun e w' => e = .returned (.int .i64 (kindI a)) ∧ w = w' := by
  have m1 := mask52 a h0 h1
  have m2 := mask11 (a / 4503599627370496) (by omega) (by omega)
  go_enter Try.func14, Try.ntmps14
  go_wp2
  all_goals
    go_ret
    refine ⟨ret_int ?_, rfl⟩
    unfold kindI
    simp only [beq_iff_eq, beq_eq_false_iff_ne] at *
    repeat' split
    all_goals first | rfl | omega

theorem refKind_any (a : Int) (w : World) (h0 : 0 ≤ a) (h1 : a < 18446744073709551616) :
    Calls Try.prog 15 #[.int .u64 a] w fun e w' => e = .returned (.int .i64 (kindI a)) ∧ w = w' := by
  go_enter Try.func15, Try.ntmps15
  go_wp2
  all_goals
    go_ret
    exact ⟨ret_int (by unfold kindI; repeat' split
                       all_goals first | rfl | omega), rfl⟩

end Go.Proofs.Ytalhliickoflaaa
