/-
  The contracts of the functions of package key (layer 1) that entries call, and of the document's own answer.
-/
import Derived.Test.YtioheffdolnciaaBytes
import Derived.Test.YtioheffdolnciaaEnt
import Derived.Laws.StructEq
namespace Go.Proofs.Ytioheffdolnciaa
open Go.ChangeShapes Go.WideShapes Go.ChangeAt Go.RowKit
set_option linter.unusedVariables false

theorem ret_bool {a b : Bool} (h : a = b) : Ending.returned (.bool a) = .returned (.bool b) := by rw [h]
theorem mask31 (k : Int) (h0 : 0 ≤ k) (h1 : k < 18446744073709551616) : bits .and .u64 k 2147483647 = k % 2147483648 := by
  rw [u64_and k 2147483647 h0 h1 (by omega) (by omega)]
  have h := Nat.and_two_pow_sub_one_eq_mod k.toNat 31
  have e : (2147483647 : Int).toNat = 2 ^ 31 - 1 := by decide
  rw [e, h]
  omega
theorem halves_any (y : Nat) (hy : y < 18446744073709551616) (w : World) :
    Calls Try.prog 26 #[.int .u64 (y : Int)] w fun e w' => e = .returned (.tuple #[.int .u64 ((y : Int) / 2147483648), .int .u64 ((y : Int) % 2147483648)]) ∧ w = w' := by
  have hm := mask31 (y : Int) (by omega) (by omega)
  go_enter Try.func26, Try.ntmps26
  go_wp2
  go_ret2
  exact ⟨rfl, rfl⟩
theorem keyRight_any (y : Nat) (hy : y < 18446744073709551616) (w : World) :
    Calls Try.prog 22 #[.int .u64 (y : Int)] w fun e w' => e = .returned (.bool (rightB y)) ∧ w = w' := by
  by_cases h1 : (y : Int) / 2147483648 < 1073741824
  · have d1 : decide ((y : Int) / 2147483648 < 1073741824) = true := decide_eq_true h1
    by_cases h2 : (y : Int) % 2147483648 ≤ 1073741824
    · have d2 : decide ((y : Int) % 2147483648 ≤ 1073741824) = true := decide_eq_true h2
      have L : Hid (rightB y = true) := Lib.hid (by first | (exact rightB_yes (by unfold rightP; omega)) | (exact rightB_no (by unfold rightP; omega)))
      clear h1 h2
      go_enter Try.func22, Try.ntmps22
      go_wp2_with (go_at_call 26; refine (halves_any y hy _).mono ?_; rintro e w' ⟨rfl, rfl⟩)
      go_ret
      exact ⟨ret_bool L.out.symm, rfl⟩
    · have d2 : decide ((y : Int) % 2147483648 ≤ 1073741824) = false := decide_eq_false h2
      have L : Hid (rightB y = false) := Lib.hid (by first | (exact rightB_yes (by unfold rightP; omega)) | (exact rightB_no (by unfold rightP; omega)))
      clear h1 h2
      go_enter Try.func22, Try.ntmps22
      go_wp2_with (go_at_call 26; refine (halves_any y hy _).mono ?_; rintro e w' ⟨rfl, rfl⟩)
      go_ret
      exact ⟨ret_bool L.out.symm, rfl⟩
  · have d1 : decide ((y : Int) / 2147483648 < 1073741824) = false := decide_eq_false h1
    have L : Hid (rightB y = false) := Lib.hid (by first | (exact rightB_yes (by unfold rightP; omega)) | (exact rightB_no (by unfold rightP; omega)))
    clear h1
    go_enter Try.func22, Try.ntmps22
    go_wp2_with (go_at_call 26; refine (halves_any y hy _).mono ?_; rintro e w' ⟨rfl, rfl⟩)
    go_ret
    exact ⟨ret_bool L.out.symm, rfl⟩
theorem keySplit_any (y : Nat) (hy : y < 18446744073709551616) (w : World) :
    Calls Try.prog 27 #[.int .u64 (y : Int)] w fun e w' => e = .returned (.tuple #[.int .i64 ((y : Int) / 2147483648), .int .i64 ((y : Int) % 2147483648 - 1)]) ∧ w = w' := by
  go_enter Try.func27, Try.ntmps27
  go_wp2_with (go_at_call 26; refine (halves_any y hy _).mono ?_; rintro e w' ⟨rfl, rfl⟩)
  go_ret2
  exact ⟨rfl, rfl⟩
theorem refRight_any (y : Nat) (hy : y < 18446744073709551616) (w : World) :
    Calls Try.prog 24 #[.int .u64 (y : Int)] w fun e w' => e = .returned (.bool (rightB y)) ∧ w = w' := by
  by_cases h1 : (y : Int) / 2147483648 ≤ 1073741823
  · have d1 : decide ((y : Int) / 2147483648 ≤ 1073741823) = true := decide_eq_true h1
    by_cases h2 : (y : Int) % 2147483648 ≤ 1073741824
    · have d2 : decide ((y : Int) % 2147483648 ≤ 1073741824) = true := decide_eq_true h2
      have L : Hid (rightB y = true) := Lib.hid (by first | (exact rightB_yes (by unfold rightP; omega)) | (exact rightB_no (by unfold rightP; omega)))
      clear h1 h2
      go_enter Try.func24, Try.ntmps24
      go_wp2_with fail
      go_ret
      exact ⟨ret_bool L.out.symm, rfl⟩
    · have d2 : decide ((y : Int) % 2147483648 ≤ 1073741824) = false := decide_eq_false h2
      have L : Hid (rightB y = false) := Lib.hid (by first | (exact rightB_yes (by unfold rightP; omega)) | (exact rightB_no (by unfold rightP; omega)))
      clear h1 h2
      go_enter Try.func24, Try.ntmps24
      go_wp2_with fail
      go_ret
      exact ⟨ret_bool L.out.symm, rfl⟩
  · have d1 : decide ((y : Int) / 2147483648 ≤ 1073741823) = false := decide_eq_false h1
    have L : Hid (rightB y = false) := Lib.hid (by first | (exact rightB_yes (by unfold rightP; omega)) | (exact rightB_no (by unfold rightP; omega)))
    clear h1
    go_enter Try.func24, Try.ntmps24
    go_wp2_with fail
    go_ret
    exact ⟨ret_bool L.out.symm, rfl⟩
theorem isStamp_int (z : Int) (b1 b2 : Bool) (w : World) (h1 : decide (z > 0) = b1) (h2 : decide (z < 4611686018427387904) = b2) :
    Calls Try.prog 21 #[.int .u64 z] w fun e w' => e = .returned (.bool (b1 && b2)) ∧ w = w' := by
  cases b1 <;> cases b2
  all_goals
    go_enter Try.func21, Try.ntmps21
    go_wp2_with fail
    go_ret
    exact ⟨rfl, rfl⟩
theorem isStamp_any (s : Nat) (w : World) :
    Calls Try.prog 21 #[.int .u64 (s : Int)] w fun e w' => e = .returned (.bool (stampB s)) ∧ w = w' := by
  have e : stampB s = (decide ((s : Int) > 0) && decide ((s : Int) < 4611686018427387904)) := by
    rw [← Bool.decide_and]
    exact decide_eq_decide.2 (by unfold stampP; omega)
  rw [e]
  exact isStamp_int _ _ _ w rfl rfl
theorem refStamp_any (s : Nat) (w : World) :
    Calls Try.prog 25 #[.int .u64 (s : Int)] w fun e w' => e = .returned (.bool (stampB s)) ∧ w = w' := by
  by_cases h1 : 1 ≤ s
  · have d1 : decide ((s : Int) ≥ 1) = true := by rw [decide_eq_true_iff]; omega
    by_cases h2 : s < 4611686018427387904
    · have d2 : decide ((s : Int) ≤ 4611686018427387903) = true := by rw [decide_eq_true_iff]; omega
      have L : Hid (stampB s = true) := Lib.hid (by first | (exact stampB_yes (by unfold stampP; omega)) | (exact stampB_no (by unfold stampP; omega)))
      clear h1 h2
      go_enter Try.func25, Try.ntmps25
      go_wp2_with fail
      go_ret
      exact ⟨ret_bool L.out.symm, rfl⟩
    · have d2 : decide ((s : Int) ≤ 4611686018427387903) = false := by rw [decide_eq_false_iff_not]; omega
      have L : Hid (stampB s = false) := Lib.hid (by first | (exact stampB_yes (by unfold stampP; omega)) | (exact stampB_no (by unfold stampP; omega)))
      clear h1 h2
      go_enter Try.func25, Try.ntmps25
      go_wp2_with fail
      go_ret
      exact ⟨ret_bool L.out.symm, rfl⟩
  · obtain rfl : s = 0 := by omega
    have L : Hid (stampB 0 = false) := Lib.hid (by decide)
    clear h1
    go_enter Try.func25, Try.ntmps25
    go_wp2_with fail
    go_ret
    exact ⟨ret_bool L.out.symm, rfl⟩
theorem fields_any (k : Int) (w : World) :
    Calls Try.prog 15 #[.int .i64 k] w fun e w' => e = .returned (.int .i64 ((fieldsI k : Nat) : Int)) ∧ w = w' := by
  by_cases h1 : k = 1
  · subst h1
    go_enter Try.func15, Try.ntmps15
    go_wp2_with fail
    go_ret
    exact ⟨rfl, rfl⟩
  · by_cases h2 : k = 2
    · subst h2
      go_enter Try.func15, Try.ntmps15
      go_wp2_with fail
      go_ret
      exact ⟨rfl, rfl⟩
    · by_cases h3 : k = 3
      · subst h3
        go_enter Try.func15, Try.ntmps15
        go_wp2_with fail
        go_ret
        exact ⟨rfl, rfl⟩
      · have L : Hid (fieldsI k = 0) := Lib.hid (by unfold fieldsI; rw [if_neg h1, if_neg (by omega)])
        have d1 : (k == 1) = false := by rw [beq_eq_false_iff_ne]; exact h1
        have d2 : (k == 2) = false := by rw [beq_eq_false_iff_ne]; exact h2
        have d3 : (k == 3) = false := by rw [beq_eq_false_iff_ne]; exact h3
        clear h1 h2 h3
        go_enter Try.func15, Try.ntmps15
        go_wp2_with fail
        go_ret
        exact ⟨by rw [L.out]; rfl, rfl⟩
end Go.Proofs.Ytioheffdolnciaa
