/-
  The contracts of the document's own answer for layer 8 (words).
-/
import Derived.Test.YtpliipmbgblbaaaWrdCalls
namespace Go.Proofs.Ytpliipmbgblbaaa
open Go.ChangeShapes Go.WideShapes Go.ChangeAt Go.RowKit
set_option linter.unusedVariables false
/-- Is a number a reference? -/
def isRef (u : Int) : Prop := 0 ≤ u ∧ u < 1048576
theorem refIs_yes (u : Int) (w : World) (h : isRef u) :
    Calls Try.prog 9 #[.int .i64 u] w fun e w' => e = .returned (.bool true) ∧ w = w' := by
  obtain ⟨h0, h1⟩ := h
  have e0 : decide (u ≥ 0) = true := by simpa using h0
  have e1 : decide (u < 1048576) = true := by simpa using h1
  go_enter Try.func9, Try.ntmps9
  go_wp2
  go_ret
  exact ⟨rfl, rfl⟩
theorem refIs_no (u : Int) (w : World) (h : ¬ isRef u) :
    Calls Try.prog 9 #[.int .i64 u] w fun e w' => e = .returned (.bool false) ∧ w = w' := by
  unfold isRef at h
  by_cases h0 : u < 0
  · clear h
    go_enter Try.func9, Try.ntmps9
    go_wp2
    go_ret
    exact ⟨rfl, rfl⟩
  · have h2 : 0 ≤ u := by omega
    have h1 : 1048576 ≤ u := by omega
    have e1 : decide (u < 1048576) = false := by simpa using h1
    clear h h0
    go_enter Try.func9, Try.ntmps9
    go_wp2
    go_ret
    exact ⟨rfl, rfl⟩
theorem refLink_any (r : Nat) (m : Bool) (h : r < 1048576) (w : World) :
    Calls Try.prog 13 #[.int .i64 (r : Int), .bool m] w fun e w' => e = .returned (.int .u64 (linkN r m : Nat)) ∧ w = w' := by
  cases m
  all_goals
    go_enter Try.func13, Try.ntmps13
    go_wp2_with fail
    go_ret
    exact ⟨ret_u64 (by simp [linkN]), rfl⟩
theorem refRef_any (x : Nat) (h : x < 18446744073709551616) (w : World) :
    Calls Try.prog 15 #[.int .u64 (x : Int)] w fun e w' => e = .returned (.int .i64 (refN x : Nat)) ∧ w = w' := by
  go_enter Try.func15, Try.ntmps15
  go_wp2_with fail
  go_ret
  exact ⟨ret_i64 (by unfold refN; omega), rfl⟩
theorem refMark_any (x : Nat) (h : x < 18446744073709551616) (w : World) :
    Calls Try.prog 17 #[.int .u64 (x : Int)] w fun e w' => e = .returned (.bool (markB x)) ∧ w = w' := by
  have L : Hid (((x : Int) % 2 == 1) = markB x) := Lib.hid (by unfold markB; rw [Bool.eq_iff_iff]; simp; omega)
  go_enter Try.func17, Try.ntmps17
  go_wp2_with fail
  go_ret
  exact ⟨ret_boolw L.out, rfl⟩
theorem refFlag_any (s : Nat) (b : Int) (w : World) :
    Calls Try.prog 19 #[.int .u64 (s : Int), .int .i64 b] w fun e w' => e = .returned (.int .u64 (flagN s b : Nat)) ∧ w = w' := by
  have hb := bitsN_lt b
  have hm : (IntKind.u64.wrap b).tmod 4 = (bitsN b : Int) := by
    have h0 : 0 ≤ IntKind.u64.wrap b := by rw [IntKind.wrap_u64]; omega
    rw [Int.tmod_eq_emod_of_nonneg h0, IntKind.wrap_u64]; unfold bitsN; omega
  have hm2 : IntKind.u64.wrap b % 4 = (bitsN b : Int) := by
    rw [IntKind.wrap_u64]; unfold bitsN; omega
  have L : Hid ((s : Int) % 4611686018427387904 * 4 + (bitsN b : Int) = ((flagN s b : Nat) : Int)) := Lib.hid (by unfold flagN; omega)
  go_enter Try.func19, Try.ntmps19
  go_wp2_with fail
  go_ret
  exact ⟨ret_u64 L.out, rfl⟩
theorem refStamp_any (x : Nat) (h : x < 18446744073709551616) (w : World) :
    Calls Try.prog 21 #[.int .u64 (x : Int)] w fun e w' => e = .returned (.int .u64 (stampN x : Nat)) ∧ w = w' := by
  go_enter Try.func21, Try.ntmps21
  go_wp2_with fail
  go_ret
  exact ⟨ret_u64 (by unfold stampN; omega), rfl⟩
theorem refTop_any (r t : Nat) (h : r < 1048576) (w : World) :
    Calls Try.prog 25 #[.int .i64 (r : Int), .int .u64 (t : Int)] w fun e w' => e = .returned (.int .u64 (topN r t : Nat)) ∧ w = w' := by
  go_enter Try.func25, Try.ntmps25
  go_wp2_with fail
  go_ret
  exact ⟨ret_u64 (by unfold topN; omega), rfl⟩
theorem refFirst_any (x : Nat) (h : x < 18446744073709551616) (w : World) :
    Calls Try.prog 27 #[.int .u64 (x : Int)] w fun e w' => e = .returned (.int .i64 (firstN x : Nat)) ∧ w = w' := by
  go_enter Try.func27, Try.ntmps27
  go_wp2_with fail
  go_ret
  exact ⟨ret_i64 (by unfold firstN; omega), rfl⟩
theorem refTag_any (x : Nat) (h : x < 18446744073709551616) (w : World) :
    Calls Try.prog 29 #[.int .u64 (x : Int)] w fun e w' => e = .returned (.int .u64 (tagN x : Nat)) ∧ w = w' := by
  go_enter Try.func29, Try.ntmps29
  go_wp2_with fail
  go_ret
  exact ⟨ret_u64 (by unfold tagN; omega), rfl⟩
theorem refEnds_any (u v : Nat) (h : u < 1048576) (h' : v < 1048576) (w : World) :
    Calls Try.prog 31 #[.int .i64 (u : Int), .int .i64 (v : Int)] w fun e w' => e = .returned (.int .u64 (endsN u v : Nat)) ∧ w = w' := by
  go_enter Try.func31, Try.ntmps31
  go_wp2_with fail
  go_ret
  exact ⟨ret_u64 (by unfold endsN; omega), rfl⟩
theorem refPair_any (x : Nat) (h : x < 18446744073709551616) (w : World) :
    Calls Try.prog 11 #[.int .u64 (x : Int)] w fun e w' => e = .returned (.tuple #[.int .i64 (firstN x : Nat), .int .i64 (secondN x : Nat)]) ∧ w = w' := by
  go_enter Try.func11, Try.ntmps11
  go_wp2_with fail
  go_ret2
  exact ⟨rfl, rfl⟩
theorem refHas_at (x : Nat) (h : x < 18446744073709551616) (b y : Int) (p q r t : Bool) (y0 : 0 ≤ y) (y1 : y < 4) (hm : (IntKind.u64.wrap b).tmod 4 = y) (hm2 : IntKind.u64.wrap b % 4 = y) (hp : (y % 2 == 0) = p) (hq : ((x : Int) % 2 == 1) = q) (hr : decide (y < 2) = r) (ht : ((x : Int) / 2 % 2 == 1) = t) (w : World) :
    Calls Try.prog 23 #[.int .u64 (x : Int), .int .i64 b] w fun e w' => e = .returned (.bool ((p || q) && (r || t))) ∧ w = w' := by
  cases p <;> cases q <;> cases r <;> cases t
  all_goals
    go_enter Try.func23, Try.ntmps23
    go_wp2_with fail
    go_ret
    exact ⟨rfl, rfl⟩
theorem refHas_any (x : Nat) (b : Int) (h : x < 18446744073709551616) (w : World) :
    Calls Try.prog 23 #[.int .u64 (x : Int), .int .i64 b] w fun e w' => e = .returned (.bool (hasB x b)) ∧ w = w' := by
  have e : hasB x b = (((((bitsN b : Nat) : Int) % 2 == 0) || ((x : Int) % 2 == 1)) && (decide (((bitsN b : Nat) : Int) < 2) || ((x : Int) / 2 % 2 == 1))) := by
    unfold hasB
    rw [Bool.eq_iff_iff]
    simp only [Bool.and_eq_true, Bool.or_eq_true, beq_iff_eq, decide_eq_true_iff]
    omega
  rw [e]
  have hb := bitsN_lt b
  have hm2 : IntKind.u64.wrap b % 4 = (bitsN b : Int) := by
    rw [IntKind.wrap_u64]; unfold bitsN; omega
  have hm : (IntKind.u64.wrap b).tmod 4 = (bitsN b : Int) := by
    have h0 : 0 ≤ IntKind.u64.wrap b := by rw [IntKind.wrap_u64]; omega
    rw [Int.tmod_eq_emod_of_nonneg h0, hm2]
  exact refHas_at x h b _ _ _ _ _ (by omega) (by omega) hm hm2 rfl rfl rfl rfl w
end Go.Proofs.Ytpliipmbgblbaaa
