/- WrdRef -/
import Derived.Test.YtibpfkcackdbgaaGreatDoorWrdCalls
namespace Go.Proofs.YtibpfkcackdbgaaGreatDoor
open Go.ChangeShapes Go.WideShapes Go.ChangeAt Go.RowKit
set_option linter.unusedVariables false
set_option maxRecDepth 100000
theorem refLink_any (r : Nat) (m : Bool) (h : r < 1048576) (w : World) :
  Calls Tryz.prog 163 #[.int .i64 (r : Int), .bool m] w fun e w' => e = .returned (.int .u64 (linkN r m : Nat)) ∧ w = w' := by
 cases m
 all_goals
  go_enter Tryz.func163, Tryz.ntmps163
  go_wp2_with fail
  go_ret
  exact ⟨ret_u64 (by simp [linkN]), rfl⟩
theorem refRef_any (x : Nat) (h : x < 18446744073709551616) (w : World) :
  Calls Tryz.prog 44 #[.int .u64 (x : Int)] w fun e w' => e = .returned (.int .i64 (refN x : Nat)) ∧ w = w' := by
 go_enter Tryz.func44, Tryz.ntmps44
 go_wp2_with fail
 go_ret
 exact ⟨ret_i64 (by unfold refN; omega), rfl⟩
theorem refMark_any (x : Nat) (h : x < 18446744073709551616) (w : World) :
  Calls Tryz.prog 118 #[.int .u64 (x : Int)] w fun e w' => e = .returned (.bool (markB x)) ∧ w = w' := by
 have L : Hid (((x : Int) % 2 == 1) = markB x) := Lib.hid (by unfold markB; rw [Bool.eq_iff_iff]; simp; omega)
 go_enter Tryz.func118, Tryz.ntmps118
 go_wp2_with fail
 go_ret
 exact ⟨ret_boolw L.out, rfl⟩
theorem refFlag_any (s : Nat) (b : Int) (w : World) :
  Calls Tryz.prog 158 #[.int .u64 (s : Int), .int .i64 b] w fun e w' => e = .returned (.int .u64 (flagN s b : Nat)) ∧ w = w' := by
 have hb := bitsN_lt b
 have hm : (IntKind.u64.wrap b).tmod 4 = (bitsN b : Int) := by
  have h0 : 0 ≤ IntKind.u64.wrap b := by rw [IntKind.wrap_u64]; omega
  rw [Int.tmod_eq_emod_of_nonneg h0, IntKind.wrap_u64]; unfold bitsN; omega
 have hm2 : IntKind.u64.wrap b % 4 = (bitsN b : Int) := by
  rw [IntKind.wrap_u64]; unfold bitsN; omega
 have L : Hid ((s : Int) % 4611686018427387904 * 4 + (bitsN b : Int) = ((flagN s b : Nat) : Int)) := Lib.hid (by unfold flagN; omega)
 go_enter Tryz.func158, Tryz.ntmps158
 go_wp2_with fail
 go_ret
 exact ⟨ret_u64 L.out, rfl⟩
theorem refStamp_any (x : Nat) (h : x < 18446744073709551616) (w : World) :
  Calls Tryz.prog 115 #[.int .u64 (x : Int)] w fun e w' => e = .returned (.int .u64 (stampN x : Nat)) ∧ w = w' := by
 go_enter Tryz.func115, Tryz.ntmps115
 go_wp2_with fail
 go_ret
 exact ⟨ret_u64 (by unfold stampN; omega), rfl⟩
theorem refTop_any (r t : Nat) (h : r < 1048576) (w : World) :
  Calls Tryz.prog 161 #[.int .i64 (r : Int), .int .u64 (t : Int)] w fun e w' => e = .returned (.int .u64 (topN r t : Nat)) ∧ w = w' := by
 go_enter Tryz.func161, Tryz.ntmps161
 go_wp2_with fail
 go_ret
 exact ⟨ret_u64 (by unfold topN; omega), rfl⟩
theorem refFirst_any (x : Nat) (h : x < 18446744073709551616) (w : World) :
  Calls Tryz.prog 159 #[.int .u64 (x : Int)] w fun e w' => e = .returned (.int .i64 (firstN x : Nat)) ∧ w = w' := by
 go_enter Tryz.func159, Tryz.ntmps159
 go_wp2_with fail
 go_ret
 exact ⟨ret_i64 (by unfold firstN; omega), rfl⟩
theorem refTag_any (x : Nat) (h : x < 18446744073709551616) (w : World) :
  Calls Tryz.prog 162 #[.int .u64 (x : Int)] w fun e w' => e = .returned (.int .u64 (tagN x : Nat)) ∧ w = w' := by
 go_enter Tryz.func162, Tryz.ntmps162
 go_wp2_with fail
 go_ret
 exact ⟨ret_u64 (by unfold tagN; omega), rfl⟩
theorem refHas_at (x : Nat) (h : x < 18446744073709551616) (b y : Int) (p q r t : Bool) (y0 : 0 ≤ y) (y1 : y < 4) (hm : (IntKind.u64.wrap b).tmod 4 = y) (hm2 : IntKind.u64.wrap b % 4 = y) (hp : (y % 2 == 0) = p) (hq : ((x : Int) % 2 == 1) = q) (hr : decide (y < 2) = r) (ht : ((x : Int) / 2 % 2 == 1) = t) (w : World) :
  Calls Tryz.prog 19 #[.int .u64 (x : Int), .int .i64 b] w fun e w' => e = .returned (.bool ((p || q) && (r || t))) ∧ w = w' := by
 cases p <;> cases q <;> cases r <;> cases t
 all_goals
  go_enter Tryz.func19, Tryz.ntmps19
  go_wp2_with fail
  go_ret
  exact ⟨rfl, rfl⟩
theorem refHas_any (x : Nat) (b : Int) (h : x < 18446744073709551616) (w : World) :
  Calls Tryz.prog 19 #[.int .u64 (x : Int), .int .i64 b] w fun e w' => e = .returned (.bool (hasF x b)) ∧ w = w' := by
 have e : hasF x b = (((((bitsN b : Nat) : Int) % 2 == 0) || ((x : Int) % 2 == 1)) && (decide (((bitsN b : Nat) : Int) < 2) || ((x : Int) / 2 % 2 == 1))) := by
  unfold hasF
  rw [Bool.eq_iff_iff]
  simp only [Bool.and_eq_true, Bool.or_eq_true, beq_iff_eq, decide_eq_true_iff]
  omega
 rw [e]
 have hb := bitsN_lt b
 have hm2 : IntKind.u64.wrap b % 4 = (bitsN b : Int) := by
  rw [IntKind.wrap_u64]; unfold bitsN; omega
 have hm : (IntKind.u64.wrap b).tmod 4 = (bitsN b : Int) := by
  have h0 : 0 ≤ IntKind.u64.wrap b := by rw [IntKind.wrap_u64]; omega
  rw [Int.tmod_eq_emod_of_nonneg h0, hm2]
 exact refHas_at x h b _ _ _ _ _ (by omega) (by omega) hm hm2 rfl rfl rfl rfl w
end Go.Proofs.YtibpfkcackdbgaaGreatDoor
