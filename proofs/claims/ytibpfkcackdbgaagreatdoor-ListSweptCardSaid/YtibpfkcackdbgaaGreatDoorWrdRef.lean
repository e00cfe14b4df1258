/- WrdRef -/
import Derived.Test.YtibpfkcackdbgaaGreatDoorWrdCalls
namespace Go.Proofs.YtibpfkcackdbgaaGreatDoor
open Go.ChangeShapes Go.WideShapes Go.ChangeAt Go.RowKit
set_option linter.unusedVariables false
set_option maxRecDepth 100000
theorem refRef_any (x : Nat) (h : x < 18446744073709551616) (w : World) :
  Calls Tryz.prog 44 #[.int .u64 (x : Int)] w fun e w' => e = .returned (.int .i64 (refN x : Nat)) ∧ w = w' := by
 go_enter Tryz.func44, Tryz.ntmps44
 go_wp2_with fail
 go_ret
 exact ⟨ret_i64 (by unfold refN; omega), rfl⟩
theorem refHas_at (x : Nat) (h : x < 18446744073709551616) (b y : Int) (p q r t : Bool) (y0 : 0 ≤ y) (y1 : y < 4) (hm : (IntKind.u64.wrap b).tmod 4 = y) (hm2 : IntKind.u64.wrap b % 4 = y) (hp : (y % 2 == 0) = p) (hq : ((x : Int) % 2 == 1) = q) (hr : decide (y < 2) = r) (ht : ((x : Int) / 2 % 2 == 1) = t) (w : World) :
  Calls Tryz.prog 19 #[.int .u64 (x : Int), .int .i64 b] w fun e w' => e = .returned (.bool ((p || q) && (r || t))) ∧ w = w' := by
 cases p <;> cases q <;> cases r <;> cases t
 all_goals
  go_enter Tryz.func19, Tryz.ntmps19
  go_wp2_with fail
  go_ret
  exact ⟨rfl, rfl⟩
theorem refHas_any (x : Nat) (b : Int) (h : x < 18446744073709551616) (w : World) :
  Calls Tryz.prog 19 #[.int .u64 (x : Int), .int .i64 b] w fun e w' => e = .returned (.bool (hasF x b)) ∧ w = w' := by
 have e : hasF x b = (((((bitsN b : Nat) : Int) % 2 == 0) || ((x : Int) % 2 == 1)) && (decide (((bitsN b : Nat) : Int) < 2) || ((x : Int) / 2 % 2 == 1))) := by
  unfold hasF
  rw [Bool.eq_iff_iff]
  simp only [Bool.and_eq_true, Bool.or_eq_true, beq_iff_eq, decide_eq_true_iff]
  omega
 rw [e]
 have hb := bitsN_lt b
 have hm2 : IntKind.u64.wrap b % 4 = (bitsN b : Int) := by
  rw [IntKind.wrap_u64]; unfold bitsN; omega
 have hm : (IntKind.u64.wrap b).tmod 4 = (bitsN b : Int) := by
  have h0 : 0 ≤ IntKind.u64.wrap b := by rw [IntKind.wrap_u64]; omega
  rw [Int.tmod_eq_emod_of_nonneg h0, hm2]
 exact refHas_at x h b _ _ _ _ _ (by omega) (by omega) hm hm2 rfl rfl rfl rfl w
end Go.Proofs.YtibpfkcackdbgaaGreatDoor
