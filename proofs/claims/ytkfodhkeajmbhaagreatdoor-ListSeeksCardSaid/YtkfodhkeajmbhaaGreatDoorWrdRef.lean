/-
  The contracts of the document's own answer for layer 8 (words).
-/
import Derived.Test.YtkfodhkeajmbhaaGreatDoorWrdCalls
namespace Go.Proofs.YtkfodhkeajmbhaaGreatDoor
open Go.ChangeShapes Go.WideShapes Go.ChangeAt Go.RowKit
set_option linter.unusedVariables false
set_option maxRecDepth 100000

/-- Is a number a reference? -/
def isRef (u : Int) : Prop := 0 ≤ u ∧ u < 1048576
theorem refLink_any (r : Nat) (m : Bool) (h : r < 1048576) (w : World) :
    Calls Tryz.prog 65 #[.int .i64 (r : Int), .bool m] w fun e w' => e = .returned (.int .u64 (linkN r m : Nat)) ∧ w = w' := by
  cases m
  all_goals
    go_enter Tryz.func65, Tryz.ntmps65
    go_wp2_with fail
    go_ret
    exact ⟨ret_u64 (by simp [linkN]), rfl⟩
theorem refRef_any (x : Nat) (h : x < 18446744073709551616) (w : World) :
    Calls Tryz.prog 41 #[.int .u64 (x : Int)] w fun e w' => e = .returned (.int .i64 (refN x : Nat)) ∧ w = w' := by
  go_enter Tryz.func41, Tryz.ntmps41
  go_wp2_with fail
  go_ret
  exact ⟨ret_i64 (by unfold refN; omega), rfl⟩
theorem refMark_any (x : Nat) (h : x < 18446744073709551616) (w : World) :
    Calls Tryz.prog 62 #[.int .u64 (x : Int)] w fun e w' => e = .returned (.bool (markB x)) ∧ w = w' := by
  have L : Hid (((x : Int) % 2 == 1) = markB x) := Lib.hid (by unfold markB; rw [Bool.eq_iff_iff]; simp; omega)
  go_enter Tryz.func62, Tryz.ntmps62
  go_wp2_with fail
  go_ret
  exact ⟨ret_boolw L.out, rfl⟩
theorem refStamp_any (x : Nat) (h : x < 18446744073709551616) (w : World) :
    Calls Tryz.prog 121 #[.int .u64 (x : Int)] w fun e w' => e = .returned (.int .u64 (stampN x : Nat)) ∧ w = w' := by
  go_enter Tryz.func121, Tryz.ntmps121
  go_wp2_with fail
  go_ret
  exact ⟨ret_u64 (by unfold stampN; omega), rfl⟩
theorem refHas_at (x : Nat) (h : x < 18446744073709551616) (b y : Int) (p q r t : Bool) (y0 : 0 ≤ y) (y1 : y < 4) (hm : (IntKind.u64.wrap b).tmod 4 = y) (hm2 : IntKind.u64.wrap b % 4 = y) (hp : (y % 2 == 0) = p) (hq : ((x : Int) % 2 == 1) = q) (hr : decide (y < 2) = r) (ht : ((x : Int) / 2 % 2 == 1) = t) (w : World) :
    Calls Tryz.prog 21 #[.int .u64 (x : Int), .int .i64 b] w fun e w' => e = .returned (.bool ((p || q) && (r || t))) ∧ w = w' := by
  cases p <;> cases q <;> cases r <;> cases t
  all_goals
    go_enter Tryz.func21, Tryz.ntmps21
    go_wp2_with fail
    go_ret
    exact ⟨rfl, rfl⟩
theorem refHas_any (x : Nat) (b : Int) (h : x < 18446744073709551616) (w : World) :
    Calls Tryz.prog 21 #[.int .u64 (x : Int), .int .i64 b] w fun e w' => e = .returned (.bool (hasF x b)) ∧ w = w' := by
  have e : hasF x b = (((((bitsN b : Nat) : Int) % 2 == 0) || ((x : Int) % 2 == 1)) && (decide (((bitsN b : Nat) : Int) < 2) || ((x : Int) / 2 % 2 == 1))) := by
    unfold hasF
    rw [Bool.eq_iff_iff]
    simp only [Bool.and_eq_true, Bool.or_eq_true, beq_iff_eq, decide_eq_true_iff]
    omega
  rw [e]
  have hb := bitsN_lt b
  have hm2 : IntKind.u64.wrap b % 4 = (bitsN b : Int) := by
    rw [IntKind.wrap_u64]; unfold bitsN; omega
  have hm : (IntKind.u64.wrap b).tmod 4 = (bitsN b : Int) := by
    have h0 : 0 ≤ IntKind.u64.wrap b := by rw [IntKind.wrap_u64]; omega
    rw [Int.tmod_eq_emod_of_nonneg h0, hm2]
  exact refHas_at x h b _ _ _ _ _ (by omega) (by omega) hm hm2 rfl rfl rfl rfl w
end Go.Proofs.YtkfodhkeajmbhaaGreatDoor
