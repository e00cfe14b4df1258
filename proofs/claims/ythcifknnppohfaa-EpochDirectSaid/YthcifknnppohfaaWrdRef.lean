/-
  The contracts of the document's own answer for layer 8 (words).
-/
import Derived.Test.YthcifknnppohfaaWrdCalls
namespace Go.Proofs.Ythcifknnppohfaa
open Go.ChangeShapes Go.WideShapes Go.ChangeAt Go.RowKit
set_option linter.unusedVariables false
set_option maxRecDepth 100000
/-- Is a number a reference? -/
def isRef (u : Int) : Prop := 0 ≤ u ∧ u < 1048576
theorem refTop_any (r t : Nat) (h : r < 1048576) (w : World) :
    Calls Try.prog 87 #[.int .i64 (r : Int), .int .u64 (t : Int)] w fun e w' => e = .returned (.int .u64 (topN r t : Nat)) ∧ w = w' := by
  go_enter Try.func87, Try.ntmps87
  go_wp2_with fail
  go_ret
  exact ⟨ret_u64 (by unfold topN; omega), rfl⟩
theorem refFirst_any (x : Nat) (h : x < 18446744073709551616) (w : World) :
    Calls Try.prog 42 #[.int .u64 (x : Int)] w fun e w' => e = .returned (.int .i64 (firstN x : Nat)) ∧ w = w' := by
  go_enter Try.func42, Try.ntmps42
  go_wp2_with fail
  go_ret
  exact ⟨ret_i64 (by unfold firstN; omega), rfl⟩
theorem refTag_any (x : Nat) (h : x < 18446744073709551616) (w : World) :
    Calls Try.prog 88 #[.int .u64 (x : Int)] w fun e w' => e = .returned (.int .u64 (tagN x : Nat)) ∧ w = w' := by
  go_enter Try.func88, Try.ntmps88
  go_wp2_with fail
  go_ret
  exact ⟨ret_u64 (by unfold tagN; omega), rfl⟩
end Go.Proofs.Ythcifknnppohfaa
