/-
  The contracts of play.Line's program, and of play.Line: what a row of accesses asks next, or answers.
-/
import Derived.Test.YtdbomlclkhkinaaDoorPlyLine
namespace Go.Proofs.YtdbomlclkhkinaaDoor
open Go.ChangeShapes Go.WideShapes Go.ChangeAt Go.RowKit Go.BigFrame
set_option linter.unusedVariables false
set_option maxRecDepth 100000

theorem field_n (a b c : Value) (W : World) : (Instr.field 60 (.agg #[a, b, c]) 0).run Tryd.prog W = .ok a W := by kernel_rfl
/-- The sum of the first numbers that a log tells. -/
def sumR (log : List Res) : Nat → Nat
  | 0 => 0
  | k + 1 => (sumR log k + (log.getD k Res.zero).n) % 18446744073709551616
theorem sumR_lt (log : List Res) (k : Nat) : sumR log k < 18446744073709551616 := by
  cases k with
  | zero => show (0 : Nat) < 18446744073709551616; decide
  | succ k => exact Nat.mod_lt _ (by decide)
/-- Behind j rounds: the log's rest lies in the tape; the sum in the variable. -/
structure RunL (w0 w : World) (g n j : Nat) (log : List Res) (N : Int) (x : World) : Prop where
  below : Below w0.heap.size w0 x
  but : But g w x
  tape : ∃ A cap, VarAt x g (tapeV A (n - j) cap true false (.int .i64 0) (.int .i64 0) (.int .u64 0) (.int .u64 0) (.slice none 0 0) (.slice none 0 0)) ∧ LogAt w0 A (n - j) (log.drop j) ∧ n - j ≤ cap
  out : VarAt x (w.heap.size + 1) [.int .i64 0, .bool false, .int .i64 N, .int .u64 (sumR log j : Int), .slice none 0 0]
  res : VarAt x w.heap.size [.int .i64 0, .bool false, .int .i64 0, .int .u64 0, .slice none 0 0]

end Go.Proofs.YtdbomlclkhkinaaDoor
