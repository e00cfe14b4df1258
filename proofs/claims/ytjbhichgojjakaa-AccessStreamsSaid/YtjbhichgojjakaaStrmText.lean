/-
  Texts of bytes: how long they are, joined, cut.
-/
import Derived.Test.YtjbhichgojjakaaOwns
namespace Go.Proofs.Ytjbhichgojjakaa
open Go.ChangeShapes Go.WideShapes Go.ChangeAt Go.RowKit
set_option linter.unusedVariables false
set_option maxRecDepth 100000

theorem strN_app (xs ys : List Nat) : strN (xs ++ ys) = strN xs ++ strN ys := by
  unfold strN
  apply ByteArray.ext
  simp [strOfNums, ByteArray.data_append]
theorem strN_size (xs : List Nat) : (strN xs).size = xs.length := by unfold strN; rw [strOfNums_size, List.length_map]
theorem strN_take (xs : List Nat) (j : Nat) (h : j ≤ xs.length) : (strN xs).extract 0 j = strN (xs.take j) := by
  unfold strN
  apply ByteArray.ext
  simp [strOfNums, ByteArray.data_extract]
end Go.Proofs.Ytjbhichgojjakaa
