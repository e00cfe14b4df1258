/-
  The contracts of access.install and of the document's own 'with': a memory with other words, or with another one.
-/
import Derived.Test.YthcifknnppohfaaAccTurns
namespace Go.Proofs.Ythcifknnppohfaa
open Go.ChangeShapes Go.WideShapes Go.ChangeAt Go.RowKit
set_option linter.unusedVariables false
set_option maxRecDepth 100000

/-- A memory whose words read so; and where they may lie. -/
def MemW (w : World) (t c : Int) (A : Option Addr) (n : Nat) (G : Nat → Nat) (e : Ending) (w' : World) : Prop :=
  ∃ A' k', e = .returned (.agg #[.int .i64 t, .int .i64 c, .slice A' n k']) ∧ AtW w' A' n G ∧ Below w.heap.size w w' ∧ ∀ P : Nat → Prop, (∀ b, w.heap.size ≤ b → P b) → OffW P A n → OffW P A' n
/-- A row with another word. -/
def setW (F : Nat → Nat) (i v : Nat) : Nat → Nat := fun j => if j = i then v else F j
theorem setW_lt {F : Nat → Nat} (hF : ∀ j, F j < 18446744073709551616) {i v : Nat} (hv : v < 18446744073709551616) (j : Nat) : setW F i v j < 18446744073709551616 := by
  unfold setW
  split
  · exact hv
  · exact hF j
end Go.Proofs.Ythcifknnppohfaa
