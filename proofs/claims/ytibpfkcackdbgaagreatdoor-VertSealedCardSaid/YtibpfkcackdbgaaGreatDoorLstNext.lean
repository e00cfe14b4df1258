/- LstNext -/
import Derived.Test.YtibpfkcackdbgaaGreatDoorLstA
import Derived.Test.YtibpfkcackdbgaaGreatDoorSavA
namespace Go.Proofs.YtibpfkcackdbgaaGreatDoor
open Go.ChangeShapes Go.WideShapes Go.ChangeAt Go.RowKit Go.BigFrame
set_option linter.unusedVariables false
set_option maxRecDepth 100000
def TapeEndD (g : Nat) (w0 wb w : World) (ret : Nat → Value) : RanD (List Res) → Ending → World → Prop
 | .done r s, e, w' => e = .returned (ret r) ∧ TapeI g w0 wb s w' ∧ But g w w'
 | .left k i a b d, e, w' => LeftPost wb g (accD k i a b d) true e w'
 | .bad, _, _ => True
end Go.Proofs.YtibpfkcackdbgaaGreatDoor
