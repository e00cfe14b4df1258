/- SavMake -/
import Derived.Test.YtibpfkcackdbgaaGreatDoorSavCalls
namespace Go.Proofs.YtibpfkcackdbgaaGreatDoor
open Go.ChangeShapes Go.WideShapes Go.ChangeAt Go.RowKit Go.BigFrame
set_option linter.unusedVariables false
set_option maxRecDepth 100000
section
variable {dv : Value} {S : Type} (V : SrvD dv S)
end
end Go.Proofs.YtibpfkcackdbgaaGreatDoor
