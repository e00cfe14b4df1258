/-
  The contract of save.Make, whoever makes its accesses.
-/
import Derived.Test.YtkfodhkeajmbhaaGreatDoorSavCalls
namespace Go.Proofs.YtkfodhkeajmbhaaGreatDoor
open Go.ChangeShapes Go.WideShapes Go.ChangeAt Go.RowKit Go.BigFrame
set_option linter.unusedVariables false
set_option maxRecDepth 100000

section
variable {dv : Value} {S : Type} (V : SrvD dv S)

/-! ### Make -/
end
end Go.Proofs.YtkfodhkeajmbhaaGreatDoor
