/- A string as an argument. -/
import Derived.Test.YtjglgohchhdkkaaDoorLift
import Derived.Test.YtjglgohchhdkkaaDoorStr7
set_option linter.unusedSimpArgs false
set_option linter.unusedVariables false
namespace Go.Proofs.YtjglgohchhdkkaaDoor
open Go Go.ChangeShapes Go.WideShapes Go.ChangeAt Go.RowKit
end Go.Proofs.YtjglgohchhdkkaaDoor
