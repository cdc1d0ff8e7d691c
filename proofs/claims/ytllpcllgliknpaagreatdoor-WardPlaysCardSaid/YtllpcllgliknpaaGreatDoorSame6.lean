/- The statements' own comparison of items. -/
import Derived.Test.YtllpcllgliknpaaGreatDoorNextN6
set_option linter.unusedSimpArgs false
set_option maxRecDepth 100000
set_option linter.unusedVariables false
namespace Go.Proofs.YtllpcllgliknpaaGreatDoor
open Go Go.RowKit

end Go.Proofs.YtllpcllgliknpaaGreatDoor
