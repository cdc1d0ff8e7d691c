/- What holds of every disk of the reference's after so many calls. -/
import Derived.Test.YtjglgohchhdkkaaGreatDoorRefl8
import Derived.Test.YtjglgohchhdkkaaGreatDoorRefn8
set_option linter.unusedSimpArgs false
set_option linter.unusedVariables false
namespace Go.Proofs.YtjglgohchhdkkaaGreatDoor
open Go Go.RowKit

end Go.Proofs.YtjglgohchhdkkaaGreatDoor
