/- The statements' own comparison of items. -/
import Derived.Test.YtkajeepbelfpiaaGreatDoorNextN6
set_option linter.unusedSimpArgs false
set_option maxRecDepth 100000
set_option linter.unusedVariables false
namespace Go.Proofs.YtkajeepbelfpiaaGreatDoor
open Go Go.RowKit

end Go.Proofs.YtkajeepbelfpiaaGreatDoor
