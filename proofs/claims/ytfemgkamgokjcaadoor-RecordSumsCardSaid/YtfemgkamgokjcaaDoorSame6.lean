/- The statements' own comparison of items. -/
import Derived.Test.YtfemgkamgokjcaaDoorNextN6
set_option linter.unusedSimpArgs false
set_option maxRecDepth 100000
set_option linter.unusedVariables false
namespace Go.Proofs.YtfemgkamgokjcaaDoor
open Go Go.RowKit

end Go.Proofs.YtfemgkamgokjcaaDoor
