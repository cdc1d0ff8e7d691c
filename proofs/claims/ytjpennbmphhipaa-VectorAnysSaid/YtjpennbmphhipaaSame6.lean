/- The statements' own comparison of items. -/
import Derived.Test.YtjpennbmphhipaaNextN6
set_option linter.unusedSimpArgs false
set_option linter.unusedVariables false
namespace Go.Proofs.Ytjpennbmphhipaa
open Go Go.RowKit

end Go.Proofs.Ytjpennbmphhipaa
