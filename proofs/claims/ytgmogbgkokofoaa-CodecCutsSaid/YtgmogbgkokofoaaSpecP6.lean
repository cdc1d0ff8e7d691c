/- The landed program keeps the premises of layer 6's walks. -/
import Derived.Test.YtgmogbgkokofoaaRdGP6
import Derived.Test.YtgmogbgkokofoaaWrbP6
set_option linter.unusedSimpArgs false
set_option linter.unusedVariables false
namespace Go.Proofs.Ytgmogbgkokofoaa
open Go Go.RowKit

theorem rdP : RdSpec RdP ThrP where
  lie := rdP_lie
  stay := rdP_stay
  left := rdP_left
  fail := rdP_fail
  number := rdP_number
  count := rdP_count
  bytes := rdP_bytes
  text := rdP_text
  truth := rdP_truth
  digest := rdP_digest
  read := read_any
theorem wrP : WrSpec WrP where
  lie := wrP_lie
  stay := wrP_stay
  zero := wrP_zero
  number := fun N w a g l n h hl hn => wrP_number N w a g l n h (by omega) hn
  neg := wrP_neg
  bytes := wrP_bytes
  text := wrP_text
  truth := wrP_truth
  digest := wrP_digest
  done := wrP_done
end Go.Proofs.Ytgmogbgkokofoaa
