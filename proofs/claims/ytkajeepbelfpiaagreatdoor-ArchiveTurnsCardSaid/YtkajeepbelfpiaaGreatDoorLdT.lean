/- A load of a whole array or struct, its operand reckoned first. -/
import Derived.Test.YtkajeepbelfpiaaGreatDoorBase
set_option linter.unusedSimpArgs false
set_option maxRecDepth 100000
set_option linter.unusedVariables false
namespace Go.Proofs.YtkajeepbelfpiaaGreatDoor
open Go Go.RowKit

/-- A load of a whole array, its operand reckoned first. -/
def ldT (t : TypeId) (p : Value) : Sem Next := do pure (.value (← Instr.loadAt t p))
end Go.Proofs.YtkajeepbelfpiaaGreatDoor
