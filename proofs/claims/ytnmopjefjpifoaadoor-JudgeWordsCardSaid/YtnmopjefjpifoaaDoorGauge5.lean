/- What the program's measures are asked to do: the premises of layer 5's walks. -/
import Derived.Test.YtnmopjefjpifoaaDoorRefG
import Derived.Test.YtnmopjefjpifoaaDoorFltQ
import Derived.Test.YtnmopjefjpifoaaDoorBase
set_option linter.unusedSimpArgs false
set_option maxRecDepth 100000
set_option linter.unusedVariables false
namespace Go.Proofs.YtnmopjefjpifoaaDoor
open Go Go.RowKit

theorem fl_eql (t : TypeId) (a b : Nat) : binOp .eql t (.float .f64 a) (.float .f64 b) = pure (.bool (Ieee.double.order a b == some .eq)) := rfl
theorem fl_neq (t : TypeId) (a b : Nat) : binOp .neq t (.float .f64 a) (.float .f64 b) = pure (.bool (Ieee.double.order a b != some .eq)) := rfl
theorem fl_lss (t : TypeId) (a b : Nat) : binOp .lss t (.float .f64 a) (.float .f64 b) = pure (.bool (Ieee.double.order a b == some .lt)) := rfl
theorem fl_gtr (t : TypeId) (a b : Nat) : binOp .gtr t (.float .f64 a) (.float .f64 b) = pure (.bool (Ieee.double.order a b == some .gt)) := rfl
theorem lessM_irrefl (a : Nat) : lessM a a = false := decide_eq_false fun h => by omega
theorem run_frombits (a : Nat) (w : World) : (callFunc 16 #[.int .u64 (a : Int)]).run Tryd.prog w = .ok (.value (.float .f64 a)) w := by kernel_rfl
theorem run_bits (a : Nat) (w : World) : (callFunc 15 #[.float .f64 a]).run Tryd.prog w = .ok (.value (.int .u64 (a : Int))) w := by kernel_rfl
attribute [local go_sem] fl_eql fl_neq fl_lss fl_gtr run_frombits run_bits
end Go.Proofs.YtnmopjefjpifoaaDoor
