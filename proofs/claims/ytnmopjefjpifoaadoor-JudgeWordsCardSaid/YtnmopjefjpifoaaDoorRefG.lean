/- The reference's classes and order of measures. -/
import Derived.Test.YtnmopjefjpifoaaDoorRows
import Derived.Test.YtnmopjefjpifoaaDoorFlt
import Derived.Lib.Hide
import Derived.Lib.Walk
set_option linter.unusedSimpArgs false
set_option maxRecDepth 100000
set_option linter.unusedVariables false
namespace Go.Proofs.YtnmopjefjpifoaaDoor
open Go Go.RowKit

theorem emod_rung (a : Nat) : (a : Int) % 9223372036854775808 = ((rung a : Nat) : Int) := by
  unfold rung; simp
theorem tmod_rung (a : Nat) : (a : Int).tmod 9223372036854775808 = ((rung a : Nat) : Int) := by
  rw [Int.tmod_eq_emod_of_nonneg (by omega)]; exact emod_rung a
theorem rung_lt (a : Nat) : rung a < 9223372036854775808 := Nat.mod_lt _ (by decide)
theorem wrap_u64 (r : Nat) (h : r < 18446744073709551616) : IntKind.u64.wrap (r : Int) = (r : Int) := by
  have := IntKind.wrap_u64 (r : Int)
  omega
theorem clsB_le (a : Nat) : clsB a ≤ 6 := by
  unfold clsB
  split
  · exact Nat.le_refl _
  · split <;> split <;> first | decide | (split <;> decide)
end Go.Proofs.YtnmopjefjpifoaaDoor
