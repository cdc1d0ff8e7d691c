/- Rows of bytes that are filled one by one. -/
import Derived.Test.YtkfceloaomlhmaaDoorBase
set_option linter.unusedSimpArgs false
set_option maxRecDepth 100000
set_option linter.unusedVariables false
namespace Go.Proofs.YtkfceloaomlhmaaDoor
open Go Go.RowKit

/-- What a row holds when k of its bytes are reckoned. -/
def upto (f : Nat → BitVec 8) (k j : Nat) : Value := if j < k then B (f j) else B 0#8
theorem upto_zero (f : Nat → BitVec 8) (j : Nat) : B 0#8 = upto f 0 j := by rw [upto, if_neg (by omega)]
theorem upto_step (f : Nat → BitVec 8) (k j : Nat) : (if j = k then B (f k) else upto f k j) = upto f (k + 1) j := by
  unfold upto
  by_cases h : j = k
  · subst h; rw [if_pos rfl, if_pos (by omega)]
  · rw [if_neg h]
    by_cases h1 : j < k
    · rw [if_pos h1, if_pos (by omega)]
    · rw [if_neg h1, if_neg (by omega)]
theorem upto_full (f : Nat → BitVec 8) (n j : Nat) (h : j < n) : upto f n j = B (f j) := by rw [upto, if_pos h]
end Go.Proofs.YtkfceloaomlhmaaDoor
