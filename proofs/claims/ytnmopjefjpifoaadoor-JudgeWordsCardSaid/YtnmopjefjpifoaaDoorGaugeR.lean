/- The statement GaugeRates, walked over the premises. -/
import Derived.Test.YtnmopjefjpifoaaDoorGauge5
import Derived.Deep.QuietTactic
import Derived.BigQuiet
set_option linter.unusedSimpArgs false
set_option maxRecDepth 100000
set_option linter.unusedVariables false
namespace Go.Proofs.YtnmopjefjpifoaaDoor
open Go Go.RowKit

theorem conv_IF (n : Int) (w : World) : (convert 3 27 (.int .i64 n)).run Tryd.prog w = .ok (.float .f64 (FloatKind.f64.nearest n)) w := by kernel_rfl
theorem wI_lt (n : Int) (h : n.natAbs < 2 ^ 53) : wI n < 18446744073709551616 ∧ rung (wI n) < infR := by
  have hI : infR = 9218868437227405312 := rfl
  unfold wI
  by_cases h0 : n = 0
  · rw [if_pos h0]
    exact ⟨word_lt64 _ _ (by decide), by rw [word_rung _ _ (by decide)]; decide⟩
  · rw [if_neg h0]
    have hr := rungI_lt (N := n.natAbs) (by omega) h
    exact ⟨word_lt64 _ _ (by omega), by rw [word_rung _ _ (by omega)]; omega⟩
theorem order_self (a : Nat) (ha : a < 18446744073709551616) (h : rung a ≤ infR) : Ieee.double.order a a = some .eq := by
  rw [order_key a a ha ha, if_neg (by omega)]
  congr 1
  simp [compare, compareOfLessAndEq]
theorem cls_word_inf (s : Bool) : clsB (Ieee.double.word s infR) = if s then 0 else 5 := by cases s <;> decide
theorem cls_nan (a : Nat) (h : infR < rung a) : clsB a = 6 := if_pos h
/-- What Rate tells. -/
def RateR (x y : Int) (a : Nat) : Prop := a < 18446744073709551616 ∧ (y ≠ 0 → ∃ r, absQ x y r ∧ a = Ieee.double.word (decide (x < 0) ^^ decide (y < 0)) r) ∧ (y = 0 → clsB a = if x = 0 then 6 else if x < 0 then 0 else 5)
theorem rate_order {x y z w : Int} {a b : Nat} (h1 : RateR x y a) (h2 : RateR z w b) (hy : y ≠ 0) (hw : w ≠ 0) (hx2 : x.natAbs < 2 ^ 20) (hy2 : y.natAbs < 2 ^ 20) (hz2 : z.natAbs < 2 ^ 20) (hw2 : w.natAbs < 2 ^ 20) :
    Ieee.double.order a b = some (if decide (y < 0) = decide (w < 0) then compare (x * w) (z * y) else compare (-(x * w)) (-(z * y))) := by
  obtain ⟨r, q1, rfl⟩ := h1.2.1 hy
  obtain ⟨q, q2, rfl⟩ := h2.2.1 hw
  have l1 := absQ_lt q1 hy
  have l2 := absQ_lt q2 hw
  have hI : infR = 9218868437227405312 := rfl
  rw [order_key _ _ h1.1 h2.1, word_rung _ _ (by omega), word_rung _ _ (by omega), if_neg (by omega), word_key _ _ (by omega), word_key _ _ (by omega), rate_cmp q1 q2 hy hw hx2 hy2 hz2 hw2]
theorem cmp_lt (a b : Int) : (some (compare a b) == some Ordering.lt) = decide (a < b) := by
  simp only [compare, compareOfLessAndEq]
  by_cases h : a < b
  · rw [if_pos h, decide_eq_true h]; rfl
  · rw [if_neg h, decide_eq_false h]
    by_cases h2 : a = b
    · rw [if_pos h2]; rfl
    · rw [if_neg h2]; rfl
theorem cmp_eq (a b : Int) : (some (compare a b) == some Ordering.eq) = (a == b) := by
  simp only [compare, compareOfLessAndEq]
  by_cases h : a < b
  · rw [if_pos h, show (a == b) = false by simp; omega]; rfl
  · rw [if_neg h]
    by_cases h2 : a = b
    · rw [if_pos h2, h2]; simp
    · rw [if_neg h2, show (a == b) = false by simp; omega]; rfl
end Go.Proofs.YtnmopjefjpifoaaDoor
