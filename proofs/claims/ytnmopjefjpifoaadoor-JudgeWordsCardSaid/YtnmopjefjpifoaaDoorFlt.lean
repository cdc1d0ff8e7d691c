/- Floating-point numbers of 64 bits: how two of them stand to each other, told from their bits; nothing of the program. -/
import Derived.Laws.FloatArith
import Derived.WalkKit
set_option linter.unusedSimpArgs false
set_option maxRecDepth 100000
set_option linter.unusedVariables false
namespace Go.Proofs.YtnmopjefjpifoaaDoor
open Go

/-- The lower 63 bits; the rung of infinity. -/
def rung (a : Nat) : Nat := a % 9223372036854775808
def infR : Nat := 9218868437227405312
def mant (r : Nat) : Nat := if r < 4503599627370496 then r else 4503599627370496 + r % 4503599627370496
def expo (r : Nat) : Nat := r / 4503599627370496 - 1
/-- What a rung stands for, in units of the smallest number. -/
def rungV (r : Nat) : Nat := mant r * 2 ^ expo r
/-- The number's place among all. -/
def key (a : Nat) : Int := if a < 9223372036854775808 then (rung a : Int) else -(rung a : Int)
theorem rungV_step (r : Nat) : rungV r < rungV (r + 1) := by
  unfold rungV mant expo
  by_cases h1 : r + 1 < 4503599627370496
  · rw [if_pos (by omega), if_pos h1, show r / 4503599627370496 - 1 = 0 by omega, show (r + 1) / 4503599627370496 - 1 = 0 by omega]
    omega
  · by_cases h2 : r + 1 = 4503599627370496
    · rw [if_pos (by omega), if_neg (by omega), h2, show r / 4503599627370496 - 1 = 0 by omega]
      have : r = 4503599627370495 := by omega
      subst this
      decide
    · rw [if_neg (by omega), if_neg (by omega)]
      by_cases h3 : (r + 1) % 4503599627370496 = 0
      · have e1 : (r + 1) / 4503599627370496 - 1 = (r / 4503599627370496 - 1) + 1 := by omega
        have e2 : r % 4503599627370496 = 4503599627370495 := by omega
        rw [e1, e2, h3, Nat.pow_succ]
        generalize r / 4503599627370496 - 1 = e
        have : 0 < 2 ^ e := Nat.two_pow_pos _
        generalize 2 ^ e = P at *
        omega
      · have e1 : (r + 1) / 4503599627370496 - 1 = r / 4503599627370496 - 1 := by omega
        have e2 : (r + 1) % 4503599627370496 = r % 4503599627370496 + 1 := by omega
        rw [e1, e2]
        exact Nat.mul_lt_mul_of_pos_right (by omega) (Nat.two_pow_pos _)
theorem rungV_lt {r s : Nat} (h : r < s) : rungV r < rungV s := by
  induction s with
  | zero => omega
  | succ s ih =>
    by_cases e : r = s
    · rw [e]; exact rungV_step s
    · exact Nat.lt_trans (ih (by omega)) (rungV_step s)
theorem rungV_zero : rungV 0 = 0 := by decide
theorem rungV_lt_iff {r s : Nat} : rungV r < rungV s ↔ r < s := by
  constructor
  · intro h
    rcases Nat.lt_trichotomy r s with h1 | h1 | h1
    · exact h1
    · rw [h1] at h; exact absurd h (Nat.lt_irrefl _)
    · have := rungV_lt h1; omega
  · exact rungV_lt
theorem read_eq (a : Nat) (ha : a < 18446744073709551616) : Ieee.double.read a =
    if rung a < infR then .number (decide (9223372036854775808 ≤ a)) (mant (rung a)) (-1074 + (expo (rung a) : Nat)) else if rung a = infR then .infinity (decide (9223372036854775808 ≤ a)) else .nan (decide (9223372036854775808 ≤ a)) (rung a - infR) := by
  have e1 : Ieee.double.signWeight = 9223372036854775808 := by decide
  have e2 : Ieee.double.binade = 4503599627370496 := by decide
  have e3 : Ieee.double.infRung = 9218868437227405312 := by decide
  have e4 : Ieee.double.leastPlace = -1074 := by decide
  have e5 : (a / 9223372036854775808 % 2 == 1) = decide (9223372036854775808 ≤ a) := by
    rw [Bool.eq_iff_iff]
    simp only [beq_iff_eq, decide_eq_true_eq]
    omega
  unfold Ieee.Format.read
  simp only [e1, e2, e3, e4, e5]
  show (if rung a < 4503599627370496 then _ else if rung a < infR then _ else if rung a = infR then _ else _) = _
  have hinf : infR = 9218868437227405312 := rfl
  by_cases h1 : rung a < 4503599627370496
  · rw [if_pos h1, if_pos (by omega)]
    unfold mant expo
    rw [if_pos h1, show rung a / 4503599627370496 - 1 = 0 by omega]
    rfl
  · rw [if_neg h1]
    by_cases h2 : rung a < infR
    · rw [if_pos h2, if_pos h2]
      unfold mant expo
      rw [if_neg h1]
      rfl
    · rw [if_neg h2, if_neg h2]; rfl
theorem compare_pos (a b : Int) (c : Int) (h : 0 < c) : compare (a * c) (b * c) = compare a b := by
  simp only [compare, compareOfLessAndEq]
  have h1 : a * c < b * c ↔ a < b := Int.mul_lt_mul_right h
  have h2 : a * c = b * c ↔ a = b := ⟨fun e => Int.eq_of_mul_eq_mul_right (by omega) e, fun e => by rw [e]⟩
  simp only [h1, h2]
/-- A number with its sign. -/
def sg (s : Bool) (m : Nat) : Int := if s then -(m : Int) else (m : Int)
theorem signed_eq (s : Bool) (m k : Nat) : Ieee.signed s m k = sg s (m * 2 ^ k) := by
  unfold Ieee.signed sg
  rw [Nat.shiftLeft_eq]
theorem sg_mul (s : Bool) (m c : Nat) : sg s (m * c) = sg s m * (c : Int) := by
  unfold sg
  cases s <;> simp [Int.neg_mul]
theorem sg_rungV (s t : Bool) (r q : Nat) : compare (sg s (rungV r)) (sg t (rungV q)) = compare (sg s r) (sg t q) := by
  have hz : ∀ r, rungV r = 0 ↔ r = 0 := fun r => by
    constructor
    · intro h
      rcases Nat.eq_zero_or_pos r with h1 | h1
      · exact h1
      · have := rungV_lt h1
        omega
    · intro h; rw [h]; exact rungV_zero
  have hlt := @rungV_lt_iff r q
  have hgt := @rungV_lt_iff q r
  have h1 := hz r
  have h2 := hz q
  generalize rungV r = v at *
  generalize rungV q = u at *
  simp only [compare, compareOfLessAndEq]
  have e1 : sg s v < sg t u ↔ sg s r < sg t q := by
    unfold sg
    cases s <;> cases t <;> simp only [if_true, if_false, Bool.false_eq_true] <;> omega
  have e2 : sg s v = sg t u ↔ sg s r = sg t q := by
    unfold sg
    cases s <;> cases t <;> simp only [if_true, if_false, Bool.false_eq_true] <;> omega
  simp only [e1, e2]
theorem order_numbers (s t : Bool) (m n e1 e2 : Nat) : Ieee.Datum.order (.number s m (-1074 + (e1 : Int))) (.number t n (-1074 + (e2 : Int))) = some (compare (sg s (m * 2 ^ e1)) (sg t (n * 2 ^ e2))) := by
  unfold Ieee.Datum.order
  dsimp only
  obtain ⟨k, hk⟩ : ∃ k, k = min e1 e2 := ⟨_, rfl⟩
  have hb : min (-1074 + (e1 : Int)) (-1074 + (e2 : Int)) = -1074 + (k : Int) := by omega
  rw [hb]
  have h1 : (-1074 + (e1 : Int) - (-1074 + (k : Int))).toNat = e1 - k := by omega
  have h2 : (-1074 + (e2 : Int) - (-1074 + (k : Int))).toNat = e2 - k := by omega
  rw [h1, h2, signed_eq, signed_eq]
  have hp : (0 : Int) < ((2 ^ k : Nat) : Int) := by
    have := Nat.two_pow_pos k
    omega
  rw [← compare_pos _ _ _ hp, ← sg_mul, ← sg_mul, Nat.mul_assoc, Nat.mul_assoc, ← Nat.pow_add, ← Nat.pow_add, Nat.sub_add_cancel (by omega), Nat.sub_add_cancel (by omega)]
theorem key_sg (a : Nat) (ha : a < 18446744073709551616) : key a = sg (decide (9223372036854775808 ≤ a)) (rung a) := by
  unfold key sg
  by_cases h : a < 9223372036854775808
  · rw [if_pos h, decide_eq_false (by omega)]; rfl
  · rw [if_neg h, decide_eq_true (by omega)]; rfl
/-- How two floats stand to each other. -/
theorem order_key (a b : Nat) (ha : a < 18446744073709551616) (hb : b < 18446744073709551616) :
    Ieee.double.order a b = if infR < rung a ∨ infR < rung b then none else some (compare (key a) (key b)) := by
  unfold Ieee.Format.order
  rw [read_eq a ha, read_eq b hb, key_sg a ha, key_sg b hb]
  generalize decide (9223372036854775808 ≤ a) = s
  generalize decide (9223372036854775808 ≤ b) = t
  have hI : infR = 9218868437227405312 := rfl
  generalize rung a = r
  generalize rung b = q
  by_cases h1 : r < infR
  · rw [if_pos h1]
    by_cases h2 : q < infR
    · rw [if_pos h2, if_neg (by omega), order_numbers]
      exact congrArg some (sg_rungV s t r q)
    · rw [if_neg h2]
      by_cases h3 : q = infR
      · rw [if_pos h3, if_neg (by omega)]
        show some (if t = true then Ordering.gt else Ordering.lt) = _
        congr 1
        simp only [compare, compareOfLessAndEq]
        unfold sg
        cases s <;> cases t <;> simp only [if_true, if_false, Bool.false_eq_true]
        · rw [if_pos (by omega)]
        · rw [if_neg (by omega), if_neg (by omega)]
        · rw [if_pos (by omega)]
        · rw [if_neg (by omega), if_neg (by omega)]
      · rw [if_neg h3, if_pos (by omega)]
        rfl
  · rw [if_neg h1]
    by_cases h2 : r = infR
    · rw [if_pos h2]
      by_cases h3 : q < infR
      · rw [if_pos h3, if_neg (by omega)]
        show some (if s = true then Ordering.lt else Ordering.gt) = _
        congr 1
        simp only [compare, compareOfLessAndEq]
        unfold sg
        cases s <;> cases t <;> simp only [if_true, if_false, Bool.false_eq_true]
        · rw [if_neg (by omega), if_neg (by omega)]
        · rw [if_neg (by omega), if_neg (by omega)]
        · rw [if_pos (by omega)]
        · rw [if_pos (by omega)]
      · rw [if_neg h3]
        by_cases h4 : q = infR
        · rw [if_pos h4, if_neg (by omega)]
          show some (compare t.toNat s.toNat) = _
          congr 1
          subst h2 h4
          unfold sg
          cases s <;> cases t <;> decide
        · rw [if_neg h4, if_pos (by omega)]
          rfl
    · have hc : infR < r ∨ infR < q := by omega
      rw [if_neg h2, if_pos hc]
      by_cases h3 : q < infR
      · rw [if_pos h3]; rfl
      · rw [if_neg h3]
        by_cases h4 : q = infR
        · rw [if_pos h4]; rfl
        · rw [if_neg h4]; rfl
/-- The class of a measure, told from its bits. -/
def clsB (a : Nat) : Nat :=
  if infR < rung a then 6 else if 9223372036854775808 ≤ a then (if rung a = infR then 0 else if 0 < rung a then 1 else 2) else (if rung a = infR then 5 else if 0 < rung a then 4 else 3)
/-- Whether one measure is before another. -/
def lessM (a b : Nat) : Bool := decide (clsB a < clsB b ∨ clsB a = clsB b ∧ (clsB a = 1 ∧ b < a ∨ clsB a = 4 ∧ a < b))
end Go.Proofs.YtnmopjefjpifoaaDoor
