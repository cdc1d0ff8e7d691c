/- A measure's place in the order, as a whole number; how a measure stands to nought and to the greatest number; nothing of the program. -/
import Derived.Test.YtnmopjefjpifoaaDoorFlt
set_option linter.unusedSimpArgs false
set_option maxRecDepth 100000
set_option linter.unusedVariables false
namespace Go.Proofs.YtnmopjefjpifoaaDoor
open Go

/-- A measure's place in the order. -/
def rk (a : Nat) : Int := if infR < rung a then 9218868437227405313 else if a < 9223372036854775808 then (rung a : Int) else -(rung a : Int) - 1
theorem rung_le (a : Nat) (ha : a < 18446744073709551616) : (a < 9223372036854775808 ∧ a = rung a) ∨ (9223372036854775808 ≤ a ∧ a = rung a + 9223372036854775808) := by
  unfold rung; omega
theorem lessM_rk (a b : Nat) (ha : a < 18446744073709551616) (hb : b < 18446744073709551616) : lessM a b = decide (rk a < rk b) := by
  unfold lessM
  rw [decide_eq_decide]
  have h1 := rung_le a ha
  have h2 := rung_le b hb
  have hI : infR = 9218868437227405312 := rfl
  have ca : (clsB a = 0 ∧ rk a = -9218868437227405313) ∨ (clsB a = 1 ∧ rk a = -(rung a : Int) - 1 ∧ 0 < rung a ∧ rung a < 9218868437227405312 ∧ a = rung a + 9223372036854775808) ∨ (clsB a = 2 ∧ rk a = -1) ∨ (clsB a = 3 ∧ rk a = 0) ∨ (clsB a = 4 ∧ rk a = rung a ∧ 0 < rung a ∧ rung a < 9218868437227405312 ∧ a = rung a) ∨ (clsB a = 5 ∧ rk a = 9218868437227405312) ∨ (clsB a = 6 ∧ rk a = 9218868437227405313) := by
    unfold clsB rk
    repeat' split
    all_goals omega
  have cb : (clsB b = 0 ∧ rk b = -9218868437227405313) ∨ (clsB b = 1 ∧ rk b = -(rung b : Int) - 1 ∧ 0 < rung b ∧ rung b < 9218868437227405312 ∧ b = rung b + 9223372036854775808) ∨ (clsB b = 2 ∧ rk b = -1) ∨ (clsB b = 3 ∧ rk b = 0) ∨ (clsB b = 4 ∧ rk b = rung b ∧ 0 < rung b ∧ rung b < 9218868437227405312 ∧ b = rung b) ∨ (clsB b = 5 ∧ rk b = 9218868437227405312) ∨ (clsB b = 6 ∧ rk b = 9218868437227405313) := by
    unfold clsB rk
    repeat' split
    all_goals omega
  rcases ca with ca | ca | ca | ca | ca | ca | ca <;> rcases cb with cb | cb | cb | cb | cb | cb | cb <;> omega
theorem rk_inj (a b : Nat) (ha : a < 18446744073709551616) (hb : b < 18446744073709551616) (h : rk a = rk b) : a = b ∨ (clsB a = 6 ∧ clsB b = 6) := by
  have h1 := rung_le a ha
  have h2 := rung_le b hb
  have hI : infR = 9218868437227405312 := rfl
  unfold rk at h
  by_cases n1 : infR < rung a
  · by_cases n2 : infR < rung b
    · exact .inr ⟨if_pos n1, if_pos n2⟩
    · rw [if_pos n1, if_neg n2] at h
      exfalso
      split at h <;> omega
  · by_cases n2 : infR < rung b
    · rw [if_neg n1, if_pos n2] at h
      exfalso
      split at h <;> omega
    · rw [if_neg n1, if_neg n2] at h
      left
      split at h <;> split at h <;> omega
theorem cls_cases (a : Nat) (ha : a < 18446744073709551616) : (clsB a = 0 ∧ a = 18442240474082181120) ∨ (clsB a = 1 ∧ 0 < rung a ∧ rung a < infR ∧ a = rung a + 9223372036854775808) ∨ (clsB a = 2 ∧ a = 9223372036854775808) ∨ (clsB a = 3 ∧ a = 0) ∨ (clsB a = 4 ∧ 0 < rung a ∧ rung a < infR ∧ a = rung a) ∨ (clsB a = 5 ∧ a = infR) ∨ (clsB a = 6 ∧ infR < rung a) := by
  have h1 := rung_le a ha
  have hI : infR = 9218868437227405312 := rfl
  unfold clsB
  repeat' split
  all_goals omega
/-- How a measure stands to nought and to the greatest number. -/
theorem order_zero (a : Nat) (ha : a < 18446744073709551616) :
    (Ieee.double.order a 0 == some .lt) = decide (clsB a ≤ 1) ∧ (Ieee.double.order a 0 == some .eq) = decide (clsB a = 2 ∨ clsB a = 3) ∧ (Ieee.double.order a 0 == some .gt) = decide (clsB a = 4 ∨ clsB a = 5) := by
  rw [order_key a 0 ha (by decide)]
  have hI : infR = 9218868437227405312 := rfl
  have hk : key 0 = 0 := by decide
  have hr : rung 0 = 0 := by decide
  rw [hk, hr]
  rcases cls_cases a ha with h | h | h | h | h | h | h
  · rw [h.1, h.2]; decide
  · rw [h.1, if_neg (by omega)]
    have hn : key a < 0 := by unfold key; rw [if_neg (by omega)]; omega
    simp only [compare, compareOfLessAndEq, if_pos hn]; decide
  · rw [h.1, h.2]; decide
  · rw [h.1, h.2]; decide
  · rw [h.1, if_neg (by omega)]
    have hn : 0 < key a := by unfold key; rw [if_pos (by omega)]; omega
    simp only [compare, compareOfLessAndEq, if_neg (show ¬ key a < 0 by omega), if_neg (show ¬ key a = 0 by omega)]; decide
  · rw [h.1, h.2]; decide
  · rw [h.1, if_pos (.inl h.2)]; decide
theorem order_top (a : Nat) (ha : a < 18446744073709551616) : (Ieee.double.order a 9218868437227405311 == some .gt) = decide (clsB a = 5) := by
  rw [order_key a _ ha (by decide)]
  have hI : infR = 9218868437227405312 := rfl
  have hk : key 9218868437227405311 = 9218868437227405311 := by decide
  have hr : rung 9218868437227405311 = 9218868437227405311 := by decide
  rw [hk, hr]
  rcases cls_cases a ha with h | h | h | h | h | h | h
  · rw [h.1, h.2]; decide
  · rw [h.1, if_neg (by omega)]
    have hn : key a < 9218868437227405311 := by unfold key; rw [if_neg (by omega)]; omega
    simp only [compare, compareOfLessAndEq, if_pos hn]; decide
  · rw [h.1, h.2]; decide
  · rw [h.1, h.2]; decide
  · rw [h.1, if_neg (by omega)]
    have hn : key a ≤ 9218868437227405311 := by unfold key; rw [if_pos (by omega)]; omega
    by_cases h2 : key a = 9218868437227405311
    · rw [h2]; decide
    · simp only [compare, compareOfLessAndEq, if_pos (show key a < 9218868437227405311 by omega)]; decide
  · rw [h.1, h.2]; decide
  · rw [h.1, if_pos (.inl h.2)]; decide
/-- The other sign. -/
def flipS (a : Nat) : Nat := if a < 9223372036854775808 then a + 9223372036854775808 else a - 9223372036854775808
theorem xor_top (a : Nat) (ha : a < 18446744073709551616) : a ^^^ 9223372036854775808 = flipS a := by
  have h1 : (a ^^^ 2 ^ 63) % 2 ^ 63 = (a % 2 ^ 63) ^^^ (2 ^ 63 % 2 ^ 63) := Nat.xor_mod_two_pow
  have h2 : (a ^^^ 2 ^ 63) / 2 ^ 63 = (a / 2 ^ 63) ^^^ (2 ^ 63 / 2 ^ 63) := Nat.xor_div_two_pow
  rw [show (2 : Nat) ^ 63 % 2 ^ 63 = 0 by decide, Nat.xor_zero] at h1
  rw [show (2 : Nat) ^ 63 / 2 ^ 63 = 1 by decide] at h2
  have e : (2 : Nat) ^ 63 = 9223372036854775808 := by decide
  rw [e] at h1 h2
  generalize a ^^^ 9223372036854775808 = c at *
  unfold flipS
  have h3 : a / 9223372036854775808 = 0 ∨ a / 9223372036854775808 = 1 := by omega
  rcases h3 with h3 | h3
  · rw [h3, show 0 ^^^ 1 = 1 by decide] at h2
    split <;> omega
  · rw [h3, show 1 ^^^ 1 = 0 by decide] at h2
    split <;> omega
end Go.Proofs.YtnmopjefjpifoaaDoor
