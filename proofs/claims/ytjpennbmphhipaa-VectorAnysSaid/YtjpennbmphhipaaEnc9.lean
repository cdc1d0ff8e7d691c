/- The encoding of a vector, plain. -/
import Derived.Test.YtjpennbmphhipaaNum6
set_option linter.unusedSimpArgs false
set_option linter.unusedVariables false
namespace Go.Proofs.Ytjpennbmphhipaa
open Go Go.RowKit

/-- What is written of the numbers of the first replicas. -/
def bodyV (f : Nat → Int) : Nat → List (BitVec 8)
  | 0 => []
  | i + 1 => if f i = 0 then bodyV f i else bodyV f i ++ enc7 i ++ enc7 (f i).toNat
/-- How many of them are not 0. -/
def cntV (f : Nat → Int) : Nat → Nat
  | 0 => 0
  | i + 1 => if f i = 0 then cntV f i else cntV f i + 1
/-- The encoding of a vector. -/
def encV (f : Nat → Int) : List (BitVec 8) := enc7 (cntV f 16) ++ bodyV f 16
theorem bodyV_zero {f : Nat → Int} {i : Nat} (h : f i = 0) : bodyV f (i + 1) = bodyV f i := by rw [bodyV, if_pos h]
theorem bodyV_one {f : Nat → Int} {i : Nat} (h : f i ≠ 0) : bodyV f (i + 1) = bodyV f i ++ enc7 i ++ enc7 (f i).toNat := by rw [bodyV, if_neg h]
theorem cntV_zero {f : Nat → Int} {i : Nat} (h : f i = 0) : cntV f (i + 1) = cntV f i := by rw [cntV, if_pos h]
theorem cntV_one {f : Nat → Int} {i : Nat} (h : f i ≠ 0) : cntV f (i + 1) = cntV f i + 1 := by rw [cntV, if_neg h]
theorem cntV_le (f : Nat → Int) : ∀ i, cntV f i ≤ i
  | 0 => Nat.le_refl _
  | i + 1 => by
    have := cntV_le f i
    by_cases h : f i = 0
    · rw [cntV_zero h]; omega
    · rw [cntV_one h]; omega
theorem bodyV_congr {f g : Nat → Int} : ∀ i, (∀ j, j < i → f j = g j) → bodyV f i = bodyV g i
  | 0, _ => rfl
  | i + 1, h => by
    have ih := bodyV_congr i (fun j hj => h j (by omega))
    have hi := h i (by omega)
    by_cases h0 : f i = 0
    · rw [bodyV_zero h0, bodyV_zero (by rw [← hi]; exact h0), ih]
    · rw [bodyV_one h0, bodyV_one (by rw [← hi]; exact h0), ih, hi]
theorem cntV_congr {f g : Nat → Int} : ∀ i, (∀ j, j < i → f j = g j) → cntV f i = cntV g i
  | 0, _ => rfl
  | i + 1, h => by
    have ih := cntV_congr i (fun j hj => h j (by omega))
    have hi := h i (by omega)
    by_cases h0 : f i = 0
    · rw [cntV_zero h0, cntV_zero (by rw [← hi]; exact h0), ih]
    · rw [cntV_one h0, cntV_one (by rw [← hi]; exact h0), ih]
theorem encV_congr {f g : Nat → Int} (h : ∀ j, j < 16 → f j = g j) : encV f = encV g := by unfold encV; rw [bodyV_congr 16 h, cntV_congr 16 h]
/-- Where nothing comes from a replica on, nothing is written. -/
theorem bodyV_rest {f : Nat → Int} (k : Nat) (h : ∀ j, k ≤ j → f j = 0) : ∀ d, bodyV f (k + d) = bodyV f k ∧ cntV f (k + d) = cntV f k
  | 0 => ⟨rfl, rfl⟩
  | d + 1 => by
    have ih := bodyV_rest k h d
    have h0 := h (k + d) (by omega)
    rw [show k + (d + 1) = (k + d) + 1 by omega, bodyV_zero h0, cntV_zero h0]
    exact ih
theorem enc7_len40 {n : Nat} (h : n ≤ 1099511627776) : (enc7 n).length ≤ 6 := enc7_len 5 n (by show n < 4398046511104; omega)
theorem bodyV_len {f : Nat → Int} (h : ∀ i, i < 16 → 0 ≤ f i ∧ f i ≤ 1099511627776) : ∀ i, i ≤ 16 → (bodyV f i).length ≤ 7 * i
  | 0, _ => by show 0 ≤ _; omega
  | i + 1, hi => by
    have ih := bodyV_len h i (by omega)
    by_cases h0 : f i = 0
    · rw [bodyV_zero h0]; omega
    · rw [bodyV_one h0]
      have h1 := enc7_len 0 i (by show i < 128; omega)
      have h2 := enc7_len40 (n := (f i).toNat) (by have := h i (by omega); omega)
      simp only [List.length_append]
      omega
theorem encV_len {f : Nat → Int} (h : ∀ i, i < 16 → 0 ≤ f i ∧ f i ≤ 1099511627776) : (encV f).length ≤ 113 := by
  have h1 := bodyV_len h 16 (Nat.le_refl _)
  have h2 := enc7_len 0 (cntV f 16) (by have := cntV_le f 16; show _ < 128; omega)
  unfold encV
  simp only [List.length_append]
  omega
end Go.Proofs.Ytjpennbmphhipaa
