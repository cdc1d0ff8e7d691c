/- Numbers in groups of seven bits, written and read; plain functions, nothing of the program. -/
import Derived.WalkKit
set_option linter.unusedSimpArgs false
set_option maxRecDepth 100000
set_option linter.unusedVariables false
namespace Go.Proofs.YtllpcllgliknpaaGreatDoor
open Go

/-- A number's bytes. -/
def enc7 (n : Nat) : List (BitVec 8) := if n < 128 then [BitVec.ofNat 8 n] else BitVec.ofNat 8 (128 + n % 128) :: enc7 (n / 128)
termination_by n
decreasing_by omega
theorem enc7_lo {n : Nat} (h : n < 128) : enc7 n = [BitVec.ofNat 8 n] := by rw [enc7, if_pos h]
theorem enc7_hi {n : Nat} (h : 128 ≤ n) : enc7 n = BitVec.ofNat 8 (128 + n % 128) :: enc7 (n / 128) := by rw [enc7, if_neg (by omega)]
theorem enc7_pos (n : Nat) : 0 < (enc7 n).length := by
  by_cases h : n < 128
  · rw [enc7_lo h]; exact Nat.one_pos
  · rw [enc7_hi (by omega)]; exact Nat.succ_pos _
theorem enc7_len (k : Nat) : ∀ n, n < 128 ^ (k + 1) → (enc7 n).length ≤ k + 1 := by
  induction k with
  | zero => intro n h; rw [enc7_lo (by simpa using h)]; exact Nat.le_refl _
  | succ k ih =>
    intro n h
    by_cases h1 : n < 128
    · rw [enc7_lo h1]; simp
    · rw [enc7_hi (by omega), List.length_cons]
      have := ih (n / 128) (by rw [Nat.div_lt_iff_lt_mul (by decide)]; rw [Nat.pow_succ] at h; exact h)
      omega
/-- The value at the beginning of bytes, in groups; none where there is no end in time, or the last group is nought in vain. 'i': how many groups went ahead; 'f': how many may come. -/
def scan7 : Nat → Nat → List (BitVec 8) → Option (Nat × Nat)
  | 0, _, _ => none
  | f + 1, i, l =>
    match l with
    | [] => none
    | c :: r =>
      if c.toNat < 128 then (if 0 < i ∧ c.toNat = 0 then none else some (c.toNat, 1))
      else (scan7 f (i + 1) r).map fun x => (c.toNat % 128 + 128 * x.1, x.2 + 1)
theorem scan7_enc (f : Nat) : ∀ (i n : Nat) (r : List (BitVec 8)), n < 128 ^ f → (0 < i → 0 < n) → 0 < f → scan7 f i (enc7 n ++ r) = some (n, (enc7 n).length) := by
  induction f with
  | zero => intro i n r h h1 h2; omega
  | succ f ih =>
    intro i n r h h1 _
    by_cases hn : n < 128
    · have ht : (BitVec.ofNat 8 n).toNat = n := by rw [BitVec.toNat_ofNat]; exact Nat.mod_eq_of_lt (by omega)
      rw [enc7_lo hn, List.singleton_append, scan7, ht, if_pos hn, if_neg (by omega)]
      rfl
    · have ht : (BitVec.ofNat 8 (128 + n % 128)).toNat = 128 + n % 128 := by rw [BitVec.toNat_ofNat]; exact Nat.mod_eq_of_lt (by omega)
      have hf : 0 < f := by
        rcases Nat.eq_zero_or_pos f with h3 | h3
        · subst h3; simp at h; omega
        · exact h3
      rw [enc7_hi (by omega), List.cons_append, scan7, ht, if_neg (by omega), ih (i + 1) (n / 128) r (by rw [Nat.div_lt_iff_lt_mul (by decide)]; rw [Nat.pow_succ] at h; exact h) (by omega) hf, Option.map_some, List.length_cons]
      congr 2
      omega
theorem scan7_inv (f : Nat) : ∀ (i : Nat) (l : List (BitVec 8)) (n k : Nat), scan7 f i l = some (n, k) → n < 128 ^ f ∧ k ≤ l.length ∧ l.take k = enc7 n ∧ k = (enc7 n).length ∧ (0 < i → 0 < n) ∧ k ≤ f := by
  induction f with
  | zero => intro i l n k h; simp [scan7] at h
  | succ f ih =>
    intro i l n k h
    match l, h with
    | [], h => simp [scan7] at h
    | c :: r, h =>
      have hc := c.isLt
      rw [scan7] at h
      by_cases h1 : c.toNat < 128
      · rw [if_pos h1] at h
        by_cases h2 : 0 < i ∧ c.toNat = 0
        · rw [if_pos h2] at h; cases h
        · rw [if_neg h2] at h
          injection h with h
          injection h with e1 e2
          subst e1 e2
          have hp : 128 ≤ 128 ^ (f + 1) := by rw [Nat.pow_succ]; have : 0 < 128 ^ f := Nat.pow_pos (by decide); omega
          refine ⟨by omega, by simp, ?_, by rw [enc7_lo h1]; rfl, by omega, by omega⟩
          rw [enc7_lo h1]
          simp
      · rw [if_neg h1] at h
        cases h3 : scan7 f (i + 1) r with
        | none => rw [h3] at h; cases h
        | some x =>
          obtain ⟨n', k'⟩ := x
          rw [h3, Option.map_some] at h
          injection h with h
          injection h with e1 e2
          obtain ⟨a1, a2, a3, a4, a5, a6⟩ := ih _ _ _ _ h3
          subst e1 e2
          have hpos := a5 (by omega)
          dsimp only
          have hge : 128 ≤ c.toNat % 128 + 128 * n' := by omega
          have hd : (c.toNat % 128 + 128 * n') / 128 = n' := by omega
          have hm : (c.toNat % 128 + 128 * n') % 128 = c.toNat % 128 := by omega
          have he : enc7 (c.toNat % 128 + 128 * n') = c :: enc7 n' := by
            rw [enc7_hi hge, hd, hm]
            congr 1
            apply BitVec.eq_of_toNat_eq
            rw [BitVec.toNat_ofNat]
            omega
          refine ⟨?_, ?_, ?_, ?_, by omega, by omega⟩
          · rw [Nat.pow_succ]; omega
          · rw [List.length_cons]; omega
          · rw [he, List.take_succ_cons, a3]
          · rw [he, List.length_cons, a4]
/-- Bytes of a number that are cut have no number. -/
theorem scan7_cut (f : Nat) : ∀ (i n k : Nat), k < (enc7 n).length → scan7 f i ((enc7 n).take k) = none := by
  induction f with
  | zero => intro i n k h; rfl
  | succ f ih =>
    intro i n k h
    by_cases hn : n < 128
    · rw [enc7_lo hn] at h ⊢
      have : k = 0 := by simpa using h
      subst this
      rfl
    · have ht : (BitVec.ofNat 8 (128 + n % 128)).toNat = 128 + n % 128 := by rw [BitVec.toNat_ofNat]; exact Nat.mod_eq_of_lt (by omega)
      rw [enc7_hi (by omega)] at h ⊢
      rw [List.length_cons] at h
      match k with
      | 0 => rfl
      | k + 1 => rw [List.take_succ_cons, scan7, ht, if_neg (by omega), ih (i + 1) (n / 128) k (by omega)]; rfl
/-- The number at the beginning of bytes: 9 groups at most. -/
def num7 (l : List (BitVec 8)) : Option (Nat × Nat) := scan7 9 0 l
theorem pow9 : (128 : Nat) ^ 9 = 9223372036854775808 := by decide
theorem num7_enc (n : Nat) (r : List (BitVec 8)) (h : n < 9223372036854775808) : num7 (enc7 n ++ r) = some (n, (enc7 n).length) := scan7_enc 9 0 n r (by rw [pow9]; exact h) (fun h => by omega) (by decide)
theorem num7_cut (n k : Nat) (h : k < (enc7 n).length) : num7 ((enc7 n).take k) = none := scan7_cut 9 0 n k h
theorem num7_inv {l : List (BitVec 8)} {n k : Nat} (h : num7 l = some (n, k)) : n < 9223372036854775808 ∧ k ≤ l.length ∧ l.take k = enc7 n ∧ k = (enc7 n).length := by
  obtain ⟨h1, h2, h3, h4, -, -⟩ := scan7_inv 9 0 l n k h
  exact ⟨by rw [pow9] at h1; exact h1, h2, h3, h4⟩
end Go.Proofs.YtllpcllgliknpaaGreatDoor
