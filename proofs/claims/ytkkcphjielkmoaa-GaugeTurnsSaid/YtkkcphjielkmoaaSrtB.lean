/- Rows in order block by block; lists in order; plain functions, nothing of the program. -/
import Derived.Test.YtkkcphjielkmoaaSrt
set_option linter.unusedSimpArgs false
set_option linter.unusedVariables false
namespace Go.Proofs.Ytkkcphjielkmoaa
open Go

/-- Each block of bs is in order. -/
def BlT (k : Nat → Int) (d : Nat → Nat) (bs n : Nat) : Prop := ∀ t, Srt k d (t * bs) (min (t * bs + bs) n)
/-- The blocks of twice the length are in order up to a, those of bs from there. -/
structure BlI (k : Nat → Int) (d : Nat → Nat) (bs n a : Nat) : Prop where
  done : ∀ t, t * (2 * bs) + 2 * bs ≤ a → Srt k d (t * (2 * bs)) (t * (2 * bs) + 2 * bs)
  rest : ∀ t, a ≤ t * bs → Srt k d (t * bs) (min (t * bs + bs) n)
  at_ : ∃ t, a = t * (2 * bs)
  le : a ≤ n
section
variable {k : Nat → Int} {d d' : Nat → Nat} {bs n a : Nat}
theorem BlT.start (h : BlT k d bs n) (hb : 0 < bs) : BlI k d bs n 0 :=
  ⟨fun t h1 => by omega, fun t _ => h t, ⟨0, by simp⟩, Nat.zero_le _⟩
theorem BlI.one (h : BlI k d bs n a) : Srt k d a (min (a + bs) n) := by
  obtain ⟨t, ht⟩ := h.at_
  have e : t * 2 * bs = a := by rw [ht, Nat.mul_assoc]
  have := h.rest (t * 2) (by omega)
  rw [e] at this
  exact this
theorem BlI.two (h : BlI k d bs n a) : Srt k d (a + bs) (min (a + bs + bs) n) := by
  obtain ⟨t, ht⟩ := h.at_
  have e : (t * 2 + 1) * bs = a + bs := by rw [ht, Nat.add_mul, Nat.one_mul, Nat.mul_assoc]
  have := h.rest (t * 2 + 1) (by omega)
  rw [e] at this
  exact this
theorem BlI.step (h : BlI k d bs n a) (hb : 0 < bs) (hn : a + 2 * bs ≤ n) (hp : PI a (a + 2 * bs) d d') (hs : Srt k d' a (a + 2 * bs)) : BlI k d' bs n (a + 2 * bs) := by
  obtain ⟨t0, ht⟩ := h.at_
  refine ⟨fun t h1 => ?_, fun t h1 => ?_, ⟨t0 + 1, by rw [Nat.add_mul, Nat.one_mul, ← ht]⟩, hn⟩
  · by_cases e : t * (2 * bs) + 2 * bs ≤ a
    · exact (h.done t e).congr fun x p q => hp.out x (by omega)
    · have h2 : t ≤ t0 := by
        have : t * (2 * bs) ≤ t0 * (2 * bs) := by omega
        exact Nat.le_of_mul_le_mul_right this (by omega)
      have h3 : t0 ≤ t := by
        rcases Nat.lt_or_ge t t0 with g | g
        · have := Nat.mul_le_mul_right (2 * bs) (show t + 1 ≤ t0 from g)
          rw [Nat.add_mul, Nat.one_mul] at this
          omega
        · exact g
      obtain rfl : t = t0 := by omega
      rw [← ht]
      exact hs
  · exact (h.rest t (by omega)).congr fun x p q => hp.out x (by omega)
theorem BlI.fin (h : BlI k d bs n a) (hb : 0 < bs) (hn : n < a + 2 * bs) (hp : PI a n d d') (hs : Srt k d' a n) : BlT k d' (2 * bs) n := by
  obtain ⟨t0, ht⟩ := h.at_
  have hle := h.le
  intro t
  by_cases e : t * (2 * bs) + 2 * bs ≤ a
  · exact ((h.done t e).congr fun x p q => hp.out x (by omega)).mono (Nat.le_refl _) (by omega)
  · have h3 : t0 ≤ t := by
      rcases Nat.lt_or_ge t t0 with g | g
      · have := Nat.mul_le_mul_right (2 * bs) (show t + 1 ≤ t0 from g)
        rw [Nat.add_mul, Nat.one_mul] at this
        omega
      · exact g
    have h4 := Nat.mul_le_mul_right (2 * bs) h3
    exact hs.mono (by omega) (by omega)
theorem BlT.whole (h : BlT k d bs n) (hb : n ≤ bs) : Srt k d 0 n := by
  have := h 0
  rw [Nat.zero_mul] at this
  exact this.mono (Nat.le_refl _) (by omega)
/-- The blocks of twenty up to a. -/
def Bl20 (k : Nat → Int) (d : Nat → Nat) (a : Nat) : Prop := ∀ i j, i < j → j < a → i / 20 = j / 20 → k (d i) ≤ k (d j)
theorem Bl20.step (h : Bl20 k d a) {b : Nat} (ha : a % 20 = 0) (hb : b ≤ a + 20) (hp : PI a b d d') (hs : Srt k d' a b) : Bl20 k d' b := fun i j h1 h2 h3 => by
  by_cases e : j < a
  · rw [hp.out i (by omega), hp.out j (by omega)]; exact h i j h1 e h3
  · exact hs i j (by omega) h1 h2
theorem Bl20.blocks (h : Bl20 k d n) : BlT k d 20 n := fun t i j h1 h2 h3 => h i j h2 (by omega) (by omega)
end
/-- Two lists in order that hold the same, are the same in their keys. -/
theorem keys_eq {k : Nat → Int} {l1 l2 : List Nat} (hp : l1.Perm l2) (h1 : l1.Pairwise fun x y => k x ≤ k y) (h2 : l2.Pairwise fun x y => k x ≤ k y) : l1.map k = l2.map k := by
  refine List.Perm.eq_of_pairwise (le := fun x y : Int => x ≤ y) (fun a b _ _ p q => by omega) ?_ ?_ (hp.map k)
  · rw [List.pairwise_map]; exact h1
  · rw [List.pairwise_map]; exact h2
theorem Srt.pair {k : Nat → Int} {d : Nat → Nat} {n : Nat} (h : Srt k d 0 n) : ((List.range n).map d).Pairwise fun x y => k x ≤ k y := by
  rw [List.pairwise_map, List.pairwise_iff_getElem]
  intro i j hi hj hij
  simp only [List.length_range] at hi hj
  simp only [List.getElem_range]
  exact h i j (Nat.zero_le _) hij hj
end Go.Proofs.Ytkkcphjielkmoaa
