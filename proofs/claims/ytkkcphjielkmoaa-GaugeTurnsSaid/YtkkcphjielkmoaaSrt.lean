/- Rows of words put in order: exchanges, rotations, merges; plain functions, nothing of the program. -/
import Derived.WalkKit
set_option linter.unusedSimpArgs false
set_option linter.unusedVariables false
namespace Go.Proofs.Ytkkcphjielkmoaa
open Go

/-- Two places exchanged. -/
def sw (d : Nat → Nat) (i j : Nat) : Nat → Nat := fun x => if x = j then d i else if x = i then d j else d x
/-- In order between a and b. -/
def Srt (k : Nat → Int) (d : Nat → Nat) (a b : Nat) : Prop := ∀ i j, a ≤ i → i < j → j < b → k (d i) ≤ k (d j)
/-- Only exchanged between a and b. -/
inductive PI (a b : Nat) (d : Nat → Nat) : (Nat → Nat) → Prop
  | refl : PI a b d d
  | step {e : Nat → Nat} {i j : Nat} : PI a b d e → a ≤ i → i < b → a ≤ j → j < b → PI a b d (sw e i j)
theorem PI.trans {a b : Nat} {d e f : Nat → Nat} (h : PI a b d e) (g : PI a b e f) : PI a b d f := by
  induction g with
  | refl => exact h
  | step _ h1 h2 h3 h4 ih => exact .step ih h1 h2 h3 h4
theorem PI.mono {a b a' b' : Nat} {d e : Nat → Nat} (h : PI a b d e) (ha : a' ≤ a) (hb : b ≤ b') : PI a' b' d e := by
  induction h with
  | refl => exact .refl
  | step _ h1 h2 h3 h4 ih => exact .step ih (by omega) (by omega) (by omega) (by omega)
theorem PI.out {a b : Nat} {d e : Nat → Nat} (h : PI a b d e) (x : Nat) (hx : x < a ∨ b ≤ x) : e x = d x := by
  induction h with
  | refl => rfl
  | step _ h1 h2 h3 h4 ih =>
    unfold sw
    rw [if_neg (by omega), if_neg (by omega)]
    exact ih
theorem PI.mem {a b : Nat} {d e : Nat → Nat} (h : PI a b d e) (x : Nat) (h1 : a ≤ x) (h2 : x < b) : ∃ y, a ≤ y ∧ y < b ∧ e x = d y := by
  induction h generalizing x with
  | refl => exact ⟨x, h1, h2, rfl⟩
  | step _ g1 g2 g3 g4 ih =>
    unfold sw
    split
    · exact ih _ g1 g2
    · split
      · exact ih _ g3 g4
      · exact ih _ h1 h2
theorem PI.any {a b n : Nat} {d e : Nat → Nat} {P : Nat → Prop} (h : PI a b d e) (hb : b ≤ n) (hd : ∀ x, x < n → P (d x)) (x : Nat) (hx : x < n) : P (e x) := by
  by_cases g : a ≤ x ∧ x < b
  · obtain ⟨y, h1, h2, h3⟩ := h.mem x g.1 g.2
    rw [h3]; exact hd y (by omega)
  · rw [h.out x (by omega)]; exact hd x hx
theorem sw_perm (e : Nat → Nat) (i j n : Nat) (hi : i < n) (hj : j < n) : ((List.range n).map (sw e i j)).Perm ((List.range n).map e) := by
  have hs : ((List.range n).map e).toArray.size = n := by simp
  have h := Array.swap_perm (xs := ((List.range n).map e).toArray) (i := i) (j := j) (by rw [hs]; exact hi) (by rw [hs]; exact hj)
  have h2 := h.toList
  refine List.Perm.trans (List.Perm.of_eq ?_) h2
  apply List.ext_getElem
  · simp
  · intro x h1 h3
    simp only [List.length_map, List.length_range] at h1
    simp only [List.getElem_map, List.getElem_range, Array.getElem_toList, Array.getElem_swap, List.getElem_toArray]
    unfold sw
    by_cases e1 : x = j
    · subst e1
      by_cases e2 : x = i
      · subst e2; simp
      · simp [e2]
    · by_cases e2 : x = i
      · subst e2; simp [e1]
      · simp [e1, e2]
theorem PI.perm {a b n : Nat} {d e : Nat → Nat} (h : PI a b d e) (hb : b ≤ n) : ((List.range n).map e).Perm ((List.range n).map d) := by
  induction h with
  | refl => exact List.Perm.refl _
  | step _ h1 h2 h3 h4 ih => exact (sw_perm _ _ _ n (by omega) (by omega)).trans ih
theorem Srt.mono {k : Nat → Int} {d : Nat → Nat} {a b a' b' : Nat} (h : Srt k d a b) (ha : a ≤ a') (hb : b' ≤ b) : Srt k d a' b' := fun i j h1 h2 h3 => h i j (by omega) h2 (by omega)
theorem Srt.congr {k : Nat → Int} {d e : Nat → Nat} {a b : Nat} (h : Srt k d a b) (g : ∀ x, a ≤ x → x < b → e x = d x) : Srt k e a b := fun i j h1 h2 h3 => by
  rw [g i h1 (by omega), g j (by omega) h3]; exact h i j h1 h2 h3
theorem Srt.one (k : Nat → Int) (d : Nat → Nat) (a b : Nat) (h : b ≤ a + 1) : Srt k d a b := fun i j h1 h2 h3 => by omega
theorem Srt.glue {k : Nat → Int} {d : Nat → Nat} {a c b : Nat} (h1 : Srt k d a c) (h2 : Srt k d c b) (h3 : ∀ x y, a ≤ x → x < c → c ≤ y → y < b → k (d x) ≤ k (d y)) : Srt k d a b := fun i j p q r => by
  by_cases g1 : j < c
  · exact h1 i j p q g1
  · by_cases g2 : i < c
    · exact h3 i j p g2 (by omega) r
    · exact h2 i j (by omega) q r
theorem Srt.le {k : Nat → Int} {d : Nat → Nat} {a b : Nat} (h : Srt k d a b) (i j : Nat) (h1 : a ≤ i) (h2 : i ≤ j) (h3 : j < b) : k (d i) ≤ k (d j) := by
  rcases Nat.lt_or_ge i j with g | g
  · exact h i j h1 g h3
  · obtain rfl : i = j := by omega
    exact Int.le_refl _

/-- Two ranges exchanged. -/
def swR (d : Nat → Nat) (a b n : Nat) : Nat → Nat := fun x => if a ≤ x ∧ x < a + n then d (x + b - a) else if b ≤ x ∧ x < b + n then d (x + a - b) else d x
theorem swR_zero (d : Nat → Nat) (a b : Nat) : swR d a b 0 = d := by
  funext x
  unfold swR
  rw [if_neg (by omega), if_neg (by omega)]
theorem swR_step (d : Nat → Nat) (a b n : Nat) (h : a + n < b) : sw (swR d a b n) (a + n) (b + n) = swR d a b (n + 1) := by
  funext x
  unfold sw swR
  by_cases h1 : x = b + n
  · subst h1
    rw [if_pos rfl, if_neg (by omega), if_neg (by omega), if_neg (by omega), if_pos (by omega)]
    congr 1; omega
  · rw [if_neg h1]
    by_cases h2 : x = a + n
    · subst h2
      rw [if_pos rfl, if_neg (by omega), if_neg (by omega), if_pos (by omega)]
      congr 1; omega
    · rw [if_neg h2]
      by_cases h3 : a ≤ x ∧ x < a + n
      · rw [if_pos h3, if_pos (by omega)]
      · rw [if_neg h3, if_neg (show ¬(a ≤ x ∧ x < a + (n + 1)) by omega)]
        by_cases h4 : b ≤ x ∧ x < b + n
        · rw [if_pos h4, if_pos (by omega)]
        · rw [if_neg h4, if_neg (by omega)]
theorem swR_PI (d : Nat → Nat) (a b n lo hi : Nat) (h : a + n ≤ b) (h1 : lo ≤ a) (h2 : b + n ≤ hi) : PI lo hi d (swR d a b n) := by
  induction n with
  | zero => rw [swR_zero]; exact .refl
  | succ n ih =>
    rw [← swR_step d a b n (by omega)]
    exact .step (ih (by omega) (by omega)) (by omega) (by omega) (by omega) (by omega)
/-- The range from a to m and that from m to b, in the other order. -/
def Rot (d : Nat → Nat) (a m b : Nat) : Nat → Nat := fun x => if a ≤ x ∧ x < a + b - m then d (x + m - a) else if a + b - m ≤ x ∧ x < b ∧ a ≤ x then d (x + m - b) else d x
theorem rot_gt (d : Nat → Nat) (m i j : Nat) (h : j < i) (h1 : 0 < j) (hm : i ≤ m) : Rot (swR d (m - i) m j) (m - (i - j)) m (m + j) = Rot d (m - i) m (m + j) := by
  funext x
  unfold Rot swR
  try dsimp only
  repeat' split
  all_goals first
    | omega
    | (congr 1; omega)
    | rfl
theorem rot_lt (d : Nat → Nat) (m i j : Nat) (h : i < j) (h1 : 0 < i) (hm : i ≤ m) : Rot (swR d (m - i) (m + j - i) i) (m - i) m (m + (j - i)) = Rot d (m - i) m (m + j) := by
  funext x
  unfold Rot swR
  try dsimp only
  repeat' split
  all_goals first
    | omega
    | (congr 1; omega)
    | rfl
theorem rot_eq (d : Nat → Nat) (m i : Nat) (hm : i ≤ m) : swR d (m - i) m i = Rot d (m - i) m (m + i) := by
  funext x
  unfold Rot swR
  try dsimp only
  repeat' split
  all_goals first
    | omega
    | (congr 1; omega)
    | rfl
theorem rot_l0 (d : Nat → Nat) (a : Nat) : Rot d a (a + 1) (a + 1) = d := by
  funext x
  unfold Rot
  repeat' split
  all_goals first
    | omega
    | (congr 1; omega)
    | rfl
theorem rot_l1 (d : Nat → Nat) (a k : Nat) (h : a ≤ k) : sw (Rot d a (a + 1) (k + 1)) k (k + 1) = Rot d a (a + 1) (k + 2) := by
  funext x
  unfold sw Rot
  try dsimp only
  repeat' split
  all_goals first
    | omega
    | (congr 1; omega)
    | rfl
theorem rot_r0 (d : Nat → Nat) (m : Nat) : Rot d m m (m + 1) = d := by
  funext x
  unfold Rot
  repeat' split
  all_goals first
    | omega
    | (congr 1; omega)
    | rfl
theorem rot_r1 (d : Nat → Nat) (m k : Nat) (h : k + 1 ≤ m) : sw (Rot d (k + 1) m (m + 1)) (k + 1) k = Rot d k m (m + 1) := by
  funext x
  unfold sw Rot
  try dsimp only
  repeat' split
  all_goals first
    | omega
    | (congr 1; omega)
    | rfl
theorem rot_none (d : Nat → Nat) (s m e : Nat) (h : s = m ∨ m = e) (h1 : s ≤ m) (h2 : m ≤ e) : Rot d s m e = d := by
  funext x
  unfold Rot
  repeat' split
  all_goals first
    | omega
    | (congr 1; omega)
    | rfl
section
variable {k : Nat → Int} {d : Nat → Nat} {a m b s e : Nat}
theorem rot_parts (h1 : Srt k d a m) (h2 : Srt k d m b) (hs : a ≤ s) (hm : s ≤ m) (he : m ≤ e) (hb : e ≤ b) :
    Srt k (Rot d s m e) a s ∧ Srt k (Rot d s m e) s (s + e - m) ∧ Srt k (Rot d s m e) (s + e - m) e ∧ Srt k (Rot d s m e) e b := by
  refine ⟨(h1.mono (Nat.le_refl _) hm).congr fun x g1 g2 => ?_, fun i j g1 g2 g3 => ?_, fun i j g1 g2 g3 => ?_, (h2.mono he (Nat.le_refl _)).congr fun x g1 g2 => ?_⟩
  · unfold Rot; rw [if_neg (by omega), if_neg (by omega)]
  · unfold Rot; rw [if_pos (by omega), if_pos (by omega)]; exact h2 _ _ (by omega) (by omega) (by omega)
  · unfold Rot; rw [if_neg (by omega), if_pos (by omega), if_neg (by omega), if_pos (by omega)]; exact h1 _ _ (by omega) (by omega) (by omega)
  · unfold Rot; rw [if_neg (by omega), if_neg (by omega)]
theorem rot_cross (h1 : Srt k d a m) (h2 : Srt k d m b) (hs : a ≤ s) (hm : s ≤ m) (he : m ≤ e) (hb : e ≤ b)
    (c1 : ∀ x y, a ≤ x → x < s → e ≤ y → y < b → k (d x) ≤ k (d y)) (c2 : ∀ x y, m ≤ x → x < e → s ≤ y → y < m → k (d x) ≤ k (d y)) (x y : Nat) (p1 : a ≤ x) (p2 : x < s + e - m) (p3 : s + e - m ≤ y) (p4 : y < b) : k (Rot d s m e x) ≤ k (Rot d s m e y) := by
  unfold Rot
  by_cases g1 : x < s
  · rw [if_neg (by omega), if_neg (by omega)]
    by_cases g2 : y < e
    · rw [if_neg (by omega), if_pos (by omega)]
      exact h1 _ _ p1 (by omega) (by omega)
    · rw [if_neg (by omega), if_neg (by omega)]
      exact c1 _ _ p1 g1 (by omega) p4
  · rw [if_pos (by omega)]
    by_cases g2 : y < e
    · rw [if_neg (by omega), if_pos (by omega)]
      exact c2 _ _ (by omega) (by omega) (by omega) (by omega)
    · rw [if_neg (by omega), if_neg (by omega)]
      exact h2 _ _ (by omega) (by omega) p4
/-- One number put in its place, from the left. -/
theorem put_left {i : Nat} (h2 : Srt k d (a + 1) b) (ha : a + 1 ≤ i) (hi : i ≤ b) (c1 : ∀ x, a + 1 ≤ x → x < i → k (d x) ≤ k (d a)) (c2 : ∀ y, i ≤ y → y < b → k (d a) ≤ k (d y)) : Srt k (Rot d a (a + 1) i) a b := fun p q g1 g2 g3 => by
  unfold Rot
  by_cases e1 : q < i - 1
  · rw [if_pos (by omega), if_pos (by omega)]; exact h2 _ _ (by omega) (by omega) (by omega)
  · by_cases e2 : q < i
    · rw [if_pos (by omega), if_neg (by omega), if_pos (by omega), show q + (a + 1) - i = a by omega]
      exact c1 _ (by omega) (by omega)
    · rw [if_neg (show ¬(a ≤ q ∧ q < a + i - (a + 1)) by omega), if_neg (show ¬(a + i - (a + 1) ≤ q ∧ q < i ∧ a ≤ q) by omega)]
      by_cases e3 : p < i - 1
      · rw [if_pos (by omega)]; exact h2 _ _ (by omega) (by omega) g3
      · by_cases e4 : p < i
        · rw [if_neg (by omega), if_pos (by omega), show p + (a + 1) - i = a by omega]; exact c2 _ (by omega) g3
        · rw [if_neg (by omega), if_neg (by omega)]; exact h2 _ _ (by omega) g2 g3
/-- One number put in its place, from the right. -/
theorem put_right {i : Nat} (h1 : Srt k d a m) (ha : a ≤ i) (hi : i ≤ m) (c1 : ∀ x, a ≤ x → x < i → k (d x) ≤ k (d m)) (c2 : ∀ y, i ≤ y → y < m → k (d m) ≤ k (d y)) : Srt k (Rot d i m (m + 1)) a (m + 1) := fun p q g1 g2 g3 => by
  unfold Rot
  by_cases e1 : p < i
  · rw [if_neg (show ¬(i ≤ p ∧ p < i + (m + 1) - m) by omega), if_neg (show ¬(i + (m + 1) - m ≤ p ∧ p < m + 1 ∧ i ≤ p) by omega)]
    by_cases e2 : q < i
    · rw [if_neg (by omega), if_neg (by omega)]; exact h1 _ _ g1 g2 (by omega)
    · by_cases e3 : q < i + 1
      · rw [if_pos (by omega), show q + m - i = m by omega]; exact c1 _ g1 e1
      · rw [if_neg (by omega), if_pos (by omega)]; exact h1 _ _ g1 (by omega) (by omega)
  · by_cases e3 : p < i + 1
    · rw [if_pos (by omega), show p + m - i = m by omega, if_neg (by omega), if_pos (by omega)]; exact c2 _ (by omega) (by omega)
    · rw [if_neg (by omega), if_pos (by omega), if_neg (by omega), if_pos (by omega)]; exact h1 _ _ (by omega) (by omega) (by omega)
/-- What the merge's search finds. -/
theorem sym_cross {s0 r0 : Nat} (h1 : Srt k d a m) (h2 : Srt k d m b) (mid : Nat) (hmid : mid = (a + b) / 2) (ha : a < m) (hb : m < b)
    (hs0 : s0 = if mid < m then mid + m - b else a) (hr0 : r0 = if mid < m then mid else m) (g1 : s0 ≤ s) (g2 : s ≤ r0)
    (c1 : ∀ c, s0 ≤ c → c < s → k (d c) ≤ k (d (mid + m - 1 - c))) (c2 : ∀ c, s ≤ c → c < r0 → k (d (mid + m - 1 - c)) < k (d c)) (he : e = mid + m - s) :
    a ≤ s ∧ s ≤ m ∧ m ≤ e ∧ e ≤ b ∧ s + e - m = mid ∧ (∀ x y, a ≤ x → x < s → e ≤ y → y < b → k (d x) ≤ k (d y)) ∧ (∀ x y, m ≤ x → x < e → s ≤ y → y < m → k (d x) ≤ k (d y)) := by
  have hm0 : a ≤ mid ∧ mid < b ∧ 2 * mid ≤ a + b ∧ a + b ≤ 2 * mid + 1 := by omega
  have b1 : a ≤ s0 ∧ r0 ≤ m ∧ r0 ≤ mid ∧ mid + m ≤ b + s0 := by
    split at hs0 <;> split at hr0 <;> omega
  refine ⟨by omega, by omega, by omega, by omega, by omega, fun x y p1 p2 p3 p4 => ?_, fun x y p1 p2 p3 p4 => ?_⟩
  · by_cases q : s = s0
    · exfalso
      split at hs0 <;> omega
    · have t1 := h1.le x (s - 1) p1 (by omega) (by omega)
      have t2 := c1 (s - 1) (by omega) (by omega)
      rw [show mid + m - 1 - (s - 1) = e by omega] at t2
      have t3 := h2.le e y (by omega) p3 p4
      omega
  · by_cases q : s = r0
    · exfalso
      split at hr0 <;> omega
    · have t1 := h2.le x (e - 1) p1 (by omega) (by omega)
      have t2 := c2 s (by omega) (by omega)
      rw [show mid + m - 1 - s = e - 1 by omega] at t2
      have t3 := h1.le s y (by omega) p3 p4
      omega
end
end Go.Proofs.Ytkkcphjielkmoaa
