/- Each vector is covered by one that Last keeps, in plain words. -/
import Derived.Test.YtdkbmidacpooiaaLsr9
set_option linter.unusedSimpArgs false
set_option linter.unusedVariables false
namespace Go.Proofs.Ytdkbmidacpooiaa
open Go Go.RowKit

theorem cv_refl (f : Nat → Int) : cvV f f = true := cvV_iff.2 fun _ _ => Int.le_refl _
theorem cv_trans {f g h : Nat → Int} (h1 : cvV f g = true) (h2 : cvV g h = true) : cvV f h = true := cvV_iff.2 fun i hi => Int.le_trans (cvV_iff.1 h2 i hi) (cvV_iff.1 h1 i hi)
/-- Number k of a list. -/
def atL (l : List (Nat → Int)) (k : Nat) : Nat → Int := l.getD k fun _ => 0
theorem behind_iff (l : List (Nat → Int)) (i j : Nat) : behindL l i j = true ↔ cvV (atL l j) (atL l i) = true ∧ (cvV (atL l i) (atL l j) = false ∨ j < i) := by
  unfold behindL
  show (cmpV (atL l i) (atL l j) == -1 || (cmpV (atL l i) (atL l j) == 0 && decide (j < i))) = true ↔ _
  unfold cmpV
  rw [veq_cv]
  cases h1 : cvV (atL l i) (atL l j) <;> cases h2 : cvV (atL l j) (atL l i) <;> simp
theorem behind_irr (l : List (Nat → Int)) (i : Nat) : behindL l i i = false := by
  cases e : behindL l i i with
  | false => rfl
  | true =>
    obtain ⟨_, h⟩ := (behind_iff l i i).1 e
    rw [cv_refl] at h
    rcases h with h | h
    · cases h
    · omega
theorem behind_trans {l : List (Nat → Int)} {i j k : Nat} (h1 : behindL l i j = true) (h2 : behindL l j k = true) : behindL l i k = true := by
  obtain ⟨a1, a2⟩ := (behind_iff l i j).1 h1
  obtain ⟨b1, b2⟩ := (behind_iff l j k).1 h2
  refine (behind_iff l i k).2 ⟨cv_trans b1 a1, ?_⟩
  cases e : cvV (atL l i) (atL l k) with
  | false => exact .inl rfl
  | true =>
    refine .inr ?_
    rw [cv_trans e b1] at a2
    rw [cv_trans a1 e] at b2
    rcases a2 with a2 | a2
    · cases a2
    · rcases b2 with b2 | b2
      · cases b2
      · omega
theorem count_less {p q : Nat → Bool} (L : List Nat) (h : ∀ x ∈ L, p x = true → q x = true) (hx : ∃ x ∈ L, q x = true ∧ p x = false) : L.countP p < L.countP q := by
  have hle : ∀ (L : List Nat), (∀ x ∈ L, p x = true → q x = true) → L.countP p ≤ L.countP q := fun L h => List.countP_mono_left h
  induction L with
  | nil => obtain ⟨x, hx, _⟩ := hx; cases hx
  | cons a r ih =>
    rw [List.countP_cons, List.countP_cons]
    obtain ⟨x, hm, h1, h2⟩ := hx
    have hr : ∀ x ∈ r, p x = true → q x = true := fun y hy => h y (List.mem_cons_of_mem _ hy)
    rcases List.mem_cons.1 hm with e | e
    · subst e
      rw [h1, h2]
      have := hle r hr
      simp
      omega
    · have h3 := ih hr ⟨x, e, h1, h2⟩
      have h4 := h a (by simp)
      cases hp : p a <;> cases hq : q a <;> simp_all <;> omega
theorem last_mem {l : List (Nat → Int)} {k : Nat} : k ∈ lastL l ↔ k < l.length ∧ keepI l k = true := by
  unfold lastL lastTo
  rw [List.mem_filter, List.mem_range]
theorem last_covers (l : List (Nat → Int)) (i : Nat) (hi : i < l.length) : ∃ k ∈ lastL l, cvV (atL l k) (atL l i) = true := by
  obtain ⟨n, hn⟩ : ∃ n, (List.range l.length).countP (fun q => behindL l i q) = n := ⟨_, rfl⟩
  induction n using Nat.strongRecOn generalizing i with
  | _ n ih =>
    cases hk : keepI l i with
    | true => exact ⟨i, last_mem.2 ⟨hi, hk⟩, cv_refl _⟩
    | false =>
      have : ∃ j, j < l.length ∧ behindL l i j = true := by
        unfold keepI at hk
        rw [List.all_eq_false] at hk
        obtain ⟨j, hj, hb⟩ := hk
        exact ⟨j, List.mem_range.1 hj, by simpa using hb⟩
      obtain ⟨j, hj, hb⟩ := this
      have hlt : (List.range l.length).countP (fun q => behindL l j q) < n := by
        rw [← hn]
        exact count_less _ (fun q _ hq => behind_trans hb hq) ⟨j, List.mem_range.2 hj, hb, behind_irr l j⟩
      obtain ⟨k, hk1, hk2⟩ := ih _ hlt j hj rfl
      exact ⟨k, hk1, cv_trans hk2 ((behind_iff l i j).1 hb).1⟩
/-- Is number k covered by one of the first j that are kept? -/
def covTo (l : List (Nat → Int)) (k j : Nat) : Bool := ((lastL l).take j).any fun q => cvV (atL l q) (atL l k)
theorem covTo_succ (l : List (Nat → Int)) (k j : Nat) (hj : j < (lastL l).length) : covTo l k (j + 1) = (covTo l k j || cvV (atL l ((lastL l).getD j 0)) (atL l k)) := by
  unfold covTo
  rw [List.take_succ_eq_append_getElem hj, List.any_append, List.getD_eq_getElem?_getD, List.getElem?_eq_getElem hj]
  simp
theorem covTo_all (l : List (Nat → Int)) (k : Nat) (hk : k < l.length) : covTo l k (lastL l).length = true := by
  unfold covTo
  rw [List.take_length, List.any_eq_true]
  obtain ⟨q, h1, h2⟩ := last_covers l k hk
  exact ⟨q, h1, h2⟩
theorem last_lt (l : List (Nat → Int)) (j : Nat) (hj : j < (lastL l).length) : (lastL l).getD j 0 < l.length := by
  rw [List.getD_eq_getElem?_getD, List.getElem?_eq_getElem hj]
  exact (last_mem.1 (List.getElem_mem hj)).1
end Go.Proofs.Ytdkbmidacpooiaa
