/- Rows and columns cut out of a Cauchy matrix; nothing of the program. -/
import Derived.Test.YtfilicbbkaifcaaCauchy
set_option linter.unusedSimpArgs false
set_option linter.unusedVariables false
namespace Go.Proofs.Ytfilicbbkaifcaa

/-- Different numbers below m. -/
def Picks (m : Nat) (l : List Nat) : Prop := ∀ i, i < l.length → l.getD i 0 < m ∧ ∀ j, j < i → l.getD i 0 ≠ l.getD j 0
theorem Picks.nil (m : Nat) : Picks m [] := fun i hi => absurd hi (by simp)
theorem Picks.push {m : Nat} {l : List Nat} (h : Picks m l) (a : Nat) (ha : a < m) (hd : ∀ j, j < l.length → l.getD j 0 ≠ a) : Picks m (l ++ [a]) := by
  have e1 : ∀ i, i < l.length → (l ++ [a]).getD i 0 = l.getD i 0 := fun i hi => by simp [List.getD_eq_getElem?_getD, List.getElem?_append_left hi]
  have e2 : (l ++ [a]).getD l.length 0 = a := by simp [List.getD_eq_getElem?_getD]
  intro i hi
  rw [List.length_append] at hi
  have h1 : ([a] : List Nat).length = 1 := rfl
  by_cases h2 : i < l.length
  · rw [e1 i h2]
    exact ⟨(h i h2).1, fun j hj => by rw [e1 j (by omega)]; exact (h i h2).2 j hj⟩
  · obtain rfl : i = l.length := by omega
    rw [e2]
    exact ⟨ha, fun j hj => by rw [e1 j hj]; exact (hd j hj).symm⟩
/-- So far a and b are new. -/
def frB (rl sl : List Nat) (a b j : Nat) : Bool := decide (∀ n, n < j → rl.getD n 0 ≠ a ∧ sl.getD n 0 ≠ b)
theorem fr_zero (rl sl : List Nat) (a b : Nat) : frB rl sl a b 0 = true := decide_eq_true fun n hn => absurd hn (by omega)
theorem fr_next (rl sl : List Nat) (a b j : Nat) (h : frB rl sl a b j = true) (h1 : rl.getD j 0 ≠ a) (h2 : sl.getD j 0 ≠ b) : frB rl sl a b (j + 1) = true := decide_eq_true fun n hn => by
  rcases Nat.lt_or_ge n j with h3 | h3
  · exact of_decide_eq_true h n h3
  · obtain rfl : n = j := by omega
    exact ⟨h1, h2⟩
theorem fr_no1 (rl sl : List Nat) (a b j : Nat) (h1 : rl.getD j 0 = a) : frB rl sl a b (j + 1) = false := decide_eq_false fun g => (g j (by omega)).1 h1
theorem fr_no2 (rl sl : List Nat) (a b j : Nat) (h1 : sl.getD j 0 = b) : frB rl sl a b (j + 1) = false := decide_eq_false fun g => (g j (by omega)).2 h1
theorem fr_still (rl sl : List Nat) (a b j : Nat) (h : frB rl sl a b j = false) : frB rl sl a b (j + 1) = false := decide_eq_false fun g => of_decide_eq_false h fun n hn => g n (by omega)
/-- What is cut out. -/
def cutM (k : Nat) (rl sl : List Nat) : Mx := fun i j => cau k (rl.getD i 0) (sl.getD j 0)
theorem ofNat8_ne (a b : Nat) (ha : a < 256) (hb : b < 256) (h : a ≠ b) : BitVec.ofNat 8 a ≠ BitVec.ofNat 8 b := fun e => h (by
  have := congrArg BitVec.toNat e
  simp only [BitVec.toNat_ofNat] at this
  omega)
theorem picks_ne {m : Nat} {l : List Nat} (h : Picks m l) (i j : Nat) (hi : i < l.length) (hj : j < l.length) (hij : i ≠ j) : l.getD i 0 ≠ l.getD j 0 := by
  rcases Nat.lt_or_gt_of_ne hij with h1 | h1
  · exact ((h j hj).2 i h1).symm
  · exact (h i hi).2 j h1
theorem cut_not (k m t : Nat) (rl sl : List Nat) (hk : k ≤ 64) (hm : m ≤ 64) (hr : Picks m rl) (hs : Picks k sl) (h1 : rl.length = t) (h2 : sl.length = t) : ¬ NoInv t (mx (rowsL t t (cutM k rl sl))) := fun h => by
  obtain ⟨v, l, hl, hv, h3⟩ := h.kernel
  have hrm : ∀ i, i < t → rl.getD i 0 < m := fun i hi => (hr i (by omega)).1
  have hsk : ∀ j, j < t → sl.getD j 0 < k := fun j hj => (hs j (by omega)).1
  have h0 := cauchy_kernel t (fun i => BitVec.ofNat 8 (k + rl.getD i 0)) (fun j => BitVec.ofNat 8 (sl.getD j 0))
    (fun i j hi hj hij => ofNat8_ne _ _ (by have := hrm i hi; omega) (by have := hrm j hj; omega) (fun e => picks_ne hr i j (by omega) (by omega) hij (by omega)))
    (fun i j hi hj hij => ofNat8_ne _ _ (by have := hsk i hi; omega) (by have := hsk j hj; omega) (picks_ne hs i j (by omega) (by omega) hij))
    (fun i j hi hj => ofNat8_ne _ _ (by have := hrm i hi; omega) (by have := hsk j hj; omega) (by have := hsk j hj; omega))
    v (fun i hi => by
      rw [← h3 i hi]
      exact xs_congr fun j hj => by rw [rowsL_mx _ _ _ _ _ hi hj]; rfl) l hl
  rw [hv] at h0
  exact absurd h0 (by decide)
end Go.Proofs.Ytfilicbbkaifcaa
