/- The elimination as row steps; nothing of the program. -/
import Derived.Test.YtfilicbbkaifcaaElim
import Derived.Test.YtfilicbbkaifcaaBeside
set_option linter.unusedSimpArgs false
set_option linter.unusedVariables false
namespace Go.Proofs.Ytfilicbbkaifcaa

/-- What steps do to a column hangs on that column alone. -/
theorem Rop.spread {n : Nat} {T U : Mx → Mx} (h : Rop n T U) (X : Mx) (j i : Nat) : T X i j = T (fun i _ => X i j) i 0 := by
  have e : ∀ (Z : Mx) i k, mm (j + 1) Z (fun l _ => if l = j then 1#8 else 0#8) i k = Z i j := fun Z i k => by
    unfold mm
    rw [xs_one (j + 1) j (by omega)]
    · show gm (Z i j) (if j = j then 1#8 else 0#8) = Z i j
      rw [if_pos rfl, gm_one_r]
    · intro l _ hl
      show gm (Z i l) (if l = j then 1#8 else 0#8) = 0#8
      rw [if_neg hl, gm_zr]
  have h1 := h.left (j + 1) X (fun l _ => if l = j then 1#8 else 0#8) i 0
  rw [e (T X) i 0, funext2 (e X)] at h1
  exact h1
theorem Rop.column {n : Nat} {T U : Mx → Mx} (h : Rop n T U) (X Y : Mx) (j l : Nat) (e : ∀ i, i < n → X i j = Y i l) (i : Nat) (hi : i < n) : T X i j = T Y i l := by
  rw [h.spread X j i, h.spread Y l i]
  exact h.congr _ _ 0 (fun i hi => e i hi) i hi
theorem clr_lt (k c : Nat) (P : Mx) (i j : Nat) (h : i < k ∧ i ≠ c) : clrM k c P i j = P i j ^^^ gm (P i c) (P c j) := if_pos h
theorem clr_ge (k c : Nat) (P : Mx) (i j : Nat) (h : ¬ (i < k ∧ i ≠ c)) : clrM k c P i j = P i j := if_neg h
theorem clr_steps (n c : Nat) (hc : c < n) (P : Mx) : ∀ k, k ≤ n → ∃ T U, Steps n T U ∧ clrM k c P = T P := by
  intro k
  induction k with
  | zero =>
    intro _
    refine ⟨_, _, Steps.refl n, funext2 fun i j => ?_⟩
    unfold clrM
    rw [if_neg (by omega)]
  | succ k ih =>
    intro hk
    obtain ⟨T, U, h, e⟩ := ih (by omega)
    by_cases hkc : k = c
    · refine ⟨T, U, h, ?_⟩
      rw [← e]
      refine funext2 fun i j => ?_
      unfold clrM
      by_cases h1 : i < k ∧ i ≠ c
      · rw [if_pos h1, if_pos (by omega)]
      · rw [if_neg h1, if_neg (by omega)]
    · refine ⟨_, _, h.trans (steps_add n c k hc (by omega) (Ne.symm hkc) (P k c)), ?_⟩
      refine funext2 fun i j => ?_
      show clrM (k + 1) c P i j = radd c k (P k c) (T P) i j
      rw [← e]
      unfold radd
      by_cases h1 : i = k
      · subst h1
        rw [if_pos rfl, clr_lt _ _ _ _ _ ⟨by omega, hkc⟩, clr_ge _ _ _ _ _ (by omega), clr_ge _ _ _ _ _ (by omega)]
      · rw [if_neg h1]
        by_cases h2 : i < k ∧ i ≠ c
        · rw [clr_lt _ _ _ _ _ h2, clr_lt _ _ _ _ _ (by omega)]
        · rw [clr_ge _ _ _ _ _ h2, clr_ge _ _ _ _ _ (by omega)]
theorem elim_steps (n c : Nat) (hc : c < n) (X : Mx) (h : X c c ≠ 0#8) : ∃ T U, Steps n T U ∧ clrM n c (pivM c X) = T X := by
  obtain ⟨T, U, h1, e⟩ := clr_steps n c hc (pivM c X) n (Nat.le_refl _)
  exact ⟨_, _, (steps_scale n c hc (gi (X c c)) (gi_ne _)).trans h1, e⟩
/-- The first c columns are the unit's. -/
def UpTo (n c : Nat) (X : Mx) : Prop := ∀ i j, i < n → j < c → X i j = id1 i j
theorem upTo_elim (n c : Nat) (hc : c < n) (X : Mx) (h : X c c ≠ 0#8) (hu : UpTo n c X) : UpTo n (c + 1) (clrM n c (pivM c X)) := by
  intro i j hi hj
  have hp : ∀ j, pivM c X c j = gm (gi (X c c)) (X c j) := fun j => by unfold pivM rscale; rw [if_pos rfl]
  have hq : ∀ i j, i ≠ c → pivM c X i j = X i j := fun i j hic => by unfold pivM rscale; rw [if_neg hic]
  unfold clrM
  by_cases hic : i = c
  · subst hic
    rw [if_neg (by omega), hp]
    by_cases hji : j = i
    · subst hji
      rw [gm_comm, gm_gi _ h, id1, if_pos rfl]
    · rw [hu i j hi (by omega), id1, if_neg (Ne.symm hji), gm_zr]
  · rw [if_pos ⟨hi, hic⟩, hq _ _ hic, hq _ _ hic, hp]
    by_cases hjc : j = c
    · subst hjc
      rw [gm_comm (gi (X j j)), gm_gi _ h, gm_one_r, xor_self', id1, if_neg hic]
    · rw [hu c j hc (by omega), hu i j hi (by omega)]
      show id1 i j ^^^ gm (X i c) (gm (gi (X c c)) (id1 c j)) = id1 i j
      rw [show id1 c j = 0#8 from if_neg (Ne.symm hjc), gm_zr, gm_zr, BitVec.xor_zero]
theorem upTo_swap (n c q : Nat) (hc : c < n) (hq : q < n) (hcq : c ≤ q) (X : Mx) (hu : UpTo n c X) : UpTo n c (rswap c q X) := by
  intro i j hi hj
  show X (swp c q i) j = id1 i j
  unfold swp
  by_cases h1 : i = c
  · rw [if_pos h1, hu q j hq hj, id1, id1, if_neg (by omega), if_neg (by omega)]
  · rw [if_neg h1]
    by_cases h2 : i = q
    · rw [if_pos h2, hu c j hc hj, id1, id1, if_neg (by omega), if_neg (by omega)]
    · rw [if_neg h2]; exact hu i j hi hj
/-- What the elimination has reached in column c. -/
def Reach (n c : Nat) (a X : Mx) : Prop := ∃ T U, Steps n T U ∧ X = T (wide n a) ∧ UpTo n c X
theorem reach_zero (n : Nat) (a : Mx) : Reach n 0 a (wide n a) := ⟨_, _, Steps.refl n, rfl, fun i j _ hj => absurd hj (by omega)⟩
theorem Reach.next {n c q : Nat} {a X : Mx} (h : Reach n c a X) (hc : c < n) (hq : q < n) (hcq : c ≤ q) (h0 : X q c ≠ 0#8) : Reach n (c + 1) a (clrM n c (pivM c (rswap c q X))) := by
  obtain ⟨T, U, h1, rfl, h3⟩ := h
  have hne : rswap c q (T (wide n a)) c c ≠ 0#8 := by
    show T (wide n a) (swp c q c) c ≠ 0#8
    rwa [show swp c q c = q from if_pos rfl]
  obtain ⟨T', U', h4, e⟩ := elim_steps n c hc _ hne
  exact ⟨_, _, (h1.trans (steps_swap n c q hc hq)).trans h4, e, upTo_elim n c hc _ hne (upTo_swap n c q hc hq hcq _ h3)⟩
/-- Steps are stuck: no inverse. -/
def NoInv (n : Nat) (a : Mx) : Prop := ∃ T U k, Steps n T U ∧ Stuck n k (T a)
theorem Reach.stuck {n c : Nat} {a X : Mx} (h : Reach n c a X) (hc : c < n) (h0 : ∀ i, c ≤ i → i < n → X i c = 0#8) : NoInv n a := by
  obtain ⟨T, U, h1, rfl, h3⟩ := h
  have e : ∀ i j, i < n → j < n → T a i j = T (wide n a) i j := fun i j hi hj => h1.1.column a (wide n a) j j (fun i _ => by unfold wide; rw [if_pos hj]) i hi
  exact ⟨T, U, c, h1, hc, fun i j hi hj => by rw [e i j hi (by omega)]; exact h3 i j hi hj, fun i hci hi => by rw [e i c hi hc]; exact h0 i hci hi⟩
/-- v is the inverse of a, on either side. -/
def IsInv (n : Nat) (a v : Mx) : Prop := (∀ i k, i < n → k < n → mm n v a i k = id1 i k) ∧ (∀ i k, i < n → k < n → mm n a v i k = id1 i k)
theorem Reach.done {n : Nat} {a X : Mx} (h : Reach n n a X) : IsInv n a (fun i j => X i (n + j)) ∧ det n a ≠ 0#8 := by
  obtain ⟨T, U, h1, rfl, h3⟩ := h
  have e : ∀ i j, i < n → j < n → T a i j = T (wide n a) i j := fun i j hi hj => h1.1.column a (wide n a) j j (fun i _ => by unfold wide; rw [if_pos hj]) i hi
  have e2 : ∀ i j, i < n → T (wide n a) i (n + j) = T id1 i j := fun i j hi => h1.1.column (wide n a) id1 (n + j) j (fun i _ => by unfold wide; rw [if_neg (by omega), Nat.add_sub_cancel_left]) i hi
  have hu : ∀ i k, i < n → k < n → T a i k = id1 i k := fun i k hi hk => by rw [e i k hi hk]; exact h3 i k hi hk
  obtain ⟨g1, g2⟩ := h1.1.inverse a hu
  refine ⟨⟨fun i k hi hk => ?_, fun i k hi hk => ?_⟩, h1.unit a hu⟩
  · rw [← g1 i k hi hk]; exact mm_congr (fun j _ => e2 i j hi) (fun j _ => rfl)
  · rw [← g2 i k hi hk]; exact mm_congr (fun j _ => rfl) (fun j hj => e2 j k hj)
theorem NoInv.det {n : Nat} {a : Mx} (h : NoInv n a) : det n a = 0#8 := by
  obtain ⟨T, U, k, h1, h2⟩ := h
  exact h1.stuck a h2
/-- Numbers that are not all 0 are taken to nothing. -/
theorem NoInv.kernel {n : Nat} {a : Mx} (h : NoInv n a) : ∃ (v : Nat → BitVec 8) (k : Nat), k < n ∧ v k = 1#8 ∧ ∀ i, i < n → xs n (fun j => gm (a i j) (v j)) = 0#8 := by
  obtain ⟨T, U, k, h1, h2⟩ := h
  obtain ⟨v, hv, h3⟩ := h1.kernel a h2
  exact ⟨v, k, h2.1, hv, h3⟩
theorem NoInv.not {n : Nat} {a u : Mx} (h : NoInv n a) (hu : ∀ i k, i < n → k < n → mm n u a i k = id1 i k) : False := by
  obtain ⟨v, k, hk, hv, h3⟩ := h.kernel
  have h1 := mm_assoc n u a (fun j _ => v j) k 0
  have e1 : mm n (mm n u a) (fun j _ => v j) k 0 = v k := by
    rw [mm_congr (a' := id1) (b' := fun j _ => v j) (fun j hj => hu k j hk hj) (fun j _ => rfl), mm_id_l n _ k 0 hk]
  have e2 : mm n u (mm n a (fun j _ => v j)) k 0 = 0#8 := xs_zero' fun j hj => by
    show gm (u k j) (xs n (fun l => gm (a j l) (v l))) = 0#8
    rw [h3 j hj, gm_zr]
  rw [e1, e2, hv] at h1
  exact absurd h1 (by decide)
theorem IsInv.uniq {n : Nat} {a u v : Mx} (hu : IsInv n a u) (hv : ∀ i k, i < n → k < n → mm n a v i k = id1 i k) (i k : Nat) (hi : i < n) (hk : k < n) : u i k = v i k := by
  have h1 := mm_assoc n u a v i k
  rw [mm_congr (a' := id1) (b' := v) (fun j hj => hu.1 i j hi hj) (fun j _ => rfl), mm_id_l n _ i k hi, mm_congr (a' := u) (b' := id1) (fun j _ => rfl) (fun j hj => hv j k hj hk), mm_id_r n _ i k hk] at h1
  exact h1.symm
end Go.Proofs.Ytfilicbbkaifcaa
