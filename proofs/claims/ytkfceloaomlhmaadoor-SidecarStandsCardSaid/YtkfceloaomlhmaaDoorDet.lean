/- Determinants over GF(2^8), by the first row; what row steps do to them; Cauchy matrices; nothing of the program. -/
import Derived.Test.YtkfceloaomlhmaaDoorMat
set_option linter.unusedSimpArgs false
set_option maxRecDepth 100000
set_option linter.unusedVariables false
namespace Go.Proofs.YtkfceloaomlhmaaDoor

def skip (k j : Nat) : Nat := if j < k then j else j + 1
theorem skip_lt {k j n : Nat} (h : j < n) : skip k j < n + 1 := by unfold skip; split <;> omega
def minor (a : Mx) (k : Nat) : Mx := fun i j => a (i + 1) (skip k j)
def det : Nat → Mx → BitVec 8
  | 0, _ => 1#8
  | n + 1, a => xs (n + 1) (fun k => gm (a 0 k) (det n (minor a k)))
theorem det_succ (n : Nat) (a : Mx) : det (n + 1) a = xs (n + 1) (fun k => gm (a 0 k) (det n (minor a k))) := rfl
theorem det_congr {n : Nat} {a b : Mx} (h : ∀ i k, i < n → k < n → a i k = b i k) : det n a = det n b := by
  induction n generalizing a b with
  | zero => rfl
  | succ n ih =>
    rw [det_succ, det_succ]
    refine xs_congr fun k hk => ?_
    rw [h 0 k (by omega) hk, ih (a := minor a k) (b := minor b k) fun i j hi hj => h (i + 1) (skip k j) (by omega) (skip_lt hj)]
/-- A row in the place of another. -/
def setr (a : Mx) (p : Nat) (u : Nat → BitVec 8) : Mx := fun i k => if i = p then u k else a i k
theorem minor_setr (a : Mx) (p : Nat) (u : Nat → BitVec 8) (k : Nat) : minor (setr a (p + 1) u) k = setr (minor a k) p (fun j => u (skip k j)) := by
  funext i j
  unfold minor setr
  by_cases h : i = p
  · subst h; simp
  · rw [if_neg (by omega), if_neg h]
theorem minor_setr0 (a : Mx) (u : Nat → BitVec 8) (k : Nat) : minor (setr a 0 u) k = minor a k := by
  funext i j
  unfold minor setr
  rw [if_neg (by omega)]
theorem det_add (n p : Nat) (hp : p < n) (a : Mx) (u v : Nat → BitVec 8) : det n (setr a p (fun k => u k ^^^ v k)) = det n (setr a p u) ^^^ det n (setr a p v) := by
  induction n generalizing p a u v with
  | zero => omega
  | succ n ih =>
    rw [det_succ, det_succ, det_succ, ← xs_add]
    refine xs_congr fun k hk => ?_
    cases p with
    | zero =>
      rw [minor_setr0, minor_setr0, minor_setr0]
      show gm (if 0 = 0 then u k ^^^ v k else a 0 k) _ = gm (if 0 = 0 then u k else a 0 k) _ ^^^ gm (if 0 = 0 then v k else a 0 k) _
      rw [if_pos rfl, if_pos rfl, if_pos rfl, gm_xor_l]
    | succ p =>
      rw [minor_setr, minor_setr, minor_setr, ih p (by omega)]
      show gm (if 0 = p + 1 then _ else a 0 k) _ = gm (if 0 = p + 1 then _ else a 0 k) _ ^^^ gm (if 0 = p + 1 then _ else a 0 k) _
      rw [if_neg (by omega), if_neg (by omega), if_neg (by omega), gm_xor]
theorem det_mul (n p : Nat) (hp : p < n) (a : Mx) (c : BitVec 8) (u : Nat → BitVec 8) : det n (setr a p (fun k => gm c (u k))) = gm c (det n (setr a p u)) := by
  induction n generalizing p a u with
  | zero => omega
  | succ n ih =>
    rw [det_succ, det_succ, ← xs_mul]
    refine xs_congr fun k hk => ?_
    cases p with
    | zero =>
      rw [minor_setr0, minor_setr0]
      show gm (if 0 = 0 then gm c (u k) else a 0 k) _ = gm c (gm (if 0 = 0 then u k else a 0 k) _)
      rw [if_pos rfl, if_pos rfl, gm_assoc]
    | succ p =>
      rw [minor_setr, minor_setr, ih p (by omega)]
      show gm (if 0 = p + 1 then _ else a 0 k) _ = gm c (gm (if 0 = p + 1 then _ else a 0 k) _)
      rw [if_neg (by omega), if_neg (by omega), ← gm_assoc, gm_comm (a 0 k) c, gm_assoc]
theorem setr_same (a : Mx) (p : Nat) : setr a p (a p) = a := by
  funext i k; unfold setr; split
  · rename_i h; rw [h]
  · rfl
/-! Equal rows -/
theorem xs_skip (n k : Nat) (hk : k ≤ n) (F : Nat → BitVec 8) : xs n (fun l => F (skip k l)) = xs (n + 1) (fun m => if k = m then 0#8 else F m) := by
  induction n with
  | zero =>
    obtain rfl : k = 0 := by omega
    show 0#8 = 0#8 ^^^ (if 0 = 0 then 0#8 else F 0)
    rw [if_pos rfl]; rfl
  | succ n ih =>
    show _ = xs (n + 1) (fun m => if k = m then 0#8 else F m) ^^^ (if k = n + 1 then 0#8 else F (n + 1))
    by_cases h : k = n + 1
    · rw [if_pos h, BitVec.xor_zero]
      refine xs_congr fun l hl => ?_
      rw [if_neg (by omega), skip, if_pos (by omega)]
    · rw [if_neg h, ← ih (by omega)]
      show xs n (fun l => F (skip k l)) ^^^ F (skip k n) = _
      rw [show skip k n = n + 1 from if_neg (by omega)]
def avoid (k m j : Nat) : Nat := if j < min k m then j else if j + 1 < max k m then j + 1 else j + 2
theorem avoid_comm (k m j : Nat) : avoid k m j = avoid m k j := by unfold avoid; rw [Nat.min_comm, Nat.max_comm]
theorem skip_skip (k l j : Nat) : skip k (skip l j) = avoid k (skip k l) j := by
  unfold skip avoid
  by_cases h1 : l < k
  · rw [if_pos h1, Nat.min_eq_right (by omega), Nat.max_eq_left (by omega)]
    by_cases h2 : j < l
    · rw [if_pos h2, if_pos (by omega), if_pos h2]
    · rw [if_neg h2, if_neg h2]
  · rw [if_neg h1, Nat.min_eq_left (by omega), Nat.max_eq_right (by omega)]
    by_cases h2 : j < l
    · rw [if_pos h2]
      by_cases h3 : j < k
      · rw [if_pos h3, if_pos h3]
      · rw [if_neg h3, if_neg h3, if_pos (by omega)]
    · rw [if_neg h2, if_neg (by omega), if_neg (by omega), if_neg (by omega)]
theorem det_adj (n p : Nat) (hp : p + 1 < n) (a : Mx) (h : ∀ k, k < n → a p k = a (p + 1) k) : det n a = 0#8 := by
  induction n generalizing p a with
  | zero => omega
  | succ n ih =>
    cases p with
    | succ p =>
      rw [det_succ]
      refine xs_zero' fun k hk => ?_
      rw [ih p (by omega) (minor a k) (fun j hj => h (skip k j) (skip_lt hj)), gm_zr]
    | zero =>
      obtain ⟨n, rfl⟩ := Nat.exists_eq_succ_of_ne_zero (show n ≠ 0 by omega)
      have e : ∀ k, k < n + 2 → gm (a 0 k) (det (n + 1) (minor a k)) = xs (n + 2) (fun m => if k = m then 0#8 else gm (a 0 k) (gm (a 0 m) (det n fun i j => a (i + 2) (avoid k m j)))) := fun k hk => by
        rw [det_succ, ← xs_mul, ← xs_skip (n + 1) k (by omega) (fun m => gm (a 0 k) (gm (a 0 m) (det n fun i j => a (i + 2) (avoid k m j))))]
        refine xs_congr fun l hl => ?_
        have e1 : minor a k 0 l = a 0 (skip k l) := (h (skip k l) (skip_lt hl)).symm
        have e2 : minor (minor a k) l = fun i j => a (i + 2) (avoid k (skip k l) j) := by
          funext i j
          show a (i + 1 + 1) (skip k (skip l j)) = _
          rw [skip_skip]
        rw [e1, e2]
      rw [det_succ, xs_congr e]
      refine xs_sym (n + 2) _ (fun i j _ _ => ?_) (fun i _ => if_pos rfl)
      by_cases hij : i = j
      · subst hij; rfl
      · rw [if_neg hij, if_neg (Ne.symm hij), ← gm_assoc, ← gm_assoc, gm_comm (a 0 i)]
        congr 2
        funext r s
        rw [avoid_comm]
/-- Two rows by name. -/
theorem det_pair (n p q : Nat) (hp : p < n) (hq : q < n) (hpq : p ≠ q) (halt : ∀ b : Mx, (∀ k, k < n → b p k = b q k) → det n b = 0#8) (a : Mx) : det n (rswap p q a) = det n a := by
  have two : ∀ (u v : Nat → BitVec 8), det n (setr (setr a p u) q v) = det n (setr (setr a p v) q u) := fun u v => by
    have hz : ∀ w : Nat → BitVec 8, det n (setr (setr a p w) q w) = 0#8 := fun w => halt _ fun k _ => by
      unfold setr
      rw [if_neg hpq, if_pos rfl, if_pos rfl]
    have hc : ∀ w z : Nat → BitVec 8, setr (setr a p w) q z = setr (setr a q z) p w := fun w z => by
      funext i k
      unfold setr
      by_cases h1 : i = p
      · subst h1; rw [if_neg hpq, if_pos rfl]; simp
      · by_cases h2 : i = q
        · subst h2; simp [h1]
        · simp [h1, h2]
    have h0 := hz (fun k => u k ^^^ v k)
    rw [det_add n q hq, hc, det_add n p hp, ← hc, ← hc, hz u, BitVec.zero_xor] at h0
    rw [hc (fun k => u k ^^^ v k) v, det_add n p hp, ← hc, ← hc, hz v, BitVec.xor_zero] at h0
    exact (xor_eq_zero _ _ h0).symm
  have e1 : a = setr (setr a p (a p)) q (a q) := by rw [setr_same, setr_same]
  have e2 : rswap p q a = setr (setr a p (a q)) q (a p) := by
    funext i k
    unfold rswap setr swp
    by_cases h2 : i = q
    · subst h2
      rw [if_neg (Ne.symm hpq), if_pos rfl, if_pos rfl]
    · by_cases h1 : i = p
      · subst h1; rw [if_pos rfl, if_neg h2, if_pos rfl]
      · rw [if_neg h1, if_neg h2, if_neg h2, if_neg h1]
  rw [e2, two, ← e1]
theorem det_alt (n : Nat) (d : Nat) : ∀ (p : Nat) (a : Mx), p + 1 + d < n → (∀ k, k < n → a p k = a (p + 1 + d) k) → det n a = 0#8 := by
  induction d with
  | zero => exact fun p a hp h => det_adj n p hp a h
  | succ d ih =>
    intro p a hp h
    rw [← det_pair n (p + 1 + d) (p + 1 + (d + 1)) (by omega) hp (by omega) (fun b hb => det_adj n (p + 1 + d) hp b hb) a]
    refine ih p _ (by omega) fun k hk => ?_
    show a (swp _ _ p) k = a (swp _ _ (p + 1 + d)) k
    unfold swp
    rw [if_neg (by omega), if_neg (by omega), if_pos rfl]
    exact h k hk
theorem det_equal (n p q : Nat) (hp : p < n) (hq : q < n) (hpq : p ≠ q) (a : Mx) (h : ∀ k, k < n → a p k = a q k) : det n a = 0#8 := by
  rcases Nat.lt_or_gt_of_ne hpq with hl | hl
  · obtain ⟨d, rfl⟩ := Nat.exists_eq_add_of_le (show p + 1 ≤ q from hl)
    exact det_alt n d p a hq h
  · obtain ⟨d, rfl⟩ := Nat.exists_eq_add_of_le (show q + 1 ≤ p from hl)
    exact det_alt n d q a hp fun k hk => (h k hk).symm
theorem det_rswap (n p q : Nat) (hp : p < n) (hq : q < n) (a : Mx) : det n (rswap p q a) = det n a := by
  by_cases h : p = q
  · subst h
    refine det_congr fun i k _ _ => ?_
    show a (swp p p i) k = a i k
    unfold swp
    by_cases e : i = p
    · rw [if_pos e, e]
    · rw [if_neg e, if_neg e]
  · exact det_pair n p q hp hq h (fun b hb => det_equal n p q hp hq h b hb) a
theorem det_rscale (n p : Nat) (hp : p < n) (c : BitVec 8) (a : Mx) : det n (rscale p c a) = gm c (det n a) := by
  have e : rscale p c a = setr a p (fun k => gm c (a p k)) := by
    funext i k
    unfold rscale setr
    by_cases h : i = p
    · subst h; simp
    · simp [h]
  rw [e, det_mul n p hp, setr_same]
theorem det_radd (n p q : Nat) (hp : p < n) (hq : q < n) (hpq : p ≠ q) (c : BitVec 8) (a : Mx) : det n (radd p q c a) = det n a := by
  have e : radd p q c a = setr a q (fun k => a q k ^^^ gm c (a p k)) := by
    funext i k
    unfold radd setr
    by_cases h : i = q
    · subst h; simp
    · simp [h]
  rw [e, det_add n q hq, setr_same, det_mul n q hq, det_equal n p q hp hq hpq (setr a q (a p)) (fun k _ => by unfold setr; rw [if_neg hpq, if_pos rfl]), gm_zr, BitVec.xor_zero]
/-- Steps that multiply the determinant by a number that is not 0. -/
def Steps (n : Nat) (T U : Mx → Mx) : Prop := Rop n T U ∧ ∃ c, c ≠ 0#8 ∧ ∀ a, det n (T a) = gm c (det n a)
theorem Steps.refl (n : Nat) : Steps n (fun X => X) (fun X => X) := ⟨Rop.refl n, 1#8, by decide, fun a => (gm_one _).symm⟩
theorem Steps.trans {n : Nat} {T U T' U' : Mx → Mx} (h : Steps n T U) (g : Steps n T' U') : Steps n (fun X => T' (T X)) (fun X => U (U' X)) := by
  obtain ⟨h1, c, hc, h2⟩ := h
  obtain ⟨g1, d, hd, g2⟩ := g
  exact ⟨h1.trans g1, gm d c, gm_ne d c hd hc, fun a => by rw [g2, h2, gm_assoc]⟩
theorem steps_swap (n p q : Nat) (hp : p < n) (hq : q < n) : Steps n (rswap p q) (rswap p q) := ⟨rop_swap n p q hp hq, 1#8, by decide, fun a => by rw [det_rswap n p q hp hq, gm_one]⟩
theorem steps_scale (n p : Nat) (hp : p < n) (c : BitVec 8) (hc : c ≠ 0#8) : Steps n (rscale p c) (rscale p (gi c)) := ⟨rop_scale n p c hc, c, hc, det_rscale n p hp c⟩
theorem steps_add (n p q : Nat) (hp : p < n) (hq : q < n) (hpq : p ≠ q) (c : BitVec 8) : Steps n (radd p q c) (radd p q c) := ⟨rop_add n p q c hpq hp hq, 1#8, by decide, fun a => by rw [det_radd n p q hp hq hpq, gm_one]⟩
/-! Where the steps end -/
theorem det_id (n : Nat) (a : Mx) (h : ∀ i k, i < n → k < n → a i k = id1 i k) : det n a = 1#8 := by
  induction n generalizing a with
  | zero => rfl
  | succ n ih =>
    rw [det_succ, xs_one (n + 1) 0 (by omega)]
    · rw [h 0 0 (by omega) (by omega), ih (minor a 0)]
      · rfl
      · intro i k hi hk
        show a (i + 1) (skip 0 k) = id1 i k
        rw [show skip 0 k = k + 1 from if_neg (by omega), h _ _ (by omega) (by omega)]
        unfold id1
        by_cases e : i = k
        · rw [if_pos e, if_pos (by omega)]
        · rw [if_neg e, if_neg (by omega)]
    · intro i hi hne
      rw [h 0 i (by omega) hi, id1, if_neg (Ne.symm hne), gm_zl]
theorem det_zero_column (n : Nat) (hn : 0 < n) (a : Mx) (h : ∀ i, i < n → a i 0 = 0#8) : det n a = 0#8 := by
  induction n generalizing a with
  | zero => omega
  | succ n ih =>
    rw [det_succ]
    refine xs_zero' fun k hk => ?_
    by_cases h0 : k = 0
    · subst h0; rw [h 0 (by omega), gm_zl]
    · rw [ih (by omega) (minor a k) (fun i hi => by
        show a (i + 1) (skip k 0) = 0#8
        rw [show skip k 0 = 0 from if_pos (by omega)]
        exact h _ (by omega)), gm_zr]
/-- The first k columns are the unit's, and in the next one there is nothing from row k on. -/
def Stuck (n k : Nat) (a : Mx) : Prop := k < n ∧ (∀ i j, i < n → j < k → a i j = id1 i j) ∧ ∀ i, k ≤ i → i < n → a i k = 0#8
theorem det_stuck (n k : Nat) (a : Mx) (h : Stuck n k a) : det n a = 0#8 := by
  induction k generalizing n a with
  | zero => exact det_zero_column n h.1 a fun i hi => h.2.2 i (by omega) hi
  | succ k ih =>
    obtain ⟨hk, hu, hz⟩ := h
    obtain ⟨n, rfl⟩ := Nat.exists_eq_succ_of_ne_zero (show n ≠ 0 by omega)
    rw [det_succ]
    refine xs_zero' fun c hc => ?_
    by_cases h0 : c = 0
    · subst h0
      rw [ih n (minor a 0) ⟨by omega, fun i j hi hj => ?_, fun i hi hin => ?_⟩, gm_zr]
      · show a (i + 1) (skip 0 j) = id1 i j
        rw [show skip 0 j = j + 1 from if_neg (by omega), hu _ _ (by omega) (by omega)]
        unfold id1
        by_cases e : i = j
        · rw [if_pos e, if_pos (by omega)]
        · rw [if_neg e, if_neg (by omega)]
      · show a (i + 1) (skip 0 k) = 0#8
        rw [show skip 0 k = k + 1 from if_neg (by omega)]
        exact hz _ (by omega) (by omega)
    · rw [det_zero_column n (by omega) (minor a c) (fun i hi => by
        show a (i + 1) (skip c 0) = 0#8
        rw [show skip c 0 = 0 from if_pos (by omega), hu _ _ (by omega) (by omega), id1, if_neg (by omega)]), gm_zr]
/-- Steps that end in the unit: the determinant is not 0; steps that are stuck: it is 0, and some numbers, not all 0, are taken to nothing. -/
theorem Steps.unit {n : Nat} {T U : Mx → Mx} (h : Steps n T U) (a : Mx) (ha : ∀ i k, i < n → k < n → T a i k = id1 i k) : det n a ≠ 0#8 := by
  obtain ⟨_, c, _, h2⟩ := h
  intro e
  have := h2 a
  rw [det_id n _ ha, e, gm_zr] at this
  exact absurd this (by decide)
theorem Steps.stuck {n k : Nat} {T U : Mx → Mx} (h : Steps n T U) (a : Mx) (ha : Stuck n k (T a)) : det n a = 0#8 := by
  obtain ⟨_, c, hc, h2⟩ := h
  have := h2 a
  rw [det_stuck n k _ ha] at this
  exact gm_eq_zero c _ hc this.symm
theorem Steps.kernel {n k : Nat} {T U : Mx → Mx} (h : Steps n T U) (a : Mx) (ha : Stuck n k (T a)) :
    ∃ v : Nat → BitVec 8, v k = 1#8 ∧ ∀ i, i < n → xs n (fun j => gm (a i j) (v j)) = 0#8 := by
  obtain ⟨hr, _⟩ := h
  obtain ⟨hk, hu, hz⟩ := ha
  refine ⟨fun j => if j < k then T a j k else if j = k then 1#8 else 0#8, by simp, fun i hi => ?_⟩
  have key : ∀ i, i < n → mm n (T a) (fun j _ => if j < k then T a j k else if j = k then 1#8 else 0#8) i 0 = 0#8 := fun i hi => by
    have e : ∀ j, j < n → gm (T a i j) (if j < k then T a j k else if j = k then 1#8 else 0#8) = (if j = i then (if i < k then T a i k else 0#8) else 0#8) ^^^ (if j = k then T a i k else 0#8) := fun j hj => by
      by_cases h1 : j < k
      · rw [if_pos h1, hu i j hi h1, if_neg (show ¬ j = k by omega), BitVec.xor_zero, id1]
        by_cases h2 : j = i
        · subst h2; rw [if_pos rfl, if_pos rfl, if_pos h1, gm_one]
        · rw [if_neg (Ne.symm h2), if_neg h2, gm_zl]
      · rw [if_neg h1]
        have hz0 : (if j = i then (if i < k then T a i k else 0#8) else 0#8) = 0#8 := by
          by_cases h2 : j = i
          · rw [if_pos h2, if_neg (by omega)]
          · rw [if_neg h2]
        rw [hz0, BitVec.zero_xor]
        by_cases h3 : j = k
        · subst h3; rw [if_pos rfl, if_pos rfl, gm_one_r]
        · rw [if_neg h3, if_neg h3, gm_zr]
    unfold mm
    rw [xs_congr e, xs_add, xs_one n i hi _ (fun j _ hj => if_neg hj), xs_one n k hk _ (fun j _ hj => if_neg hj), if_pos rfl, if_pos rfl]
    by_cases h1 : i < k
    · rw [if_pos h1, xor_self']
    · rw [if_neg h1, BitVec.zero_xor]
      exact hz i (by omega) hi
  have h1 := hr.congr' (mm n (T a) (fun j _ => if j < k then T a j k else if j = k then 1#8 else 0#8)) (fun _ _ => 0#8) 0 key i hi
  have h2 : mm n (U (T a)) (fun j _ => if j < k then T a j k else if j = k then 1#8 else 0#8) i 0 = U (mm n (T a) (fun j _ => if j < k then T a j k else if j = k then 1#8 else 0#8)) i 0 := hr.left' n (T a) _ i 0
  rw [funext2 (hr.back a)] at h2
  have h3 : U (fun _ _ => 0#8) i 0 = 0#8 := by
    have := hr.left' 0 (fun _ _ => 0#8) (fun _ _ => 0#8) i 0
    exact this.symm
  show mm n a (fun j _ => if j < k then T a j k else if j = k then 1#8 else 0#8) i 0 = 0#8
  rw [h2, h1, h3]
/-! Cauchy -/
theorem gi_mul (a b : BitVec 8) (ha : a ≠ 0#8) (hb : b ≠ 0#8) : gi (gm a b) = gm (gi a) (gi b) := by
  refine (gi_of (gm a b) _ (gm_ne a b ha hb) ?_).symm
  have : gm (gm a b) (gm (gi a) (gi b)) = gm (gm a (gi a)) (gm b (gi b)) := by
    rw [gm_assoc, ← gm_assoc b, gm_comm b (gi a), gm_assoc (gi a), ← gm_assoc]
  rw [this, gm_gi a ha, gm_gi b hb, gm_one]
/-- Two fractions with numerator 1 added. -/
theorem gi_add (a b : BitVec 8) (ha : a ≠ 0#8) (hb : b ≠ 0#8) : gi a ^^^ gi b = gm (a ^^^ b) (gm (gi a) (gi b)) := by
  rw [gm_xor_l, ← gm_assoc a, gm_gi a ha, gm_one, gm_comm (gi a), ← gm_assoc b, gm_gi b hb, gm_one, BitVec.xor_comm]
theorem xor_ne (x y : BitVec 8) (h : x ≠ y) : x ^^^ y ≠ 0#8 := fun e => h (xor_eq_zero x y e)
/-- A Cauchy matrix of different numbers takes nothing but nothing to nothing. -/
theorem cauchy_kernel (n : Nat) (x y : Nat → BitVec 8) (hx : ∀ i j, i < n → j < n → i ≠ j → x i ≠ x j) (hy : ∀ i j, i < n → j < n → i ≠ j → y i ≠ y j) (hxy : ∀ i j, i < n → j < n → x i ≠ y j)
    (v : Nat → BitVec 8) (h : ∀ i, i < n → xs n (fun j => gm (gi (x i ^^^ y j)) (v j)) = 0#8) : ∀ j, j < n → v j = 0#8 := by
  induction n generalizing v with
  | zero => intro j hj; omega
  | succ n ih =>
    have hs : ∀ i, i < n + 1 → xs n (fun j => gm (gi (x i ^^^ y j)) (gm (y n ^^^ y j) (v j))) = xs (n + 1) v := fun i hi => by
      have h0 := h i hi
      have h1 : gm (x i ^^^ y n) (xs (n + 1) (fun j => gm (gi (x i ^^^ y j)) (v j))) = 0#8 := by rw [h0, gm_zr]
      rw [← xs_mul] at h1
      have hn := xor_ne _ _ (hxy i n hi (by omega))
      have e : ∀ j, j < n → gm (x i ^^^ y n) (gm (gi (x i ^^^ y j)) (v j)) = v j ^^^ gm (gi (x i ^^^ y j)) (gm (y n ^^^ y j) (v j)) := fun j hj => by
        have hj0 := xor_ne _ _ (hxy i j hi (by omega))
        have e1 : x i ^^^ y n = (x i ^^^ y j) ^^^ (y n ^^^ y j) := by
          rw [show (x i ^^^ y j) ^^^ (y n ^^^ y j) = (x i ^^^ y n) ^^^ (y j ^^^ y j) by ac_rfl, xor_self', BitVec.xor_zero]
        rw [e1, gm_xor_l, ← gm_assoc, gm_gi _ hj0, gm_one, ← gm_assoc, gm_comm (y n ^^^ y j), gm_assoc]
      have h2 : xs (n + 1) (fun j => gm (x i ^^^ y n) (gm (gi (x i ^^^ y j)) (v j))) = xs n (fun j => gm (x i ^^^ y n) (gm (gi (x i ^^^ y j)) (v j))) ^^^ gm (x i ^^^ y n) (gm (gi (x i ^^^ y n)) (v n)) := rfl
      rw [h2, xs_congr e, xs_add, ← gm_assoc, gm_gi _ hn, gm_one] at h1
      refine (xor_eq_zero _ _ ?_).symm
      rw [← h1]
      show (xs n v ^^^ v n) ^^^ _ = _
      ac_rfl
    have hv : ∀ j, j < n → v j = 0#8 := fun j hj => by
      have hw := ih (fun i j hi hj => hx i j (by omega) (by omega)) (fun i j hi hj => hy i j (by omega) (by omega)) (fun i j hi hj => hxy i j (by omega) (by omega))
        (fun j => gm (gi (x n ^^^ y j)) (gm (y n ^^^ y j) (v j))) (fun i hi => by
          have hxn := xor_ne _ _ (hx i n (by omega) (by omega) (by omega))
          refine gm_eq_zero _ _ hxn ?_
          rw [← xs_mul]
          have e : ∀ j, j < n → gm (x i ^^^ x n) (gm (gi (x i ^^^ y j)) (gm (gi (x n ^^^ y j)) (gm (y n ^^^ y j) (v j)))) = gm (gi (x i ^^^ y j)) (gm (y n ^^^ y j) (v j)) ^^^ gm (gi (x n ^^^ y j)) (gm (y n ^^^ y j) (v j)) := fun j hj => by
            have a1 := xor_ne _ _ (hxy i j (by omega) (by omega))
            have a2 := xor_ne _ _ (hxy n j (by omega) (by omega))
            have e1 : x i ^^^ x n = (x i ^^^ y j) ^^^ (x n ^^^ y j) := by
              rw [show (x i ^^^ y j) ^^^ (x n ^^^ y j) = (x i ^^^ x n) ^^^ (y j ^^^ y j) by ac_rfl, xor_self', BitVec.xor_zero]
            rw [← gm_assoc (gi (x i ^^^ y j)), ← gm_assoc, e1, ← gi_add _ _ a1 a2, gm_xor_l]
          rw [xs_congr e, xs_add, hs i (by omega), hs n (by omega), xor_self'])
        j hj
      have a2 := xor_ne _ _ (hxy n j (by omega) (by omega))
      have a3 := xor_ne _ _ (hy n j (by omega) (by omega) (by omega))
      exact gm_eq_zero _ _ a3 (gm_eq_zero _ _ (gi_ne _) hw)
    intro j hj
    rcases Nat.lt_or_ge j n with hl | hl
    · exact hv j hl
    · obtain rfl : j = n := by omega
      have h0 := h 0 (by omega)
      have h1 : xs (j + 1) (fun l => gm (gi (x 0 ^^^ y l)) (v l)) = gm (gi (x 0 ^^^ y j)) (v j) := by
        show xs j _ ^^^ _ = _
        rw [xs_zero' fun l hl => by rw [hv l hl, gm_zr], BitVec.zero_xor]
      rw [h1] at h0
      exact gm_eq_zero _ _ (gi_ne _) h0
end Go.Proofs.YtkfceloaomlhmaaDoor
