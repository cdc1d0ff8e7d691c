/- Matrices over GF(2^8) as functions: products, row steps, determinants, Cauchy matrices; nothing of the program. -/
import Derived.Test.YtkfceloaomlhmaaDoorGf
set_option linter.unusedSimpArgs false
set_option maxRecDepth 100000
set_option linter.unusedVariables false
namespace Go.Proofs.YtkfceloaomlhmaaDoor

/-! Sums -/
def xs : Nat → (Nat → BitVec 8) → BitVec 8
  | 0, _ => 0#8
  | n + 1, f => xs n f ^^^ f n
theorem xs_congr {n : Nat} {f g : Nat → BitVec 8} (h : ∀ i, i < n → f i = g i) : xs n f = xs n g := by
  induction n with
  | zero => rfl
  | succ n ih => show xs n f ^^^ f n = xs n g ^^^ g n; rw [ih (fun i hi => h i (by omega)), h n (by omega)]
theorem xs_zero (n : Nat) : xs n (fun _ => 0#8) = 0#8 := by
  induction n with
  | zero => rfl
  | succ n ih => show xs n _ ^^^ 0#8 = 0#8; rw [ih]; rfl
theorem xs_zero' {n : Nat} {f : Nat → BitVec 8} (h : ∀ i, i < n → f i = 0#8) : xs n f = 0#8 := by rw [xs_congr h, xs_zero]
theorem xs_add (n : Nat) (f g : Nat → BitVec 8) : xs n (fun i => f i ^^^ g i) = xs n f ^^^ xs n g := by
  induction n with
  | zero => exact (BitVec.xor_zero (x := 0#8)).symm
  | succ n ih =>
    show xs n _ ^^^ (f n ^^^ g n) = xs n f ^^^ f n ^^^ (xs n g ^^^ g n)
    rw [ih]; ac_rfl
theorem xs_mul (n : Nat) (c : BitVec 8) (f : Nat → BitVec 8) : xs n (fun i => gm c (f i)) = gm c (xs n f) := by
  induction n with
  | zero => exact (gm_zr c).symm
  | succ n ih => show xs n _ ^^^ gm c (f n) = gm c (xs n f ^^^ f n); rw [ih, gm_xor]
theorem xs_mul_r (n : Nat) (c : BitVec 8) (f : Nat → BitVec 8) : xs n (fun i => gm (f i) c) = gm (xs n f) c := by
  rw [gm_comm, ← xs_mul]; exact xs_congr fun i _ => gm_comm _ _
theorem xs_swap (n m : Nat) (f : Nat → Nat → BitVec 8) : xs n (fun i => xs m (fun j => f i j)) = xs m (fun j => xs n (fun i => f i j)) := by
  induction n with
  | zero => exact (xs_zero m).symm
  | succ n ih =>
    show xs n _ ^^^ xs m (fun j => f n j) = xs m (fun j => xs n (fun i => f i j) ^^^ f n j)
    rw [ih, xs_add]
theorem xs_one (n k : Nat) (h : k < n) (f : Nat → BitVec 8) (h0 : ∀ i, i < n → i ≠ k → f i = 0#8) : xs n f = f k := by
  induction n with
  | zero => omega
  | succ n ih =>
    show xs n f ^^^ f n = f k
    by_cases e : k = n
    · subst e
      rw [xs_zero' fun i hi => h0 i (by omega) (by omega), BitVec.zero_xor]
    · rw [ih (by omega) (fun i hi => h0 i (by omega)), h0 n (by omega) (Ne.symm e), BitVec.xor_zero]
theorem xs_head (n : Nat) (f : Nat → BitVec 8) : xs (n + 1) f = f 0 ^^^ xs n (fun i => f (i + 1)) := by
  induction n with
  | zero => show 0#8 ^^^ f 0 = f 0 ^^^ 0#8; rw [BitVec.zero_xor, BitVec.xor_zero]
  | succ n ih =>
    show xs (n + 1) f ^^^ f (n + 1) = f 0 ^^^ (xs n (fun i => f (i + 1)) ^^^ f (n + 1))
    rw [ih, BitVec.xor_assoc]
theorem xor_self' (x : BitVec 8) : x ^^^ x = 0#8 := BitVec.xor_self
theorem xor_eq_zero (x y : BitVec 8) (h : x ^^^ y = 0#8) : x = y := by
  have : x ^^^ y ^^^ y = y := by rw [h, BitVec.zero_xor]
  rwa [BitVec.xor_assoc, BitVec.xor_self, BitVec.xor_zero] at this
theorem gm_eq_zero (a b : BitVec 8) (ha : a ≠ 0#8) (h : gm a b = 0#8) : b = 0#8 := by
  by_cases hb : b = 0#8
  · exact hb
  · exact absurd h (gm_ne a b ha hb)
/-- A symmetric double sum without its diagonal is nothing. -/
theorem xs_sym (n : Nat) (g : Nat → Nat → BitVec 8) (hs : ∀ i j, i < n → j < n → g i j = g j i) (hd : ∀ i, i < n → g i i = 0#8) : xs n (fun i => xs n (fun j => g i j)) = 0#8 := by
  induction n with
  | zero => rfl
  | succ n ih =>
    show xs n (fun i => xs n (fun j => g i j) ^^^ g i n) ^^^ (xs n (fun j => g n j) ^^^ g n n) = 0#8
    rw [xs_add, ih (fun i j hi hj => hs i j (by omega) (by omega)) (fun i hi => hd i (by omega)), hd n (by omega), BitVec.xor_zero, BitVec.zero_xor,
      xs_congr (fun j hj => hs n j (by omega) (by omega)), xor_self']

/-! Products -/
abbrev Mx := Nat → Nat → BitVec 8
def mm (n : Nat) (a b : Mx) : Mx := fun i k => xs n (fun j => gm (a i j) (b j k))
def id1 : Mx := fun i j => if i = j then 1#8 else 0#8
theorem mm_assoc (n : Nat) (a b c : Mx) (i k : Nat) : mm n (mm n a b) c i k = mm n a (mm n b c) i k := by
  unfold mm
  have e1 : ∀ j, gm (xs n fun l => gm (a i l) (b l j)) (c j k) = xs n (fun l => gm (gm (a i l) (b l j)) (c j k)) := fun j => (xs_mul_r n _ _).symm
  have e2 : ∀ l, gm (a i l) (xs n fun j => gm (b l j) (c j k)) = xs n (fun j => gm (gm (a i l) (b l j)) (c j k)) := fun l => by
    rw [← xs_mul]; exact xs_congr fun j _ => (gm_assoc _ _ _).symm
  rw [xs_congr fun j _ => e1 j, xs_congr fun l _ => e2 l, xs_swap]
theorem mm_id_l (n : Nat) (a : Mx) (i k : Nat) (h : i < n) : mm n id1 a i k = a i k := by
  unfold mm
  rw [xs_one n i h]
  · unfold id1; rw [if_pos rfl, gm_one]
  · intro j _ hj
    unfold id1; rw [if_neg (Ne.symm hj), gm_zl]
theorem mm_id_r (n : Nat) (a : Mx) (i k : Nat) (h : k < n) : mm n a id1 i k = a i k := by
  unfold mm
  rw [xs_one n k h]
  · unfold id1; rw [if_pos rfl, gm_one_r]
  · intro j _ hj
    unfold id1; rw [if_neg hj, gm_zr]
theorem mm_congr {n : Nat} {a a' b b' : Mx} {i k : Nat} (ha : ∀ j, j < n → a i j = a' i j) (hb : ∀ j, j < n → b j k = b' j k) : mm n a b i k = mm n a' b' i k :=
  xs_congr fun j hj => by rw [ha j hj, hb j hj]

/-! Row steps. A step and the one that takes it back, on the first n rows. -/
structure Rop (n : Nat) (T U : Mx → Mx) : Prop where
  left : ∀ (m : Nat) (X Y : Mx) i k, mm m (T X) Y i k = T (mm m X Y) i k
  left' : ∀ (m : Nat) (X Y : Mx) i k, mm m (U X) Y i k = U (mm m X Y) i k
  back : ∀ X i k, U (T X) i k = X i k
  back' : ∀ X i k, T (U X) i k = X i k
  congr : ∀ X Y : Mx, ∀ k, (∀ i, i < n → X i k = Y i k) → ∀ i, i < n → T X i k = T Y i k
  congr' : ∀ X Y : Mx, ∀ k, (∀ i, i < n → X i k = Y i k) → ∀ i, i < n → U X i k = U Y i k
theorem Rop.refl (n : Nat) : Rop n (fun X => X) (fun X => X) :=
  ⟨fun _ _ _ _ _ => rfl, fun _ _ _ _ _ => rfl, fun _ _ _ => rfl, fun _ _ _ => rfl, fun _ _ _ h => h, fun _ _ _ h => h⟩
theorem Rop.symm {n : Nat} {T U : Mx → Mx} (h : Rop n T U) : Rop n U T := ⟨h.left', h.left, h.back', h.back, h.congr', h.congr⟩
theorem funext2 {X Y : Mx} (h : ∀ i k, X i k = Y i k) : X = Y := funext fun i => funext fun k => h i k
theorem Rop.trans {n : Nat} {T U T' U' : Mx → Mx} (h : Rop n T U) (g : Rop n T' U') : Rop n (fun X => T' (T X)) (fun X => U (U' X)) where
  left m X Y i k := by rw [g.left, funext2 (h.left m X Y)]
  left' m X Y i k := by rw [h.left', funext2 (g.left' m X Y)]
  back X i k := by rw [funext2 (g.back (T X)), h.back]
  back' X i k := by rw [funext2 (h.back' (U' X)), g.back']
  congr X Y k e i hi := g.congr _ _ k (h.congr X Y k e) i hi
  congr' X Y k e i hi := h.congr' _ _ k (g.congr' X Y k e) i hi
def swp (p q i : Nat) : Nat := if i = p then q else if i = q then p else i
def rswap (p q : Nat) (a : Mx) : Mx := fun i k => a (swp p q i) k
def rscale (p : Nat) (c : BitVec 8) (a : Mx) : Mx := fun i k => if i = p then gm c (a i k) else a i k
def radd (p q : Nat) (c : BitVec 8) (a : Mx) : Mx := fun i k => if i = q then a q k ^^^ gm c (a p k) else a i k
theorem swp_swp (p q i : Nat) : swp p q (swp p q i) = i := by
  unfold swp; by_cases h1 : i = p <;> by_cases h2 : i = q <;> by_cases h3 : q = p <;> simp_all
theorem rop_swap (n p q : Nat) (hp : p < n) (hq : q < n) : Rop n (rswap p q) (rswap p q) where
  left m X Y i k := rfl
  left' m X Y i k := rfl
  back X i k := by show X (swp p q (swp p q i)) k = X i k; rw [swp_swp]
  back' X i k := by show X (swp p q (swp p q i)) k = X i k; rw [swp_swp]
  congr X Y k e i hi := e _ (by unfold swp; split; exact hq; split; exact hp; exact hi)
  congr' X Y k e i hi := e _ (by unfold swp; split; exact hq; split; exact hp; exact hi)
theorem scale_left (p : Nat) (c : BitVec 8) (m : Nat) (X Y : Mx) (i k : Nat) : mm m (rscale p c X) Y i k = rscale p c (mm m X Y) i k := by
  unfold rscale mm
  by_cases h : i = p
  · simp only [h, if_true, gm_assoc, xs_mul]
  · simp only [h, if_false]
theorem scale_back (p : Nat) (c : BitVec 8) (hc : c ≠ 0#8) (X : Mx) (i k : Nat) : rscale p (gi c) (rscale p c X) i k = X i k := by
  unfold rscale
  by_cases h : i = p
  · simp only [h, if_true, ← gm_assoc, gm_comm (gi c) c, gm_gi c hc, gm_one]
  · simp only [h, if_false]
theorem scale_back' (p : Nat) (c : BitVec 8) (hc : c ≠ 0#8) (X : Mx) (i k : Nat) : rscale p c (rscale p (gi c) X) i k = X i k := by
  unfold rscale
  by_cases h : i = p
  · simp only [h, if_true, ← gm_assoc, gm_gi c hc, gm_one]
  · simp only [h, if_false]
theorem rop_scale (n p : Nat) (c : BitVec 8) (hc : c ≠ 0#8) : Rop n (rscale p c) (rscale p (gi c)) where
  left := scale_left p c
  left' := scale_left p (gi c)
  back := scale_back p c hc
  back' := scale_back' p c hc
  congr X Y k e i hi := by unfold rscale; rw [e i hi]
  congr' X Y k e i hi := by unfold rscale; rw [e i hi]
theorem add_left (p q : Nat) (c : BitVec 8) (m : Nat) (X Y : Mx) (i k : Nat) : mm m (radd p q c X) Y i k = radd p q c (mm m X Y) i k := by
  unfold radd mm
  by_cases h : i = q
  · simp only [h, if_true, gm_xor_l, gm_assoc, xs_add, xs_mul]
  · simp only [h, if_false]
theorem add_back (p q : Nat) (c : BitVec 8) (hpq : p ≠ q) (X : Mx) (i k : Nat) : radd p q c (radd p q c X) i k = X i k := by
  unfold radd
  by_cases h : i = q
  · subst h; simp only [if_true, if_neg hpq, BitVec.xor_assoc, xor_self', BitVec.xor_zero]
  · simp only [h, if_false]
theorem rop_add (n p q : Nat) (c : BitVec 8) (hpq : p ≠ q) (hp : p < n) (hq : q < n) : Rop n (radd p q c) (radd p q c) where
  left := add_left p q c
  left' := add_left p q c
  back := add_back p q c hpq
  back' := add_back p q c hpq
  congr X Y k e i hi := by unfold radd; rw [e i hi, e q hq, e p hp]
  congr' X Y k e i hi := by unfold radd; rw [e i hi, e q hq, e p hp]
/-- Where steps turn a into the unit, they turn the unit into a's inverse, on either side. -/
theorem Rop.inverse {n : Nat} {T U : Mx → Mx} (h : Rop n T U) (a : Mx) (ha : ∀ i k, i < n → k < n → T a i k = id1 i k) :
    (∀ i k, i < n → k < n → mm n (T id1) a i k = id1 i k) ∧ (∀ i k, i < n → k < n → mm n a (T id1) i k = id1 i k) := by
  have h1 : ∀ i k, i < n → k < n → mm n (T id1) a i k = id1 i k := fun i k hi hk => by
    rw [h.left, h.congr _ a k (fun i hi => mm_id_l n a i k hi) i hi, ha i k hi hk]
  refine ⟨h1, fun i k hi hk => ?_⟩
  have h2 : ∀ j, j < n → a i j = U id1 i j := fun j hj => by
    have := h.congr' (T a) id1 j (fun i hi => ha i j hi hj) i hi
    rwa [h.back] at this
  rw [mm_congr h2 (fun j _ => rfl) (b' := T id1), h.left', h.congr' _ (T id1) k (fun i hi => mm_id_l n (T id1) i k hi) i hi, h.back]
end Go.Proofs.YtkfceloaomlhmaaDoor
