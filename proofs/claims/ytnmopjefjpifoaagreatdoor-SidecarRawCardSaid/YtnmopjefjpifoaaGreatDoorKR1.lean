/- Merged texts: Gf, Ref, Mat, RefC, Prt, Rows3, Upto, Stores, Det, Mp, GoodB, Perm, Ask, Good, FAdd, Field, FDiv, Scale, Gd, Two, Prod. -/
import Derived.Test.YtnmopjefjpifoaaGreatDoorRows
import Derived.Deep.LoopGhost
import Derived.Test.YtnmopjefjpifoaaGreatDoorBase
import Derived.Deep.AppendLies
import Derived.Test.YtnmopjefjpifoaaGreatDoorBytes
import Derived.WalkKit
import Derived.Lib.Walk
import Derived.Shelf.Abstract
import Derived.Deep.QuietTactic
import Derived.BigQuiet
import Derived.Deep.RegionWith
import Derived.Deep.RegionHeld3
import Derived.StillTailTactics
set_option linter.unusedSimpArgs false
set_option linter.unusedVariables false
/- GF(2^8) on numbers of eight bits: products by powers and logarithms of the generator; nothing of the program. -/
set_option maxRecDepth 100000
namespace Go.Proofs.YtnmopjefjpifoaaGreatDoor

/-- A number times the generator. -/
def xt (x : BitVec 8) : BitVec 8 := (x <<< 1) ^^^ (if x.getLsbD 7 then 29#8 else 0#8)
/-- The powers of the generator. -/
def pw : Nat → BitVec 8
  | 0 => 1#8
  | n + 1 => xt (pw n)
def lgs : List Nat := [0, 0, 1, 25, 2, 50, 26, 198, 3, 223, 51, 238, 27, 104, 199, 75, 4, 100, 224, 14, 52, 141, 239, 129, 28, 193, 105, 248, 200, 8, 76, 113, 5, 138, 101, 47, 225, 36, 15, 33, 53, 147, 142, 218, 240, 18, 130, 69, 29, 181, 194, 125, 106, 39, 249, 185, 201, 154, 9, 120, 77, 228, 114, 166, 6, 191, 139, 98, 102, 221, 48, 253, 226, 152, 37, 179, 16, 145, 34, 136, 54, 208, 148, 206, 143, 150, 219, 189, 241, 210, 19, 92, 131, 56, 70, 64, 30, 66, 182, 163, 195, 72, 126, 110, 107, 58, 40, 84, 250, 133, 186, 61, 202, 94, 155, 159, 10, 21, 121, 43, 78, 212, 229, 172, 115, 243, 167, 87, 7, 112, 192, 247, 140, 128, 99, 13, 103, 74, 222, 237, 49, 197, 254, 24, 227, 165, 153, 119, 38, 184, 180, 124, 17, 68, 146, 217, 35, 32, 137, 46, 55, 63, 209, 91, 149, 188, 207, 205, 144, 135, 151, 178, 220, 252, 190, 97, 242, 86, 211, 171, 20, 42, 93, 158, 132, 60, 57, 83, 71, 109, 65, 162, 31, 45, 67, 216, 183, 123, 164, 118, 196, 23, 73, 236, 127, 12, 111, 246, 108, 161, 59, 82, 41, 157, 85, 170, 251, 96, 134, 177, 187, 204, 62, 90, 203, 89, 95, 176, 156, 169, 160, 81, 11, 245, 22, 235, 122, 117, 44, 215, 79, 174, 213, 233, 230, 231, 173, 232, 116, 214, 244, 234, 168, 80, 88, 175]
/-- The logarithm. -/
def lg (x : BitVec 8) : Nat := lgs.getD x.toNat 0
theorem pw_lg' : ∀ n : Nat, n < 256 → n ≠ 0 → pw (lgs.getD n 0) = BitVec.ofNat 8 n := by decide +kernel
theorem lg_lt' : ∀ n : Nat, n < 256 → lgs.getD n 0 < 255 := by decide +kernel
theorem lg_pw' : ∀ n : Nat, n < 255 → lg (pw n) = n := by decide +kernel
theorem pw_ne' : ∀ n : Nat, n < 255 → pw n ≠ 0#8 := by decide +kernel
theorem pw_255 : pw 255 = 1#8 := by decide +kernel
theorem xt_zero : xt 0#8 = 0#8 := by decide
theorem xt_xor (a b : BitVec 8) : xt (a ^^^ b) = xt a ^^^ xt b := by
  unfold xt
  rw [BitVec.getLsbD_xor, BitVec.shiftLeft_xor_distrib]
  have h : ∀ p q s : BitVec 8, p ^^^ q = p ^^^ s ^^^ (q ^^^ s) := fun p q s => by
    rw [show p ^^^ s ^^^ (q ^^^ s) = (p ^^^ q) ^^^ (s ^^^ s) by ac_rfl, BitVec.xor_self, BitVec.xor_zero]
  cases a.getLsbD 7 <;> cases b.getLsbD 7
  · simp
  · simp; ac_rfl
  · simp; ac_rfl
  · simpa using h _ _ _
theorem pw_lg (x : BitVec 8) (h : x ≠ 0#8) : pw (lg x) = x := by
  have := pw_lg' x.toNat x.isLt (fun e => h (BitVec.eq_of_toNat_eq (by simpa using e)))
  unfold lg
  rw [this, BitVec.ofNat_toNat, BitVec.setWidth_eq]
theorem lg_lt (x : BitVec 8) : lg x < 255 := lg_lt' x.toNat x.isLt
theorem pw_add (n : Nat) : pw (n + 255) = pw n := by
  induction n with
  | zero => exact pw_255
  | succ n ih =>
    show xt (pw (n + 255)) = xt (pw n)
    rw [ih]
theorem pw_mul (q r : Nat) : pw (255 * q + r) = pw r := by
  induction q with
  | zero => simp
  | succ q ih => rw [show 255 * (q + 1) + r = (255 * q + r) + 255 by omega, pw_add, ih]
theorem pw_mod (n : Nat) : pw (n % 255) = pw n := by
  have := pw_mul (n / 255) (n % 255)
  rw [Nat.div_add_mod] at this
  exact this.symm
theorem pw_congr {m n : Nat} (h : m % 255 = n % 255) : pw m = pw n := by rw [← pw_mod m, h, pw_mod]
theorem pw_ne (n : Nat) : pw n ≠ 0#8 := by rw [← pw_mod]; exact pw_ne' _ (Nat.mod_lt _ (by decide))
theorem lg_pw (n : Nat) : lg (pw n) = n % 255 := by rw [← pw_mod]; exact lg_pw' _ (Nat.mod_lt _ (by decide))

/-- The product. -/
def gm (a b : BitVec 8) : BitVec 8 := if a = 0#8 ∨ b = 0#8 then 0#8 else pw (lg a + lg b)
theorem gm_zl (b : BitVec 8) : gm 0#8 b = 0#8 := by simp [gm]
theorem gm_zr (a : BitVec 8) : gm a 0#8 = 0#8 := by simp [gm]
theorem gm_comm (a b : BitVec 8) : gm a b = gm b a := by
  unfold gm
  rw [Nat.add_comm (lg a)]
  by_cases h : a = 0#8 <;> by_cases k : b = 0#8 <;> simp [h, k]
theorem gm_pw (m n : Nat) : gm (pw m) (pw n) = pw (m + n) := by
  unfold gm
  rw [if_neg (by simp [pw_ne]), lg_pw, lg_pw]
  exact pw_congr (by omega)
theorem ex_pw (a : BitVec 8) (h : a ≠ 0#8) : ∃ n, n < 255 ∧ a = pw n := ⟨lg a, lg_lt a, (pw_lg a h).symm⟩
theorem gm_one (a : BitVec 8) : gm 1#8 a = a := by
  by_cases h : a = 0#8
  · rw [h, gm_zr]
  · obtain ⟨n, _, rfl⟩ := ex_pw a h
    rw [show (1#8 : BitVec 8) = pw 0 from rfl, gm_pw, Nat.zero_add]
theorem gm_one_r (a : BitVec 8) : gm a 1#8 = a := by rw [gm_comm, gm_one]
theorem gm_assoc (a b c : BitVec 8) : gm (gm a b) c = gm a (gm b c) := by
  by_cases ha : a = 0#8
  · simp [ha, gm_zl]
  by_cases hb : b = 0#8
  · simp [hb, gm_zl, gm_zr]
  by_cases hc : c = 0#8
  · simp [hc, gm_zr]
  obtain ⟨i, _, rfl⟩ := ex_pw a ha
  obtain ⟨j, _, rfl⟩ := ex_pw b hb
  obtain ⟨k, _, rfl⟩ := ex_pw c hc
  simp only [gm_pw, Nat.add_assoc]
theorem gm_ne (a b : BitVec 8) (ha : a ≠ 0#8) (hb : b ≠ 0#8) : gm a b ≠ 0#8 := by
  unfold gm
  rw [if_neg (by simp [ha, hb])]
  exact pw_ne _
theorem gm_xt (a b : BitVec 8) : gm a (xt b) = xt (gm a b) := by
  by_cases ha : a = 0#8
  · simp [ha, gm_zl, xt_zero]
  by_cases hb : b = 0#8
  · simp [hb, gm_zr, xt_zero]
  obtain ⟨i, _, rfl⟩ := ex_pw a ha
  obtain ⟨j, _, rfl⟩ := ex_pw b hb
  rw [show xt (pw j) = pw (j + 1) from rfl, gm_pw, gm_pw]
  rfl
theorem gm_xt_l (a b : BitVec 8) : gm (xt a) b = xt (gm a b) := by rw [gm_comm, gm_xt, gm_comm]
theorem gm_pw_xor (n : Nat) (b c : BitVec 8) : gm (pw n) (b ^^^ c) = gm (pw n) b ^^^ gm (pw n) c := by
  induction n with
  | zero => simp only [show pw 0 = 1#8 from rfl, gm_one]
  | succ n ih => rw [show pw (n + 1) = xt (pw n) from rfl, gm_xt_l, gm_xt_l, gm_xt_l, ih, xt_xor]
theorem gm_xor (a b c : BitVec 8) : gm a (b ^^^ c) = gm a b ^^^ gm a c := by
  by_cases ha : a = 0#8
  · simp [ha, gm_zl]
  · obtain ⟨i, _, rfl⟩ := ex_pw a ha
    exact gm_pw_xor i b c
theorem gm_xor_l (a b c : BitVec 8) : gm (a ^^^ b) c = gm a c ^^^ gm b c := by rw [gm_comm, gm_xor, gm_comm c, gm_comm c]

/-- The inverse. -/
def gi (a : BitVec 8) : BitVec 8 := pw (255 - lg a)
theorem gi_ne (a : BitVec 8) : gi a ≠ 0#8 := pw_ne _
theorem gm_gi (a : BitVec 8) (h : a ≠ 0#8) : gm a (gi a) = 1#8 := by
  have hl := lg_lt a
  obtain ⟨n, hn, e⟩ := ex_pw a h
  have : lg a = n := by rw [e, lg_pw, Nat.mod_eq_of_lt hn]
  unfold gi
  rw [this, e, gm_pw, show n + (255 - n) = 255 by omega, pw_255]
/-- The quotient. -/
def gd (a b : BitVec 8) : BitVec 8 := gm a (gi b)
theorem gd_log (a b : BitVec 8) (ha : a ≠ 0#8) (hb : b ≠ 0#8) : gd a b = pw (lg a + 255 - lg b) := by
  have h1 := lg_lt b
  obtain ⟨n, hn, e⟩ := ex_pw a ha
  have : lg a = n := by rw [e, lg_pw, Nat.mod_eq_of_lt hn]
  unfold gd gi
  rw [this, e, gm_pw]
  congr 1; omega
/-- The power. -/
def gp (a : BitVec 8) : Nat → BitVec 8
  | 0 => 1#8
  | n + 1 => gm (gp a n) a
/-- The next power as an integer. -/
theorem pw_next (n : Nat) : (if 255 < 2 * (pw n).toNat then (2 * (pw n).toNat) ^^^ 285 else 2 * (pw n).toNat) = (pw (n + 1)).toNat := by
  have : ∀ x : Nat, x < 256 → (if 255 < 2 * x then (2 * x) ^^^ 285 else 2 * x) = (xt (BitVec.ofNat 8 x)).toNat := by decide +kernel
  have h := this (pw n).toNat (pw n).isLt
  rw [BitVec.ofNat_toNat, BitVec.setWidth_eq] at h
  exact h
end Go.Proofs.YtnmopjefjpifoaaGreatDoor
/- The reference's product and inverse. -/
set_option maxRecDepth 100000
namespace Go.Proofs.YtnmopjefjpifoaaGreatDoor
open Go Go.RowKit

theorem conv_BI (x : BitVec 8) (w : World) : (convert 5 3 (B x)).run Tryz.prog w = .ok (.int .i64 (x.toNat : Int)) w := run_convert_BI w _ _ x (by kernel_rfl) (by kernel_rfl)
attribute [local go_sem] conv_BI
end Go.Proofs.YtnmopjefjpifoaaGreatDoor
/- Matrices over GF(2^8) as functions: products, row steps, determinants, Cauchy matrices; nothing of the program. -/
set_option maxRecDepth 100000
namespace Go.Proofs.YtnmopjefjpifoaaGreatDoor

/-! Sums -/
def xs : Nat → (Nat → BitVec 8) → BitVec 8
  | 0, _ => 0#8
  | n + 1, f => xs n f ^^^ f n
theorem xs_congr {n : Nat} {f g : Nat → BitVec 8} (h : ∀ i, i < n → f i = g i) : xs n f = xs n g := by
  induction n with
  | zero => rfl
  | succ n ih => show xs n f ^^^ f n = xs n g ^^^ g n; rw [ih (fun i hi => h i (by omega)), h n (by omega)]
theorem xs_zero (n : Nat) : xs n (fun _ => 0#8) = 0#8 := by
  induction n with
  | zero => rfl
  | succ n ih => show xs n _ ^^^ 0#8 = 0#8; rw [ih]; rfl
theorem xs_zero' {n : Nat} {f : Nat → BitVec 8} (h : ∀ i, i < n → f i = 0#8) : xs n f = 0#8 := by rw [xs_congr h, xs_zero]
theorem xs_add (n : Nat) (f g : Nat → BitVec 8) : xs n (fun i => f i ^^^ g i) = xs n f ^^^ xs n g := by
  induction n with
  | zero => exact (BitVec.xor_zero (x := 0#8)).symm
  | succ n ih =>
    show xs n _ ^^^ (f n ^^^ g n) = xs n f ^^^ f n ^^^ (xs n g ^^^ g n)
    rw [ih]; ac_rfl
theorem xs_mul (n : Nat) (c : BitVec 8) (f : Nat → BitVec 8) : xs n (fun i => gm c (f i)) = gm c (xs n f) := by
  induction n with
  | zero => exact (gm_zr c).symm
  | succ n ih => show xs n _ ^^^ gm c (f n) = gm c (xs n f ^^^ f n); rw [ih, gm_xor]
theorem xs_mul_r (n : Nat) (c : BitVec 8) (f : Nat → BitVec 8) : xs n (fun i => gm (f i) c) = gm (xs n f) c := by
  rw [gm_comm, ← xs_mul]; exact xs_congr fun i _ => gm_comm _ _
theorem xs_swap (n m : Nat) (f : Nat → Nat → BitVec 8) : xs n (fun i => xs m (fun j => f i j)) = xs m (fun j => xs n (fun i => f i j)) := by
  induction n with
  | zero => exact (xs_zero m).symm
  | succ n ih =>
    show xs n _ ^^^ xs m (fun j => f n j) = xs m (fun j => xs n (fun i => f i j) ^^^ f n j)
    rw [ih, xs_add]
theorem xs_one (n k : Nat) (h : k < n) (f : Nat → BitVec 8) (h0 : ∀ i, i < n → i ≠ k → f i = 0#8) : xs n f = f k := by
  induction n with
  | zero => omega
  | succ n ih =>
    show xs n f ^^^ f n = f k
    by_cases e : k = n
    · subst e
      rw [xs_zero' fun i hi => h0 i (by omega) (by omega), BitVec.zero_xor]
    · rw [ih (by omega) (fun i hi => h0 i (by omega)), h0 n (by omega) (Ne.symm e), BitVec.xor_zero]
theorem xor_self' (x : BitVec 8) : x ^^^ x = 0#8 := BitVec.xor_self
theorem xor_eq_zero (x y : BitVec 8) (h : x ^^^ y = 0#8) : x = y := by
  have : x ^^^ y ^^^ y = y := by rw [h, BitVec.zero_xor]
  rwa [BitVec.xor_assoc, BitVec.xor_self, BitVec.xor_zero] at this
theorem gm_eq_zero (a b : BitVec 8) (ha : a ≠ 0#8) (h : gm a b = 0#8) : b = 0#8 := by
  by_cases hb : b = 0#8
  · exact hb
  · exact absurd h (gm_ne a b ha hb)
/-- A symmetric double sum without its diagonal is nothing. -/
theorem xs_sym (n : Nat) (g : Nat → Nat → BitVec 8) (hs : ∀ i j, i < n → j < n → g i j = g j i) (hd : ∀ i, i < n → g i i = 0#8) : xs n (fun i => xs n (fun j => g i j)) = 0#8 := by
  induction n with
  | zero => rfl
  | succ n ih =>
    show xs n (fun i => xs n (fun j => g i j) ^^^ g i n) ^^^ (xs n (fun j => g n j) ^^^ g n n) = 0#8
    rw [xs_add, ih (fun i j hi hj => hs i j (by omega) (by omega)) (fun i hi => hd i (by omega)), hd n (by omega), BitVec.xor_zero, BitVec.zero_xor,
      xs_congr (fun j hj => hs n j (by omega) (by omega)), xor_self']

/-! Products -/
abbrev Mx := Nat → Nat → BitVec 8
def mm (n : Nat) (a b : Mx) : Mx := fun i k => xs n (fun j => gm (a i j) (b j k))
def id1 : Mx := fun i j => if i = j then 1#8 else 0#8
theorem mm_assoc (n : Nat) (a b c : Mx) (i k : Nat) : mm n (mm n a b) c i k = mm n a (mm n b c) i k := by
  unfold mm
  have e1 : ∀ j, gm (xs n fun l => gm (a i l) (b l j)) (c j k) = xs n (fun l => gm (gm (a i l) (b l j)) (c j k)) := fun j => (xs_mul_r n _ _).symm
  have e2 : ∀ l, gm (a i l) (xs n fun j => gm (b l j) (c j k)) = xs n (fun j => gm (gm (a i l) (b l j)) (c j k)) := fun l => by
    rw [← xs_mul]; exact xs_congr fun j _ => (gm_assoc _ _ _).symm
  rw [xs_congr fun j _ => e1 j, xs_congr fun l _ => e2 l, xs_swap]
theorem mm_id_l (n : Nat) (a : Mx) (i k : Nat) (h : i < n) : mm n id1 a i k = a i k := by
  unfold mm
  rw [xs_one n i h]
  · unfold id1; rw [if_pos rfl, gm_one]
  · intro j _ hj
    unfold id1; rw [if_neg (Ne.symm hj), gm_zl]
theorem mm_congr {n : Nat} {a a' b b' : Mx} {i k : Nat} (ha : ∀ j, j < n → a i j = a' i j) (hb : ∀ j, j < n → b j k = b' j k) : mm n a b i k = mm n a' b' i k :=
  xs_congr fun j hj => by rw [ha j hj, hb j hj]

/-! Row steps. A step and the one that takes it back, on the first n rows. -/
structure Rop (n : Nat) (T U : Mx → Mx) : Prop where
  left : ∀ (m : Nat) (X Y : Mx) i k, mm m (T X) Y i k = T (mm m X Y) i k
  left' : ∀ (m : Nat) (X Y : Mx) i k, mm m (U X) Y i k = U (mm m X Y) i k
  back : ∀ X i k, U (T X) i k = X i k
  back' : ∀ X i k, T (U X) i k = X i k
  congr : ∀ X Y : Mx, ∀ k, (∀ i, i < n → X i k = Y i k) → ∀ i, i < n → T X i k = T Y i k
  congr' : ∀ X Y : Mx, ∀ k, (∀ i, i < n → X i k = Y i k) → ∀ i, i < n → U X i k = U Y i k
theorem Rop.refl (n : Nat) : Rop n (fun X => X) (fun X => X) :=
  ⟨fun _ _ _ _ _ => rfl, fun _ _ _ _ _ => rfl, fun _ _ _ => rfl, fun _ _ _ => rfl, fun _ _ _ h => h, fun _ _ _ h => h⟩
theorem Rop.symm {n : Nat} {T U : Mx → Mx} (h : Rop n T U) : Rop n U T := ⟨h.left', h.left, h.back', h.back, h.congr', h.congr⟩
theorem funext2 {X Y : Mx} (h : ∀ i k, X i k = Y i k) : X = Y := funext fun i => funext fun k => h i k
theorem Rop.trans {n : Nat} {T U T' U' : Mx → Mx} (h : Rop n T U) (g : Rop n T' U') : Rop n (fun X => T' (T X)) (fun X => U (U' X)) where
  left m X Y i k := by rw [g.left, funext2 (h.left m X Y)]
  left' m X Y i k := by rw [h.left', funext2 (g.left' m X Y)]
  back X i k := by rw [funext2 (g.back (T X)), h.back]
  back' X i k := by rw [funext2 (h.back' (U' X)), g.back']
  congr X Y k e i hi := g.congr _ _ k (h.congr X Y k e) i hi
  congr' X Y k e i hi := h.congr' _ _ k (g.congr' X Y k e) i hi
def swp (p q i : Nat) : Nat := if i = p then q else if i = q then p else i
def rswap (p q : Nat) (a : Mx) : Mx := fun i k => a (swp p q i) k
def rscale (p : Nat) (c : BitVec 8) (a : Mx) : Mx := fun i k => if i = p then gm c (a i k) else a i k
def radd (p q : Nat) (c : BitVec 8) (a : Mx) : Mx := fun i k => if i = q then a q k ^^^ gm c (a p k) else a i k
theorem swp_swp (p q i : Nat) : swp p q (swp p q i) = i := by
  unfold swp; by_cases h1 : i = p <;> by_cases h2 : i = q <;> by_cases h3 : q = p <;> simp_all
theorem rop_swap (n p q : Nat) (hp : p < n) (hq : q < n) : Rop n (rswap p q) (rswap p q) where
  left m X Y i k := rfl
  left' m X Y i k := rfl
  back X i k := by show X (swp p q (swp p q i)) k = X i k; rw [swp_swp]
  back' X i k := by show X (swp p q (swp p q i)) k = X i k; rw [swp_swp]
  congr X Y k e i hi := e _ (by unfold swp; split; exact hq; split; exact hp; exact hi)
  congr' X Y k e i hi := e _ (by unfold swp; split; exact hq; split; exact hp; exact hi)
theorem scale_left (p : Nat) (c : BitVec 8) (m : Nat) (X Y : Mx) (i k : Nat) : mm m (rscale p c X) Y i k = rscale p c (mm m X Y) i k := by
  unfold rscale mm
  by_cases h : i = p
  · simp only [h, if_true, gm_assoc, xs_mul]
  · simp only [h, if_false]
theorem scale_back (p : Nat) (c : BitVec 8) (hc : c ≠ 0#8) (X : Mx) (i k : Nat) : rscale p (gi c) (rscale p c X) i k = X i k := by
  unfold rscale
  by_cases h : i = p
  · simp only [h, if_true, ← gm_assoc, gm_comm (gi c) c, gm_gi c hc, gm_one]
  · simp only [h, if_false]
theorem scale_back' (p : Nat) (c : BitVec 8) (hc : c ≠ 0#8) (X : Mx) (i k : Nat) : rscale p c (rscale p (gi c) X) i k = X i k := by
  unfold rscale
  by_cases h : i = p
  · simp only [h, if_true, ← gm_assoc, gm_gi c hc, gm_one]
  · simp only [h, if_false]
theorem rop_scale (n p : Nat) (c : BitVec 8) (hc : c ≠ 0#8) : Rop n (rscale p c) (rscale p (gi c)) where
  left := scale_left p c
  left' := scale_left p (gi c)
  back := scale_back p c hc
  back' := scale_back' p c hc
  congr X Y k e i hi := by unfold rscale; rw [e i hi]
  congr' X Y k e i hi := by unfold rscale; rw [e i hi]
theorem add_left (p q : Nat) (c : BitVec 8) (m : Nat) (X Y : Mx) (i k : Nat) : mm m (radd p q c X) Y i k = radd p q c (mm m X Y) i k := by
  unfold radd mm
  by_cases h : i = q
  · simp only [h, if_true, gm_xor_l, gm_assoc, xs_add, xs_mul]
  · simp only [h, if_false]
theorem add_back (p q : Nat) (c : BitVec 8) (hpq : p ≠ q) (X : Mx) (i k : Nat) : radd p q c (radd p q c X) i k = X i k := by
  unfold radd
  by_cases h : i = q
  · subst h; simp only [if_true, if_neg hpq, BitVec.xor_assoc, xor_self', BitVec.xor_zero]
  · simp only [h, if_false]
theorem rop_add (n p q : Nat) (c : BitVec 8) (hpq : p ≠ q) (hp : p < n) (hq : q < n) : Rop n (radd p q c) (radd p q c) where
  left := add_left p q c
  left' := add_left p q c
  back := add_back p q c hpq
  back' := add_back p q c hpq
  congr X Y k e i hi := by unfold radd; rw [e i hi, e q hq, e p hp]
  congr' X Y k e i hi := by unfold radd; rw [e i hi, e q hq, e p hp]
/-- Where steps turn a into the unit, they turn the unit into a's inverse, on either side. -/
theorem Rop.inverse {n : Nat} {T U : Mx → Mx} (h : Rop n T U) (a : Mx) (ha : ∀ i k, i < n → k < n → T a i k = id1 i k) :
    (∀ i k, i < n → k < n → mm n (T id1) a i k = id1 i k) ∧ (∀ i k, i < n → k < n → mm n a (T id1) i k = id1 i k) := by
  have h1 : ∀ i k, i < n → k < n → mm n (T id1) a i k = id1 i k := fun i k hi hk => by
    rw [h.left, h.congr _ a k (fun i hi => mm_id_l n a i k hi) i hi, ha i k hi hk]
  refine ⟨h1, fun i k hi hk => ?_⟩
  have h2 : ∀ j, j < n → a i j = U id1 i j := fun j hj => by
    have := h.congr' (T a) id1 j (fun i hi => ha i j hi hj) i hi
    rwa [h.back] at this
  rw [mm_congr h2 (fun j _ => rfl) (b' := T id1), h.left', h.congr' _ (T id1) k (fun i hi => mm_id_l n (T id1) i k hi) i hi, h.back]
end Go.Proofs.YtnmopjefjpifoaaGreatDoor
/- The reference's Cauchy numbers. -/
set_option maxRecDepth 100000
namespace Go.Proofs.YtnmopjefjpifoaaGreatDoor
open Go Go.RowKit

end Go.Proofs.YtnmopjefjpifoaaGreatDoor
/- Slices of slices of bytes: read, and appended to. -/
set_option maxRecDepth 100000
namespace Go.Proofs.YtnmopjefjpifoaaGreatDoor
open Go Go.RowKit

theorem undRows : Tryz.prog.underlying 73 = some (.slice 53) := by kernel_rfl
theorem infoB : (Tryz.prog.info? 53).map (fun i => (i.zero, i.size, i.bytes)) = some (some (.slice none 0 0), 1, 24) := by kernel_rfl
/-- Slices of bytes lie where a slice of their number begins. -/
def Prt (w : World) (p : Option Addr) (ls : List (List (BitVec 8))) : Prop :=
  ∀ i, i < ls.length → ∃ c o q cap, p = some ⟨c, o, none⟩ ∧ w.cell? ⟨c, o + i, none⟩ = some (.slice q (ls.getD i []).length cap) ∧ Sl w q (ls.getD i []) ∧ (q = none → cap = 0) ∧ (ls.getD i []).length ≤ cap
theorem Prt.of_below {w w' : World} {p : Option Addr} {ls : List (List (BitVec 8))} (h : Prt w p ls) (k : Below w.heap.size w w') : Prt w' p ls := fun i hi => by
  obtain ⟨c, o, q, cap, h1, h2, h3, h4, h5⟩ := h i hi
  exact ⟨c, o, q, cap, h1, by rw [k.cell (World.block_lt_of_cell? w _ h2)]; exact h2, h3.of_below k, h4, h5⟩
theorem Prt.dr {w w' : World} {p : Option Addr} {ls : List (List (BitVec 8))} (h : Prt w p ls) (k : Dr w w') : Prt w' p ls := by obtain ⟨N, rfl⟩ := k; exact h
theorem Prt.nil (w : World) (p : Option Addr) : Prt w p [] := fun i hi => absurd hi (by simp)
/-- The numbers of rows as a matrix. -/
def mx (ls : List (List (BitVec 8))) (i j : Nat) : BitVec 8 := (ls.getD i []).getD j 0#8
/-- The slice v, among the blocks from base on, holds the headers of rows that hold ls; no row lies in v's own block. -/
def OwnM (w : World) (base : Nat) (v : Value) (ls : List (List (BitVec 8))) : Prop :=
  ∃ vs : List Value, vs.length = ls.length ∧ w.ownsRow base 53 1 v ls.length vs ∧
    ∀ i, i < ls.length → ∃ q cap, vs[i]? = some (.slice q (ls.getD i []).length cap) ∧ Sl w q (ls.getD i []) ∧ (q = none → cap = 0) ∧ (ls.getD i []).length ≤ cap ∧ ∀ a, q = some a → base ≤ a.block ∧ a.block < w.heap.size ∧ v.ownBlock ≠ some a.block
theorem Sl.of_block {w w' : World} {q : Option Addr} {l : List (BitVec 8)} (h : Sl w q l) (k : ∀ a, q = some a → w'.heap[a.block]? = w.heap[a.block]?) : Sl w' q l := fun j hj => by
  obtain ⟨c, o, e, hc⟩ := h j hj
  refine ⟨c, o, e, ?_⟩
  have := k _ e
  rw [World.cell?_of_block (w := w) (w' := w') (a := ⟨c, o + j, none⟩) this]
  exact hc
theorem OwnM.nil (w : World) (base : Nat) : OwnM w base (.slice none 0 0) [] := ⟨[], rfl, ⟨rfl, .inl ⟨rfl, rfl⟩⟩, fun i hi => absurd hi (by simp)⟩
theorem OwnM.keep {w w' : World} {base : Nat} {v : Value} {ls : List (List (BitVec 8))} (h : OwnM w base v ls) (hsz : w.heap.size ≤ w'.heap.size) (k : ∀ g, base ≤ g → g < w.heap.size → w'.heap[g]? = w.heap[g]?) : OwnM w' base v ls := by
  obtain ⟨vs, h1, h2, h3⟩ := h
  refine ⟨vs, h1, ⟨h2.1, ?_⟩, fun i hi => ?_⟩
  · rcases h2.2 with h' | ⟨g, cap, cur, hv, hb, hg, r⟩
    · exact .inl h'
    · have hlt : g < w.heap.size := by
        rcases Nat.lt_or_ge g w.heap.size with h' | h'
        · exact h'
        · rw [Array.getElem?_eq_none h'] at hg; cases hg
      exact .inr ⟨g, cap, cur, hv, hb, by rw [k g hb hlt]; exact hg, r⟩
  · obtain ⟨q, cap, a1, a2, a3, a4, a5⟩ := h3 i hi
    exact ⟨q, cap, a1, a2.of_block (fun a e => k a.block (a5 a e).1 (a5 a e).2.1), a3, a4, fun a e => ⟨(a5 a e).1, Nat.lt_of_lt_of_le (a5 a e).2.1 hsz, (a5 a e).2.2⟩⟩
theorem OwnM.of_below {w w' : World} {base : Nat} {v : Value} {ls : List (List (BitVec 8))} (h : OwnM w base v ls) (k : Below w.heap.size w w') : OwnM w' base v ls := h.keep k.size fun g _ hg => k.block g hg
theorem OwnM.dr {w w' : World} {base : Nat} {v : Value} {ls : List (List (BitVec 8))} (h : OwnM w base v ls) (k : Dr w w') : OwnM w' base v ls := by obtain ⟨N, rfl⟩ := k; exact h
/-- What such a slice reads as. -/
theorem OwnM.prt {w : World} {base : Nat} {v : Value} {ls : List (List (BitVec 8))} (h : OwnM w base v ls) : ∃ p cap, v = .slice p ls.length cap ∧ Prt w p ls ∧ (p = none → cap = 0) ∧ ls.length ≤ cap := by
  obtain ⟨vs, h1, h2, h3⟩ := h
  rcases h2.2 with ⟨hv, hl⟩ | ⟨g, cap, cur, hv, hb, hg, hle, _, hsz, ht⟩
  · exact ⟨none, 0, by rw [hv, hl], fun i hi => absurd hi (by omega), fun _ => rfl, by omega⟩
  · refine ⟨some ⟨g, 0, none⟩, cap, hv, fun i hi => ?_, (fun h => by cases h), hle⟩
    obtain ⟨q, cap', a1, a2, a3, a4, _⟩ := h3 i hi
    refine ⟨g, 0, q, cap', rfl, ?_, a2, a3, a4⟩
    rw [Nat.zero_add, cell_of_row w g i cur 53 (0, 0) hg]
    have e : (cur.toList.take (ls.length * 1))[i]? = vs[i]? := by rw [ht]
    rw [List.getElem?_take, if_pos (by omega), a1] at e
    simpa using e
/-- One row appended. -/
theorem OwnM.push {w : World} {base : Nat} {v : Value} {ls : List (List (BitVec 8))} (h : OwnM w base v ls) (ty : TypeId) (a : Addr) (q : Option Addr) (l : List (BitVec 8)) (n cap : Nat)
    (hc : w.cell? a = some (.slice q n cap)) (hn : l.length = n) (hs : Sl w q l) (hq : q = none → cap = 0) (hle : n ≤ cap) (hqb : ∀ b, q = some b → base ≤ b.block ∧ b.block < w.heap.size ∧ v.ownBlock ≠ some b.block)
    (hlen : ls.length < 100000000) (hb : base ≤ w.heap.size) :
    ∃ g cap' w', (Builtin.append_ #[73, 73] ty #[v, .slice (some a) 1 1]).run Tryz.prog w = .ok (.slice (some ⟨g, 0, none⟩) (ls.length + 1) cap') w' ∧ OwnM w' base (.slice (some ⟨g, 0, none⟩) (ls.length + 1) cap') (ls ++ [l]) ∧ w.grownBy w' v.ownBlock ∧
      (v.ownBlock = some g ∨ g = w.heap.size) ∧ (∀ k, v.ownBlock = some k → base ≤ k ∧ k < w.heap.size) := by
  subst hn
  obtain ⟨vs, h1, h2, h3⟩ := h
  obtain ⟨i0, hi, hz0, hz1, hz2⟩ := info_parts infoB
  obtain ⟨g, cap', w', r1, r2, r3, r4, r5⟩ := run_append_lies (P := Tryz.prog) w 73 ty base 53 i0 (.slice none 0 0) 1 24 undRows hi hz0 hz1 hz2 rfl (by decide) v ls.length vs h2 a 1 1 [.slice q l.length cap] rfl
    (fun j u hu => by
      have : j = 0 := by
        rcases Nat.eq_zero_or_pos j with h | h
        · exact h
        · rw [List.getElem?_eq_none (by simp; omega)] at hu; cases hu
      subst this
      rw [Addr.add_zero', hc]
      simpa using hu)
    (by intro u hu; simp at hu; subst hu; rfl) (by decide) (by simp only [maxLen]; omega) (by omega) hb w.heap.size rfl
  have hkeep : ∀ b : Addr, b.block < w.heap.size → v.ownBlock ≠ some b.block → w'.heap[b.block]? = w.heap[b.block]? ∧ g ≠ b.block := fun b hbl hne =>
    ⟨r3.block b.block hbl (Ne.symm hne), fun e => by
      rcases r4 with r4 | r4
      · exact hne (by rw [r4, e])
      · omega⟩
  refine ⟨g, cap', w', r1, ⟨vs ++ [.slice q l.length cap], by simp [h1], by rw [List.length_append]; exact r2, fun i hi => ?_⟩, r3, r4, fun k hk => World.ownsRow.lt h2 k hk⟩
  have hsz := r3.size
  by_cases hil : i < ls.length
  · obtain ⟨q', cap'', a1, a2, a3, a4, a5⟩ := h3 i hil
    have e : (ls ++ [l]).getD i [] = ls.getD i [] := by simp [List.getD_eq_getElem?_getD, List.getElem?_append_left hil]
    rw [e]
    refine ⟨q', cap'', by rw [List.getElem?_append_left (by omega)]; exact a1, a2.of_block (fun a ea => (hkeep a (a5 a ea).2.1 (a5 a ea).2.2).1), a3, a4, fun a ea => ⟨(a5 a ea).1, Nat.lt_of_lt_of_le (a5 a ea).2.1 hsz, ?_⟩⟩
    intro e'
    exact (hkeep a (a5 a ea).2.1 (a5 a ea).2.2).2 (by simpa [Value.ownBlock] using e')
  · have hi' : i = ls.length := by
      rw [List.length_append] at hi
      have : ([l] : List (List (BitVec 8))).length = 1 := rfl
      omega
    subst hi'
    have e : (ls ++ [l]).getD ls.length [] = l := by simp [List.getD_eq_getElem?_getD]
    rw [e]
    refine ⟨q, cap, by rw [List.getElem?_append_right (by omega), h1]; simp, hs.of_block (fun a ea => (hkeep a (hqb a ea).2.1 (hqb a ea).2.2).1), hq, hle, fun a ea => ⟨(hqb a ea).1, Nat.lt_of_lt_of_le (hqb a ea).2.1 hsz, ?_⟩⟩
    intro e'
    exact (hkeep a (hqb a ea).2.1 (hqb a ea).2.2).2 (by simpa [Value.ownBlock] using e')
end Go.Proofs.YtnmopjefjpifoaaGreatDoor
/- Rows of bytes: one of them, strings of bytes, equal rows; a slice of rows that is returned. -/
set_option maxRecDepth 100000
namespace Go.Proofs.YtnmopjefjpifoaaGreatDoor
open Go Go.RowKit

theorem Prt.at_ {w : World} {p : Option Addr} {ls : List (List (BitVec 8))} (h : Prt w p ls) (i : Nat) (hi : i < ls.length) :
    ∃ c o q cap, p = some ⟨c, o, none⟩ ∧ c < w.heap.size ∧ w.cell? ⟨c, o + i, none⟩ = some (.slice q (ls.getD i []).length cap) ∧ Sl w q (ls.getD i []) ∧ (q = none → cap = 0) ∧ (ls.getD i []).length ≤ cap := by
  obtain ⟨c, o, q, cap, h1, h2, h3⟩ := h i hi
  exact ⟨c, o, q, cap, h1, World.block_lt_of_cell? w _ h2, h2, h3⟩
theorem rows_ext {la lb : List (List (BitVec 8))} (hl : la.length = lb.length) (h : ∀ i, i < la.length → la.getD i [] = lb.getD i []) : la = lb := by
  apply List.ext_getElem hl
  intro i h1 h2
  have := h i h1
  simpa [List.getD_eq_getElem?_getD, h1, h2] using this
theorem OwnM.lt {w : World} {base : Nat} {v : Value} {ls : List (List (BitVec 8))} (h : OwnM w base v ls) : ∀ k, v.ownBlock = some k → base ≤ k ∧ k < w.heap.size := by
  obtain ⟨vs, _, h2, _⟩ := h
  exact World.ownsRow.lt h2
theorem bs0 (w : World) : (bsT 53 0 #[]).run Tryz.prog w = .ok (.value (.slice (some ⟨w.heap.size, 0, none⟩) 0 0)) (w.alloc (.cells #[] 5)) := by kernel_rfl
theorem bsR (q : Option Addr) (n c : Nat) (w : World) : (bsT 73 1 #[(0, .slice q n c)]).run Tryz.prog w = .ok (.value (.slice (some ⟨w.heap.size, 0, none⟩) 1 1)) (w.alloc (.cells #[.slice q n c] 53)) := by
  cases q <;> kernel_rfl
theorem range_snoc {α : Type} (f : Nat → α) (k : Nat) : (List.range (k + 1)).map f = (List.range k).map f ++ [f k] := by rw [List.range_succ, List.map_append]; rfl
end Go.Proofs.YtnmopjefjpifoaaGreatDoor
/- Rows of bytes that are filled one by one. -/
set_option maxRecDepth 100000
namespace Go.Proofs.YtnmopjefjpifoaaGreatDoor
open Go Go.RowKit

/-- What a row holds when k of its bytes are reckoned. -/
def upto (f : Nat → BitVec 8) (k j : Nat) : Value := if j < k then B (f j) else B 0#8
theorem upto_zero (f : Nat → BitVec 8) (j : Nat) : B 0#8 = upto f 0 j := by rw [upto, if_neg (by omega)]
theorem upto_step (f : Nat → BitVec 8) (k j : Nat) : (if j = k then B (f k) else upto f k j) = upto f (k + 1) j := by
  unfold upto
  by_cases h : j = k
  · subst h; rw [if_pos rfl, if_pos (by omega)]
  · rw [if_neg h]
    by_cases h1 : j < k
    · rw [if_pos h1, if_pos (by omega)]
    · rw [if_neg h1, if_neg (by omega)]
theorem upto_full (f : Nat → BitVec 8) (n j : Nat) (h : j < n) : upto f n j = B (f j) := by rw [upto, if_pos h]
end Go.Proofs.YtnmopjefjpifoaaGreatDoor
/- Stores of bytes and ints, and slices of bytes that are made. -/
set_option maxRecDepth 100000
namespace Go.Proofs.YtnmopjefjpifoaaGreatDoor
open Go Go.RowKit

theorem convIB (n : Nat) (w : World) : (convert 3 5 (.int .i64 (n : Int))).run Tryz.prog w = .ok (B (BitVec.ofNat 8 n)) w :=
  run_convert_IB w 3 5 n (by kernel_rfl) (by kernel_rfl)
theorem st_B (a : Addr) (x : BitVec 8) (w : World) (hcell : (w.cell? a).isSome = true) (hf : w.frozen? a = false) : (stT 5 (.pointer (some a)) (B x)).run Tryz.prog w = .ok .skip (w.setCell a (B x)) :=
  stT_one 5 a (B x) w (one_B x) (cells_B x) (by kernel_rfl) hcell hf
theorem st_I (a : Addr) (x : Int) (w : World) (hcell : (w.cell? a).isSome = true) (hf : w.frozen? a = false) : (stT 3 (.pointer (some a)) (.int .i64 x)).run Tryz.prog w = .ok .skip (w.setCell a (.int .i64 x)) :=
  stT_one 3 a _ w rfl rfl (by kernel_rfl) hcell hf
theorem st_b (a : Addr) (x : Int) (w : World) (hcell : (w.cell? a).isSome = true) (hf : w.frozen? a = false) : (stT 5 (.pointer (some a)) (.int .u8 x)).run Tryz.prog w = .ok .skip (w.setCell a (.int .u8 x)) :=
  stT_one 5 a _ w rfl rfl (by kernel_rfl) hcell hf
theorem mkB (n : Nat) (w : World) (hn : n < 4294967296) : (mkT 53 (.int .i64 (n : Int)) (.int .i64 (n : Int))).run Tryz.prog w = .ok (.value (.slice (some ⟨w.heap.size, 0, none⟩) n n)) (w.alloc (.cells (zb n) 5)) := by
  have hi : (Tryz.prog.info? 5).map (fun i => (i.zero, i.size, i.bytes)) = some (some (.int .u8 0), 1, 1) := by kernel_rfl
  cases hq : Tryz.prog.info? 5 with
  | none => simp [hq] at hi
  | some i =>
    rw [hq] at hi
    simp only [Option.map_some, Option.some.injEq, Prod.mk.injEq] at hi
    obtain ⟨h1, h2, h3⟩ := hi
    have := run_make (P := Tryz.prog) w 53 5 i (.int .u8 0) (by kernel_rfl) hq h1 .i64 .i64 n n (by omega) (Int.le_refl _) (by rw [h3]; omega) (by omega)
    rw [h2] at this
    simp only [Int.toNat_natCast, Nat.mul_one] at this
    simp only [mkT, Sem.run_bind, this, Result.andThen_ok, Sem.run_pure]
    congr 2
    rw [zb_eq]
    congr 1
    apply Array.ext_getElem?
    intro j
    by_cases hj : j < n <;> simp [madeCells, Value.cells, hj, Nat.mod_one]
end Go.Proofs.YtnmopjefjpifoaaGreatDoor
/- Determinants over GF(2^8), by the first row; what row steps do to them; Cauchy matrices; nothing of the program. -/
set_option maxRecDepth 100000
namespace Go.Proofs.YtnmopjefjpifoaaGreatDoor

def skip (k j : Nat) : Nat := if j < k then j else j + 1
theorem skip_lt {k j n : Nat} (h : j < n) : skip k j < n + 1 := by unfold skip; split <;> omega
def minor (a : Mx) (k : Nat) : Mx := fun i j => a (i + 1) (skip k j)
def det : Nat → Mx → BitVec 8
  | 0, _ => 1#8
  | n + 1, a => xs (n + 1) (fun k => gm (a 0 k) (det n (minor a k)))
theorem det_succ (n : Nat) (a : Mx) : det (n + 1) a = xs (n + 1) (fun k => gm (a 0 k) (det n (minor a k))) := rfl
theorem det_congr {n : Nat} {a b : Mx} (h : ∀ i k, i < n → k < n → a i k = b i k) : det n a = det n b := by
  induction n generalizing a b with
  | zero => rfl
  | succ n ih =>
    rw [det_succ, det_succ]
    refine xs_congr fun k hk => ?_
    rw [h 0 k (by omega) hk, ih (a := minor a k) (b := minor b k) fun i j hi hj => h (i + 1) (skip k j) (by omega) (skip_lt hj)]
/-- A row in the place of another. -/
def setr (a : Mx) (p : Nat) (u : Nat → BitVec 8) : Mx := fun i k => if i = p then u k else a i k
theorem minor_setr (a : Mx) (p : Nat) (u : Nat → BitVec 8) (k : Nat) : minor (setr a (p + 1) u) k = setr (minor a k) p (fun j => u (skip k j)) := by
  funext i j
  unfold minor setr
  by_cases h : i = p
  · subst h; simp
  · rw [if_neg (by omega), if_neg h]
theorem minor_setr0 (a : Mx) (u : Nat → BitVec 8) (k : Nat) : minor (setr a 0 u) k = minor a k := by
  funext i j
  unfold minor setr
  rw [if_neg (by omega)]
theorem det_add (n p : Nat) (hp : p < n) (a : Mx) (u v : Nat → BitVec 8) : det n (setr a p (fun k => u k ^^^ v k)) = det n (setr a p u) ^^^ det n (setr a p v) := by
  induction n generalizing p a u v with
  | zero => omega
  | succ n ih =>
    rw [det_succ, det_succ, det_succ, ← xs_add]
    refine xs_congr fun k hk => ?_
    cases p with
    | zero =>
      rw [minor_setr0, minor_setr0, minor_setr0]
      show gm (if 0 = 0 then u k ^^^ v k else a 0 k) _ = gm (if 0 = 0 then u k else a 0 k) _ ^^^ gm (if 0 = 0 then v k else a 0 k) _
      rw [if_pos rfl, if_pos rfl, if_pos rfl, gm_xor_l]
    | succ p =>
      rw [minor_setr, minor_setr, minor_setr, ih p (by omega)]
      show gm (if 0 = p + 1 then _ else a 0 k) _ = gm (if 0 = p + 1 then _ else a 0 k) _ ^^^ gm (if 0 = p + 1 then _ else a 0 k) _
      rw [if_neg (by omega), if_neg (by omega), if_neg (by omega), gm_xor]
theorem det_mul (n p : Nat) (hp : p < n) (a : Mx) (c : BitVec 8) (u : Nat → BitVec 8) : det n (setr a p (fun k => gm c (u k))) = gm c (det n (setr a p u)) := by
  induction n generalizing p a u with
  | zero => omega
  | succ n ih =>
    rw [det_succ, det_succ, ← xs_mul]
    refine xs_congr fun k hk => ?_
    cases p with
    | zero =>
      rw [minor_setr0, minor_setr0]
      show gm (if 0 = 0 then gm c (u k) else a 0 k) _ = gm c (gm (if 0 = 0 then u k else a 0 k) _)
      rw [if_pos rfl, if_pos rfl, gm_assoc]
    | succ p =>
      rw [minor_setr, minor_setr, ih p (by omega)]
      show gm (if 0 = p + 1 then _ else a 0 k) _ = gm c (gm (if 0 = p + 1 then _ else a 0 k) _)
      rw [if_neg (by omega), if_neg (by omega), ← gm_assoc, gm_comm (a 0 k) c, gm_assoc]
theorem setr_same (a : Mx) (p : Nat) : setr a p (a p) = a := by
  funext i k; unfold setr; split
  · rename_i h; rw [h]
  · rfl
/-! Equal rows -/
theorem xs_skip (n k : Nat) (hk : k ≤ n) (F : Nat → BitVec 8) : xs n (fun l => F (skip k l)) = xs (n + 1) (fun m => if k = m then 0#8 else F m) := by
  induction n with
  | zero =>
    obtain rfl : k = 0 := by omega
    show 0#8 = 0#8 ^^^ (if 0 = 0 then 0#8 else F 0)
    rw [if_pos rfl]; rfl
  | succ n ih =>
    show _ = xs (n + 1) (fun m => if k = m then 0#8 else F m) ^^^ (if k = n + 1 then 0#8 else F (n + 1))
    by_cases h : k = n + 1
    · rw [if_pos h, BitVec.xor_zero]
      refine xs_congr fun l hl => ?_
      rw [if_neg (by omega), skip, if_pos (by omega)]
    · rw [if_neg h, ← ih (by omega)]
      show xs n (fun l => F (skip k l)) ^^^ F (skip k n) = _
      rw [show skip k n = n + 1 from if_neg (by omega)]
def avoid (k m j : Nat) : Nat := if j < min k m then j else if j + 1 < max k m then j + 1 else j + 2
theorem avoid_comm (k m j : Nat) : avoid k m j = avoid m k j := by unfold avoid; rw [Nat.min_comm, Nat.max_comm]
theorem skip_skip (k l j : Nat) : skip k (skip l j) = avoid k (skip k l) j := by
  unfold skip avoid
  by_cases h1 : l < k
  · rw [if_pos h1, Nat.min_eq_right (by omega), Nat.max_eq_left (by omega)]
    by_cases h2 : j < l
    · rw [if_pos h2, if_pos (by omega), if_pos h2]
    · rw [if_neg h2, if_neg h2]
  · rw [if_neg h1, Nat.min_eq_left (by omega), Nat.max_eq_right (by omega)]
    by_cases h2 : j < l
    · rw [if_pos h2]
      by_cases h3 : j < k
      · rw [if_pos h3, if_pos h3]
      · rw [if_neg h3, if_neg h3, if_pos (by omega)]
    · rw [if_neg h2, if_neg (by omega), if_neg (by omega), if_neg (by omega)]
theorem det_adj (n p : Nat) (hp : p + 1 < n) (a : Mx) (h : ∀ k, k < n → a p k = a (p + 1) k) : det n a = 0#8 := by
  induction n generalizing p a with
  | zero => omega
  | succ n ih =>
    cases p with
    | succ p =>
      rw [det_succ]
      refine xs_zero' fun k hk => ?_
      rw [ih p (by omega) (minor a k) (fun j hj => h (skip k j) (skip_lt hj)), gm_zr]
    | zero =>
      obtain ⟨n, rfl⟩ := Nat.exists_eq_succ_of_ne_zero (show n ≠ 0 by omega)
      have e : ∀ k, k < n + 2 → gm (a 0 k) (det (n + 1) (minor a k)) = xs (n + 2) (fun m => if k = m then 0#8 else gm (a 0 k) (gm (a 0 m) (det n fun i j => a (i + 2) (avoid k m j)))) := fun k hk => by
        rw [det_succ, ← xs_mul, ← xs_skip (n + 1) k (by omega) (fun m => gm (a 0 k) (gm (a 0 m) (det n fun i j => a (i + 2) (avoid k m j))))]
        refine xs_congr fun l hl => ?_
        have e1 : minor a k 0 l = a 0 (skip k l) := (h (skip k l) (skip_lt hl)).symm
        have e2 : minor (minor a k) l = fun i j => a (i + 2) (avoid k (skip k l) j) := by
          funext i j
          show a (i + 1 + 1) (skip k (skip l j)) = _
          rw [skip_skip]
        rw [e1, e2]
      rw [det_succ, xs_congr e]
      refine xs_sym (n + 2) _ (fun i j _ _ => ?_) (fun i _ => if_pos rfl)
      by_cases hij : i = j
      · subst hij; rfl
      · rw [if_neg hij, if_neg (Ne.symm hij), ← gm_assoc, ← gm_assoc, gm_comm (a 0 i)]
        congr 2
        funext r s
        rw [avoid_comm]
/-- Two rows by name. -/
theorem det_pair (n p q : Nat) (hp : p < n) (hq : q < n) (hpq : p ≠ q) (halt : ∀ b : Mx, (∀ k, k < n → b p k = b q k) → det n b = 0#8) (a : Mx) : det n (rswap p q a) = det n a := by
  have two : ∀ (u v : Nat → BitVec 8), det n (setr (setr a p u) q v) = det n (setr (setr a p v) q u) := fun u v => by
    have hz : ∀ w : Nat → BitVec 8, det n (setr (setr a p w) q w) = 0#8 := fun w => halt _ fun k _ => by
      unfold setr
      rw [if_neg hpq, if_pos rfl, if_pos rfl]
    have hc : ∀ w z : Nat → BitVec 8, setr (setr a p w) q z = setr (setr a q z) p w := fun w z => by
      funext i k
      unfold setr
      by_cases h1 : i = p
      · subst h1; rw [if_neg hpq, if_pos rfl]; simp
      · by_cases h2 : i = q
        · subst h2; simp [h1]
        · simp [h1, h2]
    have h0 := hz (fun k => u k ^^^ v k)
    rw [det_add n q hq, hc, det_add n p hp, ← hc, ← hc, hz u, BitVec.zero_xor] at h0
    rw [hc (fun k => u k ^^^ v k) v, det_add n p hp, ← hc, ← hc, hz v, BitVec.xor_zero] at h0
    exact (xor_eq_zero _ _ h0).symm
  have e1 : a = setr (setr a p (a p)) q (a q) := by rw [setr_same, setr_same]
  have e2 : rswap p q a = setr (setr a p (a q)) q (a p) := by
    funext i k
    unfold rswap setr swp
    by_cases h2 : i = q
    · subst h2
      rw [if_neg (Ne.symm hpq), if_pos rfl, if_pos rfl]
    · by_cases h1 : i = p
      · subst h1; rw [if_pos rfl, if_neg h2, if_pos rfl]
      · rw [if_neg h1, if_neg h2, if_neg h2, if_neg h1]
  rw [e2, two, ← e1]
theorem det_alt (n : Nat) (d : Nat) : ∀ (p : Nat) (a : Mx), p + 1 + d < n → (∀ k, k < n → a p k = a (p + 1 + d) k) → det n a = 0#8 := by
  induction d with
  | zero => exact fun p a hp h => det_adj n p hp a h
  | succ d ih =>
    intro p a hp h
    rw [← det_pair n (p + 1 + d) (p + 1 + (d + 1)) (by omega) hp (by omega) (fun b hb => det_adj n (p + 1 + d) hp b hb) a]
    refine ih p _ (by omega) fun k hk => ?_
    show a (swp _ _ p) k = a (swp _ _ (p + 1 + d)) k
    unfold swp
    rw [if_neg (by omega), if_neg (by omega), if_pos rfl]
    exact h k hk
theorem det_equal (n p q : Nat) (hp : p < n) (hq : q < n) (hpq : p ≠ q) (a : Mx) (h : ∀ k, k < n → a p k = a q k) : det n a = 0#8 := by
  rcases Nat.lt_or_gt_of_ne hpq with hl | hl
  · obtain ⟨d, rfl⟩ := Nat.exists_eq_add_of_le (show p + 1 ≤ q from hl)
    exact det_alt n d p a hq h
  · obtain ⟨d, rfl⟩ := Nat.exists_eq_add_of_le (show q + 1 ≤ p from hl)
    exact det_alt n d q a hp fun k hk => (h k hk).symm
theorem det_rswap (n p q : Nat) (hp : p < n) (hq : q < n) (a : Mx) : det n (rswap p q a) = det n a := by
  by_cases h : p = q
  · subst h
    refine det_congr fun i k _ _ => ?_
    show a (swp p p i) k = a i k
    unfold swp
    by_cases e : i = p
    · rw [if_pos e, e]
    · rw [if_neg e, if_neg e]
  · exact det_pair n p q hp hq h (fun b hb => det_equal n p q hp hq h b hb) a
theorem det_rscale (n p : Nat) (hp : p < n) (c : BitVec 8) (a : Mx) : det n (rscale p c a) = gm c (det n a) := by
  have e : rscale p c a = setr a p (fun k => gm c (a p k)) := by
    funext i k
    unfold rscale setr
    by_cases h : i = p
    · subst h; simp
    · simp [h]
  rw [e, det_mul n p hp, setr_same]
theorem det_radd (n p q : Nat) (hp : p < n) (hq : q < n) (hpq : p ≠ q) (c : BitVec 8) (a : Mx) : det n (radd p q c a) = det n a := by
  have e : radd p q c a = setr a q (fun k => a q k ^^^ gm c (a p k)) := by
    funext i k
    unfold radd setr
    by_cases h : i = q
    · subst h; simp
    · simp [h]
  rw [e, det_add n q hq, setr_same, det_mul n q hq, det_equal n p q hp hq hpq (setr a q (a p)) (fun k _ => by unfold setr; rw [if_neg hpq, if_pos rfl]), gm_zr, BitVec.xor_zero]
/-- Steps that multiply the determinant by a number that is not 0. -/
def Steps (n : Nat) (T U : Mx → Mx) : Prop := Rop n T U ∧ ∃ c, c ≠ 0#8 ∧ ∀ a, det n (T a) = gm c (det n a)
theorem Steps.refl (n : Nat) : Steps n (fun X => X) (fun X => X) := ⟨Rop.refl n, 1#8, by decide, fun a => (gm_one _).symm⟩
theorem Steps.trans {n : Nat} {T U T' U' : Mx → Mx} (h : Steps n T U) (g : Steps n T' U') : Steps n (fun X => T' (T X)) (fun X => U (U' X)) := by
  obtain ⟨h1, c, hc, h2⟩ := h
  obtain ⟨g1, d, hd, g2⟩ := g
  exact ⟨h1.trans g1, gm d c, gm_ne d c hd hc, fun a => by rw [g2, h2, gm_assoc]⟩
theorem steps_swap (n p q : Nat) (hp : p < n) (hq : q < n) : Steps n (rswap p q) (rswap p q) := ⟨rop_swap n p q hp hq, 1#8, by decide, fun a => by rw [det_rswap n p q hp hq, gm_one]⟩
theorem steps_scale (n p : Nat) (hp : p < n) (c : BitVec 8) (hc : c ≠ 0#8) : Steps n (rscale p c) (rscale p (gi c)) := ⟨rop_scale n p c hc, c, hc, det_rscale n p hp c⟩
theorem steps_add (n p q : Nat) (hp : p < n) (hq : q < n) (hpq : p ≠ q) (c : BitVec 8) : Steps n (radd p q c) (radd p q c) := ⟨rop_add n p q c hpq hp hq, 1#8, by decide, fun a => by rw [det_radd n p q hp hq hpq, gm_one]⟩
/-! Where the steps end -/
theorem det_id (n : Nat) (a : Mx) (h : ∀ i k, i < n → k < n → a i k = id1 i k) : det n a = 1#8 := by
  induction n generalizing a with
  | zero => rfl
  | succ n ih =>
    rw [det_succ, xs_one (n + 1) 0 (by omega)]
    · rw [h 0 0 (by omega) (by omega), ih (minor a 0)]
      · rfl
      · intro i k hi hk
        show a (i + 1) (skip 0 k) = id1 i k
        rw [show skip 0 k = k + 1 from if_neg (by omega), h _ _ (by omega) (by omega)]
        unfold id1
        by_cases e : i = k
        · rw [if_pos e, if_pos (by omega)]
        · rw [if_neg e, if_neg (by omega)]
    · intro i hi hne
      rw [h 0 i (by omega) hi, id1, if_neg (Ne.symm hne), gm_zl]
theorem det_zero_column (n : Nat) (hn : 0 < n) (a : Mx) (h : ∀ i, i < n → a i 0 = 0#8) : det n a = 0#8 := by
  induction n generalizing a with
  | zero => omega
  | succ n ih =>
    rw [det_succ]
    refine xs_zero' fun k hk => ?_
    by_cases h0 : k = 0
    · subst h0; rw [h 0 (by omega), gm_zl]
    · rw [ih (by omega) (minor a k) (fun i hi => by
        show a (i + 1) (skip k 0) = 0#8
        rw [show skip k 0 = 0 from if_pos (by omega)]
        exact h _ (by omega)), gm_zr]
/-- The first k columns are the unit's, and in the next one there is nothing from row k on. -/
def Stuck (n k : Nat) (a : Mx) : Prop := k < n ∧ (∀ i j, i < n → j < k → a i j = id1 i j) ∧ ∀ i, k ≤ i → i < n → a i k = 0#8
theorem det_stuck (n k : Nat) (a : Mx) (h : Stuck n k a) : det n a = 0#8 := by
  induction k generalizing n a with
  | zero => exact det_zero_column n h.1 a fun i hi => h.2.2 i (by omega) hi
  | succ k ih =>
    obtain ⟨hk, hu, hz⟩ := h
    obtain ⟨n, rfl⟩ := Nat.exists_eq_succ_of_ne_zero (show n ≠ 0 by omega)
    rw [det_succ]
    refine xs_zero' fun c hc => ?_
    by_cases h0 : c = 0
    · subst h0
      rw [ih n (minor a 0) ⟨by omega, fun i j hi hj => ?_, fun i hi hin => ?_⟩, gm_zr]
      · show a (i + 1) (skip 0 j) = id1 i j
        rw [show skip 0 j = j + 1 from if_neg (by omega), hu _ _ (by omega) (by omega)]
        unfold id1
        by_cases e : i = j
        · rw [if_pos e, if_pos (by omega)]
        · rw [if_neg e, if_neg (by omega)]
      · show a (i + 1) (skip 0 k) = 0#8
        rw [show skip 0 k = k + 1 from if_neg (by omega)]
        exact hz _ (by omega) (by omega)
    · rw [det_zero_column n (by omega) (minor a c) (fun i hi => by
        show a (i + 1) (skip c 0) = 0#8
        rw [show skip c 0 = 0 from if_pos (by omega), hu _ _ (by omega) (by omega), id1, if_neg (by omega)]), gm_zr]
/-- Steps that end in the unit: the determinant is not 0; steps that are stuck: it is 0, and some numbers, not all 0, are taken to nothing. -/
theorem Steps.unit {n : Nat} {T U : Mx → Mx} (h : Steps n T U) (a : Mx) (ha : ∀ i k, i < n → k < n → T a i k = id1 i k) : det n a ≠ 0#8 := by
  obtain ⟨_, c, _, h2⟩ := h
  intro e
  have := h2 a
  rw [det_id n _ ha, e, gm_zr] at this
  exact absurd this (by decide)
theorem Steps.stuck {n k : Nat} {T U : Mx → Mx} (h : Steps n T U) (a : Mx) (ha : Stuck n k (T a)) : det n a = 0#8 := by
  obtain ⟨_, c, hc, h2⟩ := h
  have := h2 a
  rw [det_stuck n k _ ha] at this
  exact gm_eq_zero c _ hc this.symm
theorem Steps.kernel {n k : Nat} {T U : Mx → Mx} (h : Steps n T U) (a : Mx) (ha : Stuck n k (T a)) :
    ∃ v : Nat → BitVec 8, v k = 1#8 ∧ ∀ i, i < n → xs n (fun j => gm (a i j) (v j)) = 0#8 := by
  obtain ⟨hr, _⟩ := h
  obtain ⟨hk, hu, hz⟩ := ha
  refine ⟨fun j => if j < k then T a j k else if j = k then 1#8 else 0#8, by simp, fun i hi => ?_⟩
  have key : ∀ i, i < n → mm n (T a) (fun j _ => if j < k then T a j k else if j = k then 1#8 else 0#8) i 0 = 0#8 := fun i hi => by
    have e : ∀ j, j < n → gm (T a i j) (if j < k then T a j k else if j = k then 1#8 else 0#8) = (if j = i then (if i < k then T a i k else 0#8) else 0#8) ^^^ (if j = k then T a i k else 0#8) := fun j hj => by
      by_cases h1 : j < k
      · rw [if_pos h1, hu i j hi h1, if_neg (show ¬ j = k by omega), BitVec.xor_zero, id1]
        by_cases h2 : j = i
        · subst h2; rw [if_pos rfl, if_pos rfl, if_pos h1, gm_one]
        · rw [if_neg (Ne.symm h2), if_neg h2, gm_zl]
      · rw [if_neg h1]
        have hz0 : (if j = i then (if i < k then T a i k else 0#8) else 0#8) = 0#8 := by
          by_cases h2 : j = i
          · rw [if_pos h2, if_neg (by omega)]
          · rw [if_neg h2]
        rw [hz0, BitVec.zero_xor]
        by_cases h3 : j = k
        · subst h3; rw [if_pos rfl, if_pos rfl, gm_one_r]
        · rw [if_neg h3, if_neg h3, gm_zr]
    unfold mm
    rw [xs_congr e, xs_add, xs_one n i hi _ (fun j _ hj => if_neg hj), xs_one n k hk _ (fun j _ hj => if_neg hj), if_pos rfl, if_pos rfl]
    by_cases h1 : i < k
    · rw [if_pos h1, xor_self']
    · rw [if_neg h1, BitVec.zero_xor]
      exact hz i (by omega) hi
  have h1 := hr.congr' (mm n (T a) (fun j _ => if j < k then T a j k else if j = k then 1#8 else 0#8)) (fun _ _ => 0#8) 0 key i hi
  have h2 : mm n (U (T a)) (fun j _ => if j < k then T a j k else if j = k then 1#8 else 0#8) i 0 = U (mm n (T a) (fun j _ => if j < k then T a j k else if j = k then 1#8 else 0#8)) i 0 := hr.left' n (T a) _ i 0
  rw [funext2 (hr.back a)] at h2
  have h3 : U (fun _ _ => 0#8) i 0 = 0#8 := by
    have := hr.left' 0 (fun _ _ => 0#8) (fun _ _ => 0#8) i 0
    exact this.symm
  show mm n a (fun j _ => if j < k then T a j k else if j = k then 1#8 else 0#8) i 0 = 0#8
  rw [h2, h1, h3]
/-! Cauchy -/
/-- Two fractions with numerator 1 added. -/
theorem gi_add (a b : BitVec 8) (ha : a ≠ 0#8) (hb : b ≠ 0#8) : gi a ^^^ gi b = gm (a ^^^ b) (gm (gi a) (gi b)) := by
  rw [gm_xor_l, ← gm_assoc a, gm_gi a ha, gm_one, gm_comm (gi a), ← gm_assoc b, gm_gi b hb, gm_one, BitVec.xor_comm]
theorem xor_ne (x y : BitVec 8) (h : x ≠ y) : x ^^^ y ≠ 0#8 := fun e => h (xor_eq_zero x y e)
/-- A Cauchy matrix of different numbers takes nothing but nothing to nothing. -/
theorem cauchy_kernel (n : Nat) (x y : Nat → BitVec 8) (hx : ∀ i j, i < n → j < n → i ≠ j → x i ≠ x j) (hy : ∀ i j, i < n → j < n → i ≠ j → y i ≠ y j) (hxy : ∀ i j, i < n → j < n → x i ≠ y j)
    (v : Nat → BitVec 8) (h : ∀ i, i < n → xs n (fun j => gm (gi (x i ^^^ y j)) (v j)) = 0#8) : ∀ j, j < n → v j = 0#8 := by
  induction n generalizing v with
  | zero => intro j hj; omega
  | succ n ih =>
    have hs : ∀ i, i < n + 1 → xs n (fun j => gm (gi (x i ^^^ y j)) (gm (y n ^^^ y j) (v j))) = xs (n + 1) v := fun i hi => by
      have h0 := h i hi
      have h1 : gm (x i ^^^ y n) (xs (n + 1) (fun j => gm (gi (x i ^^^ y j)) (v j))) = 0#8 := by rw [h0, gm_zr]
      rw [← xs_mul] at h1
      have hn := xor_ne _ _ (hxy i n hi (by omega))
      have e : ∀ j, j < n → gm (x i ^^^ y n) (gm (gi (x i ^^^ y j)) (v j)) = v j ^^^ gm (gi (x i ^^^ y j)) (gm (y n ^^^ y j) (v j)) := fun j hj => by
        have hj0 := xor_ne _ _ (hxy i j hi (by omega))
        have e1 : x i ^^^ y n = (x i ^^^ y j) ^^^ (y n ^^^ y j) := by
          rw [show (x i ^^^ y j) ^^^ (y n ^^^ y j) = (x i ^^^ y n) ^^^ (y j ^^^ y j) by ac_rfl, xor_self', BitVec.xor_zero]
        rw [e1, gm_xor_l, ← gm_assoc, gm_gi _ hj0, gm_one, ← gm_assoc, gm_comm (y n ^^^ y j), gm_assoc]
      have h2 : xs (n + 1) (fun j => gm (x i ^^^ y n) (gm (gi (x i ^^^ y j)) (v j))) = xs n (fun j => gm (x i ^^^ y n) (gm (gi (x i ^^^ y j)) (v j))) ^^^ gm (x i ^^^ y n) (gm (gi (x i ^^^ y n)) (v n)) := rfl
      rw [h2, xs_congr e, xs_add, ← gm_assoc, gm_gi _ hn, gm_one] at h1
      refine (xor_eq_zero _ _ ?_).symm
      rw [← h1]
      show (xs n v ^^^ v n) ^^^ _ = _
      ac_rfl
    have hv : ∀ j, j < n → v j = 0#8 := fun j hj => by
      have hw := ih (fun i j hi hj => hx i j (by omega) (by omega)) (fun i j hi hj => hy i j (by omega) (by omega)) (fun i j hi hj => hxy i j (by omega) (by omega))
        (fun j => gm (gi (x n ^^^ y j)) (gm (y n ^^^ y j) (v j))) (fun i hi => by
          have hxn := xor_ne _ _ (hx i n (by omega) (by omega) (by omega))
          refine gm_eq_zero _ _ hxn ?_
          rw [← xs_mul]
          have e : ∀ j, j < n → gm (x i ^^^ x n) (gm (gi (x i ^^^ y j)) (gm (gi (x n ^^^ y j)) (gm (y n ^^^ y j) (v j)))) = gm (gi (x i ^^^ y j)) (gm (y n ^^^ y j) (v j)) ^^^ gm (gi (x n ^^^ y j)) (gm (y n ^^^ y j) (v j)) := fun j hj => by
            have a1 := xor_ne _ _ (hxy i j (by omega) (by omega))
            have a2 := xor_ne _ _ (hxy n j (by omega) (by omega))
            have e1 : x i ^^^ x n = (x i ^^^ y j) ^^^ (x n ^^^ y j) := by
              rw [show (x i ^^^ y j) ^^^ (x n ^^^ y j) = (x i ^^^ x n) ^^^ (y j ^^^ y j) by ac_rfl, xor_self', BitVec.xor_zero]
            rw [← gm_assoc (gi (x i ^^^ y j)), ← gm_assoc, e1, ← gi_add _ _ a1 a2, gm_xor_l]
          rw [xs_congr e, xs_add, hs i (by omega), hs n (by omega), xor_self'])
        j hj
      have a2 := xor_ne _ _ (hxy n j (by omega) (by omega))
      have a3 := xor_ne _ _ (hy n j (by omega) (by omega) (by omega))
      exact gm_eq_zero _ _ a3 (gm_eq_zero _ _ (gi_ne _) hw)
    intro j hj
    rcases Nat.lt_or_ge j n with hl | hl
    · exact hv j hl
    · obtain rfl : j = n := by omega
      have h0 := h 0 (by omega)
      have h1 : xs (j + 1) (fun l => gm (gi (x 0 ^^^ y l)) (v l)) = gm (gi (x 0 ^^^ y j)) (v j) := by
        show xs j _ ^^^ _ = _
        rw [xs_zero' fun l hl => by rw [hv l hl, gm_zr], BitVec.zero_xor]
      rw [h1] at h0
      exact gm_eq_zero _ _ (gi_ne _) h0
end Go.Proofs.YtnmopjefjpifoaaGreatDoor
/- A matrix that the call makes: a block of headers, a block for each row. -/
set_option maxRecDepth 100000
namespace Go.Proofs.YtnmopjefjpifoaaGreatDoor
open Go Go.RowKit

/-- Headers: the first k rows are made, the others nil. -/
def hdr (k m : Nat) (D : Nat → Nat) (i : Nat) : Value := if i < k then .slice (some ⟨D i, 0, none⟩) m m else .slice none 0 0
/-- Block G holds the headers of n rows, of which k are made: row i lies in block D i and holds m numbers of a. -/
structure Mp (w : World) (N G n k m : Nat) (D : Nat → Nat) (a : Mx) : Prop where
  hds : Row w G 53 n (hdr k m D)
  row : ∀ i, i < k → Row w (D i) 5 m (fun j => B (a i j))
  inj : ∀ i j, i < k → j < k → i ≠ j → D i ≠ D j
  ne : ∀ i, i < k → D i ≠ G
  lo : ∀ i, i < k → N ≤ D i
  loG : N ≤ G
/-- A matrix as rows. -/
def rowL (m : Nat) (a : Mx) (i : Nat) : List (BitVec 8) := (List.range m).map (a i)
def rowsL (n m : Nat) (a : Mx) : List (List (BitVec 8)) := (List.range n).map (rowL m a)
theorem rowL_length (m : Nat) (a : Mx) (i : Nat) : (rowL m a i).length = m := by simp [rowL]
theorem rowL_get (m : Nat) (a : Mx) (i j : Nat) (h : j < m) : (rowL m a i).getD j 0#8 = a i j := by simp [rowL, List.getD_eq_getElem?_getD, h]
theorem rowsL_length (n m : Nat) (a : Mx) : (rowsL n m a).length = n := by simp [rowsL]
theorem rowsL_get (n m : Nat) (a : Mx) (i : Nat) (h : i < n) : (rowsL n m a).getD i [] = rowL m a i := by simp [rowsL, List.getD_eq_getElem?_getD, h]
theorem rowsL_mx (n m : Nat) (a : Mx) (i j : Nat) (h : i < n) (k : j < m) : mx (rowsL n m a) i j = a i j := by unfold mx; rw [rowsL_get _ _ _ _ h, rowL_get _ _ _ _ k]
theorem rowsL_len (n m : Nat) (a : Mx) (i : Nat) (h : i < n) : ((rowsL n m a).getD i []).length = m := by rw [rowsL_get _ _ _ _ h, rowL_length]
def setD (D : Nat → Nat) (i E : Nat) : Nat → Nat := fun j => if j = i then E else D j
section
variable {w w' : World} {N G n k m : Nat} {D : Nat → Nat} {a b : Mx}
theorem Mp.ltG (h : Mp w N G n k m D a) : G < w.heap.size := h.hds.lt
theorem Mp.lt (h : Mp w N G n k m D a) (i : Nat) (hi : i < k) : D i < w.heap.size := (h.row i hi).lt
theorem Mp.of_below (h : Mp w N G n k m D a) (g : Below w.heap.size w w') : Mp w' N G n k m D a :=
  ⟨h.hds.of_below g, fun i hi => (h.row i hi).of_below g, h.inj, h.ne, h.lo, h.loG⟩
theorem Mp.dr (h : Mp w N G n k m D a) (g : Dr w w') : Mp w' N G n k m D a := by
  obtain ⟨M, rfl⟩ := g
  exact ⟨h.hds, h.row, h.inj, h.ne, h.lo, h.loG⟩
theorem Mp.drewN (h : Mp w N G n k m D a) (q : Nat) : Mp (w.drewN q) N G n k m D a := h.dr ((Dr.refl _).drewN q)
theorem Mp.congr (h : Mp w N G n k m D a) (e : ∀ i j, i < k → j < m → a i j = b i j) : Mp w N G n k m D b :=
  ⟨h.hds, fun i hi => (h.row i hi).congr fun j hj => by rw [e i j hi hj], h.inj, h.ne, h.lo, h.loG⟩
theorem Mp.cellH (h : Mp w N G n k m D a) (i : Nat) (hi : i < k) (hn : i < n) : w.cell? ⟨G, i, none⟩ = some (.slice (some ⟨D i, 0, none⟩) m m) := by
  rw [h.hds.cell i hn, hdr, if_pos hi]
theorem Mp.free (h : Mp w N G n k m D a) (i : Nat) : w.frozen? ⟨G, i, none⟩ = false := h.hds.free i
theorem Mp.cell (h : Mp w N G n k m D a) (i j : Nat) (hi : i < k) (hj : j < m) : w.cell? ⟨D i, j, none⟩ = some (B (a i j)) := (h.row i hi).cell j hj
theorem Mp.sl (h : Mp w N G n k m D a) (i : Nat) (hi : i < k) : Sl w (some ⟨D i, 0, none⟩) (rowL m a i) :=
  Sl.row (h.row i hi) (by rw [rowL_length]; exact Nat.le_refl _) fun j hj => by rw [rowL_length] at hj; rw [rowL_get _ _ _ _ hj]
theorem Mp.prt (h : Mp w N G n n m D a) : Prt w (some ⟨G, 0, none⟩) (rowsL n m a) := fun i hi => by
  rw [rowsL_length] at hi
  rw [rowsL_get _ _ _ _ hi]
  refine ⟨G, 0, some ⟨D i, 0, none⟩, m, rfl, ?_, h.sl i hi, (fun e => by cases e), by rw [rowL_length]; exact Nat.le_refl _⟩
  rw [Nat.zero_add, h.cellH i hi hi, rowL_length]
/-- No row is made. -/
theorem Mp.zero (h : Row w G 53 n (fun _ => .slice none 0 0)) (hN : N ≤ G) : Mp w N G n 0 m D a :=
  ⟨h.congr fun i _ => by rw [hdr, if_neg (by omega)], fun i hi => by omega, fun i j hi => by omega, fun i hi => by omega, fun i hi => by omega, hN⟩
/-- Another header at i, of a row that lies in block E. -/
theorem Mp.put (h : Mp w N G n k m D a) (i E : Nat) (r : Nat → BitVec 8) (hr : Row w E 5 m (fun j => B (r j))) (k' : Nat) (hk' : k' = k ∧ i < k ∨ k' = k + 1 ∧ i = k) (hE : ∀ j, j < k → j ≠ i → D j ≠ E) (hG : E ≠ G) (hN : N ≤ E) :
    Mp (w.setCell ⟨G, i, none⟩ (.slice (some ⟨E, 0, none⟩) m m)) N G n k' m (setD D i E) (setr a i r) := by
  have keep : ∀ b, b ≠ G → (w.setCell ⟨G, i, none⟩ (.slice (some ⟨E, 0, none⟩) m m)).heap[b]? = w.heap[b]? := fun b hb => Below.heap_setCell _ _ _ _ hb
  refine ⟨(h.hds.set i _).congr fun j hj => ?_, fun j hj => ?_, fun p q hp hq hpq => ?_, fun j hj => ?_, fun j hj => ?_, h.loG⟩
  · unfold hdr setD
    by_cases e : j = i
    · subst e; rw [if_pos rfl, if_pos (by omega), if_pos rfl]
    · rw [if_neg e]
      by_cases e2 : j < k
      · rw [if_pos e2, if_pos (by omega), if_neg e]
      · rw [if_neg e2, if_neg (by omega)]
  · by_cases e : j = i
    · subst e
      have e1 : setD D j E j = E := if_pos rfl
      rw [e1]
      exact (hr.of_block (keep E hG)).congr fun x _ => by rw [setr, if_pos rfl]
    · have e1 : setD D i E j = D j := if_neg e
      rw [e1]
      exact ((h.row j (by omega)).of_block (keep _ (h.ne j (by omega)))).congr fun x _ => by rw [setr, if_neg e]
  · unfold setD
    by_cases e1 : p = i
    · rw [if_pos e1, if_neg (by omega)]; exact (hE q (by omega) (by omega)).symm
    · rw [if_neg e1]
      by_cases e2 : q = i
      · rw [if_pos e2]; exact hE p (by omega) e1
      · rw [if_neg e2]; exact h.inj p q (by omega) (by omega) hpq
  · unfold setD
    by_cases e : j = i
    · rw [if_pos e]; exact hG
    · rw [if_neg e]; exact h.ne j (by omega)
  · unfold setD
    by_cases e : j = i
    · rw [if_pos e]; exact hN
    · rw [if_neg e]; exact h.lo j (by omega)
/-- One row has other numbers. -/
theorem Mp.alter (h : Mp w N G n k m D a) (i : Nat) (hi : i < k) (r : Nat → BitVec 8) (hk : Kp (D i) w w') (hr : Row w' (D i) 5 m (fun j => B (r j))) : Mp w' N G n k m D (setr a i r) := by
  refine ⟨h.hds.of_kp hk (Ne.symm (h.ne i hi)), fun j hj => ?_, h.inj, h.ne, h.lo, h.loG⟩
  by_cases e : j = i
  · subst e
    exact hr.congr fun x _ => by rw [setr, if_pos rfl]
  · exact ((h.row j hj).of_kp hk (h.inj j i hj hi e)).congr fun x _ => by rw [setr, if_neg e]
/-- Two headers exchanged. -/
theorem Mp.swap (h : Mp w N G n k m D a) (p q : Nat) (hp : p < k) (hq : q < k) :
    Mp ((w.setCell ⟨G, p, none⟩ (.slice (some ⟨D q, 0, none⟩) m m)).setCell ⟨G, q, none⟩ (.slice (some ⟨D p, 0, none⟩) m m)) N G n k m (fun i => D (swp p q i)) (rswap p q a) := by
  have keep : ∀ b, b ≠ G → ((w.setCell ⟨G, p, none⟩ (.slice (some ⟨D q, 0, none⟩) m m)).setCell ⟨G, q, none⟩ (.slice (some ⟨D p, 0, none⟩) m m)).heap[b]? = w.heap[b]? := fun b hb => by
    rw [Below.heap_setCell _ _ _ _ hb, Below.heap_setCell _ _ _ _ hb]
  have hs : ∀ i, i < k → swp p q i < k := fun i hi => by unfold swp; split; exact hq; split; exact hp; exact hi
  refine ⟨((h.hds.set p _).set q _).congr fun j hj => ?_, fun j hj => ?_, fun x y hx hy hxy => ?_, fun j hj => h.ne _ (hs j hj), fun j hj => h.lo _ (hs j hj), h.loG⟩
  · unfold hdr swp
    by_cases e1 : j = p
    · subst e1
      by_cases e2 : j = q
      · subst e2; simp [hp]
      · simp [e2, hp]
    · by_cases e2 : j = q
      · subst e2; simp [e1, hq]
      · simp [e1, e2]
  · exact (h.row _ (hs j hj)).of_block (keep _ (h.ne _ (hs j hj)))
  · refine h.inj _ _ (hs x hx) (hs y hy) fun e => hxy ?_
    have := congrArg (swp p q) e
    rwa [swp_swp, swp_swp] at this
end
theorem run_make_rows (t : TypeId) (h : Tryz.prog.underlying t = some (.slice 53)) (n : Nat) (w : World) (hn : n < 100000000) : (mkT t (.int .i64 (n : Int)) (.int .i64 (n : Int))).run Tryz.prog w = .ok (.value (.slice (some ⟨w.heap.size, 0, none⟩) n n)) (w.alloc (.cells (tab n (fun _ => .slice none 0 0)) 53)) := by
  have hi := infoB
  cases hq : Tryz.prog.info? 53 with
  | none => simp [hq] at hi
  | some i =>
    rw [hq] at hi
    simp only [Option.map_some, Option.some.injEq, Prod.mk.injEq] at hi
    obtain ⟨h1, h2, h3⟩ := hi
    have := run_make (P := Tryz.prog) w t 53 i (.slice none 0 0) h hq h1 .i64 .i64 n n (by omega) (Int.le_refl _) (by rw [h3]; omega) (by omega)
    rw [h2] at this
    simp only [Int.toNat_natCast, Nat.mul_one] at this
    simp only [mkT, Sem.run_bind, this, Result.andThen_ok, Sem.run_pure]
    congr 2
    rw [tab_const]
    congr 1
    apply Array.ext_getElem?
    intro j
    by_cases hj : j < n <;> simp [madeCells, Value.cells, hj, Nat.mod_one]
theorem mkR (n : Nat) (w : World) (hn : n < 100000000) : (mkT 73 (.int .i64 (n : Int)) (.int .i64 (n : Int))).run Tryz.prog w = .ok (.value (.slice (some ⟨w.heap.size, 0, none⟩) n n)) (w.alloc (.cells (tab n (fun _ => .slice none 0 0)) 53)) :=
  run_make_rows _ undRows n w hn
theorem mkM (n : Nat) (w : World) (hn : n < 100000000) : (mkT 305 (.int .i64 (n : Int)) (.int .i64 (n : Int))).run Tryz.prog w = .ok (.value (.slice (some ⟨w.heap.size, 0, none⟩) n n)) (w.alloc (.cells (tab n (fun _ => .slice none 0 0)) 53)) :=
  run_make_rows _ (by kernel_rfl) n w hn
theorem st_H (a : Addr) (q : Option Addr) (n c : Nat) (w : World) (hcell : (w.cell? a).isSome = true) (hf : w.frozen? a = false) : (stT 53 (.pointer (some a)) (.slice q n c)).run Tryz.prog w = .ok .skip (w.setCell a (.slice q n c)) :=
  stT_one 53 a _ w rfl rfl (by kernel_rfl) hcell hf
end Go.Proofs.YtnmopjefjpifoaaGreatDoor
/- What a matrix is; matrices that are returned. -/
set_option maxRecDepth 100000
namespace Go.Proofs.YtnmopjefjpifoaaGreatDoor
open Go Go.RowKit

/-- A matrix: 1 to 64 rows, all of one length from 1 to 64. -/
def goodB (ls : List (List (BitVec 8))) : Bool := decide (1 ≤ ls.length ∧ ls.length ≤ 64 ∧ 1 ≤ (ls.getD 0 []).length ∧ (ls.getD 0 []).length ≤ 64 ∧ ∀ i, i < ls.length → (ls.getD i []).length = (ls.getD 0 []).length)
/-- A matrix of the call's own and OK are returned; nothing that was there has changed. -/
def RetOk (N : Nat) (w : World) (n m : Nat) (a : Mx) (e : Ending) (w' : World) : Prop :=
  ∃ G D, e = .returned (.tuple #[.slice (some ⟨G, 0, none⟩) n n, .int .i64 0]) ∧ Mp w' N G n n m D a ∧ Below N w w'
/-- Nothing and an error are returned. -/
def RetNo (N : Nat) (w : World) (t : Int) (e : Ending) (w' : World) : Prop := e = .returned (.tuple #[.slice none 0 0, .int .i64 t]) ∧ Below N w w'
theorem Prt.head {w : World} {p : Option Addr} {ls : List (List (BitVec 8))} (h : Prt w p ls) (h0 : 0 < ls.length) : ∃ c o q cap, p = some ⟨c, o, none⟩ ∧ c < w.heap.size ∧ w.cell? ⟨c, o, none⟩ = some (.slice q (ls.getD 0 []).length cap) := by
  obtain ⟨c, o, q, cap, h1, h2, h3, -, -⟩ := h.at_ 0 h0
  exact ⟨c, o, q, cap, h1, h2, by rwa [Nat.add_zero] at h3⟩
structure Good (ls : List (List (BitVec 8))) (n m : Nat) : Prop where
  len : ls.length = n
  lo : 1 ≤ n
  hi : n ≤ 64
  mlo : 1 ≤ m
  mhi : m ≤ 64
  rows : ∀ i, i < n → (ls.getD i []).length = m
theorem Good.of {ls : List (List (BitVec 8))} (h : goodB ls = true) : Good ls ls.length (ls.getD 0 []).length := by
  obtain ⟨h1, h2, h3, h4, h5⟩ := of_decide_eq_true h
  exact ⟨rfl, h1, h2, h3, h4, h5⟩
theorem Good.true_ {ls : List (List (BitVec 8))} {n m : Nat} (h : Good ls n m) : goodB ls = true := by
  obtain ⟨rfl, h1, h2, h3, h4, h5⟩ := h
  have h0 := h5 0 (by omega)
  exact decide_eq_true ⟨h1, h2, by omega, by omega, fun i hi => by rw [h5 i hi, h0]⟩
theorem Good.head {ls : List (List (BitVec 8))} {n m : Nat} (h : Good ls n m) : (ls.getD 0 []).length = m := h.rows 0 (by have := h.lo; omega)
theorem Good.mats {n m : Nat} (a : Mx) (h1 : 1 ≤ n) (h2 : n ≤ 64) (h3 : 1 ≤ m) (h4 : m ≤ 64) : Good (rowsL n m a) n m := ⟨rowsL_length _ _ _, h1, h2, h3, h4, fun i hi => rowsL_len _ _ _ _ hi⟩
end Go.Proofs.YtnmopjefjpifoaaGreatDoor
/- How many rows may there be. -/
set_option maxRecDepth 100000
namespace Go.Proofs.YtnmopjefjpifoaaGreatDoor
open Go Go.RowKit

def permB (x : Int) : Bool := decide (1 ≤ x ∧ x ≤ 64)
set_option maxHeartbeats 1000000 in
theorem permitted_any (x : Int) (w : World) : Calls Tryz.prog 270 #[.int .i64 x] w fun e w' => e = .returned (.bool (permB x)) ∧ w = w' := by
  by_cases h1 : 1 ≤ x
  · have hd1 : decide ((1 : Int) ≤ x) = true := decide_eq_true h1
    have hf : Hid (permB x = decide (x ≤ 64)) := by
      show permB x = _
      unfold permB
      rw [decide_eq_decide]; exact ⟨fun h => h.2, fun h => ⟨h1, h⟩⟩
    clear h1
    go_enter Tryz.func270, Tryz.ntmps270
    go_wp2
    go_ret
    exact ⟨by rw [hf.out]; rfl, rfl⟩
  · have hd1 : decide ((1 : Int) ≤ x) = false := decide_eq_false h1
    have hf : Hid (permB x = false) := decide_eq_false fun h => h1 h.1
    clear h1
    go_enter Tryz.func270, Tryz.ntmps270
    go_wp2
    go_ret
    exact ⟨by rw [hf.out]; rfl, rfl⟩
end Go.Proofs.YtnmopjefjpifoaaGreatDoor
/- What the program asks of rows: permitted, equally long, a matrix, the same. -/
set_option maxRecDepth 100000
namespace Go.Proofs.YtnmopjefjpifoaaGreatDoor
open Go Go.RowKit

/-- The first of n places at which a predicate holds. -/
def Hit (f : Nat → Bool) (n k : Nat) : Prop := k < n ∧ f k = true ∧ ∀ j, j < k → f j = false
def Miss (f : Nat → Bool) (n : Nat) : Prop := ∀ j, j < n → f j = false
theorem hit_or (f : Nat → Bool) (n : Nat) : (∃ k, Hit f n k) ∨ Miss f n := by
  induction n with
  | zero => exact .inr fun j hj => by omega
  | succ n ih =>
    rcases ih with ⟨k, h1, h2⟩ | h
    · exact .inl ⟨k, by omega, h2⟩
    · cases e : f n with
      | true => exact .inl ⟨n, by omega, e, h⟩
      | false =>
        refine .inr fun j hj => ?_
        rcases Nat.lt_or_ge j n with h1 | h1
        · exact h j h1
        · obtain rfl : j = n := by omega
          exact e
/-- The world is that at the start but for draws: here it is that very world. -/
def Asks (g : Nat) (lb : Array Value) (ls : List (List (BitVec 8))) (f : Nat → Bool) (w : World) : Prop :=
  ∀ k, k < ls.length → ∀ q cap, Sl w q (ls.getD k []) → Calls Tryz.prog g (#[.slice q (ls.getD k []).length cap] ++ lb) w fun e w' => e = .returned (.bool (f k)) ∧ w = w'
set_option maxHeartbeats 2000000 in
theorem index_hit (g : Nat) (lb : Array Value) (eg : ∀ args w, (callFunc g args).run Tryz.prog w = .ok (.enter g args) w) (ls : List (List (BitVec 8))) (f : Nat → Bool) (p : Option Addr) (n cap t : Nat) (w : World) (hp : Asks g lb ls f w) (hs : Prt w p ls) (hl : ls.length = n) (hn : n < 4294967296)
    (ht : Hit f n t) : Calls Tryz.prog 304 #[.slice p n cap, .func (.func g) #[] lb] w fun e w' => e = .returned (.int .i64 (t : Int)) ∧ w = w' := by
  have HP := Lib.hid hp
  have HS := Lib.hid hs
  have HL := Lib.hid hl
  have HT := Lib.hid ht
  clear hp hs hl ht
  go_enter Tryz.func304, Tryz.ntmps304
  go_wp2
  go_loop [5, 8] (fun _ i => ∃ k : Nat, k ≤ t ∧ i = .int .i64 k) (fun _ i => n - (intOf i).toNat)
  case atStart => exact ⟨0, Nat.zero_le _, rfl⟩
  case round =>
    obtain ⟨k, hk, rfl⟩ := hrel
    have htn := HT.out.1
    have hlt : k < n := by omega
    have hltz : (k : Int) < (n : Int) := by omega
    have hd0 : decide ((k : Int) < (n : Int)) = true := decide_eq_true hltz
    obtain ⟨c, o, q, cap', rfl, -, hc, hsl, -⟩ := HS.out.at_ k (by rw [HL.out]; exact hlt)
    have hcall := HP.out k (by rw [HL.out]; exact hlt) q cap' hsl
    clear hsl
    generalize (ls.getD k []).length = m at *
    by_cases he : k = t
    · rw [show f k = true by rw [he]; exact HT.out.2.1] at hcall
      have HE := Lib.hid he
      clear he
      have HC := Lib.hid hcall
      clear hcall
      go_wp2_with fail
      refine HC.out.mono ?_
      rintro e w' ⟨rfl, rfl⟩
      go_wp2
      go_ret
      exact ⟨by rw [← HE.out]; rfl, rfl⟩
    · rw [show f k = false from HT.out.2.2 k (by omega)] at hcall
      have HC := Lib.hid hcall
      clear hcall
      go_wp2_with fail
      refine HC.out.mono ?_
      rintro e w' ⟨rfl, rfl⟩
      go_wp2
      go_round
      case rel => exact ⟨k + 1, by omega, by go_num⟩
      case measure => simp [intOf]; omega
set_option maxHeartbeats 2000000 in
theorem index_miss (g : Nat) (lb : Array Value) (eg : ∀ args w, (callFunc g args).run Tryz.prog w = .ok (.enter g args) w) (ls : List (List (BitVec 8))) (f : Nat → Bool) (p : Option Addr) (n cap : Nat) (w : World) (hp : Asks g lb ls f w) (hs : Prt w p ls) (hl : ls.length = n) (hn : n < 9223372036854775808)
    (ht : Miss f n) : Calls Tryz.prog 304 #[.slice p n cap, .func (.func g) #[] lb] w fun e w' => e = .returned (.int .i64 (-1)) ∧ w = w' := by
  have HP := Lib.hid hp
  have HS := Lib.hid hs
  have HL := Lib.hid hl
  have HT := Lib.hid ht
  clear hp hs hl ht
  go_enter Tryz.func304, Tryz.ntmps304
  go_wp2
  go_loop [5, 8] (fun _ i => ∃ k : Nat, k ≤ n ∧ i = .int .i64 k) (fun _ i => n - (intOf i).toNat)
  case atStart => exact ⟨0, Nat.zero_le _, rfl⟩
  case round =>
    obtain ⟨k, hk, rfl⟩ := hrel
    by_cases hlt : k < n
    · have hltz : (k : Int) < (n : Int) := by omega
      have hd0 : decide ((k : Int) < (n : Int)) = true := decide_eq_true hltz
      obtain ⟨c, o, q, cap', rfl, -, hc, hsl, -⟩ := HS.out.at_ k (by rw [HL.out]; exact hlt)
      have hcall := HP.out k (by rw [HL.out]; exact hlt) q cap' hsl
      clear hsl
      generalize (ls.getD k []).length = m at *
      rw [show f k = false from HT.out k hlt] at hcall
      have HC := Lib.hid hcall
      clear hcall
      go_wp2_with fail
      refine HC.out.mono ?_
      rintro e w' ⟨rfl, rfl⟩
      go_wp2
      go_round
      case rel => exact ⟨k + 1, by omega, by go_num⟩
      case measure => simp [intOf]; omega
    · have hd0 : decide ((k : Int) < (n : Int)) = false := decide_eq_false (by omega)
      go_wp2
      go_ret
      exact ⟨rfl, rfl⟩
end Go.Proofs.YtnmopjefjpifoaaGreatDoor
/- The program's Good and Same. -/
set_option maxRecDepth 100000
namespace Go.Proofs.YtnmopjefjpifoaaGreatDoor
open Go Go.RowKit

section
variable (g : Nat) (lb : Array Value) (eg : ∀ args w, (callFunc g args).run Tryz.prog w = .ok (.enter g args) w) (ls : List (List (BitVec 8))) (f : Nat → Bool) (p : Option Addr) (n cap : Nat) (w : World) (hp : Asks g lb ls f w) (hs : Prt w p ls) (hl : ls.length = n) (hn : n < 4294967296)
include eg hp hs hl hn
theorem contains_hit (t : Nat) (ht : Hit f n t) : Calls Tryz.prog 300 #[.slice p n cap, .func (.func g) #[] lb] w fun e w' => e = .returned (.bool true) ∧ w = w' := by
  have HC := Lib.hid (index_hit g lb eg ls f p n cap t w hp hs hl hn ht)
  clear hp hs hl ht
  go_enter Tryz.func300, Tryz.ntmps300
  go_wp2_with fail
  refine HC.out.mono ?_
  rintro e w' ⟨rfl, rfl⟩
  have hd : decide ((0 : Int) ≤ (t : Int)) = true := decide_eq_true (by omega)
  go_wp2
  go_ret
  exact ⟨rfl, rfl⟩
theorem contains_miss (ht : Miss f n) : Calls Tryz.prog 300 #[.slice p n cap, .func (.func g) #[] lb] w fun e w' => e = .returned (.bool false) ∧ w = w' := by
  have HC := Lib.hid (index_miss g lb eg ls f p n cap w hp hs hl (by omega) ht)
  clear hp hs hl ht
  go_enter Tryz.func300, Tryz.ntmps300
  go_wp2_with fail
  refine HC.out.mono ?_
  rintro e w' ⟨rfl, rfl⟩
  go_wp2
  go_ret
  exact ⟨rfl, rfl⟩
end
theorem enters_eq : ∀ args w, (callFunc 301 args).run Tryz.prog w = .ok (.enter 301 args) w := enters_of Tryz.func301 (by kernel_rfl) rfl
theorem long_any (b c o n m m0 cap cap0 cap1 : Nat) (q q0 : Option Addr) (w : World) (h1 : w.cell? ⟨b, 0, none⟩ = some (.slice (some ⟨c, o, none⟩) n cap)) (h2 : w.cell? ⟨c, o, none⟩ = some (.slice q0 m0 cap0)) (hn : 0 < n) :
    Calls Tryz.prog 301 #[.slice q m cap1, .pointer (some ⟨b, 0, none⟩)] w fun e w' => e = .returned (.bool (decide (m ≠ m0))) ∧ w = w' := by
  have hn0 : (0 : Int) < (n : Int) := by omega
  by_cases h : m = m0
  · have hb : ((m : Int) != (m0 : Int)) = false := by simp; omega
    have hf : Hid (decide (m ≠ m0) = false) := decide_eq_false fun e => e h
    clear h
    go_enter Tryz.func301, Tryz.ntmps301
    go_wp2
    go_ret
    exact ⟨by rw [hf.out]; rfl, rfl⟩
  · have hb : ((m : Int) != (m0 : Int)) = true := by simp; omega
    have hb2 : ((m : Int) == (m0 : Int)) = false := by simp; omega
    have hb3 : decide (m = m0) = false := decide_eq_false h
    have hf : Hid (decide (m ≠ m0) = true) := decide_eq_true h
    clear h
    go_enter Tryz.func301, Tryz.ntmps301
    go_wp2
    go_ret
    exact ⟨by rw [hf.out]; rfl, rfl⟩
/-- All rows are as long as the first. -/
def eqB (ls : List (List (BitVec 8))) : Bool := decide (∀ i, i < ls.length → (ls.getD i []).length = (ls.getD 0 []).length)
def oddB (ls : List (List (BitVec 8))) (k : Nat) : Bool := decide ((ls.getD k []).length ≠ (ls.getD 0 []).length)
theorem eq_long_any (ls : List (List (BitVec 8))) (p : Option Addr) (n cap : Nat) (w : World) (hs : Prt w p ls) (hl : ls.length = n) (hn : n < 4294967296) :
    Calls Tryz.prog 274 #[.slice p n cap] w fun e w' => e = .returned (.bool (eqB ls)) ∧ Below w.heap.size w w' := by
  have hB : Below w.heap.size w (w.alloc (.cells #[.slice p n cap] 73)) := (Below.refl _ _).alloc (Nat.le_refl _) _
  have hask : Asks 301 #[.pointer (some ⟨w.heap.size, 0, none⟩)] ls (oddB ls) (w.alloc (.cells #[.slice p n cap] 73)) := by
    intro k hk q cap' hsl
    obtain ⟨c, o, q0, cap0, rfl, hc0, hc, -, -⟩ := hs.at_ 0 (by omega)
    rw [Nat.add_zero] at hc
    exact long_any w.heap.size c o n _ _ cap cap0 cap' q q0 _ (by rw [World.cell?_alloc_new]; rfl) (by rw [hB.cell (by exact hc0)]; exact hc) (by omega)
  have hs' := hs.of_below hB
  have HB := Lib.hid hB
  have HA := Lib.hid hask
  have HS := Lib.hid hs'
  have HL := Lib.hid hl
  rcases hit_or (oddB ls) n with ⟨t, ht⟩ | ht
  · have hf : Hid (eqB ls = false) := decide_eq_false fun h => by
      have h1 := ht.2.1
      exact of_decide_eq_true h1 (h t (by rw [hl]; exact ht.1))
    have HT := Lib.hid ht
    clear ht hs hl hB hask hs'
    go_enter Tryz.func274, Tryz.ntmps274
    go_wp2_with fail
    refine (contains_hit _ _ enters_eq ls (oddB ls) p n cap _ HA.out HS.out HL.out hn t HT.out).mono ?_
    rintro e w' ⟨rfl, rfl⟩
    go_wp2
    go_ret
    exact ⟨by rw [hf.out]; rfl, HB.out⟩
  · have hf : Hid (eqB ls = true) := decide_eq_true fun i hi => Decidable.byContradiction fun e => by
      have h1 := ht i (by omega)
      exact of_decide_eq_false h1 e
    have HT := Lib.hid ht
    clear ht hs hl hB hask hs'
    go_enter Tryz.func274, Tryz.ntmps274
    go_wp2_with fail
    refine (contains_miss _ _ enters_eq ls (oddB ls) p n cap _ HA.out HS.out HL.out hn HT.out).mono ?_
    rintro e w' ⟨rfl, rfl⟩
    go_wp2
    go_ret
    exact ⟨by rw [hf.out]; rfl, HB.out⟩
theorem goodB_false (ls : List (List (BitVec 8))) (h : ¬ (permB (ls.length : Int) = true ∧ permB ((ls.getD 0 []).length : Int) = true ∧ eqB ls = true)) : goodB ls = false := decide_eq_false fun g => h
  ⟨decide_eq_true ⟨by omega, by omega⟩, decide_eq_true ⟨by omega, by omega⟩, decide_eq_true g.2.2.2.2⟩
theorem goodB_true (ls : List (List (BitVec 8))) (h1 : permB (ls.length : Int) = true) (h2 : permB ((ls.getD 0 []).length : Int) = true) (h3 : eqB ls = true) : goodB ls = true := by
  have g1 := of_decide_eq_true h1
  have g2 := of_decide_eq_true h2
  exact decide_eq_true ⟨by omega, by omega, by omega, by omega, of_decide_eq_true h3⟩
set_option maxHeartbeats 1000000 in
theorem goodM_any (ls : List (List (BitVec 8))) (p : Option Addr) (n cap : Nat) (w : World) (hs : Prt w p ls) (hl : ls.length = n) (hn : n < 4294967296) :
    Calls Tryz.prog 273 #[.slice p n cap] w fun e w' => e = .returned (.bool (goodB ls)) ∧ Below w.heap.size w w' := by
  have HS := Lib.hid hs
  have HL := Lib.hid hl
  by_cases h1 : permB (n : Int) = true
  · have hn1 := of_decide_eq_true h1
    obtain ⟨c, o, q, cap0, rfl, -, hc, -, -⟩ := hs.at_ 0 (by omega)
    rw [Nat.add_zero] at hc
    have hi0 : (0 : Int) < (n : Int) := by omega
    generalize hm : (ls.getD 0 []).length = m at *
    have HM := Lib.hid hm
    by_cases h2 : permB (m : Int) = true
    · have HE := Lib.hid (eq_long_any ls _ n cap w hs hl hn)
      have hf : Hid (goodB ls = eqB ls) := by
        show goodB ls = eqB ls
        cases e : eqB ls with
        | true => exact goodB_true ls (by rw [hl]; exact h1) (by rw [hm]; exact h2) e
        | false => exact goodB_false ls fun h => by rw [h.2.2] at e; cases e
      clear hs hl hm hn1
      go_enter Tryz.func273, Tryz.ntmps273
      go_wp2_with fail
      refine (permitted_any _ w).mono ?_
      rintro e w' ⟨rfl, rfl⟩
      go_wp2_with fail
      refine (permitted_any _ w).mono ?_
      rintro e w' ⟨rfl, rfl⟩
      go_wp2_with fail
      refine HE.out.mono ?_
      rintro e w' ⟨rfl, hB⟩
      go_wp2
      go_ret
      exact ⟨by rw [hf.out]; rfl, hB⟩
    · have hf : Hid (goodB ls = false) := goodB_false ls fun h => h2 (by rw [← hm]; exact h.2.1)
      have h2' : permB (m : Int) = false := by simpa using h2
      clear hs hl hm h2 hn1
      go_enter Tryz.func273, Tryz.ntmps273
      go_wp2_with fail
      refine (permitted_any _ w).mono ?_
      rintro e w' ⟨rfl, rfl⟩
      go_wp2_with fail
      refine (permitted_any _ w).mono ?_
      rintro e w' ⟨rfl, rfl⟩
      go_wp2
      go_ret
      exact ⟨by rw [hf.out]; rfl, Below.refl _ _⟩
  · have hf : Hid (goodB ls = false) := goodB_false ls fun h => h1 (by rw [← hl]; exact h.1)
    have h1' : permB (n : Int) = false := by simpa using h1
    clear hs hl h1
    go_enter Tryz.func273, Tryz.ntmps273
    go_wp2_with fail
    refine (permitted_any _ w).mono ?_
    rintro e w' ⟨rfl, rfl⟩
    go_wp2
    go_ret
    exact ⟨by rw [hf.out]; rfl, Below.refl _ _⟩
end Go.Proofs.YtnmopjefjpifoaaGreatDoor
/- The program's field: sums of any number of bytes. -/
set_option maxRecDepth 100000
namespace Go.Proofs.YtnmopjefjpifoaaGreatDoor
open Go Go.RowKit

/-- The sum of all. -/
def sm (l : List (BitVec 8)) : BitVec 8 := l.foldl (· ^^^ ·) 0#8
theorem sm_snoc (l : List (BitVec 8)) (x : BitVec 8) : sm (l ++ [x]) = sm l ^^^ x := by simp [sm]
set_option maxHeartbeats 1000000 in
theorem add_any (f : Value) (l : List (BitVec 8)) (p : Option Addr) (n cap : Nat) (w : World) (hs : Sl w p l) (hl : l.length = n) (hn : n < 4294967296) :
    Calls Tryz.prog 272 #[f, .slice p n cap] w fun e w' => e = .returned (B (sm l)) ∧ Dr w w' := by
  have HS := Lib.hid hs
  have HL := Lib.hid hl
  clear hs hl
  go_enter Tryz.func272, Tryz.ntmps272
  go_wp2
  go_loopw [5, 10] (fun r i wr => ∃ k : Nat, k ≤ n ∧ i = .int .i64 k ∧ r = B (sm (l.take k)) ∧ Dr w wr) (fun _ i _ => n - (intOf i).toNat)
  case atStart => exact ⟨0, Nat.zero_le _, rfl, by simp [sm, B_0], Dr.refl _⟩
  case round =>
    obtain ⟨k, hk, rfl, rfl, hD⟩ := hrel
    have HD := Lib.hid hD
    by_cases hlt : k < n
    · obtain ⟨c, o, rfl, hc⟩ := HS.out k (by rw [HL.out]; exact hlt)
      have hx : wr.cell? ⟨c, o + k, none⟩ = some (B (l.getD k 0#8)) := by rw [hD.cell]; exact hc
      have hT := Lib.hid (take_getD l 0#8 k (by rw [HL.out]; exact hlt))
      have hd0 : decide ((k : Int) < (n : Int)) = true := decide_eq_true (by omega)
      have hl0 : (k : Int) < (n : Int) := by omega
      generalize l.getD k 0#8 = x at *
      clear hD hc
      go_wp2
      go_roundw
      case rel => exact ⟨k + 1, by omega, by go_num, by rw [hT.out, sm_snoc], HD.out⟩
      case measure => simp [intOf]; omega
    · have hd0 : decide ((k : Int) < (n : Int)) = false := decide_eq_false (by omega)
      have he : Hid (l.take k = l) := by show l.take k = l; exact List.take_of_length_le (by rw [HL.out]; omega)
      clear hD
      go_wp2
      go_ret
      exact ⟨by rw [he.out]; rfl, HD.out⟩
end Go.Proofs.YtnmopjefjpifoaaGreatDoor
/- The program's field: its tables in memory, products, quotients and powers. -/
set_option maxRecDepth 100000
namespace Go.Proofs.YtnmopjefjpifoaaGreatDoor
open Go Go.RowKit

theorem ixA (a : Addr) (x : BitVec 8) (w : World) : (Instr.indexAt 345 (.pointer (some a)) (B x)).run Tryz.prog w = .ok (.pointer (some (a.add x.toNat))) w :=
  run_indexAt_B 345 3 256 a x (by kernel_rfl) x.isLt (by kernel_rfl)
attribute [local go_sem] ixA
/-- The cells of a field behind n powers. -/
def fldN (n i : Nat) : Value := if i < 255 then (if i < n then B (pw i) else B 0#8) else .int .i64 ((if lgs.getD (i - 255) 0 < n then lgs.getD (i - 255) 0 else 0 : Nat) : Int)
/-- Block b is a field. -/
def Fld (w : World) (b : Nat) : Prop := Row w b 347 511 (fldN 255)
theorem Fld.lt {w : World} {b : Nat} (h : Fld w b) : b < w.heap.size := Row.lt h
theorem Fld.pow {w : World} {b : Nat} (h : Fld w b) (n : Nat) (hn : n < 255) : w.cell? ⟨b, n, none⟩ = some (B (pw n)) := by
  have := Row.cell h n (by omega)
  rw [this, fldN, if_pos hn, if_pos hn]
theorem Fld.log {w : World} {b : Nat} (h : Fld w b) (x : BitVec 8) : w.cell? ⟨b, 255 + x.toNat, none⟩ = some (.int .i64 (lg x : Int)) := by
  have := Row.cell h (255 + x.toNat) (by have := x.isLt; omega)
  have hl := lg_lt x
  rw [this, fldN, if_neg (by omega), Nat.add_sub_cancel_left]
  show some (Value.int .i64 ((if lg x < 255 then lg x else 0 : Nat) : Int)) = _
  rw [if_pos hl]
theorem Fld.of_below {w w' : World} {b : Nat} (h : Fld w b) (k : Below w.heap.size w w') : Fld w' b := Row.of_below h k
theorem Fld.below {w w' : World} {b N : Nat} (h : Fld w b) (k : Below N w w') (hb : b < N) : Fld w' b := Row.below h k hb
theorem Fld.dr {w w' : World} {b : Nat} (h : Fld w b) (k : Dr w w') : Fld w' b := Row.dr h k

theorem power_any (b n : Nat) (w : World) (h : Fld w b) (hn : n < 4294967296) :
    Calls Tryz.prog 316 #[.pointer (some ⟨b, 0, none⟩), .int .i64 n] w fun e w' => e = .returned (B (pw n)) ∧ w = w' := by
  have hc := h.pow (n % 255) (Nat.mod_lt _ (by decide))
  have hlt : n % 255 < 255 := Nat.mod_lt _ (by decide)
  rw [pw_mod] at hc
  have HC := Lib.hid hc
  clear h hc
  go_enter Tryz.func316, Tryz.ntmps316
  have hc := HC.out
  go_wp2
  go_ret
  exact ⟨rfl, rfl⟩
theorem power_at (b : Nat) (m : Int) (w : World) (h : Fld w b) (h0 : 0 ≤ m) (hn : m < 4294967296) :
    Calls Tryz.prog 316 #[.pointer (some ⟨b, 0, none⟩), .int .i64 m] w fun e w' => e = .returned (B (pw m.toNat)) ∧ w' = w := by
  obtain ⟨n, rfl⟩ := Int.eq_ofNat_of_zero_le h0
  exact (power_any b n w h (by omega)).mono fun e w' ⟨he, hw⟩ => ⟨he, hw.symm⟩
set_option maxHeartbeats 1000000 in
theorem times_any (b : Nat) (x y : BitVec 8) (w : World) (h : Fld w b) :
    Calls Tryz.prog 320 #[.pointer (some ⟨b, 0, none⟩), B x, B y] w fun e w' => e = .returned (B (gm x y)) ∧ Dr w w' := by
  have HF := Lib.hid h
  have hx := h.log x
  have hy := h.log y
  have lx := lg_lt x
  have ly := lg_lt y
  have isum : IntKind.i64.wrap ((lg x : Int) + (lg y : Int)) = (lg x : Int) + (lg y : Int) := IntWalk.i64_in _ (by omega)
  have hn : (lg x : Int) + (lg y : Int) < 4294967296 := by omega
  have HX := Lib.hid hx
  have HY := Lib.hid hy
  have HS := Lib.hid isum
  have HN := Lib.hid hn
  clear hx hy lx ly h isum hn
  by_cases zx : x = 0#8
  · have ex : (x == 0#8) = true := by simpa using zx
    have HZ := Lib.hid zx
    clear zx
    go_enter Tryz.func320, Tryz.ntmps320
    go_wp2
    go_ret
    exact ⟨by rw [HZ.out, gm_zl, B_0]; rfl, Dr.refl _⟩
  · have ex : (x == 0#8) = false := by simpa using zx
    by_cases zy : y = 0#8
    · have ey : (y == 0#8) = true := by simpa using zy
      have HZ := Lib.hid zy
      clear zx zy
      go_enter Tryz.func320, Tryz.ntmps320
      go_wp2
      go_ret
      exact ⟨by rw [HZ.out, gm_zr, B_0]; rfl, Dr.refl _⟩
    · have ey : (y == 0#8) = false := by simpa using zy
      have eg : gm x y = pw (lg x + lg y) := by unfold gm; rw [if_neg (by simp [zx, zy])]
      have HG := Lib.hid eg
      clear eg zx zy
      go_enter Tryz.func320, Tryz.ntmps320
      go_wp2
      have hx := HX.out
      have hy := HY.out
      have isum := HS.out
      go_quiet ((go_at_call 316; exact Calls.quiet_of_same (power_at _ _ _ HF.out (by omega) HN.out)))
      go_wp2
      go_ret
      exact ⟨by rw [HG.out]; rfl, Dr.drewN (Dr.refl _) _⟩
end Go.Proofs.YtnmopjefjpifoaaGreatDoor
/- The program's field: quotients. -/
set_option maxRecDepth 100000
namespace Go.Proofs.YtnmopjefjpifoaaGreatDoor
open Go Go.RowKit

attribute [local go_sem] ixA
/-- A byte and an error's number. -/
def be (x : BitVec 8) (e : Nat) : Ending := .returned (.tuple #[B x, .int .i64 (e : Int)])
theorem ret_be {v w : Value} {x : BitVec 8} {e : Nat} (h : v = B x) (k : w = .int .i64 (e : Int)) : Ending.returned (.tuple #[v, w]) = be x e := by rw [h, k]; rfl
set_option maxHeartbeats 1000000 in
theorem div_any (b : Nat) (x y : BitVec 8) (w : World) (h : Fld w b) (hy0 : y ≠ 0#8) :
    Calls Tryz.prog 299 #[.pointer (some ⟨b, 0, none⟩), B x, B y] w fun e w' => e = be (gd x y) 0 ∧ Dr w w' := by
  have HF := Lib.hid h
  have hx := h.log x
  have hy := h.log y
  have lx := lg_lt x
  have ly := lg_lt y
  have i1 : IntKind.i64.wrap ((lg x : Int) + 255) = (lg x : Int) + 255 := IntWalk.i64_in _ (by omega)
  have i2 : IntKind.i64.wrap ((lg x : Int) + 255 - (lg y : Int)) = (lg x : Int) + 255 - (lg y : Int) := IntWalk.i64_in _ (by omega)
  have hn : 0 ≤ (lg x : Int) + 255 - (lg y : Int) ∧ (lg x : Int) + 255 - (lg y : Int) < 4294967296 := by omega
  have HX := Lib.hid hx
  have HY := Lib.hid hy
  have H1 := Lib.hid i1
  have H2 := Lib.hid i2
  have HN := Lib.hid hn
  have he : Hid (((lg x : Int) + 255 - (lg y : Int)).toNat = lg x + 255 - lg y) := by show ((lg x : Int) + 255 - (lg y : Int)).toNat = lg x + 255 - lg y; omega
  have ey : (y == 0#8) = false := by simpa using hy0
  clear hx hy lx ly h i1 i2 hn
  by_cases zx : x = 0#8
  · have ex : (x == 0#8) = true := by simpa using zx
    have HZ := Lib.hid zx
    clear zx hy0
    go_enter Tryz.func299, Tryz.ntmps299
    go_wp2
    go_ret2
    exact ⟨ret_be (by rw [HZ.out, gd, gm_zl, B_0]; rfl) rfl, Dr.refl _⟩
  · have ex : (x == 0#8) = false := by simpa using zx
    have HG := Lib.hid (gd_log x y zx hy0)
    clear zx hy0
    go_enter Tryz.func299, Tryz.ntmps299
    go_wp2
    have hx := HX.out
    have hy := HY.out
    have i1 := H1.out
    have i2 := H2.out
    go_quiet ((go_at_call 316; exact Calls.quiet_of_same (power_at _ _ _ HF.out HN.out.1 HN.out.2)))
    go_wp2
    go_ret2
    exact ⟨ret_be (by rw [HG.out, ← he.out]; rfl) rfl, Dr.drewN (Dr.refl _) _⟩
end Go.Proofs.YtnmopjefjpifoaaGreatDoor
/- Rows scaled by the program's field. -/
set_option maxRecDepth 100000
namespace Go.Proofs.YtnmopjefjpifoaaGreatDoor
open Go Go.RowKit

attribute [local go_sem ↓] exec_store exec_make exec_bs
attribute [local go_sem] st_B st_I st_b mkB
set_option maxHeartbeats 2000000 in
theorem scale_any (b : Nat) (by_ : BitVec 8) (l : List (BitVec 8)) (p : Option Addr) (n cap : Nat) (w : World) (h : Fld w b) (hs : Sl w p l) (hl : l.length = n) (hn : n < 4294967296) :
    Calls Tryz.prog 317 #[.pointer (some ⟨b, 0, none⟩), B by_, .slice p n cap] w fun e w' =>
      e = .returned (.slice (some ⟨w.heap.size, 0, none⟩) n n) ∧ Row w' w.heap.size 5 n (fun j => B (gm by_ (l.getD j 0#8))) ∧ Below w.heap.size w w' := by
  have HF := Lib.hid h
  have HS := Lib.hid hs
  have HL := Lib.hid hl
  have hr : Row (w.alloc (.cells (zb n) 5)) w.heap.size 5 n (fun j => B 0#8) := Row.new w _ n _
  have hb : Below w.heap.size w (w.alloc (.cells (zb n) 5)) := (Below.refl _ _).alloc (Nat.le_refl _) _
  clear h hs hl
  go_enter Tryz.func317, Tryz.ntmps317
  go_wp2
  generalize w.alloc (.cells (zb n) 5) = w1 at *
  have HR := Lib.hid (hr.congr fun j _ => upto_zero (fun j => gm by_ (l.getD j 0#8)) j)
  have HB := Lib.hid hb
  clear hr hb
  generalize hN : w.heap.size = N at *
  have HN := Lib.hid hN
  clear hN
  go_loopw [15] (fun i wr => ∃ k : Nat, k ≤ n ∧ i = .int .i64 k ∧ Row wr N 5 n (upto (fun j => gm by_ (l.getD j 0#8)) k) ∧ Below N w wr) (fun i _ => n - (intOf i).toNat)
  case atStart => exact ⟨0, Nat.zero_le _, rfl, HR.out, HB.out⟩
  case round =>
    clear HR HB
    obtain ⟨k, hk, rfl, hR, hB⟩ := hrel
    have HB := Lib.hid hB
    have HR := Lib.hid hR
    by_cases hlt : k < n
    · obtain ⟨c, o, rfl, hc⟩ := HS.out k (by rw [HL.out]; exact hlt)
      have hx : wr.cell? ⟨c, o + k, none⟩ = some (B (l.getD k 0#8)) := by
        rw [hB.cell (by rw [← HN.out]; exact World.block_lt_of_cell? w _ hc)]; exact hc
      have hd0 : decide ((k : Int) < (n : Int)) = true := decide_eq_true (by omega)
      have hl0 : (k : Int) < (n : Int) := by omega
      have HST := Lib.hid (fun j (_ : j < n) => upto_step (fun j => gm by_ (l.getD j 0#8)) k j)
      generalize hxx : l.getD k 0#8 = x at *
      have HXX := Lib.hid hxx
      have hbN : b < N := by rw [← HN.out]; exact HF.out.lt
      have HFr := Lib.hid (HF.out.below hB hbN)
      clear hR hB hc hxx
      go_wp2_with fail
      refine (times_any b by_ x wr HFr.out).mono ?_
      rintro e w2 ⟨rfl, hD2⟩
      have hR2 := HR.out.dr hD2
      have c1 : (w2.cell? ⟨N, k, none⟩).isSome = true := by rw [hR2.cell k (by omega)]; rfl
      have f1 : ∀ i, w2.frozen? ⟨N, i, none⟩ = false := hR2.free
      have HR2 := Lib.hid (hR2.set k (B (gm by_ x)))
      have HB2 := Lib.hid (HB.out.trans (hD2.below N))
      clear hR2 hD2
      go_wp2
      go_roundw
      case rel => exact ⟨k + 1, by omega, by go_num, HR2.out.congr HST.out, HB2.out.setCell (Nat.le_refl _) _⟩
      case measure => simp [intOf]; omega
    · have hd0 : decide ((k : Int) < (n : Int)) = false := decide_eq_false (by omega)
      have he : Hid (k = n) := by show k = n; omega
      clear hR hB
      go_wp2
      go_ret
      refine ⟨by rw [HN.out]; rfl, ?_, by rw [HN.out]; exact HB.out⟩
      rw [HN.out]
      have := HR.out
      rw [he.out] at this
      exact this.congr fun j hj => upto_full _ _ _ hj
end Go.Proofs.YtnmopjefjpifoaaGreatDoor
/- The field stays, and nothing that was there changes. -/
set_option maxRecDepth 100000
namespace Go.Proofs.YtnmopjefjpifoaaGreatDoor
open Go Go.RowKit

/-- Block b is a field; of what w0 held nothing has changed. -/
def Gd (w0 : World) (b : Nat) (w : World) : Prop := Fld w b ∧ Below w0.heap.size w0 w
section
variable {w0 w w' : World} {b : Nat}
theorem Gd.bel (h : Gd w0 b w) : Below w0.heap.size w0 w := h.2
theorem Gd.size (h : Gd w0 b w) : w0.heap.size ≤ w.heap.size := h.2.size
theorem Gd.step (h : Gd w0 b w) (k : Below w.heap.size w w') : Gd w0 b w' := ⟨h.1.of_below k, h.2.trans (k.mono h.size)⟩
theorem Gd.alloc (h : Gd w0 b w) (o : Obj) : Gd w0 b (w.alloc o) := h.step ((Below.refl _ _).alloc (Nat.le_refl _) _)
theorem Gd.dr (h : Gd w0 b w) (k : Dr w w') : Gd w0 b w' := ⟨h.1.dr k, h.2.trans (k.below _)⟩
theorem Gd.drew (h : Gd w0 b w) : Gd w0 b w.drew := h.dr ((Dr.refl _).drew)
theorem Gd.drewN (h : Gd w0 b w) (n : Nat) : Gd w0 b (w.drewN n) := h.dr ((Dr.refl _).drewN n)
end
end Go.Proofs.YtnmopjefjpifoaaGreatDoor
/- The program's field: the sum of two bytes, and inverses, as package matrix calls them. -/
set_option maxRecDepth 100000
namespace Go.Proofs.YtnmopjefjpifoaaGreatDoor
open Go Go.RowKit

theorem bs2 (x y : BitVec 8) (w : World) : (bsT 53 2 #[(0, B x), (1, B y)]).run Tryz.prog w = .ok (.value (.slice (some ⟨w.heap.size, 0, none⟩) 2 2)) (w.alloc (.cells #[B x, B y] 5)) := by kernel_rfl
theorem Sl_two (w : World) (x y : BitVec 8) (T : TypeId) : Sl (w.alloc (.cells #[B x, B y] T)) (some ⟨w.heap.size, 0, none⟩) [x, y] := fun j hj => by
  refine ⟨w.heap.size, 0, rfl, ?_⟩
  rw [Nat.zero_add, World.cell?_alloc_new]
  match j, hj with
  | 0, _ => rfl
  | 1, _ => rfl
theorem sm_two (x y : BitVec 8) : sm [x, y] = x ^^^ y := by simp [sm]
theorem add_two (f : Value) (x y : BitVec 8) (p : Option Addr) (w : World) (hs : Sl w p [x, y]) :
    Calls Tryz.prog 272 #[f, .slice p 2 2] w fun e w' => e = .returned (B (x ^^^ y)) ∧ Dr w w' :=
  (add_any f [x, y] p 2 2 w hs rfl (by decide)).mono fun e w' ⟨he, hd⟩ => ⟨by rw [he, sm_two], hd⟩
theorem div_1 (b : Nat) (x : BitVec 8) (w : World) (h : Fld w b) (hx : x ≠ 0#8) :
    Calls Tryz.prog 299 #[.pointer (some ⟨b, 0, none⟩), .int .u8 1, B x] w fun e w' => e = .returned (.tuple #[B (gi x), .int .i64 0]) ∧ Dr w w' := by
  have := div_any b 1#8 x w h hx
  rw [B_1] at this
  exact this.mono fun e w' ⟨he, hd⟩ => ⟨by rw [he, gd, gm_one]; rfl, hd⟩
theorem inverse_any (b : Nat) (x : BitVec 8) (w : World) (h : Fld w b) (hx : x ≠ 0#8) :
    Calls Tryz.prog 271 #[.pointer (some ⟨b, 0, none⟩), B x] w fun e w' => e = .returned (B (gi x)) ∧ Dr w w' := by
  have HC := Lib.hid (div_1 b x w h hx)
  clear h hx
  go_enter Tryz.func271, Tryz.ntmps271
  go_wp2_with fail
  refine HC.out.mono ?_
  rintro e w2 ⟨rfl, hD⟩
  have HD := Lib.hid hD
  clear hD
  go_wp2
  go_ret
  exact ⟨rfl, HD.out⟩
attribute [local go_sem ↓] exec_store exec_make exec_bs
attribute [local go_sem] st_B st_I st_b mkB bs2
set_option maxHeartbeats 2000000 in
/-- One row, times a number, added to another. -/
theorem madd_any (b R n cap cap' : Nat) (c : BitVec 8) (s : Nat → BitVec 8) (q : Option Addr) (l : List (BitVec 8)) (w : World) (h : Fld w b) (hbR : b ≠ R) (hR : Row w R 5 n (fun j => B (s j))) (hs : Sl w q l) (hl : l.length = n) (hn : n < 4294967296) :
    Calls Tryz.prog 302 #[.pointer (some ⟨b, 0, none⟩), .slice (some ⟨R, 0, none⟩) n cap, B c, .slice q n cap'] w fun e w' =>
      e = .returned (.tuple #[]) ∧ Row w' R 5 n (fun j => B (s j ^^^ gm c (l.getD j 0#8))) ∧ Kp R w w' := by
  have HC := Lib.hid (scale_any b c l q n cap' w h hs hl hn)
  have HF := Lib.hid h
  have HR := Lib.hid hR
  have HL := Lib.hid hl
  have hlt : R < w.heap.size := hR.lt
  clear h hR hs hl
  go_enter Tryz.func302, Tryz.ntmps302
  go_wp2_with fail
  refine HC.out.mono ?_
  rintro e w1 ⟨rfl, hr1, hb1⟩
  have HR1 := Lib.hid (hr1.of_below (Below.refl _ _))
  have HK1 := Lib.hid ((Kp.refl R w).of_below hb1 : Kp R w w1)
  have HRR := Lib.hid ((HR.out.of_below hb1).congr (g' := fun j => B (if j < 0 then s j ^^^ gm c (l.getD j 0#8) else s j)) fun j _ => by rw [if_neg (by omega)])
  have HF1 := Lib.hid (HF.out.of_below hb1)
  have hsz1 : w.heap.size < w1.heap.size := hr1.lt
  clear hr1 hb1 HC HR HF
  generalize hN : w.heap.size = N at *
  have HN := Lib.hid hN
  clear hN
  go_wp2
  go_loopw [8, 9, 15] (fun _ _ i wr => ∃ k : Nat, k ≤ n ∧ i = .int .i64 k ∧ Row wr R 5 n (fun j => B (if j < k then s j ^^^ gm c (l.getD j 0#8) else s j)) ∧ Kp R w1 wr) (fun _ _ i _ => n - (intOf i).toNat)
  case atStart => exact ⟨0, Nat.zero_le _, rfl, HRR.out, Kp.refl _ _⟩
  case round =>
    clear HRR
    obtain ⟨k, hk, rfl, hR, hK⟩ := hrel
    have HRR := Lib.hid hR
    have HK := Lib.hid hK
    by_cases hlt2 : k < n
    · have hd0 : decide ((k : Int) < (n : Int)) = true := decide_eq_true (by omega)
      have hl0 : (k : Int) < (n : Int) := by omega
      have hx : wr.cell? ⟨N, k, none⟩ = some (B (gm c (l.getD k 0#8))) := by
        rw [hK.cell (by exact hsz1) (by show N ≠ R; omega)]; exact HR1.out.cell k hlt2
      have hy : wr.cell? ⟨R, k, none⟩ = some (B (s k)) := by
        have := hR.cell k hlt2
        rwa [if_neg (by omega)] at this
      have HFr := Lib.hid (show Fld wr b from Row.of_kp HF1.out hK hbR)
      have hRlt : R < wr.heap.size := hR.lt
      have HST := Lib.hid (fun j (_ : j < n) => show (if j = k then B (s k ^^^ gm c (l.getD k 0#8)) else B (if j < k then s j ^^^ gm c (l.getD j 0#8) else s j)) = B (if j < k + 1 then s j ^^^ gm c (l.getD j 0#8) else s j) from by
        by_cases e : j = k
        · subst e; rw [if_pos rfl, if_pos (by omega)]
        · rw [if_neg e]
          by_cases e2 : j < k
          · rw [if_pos e2, if_pos (by omega)]
          · rw [if_neg e2, if_neg (by omega)])
      generalize gm c (l.getD k 0#8) = y at *
      generalize hsk : s k = x at *
      clear hR hK hsk
      go_wp2_with fail
      refine (add_two _ x y _ _ (Sl_two _ x y _)).mono ?_
      rintro e w2 ⟨rfl, hD2⟩
      have hb0 : Below wr.heap.size wr (wr.alloc (.cells #[B x, B y] 5)) := (Below.refl _ _).alloc (Nat.le_refl _) _
      have hR2 := (HRR.out.of_below hb0).dr hD2
      have c1 : (w2.cell? ⟨R, k, none⟩).isSome = true := by rw [hR2.cell k (by omega)]; rfl
      have f1 : ∀ i, w2.frozen? ⟨R, i, none⟩ = false := hR2.free
      have HR2 := Lib.hid (hR2.set k (B (x ^^^ y)))
      have HK2 := Lib.hid ((HK.out.of_below hb0).of_below (hD2.below _) : Kp R w1 w2)
      clear hR2 hD2 hb0
      go_wp2
      go_roundw
      case rel => exact ⟨k + 1, by omega, by go_num, HR2.out.congr HST.out, HK2.out.setCell _ _⟩
      case measure => simp [intOf]; omega
    · have hd0 : decide ((k : Int) < (n : Int)) = false := decide_eq_false (by omega)
      obtain rfl : k = n := by omega
      clear hR hK
      go_wp2
      go_end0
      exact ⟨rfl, HRR.out.congr fun j hj => by rw [if_pos hj], HK1.out.trans HK.out⟩
end Go.Proofs.YtnmopjefjpifoaaGreatDoor
/- The program's product of a matrix and rows. -/
set_option maxRecDepth 100000
namespace Go.Proofs.YtnmopjefjpifoaaGreatDoor
open Go Go.RowKit

/-- A matrix of the call's own is returned; nothing that was there has changed. -/
def RetMp (N : Nat) (w : World) (n m : Nat) (a : Mx) (e : Ending) (w' : World) : Prop :=
  ∃ G D, e = .returned (.slice (some ⟨G, 0, none⟩) n n) ∧ Mp w' N G n n m D a ∧ Below N w w'
attribute [local go_sem ↓] exec_store exec_make exec_bs
attribute [local go_sem] st_B st_I st_b st_H mkB mkR
set_option maxRecDepth 100000 in
set_option maxHeartbeats 8000000 in
theorem product_any (b : Nat) (la lb : List (List (BitVec 8))) (p q : Option Addr) (n k m cap cap' : Nat) (w : World) (hF : Fld w b) (ha : Prt w p la) (hb : Prt w q lb) (hla : la.length = n) (hlb : lb.length = k)
    (hra : ∀ i, i < n → (la.getD i []).length = k) (hrb : ∀ i, i < k → (lb.getD i []).length = m) (hn : n < 1000000) (hk0 : 0 < k) (hk : k < 1000000) (hm : m < 4294967296) :
    Calls Tryz.prog 275 #[.pointer (some ⟨b, 0, none⟩), .slice p n cap, .slice q k cap'] w (RetMp w.heap.size w n m (mm k (mx la) (mx lb))) := by
  have HF := Lib.hid hF
  have HA := Lib.hid ha
  have HB := Lib.hid hb
  have HLA := Lib.hid hla
  have HLB := Lib.hid hlb
  have HRA := Lib.hid hra
  have HRB := Lib.hid hrb
  obtain ⟨cb, ob, q0, cb0, rfl, hcb0, hcb1, -, -⟩ := hb.at_ 0 (by omega)
  rw [Nat.add_zero, hrb 0 hk0] at hcb1
  have HCB := Lib.hid hcb1
  have hbN : b < w.heap.size := hF.lt
  have hn8 : n < 100000000 := by omega
  have hmat : Mp (w.alloc (.cells (tab n (fun _ => .slice none 0 0)) 53)) w.heap.size w.heap.size n 0 m (fun _ => 0) (mm k (mx la) (mx lb)) := Mp.zero (Row.new w _ n _) (Nat.le_refl _)
  have hb0 : Below w.heap.size w (w.alloc (.cells (tab n (fun _ => .slice none 0 0)) 53)) := (Below.refl _ _).alloc (Nat.le_refl _) _
  clear hF ha hb hla hlb hra hrb hcb1
  go_enter Tryz.func275, Tryz.ntmps275
  go_wp2
  generalize w.alloc (.cells (tab n (fun _ => .slice none 0 0)) 53) = w1 at *
  have HM := Lib.hid hmat
  have HB0 := Lib.hid hb0
  clear hmat hb0
  generalize hN : w.heap.size = N at *
  have HN := Lib.hid hN
  clear hN
  go_loopw [17] (fun i wr => ∃ i0 : Nat, i0 ≤ n ∧ i = .int .i64 i0 ∧ ∃ D, Mp wr N N n i0 m D (mm k (mx la) (mx lb)) ∧ Below N w wr) (fun i _ => n - (intOf i).toNat)
  case atStart => exact ⟨0, Nat.zero_le _, rfl, _, HM.out, HB0.out⟩
  case round =>
    clear HM HB0
    obtain ⟨i0, hi0, rfl, D, hM, hB⟩ := hrel
    rename World => WO
    have HM := Lib.hid hM
    have HBr := Lib.hid hB
    have hNlt : N < WO.heap.size := hM.ltG
    by_cases hlt : i0 < n
    · have hd0 : decide ((i0 : Int) < (n : Int)) = true := decide_eq_true (by omega)
      have hl0 : (i0 : Int) < (n : Int) := by omega
      have hk0' : (0 : Int) < (k : Int) := by omega
      have hxb : WO.cell? ⟨cb, ob, none⟩ = some (.slice q0 m cb0) := by
        rw [hB.cell (by exact hcb0)]; exact HCB.out
      obtain ⟨ca, oa, qa, ca0, rfl, hca0, hca1, hsa, -⟩ := HA.out.at_ i0 (by rw [HLA.out]; exact hlt)
      rw [HRA.out i0 hlt] at hca1
      have hxa : WO.cell? ⟨ca, oa + i0, none⟩ = some (.slice qa k ca0) := by
        rw [hB.cell (by rw [← HN.out]; exact hca0)]; exact hca1
      have HSA := Lib.hid hsa
      have hbA : Below WO.heap.size WO (WO.alloc (.cells (zb m) 5)) := (Below.refl _ _).alloc (Nat.le_refl _) _
      have hr : Row (WO.alloc (.cells (zb m) 5)) WO.heap.size 5 m (fun j => B 0#8) := Row.new WO _ m _
      have hMA := hM.of_below hbA
      have hc1 : ((WO.alloc (.cells (zb m) 5)).cell? ⟨N, i0, none⟩).isSome = true := by rw [hMA.hds.cell i0 hlt]; rfl
      have hf1 : (WO.alloc (.cells (zb m) 5)).frozen? ⟨N, i0, none⟩ = false := hMA.free i0
      have hc2 : WO.cell? ⟨N, i0, none⟩ = some (hdr i0 m D i0) := hM.hds.cell i0 hlt
      have hf2 : WO.frozen? ⟨N, i0, none⟩ = false := hM.free i0
      have hMB := hMA.put i0 WO.heap.size (fun _ => 0#8) hr (i0 + 1) (.inr ⟨rfl, rfl⟩) (fun j hj _ => by have := hM.lt j hj; omega) (by omega) (by omega)
      have HB1 := Lib.hid (show Below N w ((WO.setCell ⟨N, i0, none⟩ (.slice (some ⟨WO.heap.size, 0, none⟩) m m)).alloc (.cells (zb m) 5)) from ((hB.setCell (Nat.le_refl _) _).alloc (by simp; omega) _))
      have hcomm : (WO.alloc (.cells (zb m) 5)).setCell ⟨N, i0, none⟩ (.slice (some ⟨WO.heap.size, 0, none⟩) m m) = (WO.setCell ⟨N, i0, none⟩ (.slice (some ⟨WO.heap.size, 0, none⟩) m m)).alloc (.cells (zb m) 5) := World.setCell_alloc_past _ N i0 _ hNlt
      rw [hcomm] at hMB
      have HM1 := Lib.hid hMB
      clear hca1 hsa hbA hr hMA hMB hM hB hcomm
      go_wp2
      generalize (WO.setCell ⟨N, i0, none⟩ (.slice (some ⟨WO.heap.size, 0, none⟩) m m)).alloc (.cells (zb m) 5) = w1 at *
      clear hc1 hf1 hc2 hf2 hxb hxa
      generalize WO.heap.size = E at *
      go_loopw [32] (fun i wr => ∃ j : Nat, j ≤ k ∧ i = .int .i64 j ∧ Mp wr N N n (i0 + 1) m (setD D i0 E) (setr (mm k (mx la) (mx lb)) i0 (fun c => xs j (fun l => gm (mx la i0 l) (mx lb l c)))) ∧ Below N w wr) (fun i _ => k - (intOf i).toNat)
      case atStart => exact ⟨0, Nat.zero_le _, rfl, HM1.out.congr fun x y _ _ => rfl, HB1.out⟩
      case round =>
        clear HM1 HB1
        obtain ⟨j, hj, rfl, hM, hB⟩ := hrel
        rename World => WP
        have HM := Lib.hid hM
        have HB1 := Lib.hid hB
        by_cases hjk : j < k
        · have hdj : decide ((j : Int) < (k : Int)) = true := decide_eq_true (by omega)
          have hj0 : (j : Int) < (k : Int) := by omega
          obtain ⟨cb', ob', qb, cbj, eb, hcbl, hcbj, hsb, -⟩ := HB.out.at_ j (by rw [HLB.out]; exact hjk)
          injection eb with eb
          injection eb with eb1 eb2
          subst eb1 eb2
          have hrj := HRB.out j hjk
          rw [hrj] at hcbj
          obtain ⟨da, pa, rfl, hya⟩ := HSA.out j (by rw [HRA.out i0 hlt]; exact hjk)
          have kp : ∀ a : Addr, ∀ v, w.cell? a = some v → WP.cell? a = some v := fun a v h => by
            rw [hB.cell (by rw [← HN.out]; exact World.block_lt_of_cell? w a h)]; exact h
          have x2 := kp _ _ hcbj
          have x3 := kp _ _ hya
          have e1 : setD D i0 E i0 = E := if_pos rfl
          have x4 := hM.cellH i0 (Nat.lt_succ_self _) hlt
          have hrow := hM.row i0 (Nat.lt_succ_self _)
          rw [e1] at x4 hrow
          have HROW := Lib.hid (hrow.congr (g' := fun c => B (xs j (fun l => gm (mx la i0 l) (mx lb l c)))) fun x _ => by rw [setr, if_pos rfl])
          have HSB := Lib.hid (hsb.of_below (by rw [HN.out]; exact hB))
          have HRJ := Lib.hid hrj
          have HFr := Lib.hid (HF.out.below hB hbN)
          have hEN : N < E := by
            have h1 := hM.lo i0 (Nat.lt_succ_self _)
            have h2 := hM.ne i0 (Nat.lt_succ_self _)
            rw [e1] at h1 h2
            omega
          have HE1 := Lib.hid e1
          generalize hya' : (la.getD i0 []).getD j 0#8 = ya at *
          have HYA := Lib.hid hya'
          clear kp hM hB hcbj hya hsb hrj hrow e1 hya'
          go_wp2
          refine wp_region_still_tail 10 (by kernel_rfl) (by kernel_rfl) ?_
          simp only [List.take_succ_cons, List.take_zero, List.drop_succ_cons, List.drop_zero, World.drew_eq]
          repeat (refine wpStill_step (fun K hK => ?_); go_simp; refine hK _ ?_; clear hK K)
          refine wpStill_nil ?_
          have hd1 : Dr WP WP.drew := (Dr.refl _).drew
          go_wp2_with fail
          refine (madd_any b E m m cbj ya (fun c => xs j (fun l => gm (mx la i0 l) (mx lb l c))) qb (lb.getD j []) WP.drew (HFr.out.dr hd1) (by omega) (HROW.out.dr hd1) (HSB.out.dr hd1) HRJ.out hm).mono ?_
          rintro e w2 ⟨rfl, hR2, hK2⟩
          have HM2 := Lib.hid ((HM.out.dr hd1).alter i0 (Nat.lt_succ_self _) _ (by rw [HE1.out]; exact hK2) (by rw [HE1.out]; exact hR2))
          have HB2 := Lib.hid (((HB1.out.trans (hd1.below N)).trans (hK2.below (Nat.le_of_lt hEN) (by have := HM.out.ltG; exact Nat.le_of_lt this))))
          clear hd1 hR2 hK2
          go_wp2
          go_roundw
          case rel =>
            refine ⟨j + 1, by omega, by go_num, HM2.out.congr fun x y _ _ => ?_, HB2.out⟩
            unfold setr
            by_cases e : x = i0
            · rw [if_pos e, if_pos e, ← HYA.out]; rfl
            · rw [if_neg e, if_neg e, if_neg e]
          case measure => simp [intOf]; omega
        · have hdj : decide ((j : Int) < (k : Int)) = false := decide_eq_false (by omega)
          obtain rfl : j = k := by omega
          clear hM hB
          go_wp2
          go_roundw
          case rel =>
            refine ⟨i0 + 1, by omega, by go_num, _, HM.out.congr fun x y _ _ => ?_, HB1.out⟩
            unfold setr
            by_cases e : x = i0
            · rw [if_pos e, e]; rfl
            · rw [if_neg e]
          case measure => simp [intOf]; omega
    · have hd0 : decide ((i0 : Int) < (n : Int)) = false := decide_eq_false (by omega)
      obtain rfl : i0 = n := by omega
      clear hM hB
      go_wp2
      go_ret
      exact ⟨_, D, rfl, HM.out, HBr.out⟩
end Go.Proofs.YtnmopjefjpifoaaGreatDoor
