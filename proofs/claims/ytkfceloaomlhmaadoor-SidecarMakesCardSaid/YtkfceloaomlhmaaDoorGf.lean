/- GF(2^8) on numbers of eight bits: products by powers and logarithms of the generator; nothing of the program. -/
set_option linter.unusedSimpArgs false
set_option maxRecDepth 100000
set_option linter.unusedVariables false
namespace Go.Proofs.YtkfceloaomlhmaaDoor

/-- A number times the generator. -/
def xt (x : BitVec 8) : BitVec 8 := (x <<< 1) ^^^ (if x.getLsbD 7 then 29#8 else 0#8)
/-- The powers of the generator. -/
def pw : Nat → BitVec 8
  | 0 => 1#8
  | n + 1 => xt (pw n)
def lgs : List Nat := [0, 0, 1, 25, 2, 50, 26, 198, 3, 223, 51, 238, 27, 104, 199, 75, 4, 100, 224, 14, 52, 141, 239, 129, 28, 193, 105, 248, 200, 8, 76, 113, 5, 138, 101, 47, 225, 36, 15, 33, 53, 147, 142, 218, 240, 18, 130, 69, 29, 181, 194, 125, 106, 39, 249, 185, 201, 154, 9, 120, 77, 228, 114, 166, 6, 191, 139, 98, 102, 221, 48, 253, 226, 152, 37, 179, 16, 145, 34, 136, 54, 208, 148, 206, 143, 150, 219, 189, 241, 210, 19, 92, 131, 56, 70, 64, 30, 66, 182, 163, 195, 72, 126, 110, 107, 58, 40, 84, 250, 133, 186, 61, 202, 94, 155, 159, 10, 21, 121, 43, 78, 212, 229, 172, 115, 243, 167, 87, 7, 112, 192, 247, 140, 128, 99, 13, 103, 74, 222, 237, 49, 197, 254, 24, 227, 165, 153, 119, 38, 184, 180, 124, 17, 68, 146, 217, 35, 32, 137, 46, 55, 63, 209, 91, 149, 188, 207, 205, 144, 135, 151, 178, 220, 252, 190, 97, 242, 86, 211, 171, 20, 42, 93, 158, 132, 60, 57, 83, 71, 109, 65, 162, 31, 45, 67, 216, 183, 123, 164, 118, 196, 23, 73, 236, 127, 12, 111, 246, 108, 161, 59, 82, 41, 157, 85, 170, 251, 96, 134, 177, 187, 204, 62, 90, 203, 89, 95, 176, 156, 169, 160, 81, 11, 245, 22, 235, 122, 117, 44, 215, 79, 174, 213, 233, 230, 231, 173, 232, 116, 214, 244, 234, 168, 80, 88, 175]
/-- The logarithm. -/
def lg (x : BitVec 8) : Nat := lgs.getD x.toNat 0
theorem pw_lg' : ∀ n : Nat, n < 256 → n ≠ 0 → pw (lgs.getD n 0) = BitVec.ofNat 8 n := by decide +kernel
theorem lg_lt' : ∀ n : Nat, n < 256 → lgs.getD n 0 < 255 := by decide +kernel
theorem lg_pw' : ∀ n : Nat, n < 255 → lg (pw n) = n := by decide +kernel
theorem pw_ne' : ∀ n : Nat, n < 255 → pw n ≠ 0#8 := by decide +kernel
theorem pw_255 : pw 255 = 1#8 := by decide +kernel
theorem xt_zero : xt 0#8 = 0#8 := by decide
theorem xt_xor (a b : BitVec 8) : xt (a ^^^ b) = xt a ^^^ xt b := by
  unfold xt
  rw [BitVec.getLsbD_xor, BitVec.shiftLeft_xor_distrib]
  have h : ∀ p q s : BitVec 8, p ^^^ q = p ^^^ s ^^^ (q ^^^ s) := fun p q s => by
    rw [show p ^^^ s ^^^ (q ^^^ s) = (p ^^^ q) ^^^ (s ^^^ s) by ac_rfl, BitVec.xor_self, BitVec.xor_zero]
  cases a.getLsbD 7 <;> cases b.getLsbD 7
  · simp
  · simp; ac_rfl
  · simp; ac_rfl
  · simpa using h _ _ _
theorem pw_lg (x : BitVec 8) (h : x ≠ 0#8) : pw (lg x) = x := by
  have := pw_lg' x.toNat x.isLt (fun e => h (BitVec.eq_of_toNat_eq (by simpa using e)))
  unfold lg
  rw [this, BitVec.ofNat_toNat, BitVec.setWidth_eq]
theorem lg_lt (x : BitVec 8) : lg x < 255 := lg_lt' x.toNat x.isLt
theorem pw_add (n : Nat) : pw (n + 255) = pw n := by
  induction n with
  | zero => exact pw_255
  | succ n ih =>
    show xt (pw (n + 255)) = xt (pw n)
    rw [ih]
theorem pw_mul (q r : Nat) : pw (255 * q + r) = pw r := by
  induction q with
  | zero => simp
  | succ q ih => rw [show 255 * (q + 1) + r = (255 * q + r) + 255 by omega, pw_add, ih]
theorem pw_mod (n : Nat) : pw (n % 255) = pw n := by
  have := pw_mul (n / 255) (n % 255)
  rw [Nat.div_add_mod] at this
  exact this.symm
theorem pw_congr {m n : Nat} (h : m % 255 = n % 255) : pw m = pw n := by rw [← pw_mod m, h, pw_mod]
theorem pw_ne (n : Nat) : pw n ≠ 0#8 := by rw [← pw_mod]; exact pw_ne' _ (Nat.mod_lt _ (by decide))
theorem lg_pw (n : Nat) : lg (pw n) = n % 255 := by rw [← pw_mod]; exact lg_pw' _ (Nat.mod_lt _ (by decide))

/-- The product. -/
def gm (a b : BitVec 8) : BitVec 8 := if a = 0#8 ∨ b = 0#8 then 0#8 else pw (lg a + lg b)
theorem gm_zl (b : BitVec 8) : gm 0#8 b = 0#8 := by simp [gm]
theorem gm_zr (a : BitVec 8) : gm a 0#8 = 0#8 := by simp [gm]
theorem gm_comm (a b : BitVec 8) : gm a b = gm b a := by
  unfold gm
  rw [Nat.add_comm (lg a)]
  by_cases h : a = 0#8 <;> by_cases k : b = 0#8 <;> simp [h, k]
theorem gm_pw (m n : Nat) : gm (pw m) (pw n) = pw (m + n) := by
  unfold gm
  rw [if_neg (by simp [pw_ne]), lg_pw, lg_pw]
  exact pw_congr (by omega)
theorem ex_pw (a : BitVec 8) (h : a ≠ 0#8) : ∃ n, n < 255 ∧ a = pw n := ⟨lg a, lg_lt a, (pw_lg a h).symm⟩
theorem gm_one (a : BitVec 8) : gm 1#8 a = a := by
  by_cases h : a = 0#8
  · rw [h, gm_zr]
  · obtain ⟨n, _, rfl⟩ := ex_pw a h
    rw [show (1#8 : BitVec 8) = pw 0 from rfl, gm_pw, Nat.zero_add]
theorem gm_one_r (a : BitVec 8) : gm a 1#8 = a := by rw [gm_comm, gm_one]
theorem gm_assoc (a b c : BitVec 8) : gm (gm a b) c = gm a (gm b c) := by
  by_cases ha : a = 0#8
  · simp [ha, gm_zl]
  by_cases hb : b = 0#8
  · simp [hb, gm_zl, gm_zr]
  by_cases hc : c = 0#8
  · simp [hc, gm_zr]
  obtain ⟨i, _, rfl⟩ := ex_pw a ha
  obtain ⟨j, _, rfl⟩ := ex_pw b hb
  obtain ⟨k, _, rfl⟩ := ex_pw c hc
  simp only [gm_pw, Nat.add_assoc]
theorem gm_ne (a b : BitVec 8) (ha : a ≠ 0#8) (hb : b ≠ 0#8) : gm a b ≠ 0#8 := by
  unfold gm
  rw [if_neg (by simp [ha, hb])]
  exact pw_ne _
theorem gm_xt (a b : BitVec 8) : gm a (xt b) = xt (gm a b) := by
  by_cases ha : a = 0#8
  · simp [ha, gm_zl, xt_zero]
  by_cases hb : b = 0#8
  · simp [hb, gm_zr, xt_zero]
  obtain ⟨i, _, rfl⟩ := ex_pw a ha
  obtain ⟨j, _, rfl⟩ := ex_pw b hb
  rw [show xt (pw j) = pw (j + 1) from rfl, gm_pw, gm_pw]
  rfl
theorem gm_xt_l (a b : BitVec 8) : gm (xt a) b = xt (gm a b) := by rw [gm_comm, gm_xt, gm_comm]
theorem gm_pw_xor (n : Nat) (b c : BitVec 8) : gm (pw n) (b ^^^ c) = gm (pw n) b ^^^ gm (pw n) c := by
  induction n with
  | zero => simp only [show pw 0 = 1#8 from rfl, gm_one]
  | succ n ih => rw [show pw (n + 1) = xt (pw n) from rfl, gm_xt_l, gm_xt_l, gm_xt_l, ih, xt_xor]
theorem gm_xor (a b c : BitVec 8) : gm a (b ^^^ c) = gm a b ^^^ gm a c := by
  by_cases ha : a = 0#8
  · simp [ha, gm_zl]
  · obtain ⟨i, _, rfl⟩ := ex_pw a ha
    exact gm_pw_xor i b c
theorem gm_xor_l (a b c : BitVec 8) : gm (a ^^^ b) c = gm a c ^^^ gm b c := by rw [gm_comm, gm_xor, gm_comm c, gm_comm c]

/-- The inverse. -/
def gi (a : BitVec 8) : BitVec 8 := pw (255 - lg a)
theorem gi_ne (a : BitVec 8) : gi a ≠ 0#8 := pw_ne _
theorem gm_gi (a : BitVec 8) (h : a ≠ 0#8) : gm a (gi a) = 1#8 := by
  have hl := lg_lt a
  obtain ⟨n, hn, e⟩ := ex_pw a h
  have : lg a = n := by rw [e, lg_pw, Nat.mod_eq_of_lt hn]
  unfold gi
  rw [this, e, gm_pw, show n + (255 - n) = 255 by omega, pw_255]
theorem gi_of (a b : BitVec 8) (h : a ≠ 0#8) (hb : gm a b = 1#8) : b = gi a := by
  have : gm (gi a) (gm a b) = gi a := by rw [hb, gm_one_r]
  rw [← gm_assoc, gm_comm (gi a), gm_gi a h, gm_one] at this
  exact this
/-- The quotient. -/
def gd (a b : BitVec 8) : BitVec 8 := gm a (gi b)
theorem gd_log (a b : BitVec 8) (ha : a ≠ 0#8) (hb : b ≠ 0#8) : gd a b = pw (lg a + 255 - lg b) := by
  have h1 := lg_lt b
  obtain ⟨n, hn, e⟩ := ex_pw a ha
  have : lg a = n := by rw [e, lg_pw, Nat.mod_eq_of_lt hn]
  unfold gd gi
  rw [this, e, gm_pw]
  congr 1; omega
theorem gd_mul (a b : BitVec 8) (hb : b ≠ 0#8) : gm (gd a b) b = a := by
  unfold gd
  rw [gm_assoc, gm_comm (gi b), gm_gi b hb, gm_one_r]
theorem gd_one (b : BitVec 8) : gd 1#8 b = gi b := by unfold gd; rw [gm_one]

/-- The power. -/
def gp (a : BitVec 8) : Nat → BitVec 8
  | 0 => 1#8
  | n + 1 => gm (gp a n) a
theorem gp_zero (n : Nat) (h : 0 < n) : gp 0#8 n = 0#8 := by
  obtain ⟨k, rfl⟩ := Nat.exists_eq_succ_of_ne_zero (Nat.pos_iff_ne_zero.1 h)
  show gm _ _ = _
  rw [gm_zr]
theorem gp_pw (m n : Nat) : gp (pw m) n = pw (m * n) := by
  induction n with
  | zero => rfl
  | succ n ih =>
    show gm (gp (pw m) n) (pw m) = _
    rw [ih, gm_pw, Nat.mul_succ]
theorem gp_log (a : BitVec 8) (h : a ≠ 0#8) (n : Nat) : gp a n = pw (lg a * (n % 255)) := by
  obtain ⟨m, hm, e⟩ := ex_pw a h
  have : lg a = m := by rw [e, lg_pw, Nat.mod_eq_of_lt hm]
  rw [this, e, gp_pw]
  exact pw_congr (by rw [Nat.mul_mod, Nat.mul_mod m (n % 255), Nat.mod_mod])
theorem gp_red (a : BitVec 8) (n : Nat) : gp a (n % 255 + 255 * min (n / 255) 1) = gp a n := by
  by_cases h : a = 0#8
  · subst h
    by_cases h0 : n = 0
    · subst h0; rfl
    · rw [gp_zero _ (by omega), gp_zero _ (by omega)]
  · rw [gp_log a h, gp_log a h]
    congr 2; omega
theorem gp_mul (a b : BitVec 8) (n : Nat) : gp (gm a b) n = gm (gp a n) (gp b n) := by
  induction n with
  | zero => exact (gm_one 1#8).symm
  | succ n ih =>
    show gm (gp (gm a b) n) (gm a b) = gm (gm (gp a n) a) (gm (gp b n) b)
    rw [ih, gm_assoc, gm_assoc, ← gm_assoc (gp b n), gm_comm (gp b n) a, gm_assoc]
theorem gp_one (n : Nat) : gp 1#8 n = 1#8 := by
  induction n with
  | zero => rfl
  | succ n ih => show gm (gp 1#8 n) 1#8 = _; rw [ih, gm_one]
theorem gp_inv (a : BitVec 8) (h : a ≠ 0#8) (n : Nat) : gm (gp a n) (gp (gi a) n) = 1#8 := by rw [← gp_mul, gm_gi a h, gp_one]
theorem gp_255 (a : BitVec 8) (h : a ≠ 0#8) : gp a 255 = 1#8 := by rw [gp_log a h]; rfl

/-- What is left of a number of 16 bits by 285. -/
def rd (n : Nat) : BitVec 8 := BitVec.ofNat 8 n ^^^ gm (pw 8) (BitVec.ofNat 8 (n >>> 8))
theorem rd_xor (m n : Nat) : rd (m ^^^ n) = rd m ^^^ rd n := by
  unfold rd
  rw [Nat.shiftRight_xor_distrib, BitVec.ofNat_xor, BitVec.ofNat_xor, gm_xor]
  ac_rfl
theorem rd_lo (n : Nat) (h : n < 256) : rd n = BitVec.ofNat 8 n := by
  unfold rd
  rw [Nat.shiftRight_eq_div_pow, Nat.div_eq_of_lt h, gm_zr, BitVec.xor_zero]
theorem xt_lo (x : Nat) (h : x < 128) : xt (BitVec.ofNat 8 x) = BitVec.ofNat 8 (2 * x) := by
  have : ∀ x : Nat, x < 128 → xt (BitVec.ofNat 8 x) = BitVec.ofNat 8 (2 * x) := by decide +kernel
  exact this x h
theorem xt_hi (x : Nat) (h : x < 256) : xt (BitVec.ofNat 8 x) = BitVec.ofNat 8 (2 * x) ^^^ gm (pw 8) (BitVec.ofNat 8 (x / 128)) := by
  have : ∀ x : Nat, x < 256 → xt (BitVec.ofNat 8 x) = BitVec.ofNat 8 (2 * x) ^^^ gm (pw 8) (BitVec.ofNat 8 (x / 128)) := by decide +kernel
  exact this x h
theorem xor_bit (h m : Nat) (hm : m < 2) : BitVec.ofNat 8 (2 * h + m) = BitVec.ofNat 8 (2 * h) ^^^ BitVec.ofNat 8 m := by
  rw [← BitVec.ofNat_xor]
  congr 1
  apply Nat.eq_of_testBit_eq
  intro i
  rw [Nat.testBit_xor]
  cases i with
  | zero =>
    have : m = 0 ∨ m = 1 := by omega
    rcases this with rfl | rfl <;> simp [Nat.testBit_zero, Nat.add_mod]
  | succ i =>
    simp only [Nat.testBit_succ]
    have e1 : (2 * h + m) / 2 = h := by omega
    have e2 : 2 * h / 2 = h := by omega
    have e3 : m / 2 = 0 := by omega
    simp [e1, e2, e3]
theorem rd_two (x : Nat) (h : x < 32768) : rd (2 * x) = xt (rd x) := by
  have hlo : BitVec.ofNat 8 x = BitVec.ofNat 8 (x % 256) := by apply BitVec.eq_of_toNat_eq; simp
  have hlo2 : BitVec.ofNat 8 (2 * x) = BitVec.ofNat 8 (2 * (x % 256)) := by apply BitVec.eq_of_toNat_eq; simp
  have hhi : (2 * x) >>> 8 = 2 * (x >>> 8) + x % 256 / 128 := by
    simp only [Nat.shiftRight_eq_div_pow]; omega
  have hh : x >>> 8 < 128 := by rw [Nat.shiftRight_eq_div_pow]; omega
  unfold rd
  rw [hhi, xor_bit _ _ (by omega), xt_xor, hlo, xt_hi _ (by omega), ← gm_xt, xt_lo _ hh, gm_xor, hlo2]
  ac_rfl
theorem rd_mod (k : Nat) (h : k < 8) : rd (285 * 2 ^ k) = 0#8 := by
  have : ∀ k : Nat, k < 8 → rd (285 * 2 ^ k) = 0#8 := by decide +kernel
  exact this k h
/-- One step down. -/
theorem red_lt (n k : Nat) (hk : k < 8) (hn : n < 2 ^ (k + 9)) (hb : n / 2 ^ (k + 8) % 2 = 1) : n ^^^ (285 * 2 ^ k) < 2 ^ (k + 8) := by
  apply Nat.lt_pow_two_of_testBit
  intro i hi
  rw [Nat.testBit_xor]
  rcases Nat.eq_or_lt_of_le hi with e | e
  · subst e
    have h1 : n.testBit (k + 8) = true := by
      rw [Nat.testBit_eq_decide_div_mod_eq, hb]; rfl
    have h2 : (285 * 2 ^ k).testBit (k + 8) = true := by
      have : ∀ k : Nat, k < 8 → (285 * 2 ^ k).testBit (k + 8) = true := by decide +kernel
      exact this k hk
    rw [h1, h2]; rfl
  · have e' : 2 ^ (k + 9) ≤ 2 ^ i := Nat.pow_le_pow_right (by decide) (by omega)
    have h3 : 285 * 2 ^ k < 2 ^ (k + 9) := by
      rw [Nat.pow_add, Nat.mul_comm]
      exact Nat.mul_lt_mul_of_pos_left (by decide) (Nat.pow_pos (by decide))
    rw [Nat.testBit_lt_two_pow (by omega), Nat.testBit_lt_two_pow (by omega)]; rfl
theorem red_even (n k : Nat) (hn : n < 2 ^ (k + 9)) (hb : n / 2 ^ (k + 8) % 2 ≠ 1) : n < 2 ^ (k + 8) := by
  rcases Nat.lt_or_ge n (2 ^ (k + 8)) with h | h
  · exact h
  · exfalso
    apply hb
    have e : 2 ^ (k + 9) = 2 ^ (k + 8) * 2 := rfl
    have : n / 2 ^ (k + 8) = 1 := by
      apply Nat.div_eq_of_lt_le <;> omega
    rw [this]
/-- One bit of the second factor. -/
theorem mul_odd (N X Y : Nat) (hX : X < 32768) (hY : Y < 256) (ho : Y % 2 = 1) : rd (N ^^^ X) ^^^ gm (rd (2 * X)) (BitVec.ofNat 8 (Y / 2)) = rd N ^^^ gm (rd X) (BitVec.ofNat 8 Y) := by
  have e : BitVec.ofNat 8 Y = xt (BitVec.ofNat 8 (Y / 2)) ^^^ 1#8 := by
    rw [xt_lo _ (by omega), show (1#8 : BitVec 8) = BitVec.ofNat 8 1 from rfl, ← xor_bit _ _ (by omega)]
    congr 1; omega
  rw [rd_xor, rd_two _ hX, gm_xt_l, ← gm_xt, e, gm_xor, gm_one_r]
  ac_rfl
theorem mul_even (N X Y : Nat) (hX : X < 32768) (hY : Y < 256) (ho : Y % 2 ≠ 1) : rd N ^^^ gm (rd (2 * X)) (BitVec.ofNat 8 (Y / 2)) = rd N ^^^ gm (rd X) (BitVec.ofNat 8 Y) := by
  have e : BitVec.ofNat 8 Y = xt (BitVec.ofNat 8 (Y / 2)) := by
    rw [xt_lo _ (by omega)]
    congr 1; omega
  rw [rd_two _ hX, gm_xt_l, ← gm_xt, e]
/-- The next power as an integer. -/
theorem pw_next (n : Nat) : (if 255 < 2 * (pw n).toNat then (2 * (pw n).toNat) ^^^ 285 else 2 * (pw n).toNat) = (pw (n + 1)).toNat := by
  have : ∀ x : Nat, x < 256 → (if 255 < 2 * x then (2 * x) ^^^ 285 else 2 * x) = (xt (BitVec.ofNat 8 x)).toNat := by decide +kernel
  have h := this (pw n).toNat (pw n).isLt
  rw [BitVec.ofNat_toNat, BitVec.setWidth_eq] at h
  exact h
end Go.Proofs.YtkfceloaomlhmaaDoor
