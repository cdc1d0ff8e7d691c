/- Whole numbers as floats, and their quotients; nothing of the program. -/
import Derived.Test.YtnmopjefjpifoaaDoorFltR
set_option linter.unusedSimpArgs false
set_option maxRecDepth 100000
set_option linter.unusedVariables false
namespace Go.Proofs.YtnmopjefjpifoaaDoor
open Go

/-- The digits of a small whole number, moved to the left. -/
def up52 (N : Nat) : Nat := N * 2 ^ (52 - N.log2)
def rungI (N : Nat) : Nat := (N.log2 + 1022) * 4503599627370496 + up52 N
theorem log_lo {N : Nat} (h : 0 < N) : 2 ^ N.log2 ≤ N := Nat.log2_self_le (by omega)
theorem log_hi (N : Nat) : N < 2 ^ (N.log2 + 1) := Nat.lt_log2_self
theorem log_52 {N : Nat} (h : 0 < N) (h2 : N < 2 ^ 53) : N.log2 ≤ 52 := by
  have := (Nat.log2_lt (n := N) (k := 53) (by omega)).2 h2
  omega
theorem up52_lo {N : Nat} (h : 0 < N) (h2 : N < 2 ^ 53) : 2 ^ 52 ≤ up52 N := by
  have := log_52 h h2
  unfold up52
  calc 2 ^ 52 = 2 ^ N.log2 * 2 ^ (52 - N.log2) := by rw [← Nat.pow_add]; congr 1; omega
    _ ≤ N * 2 ^ (52 - N.log2) := Nat.mul_le_mul_right _ (log_lo h)
theorem up52_hi {N : Nat} (h : 0 < N) (h2 : N < 2 ^ 53) : up52 N < 2 ^ 53 := by
  have := log_52 h h2
  unfold up52
  calc N * 2 ^ (52 - N.log2) < 2 ^ (N.log2 + 1) * 2 ^ (52 - N.log2) := Nat.mul_lt_mul_of_pos_right (log_hi N) (Nat.two_pow_pos _)
    _ = 2 ^ 53 := by rw [← Nat.pow_add]; congr 1; omega
theorem up52_ne {N : Nat} (h : 0 < N) (h2 : N < 2 ^ 53) : up52 N ≠ 0 := by
  have a1 := up52_lo h h2
  have : 0 < 2 ^ 52 := by decide
  omega
theorem up52_log {N : Nat} (h : 0 < N) (h2 : N < 2 ^ 53) : (up52 N).log2 = 52 := by
  have b1 := (Nat.log2_lt (k := 53) (up52_ne h h2)).2 (up52_hi h h2)
  have b2 : ¬ (up52 N).log2 < 52 := fun h3 => by
    have a2 := (Nat.log2_lt (up52_ne h h2)).1 h3
    have a1 := up52_lo h h2
    omega
  omega
theorem cut_none (neg : Bool) (n : Nat) : Ieee.Toward.even.cut neg n 0 = n := by
  unfold Ieee.Toward.cut
  simp [Nat.mod_one]
theorem dFrac : Ieee.double.fractionBits = 52 := rfl
theorem dPlace : Ieee.double.leastPlace = -1074 := by decide
theorem dBin : Ieee.double.binade = 4503599627370496 := by decide
theorem dInf : Ieee.double.infRung = 9218868437227405312 := by decide
theorem dSign : Ieee.double.signWeight = 9223372036854775808 := by decide
theorem rungI_lt {N : Nat} (h : 0 < N) (h2 : N < 2 ^ 53) : rungI N < 9218868437227405312 := by
  have a := up52_hi h h2
  have b := log_52 h h2
  unfold rungI
  generalize up52 N = u at *
  generalize N.log2 = l at *
  have : (2 : Nat) ^ 53 = 9007199254740992 := by decide
  omega
theorem nearest_int (neg : Bool) (N : Nat) (h : 0 < N) (h2 : N < 2 ^ 53) : Ieee.double.nearest neg N 0 = Ieee.double.word neg (rungI N) := by
  have hl := log_52 h h2
  have hr := rungI_lt h h2
  unfold Ieee.Format.nearest
  rw [if_neg (by omega)]
  dsimp only
  rw [dFrac, dPlace, dBin, dInf]
  have e1 : max (0 + (N.log2 : Int) - (52 : Nat)) (-1074) = (N.log2 : Int) - 52 := by omega
  rw [e1]
  have e2 : (0 - ((N.log2 : Int) - 52)).toNat = 52 - N.log2 := by omega
  have e3 : ((N.log2 : Int) - 52 - 0).toNat = 0 := by omega
  have e4 : ((N.log2 : Int) - 52 - -1074).toNat = N.log2 + 1022 := by omega
  rw [e2, e3, e4, cut_none, Nat.shiftLeft_eq]
  congr 1
  show min (rungI N) _ = _
  exact Nat.min_eq_left (Nat.le_of_lt hr)
theorem word_lt64 (neg : Bool) (r : Nat) (h : r < 9223372036854775808) : Ieee.double.word neg r < 18446744073709551616 := by
  unfold Ieee.Format.word
  rw [dSign]
  split <;> omega
theorem word_rung (neg : Bool) (r : Nat) (h : r < 9223372036854775808) : rung (Ieee.double.word neg r) = r := by
  unfold Ieee.Format.word rung
  rw [dSign]
  split <;> omega
theorem word_neg (neg : Bool) (r : Nat) (h : r < 9223372036854775808) : decide (9223372036854775808 ≤ Ieee.double.word neg r) = neg := by
  unfold Ieee.Format.word
  rw [dSign]
  cases neg
  · rw [if_neg Bool.false_ne_true]; exact decide_eq_false (by omega)
  · rw [if_pos rfl]; exact decide_eq_true (by omega)
theorem word_key (neg : Bool) (r : Nat) (h : r < 9223372036854775808) : key (Ieee.double.word neg r) = sg neg r := by
  rw [key_sg _ (word_lt64 neg r h), word_neg neg r h, word_rung neg r h]
theorem read_int (neg : Bool) (N : Nat) (h : 0 < N) (h2 : N < 2 ^ 53) : Ieee.double.read (Ieee.double.word neg (rungI N)) = .number neg (up52 N) ((N.log2 : Int) - 52) := by
  have hr := rungI_lt h h2
  have hlt : rungI N < 9223372036854775808 := by omega
  rw [read_eq _ (word_lt64 neg _ hlt), word_neg neg _ hlt, word_rung neg _ hlt, if_pos (show rungI N < infR from hr)]
  have a := up52_lo h h2
  have b := up52_hi h h2
  have p52 : (2 : Nat) ^ 52 = 4503599627370496 := by decide
  have p53 : (2 : Nat) ^ 53 = 9007199254740992 := by decide
  rw [p52] at a
  rw [p53] at b
  have hm : mant (rungI N) = up52 N := by
    unfold mant rungI
    generalize up52 N = u at *
    rw [if_neg (by omega)]
    omega
  have he : expo (rungI N) = N.log2 + 1022 := by
    unfold expo rungI
    generalize up52 N = u at *
    omega
  rw [hm, he]
  have e5 : (-1074 + ((N.log2 + 1022 : Nat) : Int)) = (N.log2 : Int) - 52 := by omega
  rw [e5]
/-- Nothing, as a float. -/
theorem read_zero (neg : Bool) : Ieee.double.read (Ieee.double.word neg 0) = .number neg 0 (-1074) := by
  cases neg <;> decide
theorem nearest_zero (neg : Bool) (p : Int) : Ieee.double.nearest neg 0 p = Ieee.double.word neg 0 := by
  unfold Ieee.Format.nearest
  rw [if_pos rfl]
theorem fin_sum (M k : Nat) (h1 : M ≤ 1074 * 4503599627370496) (h2 : k ≤ 9007199254740992) : M + k < 9218868437227405312 := by omega
theorem quoR_fits {X Y E : Nat} (h : Fits X Y E) (hY : 0 < Y) : quoR X Y E < 9218868437227405312 :=
  fin_sum _ _ (Nat.mul_le_mul_right _ (Nat.sub_le _ _)) (rne_fits_hi h hY)
theorem fin_pos (M k : Nat) (h2 : 4503599627370496 ≤ k) : 0 < M + k := by omega
theorem quoR_pos {X Y E : Nat} (h : Fits X Y E) (hY : 0 < Y) : 0 < quoR X Y E := fin_pos _ _ (rne_fits_lo h hY)
/-- The quotient of two small whole numbers, cut to what a float holds. -/
theorem quo_nearest (neg : Bool) (X Y : Nat) (hX : 0 < X) (hY : 0 < Y) (hX2 : X < 2 ^ 20) (hY2 : Y < 2 ^ 20) :
    ∃ E, E ≤ 100 ∧ Fits X Y E ∧ Ieee.double.nearest neg (2 * ((up52 X * 2 ^ 54) / up52 Y) + ((up52 X * 2 ^ 54) % up52 Y != 0).toNat) (((X.log2 : Int) - 52) - ((Y.log2 : Int) - 52) - (54 : Nat) - 1) = Ieee.double.word neg (quoR X Y E) := by
  have x53 : X < 2 ^ 53 := Nat.lt_trans hX2 (by decide)
  have y53 : Y < 2 ^ 53 := Nat.lt_trans hY2 (by decide)
  have hm1 := up52_lo hX x53
  have hm2 := up52_hi hX x53
  have hn1 := up52_lo hY y53
  have hn2 := up52_hi hY y53
  have lx : X.log2 ≤ 19 := by
    have := (Nat.log2_lt (n := X) (k := 20) (by omega)).2 hX2
    omega
  have ly : Y.log2 ≤ 19 := by
    have := (Nat.log2_lt (n := Y) (k := 20) (by omega)).2 hY2
    omega
  obtain ⟨A, hA⟩ : ∃ A, A = up52 X * 2 ^ 54 := ⟨_, rfl⟩
  rw [← hA]
  have hnp : 0 < up52 Y := Nat.lt_of_lt_of_le (by decide) hn1
  -- the quotient has 54 or 55 digits
  have qlo : 2 ^ 53 ≤ A / up52 Y := by
    rw [Nat.le_div_iff_mul_le hnp, hA]
    calc 2 ^ 53 * up52 Y ≤ 2 ^ 53 * 2 ^ 53 := Nat.mul_le_mul_left _ (Nat.le_of_lt hn2)
      _ = 2 ^ 52 * 2 ^ 54 := by decide
      _ ≤ up52 X * 2 ^ 54 := Nat.mul_le_mul_right _ hm1
  have qhi : A / up52 Y < 2 ^ 55 := by
    rw [Nat.div_lt_iff_lt_mul hnp, hA]
    calc up52 X * 2 ^ 54 < 2 ^ 53 * 2 ^ 54 := Nat.mul_lt_mul_of_pos_right hm2 (by decide)
      _ = 2 ^ 55 * 2 ^ 52 := by decide
      _ ≤ 2 ^ 55 * up52 Y := Nat.mul_le_mul_left _ hn1
  obtain ⟨σ, hσ⟩ : ∃ σ, σ = (A % up52 Y != 0).toNat := ⟨_, rfl⟩
  have hσ1 : σ ≤ 1 := by rw [hσ]; cases (A % up52 Y != 0) <;> decide
  -- how many digits
  obtain ⟨d, hd, hq1, hq2⟩ : ∃ d, (d = 2 ∨ d = 3) ∧ 2 ^ (51 + d) ≤ A / up52 Y ∧ A / up52 Y < 2 ^ (52 + d) := by
    rcases Nat.lt_or_ge (A / up52 Y) (2 ^ 54) with h | h
    · exact ⟨2, .inl rfl, qlo, h⟩
    · exact ⟨3, .inr rfl, h, qhi⟩
  have hmag : 2 * (A / up52 Y) + σ ≠ 0 := by
    have : 0 < 2 ^ (51 + d) := Nat.two_pow_pos _
    omega
  have hlog : (2 * (A / up52 Y) + σ).log2 = 52 + d := by
    have h1 : 2 ^ (52 + d) ≤ 2 * (A / up52 Y) + σ := by
      rw [show 52 + d = (51 + d) + 1 by omega, Nat.pow_succ]; omega
    have h2 : 2 * (A / up52 Y) + σ < 2 ^ (52 + d + 1) := by
      rw [Nat.pow_succ]; omega
    have a := (Nat.log2_lt (n := 2 * (A / up52 Y) + σ) (k := 52 + d + 1) hmag).2 h2
    have b : ¬ (2 * (A / up52 Y) + σ).log2 < 52 + d := fun h => by
      have := (Nat.log2_lt hmag).1 h
      omega
    omega
  obtain ⟨E, hE⟩ : ∃ E : Nat, (E : Int) = 55 - d + Y.log2 - X.log2 := ⟨(55 - d + Y.log2 - X.log2 : Int).toNat, Int.toNat_of_nonneg (by omega)⟩
  -- back to X and Y
  have back : A * (2 ^ E * 2 ^ 0) = A * 2 ^ E := by rw [Nat.pow_zero, Nat.mul_one]
  have key1 : A * 1 = X * 2 ^ E * 2 ^ (51 + d - Y.log2) := by
    rw [hA, Nat.mul_one]
    unfold up52
    rw [Nat.mul_assoc, Nat.mul_assoc, ← Nat.pow_add, ← Nat.pow_add]
    congr 2
    omega
  have key2 : up52 Y * 2 ^ (d - 1) = Y * 2 ^ (51 + d - Y.log2) := by
    unfold up52
    rw [Nat.mul_assoc, ← Nat.pow_add]
    congr 2
    omega
  have hc : 0 < 2 ^ (51 + d - Y.log2) := Nat.two_pow_pos _
  have hfit : Fits X Y E := by
   constructor
   · have h1 : 2 ^ (51 + d) * up52 Y ≤ A := by rw [← Nat.le_div_iff_mul_le hnp]; exact hq1
     refine Nat.le_of_mul_le_mul_right ?_ hc
     rw [← key1, Nat.mul_one]
     calc Y * 2 ^ 52 * 2 ^ (51 + d - Y.log2) = Y * 2 ^ (51 + d - Y.log2) * 2 ^ 52 := by ac_rfl
       _ = up52 Y * 2 ^ (d - 1) * 2 ^ 52 := by rw [key2]
       _ = 2 ^ (51 + d) * up52 Y := by
         rw [Nat.mul_assoc, ← Nat.pow_add, Nat.mul_comm]
         congr 2
         omega
       _ ≤ A := h1
   · have h1 : A < 2 ^ (52 + d) * up52 Y := by rw [← Nat.div_lt_iff_lt_mul hnp]; exact hq2
     refine Nat.lt_of_mul_lt_mul_right (a := 2 ^ (51 + d - Y.log2)) ?_
     rw [← key1, Nat.mul_one]
     calc A < 2 ^ (52 + d) * up52 Y := h1
       _ = up52 Y * 2 ^ (d - 1) * 2 ^ 53 := by
         rw [Nat.mul_assoc, ← Nat.pow_add, Nat.mul_comm]
         congr 2
         omega
       _ = Y * 2 ^ (51 + d - Y.log2) * 2 ^ 53 := by rw [key2]
       _ = Y * 2 ^ 53 * 2 ^ (51 + d - Y.log2) := by ac_rfl
  refine ⟨E, by omega, hfit, ?_⟩
  · rw [← hσ]
    unfold Ieee.Format.nearest
    rw [if_neg hmag]
    dsimp only
    rw [dFrac, dPlace, dBin, dInf, hlog]
    have e1 : max ((X.log2 : Int) - 52 - ((Y.log2 : Int) - 52) - (54 : Nat) - 1 + ((52 + d : Nat) : Int) - (52 : Nat)) (-1074) = -(E : Int) := by omega
    rw [e1]
    have e2 : ((X.log2 : Int) - 52 - ((Y.log2 : Int) - 52) - (54 : Nat) - 1 - -(E : Int)).toNat = 0 := by omega
    have e3 : (-(E : Int) - ((X.log2 : Int) - 52 - ((Y.log2 : Int) - 52) - (54 : Nat) - 1)).toNat = d := by omega
    have e4 : (-(E : Int) - -1074).toNat = 1074 - E := by omega
    rw [e2, e3, e4, Nat.shiftLeft_eq, Nat.pow_zero, Nat.mul_one, hσ, cut_rne A (up52 Y) (2 ^ (d - 1)) neg d hnp (by omega) rfl (by rw [← hσ, hlog]; omega), key2]
    have e5 : rne A (Y * 2 ^ (51 + d - Y.log2)) = rne (X * 2 ^ E) Y := by
      rw [← rne_scale (X * 2 ^ E) Y _ hc, ← key1, Nat.mul_one]
    rw [e5]
    congr 1
    show min (quoR X Y E) _ = _
    exact Nat.min_eq_left (Nat.le_of_lt (quoR_fits hfit hY))
/-- A whole number as a float. -/
def wI (n : Int) : Nat := Ieee.double.word (decide (n < 0)) (if n = 0 then 0 else rungI n.natAbs)
theorem nearest_wI (n : Int) (h : n.natAbs < 2 ^ 53) : FloatKind.f64.nearest n = wI n := by
  unfold FloatKind.nearest FloatKind.encode wI
  show Ieee.double.nearest (decide (n < 0)) n.natAbs 0 = _
  by_cases h0 : n = 0
  · rw [if_pos h0, h0]; exact nearest_zero _ _
  · rw [if_neg h0]
    exact nearest_int _ _ (by omega) h
/-- The rung of the quotient of two numbers. -/
def absQ (x y : Int) (r : Nat) : Prop := (x = 0 ∧ r = 0) ∨ (x ≠ 0 ∧ ∃ E, E ≤ 100 ∧ Fits x.natAbs y.natAbs E ∧ r = quoR x.natAbs y.natAbs E)
theorem absQ_lt {x y : Int} {r : Nat} (h : absQ x y r) (hy : y ≠ 0) : r < 9218868437227405312 := by
  rcases h with ⟨-, rfl⟩ | ⟨-, E, -, h2, rfl⟩
  · decide
  · exact quoR_fits h2 (by omega)
/-- The quotient of two small whole numbers as floats. -/
theorem div_wI (x y : Int) (hx : x.natAbs < 2 ^ 20) (hy : y.natAbs < 2 ^ 20) (h0 : y ≠ 0) :
    ∃ r, absQ x y r ∧ Ieee.double.div (wI x) (wI y) = some (Ieee.double.word (decide (x < 0) ^^ decide (y < 0)) r) := by
  have hyp : 0 < y.natAbs := by omega
  have y53 : y.natAbs < 2 ^ 53 := Nat.lt_trans hy (by decide)
  have x53 : x.natAbs < 2 ^ 53 := Nat.lt_trans hx (by decide)
  unfold Ieee.Format.div
  have ey : Ieee.double.read (wI y) = .number (decide (y < 0)) (up52 y.natAbs) ((y.natAbs.log2 : Int) - 52) := by
    unfold wI
    rw [if_neg h0]
    exact read_int _ _ hyp y53
  have hn1 := up52_lo hyp y53
  have hn0 : up52 y.natAbs ≠ 0 := by
    have : 0 < 2 ^ 52 := by decide
    omega
  rw [ey, dFrac]
  by_cases hx0 : x = 0
  · refine ⟨0, .inl ⟨hx0, rfl⟩, ?_⟩
    have ex : Ieee.double.read (wI x) = .number (decide (x < 0)) 0 (-1074) := by
      unfold wI
      rw [if_pos hx0]
      exact read_zero _
    rw [ex]
    unfold Ieee.Datum.quotient
    dsimp only
    rw [if_neg hn0]
    simp only [Nat.zero_shiftLeft, Nat.zero_div, Nat.zero_mod, Option.map_some]
    exact congrArg some (nearest_zero _ _)
  · have hxp : 0 < x.natAbs := by omega
    have ex : Ieee.double.read (wI x) = .number (decide (x < 0)) (up52 x.natAbs) ((x.natAbs.log2 : Int) - 52) := by
      unfold wI
      rw [if_neg hx0]
      exact read_int _ _ hxp x53
    obtain ⟨E, hE, hF, hn⟩ := quo_nearest (decide (x < 0) ^^ decide (y < 0)) x.natAbs y.natAbs hxp hyp hx hy
    refine ⟨_, .inr ⟨hx0, E, hE, hF, rfl⟩, ?_⟩
    rw [ex]
    unfold Ieee.Datum.quotient
    dsimp only
    have lm := up52_log hxp x53
    have ln := up52_log hyp y53
    rw [if_neg hn0, lm, ln, show 52 + 2 + 52 - 52 = 54 from rfl, Nat.shiftLeft_eq]
    rw [Option.map_some]
    exact congrArg some hn
theorem absQ_pos {x y : Int} {r : Nat} (h : absQ x y r) (hy : y ≠ 0) : (r = 0 ↔ x = 0) := by
  rcases h with ⟨h1, rfl⟩ | ⟨h1, E, -, h2, rfl⟩
  · simp [h1]
  · have := quoR_pos h2 (by omega)
    constructor
    · intro h; omega
    · intro h; exact absurd h h1
theorem absQ_cmp {x y z w : Int} {r q : Nat} (h1 : absQ x y r) (h2 : absQ z w q) (hy : y ≠ 0) (hw : w ≠ 0) (hx2 : x.natAbs < 2 ^ 20) (hy2 : y.natAbs < 2 ^ 20) (hz2 : z.natAbs < 2 ^ 20) (hw2 : w.natAbs < 2 ^ 20) :
    (r < q ↔ x.natAbs * w.natAbs < z.natAbs * y.natAbs) ∧ (r = q ↔ x.natAbs * w.natAbs = z.natAbs * y.natAbs) := by
  have hyp : 0 < y.natAbs := by omega
  have hwp : 0 < w.natAbs := by omega
  have p1 := absQ_pos h1 hy
  have p2 := absQ_pos h2 hw
  rcases h1 with ⟨e1, rfl⟩ | ⟨e1, E, hE, f1, rfl⟩
  · rw [e1]
    rcases h2 with ⟨e2, rfl⟩ | ⟨e2, F, hF, f2, rfl⟩
    · rw [e2]; simp
    · have a1 := quoR_pos f2 hwp
      have a2 : 0 < z.natAbs * y.natAbs := Nat.mul_pos (by omega) hyp
      rw [Int.natAbs_zero, Nat.zero_mul]
      constructor <;> constructor <;> intro h <;> omega
  · rcases h2 with ⟨e2, rfl⟩ | ⟨e2, F, hF, f2, rfl⟩
    · have a1 := quoR_pos f1 hyp
      have a2 : 0 < x.natAbs * w.natAbs := Nat.mul_pos (by omega) hwp
      rw [e2, Int.natAbs_zero, Nat.zero_mul]
      constructor <;> constructor <;> intro h <;> omega
    · have l1 : x.natAbs * w.natAbs < z.natAbs * y.natAbs → _ := quo_lt f1 f2 hyp hwp (by omega) hx2 hw2
      have l2 : z.natAbs * y.natAbs < x.natAbs * w.natAbs → _ := quo_lt f2 f1 hwp hyp (by omega) hz2 hy2
      have l3 := quo_eq f1 f2 hyp hwp
      generalize quoR x.natAbs y.natAbs E = u at *
      generalize quoR z.natAbs w.natAbs F = v at *
      generalize x.natAbs * w.natAbs = P at *
      generalize z.natAbs * y.natAbs = Q at *
      rcases Nat.lt_trichotomy P Q with h | h | h
      · have := l1 h
        constructor <;> constructor <;> intro g <;> omega
      · have := l3 h
        constructor <;> constructor <;> intro g <;> omega
      · have := l2 h
        constructor <;> constructor <;> intro g <;> omega
theorem sg_self (x : Int) : sg (decide (x < 0)) x.natAbs = x := by
  unfold sg
  by_cases h : x < 0
  · rw [decide_eq_true h, if_pos rfl]; omega
  · rw [decide_eq_false h, if_neg Bool.false_ne_true]; omega
theorem sg_prod (s t : Bool) (a b : Nat) : sg s a * sg t b = sg (s ^^ t) (a * b) := by
  unfold sg
  cases s <;> cases t <;> simp [Int.neg_mul, Int.mul_neg]
theorem sg_neg (s : Bool) (a : Nat) : -sg s a = sg (!s) a := by
  unfold sg
  cases s <;> simp
theorem sg_cmp {s t : Bool} {r q P Q : Nat} (h1 : r < q ↔ P < Q) (h2 : r = q ↔ P = Q) (h3 : r = 0 ↔ P = 0) (h4 : q = 0 ↔ Q = 0) : compare (sg s r) (sg t q) = compare (sg s P) (sg t Q) := by
  simp only [compare, compareOfLessAndEq]
  have e1 : sg s r < sg t q ↔ sg s P < sg t Q := by
    unfold sg
    cases s <;> cases t <;> simp only [if_true, if_false, Bool.false_eq_true] <;> omega
  have e2 : sg s r = sg t q ↔ sg s P = sg t Q := by
    unfold sg
    cases s <;> cases t <;> simp only [if_true, if_false, Bool.false_eq_true] <;> omega
  simp only [e1, e2]
/-- How two quotients stand to each other: as the products crosswise, turned round where just one divisor is below nothing. -/
theorem rate_cmp {x y z w : Int} {r q : Nat} (h1 : absQ x y r) (h2 : absQ z w q) (hy : y ≠ 0) (hw : w ≠ 0) (hx2 : x.natAbs < 2 ^ 20) (hy2 : y.natAbs < 2 ^ 20) (hz2 : z.natAbs < 2 ^ 20) (hw2 : w.natAbs < 2 ^ 20) :
    compare (sg (decide (x < 0) ^^ decide (y < 0)) r) (sg (decide (z < 0) ^^ decide (w < 0)) q) = if decide (y < 0) = decide (w < 0) then compare (x * w) (z * y) else compare (-(x * w)) (-(z * y)) := by
  obtain ⟨c1, c2⟩ := absQ_cmp h1 h2 hy hw hx2 hy2 hz2 hw2
  have p1 := absQ_pos h1 hy
  have p2 := absQ_pos h2 hw
  have m1 : r = 0 ↔ x.natAbs * w.natAbs = 0 := by
    rw [p1, Nat.mul_eq_zero]; omega
  have m2 : q = 0 ↔ z.natAbs * y.natAbs = 0 := by
    rw [p2, Nat.mul_eq_zero]; omega
  rw [sg_cmp c1 c2 m1 m2]
  have e1 : x * w = sg (decide (x < 0) ^^ decide (w < 0)) (x.natAbs * w.natAbs) := by rw [← sg_prod, sg_self, sg_self]
  have e2 : z * y = sg (decide (z < 0) ^^ decide (y < 0)) (z.natAbs * y.natAbs) := by rw [← sg_prod, sg_self, sg_self]
  rw [e1, e2, sg_neg, sg_neg]
  generalize decide (x < 0) = sx
  generalize decide (y < 0) = sy
  generalize decide (z < 0) = sz
  generalize decide (w < 0) = sw
  cases sx <;> cases sy <;> cases sz <;> cases sw <;> rfl
end Go.Proofs.YtnmopjefjpifoaaDoor
