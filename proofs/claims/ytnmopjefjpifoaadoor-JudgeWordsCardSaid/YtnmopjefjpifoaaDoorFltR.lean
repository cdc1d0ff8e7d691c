/- Rounding to the nearest: quotients of small whole numbers; nothing of the program. -/
import Derived.Test.YtnmopjefjpifoaaDoorFlt
set_option linter.unusedSimpArgs false
set_option maxRecDepth 100000
set_option linter.unusedVariables false
namespace Go.Proofs.YtnmopjefjpifoaaDoor
open Go

/-- P / Q as a whole number: the nearest, between two the even one. -/
def rne (P Q : Nat) : Nat := P / Q + (if Q < 2 * (P % Q) ∨ (Q = 2 * (P % Q) ∧ (P / Q) % 2 = 1) then 1 else 0)
theorem rne_scale (P Q c : Nat) (hc : 0 < c) : rne (P * c) (Q * c) = rne P Q := by
  unfold rne
  rw [Nat.mul_div_mul_right _ _ hc, Nat.mul_mod_mul_right]
  have e1 : Q * c < 2 * (P % Q * c) ↔ Q < 2 * (P % Q) := by
    rw [← Nat.mul_assoc]; exact Nat.mul_lt_mul_right hc
  have e2 : Q * c = 2 * (P % Q * c) ↔ Q = 2 * (P % Q) := by
    rw [← Nat.mul_assoc]
    exact ⟨fun h => Nat.eq_of_mul_eq_mul_right hc h, fun h => by rw [← h]⟩
  simp only [e1, e2]
theorem rne_hi (P Q : Nat) (hQ : 0 < Q) : 2 * (Q * rne P Q) ≤ 2 * P + Q := by
  unfold rne
  have h := Nat.div_add_mod P Q
  have hm := Nat.mod_lt P hQ
  split
  · rename_i hc
    have : Q * (P / Q + 1) = Q * (P / Q) + Q := by rw [Nat.mul_add, Nat.mul_one]
    rw [this]
    omega
  · rw [Nat.add_zero]; omega
theorem rne_lo (P Q : Nat) (hQ : 0 < Q) : 2 * P ≤ 2 * (Q * rne P Q) + Q := by
  unfold rne
  have h := Nat.div_add_mod P Q
  have hm := Nat.mod_lt P hQ
  split
  · have : Q * (P / Q + 1) = Q * (P / Q) + Q := by rw [Nat.mul_add, Nat.mul_one]
    rw [this]
    omega
  · rename_i hc
    rw [Nat.add_zero]; omega
/-- A quotient with a digit that tells whether anything is left over, cut to whole numbers, is the quotient cut. -/
theorem cut_rne (A n K : Nat) (neg : Bool) (d : Nat) (hn : 0 < n) (hd : 2 ≤ d) (hK : K = 2 ^ (d - 1)) (hlog : d ≤ (2 * (A / n) + (A % n != 0).toNat).log2 + 2) :
    Ieee.Toward.even.cut neg (2 * (A / n) + (A % n != 0).toNat) d = rne A (n * K) := by
  have hK2 : 2 ^ d = 2 * K := by
    rw [hK, ← Nat.pow_succ']
    congr 1
    omega
  have hKe : ∃ J, K = 2 * J := ⟨2 ^ (d - 2), by rw [hK, ← Nat.pow_succ']; congr 1; omega⟩
  obtain ⟨J, hJ⟩ := hKe
  have hKp : 0 < K := by rw [hK]; exact Nat.two_pow_pos _
  unfold Ieee.Toward.cut rne
  dsimp only
  rw [Nat.min_eq_left hlog, Nat.shiftLeft_eq, Nat.one_mul, hK2]
  have hA := Nat.div_add_mod A n
  have hr := Nat.mod_lt A hn
  have hu := Nat.div_add_mod (A / n) K
  have hul := Nat.mod_lt (A / n) hKp
  have e1 : A / (n * K) = A / n / K := (Nat.div_div_eq_div_mul A n K).symm
  have e2 : A % (n * K) = n * (A / n % K) + A % n := by
    rw [Nat.mod_mul]; omega
  rw [e1, e2]
  generalize hs : (A % n != 0).toNat = σ
  have hσ : (σ = 0 ∧ A % n = 0) ∨ (σ = 1 ∧ 0 < A % n) := by
    by_cases h : A % n = 0
    · left; rw [h] at hs; exact ⟨hs.symm, h⟩
    · right
      have : (A % n != 0) = true := by simpa using h
      rw [this] at hs
      exact ⟨hs.symm, by omega⟩
  generalize A % n = r at *
  generalize A / n = a at *
  have e3 : (2 * a + σ) / (2 * K) = a / K := by
    have : (2 * a + σ) / 2 = a := by omega
    rw [← Nat.div_div_eq_div_mul, this]
  have e4 : (2 * a + σ) % (2 * K) = 2 * (a % K) + σ := by
    rw [Nat.mod_mul]
    have h1 : (2 * a + σ) / 2 = a := by omega
    have h2 : (2 * a + σ) % 2 = σ := by omega
    rw [h1, h2]; omega
  rw [e3, e4]
  generalize a / K = l at *
  generalize hU : a % K = u at *
  have c1 : (2 * K < 2 * (2 * u + σ)) ↔ n * K < 2 * (n * u + r) := by
    rcases hσ with ⟨h1, h2⟩ | ⟨h1, h2⟩
    · subst h1 h2
      rw [Nat.add_zero, Nat.add_zero, show 2 * (n * u) = n * (2 * u) by rw [← Nat.mul_assoc, Nat.mul_comm 2 n, Nat.mul_assoc], Nat.mul_lt_mul_left hn]
      omega
    · subst h1
      constructor
      · intro h
        have : K ≤ 2 * u := by omega
        have := Nat.mul_le_mul_left n this
        have e : n * (2 * u) = 2 * (n * u) := by rw [← Nat.mul_assoc, Nat.mul_comm n 2, Nat.mul_assoc]
        omega
      · intro h
        rcases Nat.lt_or_ge K (2 * u + 1) with h3 | h3
        · omega
        · have : 2 * u + 2 ≤ K := by omega
          have := Nat.mul_le_mul_left n this
          have e : n * (2 * u + 2) = 2 * (n * u) + 2 * n := by rw [Nat.mul_add, ← Nat.mul_assoc, Nat.mul_comm n 2, Nat.mul_assoc]
          omega
  have c2 : (2 * K = 2 * (2 * u + σ)) ↔ n * K = 2 * (n * u + r) := by
    have e : n * (2 * u) = 2 * (n * u) := by rw [← Nat.mul_assoc, Nat.mul_comm n 2, Nat.mul_assoc]
    rcases hσ with ⟨h1, h2⟩ | ⟨h1, h2⟩
    · subst h1 h2
      constructor
      · intro h
        have : K = 2 * u := by omega
        rw [this, e]; omega
      · intro h
        have : n * K = n * (2 * u) := by rw [e]; omega
        have := Nat.eq_of_mul_eq_mul_left hn this
        omega
    · subst h1
      constructor
      · intro h; omega
      · intro h
        exfalso
        rcases Nat.lt_or_ge K (2 * u + 1) with h3 | h3
        · have := Nat.mul_le_mul_left n (show K ≤ 2 * u by omega)
          omega
        · have := Nat.mul_le_mul_left n (show 2 * u + 2 ≤ K by omega)
          have e5 : n * (2 * u + 2) = 2 * (n * u) + 2 * n := by rw [Nat.mul_add, e, Nat.mul_comm n 2]
          omega
  congr 1
  have b1 : decide (2 * K < 2 * (2 * u + σ)) = decide (n * K < 2 * (n * u + r)) := by rw [decide_eq_decide]; exact c1
  have b2 : (2 * K == 2 * (2 * u + σ)) = decide (n * K = 2 * (n * u + r)) := by
    rw [Bool.eq_iff_iff]
    simp only [beq_iff_eq, decide_eq_true_eq]
    exact c2
  have b3 : (l % 2 == 1) = decide (l % 2 = 1) := by
    rw [Bool.eq_iff_iff]
    simp
  rw [b1, b2, b3]
  by_cases d1 : n * K < 2 * (n * u + r)
  · rw [decide_eq_true d1, if_pos (.inl d1)]; rfl
  · rw [decide_eq_false d1]
    by_cases d2 : n * K = 2 * (n * u + r)
    · rw [decide_eq_true d2]
      by_cases d3 : l % 2 = 1
      · rw [decide_eq_true d3, if_pos (.inr ⟨d2, d3⟩)]; rfl
      · rw [decide_eq_false d3, if_neg (fun h => by rcases h with h | h; exact d1 h; exact d3 h.2)]; rfl
    · rw [decide_eq_false d2, if_neg (fun h => by rcases h with h | h; exact d1 h; exact d2 h.1)]; rfl
/-- Where X / Y begins with 53 digits: 2 ^ E times it lies between 2 ^ 52 and 2 ^ 53. -/
structure Fits (X Y E : Nat) : Prop where
  lo : Y * 2 ^ 52 ≤ X * 2 ^ E
  hi : X * 2 ^ E < Y * 2 ^ 53
/-- The rung of a quotient. -/
def quoR (X Y E : Nat) : Nat := (1074 - E) * 4503599627370496 + rne (X * 2 ^ E) Y
theorem fits_le {X Y E Z W F : Nat} (h1 : Fits X Y E) (h2 : Fits Z W F) (hY : 0 < Y) (hW : 0 < W) (h : X * W ≤ Z * Y) : F ≤ E := by
  rcases Nat.lt_or_ge E F with hlt | hge
  · exfalso
    obtain ⟨k, rfl⟩ : ∃ k, F = E + 1 + k := ⟨F - (E + 1), by omega⟩
    have a1 := h1.lo
    have a2 := h2.hi
    have b1 : W * (Y * 2 ^ 52) ≤ W * (X * 2 ^ E) := Nat.mul_le_mul_left _ a1
    have b2 : W * (X * 2 ^ E) ≤ Z * Y * 2 ^ E := by
      rw [← Nat.mul_assoc, Nat.mul_comm W X]; exact Nat.mul_le_mul_right _ h
    have b3 : Y * (Z * 2 ^ (E + 1 + k)) < Y * (W * 2 ^ 53) := Nat.mul_lt_mul_of_pos_left a2 hY
    have b4 : Z * Y * 2 ^ E * 2 ≤ Y * (Z * 2 ^ (E + 1 + k)) := by
      rw [Nat.pow_add, Nat.pow_succ]
      have : 0 < 2 ^ k := Nat.two_pow_pos k
      have e : Y * (Z * (2 ^ E * 2 * 2 ^ k)) = Z * Y * 2 ^ E * 2 * 2 ^ k := by ac_rfl
      rw [e]
      exact Nat.le_mul_of_pos_right _ this
    have e1 : Y * (W * 2 ^ 53) = 2 * (W * (Y * 2 ^ 52)) := by
      rw [show (2 : Nat) ^ 53 = 2 * 2 ^ 52 from rfl]; ac_rfl
    omega
  · exact hge
theorem quo_eq {X Y E Z W F : Nat} (h1 : Fits X Y E) (h2 : Fits Z W F) (hY : 0 < Y) (hW : 0 < W) (h : X * W = Z * Y) : quoR X Y E = quoR Z W F := by
  have e1 := fits_le h1 h2 hY hW (Nat.le_of_eq h)
  have e2 := fits_le h2 h1 hW hY (Nat.le_of_eq h.symm)
  obtain rfl : E = F := by omega
  unfold quoR
  congr 1
  rw [← rne_scale (X * 2 ^ E) Y W hW, ← rne_scale (Z * 2 ^ E) W Y hY, Nat.mul_comm W Y]
  congr 1
  rw [show X * 2 ^ E * W = X * W * 2 ^ E by ac_rfl, show Z * 2 ^ E * Y = Z * Y * 2 ^ E by ac_rfl, h]
theorem rne_fits_hi {X Y E : Nat} (h : Fits X Y E) (hY : 0 < Y) : rne (X * 2 ^ E) Y ≤ 9007199254740992 := by
  have a := rne_hi (X * 2 ^ E) Y hY
  have b := h.hi
  generalize X * 2 ^ E = P at *
  generalize rne P Y = k at *
  rcases Nat.lt_or_ge 9007199254740992 k with hk | hk
  · have := Nat.mul_le_mul_left Y hk
    have e : Y * (9007199254740992 + 1) = Y * 2 ^ 53 + Y := by rw [Nat.mul_add, Nat.mul_one]
    have e2 : Y * Nat.succ 9007199254740992 = Y * 2 ^ 53 + Y := e
    omega
  · exact hk
theorem rne_fits_lo {X Y E : Nat} (h : Fits X Y E) (hY : 0 < Y) : 4503599627370496 ≤ rne (X * 2 ^ E) Y := by
  have a := rne_lo (X * 2 ^ E) Y hY
  have b := h.lo
  generalize X * 2 ^ E = P at *
  generalize rne P Y = k at *
  rcases Nat.lt_or_ge k 4503599627370496 with hk | hk
  · have := Nat.mul_le_mul_left Y (show k + 1 ≤ 4503599627370496 from hk)
    have e : Y * (k + 1) = Y * k + Y := by rw [Nat.mul_add, Nat.mul_one]
    have e2 : Y * 4503599627370496 = Y * 2 ^ 52 := rfl
    omega
  · exact hk
theorem fin_one (M u v B : Nat) (h : u < B + v) : M + u < M + B + 0 + v := by omega
theorem fin_lt (M N u v B : Nat) (hB : 0 < B) (hN : B ≤ N) (hu : u ≤ 2 * B) (hv : B ≤ v) : M + u < M + B + N + v := by omega
theorem fin_mul (F k C : Nat) (h : F + 1 + k ≤ 1074) : (1074 - F) * C = (1074 - (F + 1 + k)) * C + C + k * C := by
  rw [show 1074 - F = (1074 - (F + 1 + k)) + 1 + k by omega, Nat.add_mul, Nat.add_mul, Nat.one_mul]
theorem quo_lt {X Y E Z W F : Nat} (h1 : Fits X Y E) (h2 : Fits Z W F) (hY : 0 < Y) (hW : 0 < W) (hE : E ≤ 1074) (hX : X < 2 ^ 20) (hWs : W < 2 ^ 20) (h : X * W < Z * Y) : quoR X Y E < quoR Z W F := by
  have hFE := fits_le h1 h2 hY hW (Nat.le_of_lt h)
  have k1 := rne_fits_hi h1 hY
  have k2 := rne_fits_lo h2 hW
  have r1 := rne_hi (X * 2 ^ E) Y hY
  have r1' := rne_lo (X * 2 ^ E) Y hY
  have r2 := rne_lo (Z * 2 ^ F) W hW
  have r2' := rne_hi (Z * 2 ^ F) W hW
  have hXp : 0 < X := by
    rcases Nat.eq_zero_or_pos X with h0 | h0
    · have := h1.lo
      rw [h0, Nat.zero_mul] at this
      have : 0 < Y * 2 ^ 52 := Nat.mul_pos hY (by decide)
      omega
    · exact h0
  have hXW : X * W < 2 ^ 40 := by
    have a1 : X * W ≤ (2 ^ 20 - 1) * W := Nat.mul_le_mul_right _ (by omega)
    have a2 : (2 ^ 20 - 1) * W ≤ (2 ^ 20 - 1) * (2 ^ 20 - 1) := Nat.mul_le_mul_left _ (by omega)
    have : ((2 ^ 20 - 1) * (2 ^ 20 - 1) : Nat) < 2 ^ 40 := by decide
    omega
  -- how far the quotients are apart
  have sep : Y * W * 2 ^ 12 < 2 ^ E := by
    have a1 := h1.lo
    have a2 : W * (Y * 2 ^ 52) ≤ W * (X * 2 ^ E) := Nat.mul_le_mul_left _ a1
    have a3 : W * (X * 2 ^ E) = X * W * 2 ^ E := by ac_rfl
    have a4 : X * W * 2 ^ E < 2 ^ 40 * 2 ^ E := Nat.mul_lt_mul_of_pos_right hXW (Nat.two_pow_pos _)
    have a5 : W * (Y * 2 ^ 52) = 2 ^ 40 * (Y * W * 2 ^ 12) := by
      rw [show (2 : Nat) ^ 52 = 2 ^ 40 * 2 ^ 12 from rfl]; ac_rfl
    have : 2 ^ 40 * (Y * W * 2 ^ 12) < 2 ^ 40 * 2 ^ E := by omega
    exact Nat.lt_of_mul_lt_mul_left this
  have gap : X * W * 2 ^ E + 2 ^ E ≤ Z * Y * 2 ^ E := by
    have := Nat.mul_le_mul_right (2 ^ E) h
    rw [Nat.succ_mul] at this
    exact this
  unfold quoR
  by_cases hc : F = E
  · subst hc
    have g : rne (X * 2 ^ F) Y < rne (Z * 2 ^ F) W := by
      rcases Nat.lt_or_ge (rne (X * 2 ^ F) Y) (rne (Z * 2 ^ F) W) with h3 | h3
      · exact h3
      · exfalso
        generalize rne (X * 2 ^ F) Y = u at *
        generalize rne (Z * 2 ^ F) W = v at *
        have b1 := Nat.mul_le_mul_left Y r2
        have b2 := Nat.mul_le_mul_left W r1
        have b3 : W * Y * v ≤ W * Y * u := Nat.mul_le_mul_left _ h3
        have e1 : Y * (2 * (Z * 2 ^ F)) = 2 * (Z * Y * 2 ^ F) := by ac_rfl
        have e2 : Y * (2 * (W * v) + W) = 2 * (W * Y * v) + Y * W := by rw [Nat.mul_add]; congr 1; ac_rfl
        have e3 : W * (2 * (Y * u)) = 2 * (W * Y * u) := by ac_rfl
        have e4 : W * (2 * (X * 2 ^ F) + Y) = 2 * (X * W * 2 ^ F) + Y * W := by rw [Nat.mul_add, Nat.mul_comm W Y]; congr 1; ac_rfl
        have : Y * W * 2 ^ 12 = 4096 * (Y * W) := by rw [Nat.mul_comm]
        omega
    exact Nat.add_lt_add_left g _
  · obtain ⟨k, rfl⟩ : ∃ k, E = F + 1 + k := ⟨E - (F + 1), by omega⟩
    rcases Nat.eq_zero_or_pos k with h0 | h0
    · subst h0
      -- one step apart: the lower is not rounded up to where the higher begins
      have hd := fin_mul F 0 4503599627370496 hE
      rcases Nat.lt_or_ge (rne (X * 2 ^ (F + 1 + 0)) Y) (4503599627370496 + rne (Z * 2 ^ F) W) with h3 | h3
      · rw [hd, Nat.zero_mul]
        exact fin_one _ _ _ _ h3
      · exfalso
        have u2 : rne (X * 2 ^ (F + 1 + 0)) Y = 9007199254740992 := by omega
        have v2 : rne (Z * 2 ^ F) W = 4503599627370496 := by omega
        rw [u2] at r1
        rw [v2] at r2
        have b1 := Nat.mul_le_mul_left W r1
        have b2 := Nat.mul_le_mul_left Y r2
        have e0 : 2 ^ (F + 1 + 0) = 2 * 2 ^ F := by rw [Nat.add_zero, Nat.pow_succ, Nat.mul_comm]
        rw [e0] at b1 gap sep
        have e1 : W * (2 * (Y * 9007199254740992)) = Y * W * 18014398509481984 := by
          rw [show (18014398509481984 : Nat) = 2 * 9007199254740992 from rfl]; ac_rfl
        have e2 : W * (2 * (X * (2 * 2 ^ F)) + Y) = 2 * (X * W * (2 * 2 ^ F)) + Y * W := by rw [Nat.mul_add, Nat.mul_comm W Y]; congr 1; ac_rfl
        have e3 : Y * (2 * (Z * 2 ^ F)) = Z * Y * (2 * 2 ^ F) := by ac_rfl
        have e4 : Y * (2 * (W * 4503599627370496) + W) = Y * W * 9007199254740992 + Y * W := by
          rw [Nat.mul_add, show (9007199254740992 : Nat) = 2 * 4503599627370496 from rfl]; congr 1; ac_rfl
        have e5 : Y * W * 2 ^ 12 = 4096 * (Y * W) := by rw [Nat.mul_comm]
        omega
    · rw [fin_mul F k 4503599627370496 hE]
      exact fin_lt _ _ _ _ _ (by decide) (Nat.le_mul_of_pos_left _ h0) k1 k2
end Go.Proofs.YtnmopjefjpifoaaDoor
