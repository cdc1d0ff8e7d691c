/- The statement PathMakes, walked over the premises. -/
import Derived.Test.YtbnolmbbpdjibaaDoorPath7
set_option linter.unusedSimpArgs false
set_option linter.unusedVariables false
namespace Go.Proofs.YtbnolmbbpdjibaaDoor
open Go Go.RowKit

theorem signs_nm {l : S8} (h : ∀ c ∈ l, signB c = true) : nm l = [l] := nm_end fun c hc e => by
  have := h c hc
  rw [e] at this
  exact absurd this (by decide)
theorem decL_signs : ∀ n, ∀ c ∈ decL n, signB c = true := by
  intro n
  induction n using Nat.strongRecOn with
  | ind n ih =>
    intro c hc
    have dig : ∀ d : Fin 10, signB (UInt8.ofNat (48 + d.val)) = true := by decide
    by_cases h : n < 10
    · rw [decL_lo h, List.mem_singleton] at hc
      subst hc
      exact dig ⟨n, h⟩
    · rw [decL_hi h, cat_eq, List.mem_append, List.mem_singleton] at hc
      rcases hc with hc | hc
      · exact ih (n / 10) (by omega) c hc
      · subst hc
        exact dig ⟨n % 10, by omega⟩
theorem decL_five {n : Nat} (h : n ≤ 16384) : (decL n).length ≤ 5 := by
  have step : ∀ m k : Nat, (∀ j, j < m → (decL j).length ≤ k) → ∀ j, j < 10 * m → (decL j).length ≤ k + 1 := fun m k hm j hj => by
    by_cases h : j < 10
    · rw [decL_lo h]; simp
    · rw [decL_hi h, cat_len]
      have := hm (j / 10) (by omega)
      simp; omega
  have h1 : ∀ j, j < 10 → (decL j).length ≤ 1 := fun j h => by rw [decL_lo h]; simp
  exact step 10000 4 (step 1000 3 (step 100 2 (step 10 1 h1))) n (by omega)
set_option maxRecDepth 100000 in
theorem hexF : ∀ c : Fin 256, hexB c.val = true → signB (UInt8.ofNat c.val) = true := by decide
theorem hex_sign {c : UInt8} (h : hexB c.toNat = true) : signB c = true := by
  have := hexF ⟨c.toNat, c.toNat_lt⟩ h
  simpa using this
/-- A home is a path. -/
theorem home_good (size : Int) (sum : S8) (h : (homeL size sum).2 = 0) : goodL (homeL size sum).1 = true := by
  unfold homeL at h ⊢
  by_cases hk : okHome size sum = true
  · rw [if_pos hk] at h ⊢
    unfold okHome at hk
    simp only [Bool.and_eq_true, decide_eq_true_eq, List.all_eq_true] at hk
    obtain ⟨⟨⟨k1, k2⟩, k3⟩, k4⟩ := hk
    have h5 := decL_five (n := size.toNat) (by omega)
    have hs : ∀ c ∈ homeOf size sum, signB c = true := by
      intro c hc
      unfold homeOf at hc
      simp only [List.mem_append, List.mem_singleton] at hc
      rcases hc with ((hc | hc) | hc) | hc
      · have : ∀ c ∈ confl, signB c = true := by decide
        exact this c hc
      · exact decL_signs _ c hc
      · subst hc; decide
      · exact hex_sign (k4 c hc)
    have hl : (homeOf size sum).length ≤ 79 ∧ 10 ≤ (homeOf size sum).length := by
      unfold homeOf confl
      simp only [List.length_append, List.length_cons, List.length_nil]
      omega
    show goodL (homeOf size sum) = true
    unfold goodL allN
    rw [signs_nm hs, decide_eq_true (by omega)]
    show (okN (homeOf size sum) && true) = true
    rw [Bool.and_true, okN_signs (by rw [List.all_eq_true]; exact hs)]
    have n1 : homeOf size sum ≠ [] := fun e => by rw [e] at hl; simp at hl
    have n2 : homeOf size sum ≠ [46] := fun e => by rw [e] at hl; simp at hl
    have n3 : homeOf size sum ≠ [46, 46] := fun e => by rw [e] at hl; simp at hl
    simp [n1, n2, n3]
  · rw [if_neg hk] at h; cases h
section
variable {w : World} (S : PathSpec True w)
include S
set_option maxHeartbeats 4000000 in
theorem law_pathMakes (s : S8) (size : Int) (sum : S8) : Calls Tryd.prog 4 #[.string (mkS s), .int .i64 size, .string (mkS sum)] w fun e w' => Gives (.bool true) w e w' := by
  have HAW := Lib.hid (fun u => awake7 S u)
  by_cases ha : 300 < s.length
  · have x1 : (300 : Int) < (s.length : Int) := by omega
    have x2 : decide ((300 : Int) < (s.length : Int)) = true := decide_eq_true x1
    go_enter Tryd.func4, Tryd.ntmps4
    go_wp2_with fail
    refine (HAW.out _).mono ?_
    rintro e w1 ⟨rfl, hB1⟩
    have HB1 := Lib.hid hB1
    clear hB1
    go_wp2_with fail
    refine (onto HB1.out HB1.out.size (HAW.out _)).mono ?_
    rintro e w2 ⟨rfl, hB2⟩
    have HB2 := Lib.hid hB2
    clear hB2 HB1
    go_wp2
    go_ret
    exact ⟨rfl, HB2.out⟩
  · have x1 : ¬ (300 : Int) < (s.length : Int) := by omega
    have x2 : decide ((300 : Int) < (s.length : Int)) = false := decide_eq_false x1
    by_cases hb : 100 < sum.length
    · have x3 : (100 : Int) < (sum.length : Int) := by omega
      have x4 : decide ((100 : Int) < (sum.length : Int)) = true := decide_eq_true x3
      go_enter Tryd.func4, Tryd.ntmps4
      go_wp2_with fail
      refine (HAW.out _).mono ?_
      rintro e w1 ⟨rfl, hB1⟩
      have HB1 := Lib.hid hB1
      clear hB1
      go_wp2_with fail
      refine (onto HB1.out HB1.out.size (HAW.out _)).mono ?_
      rintro e w2 ⟨rfl, hB2⟩
      have HB2 := Lib.hid hB2
      clear hB2 HB1
      go_wp2
      go_ret
      exact ⟨rfl, HB2.out⟩
    · have x3 : ¬ (100 : Int) < (sum.length : Int) := by omega
      have x4 : decide ((100 : Int) < (sum.length : Int)) = false := decide_eq_false x3
      have HHO := Lib.hid (fun u hu => S.home size sum u trivial hu (by omega))
      have HHR := Lib.hid (fun u => refHome_any size sum (by omega) u)
      have HGO := Lib.hid (fun u => S.good (homeL size sum).1 u (by have := homeL_len size sum; omega))
      have HGT := Lib.hid (home_good size sum)
      have HTE := Lib.hid (fun u => S.temp s u (by omega))
      have HSI := Lib.hid (fun u => S.side s u (by omega))
      have HCO := Lib.hid (fun u hu => S.copy s size sum u trivial hu (by omega) (by omega))
      have HTR := Lib.hid (fun u => refWith_any s tmpS (by omega) (by decide) u)
      have HSR := Lib.hid (fun u => refWith_any s parS (by omega) (by decide) u)
      rw [show mkS tmpS = ⟨#[46, 116, 109, 112, 126]⟩ from (mkS_lit tmpS).symm] at HTR
      rw [show mkS parS = ⟨#[46, 112, 97, 114, 126]⟩ from (mkS_lit parS).symm] at HSR
      have HCR := Lib.hid (fun u => refCopy_any s size sum (by omega) (by omega) u)
      clear S ha hb
      obtain ⟨h, k, hhk⟩ : ∃ h k, homeL size sum = (h, k) := ⟨_, _, rfl⟩
      obtain ⟨t, i, hti⟩ : ∃ t i, withL s tmpS = (t, i) := ⟨_, _, rfl⟩
      obtain ⟨v, j, hvj⟩ : ∃ v j, withL s parS = (v, j) := ⟨_, _, rfl⟩
      obtain ⟨c, m, hcm⟩ : ∃ c m, copyL s size sum = (c, m) := ⟨_, _, rfl⟩
      rw [hhk] at HHO HHR HGO HGT
      rw [hti] at HTE HTR
      rw [hvj] at HSI HSR
      rw [hcm] at HCO HCR
      clear hhk hti hvj hcm
      unfold pairS at HHO HHR HTE HTR HSI HSR HCO HCR
      dsimp only at HHO HHR HTE HTR HSI HSR HCO HCR HGO HGT
      have eh : (h == h) = true := by simp
      have et : (t == t) = true := by simp
      have ev : (v == v) = true := by simp
      have ec : (c == c) = true := by simp
      have ek : ((k : Int) == (k : Int)) = true := by simp
      have ei : ((i : Int) == (i : Int)) = true := by simp
      have ej : ((j : Int) == (j : Int)) = true := by simp
      have em : ((m : Int) == (m : Int)) = true := by simp
      by_cases hk : k = 0
      · subst hk
        rw [HGT.out rfl] at HGO
        go_enter Tryd.func4, Tryd.ntmps4
        go_wp2_with fail
        refine (HAW.out _).mono ?_
        rintro e w1 ⟨rfl, hB1⟩
        have HB1 := Lib.hid hB1
        clear hB1
        go_wp2_with fail
        refine (onto HB1.out HB1.out.size (HHO.out _ HB1.out)).mono ?_
        rintro e w2 ⟨rfl, hB2⟩
        have HB2 := Lib.hid hB2
        clear hB2 HB1
        go_wp2_with fail
        refine (onto HB2.out HB2.out.size (HHR.out _)).mono ?_
        rintro e w3 ⟨rfl, hB3⟩
        have HB3 := Lib.hid hB3
        clear hB3 HB2
        go_wp2_with fail
        refine (onto HB3.out HB3.out.size (HGO.out _)).mono ?_
        rintro e w4 ⟨rfl, hB4⟩
        have HB4 := Lib.hid hB4
        clear hB4 HB3
        go_wp2_with fail
        refine (onto HB4.out HB4.out.size (HTE.out _)).mono ?_
        rintro e w5 ⟨rfl, hB5⟩
        have HB5 := Lib.hid hB5
        clear hB5 HB4
        go_wp2_with fail
        refine (onto HB5.out HB5.out.size (HSI.out _)).mono ?_
        rintro e w6 ⟨rfl, hB6⟩
        have HB6 := Lib.hid hB6
        clear hB6 HB5
        go_wp2_with fail
        refine (onto HB6.out HB6.out.size (HCO.out _ HB6.out)).mono ?_
        rintro e w7 ⟨rfl, hB7⟩
        have HB7 := Lib.hid hB7
        clear hB7 HB6
        go_wp2_with fail
        refine (onto HB7.out HB7.out.size (HTR.out _)).mono ?_
        rintro e w8 ⟨rfl, hB8⟩
        have HB8 := Lib.hid hB8
        clear hB8 HB7
        go_wp2_with fail
        refine (onto HB8.out HB8.out.size (HSR.out _)).mono ?_
        rintro e w9 ⟨rfl, hB9⟩
        have HB9 := Lib.hid hB9
        clear hB9 HB8
        go_wp2_with fail
        refine (onto HB9.out HB9.out.size (HCR.out _)).mono ?_
        rintro e w10 ⟨rfl, hB10⟩
        have HB10 := Lib.hid hB10
        clear hB10 HB9
        go_wp2
        go_ret
        exact ⟨rfl, HB10.out⟩
      · have hz : ((k : Int) == 0) = false := by simp; omega
        clear HGO HGT
        go_enter Tryd.func4, Tryd.ntmps4
        go_wp2_with fail
        refine (HAW.out _).mono ?_
        rintro e w1 ⟨rfl, hB1⟩
        have HB1 := Lib.hid hB1
        clear hB1
        go_wp2_with fail
        refine (onto HB1.out HB1.out.size (HHO.out _ HB1.out)).mono ?_
        rintro e w2 ⟨rfl, hB2⟩
        have HB2 := Lib.hid hB2
        clear hB2 HB1
        go_wp2_with fail
        refine (onto HB2.out HB2.out.size (HHR.out _)).mono ?_
        rintro e w3 ⟨rfl, hB3⟩
        have HB3 := Lib.hid hB3
        clear hB3 HB2
        go_wp2_with fail
        refine (onto HB3.out HB3.out.size (HTE.out _)).mono ?_
        rintro e w4 ⟨rfl, hB4⟩
        have HB4 := Lib.hid hB4
        clear hB4 HB3
        go_wp2_with fail
        refine (onto HB4.out HB4.out.size (HSI.out _)).mono ?_
        rintro e w5 ⟨rfl, hB5⟩
        have HB5 := Lib.hid hB5
        clear hB5 HB4
        go_wp2_with fail
        refine (onto HB5.out HB5.out.size (HCO.out _ HB5.out)).mono ?_
        rintro e w6 ⟨rfl, hB6⟩
        have HB6 := Lib.hid hB6
        clear hB6 HB5
        go_wp2_with fail
        refine (onto HB6.out HB6.out.size (HTR.out _)).mono ?_
        rintro e w7 ⟨rfl, hB7⟩
        have HB7 := Lib.hid hB7
        clear hB7 HB6
        go_wp2_with fail
        refine (onto HB7.out HB7.out.size (HSR.out _)).mono ?_
        rintro e w8 ⟨rfl, hB8⟩
        have HB8 := Lib.hid hB8
        clear hB8 HB7
        go_wp2_with fail
        refine (onto HB8.out HB8.out.size (HCR.out _)).mono ?_
        rintro e w9 ⟨rfl, hB9⟩
        have HB9 := Lib.hid hB9
        clear hB9 HB8
        go_wp2
        go_ret
        exact ⟨rfl, HB9.out⟩
end
end Go.Proofs.YtbnolmbbpdjibaaDoor
