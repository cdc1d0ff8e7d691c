/- A row of measures sorted (slices.stableCmpFunc, slices.SortStableFunc). -/
import Derived.Test.YtkkcphjielkmoaaSym
import Derived.Test.YtkkcphjielkmoaaSrtB
set_option linter.unusedSimpArgs false
set_option linter.unusedVariables false
namespace Go.Proofs.Ytkkcphjielkmoaa
open Go Go.RowKit

set_option maxRecDepth 1000000 in
set_option maxHeartbeats 8000000 in
theorem stab_any (g n cap : Nat) (d : Nat → Nat) (w : World) (hF : Fr w g n d) (hd : ∀ x, x < n → d x < 18446744073709551616) (hn : n < 100000000) :
    Calls Try.prog 30 #[.slice (some ⟨g, 0, none⟩) n cap, .int .i64 n, .func (.func 22) #[] #[]] w fun e w' => e = .returned (.tuple #[]) ∧ ∃ d', Fr w' g n d' ∧ PI 0 n d d' ∧ Srt rk d' 0 n ∧ Kp g w w' := by
  have HF := Lib.hid hF
  have HD := Lib.hid hd
  have HSYM := Lib.hid (sym_any g n cap hn n)
  clear hF hd
  go_enter Try.func30, Try.ntmps30
  go_wp2
  go_loopw [7, 8] (fun vi vj wr => ∃ (a b : Nat) (dk : Nat → Nat), a % 20 = 0 ∧ a ≤ n ∧ a + 20 ≤ b ∧ b ≤ a + 20 ∧ vi = .int .i64 a ∧ vj = .int .i64 b ∧ Fr wr g n dk ∧ PI 0 n d dk ∧ Bl20 rk dk a ∧ Kp g w wr) (fun vi vj _ => n - (intOf vi).toNat)
  case atStart => exact ⟨0, 20, d, rfl, Nat.zero_le _, Nat.le_refl _, Nat.le_refl _, rfl, rfl, HF.out, .refl, (fun i j h1 h2 => by omega), Kp.refl _ _⟩
  case round =>
    obtain ⟨a, b, dk, ha, han, hb1, hb2, rfl, rfl, hF, hP, hB, hK⟩ := hrel
    clear HF
    have HF := Lib.hid hF
    have HP := Lib.hid hP
    have HB := Lib.hid hB
    have HK := Lib.hid hK
    have HA := Lib.hid ha
    have HD2 := Lib.hid (fun x hx => HP.out.any (P := (· < 18446744073709551616)) (Nat.le_refl n) HD.out x hx)
    clear hF hP hB hK ha
    by_cases hle : b ≤ n
    · have hlez : (b : Int) ≤ (n : Int) := by omega
      go_wp2_with fail
      refine (ins_any g n cap a b dk wr HF.out HD2.out (by omega) hle hn).mono ?_
      rintro e w1 ⟨rfl, d1, hF1, hP1, hS1, hK1⟩
      have HF1 := Lib.hid hF1
      have HP1 := Lib.hid (HP.out.trans (hP1.mono (Nat.zero_le _) hle))
      have HB1 := Lib.hid (HB.out.step HA.out hb2 hP1 hS1)
      have HK1 := Lib.hid (HK.out.trans hK1)
      clear hF1 hP1 hS1 hK1 HF HP HB HK
      go_wp2
      go_roundw
      case rel => exact ⟨b, b + 20, d1, by have := HA.out; omega, hle, by omega, by omega, by go_num, by go_num, HF1.out, HP1.out, HB1.out, HK1.out⟩
      case measure => simp [intOf]; omega
    · have hlez : ¬ (b : Int) ≤ (n : Int) := by omega
      go_wp2_with fail
      refine (ins_any g n cap a n dk wr HF.out HD2.out han (Nat.le_refl _) hn).mono ?_
      rintro e w1 ⟨rfl, d1, hF1, hP1, hS1, hK1⟩
      have HF1 := Lib.hid hF1
      have HP1 := Lib.hid (HP.out.trans (hP1.mono (Nat.zero_le _) (Nat.le_refl _)))
      have HB1 := Lib.hid ((HB.out.step HA.out (by omega) hP1 hS1).blocks)
      have HK1 := Lib.hid (HK.out.trans hK1)
      clear hF1 hP1 hS1 hK1 HF HP HB HK HD2 HA
      go_wp2
      go_loopw [6] (fun vs wr => ∃ (bs : Nat) (dk : Nat → Nat), 0 < bs ∧ bs ≤ 2 * n + 20 ∧ vs = .int .i64 bs ∧ Fr wr g n dk ∧ PI 0 n d dk ∧ BlT rk dk bs n ∧ Kp g w wr) (fun vs _ => n - (intOf vs).toNat)
      case atStart => exact ⟨20, d1, by decide, by omega, rfl, HF1.out, HP1.out, HB1.out, HK1.out⟩
      case round =>
        clear HF1 HP1 HB1 HK1
        obtain ⟨bs, dk, hb0, hbn, rfl, hF, hP, hB, hK⟩ := hrel
        have HF := Lib.hid hF
        have HP := Lib.hid hP
        have HB := Lib.hid hB
        have HK := Lib.hid hK
        clear hF hP hB hK
        rename World => WO
        by_cases hlt : bs < n
        · have hltz : (bs : Int) < (n : Int) := by omega
          have m1 : wrap64 (2 * (bs : Int)) = 2 * (bs : Int) := wr64 _ (by omega) (by omega)
          have m2 : wrap64 ((bs : Int) * 2) = (bs : Int) * 2 := wr64 _ (by omega) (by omega)
          go_wp2
          go_loopw [7, 8] (fun vi vj wr => ∃ (a b : Nat) (dk : Nat → Nat), a + 2 * bs ≤ b ∧ b ≤ a + 2 * bs ∧ vi = .int .i64 a ∧ vj = .int .i64 b ∧ Fr wr g n dk ∧ PI 0 n d dk ∧ BlI rk dk bs n a ∧ Kp g w wr) (fun vi vj _ => n - (intOf vi).toNat)
          case atStart => exact ⟨0, 2 * bs, dk, by omega, by omega, rfl, by go_num, HF.out, HP.out, HB.out.start hb0, HK.out⟩
          case round =>
            clear HF HP HB HK
            obtain ⟨a, b, dk, hb1, hb2, rfl, rfl, hF, hP, hB, hK⟩ := hrel
            have HF := Lib.hid hF
            have HP := Lib.hid hP
            have HB := Lib.hid hB
            have HK := Lib.hid hK
            have han := hB.le
            have HD2 := Lib.hid (fun x hx => HP.out.any (P := (· < 18446744073709551616)) (Nat.le_refl n) HD.out x hx)
            clear hF hP hB hK
            by_cases hle : b ≤ n
            · have hlez : (b : Int) ≤ (n : Int) := by omega
              go_wp2_with fail
              refine (HSYM.out a (a + bs) b _ _ _ dk _ rfl (by omega) rfl HF.out HD2.out (by omega) (by omega) hle (by omega) (HB.out.one.mono (Nat.le_refl _) (by omega)) (HB.out.two.mono (Nat.le_refl _) (by omega))).mono ?_
              rintro e w2 ⟨rfl, d2, hF2, hP2, hS2, hK2⟩
              have HF2 := Lib.hid hF2
              have HP2 := Lib.hid (HP.out.trans (hP2.mono (Nat.zero_le _) hle))
              have hbe : b = a + 2 * bs := by omega
              have HB2 := Lib.hid (show BlI rk d2 bs n b from by rw [hbe] at hP2 hS2 ⊢; exact HB.out.step hb0 (by omega) hP2 hS2)
              have HK2 := Lib.hid (HK.out.trans hK2)
              clear hF2 hP2 hS2 hK2 hbe HF HP HB HK
              go_wp2
              go_roundw
              case rel => exact ⟨b, b + 2 * bs, d2, by omega, by omega, by go_num, by go_num, HF2.out, HP2.out, HB2.out, HK2.out⟩
              case measure => simp [intOf]; omega
            · have hlez : ¬ (b : Int) ≤ (n : Int) := by omega
              by_cases hm : a + bs < n
              · have hmz : (a : Int) + (bs : Int) < (n : Int) := by omega
                go_wp2_with fail
                refine (HSYM.out a (a + bs) n _ _ _ dk _ rfl (by omega) rfl HF.out HD2.out (by omega) (by omega) (Nat.le_refl _) (by omega) (HB.out.one.mono (Nat.le_refl _) (by omega)) (HB.out.two.mono (Nat.le_refl _) (by omega))).mono ?_
                rintro e w2 ⟨rfl, d2, hF2, hP2, hS2, hK2⟩
                have HF2 := Lib.hid hF2
                have HP2 := Lib.hid (HP.out.trans (hP2.mono (Nat.zero_le _) (Nat.le_refl _)))
                have HB2 := Lib.hid (HB.out.fin hb0 (by omega) hP2 hS2)
                have HK2 := Lib.hid (HK.out.trans hK2)
                clear hF2 hP2 hS2 hK2 HF HP HB HK
                go_wp2
                go_roundw
                case rel => exact ⟨2 * bs, d2, by omega, by omega, by go_num, HF2.out, HP2.out, HB2.out, HK2.out⟩
                case measure => simp [intOf]; omega
              · have hmz : ¬ (a : Int) + (bs : Int) < (n : Int) := by omega
                have HB2 := Lib.hid (HB.out.fin hb0 (by omega) PI.refl (HB.out.one.mono (Nat.le_refl _) (by omega)))
                go_wp2
                go_roundw
                case rel => exact ⟨2 * bs, dk, by omega, by omega, by go_num, HF.out, HP.out, HB2.out, HK.out⟩
                case measure => simp [intOf]; omega
        · have hltz : ¬ (bs : Int) < (n : Int) := by omega
          have HFIN := Lib.hid (HB.out.whole (by omega))
          go_wp2
          go_end0
          exact ⟨rfl, dk, HF.out, HP.out, HFIN.out, HK.out⟩
theorem stable_any (g n cap : Nat) (d : Nat → Nat) (w : World) (hF : Fr w g n d) (hd : ∀ x, x < n → d x < 18446744073709551616) (hn : n < 100000000) :
    Calls Try.prog 23 #[.slice (some ⟨g, 0, none⟩) n cap, .func (.func 22) #[] #[]] w fun e w' => e = .returned (.tuple #[]) ∧ ∃ d', Fr w' g n d' ∧ PI 0 n d d' ∧ Srt rk d' 0 n ∧ Kp g w w' := by
  have HS := Lib.hid (stab_any g n cap d w hF hd hn)
  clear hF hd
  go_enter Try.func23, Try.ntmps23
  go_wp2_with fail
  refine HS.out.mono ?_
  rintro e w1 ⟨rfl, d', hF1, hP1, hS1, hK1⟩
  have H1 := Lib.hid hF1
  have H2 := Lib.hid hP1
  have H3 := Lib.hid hS1
  have H4 := Lib.hid hK1
  clear hF1 hP1 hS1 hK1
  go_wp2
  go_end0
  exact ⟨rfl, d', H1.out, H2.out, H3.out, H4.out⟩
end Go.Proofs.Ytkkcphjielkmoaa
