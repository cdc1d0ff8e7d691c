/- A row of floats rotated (slices.rotateCmpFunc). -/
import Derived.Test.YtkkcphjielkmoaaSwapR
set_option linter.unusedSimpArgs false
set_option linter.unusedVariables false
namespace Go.Proofs.Ytkkcphjielkmoaa
open Go Go.RowKit

theorem swapR_z (g n cap a b c : Nat) (A B C : Int) (hA : A = a) (hB : B = b) (hC : C = c) (d : Nat → Nat) (w : World) (fv : Value) (hF : Fr w g n d) (hab : a + c ≤ b) (hb : b + c ≤ n) (hn : n < 100000000) :
    Calls Try.prog 36 #[.slice (some ⟨g, 0, none⟩) n cap, .int .i64 A, .int .i64 B, .int .i64 C, fv] w fun e w' => e = .returned (.tuple #[]) ∧ Fr w' g n (swR d a b c) ∧ Kp g w w' := by
  subst hA hB hC
  exact swapR_any g n cap a b c d w fv hF hab hb hn
set_option maxRecDepth 1000000 in
set_option maxHeartbeats 4000000 in
theorem rot_any (g n cap a m b : Nat) (d : Nat → Nat) (w : World) (fv : Value) (hF : Fr w g n d) (ham : a < m) (hmb : m < b) (hb : b ≤ n) (hn : n < 100000000) :
    Calls Try.prog 35 #[.slice (some ⟨g, 0, none⟩) n cap, .int .i64 a, .int .i64 m, .int .i64 b, fv] w fun e w' => e = .returned (.tuple #[]) ∧ Fr w' g n (Rot d a m b) ∧ PI a b d (Rot d a m b) ∧ Kp g w w' := by
  have HF := Lib.hid hF
  clear hF
  go_enter Try.func35, Try.ntmps35
  go_wp2
  go_loopw [10, 11] (fun vi vj wr => ∃ (i j : Nat) (dk : Nat → Nat), 1 ≤ i ∧ 1 ≤ j ∧ i + a ≤ m ∧ m + j ≤ b ∧ vi = .int .i64 i ∧ vj = .int .i64 j ∧ Fr wr g n dk ∧ Rot dk (m - i) m (m + j) = Rot d a m b ∧ PI a b d dk ∧ Kp g w wr) (fun vi vj _ => (intOf vi).toNat + (intOf vj).toNat)
  case atStart => exact ⟨m - a, b - m, d, by omega, by omega, by omega, by omega, by go_num, by go_num, HF.out, by rw [show m - (m - a) = a by omega, show m + (b - m) = b by omega], .refl, Kp.refl _ _⟩
  case round =>
    obtain ⟨i, j, dk, hi, hj, hia, hjb, rfl, rfl, hF, hR, hP, hK⟩ := hrel
    clear HF
    have HF := Lib.hid hF
    have HR := Lib.hid hR
    have HP := Lib.hid hP
    have HK := Lib.hid hK
    clear hF hR hP hK
    by_cases he : i = j
    · have hne : ((i : Int) != (j : Int)) = false := by simp; omega
      subst he
      go_wp2_with fail
      refine (swapR_z g n cap (m - i) m i _ _ _ (by omega) rfl rfl dk wr fv HF.out (by omega) (by omega) hn).mono ?_
      rintro e w1 ⟨rfl, hF1, hK1⟩
      rw [rot_eq dk m i (by omega), HR.out] at hF1
      have HF1 := Lib.hid hF1
      have HK1 := Lib.hid (HK.out.trans hK1)
      clear hF1 hK1
      go_wp2
      go_end0
      refine ⟨rfl, HF1.out, ?_, HK1.out⟩
      rw [← HR.out, ← rot_eq dk m i (by omega)]
      exact HP.out.trans (swR_PI dk _ _ _ _ _ (by omega) (by omega) (by omega))
    · have hne : ((i : Int) != (j : Int)) = true := by simp; omega
      by_cases hgt : j < i
      · have hgz : (i : Int) > (j : Int) := by omega
        have hgd : decide ((j : Int) < (i : Int)) = true := decide_eq_true (by omega)
        have hw : wrap64 ((i : Int) - (j : Int)) = (i : Int) - (j : Int) := by unfold wrap64; omega
        go_wp2_with fail
        refine (swapR_z g n cap (m - i) m j _ _ _ (by omega) rfl rfl dk wr fv HF.out (by omega) (by omega) hn).mono ?_
        rintro e w1 ⟨rfl, hF1, hK1⟩
        have HF1 := Lib.hid hF1
        have HK1 := Lib.hid (HK.out.trans hK1)
        clear hF1 hK1
        go_wp2
        go_roundw
        case rel => exact ⟨i - j, j, _, by omega, by omega, by omega, by omega, by go_num, rfl, HF1.out, by rw [rot_gt dk m i j hgt (by omega) (by omega)]; exact HR.out, HP.out.trans (swR_PI dk _ _ _ _ _ (by omega) (by omega) (by omega)), HK1.out⟩
        case measure => simp [intOf]; omega
      · have hgz : ¬ (i : Int) > (j : Int) := by omega
        have hgd : decide ((j : Int) < (i : Int)) = false := decide_eq_false (by omega)
        have hw : wrap64 ((j : Int) - (i : Int)) = (j : Int) - (i : Int) := by unfold wrap64; omega
        go_wp2_with fail
        refine (swapR_z g n cap (m - i) (m + j - i) i _ _ _ (by omega) (by omega) rfl dk wr fv HF.out (by omega) (by omega) hn).mono ?_
        rintro e w1 ⟨rfl, hF1, hK1⟩
        have HF1 := Lib.hid hF1
        have HK1 := Lib.hid (HK.out.trans hK1)
        clear hF1 hK1
        go_wp2
        go_roundw
        case rel => exact ⟨i, j - i, _, by omega, by omega, by omega, by omega, rfl, by go_num, HF1.out, by rw [rot_lt dk m i j (by omega) (by omega) (by omega)]; exact HR.out, HP.out.trans (swR_PI dk _ _ _ _ _ (by omega) (by omega) (by omega)), HK1.out⟩
        case measure => simp [intOf]; omega
end Go.Proofs.Ytkkcphjielkmoaa
