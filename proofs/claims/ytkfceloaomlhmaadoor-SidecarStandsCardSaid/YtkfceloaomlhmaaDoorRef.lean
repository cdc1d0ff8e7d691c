/- The reference's product and inverse. -/
import Derived.Test.YtkfceloaomlhmaaDoorRows
import Derived.Test.YtkfceloaomlhmaaDoorBase
import Derived.Test.YtkfceloaomlhmaaDoorGf
import Derived.Deep.LoopGhost
set_option linter.unusedSimpArgs false
set_option maxRecDepth 100000
set_option linter.unusedVariables false
namespace Go.Proofs.YtkfceloaomlhmaaDoor
open Go Go.RowKit

theorem conv_BI (x : BitVec 8) (w : World) : (convert 5 3 (B x)).run Tryd.prog w = .ok (.int .i64 (x.toNat : Int)) w := run_convert_BI w _ _ x (by kernel_rfl) (by kernel_rfl)
attribute [local go_sem] conv_BI
theorem bit_le (j : Nat) (h : j ≤ 8) : 2 ^ (j + 7) ≤ 32768 := Nat.pow_le_pow_right (n := 2) (by decide) (show j + 7 ≤ 15 by omega)
theorem half_pos (Y k : Nat) (h : Y < 2 ^ (8 - k)) (hk : k ≤ 8) (h0 : 0 < Y) : k < 8 := by
  rcases Nat.lt_or_ge k 8 with h1 | h1
  · exact h1
  · have : 8 - k = 0 := by omega
    rw [this] at h
    omega
theorem half_lt (Y k : Nat) (h : Y < 2 ^ (8 - k)) (hk : k < 8) : Y / 2 < 2 ^ (8 - (k + 1)) := by
  have : 8 - k = (8 - (k + 1)) + 1 := by omega
  rw [this, Nat.pow_succ] at h
  omega
theorem two_pow_le (a k : Nat) (ha : a < 256) (hk : k < 8) : a * 2 ^ k < 32768 := by
  have : 2 ^ k ≤ 2 ^ 7 := Nat.pow_le_pow_right (by decide) (by omega)
  have h2 : a * 2 ^ k ≤ 255 * 2 ^ 7 := Nat.mul_le_mul (by omega) this
  omega
theorem lt_256 (Y k : Nat) (h : Y < 2 ^ (8 - k)) : Y < 256 := by
  have : 2 ^ (8 - k) ≤ 2 ^ 8 := Nat.pow_le_pow_right (by decide) (by omega)
  omega
set_option maxHeartbeats 2000000 in
theorem refMul_any (a b : BitVec 8) (w : World) :
    Calls Tryd.prog 28 #[B a, B b] w fun e w' => e = .returned (B (gm a b)) ∧ w = w' := by
  have ha := a.isLt
  have hb := b.isLt
  go_enter Tryd.func28, Tryd.ntmps28
  go_wp2
  go_loop [5, 6, 7] (fun n x y => ∃ N Y k : Nat, k ≤ 8 ∧ n = .int .i64 N ∧ x = .int .i64 ((a.toNat * 2 ^ k : Nat) : Int) ∧ y = .int .i64 Y ∧ Y < 2 ^ (8 - k) ∧ N < 65536 ∧
    rd N ^^^ gm (rd (a.toNat * 2 ^ k)) (BitVec.ofNat 8 Y) = gm a b) (fun _ _ y => (intOf y).toNat)
  case atStart =>
    refine ⟨0, b.toNat, 0, by decide, rfl, by simp, rfl, hb, by decide, ?_⟩
    rw [Nat.pow_zero, Nat.mul_one, rd_lo _ ha, rd_lo _ (by decide)]
    simp
  case round =>
    obtain ⟨N, Y, k, hk, rfl, rfl, rfl, hY, hN, hE⟩ := hrel
    have HE := Lib.hid hE
    clear hE
    by_cases h0 : 0 < Y
    · have hk8 := half_pos Y k hY hk h0
      have hX := two_pow_le a.toNat k ha hk8
      have hY2 := Lib.hid (half_lt Y k hY hk8)
      have hY256 := lt_256 Y k hY
      have hXX := Lib.hid (show 2 * (a.toNat * 2 ^ k) = a.toNat * 2 ^ (k + 1) by rw [Nat.pow_succ, Nat.mul_comm 2, Nat.mul_assoc])
      have hd0 : decide ((0 : Int) < (Y : Int)) = true := decide_eq_true (by omega)
      generalize hXe : a.toNat * 2 ^ k = X at *
      have HO := Lib.hid (mul_odd N X Y hX hY256)
      have HV := Lib.hid (mul_even N X Y hX hY256)
      have HX2 := Lib.hid (show (X : Int) * 2 = ((2 * X : Nat) : Int) by simp; omega)
      have HY2 := Lib.hid (show (Y : Int) / 2 = ((Y / 2 : Nat) : Int) by simp)
      have hNX : N ^^^ X < 65536 := Nat.xor_lt_two_pow (n := 16) (by omega) (by omega)
      clear hXe hY
      by_cases ho : Y % 2 = 1
      · have hd1 : ((Y : Int) % 2 == 1) = true := by simp; omega
        have hx : bits .xor .i64 (N : Int) (X : Int) = ((N ^^^ X : Nat) : Int) := i64_xor_nat _ _ (by omega) (by omega)
        have HOO := Lib.hid ho
        clear ho
        go_wp2
        go_round
        case rel =>
          refine ⟨N ^^^ X, Y / 2, k + 1, by omega, rfl, by rw [HX2.out, hXX.out], by rw [HY2.out], hY2.out, hNX, ?_⟩
          rw [← hXX.out, HO.out HOO.out, HE.out]
        case measure => simp [intOf]; omega
      · have hd1 : ((Y : Int) % 2 == 1) = false := by simp; omega
        have HOO := Lib.hid ho
        clear ho
        go_wp2
        go_round
        case rel =>
          refine ⟨N, Y / 2, k + 1, by omega, rfl, by rw [HX2.out, hXX.out], by rw [HY2.out], hY2.out, hN, ?_⟩
          rw [← hXX.out, HV.out HOO.out, HE.out]
        case measure => simp [intOf]; omega
    · obtain rfl : Y = 0 := by omega
      have hE2 : rd N = gm a b := by
        have := HE.out
        rwa [show BitVec.ofNat 8 0 = 0#8 from rfl, gm_zr, BitVec.xor_zero] at this
      have HE2 := Lib.hid hE2
      have hd0 : decide ((0 : Int) < ((0 : Nat) : Int)) = false := rfl
      clear hE2 HE h0 hk hY
      generalize a.toNat * 2 ^ k = X at *
      go_wp2
      go_loop [5, 8] (fun n p => ∃ M j : Nat, j ≤ 8 ∧ n = .int .i64 M ∧ p = .int .i64 ((2 ^ (j + 7) : Nat) : Int) ∧ M < 2 ^ (j + 8) ∧ rd M = gm a b) (fun _ p => (intOf p).toNat)
      case atStart => exact ⟨N, 8, by decide, rfl, rfl, hN, HE2.out⟩
      case round =>
        clear HE2 hN hd0
        obtain ⟨M, j, hj, rfl, rfl, hM, hE⟩ := hrel
        have HE := Lib.hid hE
        clear hE
        cases j with
        | zero =>
          have hd0 : decide ((256 : Int) ≤ ((2 ^ (0 + 7) : Nat) : Int)) = false := rfl
          have hd1 : decide ((256 : Int) ≤ 128) = false := rfl
          have hM2 : M < 256 := hM
          have hfin : Hid (Value.int .u8 (M : Int) = B (gm a b)) := by
            show Value.int .u8 (M : Int) = B (gm a b)
            rw [← HE.out, rd_lo M hM2, B_ofNat M hM2]
          clear hM HE
          simp only [show ((2 ^ (0 + 7) : Nat) : Int) = 128 from rfl]
          go_wp2
          go_ret
          exact ⟨by rw [← hfin.out]; rfl, rfl⟩
        | succ i =>
          have hP := bit_le (i + 1) hj
          have hP0 : 256 ≤ 2 ^ (i + 1 + 7) := Nat.pow_le_pow_right (n := 2) (by decide) (show 8 ≤ i + 1 + 7 by omega)
          have HPH := Lib.hid (show 2 ^ (i + 1 + 7) = 2 * 2 ^ (i + 7) by rw [show i + 1 + 7 = (i + 7) + 1 by omega, Nat.pow_succ, Nat.mul_comm])
          have HPB := Lib.hid (show 285 * (2 ^ (i + 1 + 7) / 256) = 285 * 2 ^ i by rw [show i + 1 + 7 = i + 8 by omega, Nat.pow_add, Nat.mul_div_cancel _ (by decide)])
          have HLT := Lib.hid (red_lt M i (by omega) hM)
          have HEV := Lib.hid (red_even M i hM)
          have HRD := Lib.hid (rd_mod i (by omega))
          have hM16 : M < 65536 := Nat.lt_of_lt_of_le hM (Nat.pow_le_pow_right (n := 2) (by decide) (show i + 1 + 8 ≤ 16 by omega))
          rw [show i + 8 = i + 1 + 7 by omega] at HLT HEV
          generalize hPe : 2 ^ (i + 1 + 7) = P at *
          generalize hQe : 2 ^ (i + 7) = Q at *
          generalize hRe : 285 * 2 ^ i = R at *
          have HPe := Lib.hid hPe
          have HQe := Lib.hid hQe
          clear hPe hQe hM hRe
          have hd0 : decide ((256 : Int) ≤ (P : Int)) = true := decide_eq_true (by omega)
          have hp0 : (0 : Int) < (P : Int) := by omega
          have hp1 : (P : Int) ≤ 32768 := by omega
          have HPQ : Hid ((P : Int) / 2 = (Q : Int)) := by
            have := HPH.out
            show (P : Int) / 2 = (Q : Int)
            omega
          have HQP : Hid (Q < P) := by
            have := HPH.out
            show Q < P
            omega
          have hq0 : (0 : Int) ≤ (M : Int) / (P : Int) := Int.ediv_nonneg (by omega) (by omega)
          have hq1 : (M : Int) / (P : Int) ≤ 65535 := by
            have h1 : M / P ≤ M := Nat.div_le_self M P
            rw [show (M : Int) / (P : Int) = ((M / P : Nat) : Int) by simp]
            omega
          by_cases ho : M / P % 2 = 1
          · have hd1 : ((M : Int) / (P : Int) % 2 == 1) = true := by
              rw [beq_iff_eq, show (M : Int) / (P : Int) = ((M / P : Nat) : Int) by simp]; omega
            have hR : 285 * (P / 256) = R := HPB.out
            have hx : bits .xor .i64 (M : Int) (285 * ((P : Int) / 256)) = ((M ^^^ R : Nat) : Int) := by
              rw [show (285 * ((P : Int) / 256)) = (R : Int) by omega]
              exact i64_xor_nat _ _ (by omega) (by omega)
            have hMR : Hid (M ^^^ R < P ∧ rd (M ^^^ R) = gm a b) := by
              refine ⟨HLT.out ho, ?_⟩
              rw [rd_xor, HRD.out, BitVec.xor_zero, HE.out]
            clear hR ho
            go_wp2
            go_round
            case rel => exact ⟨M ^^^ R, i, by omega, rfl, by rw [HPQ.out, HQe.out], by rw [show i + 8 = i + 1 + 7 by omega, HPe.out]; exact hMR.out.1, hMR.out.2⟩
            case measure => have := HPQ.out; have := HQP.out; simp [intOf]; omega
          · have hd1 : ((M : Int) / (P : Int) % 2 == 1) = false := by
              rw [beq_eq_false_iff_ne, show (M : Int) / (P : Int) = ((M / P : Nat) : Int) by simp]; omega
            have hMR : Hid (M < P) := HEV.out ho
            clear ho
            go_wp2
            go_round
            case rel => exact ⟨M, i, by omega, rfl, by rw [HPQ.out, HQe.out], by rw [show i + 8 = i + 1 + 7 by omega, HPe.out]; exact hMR.out, HE.out⟩
            case measure => have := HPQ.out; have := HQP.out; simp [intOf]; omega
set_option maxHeartbeats 2000000 in
theorem refInv_any (a : BitVec 8) (h : a ≠ 0#8) (w : World) :
    Calls Tryd.prog 39 #[B a] w fun e w' => e = .returned (B (gi a)) ∧ w = w' := by
  have hg := (gi a).isLt
  have hg0 : 1 ≤ (gi a).toNat := by
    have := gi_ne a
    rcases Nat.eq_zero_or_pos (gi a).toNat with h1 | h1
    · exact absurd (BitVec.eq_of_toNat_eq (by simpa using h1)) this
    · exact h1
  have H1 := Lib.hid (gm_gi a h)
  have H2 := Lib.hid (fun b => gi_of a b h)
  have HE := Lib.hid (show BitVec.ofNat 8 (gi a).toNat = gi a by rw [BitVec.ofNat_toNat, BitVec.setWidth_eq])
  clear h
  generalize hG : (gi a).toNat = G at *
  have HG := Lib.hid hG
  clear hG
  go_enter Tryd.func39, Tryd.ntmps39
  go_wp2
  go_loop [3] (fun b => ∃ k : Nat, 1 ≤ k ∧ k ≤ G ∧ b = .int .i64 k) (fun b => 256 - (intOf b).toNat)
  case atStart => exact ⟨1, by decide, hg0, rfl⟩
  case round =>
    obtain ⟨k, hk0, hk, rfl⟩ := hrel
    have hd0 : decide ((k : Int) < 256) = true := decide_eq_true (by omega)
    have hk8 : k < 256 := by omega
    have HB := Lib.hid (B_ofNat k hk8)
    by_cases he : k = G
    · have h1 : gm a (BitVec.ofNat 8 k) = 1#8 := by rw [he, HE.out]; exact H1.out
      have hb : (gm a (BitVec.ofNat 8 k) == 1#8) = true := by rw [h1]; rfl
      have hfin : Hid (Value.int .u8 (k : Int) = B (gi a)) := by
        show Value.int .u8 (k : Int) = B (gi a)
        rw [← HB.out, he, HE.out]
      clear h1 he
      go_wp2_with fail
      rw [← HB.out]
      refine (refMul_any a (BitVec.ofNat 8 k) w).mono ?_
      rintro e w' ⟨rfl, rfl⟩
      go_wp2
      go_ret
      exact ⟨by rw [← hfin.out]; rfl, rfl⟩
    · have hb : (gm a (BitVec.ofNat 8 k) == 1#8) = false := by
        rw [beq_eq_false_iff_ne]
        intro e
        have := H2.out _ e
        apply he
        rw [← HG.out, ← this, BitVec.toNat_ofNat]
        omega
      have hlt : k < G := by omega
      clear he
      go_wp2_with fail
      rw [← HB.out]
      refine (refMul_any a (BitVec.ofNat 8 k) w).mono ?_
      rintro e w' ⟨rfl, rfl⟩
      go_wp2
      go_round
      case rel => exact ⟨k + 1, by omega, by omega, by go_num⟩
      case measure => simp [intOf]; omega
end Go.Proofs.YtkfceloaomlhmaaDoor
