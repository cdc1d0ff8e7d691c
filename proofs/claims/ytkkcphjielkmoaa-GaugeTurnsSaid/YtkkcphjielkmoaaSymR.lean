/- One measure merged into a row in order, from the right (slices.symMergeCmpFunc, the second range of one). -/
import Derived.Test.YtkkcphjielkmoaaInsF
import Derived.Test.YtkkcphjielkmoaaRotF
set_option linter.unusedSimpArgs false
set_option linter.unusedVariables false
namespace Go.Proofs.Ytkkcphjielkmoaa
open Go Go.RowKit

set_option maxRecDepth 1000000 in
set_option maxHeartbeats 8000000 in
theorem sym_r (g n cap a m b : Nat) (d : Nat → Nat) (w : World) (hF : Fr w g n d) (hd : ∀ x, x < n → d x < 18446744073709551616) (ham : a + 1 < m) (hm : b = m + 1) (hb : b ≤ n) (hn : n < 100000000) (hS : Srt rk d a m) :
    Calls Try.prog 34 #[.slice (some ⟨g, 0, none⟩) n cap, .int .i64 a, .int .i64 m, .int .i64 b, .func (.func 22) #[] #[]] w fun e w' => e = .returned (.tuple #[]) ∧ ∃ d', Fr w' g n d' ∧ PI a b d d' ∧ Srt rk d' a b ∧ Kp g w w' := by
  have HF := Lib.hid hF
  have HD := Lib.hid hd
  have HS := Lib.hid hS
  have HM := Lib.hid hm
  have w1 : wrap64 ((m : Int) - (a : Int)) = (m : Int) - (a : Int) := by unfold wrap64; omega
  have w2 : ((m : Int) - (a : Int) == 1) = false := by simp; omega
  have w3 : wrap64 ((b : Int) - (m : Int)) = (b : Int) - (m : Int) := by unfold wrap64; omega
  have w4 : ((b : Int) - (m : Int) == 1) = true := by simp; omega
  clear hF hd hS hm
  go_enter Try.func34, Try.ntmps34
  go_wp2
  go_loopw [14, 15] (fun vi vj wr => ∃ (i j : Nat), a ≤ i ∧ i ≤ j ∧ j ≤ m ∧ vi = .int .i64 i ∧ vj = .int .i64 j ∧ Fr wr g n d ∧ (∀ x, a ≤ x → x < i → rk (d x) ≤ rk (d m)) ∧ (∀ y, j ≤ y → y < m → rk (d m) ≤ rk (d y)) ∧ Kp g w wr) (fun vi vj _ => (intOf vj).toNat - (intOf vi).toNat)
  case atStart => exact ⟨a, m, Nat.le_refl _, by omega, Nat.le_refl _, rfl, rfl, HF.out, (fun x h1 h2 => by omega), (fun y h1 h2 => by omega), Kp.refl _ _⟩
  case round =>
    obtain ⟨i, j, hmi, hij, hjb, rfl, rfl, hF, hL, hR, hK⟩ := hrel
    clear HF
    have HF := Lib.hid hF
    have HL := Lib.hid hL
    have HR := Lib.hid hR
    have HK := Lib.hid hK
    clear hF hL hR hK
    by_cases hlt : i < j
    · have hltz : (i : Int) < (j : Int) := by omega
      obtain ⟨h, hh⟩ : ∃ h, h = (i + j) / 2 := ⟨_, rfl⟩
      have hhz : ((i : Int) + (j : Int)) / 2 = (h : Int) := by omega
      have b1 : i ≤ h ∧ h < j := by omega
      clear hh
      have hmb : m < b := by have := HM.out; omega
      have q1 : (h : Int) < (n : Int) := by omega
      have q2 : (m : Int) < (n : Int) := by omega
      have x1 := HF.out.cell h (by omega)
      have x2 := HF.out.cell m (by omega)
      have HQ := Lib.hid (ordQ (d m) (d h) (HD.out m (by omega)) (HD.out h (by omega)))
      have hlt0 := ordM_lt (d m) (d h)
      by_cases hc : rk (d m) < rk (d h)
      · rw [decide_eq_true hc] at hlt0
        have HR2 := Lib.hid (show ∀ y, h ≤ y → y < m → rk (d m) ≤ rk (d y) from fun y h1 h2 => by
          have := HS.out.le h y (by omega) h1 h2
          omega)
        clear hc HR
        obtain ⟨xa, hxa⟩ : ∃ x, d h = x := ⟨_, rfl⟩
        obtain ⟨xb, hxb⟩ : ∃ x, d m = x := ⟨_, rfl⟩
        rw [hxa] at x1 HQ hlt0
        rw [hxb] at x2 HQ hlt0
        clear hxa hxb
        go_wp2_with fail
        go_quiet ((go_at_call 22; exact HQ.out _ _))
        have HF1 := Lib.hid (HF.out.dr ⟨nq, rfl⟩)
        have HK1 := Lib.hid (HK.out.drewN nq)
        clear x1 x2 HQ hlt0 HF HK hhz
        generalize wr.drewN nq = W1 at *
        go_wp2
        go_roundw
        case rel => exact ⟨i, h, hmi, by omega, by omega, rfl, by go_num, HF1.out, HL.out, HR2.out, HK1.out⟩
        case measure => simp [intOf]; omega
      · rw [decide_eq_false hc] at hlt0
        have HL2 := Lib.hid (show ∀ x, a ≤ x → x < h + 1 → rk (d x) ≤ rk (d m) from fun x h1 h2 => by
          have := HS.out.le x h h1 (by omega) (by omega)
          omega)
        clear hc HL
        obtain ⟨xa, hxa⟩ : ∃ x, d h = x := ⟨_, rfl⟩
        obtain ⟨xb, hxb⟩ : ∃ x, d m = x := ⟨_, rfl⟩
        rw [hxa] at x1 HQ hlt0
        rw [hxb] at x2 HQ hlt0
        clear hxa hxb
        go_wp2_with fail
        go_quiet ((go_at_call 22; exact HQ.out _ _))
        have HF1 := Lib.hid (HF.out.dr ⟨nq, rfl⟩)
        have HK1 := Lib.hid (HK.out.drewN nq)
        clear x1 x2 HQ hlt0 HF HK hhz
        generalize wr.drewN nq = W1 at *
        go_wp2
        go_roundw
        case rel => exact ⟨h + 1, j, by omega, by omega, hjb, by go_num, rfl, HF1.out, HL2.out, HR.out, HK1.out⟩
        case measure => simp [intOf]; omega
    · have hltz : ¬ (i : Int) < (j : Int) := by omega
      obtain rfl : i = j := by omega
      have HFIN := Lib.hid (show Srt rk (Rot d i m (m + 1)) a b from by rw [HM.out]; exact put_right HS.out hmi hjb HL.out HR.out)
      clear HL HR
      go_wp2
      go_loopw [17] (fun vk wr => ∃ (k : Nat), i ≤ k ∧ k ≤ m ∧ vk = .int .i64 k ∧ Fr wr g n (Rot d k m (m + 1)) ∧ PI a b d (Rot d k m (m + 1)) ∧ Kp g w wr) (fun vk _ => (intOf vk).toNat)
      case atStart => exact ⟨m, hjb, Nat.le_refl _, rfl, by rw [rot_r0]; exact HF.out, by rw [rot_r0]; exact .refl, HK.out⟩
      case round =>
        obtain ⟨k, hak, hki, rfl, hF, hP, hK⟩ := hrel
        clear HF HK
        have HF := Lib.hid hF
        have HP := Lib.hid hP
        have HK := Lib.hid hK
        clear hF hP hK
        by_cases hlt : i < k
        · obtain ⟨q, rfl⟩ : ∃ q, k = q + 1 := ⟨k - 1, by omega⟩
          have hltz : (i : Int) < ((q + 1 : Nat) : Int) := by omega
          have hmb : m < b := by have := HM.out; omega
          have r1 : IntKind.i64.wrap ((q : Int) + 1 - 1) = (q : Int) := by rw [IntWalk.i64_in _ (by omega)]; omega
          have r1b : (q : Int) + 1 - 1 = (q : Int) := by omega
          have r5 : (q : Int) + 1 < (n : Int) := by omega
          have r6 : (q : Int) < (n : Int) := by omega
          have r7 : ((q : Int) + 1).toNat = q + 1 := by omega
          have r8 : (0 : Int) ≤ (q : Int) + 1 := by omega
          have x1 := HF.out.cell (q + 1) (by omega)
          have x2 := HF.out.cell q (by omega)
          have f1 : ∀ j, wr.frozen? ⟨g, j, none⟩ = false := HF.out.free
          have S := (HF.out.sw (q + 1) q).dr (Dr.refl _).drew
          rw [rot_r1 d m q hki] at S
          have HP2 := Lib.hid (show PI a b d (Rot d q m (m + 1)) from by rw [← rot_r1 d m q hki]; exact HP.out.step (by omega) (by omega) (by omega) (by omega))
          generalize Rot d (q + 1) m (m + 1) (q + 1) = xa at *
          generalize Rot d (q + 1) m (m + 1) q = xb at *
          obtain ⟨v3, x3⟩ : ∃ v, (wr.setCell ⟨g, q + 1, none⟩ (.float .f64 xb)).cell? ⟨g, q, none⟩ = some v := ⟨_, (Row.set HF.out (q + 1) _).cell q (by omega)⟩
          have HS2 := Lib.hid (((HK.out.setCell (q + 1) (.float .f64 xb)).setCell q (.float .f64 xa)).drewN 1)
          rw [show ∀ z : World, z.drewN 1 = z.drew from fun _ => rfl] at HS2
          have S := Lib.hid S
          clear HF HK HP
          go_wp2
          go_region
          clear x1 x2 x3 f1
          generalize ((wr.setCell ⟨g, q + 1, none⟩ (.float .f64 xb)).setCell ⟨g, q, none⟩ (.float .f64 xa)).drew = W2 at *
          go_wp2
          go_roundw
          case rel => exact ⟨q, by omega, by omega, by go_num, S.out, HP2.out, HS2.out⟩
          case measure => simp [intOf] <;> omega
        · have hltz : ¬ (i : Int) < (k : Int) := by omega
          obtain rfl : i = k := by omega
          go_wp2
          refine bodyPost_ret (results_none rfl _ _ _) rfl ?_
          exact ⟨rfl, _, HF.out, HP.out, HFIN.out, HK.out⟩
end Go.Proofs.Ytkkcphjielkmoaa
