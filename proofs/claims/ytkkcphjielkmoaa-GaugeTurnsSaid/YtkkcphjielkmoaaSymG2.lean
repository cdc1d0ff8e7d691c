/- Two ranges of measures in order merged (slices.symMergeCmpFunc): the middle lies in the second. -/
import Derived.Test.YtkkcphjielkmoaaSymG
set_option linter.unusedSimpArgs false
set_option linter.unusedVariables false
namespace Go.Proofs.Ytkkcphjielkmoaa
open Go Go.RowKit

set_option maxRecDepth 1000000 in
set_option maxHeartbeats 8000000 in
theorem sym_g2 (g n cap a m b : Nat) (d : Nat → Nat) (w : World) (IH : SymOk g n cap (b - a - 1)) (hF : Fr w g n d) (hd : ∀ x, x < n → d x < 18446744073709551616) (ham : a + 1 < m) (hmb : m + 1 < b) (hb : b ≤ n) (hn : n < 100000000) (hS1 : Srt rk d a m) (hS2 : Srt rk d m b) (hgt0 : ¬ (a + b) / 2 < m) :
    Calls Try.prog 34 #[.slice (some ⟨g, 0, none⟩) n cap, .int .i64 a, .int .i64 m, .int .i64 b, .func (.func 22) #[] #[]] w fun e w' => e = .returned (.tuple #[]) ∧ ∃ d', Fr w' g n d' ∧ PI a b d d' ∧ Srt rk d' a b ∧ Kp g w w' := by
  have HIH := Lib.hid IH
  have HF := Lib.hid hF
  have HD := Lib.hid hd
  have HS1 := Lib.hid hS1
  have HS2 := Lib.hid hS2
  have w1 : wrap64 ((m : Int) - (a : Int)) = (m : Int) - (a : Int) := wr64 _ (by omega) (by omega)
  have w2 : ((m : Int) - (a : Int) == 1) = false := by simp; omega
  have w3 : wrap64 ((b : Int) - (m : Int)) = (b : Int) - (m : Int) := wr64 _ (by omega) (by omega)
  have w4 : ((b : Int) - (m : Int) == 1) = false := by simp; omega
  obtain ⟨mid, hmid⟩ : ∃ mid, mid = (a + b) / 2 := ⟨_, rfl⟩
  have hmz : ((a : Int) + (b : Int)) / 2 = (mid : Int) := by omega
  have HM := Lib.hid hmid
  have bm : a < mid ∧ mid < b := by omega
  clear IH hF hd hS1 hS2 hmid
  have hgt : ¬ mid < m := by have := HM.out; omega
  clear hgt0
  have hgz : ¬ (mid : Int) < (m : Int) := by omega
  have hgd : decide ((mid : Int) < (m : Int)) = false := decide_eq_false hgz
  obtain ⟨s0, hs0⟩ : ∃ s0, s0 = a := ⟨_, rfl⟩
  obtain ⟨r0, hr0⟩ : ∃ r0, r0 = m := ⟨_, rfl⟩
  have HS0 := Lib.hid (show s0 = if mid < m then mid + m - b else a by rw [if_neg hgt]; exact hs0)
  have HR0 := Lib.hid (show r0 = if mid < m then mid else m by rw [if_neg hgt]; exact hr0)
  have zz : 2 * mid ≤ a + b := by have := HM.out; omega
  have z1 : a ≤ s0 := by omega
  have z2 : r0 ≤ m := by omega
  have z3 : r0 ≤ mid := by omega
  have z4 : mid + m ≤ b + s0 := by omega
  have v2 : wrap64 ((mid : Int) + (m : Int) - 1) = (mid : Int) + (m : Int) - 1 := wr64 _ (by omega) (by omega)
  go_enter Try.func34, Try.ntmps34
  go_wp2
  go_loopw [20, 21] (fun vi vj wr => ∃ (s r : Nat), Mid d a m b mid s0 r0 s r ∧ vi = .int .i64 s ∧ vj = .int .i64 r ∧ Fr wr g n d ∧ Kp g w wr) (fun vi vj _ => (intOf vj).toNat - (intOf vi).toNat)
  case atStart => exact ⟨s0, r0, ⟨Nat.le_refl _, by omega, Nat.le_refl _, fun c h1 h2 => by omega, fun c h1 h2 => by omega⟩, by go_num, by go_num, HF.out, Kp.refl _ _⟩
  case round =>
    obtain ⟨s, r, hM, rfl, rfl, hF, hK⟩ := hrel
    clear HF
    have HF := Lib.hid hF
    have HK := Lib.hid hK
    have HI := Lib.hid hM
    have i1 := hM.lo
    have i2 := hM.le
    have i3 := hM.hi
    clear hF hK hM w1 w2 w3 w4 v2 hmz hgz hgd
    by_cases hlt : s < r
    · have hltz : (s : Int) < (r : Int) := by omega
      obtain ⟨c, hh⟩ : ∃ c, c = (s + r) / 2 := ⟨_, rfl⟩
      have hcz : ((s : Int) + (r : Int)) / 2 = (c : Int) := by omega
      have b1 : s ≤ c ∧ c < r := by omega
      clear hh
      obtain ⟨f, hf⟩ : ∃ f, f = mid + m - 1 - c := ⟨_, rfl⟩
      have fb : m ≤ f ∧ f < b := by omega
      have q0 : IntKind.i64.wrap ((mid : Int) + (m : Int) - 1 - (c : Int)) = (mid : Int) + (m : Int) - 1 - (c : Int) := IntWalk.i64_in _ (by omega)
      have q1 : (mid : Int) + (m : Int) - 1 - (c : Int) < (n : Int) := by omega
      have q2 : 0 ≤ (mid : Int) + (m : Int) - 1 - (c : Int) := by omega
      have q3 : ((mid : Int) + (m : Int) - 1 - (c : Int)).toNat = f := by omega
      have q4 : (c : Int) < (n : Int) := by omega
      have x1 := HF.out.cell f (by omega)
      have x2 := HF.out.cell c (by omega)
      have HQ := Lib.hid (ordQ (d f) (d c) (HD.out f (by omega)) (HD.out c (by omega)))
      have hlt0 := ordM_lt (d f) (d c)
      have HC1 := Lib.hid (fun g => HI.out.up HS1.out HS2.out z1 z2 z3 z4 b1.1 b1.2 (show ¬ rk (d (mid + m - 1 - c)) < rk (d c) from by rw [← hf]; exact g))
      have HC2 := Lib.hid (fun g => HI.out.down HS1.out HS2.out z1 z2 z3 z4 b1.1 b1.2 (show rk (d (mid + m - 1 - c)) < rk (d c) from by rw [← hf]; exact g))
      clear hf
      by_cases hc : rk (d f) < rk (d c)
      · rw [decide_eq_true hc] at hlt0
        have HI2 := Lib.hid (HC2.out hc)
        clear hc HC1 HC2 HI
        obtain ⟨xa, hxa⟩ : ∃ x, d f = x := ⟨_, rfl⟩
        obtain ⟨xb, hxb⟩ : ∃ x, d c = x := ⟨_, rfl⟩
        rw [hxa] at x1 HQ hlt0
        rw [hxb] at x2 HQ hlt0
        clear hxa hxb
        go_wp2_with fail
        go_quiet ((go_at_call 22; exact HQ.out _ _))
        have HF1 := Lib.hid (HF.out.dr ⟨nq, rfl⟩)
        have HK1 := Lib.hid (HK.out.drewN nq)
        clear x1 x2 HQ hlt0 HF HK hcz q0 q1 q2 q3
        generalize wr.drewN nq = W1 at *
        go_wp2
        go_roundw
        case rel => exact ⟨s, c, HI2.out, rfl, by go_num, HF1.out, HK1.out⟩
        case measure => simp [intOf] <;> omega
      · rw [decide_eq_false hc] at hlt0
        have HI2 := Lib.hid (HC1.out hc)
        clear hc HC1 HC2 HI
        obtain ⟨xa, hxa⟩ : ∃ x, d f = x := ⟨_, rfl⟩
        obtain ⟨xb, hxb⟩ : ∃ x, d c = x := ⟨_, rfl⟩
        rw [hxa] at x1 HQ hlt0
        rw [hxb] at x2 HQ hlt0
        clear hxa hxb
        go_wp2_with fail
        go_quiet ((go_at_call 22; exact HQ.out _ _))
        have HF1 := Lib.hid (HF.out.dr ⟨nq, rfl⟩)
        have HK1 := Lib.hid (HK.out.drewN nq)
        clear x1 x2 HQ hlt0 HF HK hcz q0 q1 q2 q3
        generalize wr.drewN nq = W1 at *
        go_wp2
        go_roundw
        case rel => exact ⟨c + 1, r, HI2.out, by go_num, rfl, HF1.out, HK1.out⟩
        case measure => simp [intOf] <;> omega
    · have hltz : ¬ (s : Int) < (r : Int) := by omega
      obtain rfl : s = r := by omega
      obtain ⟨e, hee⟩ : ∃ e, e = mid + m - s := ⟨_, rfl⟩
      have v3 : wrap64 ((mid : Int) + (m : Int) - (s : Int)) = (mid : Int) + (m : Int) - (s : Int) := wr64 _ (by omega) (by omega)
      have v4 : (mid : Int) + (m : Int) - (s : Int) = (e : Int) := by omega
      obtain ⟨k1, k2, k3, k4, k5, x1, x2⟩ := sym_cross HS1.out HS2.out mid HM.out (show a < m by omega) (show m < b by omega) HS0.out HR0.out HI.out.lo HI.out.hi HI.out.c1 HI.out.c2 hee
      have P := rot_parts HS1.out HS2.out k1 k2 k3 k4
      rw [k5] at P
      have P := Lib.hid P
      have X := rot_cross HS1.out HS2.out k1 k2 k3 k4 x1 x2
      rw [k5] at X
      have X := Lib.hid X
      have he1 : e + s ≤ mid + m := by omega
      have he2 : mid + m ≤ e + s := by omega
      clear x1 x2 HS1 HS2 HI HS0 HR0 hee k5
      by_cases y1 : m ≤ s
      · have y2 : e ≤ mid := by omega
        by_cases y3 : m < mid
        · have t1 : decide ((s : Int) < (m : Int)) = false := decide_eq_false (by omega)
          have t1z : ¬ (s : Int) < (m : Int) := by omega
          have t3 : decide ((a : Int) < (s : Int)) = true := decide_eq_true (by omega)
          have t3z : (a : Int) < (s : Int) := by omega
          have t4 : decide ((s : Int) < (mid : Int)) = true := decide_eq_true (by omega)
          have t4z : (s : Int) < (mid : Int) := by omega
          have t5 : decide ((mid : Int) < (e : Int)) = false := decide_eq_false (by omega)
          have t5z : ¬ (mid : Int) < (e : Int) := by omega
          have HF1 := Lib.hid (show Fr wr g n (Rot d s m e) from by rw [rot_none d s m e (by omega) k2 k3]; exact HF.out)
          have HK1 := Lib.hid HK.out
          have HH := Lib.hid (show Half d (Rot d s m e) a b mid s e from ⟨by rw [rot_none d s m e (by omega) k2 k3]; exact .refl, P.out.1, P.out.2.1, P.out.2.2.1, P.out.2.2.2, X.out, k1, by omega, by omega, k4⟩)
          clear HF HK
          clear P X
          have HD1 := Lib.hid (fun x hx => HH.out.pi.any (P := (· < 18446744073709551616)) hb HD.out x hx)
          generalize Rot d s m e = d1 at *
          go_wp2_with fail
          refine (HIH.out a s mid _ _ _ d1 _ (by omega) (by omega) (by omega) HF1.out HD1.out (by omega) (by omega) (by omega) (by omega) HH.out.l1 HH.out.l2).mono ?_
          rintro e2 w2 ⟨rfl, d2, hF2, hP2, hS2, hK2⟩
          have HF2 := Lib.hid hF2
          have HK2 := Lib.hid (HK1.out.trans hK2)
          have HP2 := Lib.hid hP2
          have HL := Lib.hid hS2
          clear hF2 hK2 hP2 hS2
          have HQ := Lib.hid (HH.out.left HP2.out HL.out)
          have HD2 := Lib.hid (fun x hx => HP2.out.any (P := (· < 18446744073709551616)) (show mid ≤ n by omega) HD1.out x hx)
          clear HF1 HK1 HP2 HD1
          obtain ⟨d3, hd3⟩ : ∃ d3, d3 = d2 := ⟨_, rfl⟩
          have HF3 := Lib.hid (show Fr _ g n d3 from by rw [hd3]; exact HF2.out)
          have HK3 := Lib.hid HK2.out
          have HP3 := Lib.hid (show PI mid b d2 d3 from by rw [hd3]; exact .refl)
          have HR3 := Lib.hid (show Srt rk d3 mid b from by
            rw [hd3]
            have r1 := HQ.out.2.1
            have r2 := HQ.out.2.2.1
            first | (rw [show e = mid by omega] at r2; exact r2) | (rw [show e = b by omega] at r1; exact r1))
          clear hd3
          go_wp2
          go_end0
          exact ⟨rfl, d3, HF3.out, HQ.out.1.trans (HP3.out.mono (by omega) (Nat.le_refl _)), cross_right (by omega) HL.out HQ.out.2.2.2 HP3.out HR3.out, HK3.out⟩
        · have t1 : decide ((s : Int) < (m : Int)) = false := decide_eq_false (by omega)
          have t1z : ¬ (s : Int) < (m : Int) := by omega
          have t3 : decide ((a : Int) < (s : Int)) = true := decide_eq_true (by omega)
          have t3z : (a : Int) < (s : Int) := by omega
          have t4 : decide ((s : Int) < (mid : Int)) = false := decide_eq_false (by omega)
          have t4z : ¬ (s : Int) < (mid : Int) := by omega
          have t5 : decide ((mid : Int) < (e : Int)) = false := decide_eq_false (by omega)
          have t5z : ¬ (mid : Int) < (e : Int) := by omega
          have HF1 := Lib.hid (show Fr wr g n (Rot d s m e) from by rw [rot_none d s m e (by omega) k2 k3]; exact HF.out)
          have HK1 := Lib.hid HK.out
          have HH := Lib.hid (show Half d (Rot d s m e) a b mid s e from ⟨by rw [rot_none d s m e (by omega) k2 k3]; exact .refl, P.out.1, P.out.2.1, P.out.2.2.1, P.out.2.2.2, X.out, k1, by omega, by omega, k4⟩)
          clear HF HK
          clear P X
          have HD1 := Lib.hid (fun x hx => HH.out.pi.any (P := (· < 18446744073709551616)) hb HD.out x hx)
          generalize Rot d s m e = d1 at *
          obtain ⟨d2, hd2⟩ : ∃ d2, d2 = d1 := ⟨_, rfl⟩
          have HF2 := Lib.hid (show Fr _ g n d2 from by rw [hd2]; exact HF1.out)
          have HK2 := Lib.hid HK1.out
          have HP2 := Lib.hid (show PI a mid d1 d2 from by rw [hd2]; exact .refl)
          have HL := Lib.hid (show Srt rk d2 a mid from by
            rw [hd2]
            have l1 := HH.out.l1
            have l2 := HH.out.l2
            first | (rw [show s = mid by omega] at l1; exact l1) | (rw [show s = a by omega] at l2; exact l2))
          clear hd2
          have HQ := Lib.hid (HH.out.left HP2.out HL.out)
          have HD2 := Lib.hid (fun x hx => HP2.out.any (P := (· < 18446744073709551616)) (show mid ≤ n by omega) HD1.out x hx)
          clear HF1 HK1 HP2 HD1
          obtain ⟨d3, hd3⟩ : ∃ d3, d3 = d2 := ⟨_, rfl⟩
          have HF3 := Lib.hid (show Fr _ g n d3 from by rw [hd3]; exact HF2.out)
          have HK3 := Lib.hid HK2.out
          have HP3 := Lib.hid (show PI mid b d2 d3 from by rw [hd3]; exact .refl)
          have HR3 := Lib.hid (show Srt rk d3 mid b from by
            rw [hd3]
            have r1 := HQ.out.2.1
            have r2 := HQ.out.2.2.1
            first | (rw [show e = mid by omega] at r2; exact r2) | (rw [show e = b by omega] at r1; exact r1))
          clear hd3
          go_wp2
          go_end0
          exact ⟨rfl, d3, HF3.out, HQ.out.1.trans (HP3.out.mono (by omega) (Nat.le_refl _)), cross_right (by omega) HL.out HQ.out.2.2.2 HP3.out HR3.out, HK3.out⟩
      have y2 : m < e := by omega
      have y3 : s < mid := by omega
      by_cases y4 : a < s
      · have y5 : e < b := by omega
        have t1 : decide ((s : Int) < (m : Int)) = true := decide_eq_true (by omega)
        have t1z : (s : Int) < (m : Int) := by omega
        have t2 : decide ((m : Int) < (e : Int)) = true := decide_eq_true (by omega)
        have t2z : (m : Int) < (e : Int) := by omega
        have t3 : decide ((a : Int) < (s : Int)) = true := decide_eq_true (by omega)
        have t3z : (a : Int) < (s : Int) := by omega
        have t4 : decide ((s : Int) < (mid : Int)) = true := decide_eq_true (by omega)
        have t4z : (s : Int) < (mid : Int) := by omega
        have t5 : decide ((mid : Int) < (e : Int)) = true := decide_eq_true (by omega)
        have t5z : (mid : Int) < (e : Int) := by omega
        have t6 : decide ((e : Int) < (b : Int)) = true := decide_eq_true (by omega)
        have t6z : (e : Int) < (b : Int) := by omega
        go_wp2_with fail
        refine (rot_z g n cap s m e _ _ _ (by omega) (by omega) (by omega) d wr _ HF.out (by omega) (by omega) (by omega) hn).mono ?_
        rintro e1 w1 ⟨rfl, hF1, hP1, hK1⟩
        have HF1 := Lib.hid hF1
        have HK1 := Lib.hid (HK.out.trans hK1)
        have HH := Lib.hid (show Half d (Rot d s m e) a b mid s e from ⟨hP1.mono k1 k4, P.out.1, P.out.2.1, P.out.2.2.1, P.out.2.2.2, X.out, k1, by omega, by omega, k4⟩)
        clear hF1 hK1 hP1 HF HK
        clear P X
        have HD1 := Lib.hid (fun x hx => HH.out.pi.any (P := (· < 18446744073709551616)) hb HD.out x hx)
        generalize Rot d s m e = d1 at *
        go_wp2_with fail
        refine (HIH.out a s mid _ _ _ d1 _ (by omega) (by omega) (by omega) HF1.out HD1.out (by omega) (by omega) (by omega) (by omega) HH.out.l1 HH.out.l2).mono ?_
        rintro e2 w2 ⟨rfl, d2, hF2, hP2, hS2, hK2⟩
        have HF2 := Lib.hid hF2
        have HK2 := Lib.hid (HK1.out.trans hK2)
        have HP2 := Lib.hid hP2
        have HL := Lib.hid hS2
        clear hF2 hK2 hP2 hS2
        have HQ := Lib.hid (HH.out.left HP2.out HL.out)
        have HD2 := Lib.hid (fun x hx => HP2.out.any (P := (· < 18446744073709551616)) (show mid ≤ n by omega) HD1.out x hx)
        clear HF1 HK1 HP2 HD1
        go_wp2_with fail
        refine (HIH.out mid e b _ _ _ d2 _ (by omega) (by omega) (by omega) HF2.out HD2.out (by omega) (by omega) (by omega) (by omega) HQ.out.2.1 HQ.out.2.2.1).mono ?_
        rintro e3 w3 ⟨rfl, d3, hF3, hP3, hS3, hK3⟩
        have HF3 := Lib.hid hF3
        have HK3 := Lib.hid (HK2.out.trans hK3)
        have HP3 := Lib.hid hP3
        have HR3 := Lib.hid hS3
        clear hF3 hK3 hP3 hS3
        go_wp2
        go_end0
        exact ⟨rfl, d3, HF3.out, HQ.out.1.trans (HP3.out.mono (by omega) (Nat.le_refl _)), cross_right (by omega) HL.out HQ.out.2.2.2 HP3.out HR3.out, HK3.out⟩
      · by_cases y5 : e < b
        · have t1 : decide ((s : Int) < (m : Int)) = true := decide_eq_true (by omega)
          have t1z : (s : Int) < (m : Int) := by omega
          have t2 : decide ((m : Int) < (e : Int)) = true := decide_eq_true (by omega)
          have t2z : (m : Int) < (e : Int) := by omega
          have t3 : decide ((a : Int) < (s : Int)) = false := decide_eq_false (by omega)
          have t3z : ¬ (a : Int) < (s : Int) := by omega
          have t5 : decide ((mid : Int) < (e : Int)) = true := decide_eq_true (by omega)
          have t5z : (mid : Int) < (e : Int) := by omega
          have t6 : decide ((e : Int) < (b : Int)) = true := decide_eq_true (by omega)
          have t6z : (e : Int) < (b : Int) := by omega
          go_wp2_with fail
          refine (rot_z g n cap s m e _ _ _ (by omega) (by omega) (by omega) d wr _ HF.out (by omega) (by omega) (by omega) hn).mono ?_
          rintro e1 w1 ⟨rfl, hF1, hP1, hK1⟩
          have HF1 := Lib.hid hF1
          have HK1 := Lib.hid (HK.out.trans hK1)
          have HH := Lib.hid (show Half d (Rot d s m e) a b mid s e from ⟨hP1.mono k1 k4, P.out.1, P.out.2.1, P.out.2.2.1, P.out.2.2.2, X.out, k1, by omega, by omega, k4⟩)
          clear hF1 hK1 hP1 HF HK
          clear P X
          have HD1 := Lib.hid (fun x hx => HH.out.pi.any (P := (· < 18446744073709551616)) hb HD.out x hx)
          generalize Rot d s m e = d1 at *
          obtain ⟨d2, hd2⟩ : ∃ d2, d2 = d1 := ⟨_, rfl⟩
          have HF2 := Lib.hid (show Fr _ g n d2 from by rw [hd2]; exact HF1.out)
          have HK2 := Lib.hid HK1.out
          have HP2 := Lib.hid (show PI a mid d1 d2 from by rw [hd2]; exact .refl)
          have HL := Lib.hid (show Srt rk d2 a mid from by
            rw [hd2]
            have l1 := HH.out.l1
            have l2 := HH.out.l2
            first | (rw [show s = mid by omega] at l1; exact l1) | (rw [show s = a by omega] at l2; exact l2))
          clear hd2
          have HQ := Lib.hid (HH.out.left HP2.out HL.out)
          have HD2 := Lib.hid (fun x hx => HP2.out.any (P := (· < 18446744073709551616)) (show mid ≤ n by omega) HD1.out x hx)
          clear HF1 HK1 HP2 HD1
          go_wp2_with fail
          refine (HIH.out mid e b _ _ _ d2 _ (by omega) (by omega) (by omega) HF2.out HD2.out (by omega) (by omega) (by omega) (by omega) HQ.out.2.1 HQ.out.2.2.1).mono ?_
          rintro e3 w3 ⟨rfl, d3, hF3, hP3, hS3, hK3⟩
          have HF3 := Lib.hid hF3
          have HK3 := Lib.hid (HK2.out.trans hK3)
          have HP3 := Lib.hid hP3
          have HR3 := Lib.hid hS3
          clear hF3 hK3 hP3 hS3
          go_wp2
          go_end0
          exact ⟨rfl, d3, HF3.out, HQ.out.1.trans (HP3.out.mono (by omega) (Nat.le_refl _)), cross_right (by omega) HL.out HQ.out.2.2.2 HP3.out HR3.out, HK3.out⟩
        · have t1 : decide ((s : Int) < (m : Int)) = true := decide_eq_true (by omega)
          have t1z : (s : Int) < (m : Int) := by omega
          have t2 : decide ((m : Int) < (e : Int)) = true := decide_eq_true (by omega)
          have t2z : (m : Int) < (e : Int) := by omega
          have t3 : decide ((a : Int) < (s : Int)) = false := decide_eq_false (by omega)
          have t3z : ¬ (a : Int) < (s : Int) := by omega
          have t5 : decide ((mid : Int) < (e : Int)) = true := decide_eq_true (by omega)
          have t5z : (mid : Int) < (e : Int) := by omega
          have t6 : decide ((e : Int) < (b : Int)) = false := decide_eq_false (by omega)
          have t6z : ¬ (e : Int) < (b : Int) := by omega
          go_wp2_with fail
          refine (rot_z g n cap s m e _ _ _ (by omega) (by omega) (by omega) d wr _ HF.out (by omega) (by omega) (by omega) hn).mono ?_
          rintro e1 w1 ⟨rfl, hF1, hP1, hK1⟩
          have HF1 := Lib.hid hF1
          have HK1 := Lib.hid (HK.out.trans hK1)
          have HH := Lib.hid (show Half d (Rot d s m e) a b mid s e from ⟨hP1.mono k1 k4, P.out.1, P.out.2.1, P.out.2.2.1, P.out.2.2.2, X.out, k1, by omega, by omega, k4⟩)
          clear hF1 hK1 hP1 HF HK
          clear P X
          have HD1 := Lib.hid (fun x hx => HH.out.pi.any (P := (· < 18446744073709551616)) hb HD.out x hx)
          generalize Rot d s m e = d1 at *
          obtain ⟨d2, hd2⟩ : ∃ d2, d2 = d1 := ⟨_, rfl⟩
          have HF2 := Lib.hid (show Fr _ g n d2 from by rw [hd2]; exact HF1.out)
          have HK2 := Lib.hid HK1.out
          have HP2 := Lib.hid (show PI a mid d1 d2 from by rw [hd2]; exact .refl)
          have HL := Lib.hid (show Srt rk d2 a mid from by
            rw [hd2]
            have l1 := HH.out.l1
            have l2 := HH.out.l2
            first | (rw [show s = mid by omega] at l1; exact l1) | (rw [show s = a by omega] at l2; exact l2))
          clear hd2
          have HQ := Lib.hid (HH.out.left HP2.out HL.out)
          have HD2 := Lib.hid (fun x hx => HP2.out.any (P := (· < 18446744073709551616)) (show mid ≤ n by omega) HD1.out x hx)
          clear HF1 HK1 HP2 HD1
          obtain ⟨d3, hd3⟩ : ∃ d3, d3 = d2 := ⟨_, rfl⟩
          have HF3 := Lib.hid (show Fr _ g n d3 from by rw [hd3]; exact HF2.out)
          have HK3 := Lib.hid HK2.out
          have HP3 := Lib.hid (show PI mid b d2 d3 from by rw [hd3]; exact .refl)
          have HR3 := Lib.hid (show Srt rk d3 mid b from by
            rw [hd3]
            have r1 := HQ.out.2.1
            have r2 := HQ.out.2.2.1
            first | (rw [show e = mid by omega] at r2; exact r2) | (rw [show e = b by omega] at r1; exact r1))
          clear hd3
          go_wp2
          go_end0
          exact ⟨rfl, d3, HF3.out, HQ.out.1.trans (HP3.out.mono (by omega) (Nat.le_refl _)), cross_right (by omega) HL.out HQ.out.2.2.2 HP3.out HR3.out, HK3.out⟩
end Go.Proofs.Ytkkcphjielkmoaa
