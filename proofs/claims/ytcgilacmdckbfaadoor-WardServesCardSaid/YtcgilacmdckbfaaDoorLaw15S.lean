/- WardServes. -/
import Derived.Test.YtcgilacmdckbfaaDoorAwk15
import Derived.Test.YtcgilacmdckbfaaDoorAct15
set_option linter.unusedSimpArgs false
set_option maxRecDepth 100000
set_option linter.unusedVariables false
namespace Go.Proofs.YtcgilacmdckbfaaDoor
open Go Go.RowKit

theorem inR_step (h : Hs) {f k : Int} (hf : f ≤ k) : inR h f (k + 1) = (inR h f k || inR h k (k + 1)) := by
  unfold inR
  rw [Bool.eq_iff_iff, Bool.or_eq_true, List.any_eq_true, List.any_eq_true, List.any_eq_true]
  constructor
  · rintro ⟨x, hx, e⟩
    have e := of_decide_eq_true e
    by_cases hk : x.1 < k
    · exact .inl ⟨x, hx, decide_eq_true ⟨e.1, hk⟩⟩
    · exact .inr ⟨x, hx, decide_eq_true ⟨by omega, e.2⟩⟩
  · rintro (⟨x, hx, e⟩ | ⟨x, hx, e⟩)
    · have e := of_decide_eq_true e
      exact ⟨x, hx, decide_eq_true ⟨e.1, by omega⟩⟩
    · have e := of_decide_eq_true e
      exact ⟨x, hx, decide_eq_true ⟨by omega, e.2⟩⟩
theorem inR_none (h : Hs) (f : Int) : inR h f f = false := by
  unfold inR
  rw [List.any_eq_false]
  intro x hx
  simp only [decide_eq_true_eq]
  omega
def okv (b : Bool) : Int := if b then 13 else 0
set_option maxRecDepth 100000 in
set_option maxHeartbeats 8000000 in
theorem serves_any (l : List A15) (p : Option Addr) (n cap : Nat) (x y : Nat) (hx : x < 256) (hy : y < 256) (w : World) (h : Acs15 w p n cap l) (hn : n < 9223372036854775808) :
    Calls Tryd.prog 6 #[.slice p n cap, .int .u8 (x : Int), .int .u8 (y : Int)] w fun e w' => e = .returned (.bool true) ∧ Below w.heap.size w w' := by
  have HAW := Lib.hid (awake15 w)
  by_cases g0 : 40 < n
  · have t0 : decide ((40 : Int) < (n : Int)) = true := decide_eq_true (by omega)
    have t1 : decide (40 < n) = true := decide_eq_true g0
    clear h g0
    go_enter Tryd.func6, Tryd.ntmps6
    go_wp2_with fail
    refine HAW.out.mono ?_
    rintro e w1 ⟨rfl, hB⟩
    have HB := Lib.hid hB
    have HAW2 := Lib.hid (awake15 w1)
    clear hB
    go_wp2_with fail
    refine HAW2.out.mono ?_
    rintro e w2 ⟨rfl, hB⟩
    have HB2 := Lib.hid (HB.out.trans (hB.mono HB.out.size))
    clear hB
    go_wp2
    go_ret
    exact ⟨rfl, HB2.out⟩
  have t0 : decide ((40 : Int) < (n : Int)) = false := decide_eq_false (by omega)
  have t1 : decide (40 < n) = false := decide_eq_false g0
  have HL := Lib.hid h
  have HN40 := Lib.hid (show n ≤ 40 by omega)
  have hxf : x % 70 < 70 := Nat.mod_lt _ (by decide)
  have hyf : y % 70 < 70 := Nat.mod_lt _ (by decide)
  have HXF := Lib.hid hxf
  have HYF := Lib.hid hyf
  clear h g0 hxf hyf
  go_enter Tryd.func6, Tryd.ntmps6
  go_wp2_with fail
  refine HAW.out.mono ?_
  rintro e w1 ⟨rfl, hB⟩
  have HNW := Lib.hid (wst_new w hB)
  clear hB
  go_wp2_with fail
  refine HNW.out.mono ?_
  rintro e w2 ⟨b, rfl, hW⟩
  have HW2 := Lib.hid hW
  clear hW HAW
  go_wp2
  go_loopw [9, 26] (fun _ v wr => ∃ k : Nat, k ≤ n ∧ v = .int .i64 (k : Int) ∧ ∃ s, WSt w wr b s ∧ lenW s ≤ k ∧ ofW s [121] = []) (fun _ v _ => n - (intOf v).toNat)
  case atStart => exact ⟨0, Nat.zero_le _, rfl, [], HW2.out, Nat.le_refl _, rfl⟩
  case round =>
    obtain ⟨k, hk, rfl, s, hW, hls, hofy⟩ := hrel
    have HS := Lib.hid (And.intro hW (And.intro hls hofy))
    clear hW hls hofy HW2
    by_cases hlt : k < n
    · have z1 : (k : Int) < (n : Int) := by omega
      have z2 : decide ((k : Int) < (n : Int)) = true := decide_eq_true z1
      have z3 : decide (k < n) = true := decide_eq_true hlt
      have z4 : (0 : Int) ≤ (k : Int) := by omega
      have hw64 : IntKind.i64.wrap ((k : Int) + 1) = ((k + 1 : Nat) : Int) := by rw [IntKind.wrap_i64]; have := HN40.out; omega
      have hkl : k < l.length := by rw [HL.out.len]; exact hlt
      obtain ⟨a, ha⟩ : ∃ a, l[k] = a := ⟨_, rfl⟩
      obtain ⟨c0, o0, hpe, hF⟩ := (HL.out.of_below HS.out.1.2).cells hkl
      rw [ha] at hF
      have f0 : wr.cell? ⟨c0, o0 + k * 5, none⟩ = some (.int .u8 (a.kind : Int)) := hF 0 _ rfl
      have f1 := hF 1 _ rfl
      have f2 := hF 2 _ rfl
      have f3 := hF 3 _ rfl
      have f4 := hF 4 _ rfl
      obtain ⟨wa, hwa⟩ : ∃ wa, wr.alloc (.cells #[.int .u8 (a.kind : Int), .string (mkS a.path), .string (mkS a.to_), .int .i64 a.a, .int .i64 a.b] 65) = wa := ⟨_, rfl⟩
      have hBa : Below wr.heap.size wr wa := by rw [← hwa]; exact (Below.refl _ _).alloc (Nat.le_refl _) _
      have hh := wst_hold (HS.out.1.next hBa) (by have := HS.out.2.1; have := HN40.out; omega) [120] (by decide) a.a a.b
      rw [← mkS_lit [120]] at hh
      have HH := Lib.hid hh
      have HWA := Lib.hid hwa
      rw [hpe]
      have HMS := Lib.hid (show n - (k + 1) < n - k by omega)
      clear hF hpe ha hBa hh hwa hlt hkl hk
      go_wp2_with fail
      rw [HWA.out]
      refine HH.out.mono ?_
      rintro e w5 ⟨rfl, hW⟩
      have HW5 := Lib.hid hW
      clear hW
      go_wp2
      refine ⟨⟨k + 1, by have := HMS.out; omega, rfl, holdW s [120] a.a a.b, HW5.out, ?_, ?_⟩, ?_⟩
      · exact Nat.le_trans (holdW_len HS.out.1.ok _ _ _) (Nat.succ_le_succ HS.out.2.1)
      · rw [holdW_of (by decide)]; exact HS.out.2.2
      · simp [intOf]; have := HMS.out; omega
    · obtain rfl : k = n := by omega
      have z1 : ¬ (k : Int) < (k : Int) := by omega
      have z2 : decide ((k : Int) < (k : Int)) = false := decide_eq_false z1
      have z3 : decide (k < k) = false := decide_eq_false hlt
      clear hlt hk
      go_wp2_with fail
      obtain ⟨f, hf⟩ : ∃ f : Nat, x % 70 = f := ⟨_, rfl⟩
      obtain ⟨t, ht⟩ : ∃ t : Nat, y % 70 = t := ⟨_, rfl⟩
      have hf7 : f < 70 := by rw [← hf]; exact HXF.out
      have ht7 : t < 70 := by rw [← ht]; exact HYF.out
      rw [show ((x : Int) % 70) = (f : Int) by omega, show ((y : Int) % 70) = (t : Int) by omega]
      clear hf ht z1 z2 z3
      have hs1 := wst_serve HS.out.1 [120] f t
      obtain ⟨c, hc⟩ : ∃ c, serveC s [120] f t = c := ⟨_, rfl⟩
      rw [hc, ← mkS_lit [120]] at hs1
      refine hs1.mono ?_
      rintro e w3 ⟨rfl, hW⟩
      have HW3 := Lib.hid hW
      have HOY := Lib.hid HS.out.2.2
      clear hs1 hW HS
      by_cases g2 : t < f ∨ 64 < t
      · obtain rfl : c = 1 := by rw [← hc, serveC_eq, if_pos (by omega)]
        have t1 : decide ((t : Int) < (f : Int)) = true ∨ decide ((t : Int) < (f : Int)) = false ∧ decide ((64 : Int) < (t : Int)) = true := by
          simp only [decide_eq_true_eq, decide_eq_false_iff_not]
          omega
        have t2 : (decide (t < f) = true ∧ decide ((t : Int) < (f : Int)) = true) ∨ (decide (t < f) = false ∧ decide ((t : Int) < (f : Int)) = false ∧ decide ((64 : Int) < (t : Int)) = true ∧ decide (64 < t) = true) := by
          simp only [decide_eq_true_eq, decide_eq_false_iff_not]
          omega
        clear t1 g2 hc
        rcases t2 with ⟨t1, t2⟩ | ⟨t1, t2, t3, t4⟩
        · go_wp2
          go_ret
          exact ⟨rfl, HW3.out.2⟩
        · go_wp2
          go_ret
          exact ⟨rfl, HW3.out.2⟩
      · have t1 : decide (t < f) = false := decide_eq_false (by omega)
        have t2 : decide ((t : Int) < (f : Int)) = false := decide_eq_false (by omega)
        have t3 : decide ((64 : Int) < (t : Int)) = false := decide_eq_false (by omega)
        have t4 : decide (64 < t) = false := decide_eq_false (by omega)
        have HFT := Lib.hid (show f ≤ t ∧ t ≤ 64 by omega)
        have HC := Lib.hid (show (if inR (ofW s [120]) f t then 13 else 0) = c by have h0 := hc; rw [serveC_eq, if_neg (by omega)] at h0; exact h0)
        obtain ⟨h, hh⟩ : ∃ h, ofW s [120] = h := ⟨_, rfl⟩
        rw [hh] at HC
        have HHH := Lib.hid hh
        have HR0 := Lib.hid (inR_none h f)
        clear g2 hc hh hf7 ht7
        go_wp2
        go_loopw [13, 14] (fun v13 v14 wr => ∃ j : Nat, f ≤ j ∧ j ≤ t ∧ v14 = .int .i64 (j : Int) ∧ (∃ r, inR h f j = r ∧ v13 = .bool (!r)) ∧ WSt w wr b s) (fun _ v14 _ => t - (intOf v14).toNat)
        case atStart => exact ⟨f, Nat.le_refl _, HFT.out.1, rfl, ⟨false, HR0.out, rfl⟩, HW3.out⟩
        case round =>
          clear HW3 HR0
          obtain ⟨j, hfj, hjt, rfl, ⟨r, hr, rfl⟩, hW⟩ := hrel
          have HW := Lib.hid hW
          have HJ := Lib.hid (And.intro hfj hjt)
          have HR := Lib.hid hr
          clear hW hr
          by_cases hlt : j < t
          · have z1 : (j : Int) < (t : Int) := by omega
            have z2 : decide ((j : Int) < (t : Int)) = true := decide_eq_true z1
            have z3 : decide (j < t) = true := decide_eq_true hlt
            have hw64 : IntKind.i64.wrap ((j : Int) + 1) = ((j + 1 : Nat) : Int) := by rw [IntKind.wrap_i64]; have := HFT.out; omega
            have HMS := Lib.hid (show t - (j + 1) < t - j ∧ j + 1 ≤ t ∧ f ≤ j + 1 by omega)
            have HST := Lib.hid (inR_step h (f := (f : Int)) (k := (j : Int)) (by omega))
            cases r with
            | true =>
              clear hlt hfj hjt
              go_wp2
              refine ⟨⟨j + 1, HMS.out.2.2, HMS.out.2.1, rfl, ⟨true, ?_, rfl⟩, HW.out⟩, ?_⟩
              · have := HST.out; rw [HR.out] at this; exact this
              · simp [intOf]; have := HMS.out; omega
            | false =>
              have hs2 := wst_serve HW.out [120] (j : Int) ((j + 1 : Nat) : Int)
              obtain ⟨q, hq⟩ : ∃ q, inR h (j : Int) ((j : Int) + 1) = q := ⟨_, rfl⟩
              have hsc : serveC s [120] (j : Int) ((j + 1 : Nat) : Int) = if q then 13 else 0 := by
                rw [serveC_eq, if_neg (by have := HFT.out; omega), HHH.out]
                have e : inR h (j : Int) ((j + 1 : Nat) : Int) = q := by push_cast; exact hq
                simp only [e]
              rw [hsc, ← mkS_lit [120]] at hs2
              have HQ := Lib.hid (show inR h f ((j + 1 : Nat) : Int) = q by
                have := HST.out; rw [HR.out, hq] at this; push_cast; rw [this]; rfl)
              have HS2 := Lib.hid hs2
              clear hlt hfj hjt hs2 hsc hq
              go_wp2_with fail
              refine HS2.out.mono ?_
              rintro e w5 ⟨rfl, hW⟩
              have HW5 := Lib.hid hW
              clear hW
              cases q with
              | true =>
                go_wp2
                refine ⟨⟨j + 1, HMS.out.2.2, HMS.out.2.1, rfl, ⟨true, HQ.out, rfl⟩, HW5.out⟩, ?_⟩
                simp [intOf]; have := HMS.out; omega
              | false =>
                go_wp2
                refine ⟨⟨j + 1, HMS.out.2.2, HMS.out.2.1, rfl, ⟨false, HQ.out, rfl⟩, HW5.out⟩, ?_⟩
                simp [intOf]; have := HMS.out; omega
          · obtain rfl : j = t := by omega
            have z1 : ¬ (j : Int) < (j : Int) := by omega
            have z2 : decide ((j : Int) < (j : Int)) = false := decide_eq_false z1
            have z3 : decide (j < j) = false := decide_eq_false hlt
            have hs3 := wst_serve HW.out [121] (f : Int) (j : Int)
            rw [serveC_eq, if_neg (by have := HFT.out; omega), HOY.out, ← mkS_lit [121]] at hs3
            change Calls _ _ _ _ (fun e w' => e = .returned (.int .i64 0) ∧ WSt w w' b s) at hs3
            have HS3 := Lib.hid hs3
            have hc := HC.out
            rw [HR.out] at hc
            clear hlt hfj hjt hs3
            cases r with
            | true =>
              obtain rfl : (13 : Int) = c := hc
              go_wp2_with fail
              refine HS3.out.mono ?_
              rintro e w5 ⟨rfl, hW⟩
              have HW5 := Lib.hid hW
              clear hW
              go_wp2
              go_ret
              exact ⟨rfl, HW5.out.2⟩
            | false =>
              obtain rfl : (0 : Int) = c := hc
              go_wp2_with fail
              refine HS3.out.mono ?_
              rintro e w5 ⟨rfl, hW⟩
              have HW5 := Lib.hid hW
              clear hW
              go_wp2
              go_ret
              exact ⟨rfl, HW5.out.2⟩
end Go.Proofs.YtcgilacmdckbfaaDoor
