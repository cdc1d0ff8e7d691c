/- The statement GaugeSorts, walked: the lists that are not long. -/
import Derived.Test.YtkkcphjielkmoaaGaugeS
import Derived.Deep.RegionHeld3
set_option linter.unusedSimpArgs false
set_option linter.unusedVariables false
namespace Go.Proofs.Ytkkcphjielkmoaa
open Go Go.RowKit

attribute [local go_sem] run_bits run_frombits bsF1
attribute [local go_sem ↓] exec_bs
set_option maxRecDepth 1000000 in
set_option maxHeartbeats 8000000 in
theorem gs_main (l : List Nat) (p : Option Addr) (n cap : Nat) (w : World) (hl : l.length = n) (hs : Le uV w p l) (hb : ∀ x, x ∈ l → x < 18446744073709551616) (hp : p = none → cap = 0) (hn : n ≤ 40) : Calls Try.prog 4 #[.slice p n cap] w fun e w' => e = .returned (.bool true) ∧ Below w.heap.size w w' := by
  have hd : decide ((40 : Int) < (n : Int)) = false := decide_eq_false (by omega)
  have hz : ¬ (40 : Int) < (n : Int) := by omega
  have HL := Lib.hid hl
  have HS := Lib.hid hs
  have HBL := Lib.hid hb
  clear hl hs hb
  go_enter Try.func4, Try.ntmps4
  go_wp2_with fail
  refine (awake5 gaugeP w w (Below.refl _ _)).mono ?_
  rintro e w1 ⟨rfl, hB1⟩
  have HB1 := Lib.hid hB1
  clear hB1
  go_wp2
  go_loopw [3, 19] (fun v vi wr => ∃ i : Nat, i ≤ n ∧ vi = .int .i64 i ∧ OwnE 24 fV wr w.heap.size v (l.take i) ∧ Below w.heap.size w wr) (fun v vi _ => n - (intOf vi).toNat)
  case atStart => exact ⟨0, Nat.zero_le _, rfl, by rw [List.take_zero]; exact OwnE.nil _ _, HB1.out⟩
  case round =>
    clear HB1
    obtain ⟨i, hin, rfl, hO, hB⟩ := hrel
    obtain ⟨q, oc, rfl, hLe, hq0, hoc⟩ := hO.shape
    have hll : (l.take i).length = i := by rw [List.length_take, HL.out]; omega
    rw [hll] at hO hoc ⊢
    have HLL := Lib.hid hll
    have HO := Lib.hid hO
    have HLE := Lib.hid hLe
    have HB := Lib.hid hB
    have HQ0 := Lib.hid hq0
    clear hO hLe hB hq0 hll
    by_cases hlt : i < n
    · have hltz : (i : Int) < (n : Int) := by omega
      obtain ⟨pc, po, hpe, -, hpx⟩ := (HS.out.of_below HB.out) i (by rw [HL.out]; exact hlt)
      subst hpe
      have hpy : wr.cell? ⟨pc, po + i, none⟩ = some (.int .u64 ((l.getD i 0 : Nat) : Int)) := hpx
      clear hpx
      have HT := Lib.hid (take_getD l 0 i (by rw [HL.out]; exact hlt))
      generalize l.getD i 0 = x at *
      have bD : Below wr.heap.size wr (wr.alloc (.cells #[.float .f64 x] 24)) := (Below.refl _ _).alloc (Nat.le_refl _) _
      have hN : w.heap.size ≤ wr.heap.size := HB.out.size
      have hND : w.heap.size ≤ (wr.alloc (.cells #[.float .f64 x] 24)).heap.size := by rw [World.size_alloc]; omega
      have HOD := Lib.hid (HO.out.of_below bD)
      have HBD := Lib.hid (show Below w.heap.size w (wr.alloc (.cells #[.float .f64 x] 24)) from HB.out.trans (bD.mono hN))
      have HXD := Lib.hid (show Le fV (wr.alloc (.cells #[.float .f64 x] 24)) (some ⟨wr.heap.size, 0, none⟩) [x] from fun j hj => by
        have : j = 0 := by simp at hj; omega
        subst this
        exact ⟨wr.heap.size, 0, rfl, by rw [World.size_alloc]; omega, World.cell?_alloc_new _ _ _ _⟩)
      clear bD
      go_wp2_with (first | (refine wpl_appendE elF _ rfl (.tmp 23) (.tmp 26) rfl w.heap.size (.slice q i oc) (l.take i) rfl HOD.out (some ⟨wr.heap.size, 0, none⟩) 1 1 [x] rfl rfl HXD.out (fun e => by cases e) (by rw [HLL.out]; omega) hND ?_; rintro v2 w2 hO2 hg2; have HB2 := Lib.hid (HBD.out.grown hg2 hND (fun k hk => (HOD.out.lt k hk).1)); have HO2 := Lib.hid hO2; clear hO2 hg2))
      go_wp2
      go_roundw
      case rel => exact ⟨i + 1, by omega, by go_num, by rw [HT.out]; exact HO2.out, HB2.out⟩
      case measure => simp [intOf]; omega
    · have hltz : ¬ (i : Int) < (n : Int) := by omega
      obtain rfl : i = n := by omega
      have HTA := Lib.hid (show l.take i = l from List.take_of_length_le (by rw [HL.out]; exact Nat.le_refl _))
      have HLA := Lib.hid (show Le fV wr q l from by rw [← HTA.out]; exact HLE.out)
      clear HLE HO HLL
      go_wp2_with fail
      refine (sorted_any l q i oc wr HL.out HLA.out HBL.out (by omega)).mono ?_
      rintro e w2 ⟨g, d, rfl, hg, hF2, hO2, hB2⟩
      have HF2 := Lib.hid hF2
      have HO2 := Lib.hid hO2
      have HLA2 := Lib.hid (HLA.out.of_below hB2)
      have HB2 := Lib.hid (bel_stepS HB.out hB2)
      clear hF2 hO2 hB2 HB HLA
      go_wp2_with fail
      refine (refSorted_any l p i cap w2 HL.out (HS.out.of_below HB2.out) HBL.out (by omega)).mono ?_
      rintro e w3 ⟨vo, ol, rfl, hO3, hP3, hW3, hB3⟩
      have HF3 := Lib.hid (Row.of_below HF2.out hB3)
      have HLA3 := Lib.hid (HLA2.out.of_below hB3)
      have HB3 := Lib.hid (bel_stepS HB2.out hB3)
      obtain ⟨qo, co, rfl, hLo, hqo, hco⟩ := hO3.shape
      have hol : ol.length = i := by rw [hP3.length_eq, HL.out]
      rw [hol] at hco ⊢
      have HLO := Lib.hid hLo
      have HOL := Lib.hid hol
      have HAL := Lib.hid (fun j hj => HO2.out.alike hP3 hW3 HBL.out HL.out j hj)
      have HALW := Lib.hid (fun (d' : Nat → Nat) (h : InOrder l i d') j hj => h.alike hP3 hW3 HBL.out HL.out j hj)
      have HOB := Lib.hid (show ∀ x, x ∈ ol → x < 18446744073709551616 from fun x hx => HBL.out x (hP3.mem_iff.1 hx))
      clear hO3 hP3 hW3 hB3 hLo hqo hol HF2 HLA2 HB2
      have hne : ((i : Int) != (i : Int)) = false := by simp
      go_wp2
      go_loopw [40] (fun vj wr => ∃ j : Nat, j ≤ i ∧ vj = .int .i64 j ∧ Dr w3 wr) (fun vj _ => i - (intOf vj).toNat)
      case atStart => exact ⟨0, Nat.zero_le _, rfl, Dr.refl _⟩
      case round =>
        obtain ⟨j, hji, rfl, hD⟩ := hrel
        have HD := Lib.hid hD
        clear hD
        by_cases hlt2 : j < i
        · have hltz2 : (j : Int) < (i : Int) := by omega
          have x1 : wr.cell? ⟨g, j, none⟩ = some (.float .f64 (d j)) := by rw [HD.out.cell]; exact Row.cell HF3.out j hlt2
          obtain ⟨c2, o2, e2, -, y2⟩ := HLO.out j (by rw [HOL.out]; exact hlt2)
          obtain ⟨c3, o3, e3, -, y3⟩ := HLA3.out j (by rw [HL.out]; exact hlt2)
          obtain ⟨c4, o4, e4, -, y4⟩ := (HS.out.of_below HB3.out) j (by rw [HL.out]; exact hlt2)
          subst e2 e3 e4
          have x2 : wr.cell? ⟨c2, o2 + j, none⟩ = some (.int .u64 ((ol.getD j 0 : Nat) : Int)) := by rw [HD.out.cell]; exact y2
          have x3 : wr.cell? ⟨c3, o3 + j, none⟩ = some (.float .f64 (l.getD j 0)) := by rw [HD.out.cell]; exact y3
          have x4 : wr.cell? ⟨c4, o4 + j, none⟩ = some (.int .u64 ((l.getD j 0 : Nat) : Int)) := by rw [HD.out.cell]; exact y4
          clear y2 y3 y4
          have hbl : l.getD j 0 < 18446744073709551616 := HBL.out _ (by rw [List.getD_eq_getElem?_getD, List.getElem?_eq_getElem (by rw [HL.out]; exact hlt2)]; exact List.getElem_mem _)
          have hbo : ol.getD j 0 < 18446744073709551616 := HOB.out _ (by rw [List.getD_eq_getElem?_getD, List.getElem?_eq_getElem (by rw [HOL.out]; exact hlt2)]; exact List.getElem_mem _)
          have HQ1 := Lib.hid (alikeQ (d j) (ol.getD j 0) (HO2.out.lt j hlt2) hbo (HAL.out j hlt2))
          have HQ2 := Lib.hid (alikeQ (l.getD j 0) (l.getD j 0) hbl hbl (AlikeM.self _))
          clear hbl hbo
          generalize d j = xd at *
          generalize ol.getD j 0 = xo at *
          generalize l.getD j 0 = xl at *
          go_wp2_with fail
          go_quiet (first | (go_at_call 15; with_reducible exact HQ1.out _ _) | (go_at_call 15; with_reducible exact HQ2.out _ _))
          have HD1 := Lib.hid (HD.out.drewN nq)
          clear x1 x2 x3 x4 HQ1 HQ2 HD
          generalize wr.drewN nq = W1 at *
          go_wp2
          go_roundw
          case rel => exact ⟨j + 1, by omega, by go_num, HD1.out⟩
          case measure => simp [intOf]; omega
        · have hltz2 : ¬ (j : Int) < (i : Int) := by omega
          have HB4 := Lib.hid (show Below w.heap.size w wr from HB3.out.trans (HD.out.below _))
          have HLA4 := Lib.hid (HLA3.out.of_below (HD.out.below _))
          have HLO4 := Lib.hid (HLO.out.of_below (HD.out.below _))
          clear HD HB3 HLA3 HLO HF3 HAL HO2
          by_cases h0 : i = 0
          · have h0z : ((i : Int) == 0) = true := by simp; omega
            go_wp2_with fail
            refine (worst_none wr).mono ?_
            rintro e w' ⟨rfl, rfl⟩
            go_wp2_with fail
            refine (class_any 9221120237041090561 (by decide) wr).mono ?_
            rintro e w5 ⟨rfl, hD5⟩
            have HB5 := Lib.hid (HB4.out.trans (hD5.below _))
            clear hD5
            rw [show clsB 9221120237041090561 = 6 by decide]
            go_wp2_with fail
            refine (middle_none w5).mono ?_
            rintro e w' ⟨rfl, rfl⟩
            go_wp2_with fail
            refine (class_any 9221120237041090561 (by decide) w5).mono ?_
            rintro e w6 ⟨rfl, hD6⟩
            have HB6 := Lib.hid (HB5.out.trans (hD6.below _))
            clear hD6
            rw [show clsB 9221120237041090561 = 6 by decide]
            go_wp2
            go_ret
            exact ⟨rfl, HB6.out⟩
          · have h0z : ((i : Int) == 0) = false := by simp; omega
            obtain ⟨c5, o5, e5, b5, y5⟩ := HLO4.out 0 (by rw [HOL.out]; omega)
            obtain ⟨c6, o6, e6, -, y6⟩ := HLO4.out (i / 2) (by rw [HOL.out]; omega)
            subst e5
            injection e6 with e6
            injection e6 with e61 e62
            subst e61 e62
            rw [Nat.add_zero] at y5
            have y5 : wr.cell? ⟨c5, o5, none⟩ = some (.int .u64 ((ol.getD 0 0 : Nat) : Int)) := y5
            have y6 : wr.cell? ⟨c5, o5 + i / 2, none⟩ = some (.int .u64 ((ol.getD (i / 2) 0 : Nat) : Int)) := y6
            have hb0 : ol.getD 0 0 < 18446744073709551616 := HOB.out _ (by rw [List.getD_eq_getElem?_getD, List.getElem?_eq_getElem (by rw [HOL.out]; omega)]; exact List.getElem_mem _)
            have hbm : ol.getD (i / 2) 0 < 18446744073709551616 := HOB.out _ (by rw [List.getD_eq_getElem?_getD, List.getElem?_eq_getElem (by rw [HOL.out]; omega)]; exact List.getElem_mem _)
            have HW1 := Lib.hid (fun (d' : Nat → Nat) (h : InOrder l i d') => alike_any (d' 0) (ol.getD 0 0) (h.lt 0 (by omega)) hb0 (HALW.out d' h 0 (by omega)))
            have HW2 := Lib.hid (fun (d' : Nat → Nat) (h : InOrder l i d') => alike_any (d' (i / 2)) (ol.getD (i / 2) 0) (h.lt _ (by omega)) hbm (HALW.out d' h (i / 2) (by omega)))
            clear hb0 hbm HALW HOB
            obtain ⟨m, hm⟩ : ∃ m, m = i / 2 := ⟨_, rfl⟩
            have m1 : (i : Int) / 2 = (m : Int) := by omega
            have m2 : (i : Int).tdiv 2 = (m : Int) := by rw [Int.tdiv_eq_ediv_of_nonneg (by omega)]; exact m1
            have m3 : (m : Int) < (i : Int) := by omega
            have m4 : (0 : Int) < (i : Int) := by omega
            have m5 : 0 < i := by omega
            have m6 : m < i := by omega
            have m7 : IntKind.i64.wrap (m : Int) = (m : Int) := IntWalk.i64_in _ (by omega)
            have m8 : wrap64 (m : Int) = (m : Int) := wr64 _ (by omega) (by omega)
            rw [← hm] at y6 HW2
            have HM := Lib.hid hm
            clear hm
            generalize ol.getD 0 0 = x0 at *
            generalize ol.getD m 0 = xm at *
            go_wp2_with fail
            go_region_held3 (fun w' : World => w'.cell? ⟨c5, o5, none⟩ = some (.int .u64 (x0 : Int)) ∧ w'.cell? ⟨c5, o5 + m, none⟩ = some (.int .u64 (xm : Int))) (first | exact ⟨y5, y6⟩ | exact ⟨z5, z6⟩ | exact ⟨u5, u6⟩ | exact ⟨v5, v6⟩ | exact ⟨t5, t6⟩) (first | (go_at_call 16; refine (worst_any l q i oc _ HL.out (HLA4.out.of_below (Below.refl _ _).drew) HBL.out (by omega) (by omega)).mono ?_; rintro e w5 ⟨dw, rfl, hO5, hB5⟩; have hb5 : Below wr.heap.size wr w5 := (Below.refl _ _).drew.trans (by exact hB5); have z5 : w5.cell? ⟨c5, o5, none⟩ = some (.int .u64 (x0 : Int)) := (by rw [hb5.cell (by exact b5)]; exact y5); have z6 : w5.cell? ⟨c5, o5 + m, none⟩ = some (.int .u64 (xm : Int)) := (by rw [hb5.cell (by exact b5)]; exact y6); have HO5 := Lib.hid hO5; have HB5 := Lib.hid hb5; clear hO5 hB5 hb5) | (go_at_call 17; refine (middle_any l q i oc _ HL.out (HLA4.out.of_below HB6.out) HBL.out (by omega) (by omega)).mono ?_; rintro e w7 ⟨dm, rfl, hO7, hB7⟩; have hb7 : Below wr.heap.size wr w7 := HB6.out.trans (hB7.mono HB6.out.size); have v5 : w7.cell? ⟨c5, o5, none⟩ = some (.int .u64 (x0 : Int)) := (by rw [hb7.cell (by exact b5)]; exact y5); have v6 : w7.cell? ⟨c5, o5 + m, none⟩ = some (.int .u64 (xm : Int)) := (by rw [hb7.cell (by exact b5)]; exact y6); rw [← HM.out]; have HO7 := Lib.hid hO7; have HB7 := Lib.hid hb7; clear hO7 hB7 hb7) | (go_at_call 15; refine (HW2.out dm (by exact HO7.out) _).mono ?_; rintro e w8 ⟨rfl, hD8⟩; have HB8 := Lib.hid (HB7.out.trans (hD8.below _)); have t5 : w8.cell? ⟨c5, o5, none⟩ = some (.int .u64 (x0 : Int)) := (by rw [hD8.cell]; exact v5); have t6 : w8.cell? ⟨c5, o5 + m, none⟩ = some (.int .u64 (xm : Int)) := (by rw [hD8.cell]; exact v6); clear hD8) | (go_at_call 15; refine (HW1.out dw HO5.out _).mono ?_; rintro e w6 ⟨rfl, hD6⟩; have u5 : w6.cell? ⟨c5, o5, none⟩ = some (.int .u64 (x0 : Int)) := (by rw [hD6.cell]; exact z5); have u6 : w6.cell? ⟨c5, o5 + m, none⟩ = some (.int .u64 (xm : Int)) := (by rw [hD6.cell]; exact z6); have HB6 := Lib.hid (HB5.out.trans (hD6.below _)); clear hD6))
            all_goals
              go_wp2
              go_ret
              exact ⟨rfl, HB4.out.trans (HB8.out.mono HB4.out.size)⟩
end Go.Proofs.Ytkkcphjielkmoaa
