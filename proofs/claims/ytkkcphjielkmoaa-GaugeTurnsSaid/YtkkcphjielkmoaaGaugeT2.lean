/- The statement GaugeTurns, walked: the lists that are neither empty nor long. -/
import Derived.Test.YtkkcphjielkmoaaGaugeT
set_option linter.unusedSimpArgs false
set_option linter.unusedVariables false
namespace Go.Proofs.Ytkkcphjielkmoaa
open Go Go.RowKit

attribute [local go_sem] run_bits run_frombits bsF1
attribute [local go_sem ↓] exec_bs
set_option maxRecDepth 1000000 in
set_option maxHeartbeats 8000000 in
theorem gt_main (l : List Nat) (p : Option Addr) (n cap : Nat) (tn : Nat) (w : World) (hl : l.length = n) (hs : Le uV w p l) (hb : ∀ x, x ∈ l → x < 18446744073709551616) (hp : p = none → cap = 0) (hn : n ≤ 30) (h0 : 0 < n) (ht : tn < 256) : Calls Try.prog 6 #[.slice p n cap, .int .u8 (tn : Int)] w fun e w' => e = .returned (.bool true) ∧ Below w.heap.size w w' := by
  have hd : decide ((30 : Int) < (n : Int)) = false := decide_eq_false (by omega)
  have hz : ¬ (30 : Int) < (n : Int) := by omega
  have hq : ((n : Int) == 0) = false := by simp; omega
  obtain ⟨k, hk⟩ : ∃ k, k = tn % n := ⟨_, rfl⟩
  have hkn : k < n := by rw [hk]; exact Nat.mod_lt _ h0
  have hkm : (tn : Int).tmod (n : Int) = (k : Int) := by rw [Int.tmod_eq_emod_of_nonneg (by omega), hk]; rfl
  have hke : (tn : Int) % (n : Int) = (k : Int) := by rw [hk]; rfl
  have hw1 : IntKind.i64.wrap (tn : Int) = (tn : Int) := IntWalk.i64_in _ (by omega)
  have hw2 : IntKind.i64.wrap (k : Int) = (k : Int) := IntWalk.i64_in _ (by omega)
  have HL := Lib.hid hl
  have HS := Lib.hid hs
  have HBL := Lib.hid hb
  clear hl hs hb hk
  go_enter Try.func6, Try.ntmps6
  go_wp2_with fail
  refine (awake5 gaugeP w w (Below.refl _ _)).mono ?_
  rintro e w1 ⟨rfl, hB1⟩
  have HB1 := Lib.hid hB1
  clear hB1
  go_wp2
  go_loopw [5, 6, 32] (fun v u vi wr => ∃ i : Nat, i ≤ n ∧ vi = .int .i64 i ∧ PrF wr w.heap.size v u (l.take i) ((turnL l k).take i) ∧ Below w.heap.size w wr) (fun v u vi _ => n - (intOf vi).toNat)
  case atStart => exact ⟨0, Nat.zero_le _, rfl, by rw [List.take_zero, List.take_zero]; exact PrF.nil _ _, HB1.out⟩
  case round =>
    clear HB1
    obtain ⟨i, hin, rfl, hO, hB⟩ := hrel
    have hN : w.heap.size ≤ wr.heap.size := hB.size
    obtain ⟨q1, c1, rfl, hLe1, hq1, hc1⟩ := hO.own1.shape
    obtain ⟨q2, c2, rfl, hLe2, hq2, hc2⟩ := hO.own2.shape
    have hl1 : (l.take i).length = i := by rw [List.length_take, HL.out]; omega
    have hl2 : ((turnL l k).take i).length = i := by rw [List.length_take, turnL_length, HL.out]; omega
    rw [hl1] at hO hc1 ⊢
    rw [hl2] at hO hc2 ⊢
    have HL1 := Lib.hid hl1
    have HL2 := Lib.hid hl2
    have HO := Lib.hid hO
    have HLE1 := Lib.hid hLe1
    have HLE2 := Lib.hid hLe2
    have HB := Lib.hid hB
    have HQ1 := Lib.hid hq1
    have HQ2 := Lib.hid hq2
    clear hO hLe1 hLe2 hB hq1 hq2 hl1 hl2
    by_cases hlt : i < n
    · have hltz : (i : Int) < (n : Int) := by omega
      obtain ⟨m, hm⟩ : ∃ m, m = (i + k) % n := ⟨_, rfl⟩
      have hmn : m < n := by rw [hm]; exact Nat.mod_lt _ h0
      have hmz : (m : Int) < (n : Int) := by omega
      have s1 : IntKind.i64.wrap ((i : Int) + (k : Int)) = (i : Int) + (k : Int) := IntWalk.i64_in _ (by omega)
      have s2 : ((i : Int) + (k : Int)).tmod (n : Int) = (m : Int) := by rw [Int.tmod_eq_emod_of_nonneg (by omega), hm]; rfl
      have s3 : ((i : Int) + (k : Int)) % (n : Int) = (m : Int) := by rw [hm]; rfl
      have s4 : IntKind.i64.wrap (m : Int) = (m : Int) := IntWalk.i64_in _ (by omega)
      obtain ⟨pc, po, hpe, hpb, hpx⟩ := HS.out i (by rw [HL.out]; exact hlt)
      obtain ⟨pc', po', hpe', -, hpm⟩ := HS.out m (by rw [HL.out]; exact hmn)
      subst hpe
      injection hpe' with e1
      injection e1 with e1 e2
      subst e1 e2
      have x1 : wr.cell? ⟨pc, po + i, none⟩ = some (.int .u64 ((l.getD i 0 : Nat) : Int)) := by rw [HB.out.cell (by exact hpb)]; exact hpx
      have HXM := Lib.hid (show w.cell? ⟨pc, po + m, none⟩ = some (.int .u64 ((l.getD m 0 : Nat) : Int)) from hpm)
      have HT1 := Lib.hid (take_getD l 0 i (by rw [HL.out]; exact hlt))
      have HT2 := Lib.hid (show (turnL l k).take (i + 1) = (turnL l k).take i ++ [l.getD m 0] from by
        rw [take_getD (turnL l k) 0 i (by rw [turnL_length, HL.out]; exact hlt), turnL_get l k i (by rw [HL.out]; exact hlt), HL.out, ← hm])
      clear hpx hpm hm
      generalize l.getD i 0 = x at *
      generalize l.getD m 0 = y at *
      have bD : Below wr.heap.size wr (wr.alloc (.cells #[.float .f64 x] 24)) := (Below.refl _ _).alloc (Nat.le_refl _) _
      have hND : w.heap.size ≤ (wr.alloc (.cells #[.float .f64 x] 24)).heap.size := by rw [World.size_alloc]; omega
      have HOD := Lib.hid (HO.out.of_below bD)
      have HBD := Lib.hid (show Below w.heap.size w (wr.alloc (.cells #[.float .f64 x] 24)) from HB.out.trans (bD.mono hN))
      have HXD := Lib.hid (show (wr.alloc (.cells #[.float .f64 x] 24)).cell? ⟨wr.heap.size, 0, none⟩ = some (.float .f64 x) from World.cell?_alloc_new _ _ _ _)
      clear bD HLE1 HLE2
      go_wp2_with (first | (refine wpl_pushF _ rfl (.tmp 35) (.tmp 41) rfl w.heap.size (.slice q1 i c1) (l.take i) rfl HOD.out.own1 ⟨wr.heap.size, 0, none⟩ rfl x HXD.out i HL1.out (by omega) hND ?_; rintro g3 c3 w2 hO2 hg2 ho2; have HB2 := Lib.hid (HBD.out.grown hg2 hND (fun k hk => (HOD.out.own1.lt k hk).1)); have HO2 := Lib.hid (HOD.out.push hO2 hg2 ho2); have x2 : w2.cell? ⟨pc, po + m, none⟩ = some (.int .u64 (y : Int)) := (by rw [HB2.out.cell (by exact hpb)]; exact HXM.out); have hN2 := HB2.out.size; have bD2 : Below w2.heap.size w2 (w2.alloc (.cells #[.float .f64 y] 24)) := (Below.refl _ _).alloc (Nat.le_refl _) _; have hND2 : w.heap.size ≤ (w2.alloc (.cells #[.float .f64 y] 24)).heap.size := (by rw [World.size_alloc]; exact Nat.le_succ_of_le hN2); have HOD2 := Lib.hid ((HO2.out.of_below bD2).symm); have HBD2 := Lib.hid (show Below w.heap.size w (w2.alloc (.cells #[.float .f64 y] 24)) from HB2.out.trans (bD2.mono hN2)); have HXD2 := Lib.hid (show (w2.alloc (.cells #[.float .f64 y] 24)).cell? ⟨w2.heap.size, 0, none⟩ = some (.float .f64 y) from World.cell?_alloc_new _ _ _ _); clear hO2 hg2 ho2 bD2 HO2 HB2) | (refine wpl_pushF _ rfl (.tmp 43) (.tmp 54) rfl w.heap.size (.slice q2 i c2) ((turnL l k).take i) rfl HOD2.out.own1 ⟨w2.heap.size, 0, none⟩ rfl y HXD2.out i HL2.out (by omega) hND2 ?_; rintro g4 c4 w3 hO3 hg3 ho3; have HB3 := Lib.hid (HBD2.out.grown hg3 hND2 (fun k hk => (HOD2.out.own1.lt k hk).1)); have HO3 := Lib.hid ((HOD2.out.push hO3 hg3 ho3).symm); clear hO3 hg3 ho3))
      exact ⟨⟨i + 1, by omega, by go_num, by rw [HT1.out, HT2.out]; exact HO3.out, HB3.out⟩, by simp [intOf]; omega⟩
    · have hltz : ¬ (i : Int) < (n : Int) := by omega
      have hie : i = n := by omega
      have HTA := Lib.hid (show l.take i = l from List.take_of_length_le (by rw [HL.out]; omega))
      have HTB := Lib.hid (show (turnL l k).take i = turnL l k from List.take_of_length_le (by rw [turnL_length, HL.out]; omega))
      have HLA := Lib.hid (show Le fV wr q1 l from by rw [← HTA.out]; exact HLE1.out)
      have HLB := Lib.hid (show Le fV wr q2 (turnL l k) from by rw [← HTB.out]; exact HLE2.out)
      have HPM := Lib.hid (turnL_perm l k (by rw [HL.out]; omega))
      have HTL := Lib.hid (show (turnL l k).length = n from by rw [turnL_length, HL.out])
      subst hie
      clear HLE1 HLE2 HO HL1 HL2 HTA HTB
      go_wp2_with fail
      refine (sorted_any l q1 i c1 wr HL.out HLA.out HBL.out (by omega)).mono ?_
      rintro e w2 ⟨gx, dx, rfl, hgx, hF2, hO2, hB2⟩
      have HF2 := Lib.hid hF2
      have HX := Lib.hid hO2
      have HLB2 := Lib.hid (HLB.out.of_below hB2)
      have HLA2 := Lib.hid (HLA.out.of_below hB2)
      have HB2 := Lib.hid (bel_stepS HB.out hB2)
      clear hF2 hO2 hB2 HB HLB HLA
      go_wp2_with fail
      refine (sorted_any (turnL l k) q2 i c2 w2 HTL.out HLB2.out (fun x hx => HBL.out x (HPM.out.mem_iff.1 hx)) (by omega)).mono ?_
      rintro e w3 ⟨gy, dy, rfl, hgy, hF3, hO3, hB3⟩
      have HY := Lib.hid hO3
      have HFX := Lib.hid (Row.of_below HF2.out hB3)
      have HFY := Lib.hid hF3
      have HLA3 := Lib.hid (HLA2.out.of_below hB3)
      have HB3 := Lib.hid (bel_stepS HB2.out hB3)
      clear hF3 hO3 hB3 HF2 HLB2 HLA2 HB2
      have hne : ((i : Int) != (i : Int)) = false := by simp
      go_wp2
      go_loopw [75] (fun vj wr => ∃ j : Nat, j ≤ i ∧ vj = .int .i64 j ∧ Below w3.heap.size w3 wr) (fun vj _ => i - (intOf vj).toNat)
      case atStart => exact ⟨0, Nat.zero_le _, rfl, Below.refl _ _⟩
      case round =>
        obtain ⟨j, hji, rfl, hD⟩ := hrel
        have HD := Lib.hid hD
        clear hD
        by_cases hlt2 : j < i
        · have hltz2 : (j : Int) < (i : Int) := by omega
          have bx : gx < wr.heap.size := Nat.lt_of_lt_of_le (Row.lt HFX.out) HD.out.size
          have by_ : gy < wr.heap.size := Nat.lt_of_lt_of_le (Row.lt HFY.out) HD.out.size
          have FX := Lib.hid (Row.of_below HFX.out HD.out)
          have FY := Lib.hid (Row.of_below HFY.out HD.out)
          have HLA := Lib.hid (HLA3.out.of_below HD.out)
          have x1 := Row.cell FX.out j hlt2
          have x2 := Row.cell FY.out j hlt2
          obtain ⟨ca, oa, ea, ba, ya⟩ := HLA.out j (by rw [HL.out]; exact hlt2)
          subst ea
          have x3 : wr.cell? ⟨ca, oa + j, none⟩ = some (.float .f64 (l.getD j 0)) := ya
          clear ya
          have hbl : l.getD j 0 < 18446744073709551616 := HBL.out _ (by rw [List.getD_eq_getElem?_getD, List.getElem?_eq_getElem (by rw [HL.out]; exact hlt2)]; exact List.getElem_mem _)
          have hml : l.getD j 0 ∈ l := by rw [List.getD_eq_getElem?_getD, List.getElem?_eq_getElem (by rw [HL.out]; exact hlt2)]; exact List.getElem_mem _
          have hsame := HX.out.same HY.out HPM.out.symm j hlt2
          have HQ1 := Lib.hid (fun w => less_no (dx j) (dy j) (HX.out.lt j hlt2) (HY.out.lt j hlt2) (by omega) w)
          have HQ2 := Lib.hid (fun w => less_no (dy j) (dx j) (HY.out.lt j hlt2) (HX.out.lt j hlt2) (by omega) w)
          have HQ4 := Lib.hid (fun (d' : Nat → Nat) (h : InOrder l i d') w => less_no (l.getD j 0) (d' 0) hbl (h.lt 0 h0) (by have := h.least _ hml; omega) w)
          have HBK := Lib.hid (Below.refl wr.heap.size wr)
          by_cases hj0 : 0 < j
          · have hj0z : (0 : Int) < (j : Int) := by omega
            obtain ⟨t, rfl⟩ : ∃ t, j = t + 1 := ⟨j - 1, by omega⟩
            have hj0d : decide ((0 : Int) < (t : Int) + 1) = true := decide_eq_true (by omega)
            have hj0e : (0 : Int) < (t : Int) + 1 := by omega
            have r1 : IntKind.i64.wrap ((t : Int) + 1 - 1) = (t : Int) := by rw [IntWalk.i64_in _ (by omega)]; omega
            have r1b : (t : Int) + 1 - 1 = (t : Int) := by omega
            have r5 : (t : Int) + 1 < (i : Int) := by omega
            have r6 : (t : Int) < (i : Int) := by omega
            have r7 : ((t : Int) + 1).toNat = t + 1 := by omega
            have r8 : (0 : Int) ≤ (t : Int) + 1 := by omega
            have r9 : IntKind.i64.wrap (t : Int) = (t : Int) := IntWalk.i64_in _ (by omega)
            have x4 := Row.cell FX.out t (by omega)
            have HQ3 := Lib.hid (fun w => less_no (dx (t + 1)) (dx t) (HX.out.lt (t + 1) hlt2) (HX.out.lt _ (by omega)) (by have := HX.out.srt t (t + 1) (Nat.zero_le _) (by omega) hlt2; omega) w)
            clear hsame hml hbl
            generalize dx t = xp at *
            generalize dx (t + 1) = xd at *
            generalize dy (t + 1) = yd at *
            generalize l.getD (t + 1) 0 = ad at *
            have KS := Lib.hid (fun (w' : World) (h : Below wr.heap.size wr w') => show w'.cell? ⟨gx, t + 1, none⟩ = some (.float .f64 xd) ∧ w'.cell? ⟨gy, t + 1, none⟩ = some (.float .f64 yd) ∧ w'.cell? ⟨ca, oa + (t + 1), none⟩ = some (.float .f64 ad) ∧ w'.cell? ⟨gx, t, none⟩ = some (.float .f64 xp) from ⟨(h.cell (by exact bx)).trans x1, (h.cell (by exact by_)).trans x2, (h.cell (by exact ba)).trans x3, (h.cell (by exact bx)).trans x4⟩)
            go_wp2_with fail
            go_region_held3 (fun w' : World => w'.cell? ⟨gx, t + 1, none⟩ = some (.float .f64 xd) ∧ w'.cell? ⟨gy, t + 1, none⟩ = some (.float .f64 yd) ∧ w'.cell? ⟨ca, oa + (t + 1), none⟩ = some (.float .f64 ad) ∧ w'.cell? ⟨gx, t, none⟩ = some (.float .f64 xp)) (first | exact ⟨x1, x2, x3, x4⟩ | exact KS.out _ HBK.out) (first | (go_at_call 16; refine (worst_any l _ i c1 _ HL.out (HLA.out.of_below (by first | exact HBK.out | exact HBK.out.drew)) HBL.out (by omega) h0).mono ?_; rintro e w6 ⟨dw, rfl, hO6, hB6⟩; have HBK := Lib.hid (show Below wr.heap.size wr w6 from by first | exact HBK.out.trans (hB6.mono HBK.out.size) | exact (HBK.out.drew).trans (by exact hB6.mono HBK.out.size)); have HOW := Lib.hid hO6; clear hO6 hB6) | (go_at_call 11; with_reducible refine (HQ4.out dw HOW.out _).mono ?_; rintro e w5 ⟨rfl, hD5⟩; have HBK := Lib.hid (show Below wr.heap.size wr w5 from HBK.out.trans (hD5.below _)); clear hD5) | (go_at_call 11; with_reducible refine (HQ1.out _).mono ?_; rintro e w5 ⟨rfl, hD5⟩; have HBK := Lib.hid (show Below wr.heap.size wr w5 from by first | exact HBK.out.trans (hD5.below _) | exact (HBK.out.drew).trans (hD5.below _)); clear hD5) | (go_at_call 11; with_reducible refine (HQ2.out _).mono ?_; rintro e w5 ⟨rfl, hD5⟩; have HBK := Lib.hid (show Below wr.heap.size wr w5 from by first | exact HBK.out.trans (hD5.below _) | exact (HBK.out.drew).trans (hD5.below _)); clear hD5) | (go_at_call 11; with_reducible refine (HQ3.out _).mono ?_; rintro e w5 ⟨rfl, hD5⟩; have HBK := Lib.hid (show Below wr.heap.size wr w5 from by first | exact HBK.out.trans (hD5.below _) | exact (HBK.out.drew).trans (hD5.below _)); clear hD5))
            all_goals
              go_wp2
              go_roundw
              case rel => exact ⟨t + 1 + 1, by omega, by go_num, HD.out.trans (HBK.out.mono HD.out.size)⟩
              case measure => simp [intOf]; omega
          · obtain rfl : j = 0 := by omega
            rw [Nat.add_zero] at x3
            have m5 : 0 < i := hlt2
            have m6 : (0 : Int) < (i : Int) := by omega
            clear hj0
            clear hsame hml hbl
            generalize dx 0 = xd at *
            generalize dy 0 = yd at *
            generalize l.getD 0 0 = ad at *
            have KS := Lib.hid (fun (w' : World) (h : Below wr.heap.size wr w') => show w'.cell? ⟨gx, 0, none⟩ = some (.float .f64 xd) ∧ w'.cell? ⟨gy, 0, none⟩ = some (.float .f64 yd) ∧ w'.cell? ⟨ca, oa, none⟩ = some (.float .f64 ad) from ⟨(h.cell (by exact bx)).trans x1, (h.cell (by exact by_)).trans x2, (h.cell (by exact ba)).trans x3⟩)
            -- by hand
            go_wp2_with fail
            refine wp_region_noPanic ?_
            refine wp_region_held_drew (S := (fun w' : World => w'.cell? ⟨gx, 0, none⟩ = some (.float .f64 xd) ∧ w'.cell? ⟨gy, 0, none⟩ = some (.float .f64 yd) ∧ w'.cell? ⟨ca, oa, none⟩ = some (.float .f64 ad))) (by kernel_rfl) (KS.out _ HBK.out.drew) (fun hHeld => ?_)
            have HBK := Lib.hid HBK.out.drew
            refine wpAnyH_take (i := 0) (v := ?_) (by simp only [List.getElem?_toArray, List.getElem?_cons_succ, List.getElem?_cons_zero]; exact rfl) (by kernel_rfl) (by kernel_rfl) (by kernel_rfl) (fun _ _ _ h => h) (Or.inl ⟨by rfl, ?_⟩) (by assumption) ?_
            rotate_left 1
            · (intro w hSw; (try dsimp only at hSw); go_simp; try with_reducible rfl)
            try simp only [Act.put, List.setIfInBounds_toArray, List.set_cons_zero, List.set_cons_succ]
            refine wpAnyH_take (i := 1) (v := ?_) (by simp only [List.getElem?_toArray, List.getElem?_cons_succ, List.getElem?_cons_zero]; exact rfl) (by kernel_rfl) (by kernel_rfl) (by kernel_rfl) (fun _ _ _ h => h) (Or.inl ⟨by rfl, ?_⟩) (by assumption) ?_
            rotate_left 1
            · (intro w hSw; (try dsimp only at hSw); go_simp; try with_reducible rfl)
            try simp only [Act.put, List.setIfInBounds_toArray, List.set_cons_zero, List.set_cons_succ]
            refine wpAnyH_take (i := 2) (v := ?_) (by simp only [List.getElem?_toArray, List.getElem?_cons_succ, List.getElem?_cons_zero]; exact rfl) (by kernel_rfl) (by kernel_rfl) (by kernel_rfl) (fun _ _ _ h => h) (Or.inl ⟨by rfl, ?_⟩) (by assumption) ?_
            rotate_left 1
            · (intro w hSw; (try dsimp only at hSw); go_simp; try with_reducible rfl)
            try simp only [Act.put, List.setIfInBounds_toArray, List.set_cons_zero, List.set_cons_succ]
            refine wpAnyH_take (i := 3) (v := ?_) (by simp only [List.getElem?_toArray, List.getElem?_cons_succ, List.getElem?_cons_zero]; exact rfl) (by kernel_rfl) (by kernel_rfl) (by kernel_rfl) (fun _ _ _ h => h) (Or.inl ⟨by rfl, ?_⟩) (by assumption) ?_
            rotate_left 1
            · (intro w hSw; (try dsimp only at hSw); go_simp; try with_reducible rfl)
            try simp only [Act.put, List.setIfInBounds_toArray, List.set_cons_zero, List.set_cons_succ]
            refine wpAnyH_take (i := 4) (v := ?_) (by simp only [List.getElem?_toArray, List.getElem?_cons_succ, List.getElem?_cons_zero]; exact rfl) (by kernel_rfl) (by kernel_rfl) (by kernel_rfl) (fun _ _ _ h => h) (Or.inl ⟨by rfl, ?_⟩) (by assumption) ?_
            rotate_left 1
            · (intro w hSw; (try dsimp only at hSw); go_simp; try with_reducible rfl)
            try simp only [Act.put, List.setIfInBounds_toArray, List.set_cons_zero, List.set_cons_succ]
            refine wpAnyH_take (i := 5) (v := ?_) (by simp only [List.getElem?_toArray, List.getElem?_cons_succ, List.getElem?_cons_zero]; exact rfl) (by kernel_rfl) (by kernel_rfl) (by kernel_rfl) (fun _ _ _ h => h) (Or.inl ⟨by rfl, ?_⟩) (by assumption) ?_
            rotate_left 1
            · (intro w hSw; (try dsimp only at hSw); go_simp; try with_reducible rfl)
            try simp only [Act.put, List.setIfInBounds_toArray, List.set_cons_zero, List.set_cons_succ]
            refine wpAnyH_take (i := 6) (v := ?_) (by simp only [List.getElem?_toArray, List.getElem?_cons_succ, List.getElem?_cons_zero]; exact rfl) (by kernel_rfl) (by kernel_rfl) (by kernel_rfl) (fun _ _ _ h => h) (Or.inl ⟨by rfl, ?_⟩) (by assumption) ?_
            rotate_left 1
            · (intro w hSw; (try dsimp only at hSw); go_simp; try with_reducible rfl)
            try simp only [Act.put, List.setIfInBounds_toArray, List.set_cons_zero, List.set_cons_succ]
            refine wpAnyH_take (i := 7) (v := ?_) (by simp only [List.getElem?_toArray, List.getElem?_cons_succ, List.getElem?_cons_zero]; exact rfl) (by kernel_rfl) (by kernel_rfl) (by kernel_rfl) (fun _ _ _ h => h) (Or.inl ⟨by rfl, ?_⟩) (by assumption) ?_
            rotate_left 1
            · (intro w hSw; (try dsimp only at hSw); go_simp; try with_reducible rfl)
            try simp only [Act.put, List.setIfInBounds_toArray, List.set_cons_zero, List.set_cons_succ]
            refine wpAnyH_ready (rs := [8]) (by kernel_rfl) (by simp) ?_
            refine AllReadyH.cons (by simp only [List.getElem?_toArray, List.getElem?_cons_succ, List.getElem?_cons_zero]; exact rfl) (fun K hK => ?_) AllReadyH.nil
            go_simp
            refine (HQ1.out _).mono ?_
            rintro e v5 ⟨rfl, hD5⟩
            have HBK := Lib.hid (HBK.out.trans (hD5.below _))
            clear hD5
            go_wp2_with fail
            refine hK.out _ _ (KS.out _ HBK.out) (fun hHeld => ?_)
            clear hK K
            try simp only [Act.put, List.setIfInBounds_toArray, List.set_cons_zero, List.set_cons_succ]
            refine wpAnyH_take (i := 9) (v := ?_) (by simp only [List.getElem?_toArray, List.getElem?_cons_succ, List.getElem?_cons_zero]; exact rfl) (by kernel_rfl) (by kernel_rfl) (by kernel_rfl) (fun _ _ _ h => h) (Or.inl ⟨by rfl, ?_⟩) (by assumption) ?_
            rotate_left 1
            · (intro w hSw; (try dsimp only at hSw); go_simp; try with_reducible rfl)
            try simp only [Act.put, List.setIfInBounds_toArray, List.set_cons_zero, List.set_cons_succ]
            refine wpAnyH_take (i := 10) (v := ?_) (by simp only [List.getElem?_toArray, List.getElem?_cons_succ, List.getElem?_cons_zero]; exact rfl) (by kernel_rfl) (by kernel_rfl) (by kernel_rfl) (fun _ _ _ h => h) (Or.inl ⟨by rfl, ?_⟩) (by assumption) ?_
            rotate_left 1
            · (intro w hSw; (try dsimp only at hSw); go_simp; try with_reducible rfl)
            try simp only [Act.put, List.setIfInBounds_toArray, List.set_cons_zero, List.set_cons_succ]
            refine wpAnyH_take (i := 11) (v := ?_) (by simp only [List.getElem?_toArray, List.getElem?_cons_succ, List.getElem?_cons_zero]; exact rfl) (by kernel_rfl) (by kernel_rfl) (by kernel_rfl) (fun _ _ _ h => h) (Or.inl ⟨by rfl, ?_⟩) (by assumption) ?_
            rotate_left 1
            · (intro w hSw; (try dsimp only at hSw); go_simp; try with_reducible rfl)
            try simp only [Act.put, List.setIfInBounds_toArray, List.set_cons_zero, List.set_cons_succ]
            refine wpAnyH_take (i := 12) (v := ?_) (by simp only [List.getElem?_toArray, List.getElem?_cons_succ, List.getElem?_cons_zero]; exact rfl) (by kernel_rfl) (by kernel_rfl) (by kernel_rfl) (fun _ _ _ h => h) (Or.inl ⟨by rfl, ?_⟩) (by assumption) ?_
            rotate_left 1
            · (intro w hSw; (try dsimp only at hSw); go_simp; try with_reducible rfl)
            try simp only [Act.put, List.setIfInBounds_toArray, List.set_cons_zero, List.set_cons_succ]
            refine wpAnyH_take (i := 13) (v := ?_) (by simp only [List.getElem?_toArray, List.getElem?_cons_succ, List.getElem?_cons_zero]; exact rfl) (by kernel_rfl) (by kernel_rfl) (by kernel_rfl) (fun _ _ _ h => h) (Or.inl ⟨by rfl, ?_⟩) (by assumption) ?_
            rotate_left 1
            · (intro w hSw; (try dsimp only at hSw); go_simp; try with_reducible rfl)
            try simp only [Act.put, List.setIfInBounds_toArray, List.set_cons_zero, List.set_cons_succ]
            refine wpAnyH_take (i := 14) (v := ?_) (by simp only [List.getElem?_toArray, List.getElem?_cons_succ, List.getElem?_cons_zero]; exact rfl) (by kernel_rfl) (by kernel_rfl) (by kernel_rfl) (fun _ _ _ h => h) (Or.inl ⟨by rfl, ?_⟩) (by assumption) ?_
            rotate_left 1
            · (intro w hSw; (try dsimp only at hSw); go_simp; try with_reducible rfl)
            try simp only [Act.put, List.setIfInBounds_toArray, List.set_cons_zero, List.set_cons_succ]
            refine wpAnyH_take (i := 15) (v := ?_) (by simp only [List.getElem?_toArray, List.getElem?_cons_succ, List.getElem?_cons_zero]; exact rfl) (by kernel_rfl) (by kernel_rfl) (by kernel_rfl) (fun _ _ _ h => h) (Or.inl ⟨by rfl, ?_⟩) (by assumption) ?_
            rotate_left 1
            · (intro w hSw; (try dsimp only at hSw); go_simp; try with_reducible rfl)
            try simp only [Act.put, List.setIfInBounds_toArray, List.set_cons_zero, List.set_cons_succ]
            refine wpAnyH_take (i := 16) (v := ?_) (by simp only [List.getElem?_toArray, List.getElem?_cons_succ, List.getElem?_cons_zero]; exact rfl) (by kernel_rfl) (by kernel_rfl) (by kernel_rfl) (fun _ _ _ h => h) (Or.inl ⟨by rfl, ?_⟩) (by assumption) ?_
            rotate_left 1
            · (intro w hSw; (try dsimp only at hSw); go_simp; try with_reducible rfl)
            try simp only [Act.put, List.setIfInBounds_toArray, List.set_cons_zero, List.set_cons_succ]
            refine wpAnyH_take (i := 17) (v := ?_) (by simp only [List.getElem?_toArray, List.getElem?_cons_succ, List.getElem?_cons_zero]; exact rfl) (by kernel_rfl) (by kernel_rfl) (by kernel_rfl) (fun _ _ _ h => h) (Or.inl ⟨by rfl, ?_⟩) (by assumption) ?_
            rotate_left 1
            · (intro w hSw; (try dsimp only at hSw); go_simp; try with_reducible rfl)
            try simp only [Act.put, List.setIfInBounds_toArray, List.set_cons_zero, List.set_cons_succ]
            refine wpAnyH_ready (rs := [18]) (by kernel_rfl) (by simp) ?_
            refine AllReadyH.cons (by simp only [List.getElem?_toArray, List.getElem?_cons_succ, List.getElem?_cons_zero]; exact rfl) (fun K hK => ?_) AllReadyH.nil
            go_simp
            refine (HQ2.out _).mono ?_
            rintro e v6 ⟨rfl, hD5⟩
            have HBK := Lib.hid (HBK.out.trans (hD5.below _))
            clear hD5
            go_wp2_with fail
            refine hK.out _ _ (KS.out _ HBK.out) (fun hHeld => ?_)
            clear hK K
            try simp only [Act.put, List.setIfInBounds_toArray, List.set_cons_zero, List.set_cons_succ]
            refine wpAnyH_take (i := 19) (v := ?_) (by simp only [List.getElem?_toArray, List.getElem?_cons_succ, List.getElem?_cons_zero]; exact rfl) (by kernel_rfl) (by kernel_rfl) (by kernel_rfl) (fun _ _ _ h => h) (Or.inl ⟨by rfl, ?_⟩) (by assumption) ?_
            rotate_left 1
            · (intro w hSw; (try dsimp only at hSw); go_simp; try with_reducible rfl)
            try simp only [Act.put, List.setIfInBounds_toArray, List.set_cons_zero, List.set_cons_succ]
            refine wpAnyH_take (i := 20) (v := ?_) (by simp only [List.getElem?_toArray, List.getElem?_cons_succ, List.getElem?_cons_zero]; exact rfl) (by kernel_rfl) (by kernel_rfl) (by kernel_rfl) (fun _ _ _ h => h) (Or.inl ⟨by rfl, ?_⟩) (by assumption) ?_
            rotate_left 1
            · (intro w hSw; (try dsimp only at hSw); go_simp; try with_reducible rfl)
            try simp only [Act.put, List.setIfInBounds_toArray, List.set_cons_zero, List.set_cons_succ]
            refine wpAnyH_take (i := 21) (v := ?_) (by simp only [List.getElem?_toArray, List.getElem?_cons_succ, List.getElem?_cons_zero]; exact rfl) (by kernel_rfl) (by kernel_rfl) (by kernel_rfl) (fun _ _ _ h => h) (Or.inl ⟨by rfl, ?_⟩) (by assumption) ?_
            rotate_left 1
            · (intro w hSw; (try dsimp only at hSw); go_simp; try with_reducible rfl)
            try simp only [Act.put, List.setIfInBounds_toArray, List.set_cons_zero, List.set_cons_succ]
            refine wpAnyH_take (i := 22) (v := ?_) (by simp only [List.getElem?_toArray, List.getElem?_cons_succ, List.getElem?_cons_zero]; exact rfl) (by kernel_rfl) (by kernel_rfl) (by kernel_rfl) (fun _ _ _ h => h) (Or.inl ⟨by rfl, ?_⟩) (by assumption) ?_
            rotate_left 1
            · (intro w hSw; (try dsimp only at hSw); go_simp; try with_reducible rfl)
            try simp only [Act.put, List.setIfInBounds_toArray, List.set_cons_zero, List.set_cons_succ]
            refine wpAnyH_take (i := 23) (v := ?_) (by simp only [List.getElem?_toArray, List.getElem?_cons_succ, List.getElem?_cons_zero]; exact rfl) (by kernel_rfl) (by kernel_rfl) (by kernel_rfl) (fun _ _ _ h => h) (Or.inl ⟨by rfl, ?_⟩) (by assumption) ?_
            rotate_left 1
            · (intro w hSw; (try dsimp only at hSw); go_simp; try with_reducible rfl)
            try simp only [Act.put, List.setIfInBounds_toArray, List.set_cons_zero, List.set_cons_succ]
            refine wpAnyH_take (i := 24) (v := undef) (by simp only [List.getElem?_toArray, List.getElem?_cons_succ, List.getElem?_cons_zero]; exact rfl) (by kernel_rfl) (by kernel_rfl) (by kernel_rfl) (fun _ _ _ h => h) (Or.inr ⟨by rfl, rfl⟩) (by assumption) ?_
            try simp only [Act.put, List.setIfInBounds_toArray, List.set_cons_zero, List.set_cons_succ]
            refine wpAnyH_take (i := 25) (v := undef) (by simp only [List.getElem?_toArray, List.getElem?_cons_succ, List.getElem?_cons_zero]; exact rfl) (by kernel_rfl) (by kernel_rfl) (by kernel_rfl) (fun _ _ _ h => h) (Or.inr ⟨by rfl, rfl⟩) (by assumption) ?_
            try simp only [Act.put, List.setIfInBounds_toArray, List.set_cons_zero, List.set_cons_succ]
            refine wpAnyH_take (i := 26) (v := undef) (by simp only [List.getElem?_toArray, List.getElem?_cons_succ, List.getElem?_cons_zero]; exact rfl) (by kernel_rfl) (by kernel_rfl) (by kernel_rfl) (fun _ _ _ h => h) (Or.inr ⟨by rfl, rfl⟩) (by assumption) ?_
            try simp only [Act.put, List.setIfInBounds_toArray, List.set_cons_zero, List.set_cons_succ]
            refine wpAnyH_take (i := 27) (v := undef) (by simp only [List.getElem?_toArray, List.getElem?_cons_succ, List.getElem?_cons_zero]; exact rfl) (by kernel_rfl) (by kernel_rfl) (by kernel_rfl) (fun _ _ _ h => h) (Or.inr ⟨by rfl, rfl⟩) (by assumption) ?_
            try simp only [Act.put, List.setIfInBounds_toArray, List.set_cons_zero, List.set_cons_succ]
            refine wpAnyH_take (i := 28) (v := undef) (by simp only [List.getElem?_toArray, List.getElem?_cons_succ, List.getElem?_cons_zero]; exact rfl) (by kernel_rfl) (by kernel_rfl) (by kernel_rfl) (fun _ _ _ h => h) (Or.inr ⟨by rfl, rfl⟩) (by assumption) ?_
            try simp only [Act.put, List.setIfInBounds_toArray, List.set_cons_zero, List.set_cons_succ]
            refine wpAnyH_take (i := 29) (v := undef) (by simp only [List.getElem?_toArray, List.getElem?_cons_succ, List.getElem?_cons_zero]; exact rfl) (by kernel_rfl) (by kernel_rfl) (by kernel_rfl) (fun _ _ _ h => h) (Or.inr ⟨by rfl, rfl⟩) (by assumption) ?_
            try simp only [Act.put, List.setIfInBounds_toArray, List.set_cons_zero, List.set_cons_succ]
            refine wpAnyH_take (i := 30) (v := undef) (by simp only [List.getElem?_toArray, List.getElem?_cons_succ, List.getElem?_cons_zero]; exact rfl) (by kernel_rfl) (by kernel_rfl) (by kernel_rfl) (fun _ _ _ h => h) (Or.inr ⟨by rfl, rfl⟩) (by assumption) ?_
            try simp only [Act.put, List.setIfInBounds_toArray, List.set_cons_zero, List.set_cons_succ]
            refine wpAnyH_take (i := 31) (v := undef) (by simp only [List.getElem?_toArray, List.getElem?_cons_succ, List.getElem?_cons_zero]; exact rfl) (by kernel_rfl) (by kernel_rfl) (by kernel_rfl) (fun _ _ _ h => h) (Or.inr ⟨by rfl, rfl⟩) (by assumption) ?_
            try simp only [Act.put, List.setIfInBounds_toArray, List.set_cons_zero, List.set_cons_succ]
            refine wpAnyH_take (i := 32) (v := undef) (by simp only [List.getElem?_toArray, List.getElem?_cons_succ, List.getElem?_cons_zero]; exact rfl) (by kernel_rfl) (by kernel_rfl) (by kernel_rfl) (fun _ _ _ h => h) (Or.inr ⟨by rfl, rfl⟩) (by assumption) ?_
            try simp only [Act.put, List.setIfInBounds_toArray, List.set_cons_zero, List.set_cons_succ]
            refine wpAnyH_take (i := 33) (v := undef) (by simp only [List.getElem?_toArray, List.getElem?_cons_succ, List.getElem?_cons_zero]; exact rfl) (by kernel_rfl) (by kernel_rfl) (by kernel_rfl) (fun _ _ _ h => h) (Or.inr ⟨by rfl, rfl⟩) (by assumption) ?_
            try simp only [Act.put, List.setIfInBounds_toArray, List.set_cons_zero, List.set_cons_succ]
            refine wpAnyH_take (i := 34) (v := ?_) (by simp only [List.getElem?_toArray, List.getElem?_cons_succ, List.getElem?_cons_zero]; exact rfl) (by kernel_rfl) (by kernel_rfl) (by kernel_rfl) (fun _ _ _ h => h) (Or.inl ⟨by rfl, ?_⟩) (by assumption) ?_
            rotate_left 1
            · (intro w hSw; (try dsimp only at hSw); go_simp; try with_reducible rfl)
            try simp only [Act.put, List.setIfInBounds_toArray, List.set_cons_zero, List.set_cons_succ]
            refine wpAnyH_take (i := 35) (v := ?_) (by simp only [List.getElem?_toArray, List.getElem?_cons_succ, List.getElem?_cons_zero]; exact rfl) (by kernel_rfl) (by kernel_rfl) (by kernel_rfl) (fun _ _ _ h => h) (Or.inl ⟨by rfl, ?_⟩) (by assumption) ?_
            rotate_left 1
            · (intro w hSw; (try dsimp only at hSw); go_simp; try with_reducible rfl)
            try simp only [Act.put, List.setIfInBounds_toArray, List.set_cons_zero, List.set_cons_succ]
            refine wpAnyH_take (i := 36) (v := ?_) (by simp only [List.getElem?_toArray, List.getElem?_cons_succ, List.getElem?_cons_zero]; exact rfl) (by kernel_rfl) (by kernel_rfl) (by kernel_rfl) (fun _ _ _ h => h) (Or.inl ⟨by rfl, ?_⟩) (by assumption) ?_
            rotate_left 1
            · (intro w hSw; (try dsimp only at hSw); go_simp; try with_reducible rfl)
            try simp only [Act.put, List.setIfInBounds_toArray, List.set_cons_zero, List.set_cons_succ]
            refine wpAnyH_take (i := 37) (v := ?_) (by simp only [List.getElem?_toArray, List.getElem?_cons_succ, List.getElem?_cons_zero]; exact rfl) (by kernel_rfl) (by kernel_rfl) (by kernel_rfl) (fun _ _ _ h => h) (Or.inl ⟨by rfl, ?_⟩) (by assumption) ?_
            rotate_left 1
            · (intro w hSw; (try dsimp only at hSw); go_simp; try with_reducible rfl)
            try simp only [Act.put, List.setIfInBounds_toArray, List.set_cons_zero, List.set_cons_succ]
            refine wpAnyH_take (i := 38) (v := ?_) (by simp only [List.getElem?_toArray, List.getElem?_cons_succ, List.getElem?_cons_zero]; exact rfl) (by kernel_rfl) (by kernel_rfl) (by kernel_rfl) (fun _ _ _ h => h) (Or.inl ⟨by rfl, ?_⟩) (by assumption) ?_
            rotate_left 1
            · (intro w hSw; (try dsimp only at hSw); go_simp; try with_reducible rfl)
            try simp only [Act.put, List.setIfInBounds_toArray, List.set_cons_zero, List.set_cons_succ]
            refine wpAnyH_take (i := 39) (v := ?_) (by simp only [List.getElem?_toArray, List.getElem?_cons_succ, List.getElem?_cons_zero]; exact rfl) (by kernel_rfl) (by kernel_rfl) (by kernel_rfl) (fun _ _ _ h => h) (Or.inl ⟨by rfl, ?_⟩) (by assumption) ?_
            rotate_left 1
            · (intro w hSw; (try dsimp only at hSw); go_simp; try with_reducible rfl)
            try simp only [Act.put, List.setIfInBounds_toArray, List.set_cons_zero, List.set_cons_succ]
            refine wpAnyH_take (i := 40) (v := ?_) (by simp only [List.getElem?_toArray, List.getElem?_cons_succ, List.getElem?_cons_zero]; exact rfl) (by kernel_rfl) (by kernel_rfl) (by kernel_rfl) (fun _ _ _ h => h) (Or.inl ⟨by rfl, ?_⟩) (by assumption) ?_
            rotate_left 1
            · (intro w hSw; (try dsimp only at hSw); go_simp; try with_reducible rfl)
            try simp only [Act.put, List.setIfInBounds_toArray, List.set_cons_zero, List.set_cons_succ]
            refine wpAnyH_take (i := 41) (v := ?_) (by simp only [List.getElem?_toArray, List.getElem?_cons_succ, List.getElem?_cons_zero]; exact rfl) (by kernel_rfl) (by kernel_rfl) (by kernel_rfl) (fun _ _ _ h => h) (Or.inl ⟨by rfl, ?_⟩) (by assumption) ?_
            rotate_left 1
            · (intro w hSw; (try dsimp only at hSw); go_simp; try with_reducible rfl)
            try simp only [Act.put, List.setIfInBounds_toArray, List.set_cons_zero, List.set_cons_succ]
            refine wpAnyH_ready (rs := [42]) (by kernel_rfl) (by simp) ?_
            refine AllReadyH.cons (by simp only [List.getElem?_toArray, List.getElem?_cons_succ, List.getElem?_cons_zero]; exact rfl) (fun K hK => ?_) AllReadyH.nil
            go_simp
            refine (worst_any l _ i c1 _ HL.out (HLA.out.of_below HBK.out) HBL.out (by omega) h0).mono ?_
            rintro e v7 ⟨dw, rfl, hO6, hB6⟩
            have HBK := Lib.hid (HBK.out.trans (hB6.mono HBK.out.size))
            have HOW := Lib.hid hO6
            clear hO6 hB6
            go_wp2_with fail
            refine hK.out _ _ (KS.out _ HBK.out) (fun hHeld => ?_)
            clear hK K
            try simp only [Act.put, List.setIfInBounds_toArray, List.set_cons_zero, List.set_cons_succ]
            refine wpAnyH_ready (rs := [43]) (by kernel_rfl) (by simp) ?_
            refine AllReadyH.cons (by simp only [List.getElem?_toArray, List.getElem?_cons_succ, List.getElem?_cons_zero]; exact rfl) (fun K hK => ?_) AllReadyH.nil
            go_simp
            refine (HQ4.out dw HOW.out _).mono ?_
            rintro e v8 ⟨rfl, hD5⟩
            have HBK := Lib.hid (HBK.out.trans (hD5.below _))
            clear hD5
            go_wp2_with fail
            refine hK.out _ _ (KS.out _ HBK.out) (fun hHeld => ?_)
            clear hK K
            try simp only [Act.put, List.setIfInBounds_toArray, List.set_cons_zero, List.set_cons_succ]
            refine wpAnyH_take (i := 44) (v := ?_) (by simp only [List.getElem?_toArray, List.getElem?_cons_succ, List.getElem?_cons_zero]; exact rfl) (by kernel_rfl) (by kernel_rfl) (by kernel_rfl) (fun _ _ _ h => h) (Or.inl ⟨by rfl, ?_⟩) (by assumption) ?_
            rotate_left 1
            · (intro w hSw; (try dsimp only at hSw); go_simp; try with_reducible rfl)
            try simp only [Act.put, List.setIfInBounds_toArray, List.set_cons_zero, List.set_cons_succ]
            refine wpAnyH_done (by kernel_rfl) ?_ _
            refine NoPanic.normal ?_
            go_wp2
            go_roundw
            case rel => exact ⟨1, by omega, by go_num, HD.out.trans (HBK.out.mono HD.out.size)⟩
            case measure => simp [intOf]; omega
        · have hltz2 : ¬ (j : Int) < (i : Int) := by omega
          go_wp2
          go_ret
          exact ⟨rfl, HB3.out.trans (HD.out.mono HB3.out.size)⟩
end Go.Proofs.Ytkkcphjielkmoaa
