/- SidecarMakes. -/
import Derived.Test.YtkfceloaomlhmaaDoorK5
set_option linter.unusedSimpArgs false
set_option maxRecDepth 100000
set_option linter.unusedVariables false
namespace Go.Proofs.YtkfceloaomlhmaaDoor
open Go Go.RowKit

attribute [-go_sem] Sha.exec_store
attribute [local go_sem ↓] exec_bs
attribute [local go_sem] bs0
set_option maxRecDepth 100000 in
set_option maxHeartbeats 16000000 in
theorem makes12_any (l : List (BitVec 8)) (q : Option Addr) (n cap : Nat) (w : World) (hs : Sl w q l) (hl : l.length = n) (hq : q = none → cap = 0) (hc : n ≤ cap) (hT : Tb w) :
    Calls Tryd.prog 3 #[.slice q n cap] w fun e w' => e = .returned (.bool true) ∧ Below w.heap.size w w' := by
  have HSL := Lib.hid hs
  have HLN := Lib.hid hl
  have HQ := Lib.hid hq
  have HC := Lib.hid hc
  have HAW := Lib.hid (fun (u : World) (hu : Below w.heap.size w u) => awake12 u (hT.on hu))
  have HTB := Lib.hid (fun (u : World) (hu : Below w.heap.size w u) => hT.on hu)
  have HA0 := Lib.hid (awake12 w hT)
  clear hs hl hq hc hT
  go_enter Tryd.func3, Tryd.ntmps3
  go_wp2_with fail
  refine HA0.out.mono ?_
  rintro e w1 ⟨rfl, hB1⟩
  have HB1 := Lib.hid hB1
  clear hB1 HA0
  by_cases hn : n ≤ 17000
  · have a1 : ¬ (17000 : Int) < (n : Int) := by omega
    have a2 : decide ((17000 : Int) < (n : Int)) = false := decide_eq_false a1
    have hA := below_newR w1 (.cells #[] 5)
    have HOE := Lib.hid (own_emptyB w1)
    have HXE := Lib.hid (HB1.out.trans (hA.mono HB1.out.size))
    have HSE := Lib.hid (HSL.out.of_below HXE.out)
    have HZE := Lib.hid hA.size
    clear hA
    go_wp2_with (first
      | (refine wpl_appendL (w1.alloc (.cells #[] 5)) rfl (.tmp 16) (.tmp 17) rfl w1.heap.size (.slice (some ⟨w1.heap.size, 0, none⟩) 0 0) [] rfl HOE.out q n cap l HLN.out rfl HSE.out HQ.out (by simp; omega) HZE.out ?_
         rintro v3 w3 hO3 hg3 -
         rw [List.nil_append] at hO3
         have hB3 := (below_newR w1 (.cells #[] 5)).grown hg3 HZE.out (fun k hk => (HOE.out.lt k hk).1)
         have HB3 := Lib.hid (HB1.out.trans (hB3.mono HB1.out.size))
         have HO3 := Lib.hid hO3
         obtain ⟨p3, c3, hv3, hs3, hp3, hc3⟩ := hO3.shape
         subst hv3
         rw [HLN.out] at hc3 ⊢
         have HS3 := Lib.hid (And.intro hs3 (And.intro hp3 hc3))
         clear hO3 hg3 hB3 hs3 hp3 hc3))
    by_cases hn2 : n ≤ 16384
    · have HMK := Lib.hid (make12_ok l p3 n c3 w3 HLN.out HS3.out.1 HS3.out.2.1 HS3.out.2.2 hn2 (HTB.out _ HB3.out))
      refine HMK.out.mono ?_
      rintro e w5 ⟨v5, rfl, hO5, hB5⟩
      obtain ⟨p5, c5, hv5, hs5, hp5, hc5⟩ := hO5.shape
      subst hv5
      obtain ⟨m, hm⟩ : ∃ m, (mkS l).length = m := ⟨_, rfl⟩
      rw [hm]
      have b1 : ¬ (16384 : Int) < (n : Int) := by omega
      have b2 : decide ((16384 : Int) < (n : Int)) = false := decide_eq_false b1
      obtain ⟨sO, hsO⟩ : ∃ s, strOf l = s := ⟨_, rfl⟩
      have hW5 := HB3.out.trans (hB5.mono HB3.out.size)
      have hcv1 : (convert 22 9 (.slice p3 n c3)).run Tryd.prog w5 = .ok (.string sO) w5 := by rw [← hsO]; exact conv_str _ _ _ _ _ (HS3.out.1.of_below hB5) HLN.out HS3.out.2.1
      have hcv2 : (convert 22 9 (.slice q n cap)).run Tryd.prog w5 = .ok (.string sO) w5 := by rw [← hsO]; exact conv_str _ _ _ _ _ (HSL.out.of_below hW5) HLN.out HQ.out
      have hlm : m = 32 + 576 * nstr n := by rw [← hm, mkS_len, HLN.out]
      have HLE := Lib.hid (fun u => Len_any (n : Int) u (by omega) (by omega))
      rw [Int.toNat_natCast, ← hlm] at HLE
      obtain ⟨k, hk⟩ : ∃ k, nstr n = k := ⟨_, rfl⟩
      obtain ⟨k2, hk2⟩ : ∃ x, 2 * k = x := ⟨_, rfl⟩
      have hkb : k ≤ 17 := by rw [← hk]; unfold nstr; omega
      have hk2b : k2 ≤ 34 := by omega
      have HW5 := Lib.hid hW5
      by_cases hn3 : n ≤ 3000
      · have d1 : ¬ (3000 : Int) < (n : Int) := by omega
        have d2 : decide ((3000 : Int) < (n : Int)) = false := decide_eq_false d1
        obtain ⟨sA, hsA⟩ : ∃ s, strOf (mkS l) = s := ⟨_, rfl⟩
        have HSA := Lib.hid hsA
        have HML := Lib.hid hm
        have HX0 := Lib.hid (show Below w5.heap.size w5 w5.drew from (Below.refl _ _).drew)
        have hWu := fun u (hu : Below w5.heap.size w5 u) => hW5.trans (hu.mono hW5.size)
        have HS := Lib.hid (show ∀ u, Below w5.heap.size w5 u → (convert 22 9 (.slice p5 m c5)).run Tryd.prog u = .ok (.string sA) u ∧ Below w5.heap.size w5 u from fun u hu => ⟨by
          rw [← hsA]; exact conv_str _ _ _ _ _ (hs5.of_below hu) hm hp5, hu⟩)
        have HRM := Lib.hid (fun u (hu : Below w5.heap.size w5 u) => refMake12_any l q n cap u HLN.out (HSL.out.of_below (hWu u hu)) HQ.out HC.out (by omega) (HTB.out _ (hWu u hu)))
        have HDS := Lib.hid (fun u (hu : Below w5.heap.size w5 u) => refSum1_any l q n cap u HLN.out (HSL.out.of_below (hWu u hu)) HQ.out (HTB.out _ (hWu u hu)) (by omega))
        have HST := Lib.hid (fun u (hu : Below w5.heap.size w5 u) => stands12_any (mkS l) p5 m c5 (n : Int) (digL l) u hm (hs5.of_below hu) hp5 (by rw [← hm]; exact hc5) (by omega) (by omega) (by omega) (digL_len l) (HTB.out _ (hWu u hu)))
        rw [Int.toNat_natCast, hk, hk2] at HST
        have HSB := Lib.hid (show ∀ i, i < k2 → stB (mkS l) k (digL l) i = true from fun i hi => by rw [← hk, ← HLN.out]; exact stB_mkS l i (by rw [HLN.out, hk, hk2]; exact hi))
        obtain ⟨dg, hdg⟩ : ∃ d, digL l = d := ⟨_, rfl⟩
        rw [hdg] at HDS HST HSB
        obtain ⟨ZA, hZA⟩ : ∃ x, n + 1023 = x := ⟨_, rfl⟩
        have HAR := Lib.hid (show IntKind.i64.wrap ((n : Int) + 1023) = (ZA : Int) ∧ (ZA : Int).tdiv 1024 = (k : Int) ∧ IntKind.i64.wrap (2 * (k : Int)) = (k2 : Int) ∧ (ZA : Int) / 1024 = (k : Int) from
          ⟨by rw [IntKind.wrap_i64]; omega, by rw [Int.tdiv_eq_ediv_of_nonneg (by omega)]; rw [← hk]; unfold nstr; omega, by rw [IntKind.wrap_i64]; omega, by rw [← hk]; unfold nstr; omega⟩)
        clear hm hs5 hp5 hc5 hW5 hWu hsA hsO hO5 hB5 hdg hlm hk hk2 hZA hn hn2 hn3
        go_wp2
        refine wp_region_noPanic ?_
        refine wp_region_held_drew (S := (fun u : World => (convert 22 9 (.slice p5 m c5)).run Tryd.prog u = .ok (.string sA) u ∧ Below w5.heap.size w5 u)) (by kernel_rfl) (HS.out _ HX0.out) (fun hHeld => ?_)
        generalize w5.drew = x at hHeld HX0 ⊢
        refine wpAnyH_take (i := 0) (v := ?_) (by simp only [List.getElem?_toArray, List.getElem?_cons_succ, List.getElem?_cons_zero]; exact rfl) (by kernel_rfl) (by kernel_rfl) (by kernel_rfl) (fun _ _ _ h => h) (Or.inl ⟨by rfl, ?_⟩) (by assumption) ?_
        rotate_left 1
        · (intro w hSw; (try dsimp only at hSw); go_simp; try with_reducible rfl)
        try simp only [Act.put, List.setIfInBounds_toArray, List.set_cons_zero, List.set_cons_succ]
        refine wpAnyH_take (i := 1) (v := ?_) (by simp only [List.getElem?_toArray, List.getElem?_cons_succ, List.getElem?_cons_zero]; exact rfl) (by kernel_rfl) (by kernel_rfl) (by kernel_rfl) (fun _ _ _ h => h) (Or.inl ⟨by rfl, ?_⟩) (by assumption) ?_
        rotate_left 1
        · (intro w hSw; (try dsimp only at hSw); go_simp; try with_reducible rfl)
        try simp only [Act.put, List.setIfInBounds_toArray, List.set_cons_zero, List.set_cons_succ]
        refine wpAnyH_take (i := 2) (v := ?_) (by simp only [List.getElem?_toArray, List.getElem?_cons_succ, List.getElem?_cons_zero]; exact rfl) (by kernel_rfl) (by kernel_rfl) (by kernel_rfl) (fun _ _ _ h => h) (Or.inl ⟨by rfl, ?_⟩) (by assumption) ?_
        rotate_left 1
        · (intro w hSw; (try dsimp only at hSw); go_simp; try with_reducible rfl)
        try simp only [Act.put, List.setIfInBounds_toArray, List.set_cons_zero, List.set_cons_succ]
        refine wpAnyH_take (i := 3) (v := ?_) (by simp only [List.getElem?_toArray, List.getElem?_cons_succ, List.getElem?_cons_zero]; exact rfl) (by kernel_rfl) (by kernel_rfl) (by kernel_rfl) (fun _ _ _ h => h) (Or.inl ⟨by rfl, ?_⟩) (by assumption) ?_
        rotate_left 1
        · (intro w hSw; (try dsimp only at hSw); go_simp; try with_reducible rfl)
        try simp only [Act.put, List.setIfInBounds_toArray, List.set_cons_zero, List.set_cons_succ]
        refine wpAnyH_take (i := 4) (v := ?_) (by simp only [List.getElem?_toArray, List.getElem?_cons_succ, List.getElem?_cons_zero]; exact rfl) (by kernel_rfl) (by kernel_rfl) (by kernel_rfl) (fun _ _ _ h => h) (Or.inl ⟨by rfl, ?_⟩) (by assumption) ?_
        rotate_left 1
        · (intro w hSw; (try dsimp only at hSw); go_simp; try with_reducible rfl)
        try simp only [Act.put, List.setIfInBounds_toArray, List.set_cons_zero, List.set_cons_succ]
        refine wpAnyH_take (i := 5) (v := ?_) (by simp only [List.getElem?_toArray, List.getElem?_cons_succ, List.getElem?_cons_zero]; exact rfl) (by kernel_rfl) (by kernel_rfl) (by kernel_rfl) (fun _ _ _ h => h) (Or.inl ⟨by rfl, ?_⟩) (by assumption) ?_
        rotate_left 1
        · (intro w hSw; (try dsimp only at hSw); go_simp; try with_reducible rfl)
        try simp only [Act.put, List.setIfInBounds_toArray, List.set_cons_zero, List.set_cons_succ]
        refine wpAnyH_ready (rs := [6]) (by kernel_rfl) (by simp) ?_
        refine (AllReadyH.cons (by simp only [List.getElem?_toArray, List.getElem?_cons_succ, List.getElem?_cons_zero]; exact rfl) (fun K hK => ?_) AllReadyH.nil)
        go_simp
        refine (HRM.out x HX0.out).mono ?_
        rintro e x1 ⟨v8, rfl, hO8, hB8⟩
        have HX1 := Lib.hid (HX0.out.trans (hB8.mono HX0.out.size))
        obtain ⟨p8, c8, hv8, hs8, hp8, -⟩ := hO8.shape
        subst hv8
        rw [HML.out]
        have hcv8 : (convert 22 9 (.slice p8 m c8)).run Tryd.prog x1 = .ok (.string sA) x1 := by rw [← HSA.out]; exact conv_str _ _ _ _ _ hs8 HML.out hp8
        clear hO8 hB8 hs8 hp8
        go_wp2_with fail
        refine hK.out _ _ (HS.out _ HX1.out) (fun hHeld => ?_)
        clear hK K
        try simp only [Act.put, List.setIfInBounds_toArray, List.set_cons_zero, List.set_cons_succ]
        refine wpAnyH_ready (rs := [7]) (by kernel_rfl) (by simp) ?_
        refine (AllReadyH.cons (by simp only [List.getElem?_toArray, List.getElem?_cons_succ, List.getElem?_cons_zero]; exact rfl) (fun K hK => ?_) AllReadyH.nil)
        go_simp
        refine hK.out _ _ (HS.out _ HX1.out) (fun hHeld => ?_)
        clear hK K
        try simp only [Act.put, List.setIfInBounds_toArray, List.set_cons_zero, List.set_cons_succ]
        refine wpAnyH_take (i := 8) (v := ?_) (by simp only [List.getElem?_toArray, List.getElem?_cons_succ, List.getElem?_cons_zero]; exact rfl) (by kernel_rfl) (by kernel_rfl) (by kernel_rfl) (fun _ _ _ h => h) (Or.inl ⟨by rfl, ?_⟩) (by assumption) ?_
        rotate_left 1
        · (intro w hSw; (try dsimp only at hSw); go_simp; try with_reducible rfl)
        try simp only [Act.put, List.setIfInBounds_toArray, List.set_cons_zero, List.set_cons_succ]
        refine wpAnyH_take (i := 9) (v := ?_) (by simp only [List.getElem?_toArray, List.getElem?_cons_succ, List.getElem?_cons_zero]; exact rfl) (by kernel_rfl) (by kernel_rfl) (by kernel_rfl) (fun _ _ _ h => h) (Or.inl ⟨by rfl, ?_⟩) (by assumption) ?_
        rotate_left 1
        · (intro w hSw; (try dsimp only at hSw); go_simp; try with_reducible rfl)
        try simp only [Act.put, List.setIfInBounds_toArray, List.set_cons_zero, List.set_cons_succ]
        refine wpAnyH_take (i := 10) (v := ?_) (by simp only [List.getElem?_toArray, List.getElem?_cons_succ, List.getElem?_cons_zero]; exact rfl) (by kernel_rfl) (by kernel_rfl) (by kernel_rfl) (fun _ _ _ h => h) (Or.inl ⟨by rfl, ?_⟩) (by assumption) ?_
        rotate_left 1
        · (intro w hSw; (try dsimp only at hSw); go_simp; try with_reducible rfl)
        try simp only [Act.put, List.setIfInBounds_toArray, List.set_cons_zero, List.set_cons_succ]
        refine wpAnyH_take (i := 11) (v := ?_) (by simp only [List.getElem?_toArray, List.getElem?_cons_succ, List.getElem?_cons_zero]; exact rfl) (by kernel_rfl) (by kernel_rfl) (by kernel_rfl) (fun _ _ _ h => h) (Or.inl ⟨by rfl, ?_⟩) (by assumption) ?_
        rotate_left 1
        · (intro w hSw; (try dsimp only at hSw); go_simp; try with_reducible rfl)
        try simp only [Act.put, List.setIfInBounds_toArray, List.set_cons_zero, List.set_cons_succ]
        refine wpAnyH_take (i := 12) (v := ?_) (by simp only [List.getElem?_toArray, List.getElem?_cons_succ, List.getElem?_cons_zero]; exact rfl) (by kernel_rfl) (by kernel_rfl) (by kernel_rfl) (fun _ _ _ h => h) (Or.inl ⟨by rfl, ?_⟩) (by assumption) ?_
        rotate_left 1
        · (intro w hSw; (try dsimp only at hSw); go_simp; try with_reducible rfl)
        try simp only [Act.put, List.setIfInBounds_toArray, List.set_cons_zero, List.set_cons_succ]
        refine wpAnyH_take (i := 13) (v := ?_) (by simp only [List.getElem?_toArray, List.getElem?_cons_succ, List.getElem?_cons_zero]; exact rfl) (by kernel_rfl) (by kernel_rfl) (by kernel_rfl) (fun _ _ _ h => h) (Or.inl ⟨by rfl, ?_⟩) (by assumption) ?_
        rotate_left 1
        · (intro w hSw; (try dsimp only at hSw); go_simp; try with_reducible rfl)
        try simp only [Act.put, List.setIfInBounds_toArray, List.set_cons_zero, List.set_cons_succ]
        refine wpAnyH_take (i := 14) (v := ?_) (by simp only [List.getElem?_toArray, List.getElem?_cons_succ, List.getElem?_cons_zero]; exact rfl) (by kernel_rfl) (by kernel_rfl) (by kernel_rfl) (fun _ _ _ h => h) (Or.inl ⟨by rfl, ?_⟩) (by assumption) ?_
        rotate_left 1
        · (intro w hSw; (try dsimp only at hSw); go_simp; try with_reducible rfl)
        try simp only [Act.put, List.setIfInBounds_toArray, List.set_cons_zero, List.set_cons_succ]
        refine wpAnyH_ready (rs := [15]) (by kernel_rfl) (by simp) ?_
        refine (AllReadyH.cons (by simp only [List.getElem?_toArray, List.getElem?_cons_succ, List.getElem?_cons_zero]; exact rfl) (fun K hK => ?_) AllReadyH.nil)
        go_simp
        refine (HLE.out _).mono ?_
        rintro e vW ⟨rfl, rfl⟩
        go_wp2_with fail
        refine hK.out _ _ (HS.out _ HX1.out) (fun hHeld => ?_)
        clear hK K
        try simp only [Act.put, List.setIfInBounds_toArray, List.set_cons_zero, List.set_cons_succ]
        refine wpAnyH_take (i := 16) (v := ?_) (by simp only [List.getElem?_toArray, List.getElem?_cons_succ, List.getElem?_cons_zero]; exact rfl) (by kernel_rfl) (by kernel_rfl) (by kernel_rfl) (fun _ _ _ h => h) (Or.inl ⟨by rfl, ?_⟩) (by assumption) ?_
        rotate_left 1
        · (intro w hSw; (try dsimp only at hSw); go_simp; try with_reducible rfl)
        try simp only [Act.put, List.setIfInBounds_toArray, List.set_cons_zero, List.set_cons_succ]
        refine wpAnyH_take (i := 17) (v := ?_) (by simp only [List.getElem?_toArray, List.getElem?_cons_succ, List.getElem?_cons_zero]; exact rfl) (by kernel_rfl) (by kernel_rfl) (by kernel_rfl) (fun _ _ _ h => h) (Or.inl ⟨by rfl, ?_⟩) (by assumption) ?_
        rotate_left 1
        · (intro w hSw; (try dsimp only at hSw); go_simp; try with_reducible rfl)
        try simp only [Act.put, List.setIfInBounds_toArray, List.set_cons_zero, List.set_cons_succ]
        refine wpAnyH_done (by kernel_rfl) ?_ _
        refine NoPanic.normal ?_
        clear hHeld hcv8
        go_wp2_with fail
        refine (HDS.out _ HX1.out).mono ?_
        rintro e x2 ⟨rfl, hB2⟩
        have HX2 := Lib.hid (HX1.out.trans (hB2.mono HX1.out.size))
        clear hB2
        go_wp2_with fail
        refine (HST.out _ HX2.out).mono ?_
        rintro e x3 ⟨G, rfl, hG1, hG2, hR3, hB3⟩
        have HX3 := Lib.hid (HX2.out.trans (hB3.mono HX2.out.size))
        have HR3 := Lib.hid hR3
        clear hB3 hR3 hG1 hG2
        go_wp2
        go_loopw [77] (fun f wr => ∃ i : Nat, i ≤ k2 ∧ f = .int .i64 (i : Int) ∧ x3 = wr) (fun f _ => k2 - (intOf f).toNat)
        case atStart => exact ⟨0, Nat.zero_le _, rfl, rfl⟩
        case round =>
          obtain ⟨i, hi, rfl, rfl⟩ := hrel
          by_cases hik : i < k2
          · have z3 : (i : Int) < (k2 : Int) := by omega
            have z4 : decide ((i : Int) < (k2 : Int)) = true := decide_eq_true z3
            have hx := HR3.out.cell i hik
            rw [HSB.out i hik] at hx
            go_wp2
            go_roundw
            case rel => exact ⟨i + 1, by omega, by go_num, by first | rfl | trivial⟩
            case measure => simp [intOf]; omega
          · have z3 : ¬ (i : Int) < (k2 : Int) := by omega
            have z4 : decide ((i : Int) < (k2 : Int)) = false := decide_eq_false z3
            go_wp2_with fail
            refine (HDS.out _ HX3.out).mono ?_
            rintro e x4 ⟨rfl, hB4⟩
            have HX4 := Lib.hid (HX3.out.trans (hB4.mono HX3.out.size))
            clear hB4
            go_wp2_with fail
            refine (HST.out _ HX4.out).mono ?_
            rintro e x5 ⟨G5, rfl, hG1, hG2, hR5, hB5⟩
            have HX5 := Lib.hid (HX4.out.trans (hB5.mono HX4.out.size))
            have r1 := HAR.out.1
            have r2 := HAR.out.2.1
            have r3 := HAR.out.2.2.1
            have r4 := HAR.out.2.2.2
            have r5 : IntKind.i64.wrap (k : Int) = (k : Int) := by rw [IntKind.wrap_i64]; omega
            clear hB5 hR5 hG1 hG2
            go_wp2
            go_ret
            exact ⟨rfl, HW5.out.trans (HX5.out.mono HW5.out.size)⟩
      · have d1 : (3000 : Int) < (n : Int) := by omega
        have d2 : decide ((3000 : Int) < (n : Int)) = true := decide_eq_true d1
        clear hm hs5 hp5 hc5 hW5 hsO hO5 hB5 hlm hk hk2 hn hn2 hn3
        go_wp2_with fail
        refine (HLE.out _).mono ?_
        rintro e w6 ⟨rfl, rfl⟩
        go_wp2
        go_ret
        exact ⟨rfl, HW5.out⟩
    · have HMK := Lib.hid (make12_no p3 n c3 w3 (by omega) (by omega))
      refine HMK.out.mono ?_
      rintro e w5 ⟨rfl, rfl⟩
      have b1 : (16384 : Int) < (n : Int) := by omega
      have b2 : decide ((16384 : Int) < (n : Int)) = true := decide_eq_true b1
      obtain ⟨sO, hsO⟩ : ∃ s, strOf l = s := ⟨_, rfl⟩
      have hcv1 : (convert 22 9 (.slice p3 n c3)).run Tryd.prog w3 = .ok (.string sO) w3 := by rw [← hsO]; exact conv_str _ _ _ _ _ HS3.out.1 HLN.out HS3.out.2.1
      have hcv2 : (convert 22 9 (.slice q n cap)).run Tryd.prog w3 = .ok (.string sO) w3 := by rw [← hsO]; exact conv_str _ _ _ _ _ (HSL.out.of_below HB3.out) HLN.out HQ.out
      clear hsO hn hn2
      go_wp2
      go_ret
      exact ⟨rfl, HB3.out⟩
  · have a1 : (17000 : Int) < (n : Int) := by omega
    have a2 : decide ((17000 : Int) < (n : Int)) = true := decide_eq_true a1
    go_wp2_with fail
    refine (HAW.out w1 HB1.out).mono ?_
    rintro e w2 ⟨rfl, hB2⟩
    have HB2 := Lib.hid (HB1.out.trans (hB2.mono HB1.out.size))
    clear hB2
    go_wp2
    go_ret
    exact ⟨rfl, HB2.out⟩
end Go.Proofs.YtkfceloaomlhmaaDoor
