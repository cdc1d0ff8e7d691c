/- RecordBacks. -/
import Derived.Test.YtfemgkamgokjcaaGreatDoorK8
import Derived.Test.YtfemgkamgokjcaaGreatDoorK6
import Derived.Test.YtfemgkamgokjcaaGreatDoorK9
import Derived.Test.YtfemgkamgokjcaaGreatDoorK5
set_option linter.unusedSimpArgs false
set_option maxRecDepth 100000
set_option linter.unusedVariables false
namespace Go.Proofs.YtfemgkamgokjcaaGreatDoor
open Go Go.RowKit

attribute [-go_sem] Sha.exec_store
attribute [local go_sem ↓] exec_boxA exec_loadA exec_indexA exec_allocA exec_storeA exec_buildA exec_eqlA exec_neqA exec_boxV exec_loadV exec_indexV exec_allocV exec_storeV exec_buildV exec_eqlV exec_neqV
attribute [local go_sem] boxA indexA storeNewA buildA eqlA neqA boxV indexV storeNewV buildV eqlV neqV

attribute [local go_sem ↓] exec_loadS exec_boxS exec_boxP exec_boxM exec_allocP exec_allocM exec_storeP exec_storeM exec_buildP exec_buildM exec_buildS exec_load32 exec_build32 exec_eqlD exec_neqD exec_loadM exec_loadP exec_store32F
attribute [local go_sem] box_stamp boxP boxM bd32 eqlD neqD
set_option maxRecDepth 100000 in
set_option maxHeartbeats 16000000 in
theorem backs10_any (r : Rc) (ds : List By) (w : World) (h : DgAt w r ds) (hin : RcIn r) (hT : Tb w) :
    Calls Tryz.prog 3 #[rcV r] w fun e w' => e = .returned (.bool true) ∧ Below w.heap.size w w' := by
  have HAW := Lib.hid awake10
  have HSMA := Lib.hid (fun u => small10_any r u)
  obtain ⟨b0, hb0⟩ : ∃ b, w.heap.size = b := ⟨_, rfl⟩
  obtain ⟨W1, hW1⟩ : ∃ W, w.alloc (.cells (tab 54 (rcF r)) 26) = W := ⟨_, rfl⟩
  have hB1 : Below w.heap.size w W1 := by rw [← hW1]; exact below_newD _ _
  have hR1 : Row W1 b0 26 54 (rcF r) := by rw [← hb0, ← hW1]; exact Row.new _ _ _ _
  obtain ⟨V, hV⟩ : ∃ V, rcV r = V := ⟨_, rfl⟩
  have x1 : (bxT 26 V).run Tryz.prog w = .ok (.value (.pointer (some ⟨w.heap.size, 0, none⟩))) W1 := by rw [← hV, ← hW1]; exact boxM w _
  have HV := Lib.hid hV
  rw [hV]
  rw [hV] at HSMA
  have HB1 := Lib.hid hB1
  have HD := Lib.hid (fun (u : World) (hu : Below W1.heap.size W1 u) => (h.of_below hB1).of_below hu)
  have HR := Lib.hid (fun (u : World) (hu : Below W1.heap.size W1 u) => hR1.of_below hu)
  have HTB := Lib.hid (fun (u : World) (hu : Below W1.heap.size W1 u) => hT.on (hB1.trans (hu.mono hB1.size)))
  have HIN := Lib.hid hin
  have HT0 := Lib.hid hT
  clear hB1 hR1 h hT hin hV
  go_enter Tryz.func3, Tryz.ntmps3
  try rw [hb0]
  rw [hb0] at x1
  go_wp2_with fail
  clear x1 hW1
  refine (HAW.out _).mono ?_
  rintro e w2 ⟨rfl, hB2⟩
  have HX2 := Lib.hid (show Below W1.heap.size W1 w2 from hB2)
  have ld := loadRT rtM (HR.out _ HX2.out)
  rw [HV.out] at ld
  clear hB2
  go_wp2_with fail
  clear ld
  refine (HSMA.out _).mono ?_
  rintro e w3 ⟨rfl, hB3⟩
  have HX3 := Lib.hid (HX2.out.trans (hB3.mono HX2.out.size))
  clear hB3
  obtain ⟨SM, hSM⟩ : ∃ b, (decide (r.path.length ≤ 200) && decide (r.n ≤ 100)) = b := ⟨_, rfl⟩
  rw [hSM]
  have HSM := Lib.hid hSM
  clear hSM
  cases SM with
  | false =>
    go_wp2_with fail
    refine (HAW.out _).mono ?_
    rintro e w4 ⟨rfl, hB4⟩
    have HB4 := Lib.hid (HX3.out.trans (hB4.mono HX3.out.size))
    clear hB4
    go_wp2
    go_ret
    exact ⟨rfl, by rw [← hb0]; exact HB1.out.trans (HB4.out.mono HB1.out.size)⟩
  | true =>
    have hsm : r.path.length ≤ 200 ∧ r.n ≤ 100 := by have := HSM.out; simpa using this
    have hnd := (HD.out _ HX3.out).n
    have ld := loadRT rtM (HR.out _ HX3.out)
    rw [HV.out] at ld
    have HRL := Lib.hid (real_any r ds w3 (HD.out _ HX3.out) (by omega))
    rw [HV.out] at HRL
    go_wp2_with fail
    refine HRL.out.mono ?_
    rintro e w4 ⟨q3, c3, rfl, hB4, hD4⟩
    obtain ⟨P, hP⟩ : ∃ P, r.mov q3 c3 = P := ⟨_, rfl⟩
    rw [hP] at hD4 ⊢
    obtain ⟨W5, hW5⟩ : ∃ W, w4.alloc (.cells (tab 54 (rcF P)) 33) = W := ⟨_, rfl⟩
    have hst5 := storeNewP w4 w4.heap.size 33 (rcF rc0) P rfl
    rw [hW5] at hst5
    have hB5 : Below w4.heap.size w4 W5 := by rw [← hW5]; exact below_newR _ _
    have hR5 : Row W5 w4.heap.size 33 54 (rcF P) := by rw [← hW5]; exact Row.new _ _ 54 _
    obtain ⟨b3, hb3⟩ : ∃ b, w4.heap.size = b := ⟨_, rfl⟩
    rw [hb3] at hst5 hR5
    have hX5 := HX3.out.trans ((hB4.trans (hB5.mono hB4.size)).mono HX3.out.size)
    have HX5 := Lib.hid hX5
    have HR5 := Lib.hid (fun (u : World) (hu : Below W5.heap.size W5 u) => (hR5.of_below hu))
    have HD5 := Lib.hid (fun (u : World) (hu : Below W5.heap.size W5 u) => ((hD4.of_below hB5).of_below hu))
    obtain ⟨VP, hVP⟩ : ∃ x, rcV P = x := ⟨_, rfl⟩
    have HVP := Lib.hid hVP
    have ld5 := loadRT rtP hR5
    rw [hVP] at hst5 ld5 ⊢
    have HP := Lib.hid hP
    have hpp : P.path.length ≤ 200 := by rw [← hP]; exact hsm.1
    have hgr : goodR r = goodR P := by rw [← hP]; rfl
    clear hB4 hB5 hR5 hX5 hW5 hD4 hVP hP ld
    obtain ⟨G, hG⟩ : ∃ b, goodR P = b := ⟨_, rfl⟩
    have HGP := Lib.hid (fun u => good10_any P (by omega) (HD5.out W5 (Below.refl _ _)).whole u)
    have HGR := Lib.hid (fun u => refGood10_any r (by have := hsm.1; omega) (HD.out _ HX3.out).whole u)
    rw [hgr] at HGR
    rw [hG, HVP.out] at HGP
    rw [hG, HV.out] at HGR
    have HG := Lib.hid hG
    have HL := Lib.hid (fun (u : World) (hu : Below W5.heap.size W5 u) => (show (ldT 33 (.pointer (some ⟨b3, 0, none⟩))).run Tryz.prog u = .ok (.value VP) u ∧ (ldT 26 (.pointer (some ⟨b0, 0, none⟩))).run Tryz.prog u = .ok (.value V) u ∧ Below W5.heap.size W5 u from ⟨by rw [← HVP.out]; exact loadRT rtP (HR5.out u hu), by rw [← HV.out]; exact loadRT rtM (HR.out u (HX5.out.trans (hu.mono HX5.out.size))), hu⟩))
    clear hgr hG
    cases G with
    | false =>
      have HBY := Lib.hid (bytes10_bad P ds W5 (HD5.out W5 (Below.refl _ _)) (by omega) HG.out)
      rw [HVP.out] at HBY
      go_wp2_with fail
      refine HBY.out.mono ?_
      rintro e w6 ⟨rfl, hB6⟩
      have HX6 := Lib.hid (show Below W5.heap.size W5 w6 from hB6)
      clear hB6 hst5 ld5 hb3
      go_wp2_with fail
      refine wp_region_noPanic ?_
      refine wp_region_held_drew (S := (fun u : World => (ldT 33 (.pointer (some ⟨b3, 0, none⟩))).run Tryz.prog u = .ok (.value VP) u ∧ (ldT 26 (.pointer (some ⟨b0, 0, none⟩))).run Tryz.prog u = .ok (.value V) u ∧ Below W5.heap.size W5 u)) (by kernel_rfl) (HL.out _ HX6.out.drew) (fun hHeld => ?_)
      have HX := Lib.hid HX6.out.drew
      generalize w6.drew = x at hHeld HX ⊢
      refine wpAnyH_take (i := 0) (v := ?_) (by simp only [List.getElem?_toArray, List.getElem?_cons_succ, List.getElem?_cons_zero]; exact rfl) (by kernel_rfl) (by kernel_rfl) (by kernel_rfl) (fun _ _ _ h => h) (Or.inl ⟨by rfl, ?_⟩) (by assumption) ?_
      rotate_left 1
      · (intro w hSw; (try dsimp only at hSw); go_simp; try with_reducible rfl)
      try simp only [Act.put, List.setIfInBounds_toArray, List.set_cons_zero, List.set_cons_succ]
      refine wpAnyH_take (i := 2) (v := ?_) (by simp only [List.getElem?_toArray, List.getElem?_cons_succ, List.getElem?_cons_zero]; exact rfl) (by kernel_rfl) (by kernel_rfl) (by kernel_rfl) (fun _ _ _ h => h) (Or.inl ⟨by rfl, ?_⟩) (by assumption) ?_
      rotate_left 1
      · (intro w hSw; (try dsimp only at hSw); go_simp; try with_reducible rfl)
      try simp only [Act.put, List.setIfInBounds_toArray, List.set_cons_zero, List.set_cons_succ]
      refine wpAnyH_ready (rs := [1]) (by kernel_rfl) (by simp) ?_
      refine (AllReadyH.cons (by simp only [List.getElem?_toArray, List.getElem?_cons_succ, List.getElem?_cons_zero]; exact rfl) (fun K hK => ?_) AllReadyH.nil)
      go_simp
      refine (HGP.out _).mono ?_
      rintro e z ⟨rfl, hBz⟩
      have HX := Lib.hid (HX.out.trans (hBz.mono HX.out.size))
      clear hBz
      go_wp2_with fail
      refine hK.out _ _ (HL.out _ HX.out) (fun hHeld => ?_)
      clear hK K
      try simp only [Act.put, List.setIfInBounds_toArray, List.set_cons_zero, List.set_cons_succ]
      refine wpAnyH_ready (rs := [3]) (by kernel_rfl) (by simp) ?_
      refine (AllReadyH.cons (by simp only [List.getElem?_toArray, List.getElem?_cons_succ, List.getElem?_cons_zero]; exact rfl) (fun K hK => ?_) AllReadyH.nil)
      go_simp
      refine (HGR.out _).mono ?_
      rintro e z ⟨rfl, hBz⟩
      have HX := Lib.hid (HX.out.trans (hBz.mono HX.out.size))
      clear hBz
      go_wp2_with fail
      refine hK.out _ _ (HL.out _ HX.out) (fun hHeld => ?_)
      clear hK K
      try simp only [Act.put, List.setIfInBounds_toArray, List.set_cons_zero, List.set_cons_succ]
      refine wpAnyH_take (i := 4) (v := ?_) (by simp only [List.getElem?_toArray, List.getElem?_cons_succ, List.getElem?_cons_zero]; exact rfl) (by kernel_rfl) (by kernel_rfl) (by kernel_rfl) (fun _ _ _ h => h) (Or.inl ⟨by rfl, ?_⟩) (by assumption) ?_
      rotate_left 1
      · (intro w hSw; (try dsimp only at hSw); go_simp; try with_reducible rfl)
      try simp only [Act.put, List.setIfInBounds_toArray, List.set_cons_zero, List.set_cons_succ]
      refine wpAnyH_done (by kernel_rfl) ?_ _
      refine NoPanic.normal ?_
      clear hHeld
      obtain ⟨zz, hzz⟩ : ∃ y, y = z := ⟨_, rfl⟩
      subst hzz
      have l7 := (HL.out _ HX.out).1
      go_wp2_with fail
      refine (HGP.out _).mono ?_
      rintro e w9 ⟨rfl, hB9⟩
      have HF := Lib.hid (HX.out.trans (hB9.mono HX.out.size))
      have HF1 := Lib.hid ((HB1.out.trans ((HX5.out.trans (HF.out.mono HX5.out.size)).mono HB1.out.size)))
      clear hB9
      go_wp2
      go_ret
      exact ⟨rfl, by rw [← hb0]; exact HF1.out⟩
    | true =>
      have htc : P.time < 9223372036854775808 ∧ P.chg < 9223372036854775808 := by rw [← HP.out]; exact ⟨HIN.out.time.2, HIN.out.chg.2⟩
      have HTW := Lib.hid (fun (u : World) (hu : Below W5.heap.size W5 u) => HTB.out u (HX5.out.trans (hu.mono HX5.out.size)))
      have HPG := Lib.hid (parse_good (HD5.out W5 (Below.refl _ _)) HG.out htc.1 htc.2)
      have HBY := Lib.hid (bytes10_ok P ds W5 (HD5.out W5 (Below.refl _ _)) HG.out htc.1 htc.2 (HTW.out W5 (Below.refl _ _)))
      have HEL := Lib.hid (encRc_len (good_W (HD5.out W5 (Below.refl _ _)) HG.out htc.1 htc.2)).1
      have HRB := Lib.hid (fun (u : World) (hu : Below W5.heap.size W5 u) => refBytes10_ok r ds u (HD.out u (HX5.out.trans (hu.mono HX5.out.size))) (by have := HG.out; rw [← HP.out] at this; exact this) HIN.out.time.2 HIN.out.chg.2 (HTW.out u hu))
      have het : r.text ds = P.text ds := by rw [← HP.out]; rfl
      rw [het] at HRB
      obtain ⟨E, hE⟩ : ∃ E, encRc (P.text ds) = E := ⟨_, rfl⟩
      rw [hE] at HBY HRB HPG HEL
      rw [HVP.out] at HBY
      rw [HV.out] at HRB
      obtain ⟨sE, hsE⟩ : ∃ x, strOf E = x := ⟨_, rfl⟩
      have HSE := Lib.hid hsE
      clear het hE hsE htc
      go_wp2_with fail
      refine HBY.out.mono ?_
      rintro e w6 ⟨v6, rfl, hO6, hB6⟩
      obtain ⟨p6, c6, rfl, hs6, hp6, hc6⟩ := hO6.shape
      have HX6 := Lib.hid (show Below W5.heap.size W5 w6 from hB6)
      have HO6 := Lib.hid (fun (u : World) (hu : Below w6.heap.size w6 u) => (⟨hs6.of_below hu, hp6, hc6⟩ : Sl u p6 E ∧ (p6 = none → c6 = 0) ∧ E.length ≤ c6))
      have HL6 := Lib.hid (fun (u : World) (hu : Below w6.heap.size w6 u) => (show (ldT 33 (.pointer (some ⟨b3, 0, none⟩))).run Tryz.prog u = .ok (.value VP) u ∧ (ldT 26 (.pointer (some ⟨b0, 0, none⟩))).run Tryz.prog u = .ok (.value V) u ∧ Below w6.heap.size w6 u from ⟨(HL.out u (HX6.out.trans (hu.mono HX6.out.size))).1, (HL.out u (HX6.out.trans (hu.mono HX6.out.size))).2.1, hu⟩))
      have HL9 := Lib.hid (fun (u : World) (hu : Below w6.heap.size w6 u) => (show (convert 35 9 (.slice p6 E.length c6)).run Tryz.prog u = .ok (.string sE) u ∧ (ldT 26 (.pointer (some ⟨b0, 0, none⟩))).run Tryz.prog u = .ok (.value V) u ∧ Below w6.heap.size w6 u from ⟨by rw [← HSE.out]; exact conv_str u p6 E E.length c6 (HO6.out u hu).1 rfl hp6, (HL.out u (HX6.out.trans (hu.mono HX6.out.size))).2.1, hu⟩))
      clear hB6 hst5 ld5 hb3 hO6 hs6 hp6 hc6
      go_wp2_with fail
      refine wp_region_noPanic ?_
      refine wp_region_held_drew (S := (fun u : World => (ldT 33 (.pointer (some ⟨b3, 0, none⟩))).run Tryz.prog u = .ok (.value VP) u ∧ (ldT 26 (.pointer (some ⟨b0, 0, none⟩))).run Tryz.prog u = .ok (.value V) u ∧ Below w6.heap.size w6 u)) (by kernel_rfl) (HL6.out _ (Below.refl _ _).drew) (fun hHeld => ?_)
      have HX := Lib.hid (show Below w6.heap.size w6 w6.drew from (Below.refl _ _).drew)
      generalize w6.drew = x at hHeld HX ⊢
      refine wpAnyH_take (i := 0) (v := ?_) (by simp only [List.getElem?_toArray, List.getElem?_cons_succ, List.getElem?_cons_zero]; exact rfl) (by kernel_rfl) (by kernel_rfl) (by kernel_rfl) (fun _ _ _ h => h) (Or.inl ⟨by rfl, ?_⟩) (by assumption) ?_
      rotate_left 1
      · (intro w hSw; (try dsimp only at hSw); go_simp; try with_reducible rfl)
      try simp only [Act.put, List.setIfInBounds_toArray, List.set_cons_zero, List.set_cons_succ]
      refine wpAnyH_take (i := 2) (v := ?_) (by simp only [List.getElem?_toArray, List.getElem?_cons_succ, List.getElem?_cons_zero]; exact rfl) (by kernel_rfl) (by kernel_rfl) (by kernel_rfl) (fun _ _ _ h => h) (Or.inl ⟨by rfl, ?_⟩) (by assumption) ?_
      rotate_left 1
      · (intro w hSw; (try dsimp only at hSw); go_simp; try with_reducible rfl)
      try simp only [Act.put, List.setIfInBounds_toArray, List.set_cons_zero, List.set_cons_succ]
      refine wpAnyH_ready (rs := [1]) (by kernel_rfl) (by simp) ?_
      refine (AllReadyH.cons (by simp only [List.getElem?_toArray, List.getElem?_cons_succ, List.getElem?_cons_zero]; exact rfl) (fun K hK => ?_) AllReadyH.nil)
      go_simp
      refine (HGP.out _).mono ?_
      rintro e z ⟨rfl, hBz⟩
      have HX := Lib.hid (HX.out.trans (hBz.mono HX.out.size))
      clear hBz
      go_wp2_with fail
      refine hK.out _ _ (HL6.out _ HX.out) (fun hHeld => ?_)
      clear hK K
      try simp only [Act.put, List.setIfInBounds_toArray, List.set_cons_zero, List.set_cons_succ]
      refine wpAnyH_ready (rs := [3]) (by kernel_rfl) (by simp) ?_
      refine (AllReadyH.cons (by simp only [List.getElem?_toArray, List.getElem?_cons_succ, List.getElem?_cons_zero]; exact rfl) (fun K hK => ?_) AllReadyH.nil)
      go_simp
      refine (HGR.out _).mono ?_
      rintro e z ⟨rfl, hBz⟩
      have HX := Lib.hid (HX.out.trans (hBz.mono HX.out.size))
      clear hBz
      go_wp2_with fail
      refine hK.out _ _ (HL6.out _ HX.out) (fun hHeld => ?_)
      clear hK K
      try simp only [Act.put, List.setIfInBounds_toArray, List.set_cons_zero, List.set_cons_succ]
      refine wpAnyH_take (i := 4) (v := ?_) (by simp only [List.getElem?_toArray, List.getElem?_cons_succ, List.getElem?_cons_zero]; exact rfl) (by kernel_rfl) (by kernel_rfl) (by kernel_rfl) (fun _ _ _ h => h) (Or.inl ⟨by rfl, ?_⟩) (by assumption) ?_
      rotate_left 1
      · (intro w hSw; (try dsimp only at hSw); go_simp; try with_reducible rfl)
      try simp only [Act.put, List.setIfInBounds_toArray, List.set_cons_zero, List.set_cons_succ]
      refine wpAnyH_done (by kernel_rfl) ?_ _
      refine NoPanic.normal ?_
      clear hHeld
      obtain ⟨zz, hzz⟩ : ∃ y, y = z := ⟨_, rfl⟩
      subst hzz
      have l7 := (HL.out _ (HX6.out.trans (HX.out.mono HX6.out.size))).1
      go_wp2_with fail
      refine (HGP.out _).mono ?_
      rintro e w9 ⟨rfl, hB9⟩
      have HX := Lib.hid (HX.out.trans (hB9.mono HX.out.size))
      clear hB9 l7
      go_wp2_with fail
      refine wp_region_noPanic ?_
      refine wp_region_held_drew (S := (fun u : World => (convert 35 9 (.slice p6 E.length c6)).run Tryz.prog u = .ok (.string sE) u ∧ (ldT 26 (.pointer (some ⟨b0, 0, none⟩))).run Tryz.prog u = .ok (.value V) u ∧ Below w6.heap.size w6 u)) (by kernel_rfl) (HL9.out _ HX.out.drew) (fun hHeld => ?_)
      have HX := Lib.hid HX.out.drew
      generalize w9.drew = x at hHeld HX ⊢
      refine wpAnyH_take (i := 0) (v := ?_) (by simp only [List.getElem?_toArray, List.getElem?_cons_succ, List.getElem?_cons_zero]; exact rfl) (by kernel_rfl) (by kernel_rfl) (by kernel_rfl) (fun _ _ _ h => h) (Or.inl ⟨by rfl, ?_⟩) (by assumption) ?_
      rotate_left 1
      · (intro w hSw; (try dsimp only at hSw); go_simp; try with_reducible rfl)
      try simp only [Act.put, List.setIfInBounds_toArray, List.set_cons_zero, List.set_cons_succ]
      refine wpAnyH_take (i := 1) (v := ?_) (by simp only [List.getElem?_toArray, List.getElem?_cons_succ, List.getElem?_cons_zero]; exact rfl) (by kernel_rfl) (by kernel_rfl) (by kernel_rfl) (fun _ _ _ h => h) (Or.inl ⟨by rfl, ?_⟩) (by assumption) ?_
      rotate_left 1
      · (intro w hSw; (try dsimp only at hSw); go_simp; try with_reducible rfl)
      try simp only [Act.put, List.setIfInBounds_toArray, List.set_cons_zero, List.set_cons_succ]
      refine wpAnyH_take (i := 2) (v := ?_) (by simp only [List.getElem?_toArray, List.getElem?_cons_succ, List.getElem?_cons_zero]; exact rfl) (by kernel_rfl) (by kernel_rfl) (by kernel_rfl) (fun _ _ _ h => h) (Or.inl ⟨by rfl, ?_⟩) (by assumption) ?_
      rotate_left 1
      · (intro w hSw; (try dsimp only at hSw); go_simp; try with_reducible rfl)
      try simp only [Act.put, List.setIfInBounds_toArray, List.set_cons_zero, List.set_cons_succ]
      refine wpAnyH_ready (rs := [3]) (by kernel_rfl) (by simp) ?_
      refine (AllReadyH.cons (by simp only [List.getElem?_toArray, List.getElem?_cons_succ, List.getElem?_cons_zero]; exact rfl) (fun K hK => ?_) AllReadyH.nil)
      go_simp
      refine (HRB.out x (HX6.out.trans (HX.out.mono HX6.out.size))).mono ?_
      rintro e z ⟨v10, rfl, hO10, hBz⟩
      obtain ⟨p10, c10, rfl, hs10, hp10, -⟩ := hO10.shape
      have hcv10 := conv_str z p10 E E.length c10 hs10 rfl hp10
      rw [HSE.out] at hcv10
      have HX := Lib.hid (HX.out.trans (hBz.mono HX.out.size))
      clear hBz hO10 hs10 hp10
      go_wp2_with fail
      refine hK.out _ _ (HL9.out _ HX.out) (fun hHeld => ?_)
      clear hK K
      try simp only [Act.put, List.setIfInBounds_toArray, List.set_cons_zero, List.set_cons_succ]
      refine wpAnyH_ready (rs := [4]) (by kernel_rfl) (by simp) ?_
      refine (AllReadyH.cons (by simp only [List.getElem?_toArray, List.getElem?_cons_succ, List.getElem?_cons_zero]; exact rfl) (fun K hK => ?_) AllReadyH.nil)
      go_simp
      refine hK.out _ _ (HL9.out _ HX.out) (fun hHeld => ?_)
      clear hK K
      try simp only [Act.put, List.setIfInBounds_toArray, List.set_cons_zero, List.set_cons_succ]
      refine wpAnyH_take (i := 5) (v := ?_) (by simp only [List.getElem?_toArray, List.getElem?_cons_succ, List.getElem?_cons_zero]; exact rfl) (by kernel_rfl) (by kernel_rfl) (by kernel_rfl) (fun _ _ _ h => h) (Or.inl ⟨by rfl, ?_⟩) (by assumption) ?_
      rotate_left 1
      · (intro w hSw; (try dsimp only at hSw); go_simp; try with_reducible rfl)
      try simp only [Act.put, List.setIfInBounds_toArray, List.set_cons_zero, List.set_cons_succ]
      refine wpAnyH_done (by kernel_rfl) ?_ _
      refine NoPanic.normal ?_
      clear hHeld hcv10
      obtain ⟨zz, hzz⟩ : ∃ y, y = z := ⟨_, rfl⟩
      subst hzz
      have hX5z := HX6.out.trans (HX.out.mono HX6.out.size)
      obtain ⟨hsz, hpz, hcz⟩ := HO6.out zz HX.out
      obtain ⟨g, T, hgv, hpe, hrc, hds⟩ := HPG.out
      have hel := HEL.out
      have HPA := Lib.hid (parse10_any E p6 _ c6 zz rfl hsz hpz hcz (by omega) (HTW.out zz hX5z))
      rw [hpe] at HPA
      have HX5z := Lib.hid hX5z
      have HPR := Lib.hid (And.intro hgv (And.intro hrc hds))
      clear hsz hpz hcz hpe hX5z hgv hrc hds hel
      go_wp2_with fail
      refine HPA.out.mono ?_
      rintro e w11 ⟨R, rfl, hB11, q2, c2, hR, hDR, -⟩
      obtain ⟨W12, hW12⟩ : ∃ W, w11.alloc (.cells (tab 54 (rcF R)) 33) = W := ⟨_, rfl⟩
      have hst12 := storeNewP w11 w11.heap.size 33 (rcF rc0) R rfl
      rw [hW12] at hst12
      have hB12 : Below w11.heap.size w11 W12 := by rw [← hW12]; exact below_newR _ _
      have hR12 : Row W12 w11.heap.size 33 54 (rcF R) := by rw [← hW12]; exact Row.new _ _ 54 _
      obtain ⟨b5, hb5⟩ : ∃ b, w11.heap.size = b := ⟨_, rfl⟩
      rw [hb5] at hst12 hR12
      have hX12 := HX5z.out.trans ((hB11.trans (hB12.mono hB11.size)).mono HX5z.out.size)
      obtain ⟨hgv, hrc, hds⟩ := HPR.out
      rw [hds] at hDR
      rw [hrc q2 c2] at hR
      obtain ⟨VR, hVR⟩ : ∃ x, rcV R = x := ⟨_, rfl⟩
      have hV2 : rcV (P.mov q2 c2) = VR := by rw [← hVR, hR]; exact (rcV_ver (P.mov q2 c2) hgv).symm
      have hDM : DgAt W12 (P.mov q2 c2) ds := (by rw [hR] at hDR; exact hDR.ver : DgAt w11 (P.mov q2 c2) ds).of_below hB12
      have hdl : ds.length < 100000 := by have := hsm.2; omega
      have hmb : (P.mov q2 c2).mov r.q r.cap = r := by rw [← HP.out]; rfl
      have HREF := Lib.hid (fun u => ref10_any (P.mov q2 c2) hDM.whole u)
      have HSA := Lib.hid (fun (u : World) (hu : Below W12.heap.size W12 u) => refSame_yes (P.mov q2 c2) r.q r.cap ds u (hDM.of_below hu) (by rw [hmb]; exact HD.out u (HX5.out.trans ((hX12.trans (hu.mono hX12.size)).mono HX5.out.size))) hdl)
      have HSB := Lib.hid (fun (u : World) (hu : Below W12.heap.size W12 u) => same_yes P q2 c2 ds u (HD5.out u (hX12.trans (hu.mono hX12.size))) (hDM.of_below hu) hdl)
      rw [hmb, hV2, HV.out] at HSA
      rw [hV2, HVP.out] at HSB
      rw [hV2] at HREF
      have HL12 := Lib.hid (fun (u : World) (hu : Below W12.heap.size W12 u) => (show (ldT 33 (.pointer (some ⟨b5, 0, none⟩))).run Tryz.prog u = .ok (.value VR) u ∧ (ldT 26 (.pointer (some ⟨b0, 0, none⟩))).run Tryz.prog u = .ok (.value V) u ∧ (ldT 33 (.pointer (some ⟨b3, 0, none⟩))).run Tryz.prog u = .ok (.value VP) u ∧ Below W12.heap.size W12 u from ⟨by rw [← hVR]; exact loadRT rtP (hR12.of_below hu), (HL.out u (hX12.trans (hu.mono hX12.size))).2.1, (HL.out u (hX12.trans (hu.mono hX12.size))).1, hu⟩))
      have HX12 := Lib.hid hX12
      rw [hVR] at hst12 ⊢
      clear hB11 hR hDR hW12 hB12 hR12 hX12 hgv hrc hds hVR hV2 hDM hdl hmb HPA HPR
      go_wp2_with fail
      refine wp_region_noPanic ?_
      refine wp_region_held_drew (S := (fun u : World => (ldT 33 (.pointer (some ⟨b5, 0, none⟩))).run Tryz.prog u = .ok (.value VR) u ∧ (ldT 26 (.pointer (some ⟨b0, 0, none⟩))).run Tryz.prog u = .ok (.value V) u ∧ (ldT 33 (.pointer (some ⟨b3, 0, none⟩))).run Tryz.prog u = .ok (.value VP) u ∧ Below W12.heap.size W12 u)) (by kernel_rfl) (HL12.out _ (Below.refl _ _).drew) (fun hHeld => ?_)
      have HX := Lib.hid (show Below W12.heap.size W12 W12.drew from (Below.refl _ _).drew)
      generalize W12.drew = x at hHeld HX ⊢
      refine wpAnyH_take (i := 0) (v := ?_) (by simp only [List.getElem?_toArray, List.getElem?_cons_succ, List.getElem?_cons_zero]; exact rfl) (by kernel_rfl) (by kernel_rfl) (by kernel_rfl) (fun _ _ _ h => h) (Or.inl ⟨by rfl, ?_⟩) (by assumption) ?_
      rotate_left 1
      · (intro w hSw; (try dsimp only at hSw); go_simp; try with_reducible rfl)
      try simp only [Act.put, List.setIfInBounds_toArray, List.set_cons_zero, List.set_cons_succ]
      refine wpAnyH_take (i := 1) (v := ?_) (by simp only [List.getElem?_toArray, List.getElem?_cons_succ, List.getElem?_cons_zero]; exact rfl) (by kernel_rfl) (by kernel_rfl) (by kernel_rfl) (fun _ _ _ h => h) (Or.inl ⟨by rfl, ?_⟩) (by assumption) ?_
      rotate_left 1
      · (intro w hSw; (try dsimp only at hSw); go_simp; try with_reducible rfl)
      try simp only [Act.put, List.setIfInBounds_toArray, List.set_cons_zero, List.set_cons_succ]
      refine wpAnyH_take (i := 2) (v := ?_) (by simp only [List.getElem?_toArray, List.getElem?_cons_succ, List.getElem?_cons_zero]; exact rfl) (by kernel_rfl) (by kernel_rfl) (by kernel_rfl) (fun _ _ _ h => h) (Or.inl ⟨by rfl, ?_⟩) (by assumption) ?_
      rotate_left 1
      · (intro w hSw; (try dsimp only at hSw); go_simp; try with_reducible rfl)
      try simp only [Act.put, List.setIfInBounds_toArray, List.set_cons_zero, List.set_cons_succ]
      refine wpAnyH_take (i := 3) (v := ?_) (by simp only [List.getElem?_toArray, List.getElem?_cons_succ, List.getElem?_cons_zero]; exact rfl) (by kernel_rfl) (by kernel_rfl) (by kernel_rfl) (fun _ _ _ h => h) (Or.inl ⟨by rfl, ?_⟩) (by assumption) ?_
      rotate_left 1
      · (intro w hSw; (try dsimp only at hSw); go_simp; try with_reducible rfl)
      try simp only [Act.put, List.setIfInBounds_toArray, List.set_cons_zero, List.set_cons_succ]
      refine wpAnyH_take (i := 5) (v := ?_) (by simp only [List.getElem?_toArray, List.getElem?_cons_succ, List.getElem?_cons_zero]; exact rfl) (by kernel_rfl) (by kernel_rfl) (by kernel_rfl) (fun _ _ _ h => h) (Or.inl ⟨by rfl, ?_⟩) (by assumption) ?_
      rotate_left 1
      · (intro w hSw; (try dsimp only at hSw); go_simp; try with_reducible rfl)
      try simp only [Act.put, List.setIfInBounds_toArray, List.set_cons_zero, List.set_cons_succ]
      refine wpAnyH_ready (rs := [4]) (by kernel_rfl) (by simp) ?_
      refine (AllReadyH.cons (by simp only [List.getElem?_toArray, List.getElem?_cons_succ, List.getElem?_cons_zero]; exact rfl) (fun K hK => ?_) AllReadyH.nil)
      go_simp
      refine (HREF.out _).mono ?_
      rintro e z ⟨rfl, hBz⟩
      have HX := Lib.hid (HX.out.trans (hBz.mono HX.out.size))
      clear hBz
      go_wp2_with fail
      refine hK.out _ _ (HL12.out _ HX.out) (fun hHeld => ?_)
      clear hK K
      try simp only [Act.put, List.setIfInBounds_toArray, List.set_cons_zero, List.set_cons_succ]
      refine wpAnyH_ready (rs := [6]) (by kernel_rfl) (by simp) ?_
      refine (AllReadyH.cons (by simp only [List.getElem?_toArray, List.getElem?_cons_succ, List.getElem?_cons_zero]; exact rfl) (fun K hK => ?_) AllReadyH.nil)
      go_simp
      refine (HSA.out _ HX.out).mono ?_
      rintro e z ⟨rfl, hBz⟩
      have HX := Lib.hid (HX.out.trans (hBz.mono HX.out.size))
      clear hBz
      go_wp2_with fail
      refine hK.out _ _ (HL12.out _ HX.out) (fun hHeld => ?_)
      clear hK K
      try simp only [Act.put, List.setIfInBounds_toArray, List.set_cons_zero, List.set_cons_succ]
      refine wpAnyH_take (i := 7) (v := ?_) (by simp only [List.getElem?_toArray, List.getElem?_cons_succ, List.getElem?_cons_zero]; exact rfl) (by kernel_rfl) (by kernel_rfl) (by kernel_rfl) (fun _ _ _ h => h) (Or.inl ⟨by rfl, ?_⟩) (by assumption) ?_
      rotate_left 1
      · (intro w hSw; (try dsimp only at hSw); go_simp; try with_reducible rfl)
      try simp only [Act.put, List.setIfInBounds_toArray, List.set_cons_zero, List.set_cons_succ]
      refine wpAnyH_take (i := 8) (v := ?_) (by simp only [List.getElem?_toArray, List.getElem?_cons_succ, List.getElem?_cons_zero]; exact rfl) (by kernel_rfl) (by kernel_rfl) (by kernel_rfl) (fun _ _ _ h => h) (Or.inl ⟨by rfl, ?_⟩) (by assumption) ?_
      rotate_left 1
      · (intro w hSw; (try dsimp only at hSw); go_simp; try with_reducible rfl)
      try simp only [Act.put, List.setIfInBounds_toArray, List.set_cons_zero, List.set_cons_succ]
      refine wpAnyH_take (i := 9) (v := ?_) (by simp only [List.getElem?_toArray, List.getElem?_cons_succ, List.getElem?_cons_zero]; exact rfl) (by kernel_rfl) (by kernel_rfl) (by kernel_rfl) (fun _ _ _ h => h) (Or.inl ⟨by rfl, ?_⟩) (by assumption) ?_
      rotate_left 1
      · (intro w hSw; (try dsimp only at hSw); go_simp; try with_reducible rfl)
      try simp only [Act.put, List.setIfInBounds_toArray, List.set_cons_zero, List.set_cons_succ]
      refine wpAnyH_take (i := 10) (v := ?_) (by simp only [List.getElem?_toArray, List.getElem?_cons_succ, List.getElem?_cons_zero]; exact rfl) (by kernel_rfl) (by kernel_rfl) (by kernel_rfl) (fun _ _ _ h => h) (Or.inl ⟨by rfl, ?_⟩) (by assumption) ?_
      rotate_left 1
      · (intro w hSw; (try dsimp only at hSw); go_simp; try with_reducible rfl)
      try simp only [Act.put, List.setIfInBounds_toArray, List.set_cons_zero, List.set_cons_succ]
      refine wpAnyH_ready (rs := [11]) (by kernel_rfl) (by simp) ?_
      refine (AllReadyH.cons (by simp only [List.getElem?_toArray, List.getElem?_cons_succ, List.getElem?_cons_zero]; exact rfl) (fun K hK => ?_) AllReadyH.nil)
      go_simp
      refine (HSB.out _ HX.out).mono ?_
      rintro e z ⟨rfl, hBz⟩
      have HX := Lib.hid (HX.out.trans (hBz.mono HX.out.size))
      clear hBz
      go_wp2_with fail
      refine hK.out _ _ (HL12.out _ HX.out) (fun hHeld => ?_)
      clear hK K
      try simp only [Act.put, List.setIfInBounds_toArray, List.set_cons_zero, List.set_cons_succ]
      refine wpAnyH_take (i := 12) (v := ?_) (by simp only [List.getElem?_toArray, List.getElem?_cons_succ, List.getElem?_cons_zero]; exact rfl) (by kernel_rfl) (by kernel_rfl) (by kernel_rfl) (fun _ _ _ h => h) (Or.inl ⟨by rfl, ?_⟩) (by assumption) ?_
      rotate_left 1
      · (intro w hSw; (try dsimp only at hSw); go_simp; try with_reducible rfl)
      try simp only [Act.put, List.setIfInBounds_toArray, List.set_cons_zero, List.set_cons_succ]
      refine wpAnyH_take (i := 13) (v := ?_) (by simp only [List.getElem?_toArray, List.getElem?_cons_succ, List.getElem?_cons_zero]; exact rfl) (by kernel_rfl) (by kernel_rfl) (by kernel_rfl) (fun _ _ _ h => h) (Or.inl ⟨by rfl, ?_⟩) (by assumption) ?_
      rotate_left 1
      · (intro w hSw; (try dsimp only at hSw); go_simp; try with_reducible rfl)
      try simp only [Act.put, List.setIfInBounds_toArray, List.set_cons_zero, List.set_cons_succ]
      refine wpAnyH_done (by kernel_rfl) ?_ _
      refine NoPanic.normal ?_
      clear hHeld hst12 hb5
      have HF1 := Lib.hid (HB1.out.trans ((HX5.out.trans ((HX12.out.trans (HX.out.mono HX12.out.size)).mono HX5.out.size)).mono HB1.out.size))
      go_wp2
      go_ret
      exact ⟨rfl, by rw [← hb0]; exact HF1.out⟩
end Go.Proofs.YtfemgkamgokjcaaGreatDoor
