/- VectorBacks. -/
import Derived.Test.YtjpennbmphhipaaDoorZRtx9
import Derived.Test.YtjpennbmphhipaaDoorK2
set_option linter.unusedSimpArgs false
set_option maxRecDepth 100000
set_option linter.unusedVariables false
namespace Go.Proofs.YtjpennbmphhipaaDoor
open Go Go.RowKit

theorem rdP_stay3 (p : Option Addr) (N : Nat) (w w' : World) (a : Addr) (l : List (BitVec 8)) (h : RdP p N w a l) (hb : w'.heap[a.block]? = w.heap[a.block]?) (hp : 0 < l.length → ∀ c o, p = some ⟨c, o, none⟩ → c < N → w'.heap[c]? = w.heap[c]?) : RdP p N w' a l := by
  obtain ⟨b, q, cap, rfl, h1, h2, h4, h5, h6, h7, h8⟩ := h
  refine ⟨b, q, cap, rfl, h1, h2.same hb, fun j hj => ?_, h5, h6, h7, h8⟩
  obtain ⟨c, o, e, hx⟩ := h4 j hj
  obtain ⟨hc, o', e'⟩ := h8 (by omega) c o e
  exact ⟨c, o, e, by rw [World.cell?_of_block (w := w) (hp (by omega) c o' e' hc)]; exact hx⟩
theorem enters_k9 : ∀ args w, (callFunc 11 args).run Tryd.prog w = .ok (.enter 11 args) w := enters_of Tryd.func11 (by kernel_rfl) rfl
theorem veq_selfK (f : Nat → Int) : veq f f = true := veq_iff.2 fun _ _ => rfl
theorem eqlVk (x y : Operand) (f : Nat → Int) (w : World) : (eqX .eql 28 x y (vcV f) (vcV f)).run Tryd.prog w = .ok (.value (.bool true)) w := by rw [eqlV, veq_selfK]
section
attribute [local go_sem ↓] exec_boxA exec_loadA exec_indexA exec_allocA exec_storeA exec_buildA exec_eqlA exec_neqA exec_boxV exec_loadV exec_indexV exec_allocV exec_storeV exec_buildV exec_eqlV exec_neqV
attribute [local go_sem] boxA indexA storeNewA buildA eqlA neqA boxV indexV storeNewV buildV eqlV neqV
set_option maxRecDepth 100000 in
set_option maxHeartbeats 4000000 in
/-- The function handed to Read. -/
theorem backs_in9 (f : Nat → Int) (hf : ∀ i, i < 16 → 0 ≤ f i ∧ f i ≤ 1099511627776) (p : Option Addr) (N : Nat) (w : World) (a : Addr) (bg M : Nat) (g0 : Nat → Int) (hR : RdP p N w a (encV f)) (hG : Row w bg 28 16 (vf g0)) (hN : bg < N) (hM : M ≤ bg) :
    Calls Tryd.prog 11 (#[.pointer (some a)] ++ #[.pointer (some ⟨bg, 0, none⟩)]) w fun e w' => Loc N a.block w w' ∧ Below M w w' ∧ e = .returned (.tuple #[]) ∧ RdP p N w' a [] ∧ Row w' bg 28 16 (vf f) := by
  have hlie := rdP_lie _ _ _ _ _ hR
  have hsz : M ≤ w.heap.size := by omega
  obtain ⟨g, hg, hgf⟩ := takeV_back hf []
  rw [List.append_nil] at hg
  have HT := Lib.hid (take9_any p N w a (encV f) hR)
  rw [hg] at HT
  show Calls Tryd.prog _ #[.pointer (some a), .pointer (some ⟨bg, 0, none⟩)] w _
  have HG := Lib.hid hG
  have HGF := Lib.hid (show vcV g = vcV f from vcV_congr hgf)
  have hGb := hG.lt
  clear hR hG hg hgf
  go_enter Tryd.func11, Tryd.ntmps11
  go_wp2_with fail
  refine HT.out.mono ?_
  rintro e w2 ⟨hK, rfl, hR2⟩
  rw [HGF.out]
  obtain ⟨w5, hs5, hR5, hK5⟩ := storeVT vtV (HG.out.of_kp hK (show bg ≠ a.block by omega)) f
  have hw2 : w.heap.size ≤ w2.heap.size := hK.size
  have HRD := Lib.hid (rdP_stay3 _ _ _ w5 _ _ hR2 (hK5.block _ (by omega) (by omega)) (fun h => absurd h (by simp)))
  have HR5 := Lib.hid hR5
  have HLO := Lib.hid (show Loc N a.block w w5 from ⟨Nat.le_trans hw2 hK5.size, fun k h1 h2 h3 => (hK5.block k (by omega) (by omega)).trans (hK.block k h2 h3)⟩)
  have HBM := Lib.hid ((hK.below (by omega) hsz).trans (hK5.below hM (Nat.le_trans hsz hw2)))
  clear hK hR2 hR5 hK5
  go_wp2
  go_end0
  exact ⟨HLO.out, HBM.out, rfl, HRD.out, HR5.out⟩
end
section
attribute [local go_sem ↓] exec_boxA exec_loadA exec_indexA exec_allocA exec_storeA exec_buildA exec_eqlA exec_neqA exec_boxV exec_loadV exec_indexV exec_allocV exec_storeV exec_buildV exec_eqlV exec_neqV
attribute [local go_sem] boxA indexA storeNewA buildA eqlA neqA boxV indexV storeNewV buildV eqlVk neqV
theorem mkFnK : ∀ (fn : Fn) (first cap : Array Value) (w : World), (Instr.makeFunc fn first cap).run Tryd.prog w = .ok (.func fn first cap) w := fun _ _ _ _ => rfl
attribute [local go_sem] mkFnK
set_option maxRecDepth 100000 in
set_option maxHeartbeats 8000000 in
theorem backs9_any (f : Nat → Int) (w : World) (hP : Pow9 w) : Calls Tryd.prog 3 #[vcV f] w fun e w' => e = .returned (.bool true) ∧ Below w.heap.size w w' := by
  have HAW := Lib.hid awake9
  obtain ⟨W0, hW0⟩ : ∃ W0, w.alloc (.cells (tab 16 (vf f)) 22) = W0 := ⟨_, rfl⟩
  have HB0 := Lib.hid (show Below w.heap.size w W0 from by rw [← hW0]; exact below_newZ _ _)
  have HR0 := Lib.hid (show Row W0 w.heap.size 22 16 (vf f) from by rw [← hW0]; exact Row.new _ _ _ _)
  have HW0 := Lib.hid hW0
  clear hW0
  obtain ⟨H, hH⟩ : ∃ H, w.heap.size = H := ⟨_, rfl⟩
  have HGD := Lib.hid (fun u => refGood9_any f u)
  have HPW := Lib.hid hP
  have HHH := Lib.hid hH
  clear hP hH
  by_cases hgd : gdV f = false
  · rw [hgd] at HGD
    go_enter Tryd.func3, Tryd.ntmps3
    go_wp2_with fail
    rw [HW0.out, HHH.out]
    refine (HAW.out _).mono ?_
    rintro e w1 ⟨rfl, hB1⟩
    have hb1 := HB0.out.trans (hB1.mono HB0.out.size)
    have HB1 := Lib.hid hb1
    have hr1 := HR0.out.of_below hB1
    rw [HHH.out] at hr1
    have l1 := loadVT vtA (VecAt.of_row hr1 (Nat.le_refl _))
    clear hB1 hb1 hr1
    go_wp2_with (first | (refine (HGD.out _).mono ?_; rintro e w2 ⟨rfl, hB2⟩; have HB2 := Lib.hid (HB1.out.trans (hB2.mono HB1.out.size)); clear hB2 l1) | (refine (HAW.out _).mono ?_; rintro e w3 ⟨rfl, hB3⟩; have HB3 := Lib.hid (HB2.out.trans (hB3.mono HB2.out.size)); clear hB3))
    go_ret
    exact ⟨rfl, HB3.out⟩
  · have hgt : gdV f = true := by simpa using hgd
    rw [hgt] at HGD
    have HF := Lib.hid (gdV_iff.1 hgt)
    clear hgd hgt
    go_enter Tryd.func3, Tryd.ntmps3
    go_wp2_with fail
    rw [HW0.out, HHH.out]
    refine (HAW.out _).mono ?_
    rintro e w1 ⟨rfl, hB1⟩
    have hb1 := HB0.out.trans (hB1.mono HB0.out.size)
    have HB1 := Lib.hid hb1
    have hr1 := HR0.out.of_below hB1
    rw [HHH.out] at hr1
    have HR1 := Lib.hid hr1
    have l1 := loadVT vtA (VecAt.of_row hr1 (Nat.le_refl _))
    clear hB1 hb1 hr1
    go_wp2_with fail
    refine (HGD.out _).mono ?_
    rintro e w2 ⟨rfl, hB2⟩
    have hr2 := HR1.out.of_below hB2
    have HB2 := Lib.hid (HB1.out.trans (hB2.mono HB1.out.size))
    have hHw2 : H < w2.heap.size := hr2.lt
    have hBa := below_newZ w2 (.cells #[.slice none 0 0] 27)
    have hWZ := wrP_zero w2.heap.size w2 (Nat.le_refl _)
    have HPT := Lib.hid (put9_any f HF.out w2.heap.size _ ⟨w2.heap.size, 0, none⟩ none [] hWZ (by simp))
    unfold zW at HPT
    have hra := hr2.of_below hBa
    have HRA := Lib.hid hra
    have l2 := loadVT vtA (VecAt.of_row hra (Nat.le_refl _))
    have HBA := Lib.hid (HB2.out.trans (hBa.mono HB2.out.size))
    have hza : (w2.alloc (.cells #[.slice none 0 0] 27)).heap.size = w2.heap.size + 1 := World.size_alloc _ _
    have HZA := Lib.hid hza
    clear hB2 hr2 hBa hWZ hra l1 hza
    go_wp2_with fail
    refine HPT.out.mono ?_
    rintro e w3 ⟨rfl, g3, hW3, hg3, hK3⟩
    rw [List.nil_append] at hW3
    have hb3 : Below w2.heap.size (w2.alloc (.cells #[.slice none 0 0] 27)) w3 := hK3.below (Nat.le_refl _) (fun k hk => by cases hk) (by rw [HZA.out]; omega)
    have HR3 := Lib.hid (HRA.out.below hb3 hHw2)
    have HB3 := Lib.hid (HBA.out.trans (hb3.mono HB2.out.size))
    have HDN := Lib.hid (wrP_done w2.heap.size w3 ⟨w2.heap.size, 0, none⟩ g3 (encV f) hW3 (by have := encV_len HF.out; omega))
    clear hW3 hg3 hK3 hb3 l2
    go_wp2_with fail
    refine HDN.out.mono ?_
    rintro e w4 ⟨v4, rfl, hO4, hB4⟩
    obtain ⟨p4, c4, rfl, hs4, hp4, hc4⟩ := hO4.shape
    have hlt4 : ∀ c o, p4 = some ⟨c, o, none⟩ → c < w4.heap.size := fun c o e => (hO4.lt c (by rw [e]; rfl)).2
    obtain ⟨L4, hL4⟩ : ∃ L4, (encV f).length = L4 := ⟨_, rfl⟩
    have hL113 : L4 ≤ 113 := by rw [← hL4]; exact encV_len HF.out
    rw [hL4] at hc4 ⊢
    have HB4 := Lib.hid (HB3.out.trans (hB4.mono HB3.out.size))
    have hr4 := HR3.out.of_below hB4
    have hB5 := below_newZ w4 (.cells (tab 16 (vf fun _ => 0)) 28)
    have hn5 := Row.new w4 28 16 (vf fun _ => 0)
    have hz5 : (w4.alloc (.cells (tab 16 (vf fun _ => 0)) 28)).heap.size = w4.heap.size + 1 := World.size_alloc _ _
    have HRD := Lib.hid (read_any (encV f) p4 L4 c4 11 #[.pointer (some ⟨w4.heap.size, 0, none⟩)] (w4.alloc (.cells (tab 16 (vf fun _ => 0)) 28)) (fun c w' => c = 0 ∧ Row w' w4.heap.size 28 16 (vf f) ∧ Below w4.heap.size (w4.alloc (.cells (tab 16 (vf fun _ => 0)) 28)) w') hL4 (hs4.of_below hB5) hp4 hc4 (by omega) enters_k9
      (fun c x y h k => ⟨h.1, h.2.1.below k (by rw [hz5]; omega), h.2.2.trans (k.mono hB5.size)⟩)
      (fun a u hb hr => (backs_in9 f HF.out p4 _ u a w4.heap.size w4.heap.size _ hr (hn5.below hb (by rw [hz5]; omega)) (by rw [hz5]; omega) (Nat.le_refl _)).mono fun e w' ⟨h1, h2, h3, h4, h5⟩ => ⟨h1, .inl ⟨[], h3, h4, by rw [if_pos rfl], h5, (hb.mono hB5.size).trans h2⟩⟩))
    have HR4 := Lib.hid (hr4.of_below hB5)
    have HB5 := Lib.hid (HB4.out.trans (hB5.mono HB4.out.size))
    have HS4 := Lib.hid (And.intro (hs4.of_below hB5) (And.intro hp4 hlt4))
    have HB45 := Lib.hid hB5
    have HL4 := Lib.hid hL4
    have hH4 : H < w4.heap.size := hr4.lt
    clear hO4 hB4 hs4 hp4 hc4 hr4 hB5 hn5 hz5 hlt4 hL4
    go_wp2_with fail
    refine HRD.out.mono ?_
    rintro e w6 ⟨code, rfl, rfl, hG6, hB6⟩
    have hs6 : Sl w6 p4 (encV f) := HS4.out.1.keepP (fun c o e _ => hB6.block c (HS4.out.2.2 c o e))
    have hr6 := HR4.out.below hB6 hH4
    have HBE := Lib.hid (HB5.out.trans (hB6.mono HB4.out.size))
    have HBY := Lib.hid (fun u => refBytes9_any f HF.out u)
    have HTR := Lib.hid (fun u => refText9_any f HF.out u)
    have HTX := Lib.hid (fun (u : World) (hu : Below w6.heap.size w6 u) => text9_any f HF.out u (HPW.out.on (HBE.out.trans (hu.mono HBE.out.size))))
    rw [← txt_join] at HTX
    have HSS := Lib.hid (fun (u : World) (hu : Below w6.heap.size w6 u) => (⟨loadVT vtA (VecAt.of_row (hr6.of_below hu) (Nat.le_refl _)), loadVT vtV (VecAt.of_row (hG6.of_below hu) (Nat.le_refl _)), conv_str u p4 (encV f) L4 c4 (hs6.of_below hu) HL4.out HS4.out.2.1, hu⟩ : (ldT 22 (.pointer (some ⟨H, 0, none⟩))).run Tryd.prog u = .ok (.value (vcV f)) u ∧ (ldT 28 (.pointer (some ⟨w4.heap.size, 0, none⟩))).run Tryd.prog u = .ok (.value (vcV f)) u ∧ (convert 25 9 (.slice p4 L4 c4)).run Tryd.prog u = .ok (.string (strOf (encV f))) u ∧ Below w6.heap.size w6 u))
    clear hs6 hr6 hG6 hB6
    go_wp2
    generalize hHB : w4.heap.size = HB at *
    generalize txtR f 16 = T at *
    refine wp_region_noPanic ?_
    refine wp_region_held_drew (S := (fun u : World => (ldT 22 (.pointer (some ⟨H, 0, none⟩))).run Tryd.prog u = .ok (.value (vcV f)) u ∧ (ldT 28 (.pointer (some ⟨HB, 0, none⟩))).run Tryd.prog u = .ok (.value (vcV f)) u ∧ (convert 25 9 (.slice p4 L4 c4)).run Tryd.prog u = .ok (.string (strOf (encV f))) u ∧ Below w6.heap.size w6 u)) (by kernel_rfl) (HSS.out _ (Below.refl _ _).drew) (fun hHeld => ?_)
    refine wpAnyH_take (i := 0) (v := ?_) (by simp only [List.getElem?_toArray, List.getElem?_cons_succ, List.getElem?_cons_zero]; exact rfl) (by kernel_rfl) (by kernel_rfl) (by kernel_rfl) (fun _ _ _ h => h) (Or.inl ⟨by rfl, ?_⟩) (by assumption) ?_
    rotate_left 1
    · (intro w hSw; (try dsimp only at hSw); go_simp; try with_reducible rfl)
    try simp only [Act.put, List.setIfInBounds_toArray, List.set_cons_zero, List.set_cons_succ]
    refine wpAnyH_take (i := 1) (v := ?_) (by simp only [List.getElem?_toArray, List.getElem?_cons_succ, List.getElem?_cons_zero]; exact rfl) (by kernel_rfl) (by kernel_rfl) (by kernel_rfl) (fun _ _ _ h => h) (Or.inl ⟨by rfl, ?_⟩) (by assumption) ?_
    rotate_left 1
    · (intro w hSw; (try dsimp only at hSw); go_simp; try with_reducible rfl)
    try simp only [Act.put, List.setIfInBounds_toArray, List.set_cons_zero, List.set_cons_succ]
    refine wpAnyH_take (i := 2) (v := ?_) (by simp only [List.getElem?_toArray, List.getElem?_cons_succ, List.getElem?_cons_zero]; exact rfl) (by kernel_rfl) (by kernel_rfl) (by kernel_rfl) (fun _ _ _ h => h) (Or.inl ⟨by rfl, ?_⟩) (by assumption) ?_
    rotate_left 1
    · (intro w hSw; (try dsimp only at hSw); go_simp; try with_reducible rfl)
    try simp only [Act.put, List.setIfInBounds_toArray, List.set_cons_zero, List.set_cons_succ]
    refine wpAnyH_ready (rs := [3]) (by kernel_rfl) (by simp) ?_
    refine (AllReadyH.cons (by simp only [List.getElem?_toArray, List.getElem?_cons_succ, List.getElem?_cons_zero]; exact rfl) (fun K hK => ?_) AllReadyH.nil)
    go_simp
    refine (HBY.out _).mono ?_
    rintro e w7 ⟨v7, rfl, hO7, hB7⟩
    obtain ⟨p7, c7, rfl, hs7, hp7, hc7⟩ := hO7.shape
    have hX7 := hHeld.2.2.2.trans (hB7.mono hHeld.2.2.2.size)
    have hcv7 := conv_str w7 p7 (encV f) _ c7 hs7 rfl hp7
    clear hO7 hB7 hs7 hp7 hc7
    go_wp2_with fail
    refine hK.out _ _ (HSS.out _ hX7) (fun hHeld => ?_)
    clear hK K
    try simp only [Act.put, List.setIfInBounds_toArray, List.set_cons_zero, List.set_cons_succ]
    refine wpAnyH_ready (rs := [4]) (by kernel_rfl) (by simp) ?_
    refine (AllReadyH.cons (by simp only [List.getElem?_toArray, List.getElem?_cons_succ, List.getElem?_cons_zero]; exact rfl) (fun K hK => ?_) AllReadyH.nil)
    go_simp
    refine hK.out _ _ hHeld (fun hHeld => ?_)
    clear hK K
    try simp only [Act.put, List.setIfInBounds_toArray, List.set_cons_zero, List.set_cons_succ]
    refine wpAnyH_take (i := 5) (v := ?_) (by simp only [List.getElem?_toArray, List.getElem?_cons_succ, List.getElem?_cons_zero]; exact rfl) (by kernel_rfl) (by kernel_rfl) (by kernel_rfl) (fun _ _ _ h => h) (Or.inl ⟨by rfl, ?_⟩) (by assumption) ?_
    rotate_left 1
    · (intro w hSw; (try dsimp only at hSw); go_simp; try with_reducible rfl)
    try simp only [Act.put, List.setIfInBounds_toArray, List.set_cons_zero, List.set_cons_succ]
    refine wpAnyH_take (i := 6) (v := ?_) (by simp only [List.getElem?_toArray, List.getElem?_cons_succ, List.getElem?_cons_zero]; exact rfl) (by kernel_rfl) (by kernel_rfl) (by kernel_rfl) (fun _ _ _ h => h) (Or.inl ⟨by rfl, ?_⟩) (by assumption) ?_
    rotate_left 1
    · (intro w hSw; (try dsimp only at hSw); go_simp; try with_reducible rfl)
    try simp only [Act.put, List.setIfInBounds_toArray, List.set_cons_zero, List.set_cons_succ]
    refine wpAnyH_take (i := 7) (v := ?_) (by simp only [List.getElem?_toArray, List.getElem?_cons_succ, List.getElem?_cons_zero]; exact rfl) (by kernel_rfl) (by kernel_rfl) (by kernel_rfl) (fun _ _ _ h => h) (Or.inl ⟨by rfl, ?_⟩) (by assumption) ?_
    rotate_left 1
    · (intro w hSw; (try dsimp only at hSw); go_simp; try with_reducible rfl)
    try simp only [Act.put, List.setIfInBounds_toArray, List.set_cons_zero, List.set_cons_succ]
    refine wpAnyH_take (i := 8) (v := ?_) (by simp only [List.getElem?_toArray, List.getElem?_cons_succ, List.getElem?_cons_zero]; exact rfl) (by kernel_rfl) (by kernel_rfl) (by kernel_rfl) (fun _ _ _ h => h) (Or.inl ⟨by rfl, ?_⟩) (by assumption) ?_
    rotate_left 1
    · (intro w hSw; (try dsimp only at hSw); go_simp; try with_reducible rfl)
    try simp only [Act.put, List.setIfInBounds_toArray, List.set_cons_zero, List.set_cons_succ]
    refine wpAnyH_take (i := 9) (v := ?_) (by simp only [List.getElem?_toArray, List.getElem?_cons_succ, List.getElem?_cons_zero]; exact rfl) (by kernel_rfl) (by kernel_rfl) (by kernel_rfl) (fun _ _ _ h => h) (Or.inl ⟨by rfl, ?_⟩) (by assumption) ?_
    rotate_left 1
    · (intro w hSw; (try dsimp only at hSw); go_simp; try with_reducible rfl)
    try simp only [Act.put, List.setIfInBounds_toArray, List.set_cons_zero, List.set_cons_succ]
    refine wpAnyH_take (i := 10) (v := ?_) (by simp only [List.getElem?_toArray, List.getElem?_cons_succ, List.getElem?_cons_zero]; exact rfl) (by kernel_rfl) (by kernel_rfl) (by kernel_rfl) (fun _ _ _ h => h) (Or.inl ⟨by rfl, ?_⟩) (by assumption) ?_
    rotate_left 1
    · (intro w hSw; (try dsimp only at hSw); go_simp; try with_reducible rfl)
    try simp only [Act.put, List.setIfInBounds_toArray, List.set_cons_zero, List.set_cons_succ]
    refine wpAnyH_take (i := 11) (v := ?_) (by simp only [List.getElem?_toArray, List.getElem?_cons_succ, List.getElem?_cons_zero]; exact rfl) (by kernel_rfl) (by kernel_rfl) (by kernel_rfl) (fun _ _ _ h => h) (Or.inl ⟨by rfl, ?_⟩) (by assumption) ?_
    rotate_left 1
    · (intro w hSw; (try dsimp only at hSw); go_simp; try with_reducible rfl)
    try simp only [Act.put, List.setIfInBounds_toArray, List.set_cons_zero, List.set_cons_succ]
    refine wpAnyH_take (i := 12) (v := ?_) (by simp only [List.getElem?_toArray, List.getElem?_cons_succ, List.getElem?_cons_zero]; exact rfl) (by kernel_rfl) (by kernel_rfl) (by kernel_rfl) (fun _ _ _ h => h) (Or.inl ⟨by rfl, ?_⟩) (by assumption) ?_
    rotate_left 1
    · (intro w hSw; (try dsimp only at hSw); go_simp; try with_reducible rfl)
    try simp only [Act.put, List.setIfInBounds_toArray, List.set_cons_zero, List.set_cons_succ]
    refine wpAnyH_take (i := 13) (v := ?_) (by simp only [List.getElem?_toArray, List.getElem?_cons_succ, List.getElem?_cons_zero]; exact rfl) (by kernel_rfl) (by kernel_rfl) (by kernel_rfl) (fun _ _ _ h => h) (Or.inl ⟨by rfl, ?_⟩) (by assumption) ?_
    rotate_left 1
    · (intro w hSw; (try dsimp only at hSw); go_simp; try with_reducible rfl)
    try simp only [Act.put, List.setIfInBounds_toArray, List.set_cons_zero, List.set_cons_succ]
    refine wpAnyH_take (i := 14) (v := ?_) (by simp only [List.getElem?_toArray, List.getElem?_cons_succ, List.getElem?_cons_zero]; exact rfl) (by kernel_rfl) (by kernel_rfl) (by kernel_rfl) (fun _ _ _ h => h) (Or.inl ⟨by rfl, ?_⟩) (by assumption) ?_
    rotate_left 1
    · (intro w hSw; (try dsimp only at hSw); go_simp; try with_reducible rfl)
    try simp only [Act.put, List.setIfInBounds_toArray, List.set_cons_zero, List.set_cons_succ]
    refine wpAnyH_take (i := 15) (v := ?_) (by simp only [List.getElem?_toArray, List.getElem?_cons_succ, List.getElem?_cons_zero]; exact rfl) (by kernel_rfl) (by kernel_rfl) (by kernel_rfl) (fun _ _ _ h => h) (Or.inl ⟨by rfl, ?_⟩) (by assumption) ?_
    rotate_left 1
    · (intro w hSw; (try dsimp only at hSw); go_simp; try with_reducible rfl)
    try simp only [Act.put, List.setIfInBounds_toArray, List.set_cons_zero, List.set_cons_succ]
    refine wpAnyH_take (i := 16) (v := ?_) (by simp only [List.getElem?_toArray, List.getElem?_cons_succ, List.getElem?_cons_zero]; exact rfl) (by kernel_rfl) (by kernel_rfl) (by kernel_rfl) (fun _ _ _ h => h) (Or.inl ⟨by rfl, ?_⟩) (by assumption) ?_
    rotate_left 1
    · (intro w hSw; (try dsimp only at hSw); go_simp; try with_reducible rfl)
    try simp only [Act.put, List.setIfInBounds_toArray, List.set_cons_zero, List.set_cons_succ]
    refine wpAnyH_take (i := 18) (v := ?_) (by simp only [List.getElem?_toArray, List.getElem?_cons_succ, List.getElem?_cons_zero]; exact rfl) (by kernel_rfl) (by kernel_rfl) (by kernel_rfl) (fun _ _ _ h => h) (Or.inl ⟨by rfl, ?_⟩) (by assumption) ?_
    rotate_left 1
    · (intro w hSw; (try dsimp only at hSw); go_simp; try with_reducible rfl)
    try simp only [Act.put, List.setIfInBounds_toArray, List.set_cons_zero, List.set_cons_succ]
    refine wpAnyH_ready (rs := [17]) (by kernel_rfl) (by simp) ?_
    refine (AllReadyH.cons (by simp only [List.getElem?_toArray, List.getElem?_cons_succ, List.getElem?_cons_zero]; exact rfl) (fun K hK => ?_) AllReadyH.nil)
    go_simp
    refine (HTX.out _ hHeld.2.2.2).mono ?_
    rintro e w8 ⟨rfl, hB8⟩
    go_wp2_with fail
    refine hK.out _ _ (HSS.out _ (hHeld.2.2.2.trans (hB8.mono hHeld.2.2.2.size))) (fun hHeld => ?_)
    clear hK K
    try simp only [Act.put, List.setIfInBounds_toArray, List.set_cons_zero, List.set_cons_succ]
    refine wpAnyH_ready (rs := [19]) (by kernel_rfl) (by simp) ?_
    refine (AllReadyH.cons (by simp only [List.getElem?_toArray, List.getElem?_cons_succ, List.getElem?_cons_zero]; exact rfl) (fun K hK => ?_) AllReadyH.nil)
    go_simp
    refine (HTR.out _).mono ?_
    rintro e w9 ⟨rfl, hB9⟩
    go_wp2_with fail
    refine hK.out _ _ (HSS.out _ (hHeld.2.2.2.trans (hB9.mono hHeld.2.2.2.size))) (fun hHeld => ?_)
    clear hK K
    try simp only [Act.put, List.setIfInBounds_toArray, List.set_cons_zero, List.set_cons_succ]
    refine wpAnyH_take (i := 20) (v := ?_) (by simp only [List.getElem?_toArray, List.getElem?_cons_succ, List.getElem?_cons_zero]; exact rfl) (by kernel_rfl) (by kernel_rfl) (by kernel_rfl) (fun _ _ _ h => h) (Or.inl ⟨by rfl, ?_⟩) (by assumption) ?_
    rotate_left 1
    · (intro w hSw; (try dsimp only at hSw); go_simp; try with_reducible rfl)
    try simp only [Act.put, List.setIfInBounds_toArray, List.set_cons_zero, List.set_cons_succ]
    refine wpAnyH_take (i := 21) (v := ?_) (by simp only [List.getElem?_toArray, List.getElem?_cons_succ, List.getElem?_cons_zero]; exact rfl) (by kernel_rfl) (by kernel_rfl) (by kernel_rfl) (fun _ _ _ h => h) (Or.inl ⟨by rfl, ?_⟩) (by assumption) ?_
    rotate_left 1
    · (intro w hSw; (try dsimp only at hSw); go_simp; try with_reducible rfl)
    try simp only [Act.put, List.setIfInBounds_toArray, List.set_cons_zero, List.set_cons_succ]
    refine wpAnyH_take (i := 22) (v := ?_) (by simp only [List.getElem?_toArray, List.getElem?_cons_succ, List.getElem?_cons_zero]; exact rfl) (by kernel_rfl) (by kernel_rfl) (by kernel_rfl) (fun _ _ _ h => h) (Or.inl ⟨by rfl, ?_⟩) (by assumption) ?_
    rotate_left 1
    · (intro w hSw; (try dsimp only at hSw); go_simp; try with_reducible rfl)
    try simp only [Act.put, List.setIfInBounds_toArray, List.set_cons_zero, List.set_cons_succ]
    refine wpAnyH_done (by kernel_rfl) ?_ _
    refine NoPanic.normal ?_
    go_wp2
    go_ret
    exact ⟨rfl, HBE.out.trans (hHeld.2.2.2.mono HBE.out.size)⟩
end
end Go.Proofs.YtjpennbmphhipaaDoor
