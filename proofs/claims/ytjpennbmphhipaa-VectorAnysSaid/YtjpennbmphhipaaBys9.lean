/- Bytes of the reference: the encoding of a good vector. -/
import Derived.Test.YtjpennbmphhipaaEnc9
import Derived.Test.YtjpennbmphhipaaAwk9
import Derived.Test.YtjpennbmphhipaaRef6
import Derived.Test.YtjpennbmphhipaaAppL6
import Derived.Deep.RegionHeld3
set_option linter.unusedSimpArgs false
set_option linter.unusedVariables false
namespace Go.Proofs.Ytjpennbmphhipaa
open Go Go.RowKit

attribute [local go_sem ↓] exec_boxA exec_loadA exec_indexA exec_allocA exec_storeA exec_buildA exec_eqlA exec_neqA exec_boxV exec_loadV exec_indexV exec_allocV exec_storeV exec_buildV exec_eqlV exec_neqV
attribute [local go_sem] boxA indexA storeNewA buildA eqlA neqA boxV indexV storeNewV buildV eqlV neqV
set_option maxRecDepth 100000 in
set_option maxHeartbeats 4000000 in
theorem refBytes9_any (f : Nat → Int) (hf : ∀ i, i < 16 → 0 ≤ f i ∧ f i ≤ 1099511627776) (w : World) : Calls Try.prog 11 #[vcV f] w (GivesB w (encV f)) := by
  have HST := Lib.hid (show Row (w.alloc (.cells (tab 16 (vf f)) 24)) w.heap.size 24 16 (vf f) ∧ Below w.heap.size w (w.alloc (.cells (tab 16 (vf f)) 24)) ∧ w.heap.size + 1 ≤ (w.alloc (.cells (tab 16 (vf f)) 24)).heap.size from ⟨Row.new w 24 16 (vf f), (Below.refl _ _).alloc (Nat.le_refl _) _, by rw [World.size_alloc]; exact Nat.le_refl _⟩)
  have HGF := Lib.hid hf
  clear hf
  go_enter Try.func11, Try.ntmps11
  go_wp2
  go_loopw [3, 4, 6] (fun sv sm si wr => ∃ i : Nat, i ≤ 16 ∧ sm = .int .i64 (cntV f i : Int) ∧ si = .int .i64 (i : Int) ∧ OwnB wr (w.heap.size + 1) sv (bodyV f i) ∧ Row wr w.heap.size 24 16 (vf f) ∧ Below w.heap.size w wr) (fun sv sm si _ => 16 - (intOf si).toNat)
  case atStart => exact ⟨0, Nat.zero_le _, rfl, rfl, ⟨rfl, .inl ⟨rfl, rfl⟩⟩, HST.out.1, HST.out.2.1⟩
  case round =>
    obtain ⟨i, hi, rfl, rfl, hO, hR, hB⟩ := hrel
    have HBW := Lib.hid hB
    have HRW := Lib.hid hR
    have hlt : w.heap.size < wr.heap.size := World.block_lt_of_cell? wr _ (hR.cell 0 (by decide))
    have hNs : w.heap.size + 1 ≤ wr.heap.size := hlt
    have hblen : (bodyV f i).length ≤ 7 * i := bodyV_len HGF.out i hi
    obtain ⟨p0, c0, hve, -⟩ := hO.shape
    subst hve
    have HO := Lib.hid hO
    clear hO hB HST
    by_cases h16 : i < 16
    · have z1 : (i : Int) < 16 := by omega
      have z2 : decide ((i : Int) < 16) = true := decide_eq_true z1
      have hw := i64v i h16
      have x1 : wr.cell? ⟨w.heap.size, i, none⟩ = some (.int .i64 (f i)) := hR.cell i h16
      have hfi := HGF.out i h16
      by_cases h0 : f i = 0
      · have HCT := Lib.hid (cntV_zero h0)
        have HBD := Lib.hid (bodyV_zero h0)
        rw [h0] at x1
        clear hR hfi h0
        go_wp2
        go_roundw
        case rel => exact ⟨i + 1, by omega, by rw [HCT.out], by go_num, by rw [HBD.out]; exact HO.out, HRW.out, HBW.out⟩
        case measure => simp [intOf]; omega
      · have HCT := Lib.hid (cntV_one h0)
        have HBD := Lib.hid (bodyV_one h0)
        obtain ⟨m, hm⟩ : ∃ m : Nat, f i = (m : Int) := ⟨(f i).toNat, by omega⟩
        rw [hm] at x1 h0 hfi
        rw [hm, Int.toNat_natCast] at HBD
        have d1 : ((m : Int) == 0) = false := by rw [beq_eq_false_iff_ne]; exact h0
        have d2 : ¬ (m : Int) = 0 := h0
        have hm40 : m ≤ 1099511627776 := by omega
        have hl1 := enc7_len 0 i (by show i < 128; omega)
        have hl2 := enc7_len40 hm40
        have HNI := Lib.hid (refNum i (by omega))
        have HNM := Lib.hid (refNum m (by omega))
        have hcw : IntKind.i64.wrap ((cntV f i : Int) + 1) = (cntV f i : Int) + 1 := by have := cntV_le f i; rw [IntKind.wrap_i64]; omega
        have HSS := Lib.hid (fun (u : World) (hu : Below (w.heap.size + 1) wr u) => (⟨by rw [hu.cell (by exact Nat.lt_succ_self _)]; exact x1, hu⟩ : u.cell? ⟨w.heap.size, i, none⟩ = some (.int .i64 (m : Int)) ∧ Below (w.heap.size + 1) wr u))
        clear hR hfi h0 hm hm40
        go_wp2
        have HX := Lib.hid (show Below (w.heap.size + 1) wr wr.drew from (Below.refl _ _).drew)
        have HO := Lib.hid (HO.out.of_below ((Below.refl _ _).drew))
        have HZ0 := Lib.hid hNs
        refine wp_region_noPanic ?_
        refine wp_region_held_drew (S := (fun u : World => u.cell? ⟨w.heap.size, i, none⟩ = some (.int .i64 (m : Int)) ∧ Below (w.heap.size + 1) wr u)) (by kernel_rfl) (HSS.out _ HX.out) (fun hHeld => ?_)
        generalize wr.drew = x0 at *
        refine wpAnyH_take (i := 0) (v := ?_) (by simp only [List.getElem?_toArray, List.getElem?_cons_succ, List.getElem?_cons_zero]; exact rfl) (by kernel_rfl) (by kernel_rfl) (by kernel_rfl) (fun _ _ _ h => h) (Or.inl ⟨by rfl, ?_⟩) (by assumption) ?_
        rotate_left 1
        · (intro w hSw; (try dsimp only at hSw); go_simp; try with_reducible rfl)
        try simp only [Act.put, List.setIfInBounds_toArray, List.set_cons_zero, List.set_cons_succ]
        refine wpAnyH_take (i := 1) (v := ?_) (by simp only [List.getElem?_toArray, List.getElem?_cons_succ, List.getElem?_cons_zero]; exact rfl) (by kernel_rfl) (by kernel_rfl) (by kernel_rfl) (fun _ _ _ h => h) (Or.inl ⟨by rfl, ?_⟩) (by assumption) ?_
        rotate_left 1
        · (intro w hSw; (try dsimp only at hSw); go_simp; try with_reducible rfl)
        try simp only [Act.put, List.setIfInBounds_toArray, List.set_cons_zero, List.set_cons_succ]
        refine wpAnyH_take (i := 4) (v := ?_) (by simp only [List.getElem?_toArray, List.getElem?_cons_succ, List.getElem?_cons_zero]; exact rfl) (by kernel_rfl) (by kernel_rfl) (by kernel_rfl) (fun _ _ _ h => h) (Or.inl ⟨by rfl, ?_⟩) (by assumption) ?_
        rotate_left 1
        · (intro w hSw; (try dsimp only at hSw); go_simp; try with_reducible rfl)
        try simp only [Act.put, List.setIfInBounds_toArray, List.set_cons_zero, List.set_cons_succ]
        refine wpAnyH_take (i := 5) (v := ?_) (by simp only [List.getElem?_toArray, List.getElem?_cons_succ, List.getElem?_cons_zero]; exact rfl) (by kernel_rfl) (by kernel_rfl) (by kernel_rfl) (fun _ _ _ h => h) (Or.inl ⟨by rfl, ?_⟩) (by assumption) ?_
        rotate_left 1
        · (intro w hSw; (try dsimp only at hSw); go_simp; try with_reducible rfl)
        try simp only [Act.put, List.setIfInBounds_toArray, List.set_cons_zero, List.set_cons_succ]
        refine wpAnyH_take (i := 6) (v := ?_) (by simp only [List.getElem?_toArray, List.getElem?_cons_succ, List.getElem?_cons_zero]; exact rfl) (by kernel_rfl) (by kernel_rfl) (by kernel_rfl) (fun _ _ _ h => h) (Or.inl ⟨by rfl, ?_⟩) (by assumption) ?_
        rotate_left 1
        · (intro w hSw; (try dsimp only at hSw); go_simp; try with_reducible rfl)
        try simp only [Act.put, List.setIfInBounds_toArray, List.set_cons_zero, List.set_cons_succ]
        refine wpAnyH_ready (rs := [2]) (by kernel_rfl) (by simp) ?_
        refine (AllReadyH.cons (by simp only [List.getElem?_toArray, List.getElem?_cons_succ, List.getElem?_cons_zero]; exact rfl) (fun K hK => ?_) AllReadyH.nil)
        go_simp
        refine (HNI.out _).mono ?_
        rintro e x2 ⟨v2, rfl, hO2, hB2⟩
        obtain ⟨p2, c2, rfl, hs2, hp2, hc2⟩ := hO2.shape
        have HX := Lib.hid (HX.out.trans (hB2.mono (Nat.le_trans HZ0.out HX.out.size)))
        have HO := Lib.hid (HO.out.of_below hB2)
        have HN2 := Lib.hid hO2
        have HS2 := Lib.hid (And.intro hs2 hp2)
        clear hO2 hB2 hs2 hp2 hc2
        go_wp2_with fail
        refine hK.out _ _ (HSS.out _ HX.out) (fun hHeld => ?_)
        clear hK K
        try simp only [Act.put, List.setIfInBounds_toArray, List.set_cons_zero, List.set_cons_succ]
        refine wpAnyH_ready (rs := [3]) (by kernel_rfl) (by simp) ?_
        refine (AllReadyH.cons (by simp only [List.getElem?_toArray, List.getElem?_cons_succ, List.getElem?_cons_zero]; exact rfl) (fun K hK => ?_) AllReadyH.nil)
        refine step_appendL _ rfl (.tmp 15) (.tmp 17) rfl (w.heap.size + 1) (.slice p0 (bodyV f i).length c0) (bodyV f i) rfl HO.out p2 _ c2 (enc7 i) rfl rfl HS2.out.1 HS2.out.2 (by first | omega | (simp only [List.length_append]; omega)) (Nat.le_trans HZ0.out HX.out.size) ?_
        rintro v3 x3 hO hg hor
        have HX := Lib.hid (HX.out.grown hg (Nat.le_trans HZ0.out HX.out.size) (fun j hj => (HO.out.lt j hj).1))
        have HO := Lib.hid hO
        clear hO hg hor
        refine hK.out _ _ (HSS.out _ HX.out) (fun hHeld => ?_)
        clear hK K
        try simp only [Act.put, List.setIfInBounds_toArray, List.set_cons_zero, List.set_cons_succ]
        refine wpAnyH_ready (rs := [7]) (by kernel_rfl) (by simp) ?_
        refine (AllReadyH.cons (by simp only [List.getElem?_toArray, List.getElem?_cons_succ, List.getElem?_cons_zero]; exact rfl) (fun K hK => ?_) AllReadyH.nil)
        go_simp
        refine (HNM.out _).mono ?_
        rintro e x7 ⟨v7, rfl, hO7, hB7⟩
        obtain ⟨p7, c7, rfl, hs7, hp7, hc7⟩ := hO7.shape
        have HX := Lib.hid (HX.out.trans (hB7.mono (Nat.le_trans HZ0.out HX.out.size)))
        have HO := Lib.hid (HO.out.of_below hB7)
        have HN7 := Lib.hid hO7
        have HS7 := Lib.hid (And.intro hs7 hp7)
        clear hO7 hB7 hs7 hp7 hc7
        go_wp2_with fail
        refine hK.out _ _ (HSS.out _ HX.out) (fun hHeld => ?_)
        clear hK K
        try simp only [Act.put, List.setIfInBounds_toArray, List.set_cons_zero, List.set_cons_succ]
        refine wpAnyH_ready (rs := [8]) (by kernel_rfl) (by simp) ?_
        refine (AllReadyH.cons (by simp only [List.getElem?_toArray, List.getElem?_cons_succ, List.getElem?_cons_zero]; exact rfl) (fun K hK => ?_) AllReadyH.nil)
        refine step_appendL _ rfl (.tmp 18) (.tmp 22) rfl (w.heap.size + 1) v3 (bodyV f i ++ enc7 i) rfl HO.out p7 _ c7 (enc7 m) rfl rfl HS7.out.1 HS7.out.2 (by first | omega | (simp only [List.length_append]; omega)) (Nat.le_trans HZ0.out HX.out.size) ?_
        rintro v8 x8 hO hg hor
        have HX := Lib.hid (HX.out.grown hg (Nat.le_trans HZ0.out HX.out.size) (fun j hj => (HO.out.lt j hj).1))
        have HO := Lib.hid hO
        clear hO hg hor
        refine hK.out _ _ (HSS.out _ HX.out) (fun hHeld => ?_)
        clear hK K
        try simp only [Act.put, List.setIfInBounds_toArray, List.set_cons_zero, List.set_cons_succ]
        refine wpAnyH_take (i := 9) (v := ?_) (by simp only [List.getElem?_toArray, List.getElem?_cons_succ, List.getElem?_cons_zero]; exact rfl) (by kernel_rfl) (by kernel_rfl) (by kernel_rfl) (fun _ _ _ h => h) (Or.inl ⟨by rfl, ?_⟩) (by assumption) ?_
        rotate_left 1
        · (intro w hSw; (try dsimp only at hSw); go_simp; try with_reducible rfl)
        try simp only [Act.put, List.setIfInBounds_toArray, List.set_cons_zero, List.set_cons_succ]
        refine wpAnyH_done (by kernel_rfl) ?_ _
        refine NoPanic.normal ?_
        obtain ⟨p8, c8, rfl, -⟩ := HO.out.shape
        go_wp2
        go_roundw
        case rel => exact ⟨i + 1, by omega, by rw [HCT.out]; go_num, by go_num, by rw [HBD.out]; exact HO.out, HRW.out.of_block (HX.out.block _ (by omega)), HBW.out.trans (HX.out.mono (by omega))⟩
        case measure => simp [intOf]; omega
    · have z1 : ¬ (i : Int) < 16 := by omega
      have z2 : decide ((i : Int) < 16) = false := decide_eq_false z1
      obtain rfl : i = 16 := by omega
      have hc16 := cntV_le f 16
      have HNC := Lib.hid (refNum (cntV f 16) (by omega))
      have hl3 := enc7_len 0 (cntV f 16) (by show _ < 128; omega)
      obtain ⟨q0, k0, hve, hS0, hP0, -⟩ := HO.out.shape
      injection hve with e1 e2 e3
      subst e1 e3
      have HS0 := Lib.hid (And.intro hS0 hP0)
      clear hR hS0 hP0 hc16
      go_wp2_with fail
      refine (HNC.out _).mono ?_
      rintro e w2 ⟨v2, rfl, hO2, hB2⟩
      have HO2 := Lib.hid hO2
      have HB2 := Lib.hid (HBW.out.trans (hB2.mono (by omega)))
      have HS2 := Lib.hid (HS0.out.1.of_below hB2)
      have hN2 : w.heap.size ≤ w2.heap.size := HB2.out.size
      have hL2 : wr.heap.size ≤ w2.heap.size := hB2.size
      clear hO2 hB2
      go_wp2_with (first | (refine wpl_append _ rfl (.tmp 26) (.tmp 27) rfl wr.heap.size v2 (enc7 (cntV f 16)) rfl HO2.out p0 _ c0 (bodyV f 16) rfl rfl HS2.out HS0.out.2 (by omega) hL2 ?_; rintro v3 w3 hO3 hg3; have HO3 := Lib.hid hO3; have HB3 := Lib.hid (HB2.out.grown hg3 hN2 (fun k hk => Nat.le_trans (by omega) (HO2.out.lt k hk).1)); clear hO3 hg3))
      go_wp2
      go_ret
      exact ⟨_, rfl, by have := HO3.out.lower (b2 := w.heap.size) (by omega); exact this, HB3.out⟩
end Go.Proofs.Ytjpennbmphhipaa
