/- Merged texts: Sta12, Awk12, Awq12, Rst12, LiftF12. -/
import Derived.BigQuiet
import Derived.Test.YtkfceloaomlhmaaDoorK3
import Derived.Deep.RegionHeld3
import Derived.Test.YtkfceloaomlhmaaDoorK4
import Derived.Test.YtkfceloaomlhmaaDoorLiftB6
set_option linter.unusedSimpArgs false
set_option linter.unusedVariables false
/- sidecar.Stands. -/
set_option maxRecDepth 100000
namespace Go.Proofs.YtkfceloaomlhmaaDoor
open Go Go.RowKit

attribute [-go_sem] Sha.exec_store
attribute [local go_sem ↓] exec_alloc32 exec_store exec_slice exec_apT exec_load32 exec_box12 exec_make exec_eqlD exec_neqD exec_bs
attribute [local go_sem] ap32 mkT12 st_T12 eqlD neqD bsR
set_option maxRecDepth 100000 in
set_option maxHeartbeats 16000000 in
theorem stands12_any (l : List (BitVec 8)) (q : Option Addr) (n cap : Nat) (z : Int) (wh : List (BitVec 8)) (w : World) (hl : l.length = n) (hs : Sl w q l) (hq : q = none → cap = 0) (hc : n ≤ cap) (hn : n < 1000000) (hz1 : -9223372036854775808 ≤ z) (hz2 : z ≤ 100000) (hw : wh.length = 32) (hT : Tb w) :
    Calls Tryd.prog 9 #[.slice q n cap, .int .i64 z, digV wh] w fun e w' => ∃ G, e = .returned (.slice (some ⟨G, 0, none⟩) (2 * nstr z.toNat) (2 * nstr z.toNat)) ∧ w.heap.size ≤ G ∧ G < w'.heap.size ∧ Row w' G 4 (2 * nstr z.toNat) (fun i => .bool (stB l (nstr z.toNat) wh i)) ∧ Below w.heap.size w w' := by
  obtain ⟨bw, hbw⟩ : ∃ b, w.heap.size = b := ⟨_, rfl⟩
  obtain ⟨k, hk⟩ : ∃ k, nstr z.toNat = k := ⟨_, rfl⟩
  obtain ⟨k2, hk2⟩ : ∃ x, 2 * k = x := ⟨_, rfl⟩
  have hkb : k ≤ 98 := by rw [← hk]; unfold nstr; omega
  have hk2b : k2 ≤ 196 := by omega
  obtain ⟨W1, hW1⟩ : ∃ W, w.alloc (.cells (tab 32 (dgF wh)) 31) = W := ⟨_, rfl⟩
  have hb1 : Below w.heap.size w W1 := by rw [← hW1]; exact below_newR _ _
  have hr1 : Row W1 bw 31 32 (dgF wh) := by rw [← hW1, ← hbw]; exact Row.new _ _ _ _
  have x1 : (bxT 31 (digV wh)).run Tryd.prog w = .ok (.value (.pointer (some ⟨w.heap.size, 0, none⟩))) W1 := by rw [← hW1]; exact bx_dig12 w wh
  rw [hbw] at x1
  have HSC := Lib.hid (stripeCount_any z W1 hz1 (by omega))
  have HLN2 := Lib.hid (fun u => Len_any z u hz1 (by omega))
  rw [hk] at HSC HLN2 ⊢
  rw [hk2]
  obtain ⟨W2, hW2⟩ : ∃ W, W1.alloc (.cells (tab k2 (fun _ => .bool false)) 4) = W := ⟨_, rfl⟩
  obtain ⟨G, hG⟩ : ∃ g, W1.heap.size = g := ⟨_, rfl⟩
  have mk := mkT12 k2 W1 (by omega)
  have hb2 : Below W1.heap.size W1 W2 := by rw [← hW2]; exact below_newR _ _
  have hr2 : Row W2 G 4 k2 (fun _ => .bool false) := by rw [← hW2, ← hG]; exact Row.new _ _ _ _
  rw [hW2, hG] at mk
  have HB2 := Lib.hid (hb1.trans (hb2.mono hb1.size))
  have HG1 := Lib.hid hr2
  have HG2 := Lib.hid (show w.heap.size ≤ G from by rw [← hG]; exact hb1.size)
  have HG3 := Lib.hid (show G < W2.drew.heap.size from by rw [← hG, ← hW2]; show W1.heap.size < (W1.alloc _).heap.size; rw [World.size_alloc]; omega)
  have HW0 := Lib.hid (show Sl W2 (some ⟨bw, 0, none⟩) wh from dgF_sl12 (hr1.of_below hb2) hw)
  have HSL := Lib.hid hs
  have HT := Lib.hid hT
  have HQ := Lib.hid hq
  have z0 : ¬ (2147483647 : Int) < z := by omega
  have z1 : decide ((2147483647 : Int) < z) = false := decide_eq_false z0
  have w1 : IntKind.i64.wrap ((k : Int) * 2) = (k2 : Int) := by rw [IntKind.wrap_i64]; omega
  obtain ⟨m, hm⟩ : ∃ m, 32 + 576 * k = m := ⟨_, rfl⟩
  rw [hm] at HLN2
  have HKK := Lib.hid (And.intro hk2 (And.intro hm hl))
  have HWL := Lib.hid hw
  have HZZ := Lib.hid (And.intro hz1 hz2)
  by_cases hlen : n = m
  · have hlq : 32 ≤ l.length := by omega
    obtain ⟨c, o, e0, -⟩ := hs 0 (by omega)
    subst e0
    have s0 : ∀ u, (slT 22 (.slice (some ⟨c, o, none⟩) n cap) none (some (.int .i64 32)) none).run Tryd.prog u = .ok (.value (.slice (some ⟨c, o, none⟩) 32 cap)) u := fun u => sl_hi (some ⟨c, o, none⟩) n cap 32 u (by omega)
    have ht32 : (l.take 32).length = 32 := by rw [List.length_take]; omega
    have HLD := Lib.hid (show ((ldT 31 (.pointer (some ⟨c, o, none⟩))).run Tryd.prog W2.drew = .ok (.value (digV (l.take 32))) W2.drew ∧ (ldT 31 (.pointer (some ⟨bw, 0, none⟩))).run Tryd.prog W2.drew = .ok (.value (digV wh)) W2.drew) from ⟨ld_dig (w := W2.drew) ((hs.of_below HB2.out).take 32) ht32, ld_dig (w := W2.drew) HW0.out hw⟩)
    have y1 : ((n : Int) = (m : Int)) := by omega
    have y6 : ((n : Int) != (m : Int)) = false := by rw [y1]; simp
    have HCC := Lib.hid hc
    have HNM := Lib.hid hlen
    have HNN := Lib.hid hn
    have HS0 := Lib.hid s0
    rcases hD : deq (l.take 32) wh with _ | _
    · have HNO := Lib.hid (show okS l k wh = false from by
        unfold okS
        rw [decide_eq_false_iff_not]
        rintro ⟨-, h⟩
        rw [h, deq_self] at hD
        cases hD)
      clear hs hl hq hT hk hk2 hW1 hW2 hb1 hb2 hr1 hr2 hG hm hlen hw y1 ht32 hlq
      go_enter Tryd.func9, Tryd.ntmps9
      try rw [hbw]
      go_wp2_with fail
      refine HSC.out.mono ?_
      rintro e w1 ⟨rfl, rfl⟩
      clear x1
      go_wp2
      refine wp_region_noPanic ?_
      refine wp_region_held_drew (S := (fun u : World => (ldT 31 (.pointer (some ⟨c, o, none⟩))).run Tryd.prog u = .ok (.value (digV (l.take 32))) u ∧ (ldT 31 (.pointer (some ⟨bw, 0, none⟩))).run Tryd.prog u = .ok (.value (digV wh)) u)) (by kernel_rfl) (HLD.out) (fun hHeld => ?_)
      refine wpAnyH_take (i := 0) (v := ?_) (by simp only [List.getElem?_toArray, List.getElem?_cons_succ, List.getElem?_cons_zero]; exact rfl) (by kernel_rfl) (by kernel_rfl) (by kernel_rfl) (fun _ _ _ h => h) (Or.inl ⟨by rfl, ?_⟩) (by assumption) ?_
      rotate_left 1
      · (intro w hSw; (try dsimp only at hSw); go_simp; try with_reducible rfl)
      try simp only [Act.put, List.setIfInBounds_toArray, List.set_cons_zero, List.set_cons_succ]
      refine wpAnyH_take (i := 1) (v := ?_) (by simp only [List.getElem?_toArray, List.getElem?_cons_succ, List.getElem?_cons_zero]; exact rfl) (by kernel_rfl) (by kernel_rfl) (by kernel_rfl) (fun _ _ _ h => h) (Or.inl ⟨by rfl, ?_⟩) (by assumption) ?_
      rotate_left 1
      · (intro w hSw; (try dsimp only at hSw); go_simp; try with_reducible rfl)
      try simp only [Act.put, List.setIfInBounds_toArray, List.set_cons_zero, List.set_cons_succ]
      refine wpAnyH_take (i := 2) (v := ?_) (by simp only [List.getElem?_toArray, List.getElem?_cons_succ, List.getElem?_cons_zero]; exact rfl) (by kernel_rfl) (by kernel_rfl) (by kernel_rfl) (fun _ _ _ h => h) (Or.inl ⟨by rfl, ?_⟩) (by assumption) ?_
      rotate_left 1
      · (intro w hSw; (try dsimp only at hSw); go_simp; try with_reducible rfl)
      try simp only [Act.put, List.setIfInBounds_toArray, List.set_cons_zero, List.set_cons_succ]
      refine wpAnyH_ready (rs := [3]) (by kernel_rfl) (by simp) ?_
      refine (AllReadyH.cons (by simp only [List.getElem?_toArray, List.getElem?_cons_succ, List.getElem?_cons_zero]; exact rfl) (fun K hK => ?_) AllReadyH.nil)
      go_simp
      refine (HLN2.out _).mono ?_
      rintro e vW ⟨rfl, rfl⟩
      go_wp2_with fail
      refine hK.out _ _ hHeld (fun hHeld => ?_)
      clear hK K
      try simp only [Act.put, List.setIfInBounds_toArray, List.set_cons_zero, List.set_cons_succ]
      refine wpAnyH_take (i := 4) (v := ?_) (by simp only [List.getElem?_toArray, List.getElem?_cons_succ, List.getElem?_cons_zero]; exact rfl) (by kernel_rfl) (by kernel_rfl) (by kernel_rfl) (fun _ _ _ h => h) (Or.inl ⟨by rfl, ?_⟩) (by assumption) ?_
      rotate_left 1
      · (intro w hSw; (try dsimp only at hSw); go_simp; try with_reducible rfl)
      try simp only [Act.put, List.setIfInBounds_toArray, List.set_cons_zero, List.set_cons_succ]
      refine wpAnyH_take (i := 5) (v := ?_) (by simp only [List.getElem?_toArray, List.getElem?_cons_succ, List.getElem?_cons_zero]; exact rfl) (by kernel_rfl) (by kernel_rfl) (by kernel_rfl) (fun _ _ _ h => h) (Or.inl ⟨by rfl, ?_⟩) (by assumption) ?_
      rotate_left 1
      · (intro w hSw; (try dsimp only at hSw); go_simp; try with_reducible rfl)
      try simp only [Act.put, List.setIfInBounds_toArray, List.set_cons_zero, List.set_cons_succ]
      refine wpAnyH_take (i := 6) (v := ?_) (by simp only [List.getElem?_toArray, List.getElem?_cons_succ, List.getElem?_cons_zero]; exact rfl) (by kernel_rfl) (by kernel_rfl) (by kernel_rfl) (fun _ _ _ h => h) (Or.inl ⟨by rfl, ?_⟩) (by assumption) ?_
      rotate_left 1
      · (intro w hSw; (try dsimp only at hSw); go_simp; try with_reducible rfl)
      try simp only [Act.put, List.setIfInBounds_toArray, List.set_cons_zero, List.set_cons_succ]
      refine wpAnyH_take (i := 7) (v := ?_) (by simp only [List.getElem?_toArray, List.getElem?_cons_succ, List.getElem?_cons_zero]; exact rfl) (by kernel_rfl) (by kernel_rfl) (by kernel_rfl) (fun _ _ _ h => h) (Or.inl ⟨by rfl, ?_⟩) (by assumption) ?_
      rotate_left 1
      · (intro w hSw; (try dsimp only at hSw); go_simp; try with_reducible rfl)
      try simp only [Act.put, List.setIfInBounds_toArray, List.set_cons_zero, List.set_cons_succ]
      refine wpAnyH_take (i := 8) (v := ?_) (by simp only [List.getElem?_toArray, List.getElem?_cons_succ, List.getElem?_cons_zero]; exact rfl) (by kernel_rfl) (by kernel_rfl) (by kernel_rfl) (fun _ _ _ h => h) (Or.inl ⟨by rfl, ?_⟩) (by assumption) ?_
      rotate_left 1
      · (intro w hSw; (try dsimp only at hSw); go_simp; try with_reducible rfl)
      try simp only [Act.put, List.setIfInBounds_toArray, List.set_cons_zero, List.set_cons_succ]
      refine wpAnyH_take (i := 9) (v := ?_) (by simp only [List.getElem?_toArray, List.getElem?_cons_succ, List.getElem?_cons_zero]; exact rfl) (by kernel_rfl) (by kernel_rfl) (by kernel_rfl) (fun _ _ _ h => h) (Or.inl ⟨by rfl, ?_⟩) (by assumption) ?_
      rotate_left 1
      · (intro w hSw; (try dsimp only at hSw); go_simp; try with_reducible rfl)
      try simp only [Act.put, List.setIfInBounds_toArray, List.set_cons_zero, List.set_cons_succ]
      refine wpAnyH_take (i := 10) (v := ?_) (by simp only [List.getElem?_toArray, List.getElem?_cons_succ, List.getElem?_cons_zero]; exact rfl) (by kernel_rfl) (by kernel_rfl) (by kernel_rfl) (fun _ _ _ h => h) (Or.inl ⟨by rfl, ?_⟩) (by assumption) ?_
      rotate_left 1
      · (intro w hSw; (try dsimp only at hSw); go_simp; try with_reducible rfl)
      try simp only [Act.put, List.setIfInBounds_toArray, List.set_cons_zero, List.set_cons_succ]
      refine wpAnyH_take (i := 11) (v := ?_) (by simp only [List.getElem?_toArray, List.getElem?_cons_succ, List.getElem?_cons_zero]; exact rfl) (by kernel_rfl) (by kernel_rfl) (by kernel_rfl) (fun _ _ _ h => h) (Or.inl ⟨by rfl, ?_⟩) (by assumption) ?_
      rotate_left 1
      · (intro w hSw; (try dsimp only at hSw); go_simp; try with_reducible rfl)
      try simp only [Act.put, List.setIfInBounds_toArray, List.set_cons_zero, List.set_cons_succ]
      refine wpAnyH_take (i := 12) (v := ?_) (by simp only [List.getElem?_toArray, List.getElem?_cons_succ, List.getElem?_cons_zero]; exact rfl) (by kernel_rfl) (by kernel_rfl) (by kernel_rfl) (fun _ _ _ h => h) (Or.inl ⟨by rfl, ?_⟩) (by assumption) ?_
      rotate_left 1
      · (intro w hSw; (try dsimp only at hSw); go_simp; try with_reducible rfl)
      try simp only [Act.put, List.setIfInBounds_toArray, List.set_cons_zero, List.set_cons_succ]
      refine wpAnyH_done (by kernel_rfl) ?_ _
      refine NoPanic.normal ?_
      clear hHeld
      go_wp2
      go_ret
      exact ⟨_, rfl, by rw [← hbw]; exact HG2.out, HG3.out, (HG1.out.of_below (Below.refl _ _).drew).congr (fun i _ => by unfold stB; rw [HNO.out]; rfl), by rw [← hbw]; exact HB2.out.drew⟩
    · have HYO := Lib.hid (show okS l k wh = true from by
        unfold okS
        rw [decide_eq_true_iff]
        exact ⟨by omega, (deq_iff ht32 hw).1 hD⟩)
      clear hs hl hq hT hk hk2 hW1 hW2 hb1 hb2 hr1 hr2 hG hm hlen hw y1 ht32 hlq
      go_enter Tryd.func9, Tryd.ntmps9
      try rw [hbw]
      go_wp2_with fail
      refine HSC.out.mono ?_
      rintro e w1 ⟨rfl, rfl⟩
      clear x1
      go_wp2
      refine wp_region_noPanic ?_
      refine wp_region_held_drew (S := (fun u : World => (ldT 31 (.pointer (some ⟨c, o, none⟩))).run Tryd.prog u = .ok (.value (digV (l.take 32))) u ∧ (ldT 31 (.pointer (some ⟨bw, 0, none⟩))).run Tryd.prog u = .ok (.value (digV wh)) u)) (by kernel_rfl) (HLD.out) (fun hHeld => ?_)
      refine wpAnyH_take (i := 0) (v := ?_) (by simp only [List.getElem?_toArray, List.getElem?_cons_succ, List.getElem?_cons_zero]; exact rfl) (by kernel_rfl) (by kernel_rfl) (by kernel_rfl) (fun _ _ _ h => h) (Or.inl ⟨by rfl, ?_⟩) (by assumption) ?_
      rotate_left 1
      · (intro w hSw; (try dsimp only at hSw); go_simp; try with_reducible rfl)
      try simp only [Act.put, List.setIfInBounds_toArray, List.set_cons_zero, List.set_cons_succ]
      refine wpAnyH_take (i := 1) (v := ?_) (by simp only [List.getElem?_toArray, List.getElem?_cons_succ, List.getElem?_cons_zero]; exact rfl) (by kernel_rfl) (by kernel_rfl) (by kernel_rfl) (fun _ _ _ h => h) (Or.inl ⟨by rfl, ?_⟩) (by assumption) ?_
      rotate_left 1
      · (intro w hSw; (try dsimp only at hSw); go_simp; try with_reducible rfl)
      try simp only [Act.put, List.setIfInBounds_toArray, List.set_cons_zero, List.set_cons_succ]
      refine wpAnyH_take (i := 2) (v := ?_) (by simp only [List.getElem?_toArray, List.getElem?_cons_succ, List.getElem?_cons_zero]; exact rfl) (by kernel_rfl) (by kernel_rfl) (by kernel_rfl) (fun _ _ _ h => h) (Or.inl ⟨by rfl, ?_⟩) (by assumption) ?_
      rotate_left 1
      · (intro w hSw; (try dsimp only at hSw); go_simp; try with_reducible rfl)
      try simp only [Act.put, List.setIfInBounds_toArray, List.set_cons_zero, List.set_cons_succ]
      refine wpAnyH_ready (rs := [3]) (by kernel_rfl) (by simp) ?_
      refine (AllReadyH.cons (by simp only [List.getElem?_toArray, List.getElem?_cons_succ, List.getElem?_cons_zero]; exact rfl) (fun K hK => ?_) AllReadyH.nil)
      go_simp
      refine (HLN2.out _).mono ?_
      rintro e vW ⟨rfl, rfl⟩
      go_wp2_with fail
      refine hK.out _ _ hHeld (fun hHeld => ?_)
      clear hK K
      try simp only [Act.put, List.setIfInBounds_toArray, List.set_cons_zero, List.set_cons_succ]
      refine wpAnyH_take (i := 4) (v := ?_) (by simp only [List.getElem?_toArray, List.getElem?_cons_succ, List.getElem?_cons_zero]; exact rfl) (by kernel_rfl) (by kernel_rfl) (by kernel_rfl) (fun _ _ _ h => h) (Or.inl ⟨by rfl, ?_⟩) (by assumption) ?_
      rotate_left 1
      · (intro w hSw; (try dsimp only at hSw); go_simp; try with_reducible rfl)
      try simp only [Act.put, List.setIfInBounds_toArray, List.set_cons_zero, List.set_cons_succ]
      refine wpAnyH_take (i := 5) (v := ?_) (by simp only [List.getElem?_toArray, List.getElem?_cons_succ, List.getElem?_cons_zero]; exact rfl) (by kernel_rfl) (by kernel_rfl) (by kernel_rfl) (fun _ _ _ h => h) (Or.inl ⟨by rfl, ?_⟩) (by assumption) ?_
      rotate_left 1
      · (intro w hSw; (try dsimp only at hSw); go_simp; try with_reducible rfl)
      try simp only [Act.put, List.setIfInBounds_toArray, List.set_cons_zero, List.set_cons_succ]
      refine wpAnyH_take (i := 6) (v := ?_) (by simp only [List.getElem?_toArray, List.getElem?_cons_succ, List.getElem?_cons_zero]; exact rfl) (by kernel_rfl) (by kernel_rfl) (by kernel_rfl) (fun _ _ _ h => h) (Or.inl ⟨by rfl, ?_⟩) (by assumption) ?_
      rotate_left 1
      · (intro w hSw; (try dsimp only at hSw); go_simp; try with_reducible rfl)
      try simp only [Act.put, List.setIfInBounds_toArray, List.set_cons_zero, List.set_cons_succ]
      refine wpAnyH_take (i := 7) (v := ?_) (by simp only [List.getElem?_toArray, List.getElem?_cons_succ, List.getElem?_cons_zero]; exact rfl) (by kernel_rfl) (by kernel_rfl) (by kernel_rfl) (fun _ _ _ h => h) (Or.inl ⟨by rfl, ?_⟩) (by assumption) ?_
      rotate_left 1
      · (intro w hSw; (try dsimp only at hSw); go_simp; try with_reducible rfl)
      try simp only [Act.put, List.setIfInBounds_toArray, List.set_cons_zero, List.set_cons_succ]
      refine wpAnyH_take (i := 8) (v := ?_) (by simp only [List.getElem?_toArray, List.getElem?_cons_succ, List.getElem?_cons_zero]; exact rfl) (by kernel_rfl) (by kernel_rfl) (by kernel_rfl) (fun _ _ _ h => h) (Or.inl ⟨by rfl, ?_⟩) (by assumption) ?_
      rotate_left 1
      · (intro w hSw; (try dsimp only at hSw); go_simp; try with_reducible rfl)
      try simp only [Act.put, List.setIfInBounds_toArray, List.set_cons_zero, List.set_cons_succ]
      refine wpAnyH_take (i := 9) (v := ?_) (by simp only [List.getElem?_toArray, List.getElem?_cons_succ, List.getElem?_cons_zero]; exact rfl) (by kernel_rfl) (by kernel_rfl) (by kernel_rfl) (fun _ _ _ h => h) (Or.inl ⟨by rfl, ?_⟩) (by assumption) ?_
      rotate_left 1
      · (intro w hSw; (try dsimp only at hSw); go_simp; try with_reducible rfl)
      try simp only [Act.put, List.setIfInBounds_toArray, List.set_cons_zero, List.set_cons_succ]
      refine wpAnyH_take (i := 10) (v := ?_) (by simp only [List.getElem?_toArray, List.getElem?_cons_succ, List.getElem?_cons_zero]; exact rfl) (by kernel_rfl) (by kernel_rfl) (by kernel_rfl) (fun _ _ _ h => h) (Or.inl ⟨by rfl, ?_⟩) (by assumption) ?_
      rotate_left 1
      · (intro w hSw; (try dsimp only at hSw); go_simp; try with_reducible rfl)
      try simp only [Act.put, List.setIfInBounds_toArray, List.set_cons_zero, List.set_cons_succ]
      refine wpAnyH_take (i := 11) (v := ?_) (by simp only [List.getElem?_toArray, List.getElem?_cons_succ, List.getElem?_cons_zero]; exact rfl) (by kernel_rfl) (by kernel_rfl) (by kernel_rfl) (fun _ _ _ h => h) (Or.inl ⟨by rfl, ?_⟩) (by assumption) ?_
      rotate_left 1
      · (intro w hSw; (try dsimp only at hSw); go_simp; try with_reducible rfl)
      try simp only [Act.put, List.setIfInBounds_toArray, List.set_cons_zero, List.set_cons_succ]
      refine wpAnyH_take (i := 12) (v := ?_) (by simp only [List.getElem?_toArray, List.getElem?_cons_succ, List.getElem?_cons_zero]; exact rfl) (by kernel_rfl) (by kernel_rfl) (by kernel_rfl) (fun _ _ _ h => h) (Or.inl ⟨by rfl, ?_⟩) (by assumption) ?_
      rotate_left 1
      · (intro w hSw; (try dsimp only at hSw); go_simp; try with_reducible rfl)
      try simp only [Act.put, List.setIfInBounds_toArray, List.set_cons_zero, List.set_cons_succ]
      refine wpAnyH_done (by kernel_rfl) ?_ _
      refine NoPanic.normal ?_
      clear hHeld
      clear s0 hD
      go_wp2
      go_loopw [33] (fun f wr => ∃ i : Nat, i ≤ k2 ∧ f = .int .i64 (i : Int) ∧ Row wr G 4 k2 (fun j => .bool (decide (j < i) && entB l j)) ∧ Below w.heap.size w wr) (fun f _ => k2 - (intOf f).toNat)
      case atStart => exact ⟨0, Nat.zero_le _, rfl, (show Row W2.drew G 4 k2 _ from HG1.out).congr (fun j _ => by rw [decide_eq_false (Nat.not_lt_zero j)]; rfl), HB2.out.drew⟩
      case round =>
        obtain ⟨i, hi, rfl, hR, hB⟩ := hrel
        have HRW := Lib.hid hR
        have HBW := Lib.hid hB
        by_cases hik : i < k2
        · have z3 : (i : Int) < (k2 : Int) := by omega
          have z4 : decide ((i : Int) < (k2 : Int)) = true := decide_eq_true z3
          have HIK := Lib.hid hik
          have hik0 : (0 : Int) ≤ (i : Int) := by omega
          have hkk := HKK.out
          have hin : 288 * i + 320 ≤ n := by have := HNM.out; omega
          have HEN := Lib.hid (entry_any l c o n cap i wr hkk.2.2 (HSL.out.of_below hB) HCC.out hin (by have := HNN.out; omega))
          have HIL := Lib.hid (show 288 * i + 320 ≤ l.length from by have := HKK.out.2.2; omega)
          obtain ⟨d, hd⟩ : ∃ d, seg12 l (288 * i + 288) 32 = d := ⟨_, rfl⟩
          have hdl : d.length = 32 := by rw [← hd]; exact seg12_len (by omega)
          have HENB := Lib.hid (show deq (digL (seg12 l (288 * i + 32) 256)) d = entB l i from by unfold entB; rw [hd]; exact deq_dec (digL_len _) hdl)
          have HDL := Lib.hid hdl
          rw [hd] at HEN
          clear hd hdl hR hB hkk hin
          go_wp2_with fail
          refine HEN.out.mono ?_
          rintro e w5 ⟨rfl, hB5⟩
          have st := st_dig w5 w5.heap.size d rfl
          obtain ⟨y0, hy0⟩ : ∃ y, w5.alloc (.cells (tab 32 (dgF d)) 31) = y := ⟨_, rfl⟩
          have hby := below_newR w5 (.cells (tab 32 (dgF d)) 31)
          have hrd := Row.new w5 31 32 (dgF d)
          rw [hy0] at st hby hrd
          have hb := hB5.trans (hby.mono hB5.size)
          have HG5 := Lib.hid (show G < w5.heap.size from Nat.lt_of_lt_of_le HRW.out.lt hB5.size)
          have HDX := Lib.hid (show Sl y0.drew (some ⟨w5.heap.size, 0, none⟩) d from dgF_sl12 hrd HDL.out)
          have HWX := Lib.hid (show Below w.heap.size w y0.drew from (HBW.out.trans (hb.mono HBW.out.size)).drew)
          have HSX := Lib.hid (HSL.out.of_below HWX.out)
          have HTX := Lib.hid (HT.out.on HWX.out)
          have HGX := Lib.hid (HRW.out.of_below hb.drew)
          clear hby hrd hb hB5 HEN hy0
          go_wp2
          clear st
          refine wp_region_noPanic ?_
          refine wp_region_held_drew (S := (fun u : World => (ldT 31 (.pointer (some ⟨w5.heap.size, 0, none⟩))).run Tryd.prog u = .ok (.value (digV d)) u)) (by kernel_rfl) (ld_dig HDX.out HDL.out) (fun hHeld => ?_)
          generalize y0.drew = x at hHeld HDX HSX HTX HGX HWX ⊢
          refine wpAnyH_take (i := 0) (v := ?_) (by simp only [List.getElem?_toArray, List.getElem?_cons_succ, List.getElem?_cons_zero]; exact rfl) (by kernel_rfl) (by kernel_rfl) (by kernel_rfl) (fun _ _ _ h => h) (Or.inl ⟨by rfl, ?_⟩) (by assumption) ?_
          rotate_left 1
          · (intro w hSw; (try dsimp only at hSw); go_simp; try with_reducible rfl)
          try simp only [Act.put, List.setIfInBounds_toArray, List.set_cons_zero, List.set_cons_succ]
          refine wpAnyH_take (i := 1) (v := ?_) (by simp only [List.getElem?_toArray, List.getElem?_cons_succ, List.getElem?_cons_zero]; exact rfl) (by kernel_rfl) (by kernel_rfl) (by kernel_rfl) (fun _ _ _ h => h) (Or.inl ⟨by rfl, ?_⟩) (by assumption) ?_
          rotate_left 1
          · (intro w hSw; (try dsimp only at hSw); go_simp; try with_reducible rfl)
          try simp only [Act.put, List.setIfInBounds_toArray, List.set_cons_zero, List.set_cons_succ]
          refine wpAnyH_take (i := 2) (v := ?_) (by simp only [List.getElem?_toArray, List.getElem?_cons_succ, List.getElem?_cons_zero]; exact rfl) (by kernel_rfl) (by kernel_rfl) (by kernel_rfl) (fun _ _ _ h => h) (Or.inl ⟨by rfl, ?_⟩) (by assumption) ?_
          rotate_left 1
          · (intro w hSw; (try dsimp only at hSw); go_simp; try with_reducible rfl)
          try simp only [Act.put, List.setIfInBounds_toArray, List.set_cons_zero, List.set_cons_succ]
          refine wpAnyH_take (i := 5) (v := ?_) (by simp only [List.getElem?_toArray, List.getElem?_cons_succ, List.getElem?_cons_zero]; exact rfl) (by kernel_rfl) (by kernel_rfl) (by kernel_rfl) (fun _ _ _ h => h) (Or.inl ⟨by rfl, ?_⟩) (by assumption) ?_
          rotate_left 1
          · (intro w hSw; (try dsimp only at hSw); go_simp; try with_reducible rfl)
          try simp only [Act.put, List.setIfInBounds_toArray, List.set_cons_zero, List.set_cons_succ]
          refine wpAnyH_ready (rs := [3]) (by kernel_rfl) (by simp) ?_
          refine (AllReadyH.cons (by simp only [List.getElem?_toArray, List.getElem?_cons_succ, List.getElem?_cons_zero]; exact rfl) (fun K hK => ?_) AllReadyH.nil)
          go_simp
          have hbn := below_newR x (.cells #[.slice (some ⟨c, o + (288 * i + 32), none⟩) 256 256] 22)
          have HX := Lib.hid hbn
          have hcx : (x.alloc (.cells #[.slice (some ⟨c, o + (288 * i + 32), none⟩) 256 256] 22)).cell? ⟨x.heap.size, 0, none⟩ = some (.slice (some ⟨c, o + (288 * i + 32), none⟩) 256 256) := World.cell?_alloc_new _ _ _ _
          have HSM := Lib.hid (sum1_any (seg12 l (288 * i + 32) 256) x.heap.size 0 (some ⟨c, o + (288 * i + 32), none⟩) 256 256 (x.alloc (.cells #[.slice (some ⟨c, o + (288 * i + 32), none⟩) 256 256] 22)) (seg12_len (by have := HIL.out; omega)) hcx (seg12_sl (HSX.out.of_below hbn) _ _) (HTX.out.on hbn) (by decide))
          clear hbn hcx
          refine hK.out _ _ (ld_dig (HDX.out.of_below HX.out) HDL.out) (fun hHeld => ?_)
          generalize x.alloc (.cells #[.slice (some ⟨c, o + (288 * i + 32), none⟩) 256 256] 22) = x1 at HX HSM hHeld ⊢
          clear hK K
          try simp only [Act.put, List.setIfInBounds_toArray, List.set_cons_zero, List.set_cons_succ]
          refine wpAnyH_ready (rs := [4]) (by kernel_rfl) (by simp) ?_
          refine (AllReadyH.cons (by simp only [List.getElem?_toArray, List.getElem?_cons_succ, List.getElem?_cons_zero]; exact rfl) (fun K hK => ?_) AllReadyH.nil)
          go_simp
          refine HSM.out.mono ?_
          rintro e x2 ⟨rfl, hB⟩
          have HX := Lib.hid (HX.out.trans (hB.mono HX.out.size))
          clear hB HSM
          go_wp2_with fail
          refine hK.out _ _ (ld_dig (HDX.out.of_below HX.out) HDL.out) (fun hHeld => ?_)
          have hgc := (HGX.out.of_below HX.out).cell i hik
          have hgf := (HGX.out.of_below HX.out).free i
          have hgs : (x2.cell? ⟨G, i, none⟩).isSome = true := by rw [hgc]; rfl
          clear hK K
          try simp only [Act.put, List.setIfInBounds_toArray, List.set_cons_zero, List.set_cons_succ]
          refine wpAnyH_take (i := 6) (v := ?_) (by simp only [List.getElem?_toArray, List.getElem?_cons_succ, List.getElem?_cons_zero]; exact rfl) (by kernel_rfl) (by kernel_rfl) (by kernel_rfl) (fun _ _ _ h => h) (Or.inl ⟨by rfl, ?_⟩) (by assumption) ?_
          rotate_left 1
          · (intro w hSw; (try dsimp only at hSw); go_simp; try with_reducible rfl)
          try simp only [Act.put, List.setIfInBounds_toArray, List.set_cons_zero, List.set_cons_succ]
          refine wpAnyH_take (i := 7) (v := ?_) (by simp only [List.getElem?_toArray, List.getElem?_cons_succ, List.getElem?_cons_zero]; exact rfl) (by kernel_rfl) (by kernel_rfl) (by kernel_rfl) (fun _ _ _ h => h) (Or.inl ⟨by rfl, ?_⟩) (by assumption) ?_
          rotate_left 1
          · (intro w hSw; (try dsimp only at hSw); go_simp; try with_reducible rfl)
          try simp only [Act.put, List.setIfInBounds_toArray, List.set_cons_zero, List.set_cons_succ]
          refine wpAnyH_ready (rs := [8]) (by kernel_rfl) (by simp) ?_
          refine (AllReadyH.cons (by simp only [List.getElem?_toArray, List.getElem?_cons_succ, List.getElem?_cons_zero]; exact rfl) (fun K hK => ?_) AllReadyH.nil)
          go_simp
          have HROW := Lib.hid ((HGX.out.of_below HX.out).set i (.bool (deq (digL (seg12 l (288 * i + 32) 256)) d)))
          have HBX := Lib.hid ((HWX.out.trans (HX.out.mono (by have := HWX.out.size; exact this))).setCell (show w.heap.size ≤ (⟨G, i, none⟩ : Addr).block from HG2.out) (.bool (deq (digL (seg12 l (288 * i + 32) 256)) d)))
          refine hK.out _ _ (ld_dig (w := x2.setCell ⟨G, i, none⟩ (.bool (deq (digL (seg12 l (288 * i + 32) 256)) d))) ((HDX.out.of_below HX.out).of_block (fun a e => by injection e with e; subst e; exact Below.heap_setCell _ _ _ _ (show w5.heap.size ≠ G by have := HG5.out; omega))) HDL.out) (fun hHeld => ?_)
          clear hK K
          try simp only [Act.put, List.setIfInBounds_toArray, List.set_cons_zero, List.set_cons_succ]
          refine wpAnyH_done (by kernel_rfl) ?_ _
          refine NoPanic.normal ?_
          clear hHeld hgc hgf hgs
          go_wp2
          go_roundw
          case rel => exact ⟨i + 1, by have := HIK.out; omega, by go_num, HROW.out.congr (fun j hj => by
            by_cases hji : j = i
            · subst hji
              rw [if_pos rfl, HENB.out, decide_eq_true (show j < j + 1 by omega)]; rfl
            · rw [if_neg hji]
              by_cases h : j < i
              · rw [decide_eq_true h, decide_eq_true (show j < i + 1 by omega)]
              · rw [decide_eq_false h, decide_eq_false (show ¬ j < i + 1 by omega)]), HBX.out⟩
          case measure => have := HIK.out; simp [intOf]; omega
        · have z3 : ¬ (i : Int) < (k2 : Int) := by omega
          have z4 : decide ((i : Int) < (k2 : Int)) = false := decide_eq_false z3
          have hie : i = k2 := by omega
          have HIE := Lib.hid hie
          clear hR hB hie
          go_wp2
          go_ret
          exact ⟨_, rfl, by rw [← hbw]; exact HG2.out, HRW.out.lt, HRW.out.congr (fun j hj => by rw [decide_eq_true (show j < i by have := HIE.out; omega)]; unfold stB; rw [HYO.out]), by rw [← hbw]; exact HBW.out⟩
  · have HNO := Lib.hid (show okS l k wh = false from by
      unfold okS
      rw [decide_eq_false_iff_not]
      rintro ⟨h, -⟩
      exact hlen (by omega))
    have y1 : ¬ ((n : Int) = (m : Int)) := by omega
    have y2 : decide ((n : Int) = (m : Int)) = false := decide_eq_false y1
    have y3 : ((n : Int) == (m : Int)) = false := by simpa using y1
    have y6 : ((n : Int) != (m : Int)) = true := by simpa using y1
    have HLD := Lib.hid (show Below W2.heap.size W2 W2.drew from (Below.refl _ _).drew)
    clear hs hl hq hT hk hk2 hW1 hW2 hb1 hb2 hr1 hr2 hG hm hlen hw
    go_enter Tryd.func9, Tryd.ntmps9
    try rw [hbw]
    go_wp2_with fail
    refine HSC.out.mono ?_
    rintro e w1 ⟨rfl, rfl⟩
    clear x1
    go_wp2
    refine wp_region_noPanic ?_
    refine wp_region_held_drew (S := (fun u : World => Below W2.heap.size W2 u)) (by kernel_rfl) (HLD.out) (fun hHeld => ?_)
    refine wpAnyH_take (i := 0) (v := ?_) (by simp only [List.getElem?_toArray, List.getElem?_cons_succ, List.getElem?_cons_zero]; exact rfl) (by kernel_rfl) (by kernel_rfl) (by kernel_rfl) (fun _ _ _ h => h) (Or.inl ⟨by rfl, ?_⟩) (by assumption) ?_
    rotate_left 1
    · (intro w hSw; (try dsimp only at hSw); go_simp; try with_reducible rfl)
    try simp only [Act.put, List.setIfInBounds_toArray, List.set_cons_zero, List.set_cons_succ]
    refine wpAnyH_take (i := 1) (v := ?_) (by simp only [List.getElem?_toArray, List.getElem?_cons_succ, List.getElem?_cons_zero]; exact rfl) (by kernel_rfl) (by kernel_rfl) (by kernel_rfl) (fun _ _ _ h => h) (Or.inl ⟨by rfl, ?_⟩) (by assumption) ?_
    rotate_left 1
    · (intro w hSw; (try dsimp only at hSw); go_simp; try with_reducible rfl)
    try simp only [Act.put, List.setIfInBounds_toArray, List.set_cons_zero, List.set_cons_succ]
    refine wpAnyH_take (i := 2) (v := ?_) (by simp only [List.getElem?_toArray, List.getElem?_cons_succ, List.getElem?_cons_zero]; exact rfl) (by kernel_rfl) (by kernel_rfl) (by kernel_rfl) (fun _ _ _ h => h) (Or.inl ⟨by rfl, ?_⟩) (by assumption) ?_
    rotate_left 1
    · (intro w hSw; (try dsimp only at hSw); go_simp; try with_reducible rfl)
    try simp only [Act.put, List.setIfInBounds_toArray, List.set_cons_zero, List.set_cons_succ]
    refine wpAnyH_ready (rs := [3]) (by kernel_rfl) (by simp) ?_
    refine (AllReadyH.cons (by simp only [List.getElem?_toArray, List.getElem?_cons_succ, List.getElem?_cons_zero]; exact rfl) (fun K hK => ?_) AllReadyH.nil)
    go_simp
    refine (HLN2.out _).mono ?_
    rintro e vW ⟨rfl, rfl⟩
    go_wp2_with fail
    refine hK.out _ _ hHeld (fun hHeld => ?_)
    clear hK K
    try simp only [Act.put, List.setIfInBounds_toArray, List.set_cons_zero, List.set_cons_succ]
    refine wpAnyH_take (i := 4) (v := ?_) (by simp only [List.getElem?_toArray, List.getElem?_cons_succ, List.getElem?_cons_zero]; exact rfl) (by kernel_rfl) (by kernel_rfl) (by kernel_rfl) (fun _ _ _ h => h) (Or.inl ⟨by rfl, ?_⟩) (by assumption) ?_
    rotate_left 1
    · (intro w hSw; (try dsimp only at hSw); go_simp; try with_reducible rfl)
    try simp only [Act.put, List.setIfInBounds_toArray, List.set_cons_zero, List.set_cons_succ]
    refine wpAnyH_take (i := 5) (v := ?_) (by simp only [List.getElem?_toArray, List.getElem?_cons_succ, List.getElem?_cons_zero]; exact rfl) (by kernel_rfl) (by kernel_rfl) (by kernel_rfl) (fun _ _ _ h => h) (Or.inl ⟨by rfl, ?_⟩) (by assumption) ?_
    rotate_left 1
    · (intro w hSw; (try dsimp only at hSw); go_simp; try with_reducible rfl)
    try simp only [Act.put, List.setIfInBounds_toArray, List.set_cons_zero, List.set_cons_succ]
    refine wpAnyH_take (i := 6) (v := undef) (by simp only [List.getElem?_toArray, List.getElem?_cons_succ, List.getElem?_cons_zero]; exact rfl) (by kernel_rfl) (by kernel_rfl) (by kernel_rfl) (fun _ _ _ h => h) (Or.inr ⟨by rfl, rfl⟩) (by assumption) ?_
    try simp only [Act.put, List.setIfInBounds_toArray, List.set_cons_zero, List.set_cons_succ]
    refine wpAnyH_take (i := 7) (v := undef) (by simp only [List.getElem?_toArray, List.getElem?_cons_succ, List.getElem?_cons_zero]; exact rfl) (by kernel_rfl) (by kernel_rfl) (by kernel_rfl) (fun _ _ _ h => h) (Or.inr ⟨by rfl, rfl⟩) (by assumption) ?_
    try simp only [Act.put, List.setIfInBounds_toArray, List.set_cons_zero, List.set_cons_succ]
    refine wpAnyH_take (i := 8) (v := undef) (by simp only [List.getElem?_toArray, List.getElem?_cons_succ, List.getElem?_cons_zero]; exact rfl) (by kernel_rfl) (by kernel_rfl) (by kernel_rfl) (fun _ _ _ h => h) (Or.inr ⟨by rfl, rfl⟩) (by assumption) ?_
    try simp only [Act.put, List.setIfInBounds_toArray, List.set_cons_zero, List.set_cons_succ]
    refine wpAnyH_take (i := 9) (v := undef) (by simp only [List.getElem?_toArray, List.getElem?_cons_succ, List.getElem?_cons_zero]; exact rfl) (by kernel_rfl) (by kernel_rfl) (by kernel_rfl) (fun _ _ _ h => h) (Or.inr ⟨by rfl, rfl⟩) (by assumption) ?_
    try simp only [Act.put, List.setIfInBounds_toArray, List.set_cons_zero, List.set_cons_succ]
    refine wpAnyH_take (i := 10) (v := undef) (by simp only [List.getElem?_toArray, List.getElem?_cons_succ, List.getElem?_cons_zero]; exact rfl) (by kernel_rfl) (by kernel_rfl) (by kernel_rfl) (fun _ _ _ h => h) (Or.inr ⟨by rfl, rfl⟩) (by assumption) ?_
    try simp only [Act.put, List.setIfInBounds_toArray, List.set_cons_zero, List.set_cons_succ]
    refine wpAnyH_take (i := 11) (v := undef) (by simp only [List.getElem?_toArray, List.getElem?_cons_succ, List.getElem?_cons_zero]; exact rfl) (by kernel_rfl) (by kernel_rfl) (by kernel_rfl) (fun _ _ _ h => h) (Or.inr ⟨by rfl, rfl⟩) (by assumption) ?_
    try simp only [Act.put, List.setIfInBounds_toArray, List.set_cons_zero, List.set_cons_succ]
    refine wpAnyH_take (i := 12) (v := ?_) (by simp only [List.getElem?_toArray, List.getElem?_cons_succ, List.getElem?_cons_zero]; exact rfl) (by kernel_rfl) (by kernel_rfl) (by kernel_rfl) (fun _ _ _ h => h) (Or.inl ⟨by rfl, ?_⟩) (by assumption) ?_
    rotate_left 1
    · (intro w hSw; (try dsimp only at hSw); go_simp; try with_reducible rfl)
    try simp only [Act.put, List.setIfInBounds_toArray, List.set_cons_zero, List.set_cons_succ]
    refine wpAnyH_done (by kernel_rfl) ?_ _
    refine NoPanic.normal ?_
    clear hHeld
    go_wp2
    go_ret
    exact ⟨_, rfl, by rw [← hbw]; exact HG2.out, HG3.out, (HG1.out.of_below (Below.refl _ _).drew).congr (fun i _ => by unfold stB; rw [HNO.out]; rfl), by rw [← hbw]; exact HB2.out.drew⟩
end Go.Proofs.YtkfceloaomlhmaaDoor
/- The fixed fact of layer 12; the entries of a sidecar, plain. -/
set_option maxRecDepth 100000
namespace Go.Proofs.YtkfceloaomlhmaaDoor
open Go Go.RowKit

attribute [-go_sem] Sha.exec_store
theorem mkS_nil : mkS [] = digL [] := by unfold mkS; show digL [] ++ _ = _; rw [show nstr ([] : List (BitVec 8)).length = 0 from rfl]; simp
/-- Entry i. -/
def eL (l : List (BitVec 8)) (i : Nat) : List (BitVec 8) := entL ((parB (strB l (i / 2))).getD (i % 2) [])
theorem eL_len (l : List (BitVec 8)) (i : Nat) : (eL l i).length = 288 := entL_len (parB_row _ _ (Nat.mod_lt _ (by decide)))
theorem flat_eL (l : List (BitVec 8)) (k : Nat) : ((List.range k).map (strE l)).flatten = ((List.range (2 * k)).map (eL l)).flatten := by
  induction k with
  | zero => rfl
  | succ k ih =>
    rw [flat_snoc, ih, show 2 * (k + 1) = 2 * k + 1 + 1 by omega, List.range_succ, List.range_succ, List.map_append, List.map_append, List.flatten_append, List.flatten_append, strE_eq]
    have e0 : eL l (2 * k) = entL ((parB (strB l k)).getD 0 []) := by unfold eL; rw [show (2 * k) / 2 = k by omega, show (2 * k) % 2 = 0 by omega]
    have e1 : eL l (2 * k + 1) = entL ((parB (strB l k)).getD 1 []) := by unfold eL; rw [show (2 * k + 1) / 2 = k by omega, show (2 * k + 1) % 2 = 1 by omega]
    rw [← e0, ← e1]
    simp
theorem flat_len_eL (l : List (BitVec 8)) (m : Nat) : (((List.range m).map (eL l)).flatten).length = 288 * m := by
  induction m with
  | zero => rfl
  | succ m ih => rw [List.range_succ, List.map_append, List.flatten_append, List.length_append, ih]; simp [eL_len]; omega
theorem seg_flat (l : List (BitVec 8)) (m i a n : Nat) (hi : i < m) (ha : a + n ≤ 288) : seg12 (((List.range m).map (eL l)).flatten) (288 * i + a) n = seg12 (eL l i) a n := by
  induction m with
  | zero => omega
  | succ m ih =>
    rw [List.range_succ, List.map_append, List.flatten_append]
    have hfl := flat_len_eL l m
    have he := eL_len l i
    by_cases h : i < m
    · rw [← ih h]
      unfold seg12
      rw [List.drop_append_of_le_length (by omega), List.take_append_of_le_length (by rw [List.length_drop]; omega)]
    · obtain rfl : i = m := by omega
      unfold seg12
      rw [List.drop_append, List.drop_eq_nil_of_le (by omega), List.nil_append, show 288 * i + a - ((List.map (eL l) (List.range i)).flatten).length = a by omega]
      simp
theorem seg_mkS (l : List (BitVec 8)) (i a n : Nat) (hi : i < 2 * nstr l.length) (ha : a + n ≤ 288) : seg12 (mkS l) (288 * i + 32 + a) n = seg12 (eL l i) a n := by
  rw [← seg_flat l _ i a n hi ha, ← flat_eL]
  unfold mkS seg12
  have := digL_len l
  rw [List.drop_append, List.drop_eq_nil_of_le (by omega), List.nil_append, this, show 288 * i + 32 + a - 32 = 288 * i + a by omega]
/-- All parity blocks of a sidecar as made stand. -/
theorem stB_mkS (l : List (BitVec 8)) (i : Nat) (hi : i < 2 * nstr l.length) : stB (mkS l) (nstr l.length) (digL l) i = true := by
  have hd := digL_len l
  unfold stB okS entB
  rw [mkS_len, Bool.and_eq_true, decide_eq_true_iff, decide_eq_true_iff]
  refine ⟨⟨rfl, ?_⟩, ?_⟩
  · unfold mkS; rw [List.take_append_of_le_length (by omega), List.take_of_length_le (by omega)]
  · have h1 := seg_mkS l i 0 256 hi (by decide)
    have h2 := seg_mkS l i 256 32 hi (by decide)
    rw [Nat.add_zero] at h1
    rw [h1, show 288 * i + 288 = 288 * i + 32 + 256 by omega, h2]
    obtain ⟨row, hr⟩ : ∃ x, (parB (strB l (i / 2))).getD (i % 2) [] = x := ⟨_, rfl⟩
    have hrl : row.length = 256 := by rw [← hr]; exact parB_row _ _ (Nat.mod_lt _ (by decide))
    have he : eL l i = row ++ digL row := by unfold eL; rw [hr]; rfl
    have hdr := digL_len row
    rw [he]
    unfold seg12
    rw [List.drop_zero, List.take_append_of_le_length (by omega), List.take_of_length_le (by omega), List.drop_append, List.drop_eq_nil_of_le (by omega), List.nil_append, hrl, Nat.sub_self, List.drop_zero, List.take_of_length_le (by omega)]
end Go.Proofs.YtkfceloaomlhmaaDoor
/- The fixed fact of layer 12. -/
set_option maxRecDepth 100000
namespace Go.Proofs.YtkfceloaomlhmaaDoor
open Go Go.RowKit

attribute [-go_sem] Sha.exec_store
attribute [local go_sem ↓] exec_alloc32 exec_store exec_slice
attribute [local go_sem] st_dig sl_arr
set_option maxRecDepth 100000 in
set_option maxHeartbeats 8000000 in
theorem awake12 (w : World) (hT : Tb w) : Calls Tryd.prog 5 #[] w fun e w' => e = .returned (.bool true) ∧ Below w.heap.size w w' := by
  have HM := Lib.hid (make12_ok [] none 0 0 w rfl (fun j hj => absurd hj (by simp)) (fun _ => rfl) (Nat.le_refl _) (by decide) hT)
  have HT := Lib.hid hT
  have HLE := Lib.hid (fun u => Len_any 1 u (by decide) (by decide))
  rw [show (32 + 576 * nstr (Int.toNat 1) : Nat) = 608 from rfl] at HLE
  rw [mkS_nil] at HM
  clear hT
  go_enter Tryd.func5, Tryd.ntmps5
  go_wp2_with fail
  refine HM.out.mono ?_
  rintro e w1 ⟨v1, rfl, hO1, hB1⟩
  have HO1 := Lib.hid hO1
  have HB1 := Lib.hid hB1
  obtain ⟨p1, c1, hv, -⟩ := hO1.shape
  subst hv
  have HD := Lib.hid (refSum1_any [] none 0 0 w1 rfl (fun j hj => absurd hj (by simp)) (fun _ => rfl) (HT.out.on hB1) (by decide))
  obtain ⟨d, hd⟩ : ∃ d, digL [] = d := ⟨_, rfl⟩
  have hdl : d.length = 32 := by rw [← hd]; exact digL_len _
  rw [hd] at HO1 HD ⊢
  rw [hdl] at HO1 ⊢
  have HDL := Lib.hid hdl
  clear hO1 hB1 hd hdl HM
  go_wp2_with fail
  refine HD.out.mono ?_
  rintro e w2 ⟨rfl, hB2⟩
  have st := st_dig w2 w2.heap.size d rfl
  obtain ⟨y, hy⟩ : ∃ y, w2.alloc (.cells (tab 32 (dgF d)) 31) = y := ⟨_, rfl⟩
  have hby := below_newR w2 (.cells (tab 32 (dgF d)) 31)
  have hrd := Row.new w2 31 32 (dgF d)
  rw [hy] at st hby hrd
  have hb := hB2.trans (hby.mono hB2.size)
  have HBF := Lib.hid (show Below w.heap.size w y.drew from (HB1.out.trans (hb.mono HB1.out.size)).drew)
  obtain ⟨sA, hsA⟩ : ∃ s, strOf d = s := ⟨_, rfl⟩
  have ho := HO1.out.of_below hb.drew
  obtain ⟨p1', c1', hv', hs1, hp1, -⟩ := ho.shape
  rw [HDL.out] at hv'
  injection hv' with hv1 hv2 hv3
  subst hv1 hv3
  have HCV := Lib.hid (show (convert 22 9 (.slice p1 32 c1)).run Tryd.prog y.drew = .ok (.string sA) y.drew ∧ (convert 22 9 (.slice (some ⟨w2.heap.size, 0, none⟩) 32 32)).run Tryd.prog y.drew = .ok (.string sA) y.drew from ⟨by rw [← hsA]; exact conv_str _ _ _ _ _ hs1 HDL.out hp1, by rw [← hsA]; exact conv_str y.drew _ _ _ _ (dgF_sl12 hrd HDL.out) HDL.out (fun e => by cases e)⟩)
  clear hy hby hrd hb hB2 hsA ho hs1 hp1 hv2 HO1
  go_wp2
  clear st
  refine wp_region_noPanic ?_
  refine wp_region_held_drew (S := (fun u : World => (convert 22 9 (.slice p1 32 c1)).run Tryd.prog u = .ok (.string sA) u ∧ (convert 22 9 (.slice (some ⟨w2.heap.size, 0, none⟩) 32 32)).run Tryd.prog u = .ok (.string sA) u)) (by kernel_rfl) (HCV.out) (fun hHeld => ?_)
  refine wpAnyH_take (i := 0) (v := ?_) (by simp only [List.getElem?_toArray, List.getElem?_cons_succ, List.getElem?_cons_zero]; exact rfl) (by kernel_rfl) (by kernel_rfl) (by kernel_rfl) (fun _ _ _ h => h) (Or.inl ⟨by rfl, ?_⟩) (by assumption) ?_
  rotate_left 1
  · (intro w hSw; (try dsimp only at hSw); go_simp; try with_reducible rfl)
  try simp only [Act.put, List.setIfInBounds_toArray, List.set_cons_zero, List.set_cons_succ]
  refine wpAnyH_take (i := 1) (v := ?_) (by simp only [List.getElem?_toArray, List.getElem?_cons_succ, List.getElem?_cons_zero]; exact rfl) (by kernel_rfl) (by kernel_rfl) (by kernel_rfl) (fun _ _ _ h => h) (Or.inl ⟨by rfl, ?_⟩) (by assumption) ?_
  rotate_left 1
  · (intro w hSw; (try dsimp only at hSw); go_simp; try with_reducible rfl)
  try simp only [Act.put, List.setIfInBounds_toArray, List.set_cons_zero, List.set_cons_succ]
  refine wpAnyH_take (i := 2) (v := ?_) (by simp only [List.getElem?_toArray, List.getElem?_cons_succ, List.getElem?_cons_zero]; exact rfl) (by kernel_rfl) (by kernel_rfl) (by kernel_rfl) (fun _ _ _ h => h) (Or.inl ⟨by rfl, ?_⟩) (by assumption) ?_
  rotate_left 1
  · (intro w hSw; (try dsimp only at hSw); go_simp; try with_reducible rfl)
  try simp only [Act.put, List.setIfInBounds_toArray, List.set_cons_zero, List.set_cons_succ]
  refine wpAnyH_take (i := 3) (v := ?_) (by simp only [List.getElem?_toArray, List.getElem?_cons_succ, List.getElem?_cons_zero]; exact rfl) (by kernel_rfl) (by kernel_rfl) (by kernel_rfl) (fun _ _ _ h => h) (Or.inl ⟨by rfl, ?_⟩) (by assumption) ?_
  rotate_left 1
  · (intro w hSw; (try dsimp only at hSw); go_simp; try with_reducible rfl)
  try simp only [Act.put, List.setIfInBounds_toArray, List.set_cons_zero, List.set_cons_succ]
  refine wpAnyH_take (i := 4) (v := ?_) (by simp only [List.getElem?_toArray, List.getElem?_cons_succ, List.getElem?_cons_zero]; exact rfl) (by kernel_rfl) (by kernel_rfl) (by kernel_rfl) (fun _ _ _ h => h) (Or.inl ⟨by rfl, ?_⟩) (by assumption) ?_
  rotate_left 1
  · (intro w hSw; (try dsimp only at hSw); go_simp; try with_reducible rfl)
  try simp only [Act.put, List.setIfInBounds_toArray, List.set_cons_zero, List.set_cons_succ]
  refine wpAnyH_take (i := 5) (v := ?_) (by simp only [List.getElem?_toArray, List.getElem?_cons_succ, List.getElem?_cons_zero]; exact rfl) (by kernel_rfl) (by kernel_rfl) (by kernel_rfl) (fun _ _ _ h => h) (Or.inl ⟨by rfl, ?_⟩) (by assumption) ?_
  rotate_left 1
  · (intro w hSw; (try dsimp only at hSw); go_simp; try with_reducible rfl)
  try simp only [Act.put, List.setIfInBounds_toArray, List.set_cons_zero, List.set_cons_succ]
  refine wpAnyH_take (i := 6) (v := ?_) (by simp only [List.getElem?_toArray, List.getElem?_cons_succ, List.getElem?_cons_zero]; exact rfl) (by kernel_rfl) (by kernel_rfl) (by kernel_rfl) (fun _ _ _ h => h) (Or.inl ⟨by rfl, ?_⟩) (by assumption) ?_
  rotate_left 1
  · (intro w hSw; (try dsimp only at hSw); go_simp; try with_reducible rfl)
  try simp only [Act.put, List.setIfInBounds_toArray, List.set_cons_zero, List.set_cons_succ]
  refine wpAnyH_take (i := 7) (v := ?_) (by simp only [List.getElem?_toArray, List.getElem?_cons_succ, List.getElem?_cons_zero]; exact rfl) (by kernel_rfl) (by kernel_rfl) (by kernel_rfl) (fun _ _ _ h => h) (Or.inl ⟨by rfl, ?_⟩) (by assumption) ?_
  rotate_left 1
  · (intro w hSw; (try dsimp only at hSw); go_simp; try with_reducible rfl)
  try simp only [Act.put, List.setIfInBounds_toArray, List.set_cons_zero, List.set_cons_succ]
  refine wpAnyH_take (i := 8) (v := ?_) (by simp only [List.getElem?_toArray, List.getElem?_cons_succ, List.getElem?_cons_zero]; exact rfl) (by kernel_rfl) (by kernel_rfl) (by kernel_rfl) (fun _ _ _ h => h) (Or.inl ⟨by rfl, ?_⟩) (by assumption) ?_
  rotate_left 1
  · (intro w hSw; (try dsimp only at hSw); go_simp; try with_reducible rfl)
  try simp only [Act.put, List.setIfInBounds_toArray, List.set_cons_zero, List.set_cons_succ]
  refine wpAnyH_take (i := 9) (v := ?_) (by simp only [List.getElem?_toArray, List.getElem?_cons_succ, List.getElem?_cons_zero]; exact rfl) (by kernel_rfl) (by kernel_rfl) (by kernel_rfl) (fun _ _ _ h => h) (Or.inl ⟨by rfl, ?_⟩) (by assumption) ?_
  rotate_left 1
  · (intro w hSw; (try dsimp only at hSw); go_simp; try with_reducible rfl)
  try simp only [Act.put, List.setIfInBounds_toArray, List.set_cons_zero, List.set_cons_succ]
  refine wpAnyH_ready (rs := [10]) (by kernel_rfl) (by simp) ?_
  refine (AllReadyH.cons (by simp only [List.getElem?_toArray, List.getElem?_cons_succ, List.getElem?_cons_zero]; exact rfl) (fun K hK => ?_) AllReadyH.nil)
  go_simp
  refine (HLE.out _).mono ?_
  rintro e vW ⟨rfl, rfl⟩
  go_wp2_with fail
  refine hK.out _ _ hHeld (fun hHeld => ?_)
  clear hK K
  try simp only [Act.put, List.setIfInBounds_toArray, List.set_cons_zero, List.set_cons_succ]
  refine wpAnyH_take (i := 11) (v := ?_) (by simp only [List.getElem?_toArray, List.getElem?_cons_succ, List.getElem?_cons_zero]; exact rfl) (by kernel_rfl) (by kernel_rfl) (by kernel_rfl) (fun _ _ _ h => h) (Or.inl ⟨by rfl, ?_⟩) (by assumption) ?_
  rotate_left 1
  · (intro w hSw; (try dsimp only at hSw); go_simp; try with_reducible rfl)
  try simp only [Act.put, List.setIfInBounds_toArray, List.set_cons_zero, List.set_cons_succ]
  refine wpAnyH_take (i := 12) (v := ?_) (by simp only [List.getElem?_toArray, List.getElem?_cons_succ, List.getElem?_cons_zero]; exact rfl) (by kernel_rfl) (by kernel_rfl) (by kernel_rfl) (fun _ _ _ h => h) (Or.inl ⟨by rfl, ?_⟩) (by assumption) ?_
  rotate_left 1
  · (intro w hSw; (try dsimp only at hSw); go_simp; try with_reducible rfl)
  try simp only [Act.put, List.setIfInBounds_toArray, List.set_cons_zero, List.set_cons_succ]
  refine wpAnyH_take (i := 13) (v := ?_) (by simp only [List.getElem?_toArray, List.getElem?_cons_succ, List.getElem?_cons_zero]; exact rfl) (by kernel_rfl) (by kernel_rfl) (by kernel_rfl) (fun _ _ _ h => h) (Or.inl ⟨by rfl, ?_⟩) (by assumption) ?_
  rotate_left 1
  · (intro w hSw; (try dsimp only at hSw); go_simp; try with_reducible rfl)
  try simp only [Act.put, List.setIfInBounds_toArray, List.set_cons_zero, List.set_cons_succ]
  refine wpAnyH_done (by kernel_rfl) ?_ _
  refine NoPanic.normal ?_
  clear hHeld
  go_wp2
  go_ret
  exact ⟨rfl, HBF.out⟩
end Go.Proofs.YtkfceloaomlhmaaDoor
/- The reference's answer: which parity stands. -/
set_option maxRecDepth 100000
namespace Go.Proofs.YtkfceloaomlhmaaDoor
open Go Go.RowKit

attribute [-go_sem] Sha.exec_store
attribute [local go_sem ↓] exec_alloc32 exec_store exec_slice exec_load32 exec_box12 exec_make exec_bs
attribute [local go_sem] mkT12 st_T12 sl_arr
set_option maxRecDepth 100000 in
set_option maxHeartbeats 16000000 in
theorem refStands12_any (l : List (BitVec 8)) (q : Option Addr) (n cap : Nat) (z : Int) (wh : List (BitVec 8)) (w : World) (hl : l.length = n) (hs : Sl w q l) (hq : q = none → cap = 0) (hc : n ≤ cap) (hn : n < 1000000) (hz1 : -9223372036854775808 ≤ z) (hz2 : z ≤ 100000) (hw : wh.length = 32) (hT : Tb w) :
    Calls Tryd.prog 11 #[.slice q n cap, .int .i64 z, digV wh] w fun e w' => ∃ G, e = .returned (.slice (some ⟨G, 0, none⟩) (2 * nstr z.toNat) (2 * nstr z.toNat)) ∧ w.heap.size ≤ G ∧ G < w'.heap.size ∧ Row w' G 4 (2 * nstr z.toNat) (fun i => .bool (stB l (nstr z.toNat) wh i)) ∧ Below w.heap.size w w' := by
  obtain ⟨bw, hbw⟩ : ∃ b, w.heap.size = b := ⟨_, rfl⟩
  obtain ⟨k, hk⟩ : ∃ k, nstr z.toNat = k := ⟨_, rfl⟩
  obtain ⟨k2, hk2⟩ : ∃ x, 2 * k = x := ⟨_, rfl⟩
  have hkb : k ≤ 98 := by rw [← hk]; unfold nstr; omega
  have hk2b : k2 ≤ 196 := by omega
  obtain ⟨zn, hzn⟩ : ∃ x, z.toNat = x := ⟨_, rfl⟩
  have hmx : max z 0 = (zn : Int) := by omega
  obtain ⟨ZA, hZA⟩ : ∃ x, zn + 1023 = x := ⟨_, rfl⟩
  have u1 : IntKind.i64.wrap ((zn : Int) + 1023) = (ZA : Int) := by rw [IntKind.wrap_i64]; omega
  have q1 : (ZA : Int).tdiv 1024 = (k : Int) := by rw [Int.tdiv_eq_ediv_of_nonneg (by omega)]; rw [← hk]; unfold nstr; omega
  have q2 : (ZA : Int) / 1024 = (k : Int) := by rw [← hk]; unfold nstr; omega
  have u2 : IntKind.i64.wrap (k : Int) = (k : Int) := by rw [IntKind.wrap_i64]; omega
  have u3 : IntKind.i64.wrap (2 * (k : Int)) = (k2 : Int) := by rw [IntKind.wrap_i64]; omega
  obtain ⟨KB, hKB⟩ : ∃ x, k2 * 288 = x := ⟨_, rfl⟩
  obtain ⟨m, hm⟩ : ∃ m, 32 + KB = m := ⟨_, rfl⟩
  have u4 : IntKind.i64.wrap ((k2 : Int) * 288) = (KB : Int) := by rw [IntKind.wrap_i64]; omega
  have u5 : IntKind.i64.wrap (32 + (KB : Int)) = (m : Int) := by rw [IntKind.wrap_i64]; omega
  have hm' : 32 + 576 * k = m := by omega
  have HZA := Lib.hid (show ZA < 9223372036854775808 from by omega)
  clear hZA hKB hm
  have hm := hm'
  clear hm'
  obtain ⟨W1, hW1⟩ : ∃ W, w.alloc (.cells (tab 32 (dgF wh)) 31) = W := ⟨_, rfl⟩
  have hb1 : Below w.heap.size w W1 := by rw [← hW1]; exact below_newR _ _
  have hr1 : Row W1 bw 31 32 (dgF wh) := by rw [← hW1, ← hbw]; exact Row.new _ _ _ _
  have x1 : (bxT 31 (digV wh)).run Tryd.prog w = .ok (.value (.pointer (some ⟨w.heap.size, 0, none⟩))) W1 := by rw [← hW1]; exact bx_dig12 w wh
  rw [hbw] at x1
  rw [hk, hk2]
  obtain ⟨W2, hW2⟩ : ∃ W, W1.alloc (.cells (tab k2 (fun _ => .bool false)) 4) = W := ⟨_, rfl⟩
  obtain ⟨G, hG⟩ : ∃ g, W1.heap.size = g := ⟨_, rfl⟩
  have mk := mkT12 k2 W1 (by omega)
  have hb2 : Below W1.heap.size W1 W2 := by rw [← hW2]; exact below_newR _ _
  have hr2 : Row W2 G 4 k2 (fun _ => .bool false) := by rw [← hW2, ← hG]; exact Row.new _ _ _ _
  rw [hW2, hG] at mk
  have HB2 := Lib.hid (hb1.trans (hb2.mono hb1.size))
  have HG1 := Lib.hid hr2
  have HG2 := Lib.hid (show w.heap.size ≤ G from by rw [← hG]; exact hb1.size)
  have HG3 := Lib.hid (show G < W2.drew.heap.size from by rw [← hG, ← hW2]; show W1.heap.size < (W1.alloc _).heap.size; rw [World.size_alloc]; omega)
  have HW0 := Lib.hid (show Sl W2 (some ⟨bw, 0, none⟩) wh from dgF_sl12 (hr1.of_below hb2) hw)
  have HSL := Lib.hid hs
  have HT := Lib.hid hT
  have HQ := Lib.hid hq
  have HKK := Lib.hid (And.intro hk2 (And.intro hm hl))
  have HWL := Lib.hid hw
  by_cases hlen : n = m
  · have hlq : 32 ≤ l.length := by omega
    obtain ⟨c, o, e0, -⟩ := hs 0 (by omega)
    subst e0
    have s0 : ∀ u, (slT 22 (.slice (some ⟨c, o, none⟩) n cap) none (some (.int .i64 32)) none).run Tryd.prog u = .ok (.value (.slice (some ⟨c, o, none⟩) 32 cap)) u := fun u => sl_hi (some ⟨c, o, none⟩) n cap 32 u (by omega)
    have ht32 : (l.take 32).length = 32 := by rw [List.length_take]; omega
    obtain ⟨sA, hsA⟩ : ∃ s, strOf (l.take 32) = s := ⟨_, rfl⟩
    obtain ⟨sB, hsB⟩ : ∃ s, strOf wh = s := ⟨_, rfl⟩
    have HLD := Lib.hid (show ((convert 22 9 (.slice (some ⟨c, o, none⟩) 32 cap)).run Tryd.prog W2.drew = .ok (.string sA) W2.drew ∧ (convert 22 9 (.slice (some ⟨bw, 0, none⟩) 32 32)).run Tryd.prog W2.drew = .ok (.string sB) W2.drew) from ⟨by rw [← hsA]; exact conv_str W2.drew _ _ _ _ ((hs.of_below HB2.out).take 32) ht32 (fun e => by cases e), by rw [← hsB]; exact conv_str W2.drew _ _ _ _ HW0.out hw (fun e => by cases e)⟩)
    have y1 : ((n : Int) = (m : Int)) := by omega
    have y6 : ((n : Int) != (m : Int)) = false := by rw [y1]; simp
    have HCC := Lib.hid hc
    have HNM := Lib.hid hlen
    have HNN := Lib.hid hn
    have HS0 := Lib.hid s0
    by_cases hD : l.take 32 = wh
    · have HYO := Lib.hid (show okS l k wh = true from by
        unfold okS
        rw [decide_eq_true_iff]
        exact ⟨by omega, hD⟩)
      have hcmp : (sA.toList == sB.toList) = true := by rw [← hsA, ← hsB, hD]; simp
      clear hs hl hq hT hk hk2 hW1 hW2 hb1 hb2 hr1 hr2 hG hm hlen hw hzn y1 ht32 hlq hD hsA hsB
      go_enter Tryd.func11, Tryd.ntmps11
      try rw [hbw]
      go_wp2
      clear x1
      refine wp_region_noPanic ?_
      refine wp_region_held_drew (S := (fun u : World => (convert 22 9 (.slice (some ⟨c, o, none⟩) 32 cap)).run Tryd.prog u = .ok (.string sA) u ∧ (convert 22 9 (.slice (some ⟨bw, 0, none⟩) 32 32)).run Tryd.prog u = .ok (.string sB) u)) (by kernel_rfl) (HLD.out) (fun hHeld => ?_)
      refine wpAnyH_take (i := 0) (v := ?_) (by simp only [List.getElem?_toArray, List.getElem?_cons_succ, List.getElem?_cons_zero]; exact rfl) (by kernel_rfl) (by kernel_rfl) (by kernel_rfl) (fun _ _ _ h => h) (Or.inl ⟨by rfl, ?_⟩) (by assumption) ?_
      rotate_left 1
      · (intro w hSw; (try dsimp only at hSw); go_simp; try with_reducible rfl)
      try simp only [Act.put, List.setIfInBounds_toArray, List.set_cons_zero, List.set_cons_succ]
      refine wpAnyH_take (i := 1) (v := ?_) (by simp only [List.getElem?_toArray, List.getElem?_cons_succ, List.getElem?_cons_zero]; exact rfl) (by kernel_rfl) (by kernel_rfl) (by kernel_rfl) (fun _ _ _ h => h) (Or.inl ⟨by rfl, ?_⟩) (by assumption) ?_
      rotate_left 1
      · (intro w hSw; (try dsimp only at hSw); go_simp; try with_reducible rfl)
      try simp only [Act.put, List.setIfInBounds_toArray, List.set_cons_zero, List.set_cons_succ]
      refine wpAnyH_take (i := 2) (v := ?_) (by simp only [List.getElem?_toArray, List.getElem?_cons_succ, List.getElem?_cons_zero]; exact rfl) (by kernel_rfl) (by kernel_rfl) (by kernel_rfl) (fun _ _ _ h => h) (Or.inl ⟨by rfl, ?_⟩) (by assumption) ?_
      rotate_left 1
      · (intro w hSw; (try dsimp only at hSw); go_simp; try with_reducible rfl)
      try simp only [Act.put, List.setIfInBounds_toArray, List.set_cons_zero, List.set_cons_succ]
      refine wpAnyH_take (i := 3) (v := ?_) (by simp only [List.getElem?_toArray, List.getElem?_cons_succ, List.getElem?_cons_zero]; exact rfl) (by kernel_rfl) (by kernel_rfl) (by kernel_rfl) (fun _ _ _ h => h) (Or.inl ⟨by rfl, ?_⟩) (by assumption) ?_
      rotate_left 1
      · (intro w hSw; (try dsimp only at hSw); go_simp; try with_reducible rfl)
      try simp only [Act.put, List.setIfInBounds_toArray, List.set_cons_zero, List.set_cons_succ]
      refine wpAnyH_take (i := 4) (v := ?_) (by simp only [List.getElem?_toArray, List.getElem?_cons_succ, List.getElem?_cons_zero]; exact rfl) (by kernel_rfl) (by kernel_rfl) (by kernel_rfl) (fun _ _ _ h => h) (Or.inl ⟨by rfl, ?_⟩) (by assumption) ?_
      rotate_left 1
      · (intro w hSw; (try dsimp only at hSw); go_simp; try with_reducible rfl)
      try simp only [Act.put, List.setIfInBounds_toArray, List.set_cons_zero, List.set_cons_succ]
      refine wpAnyH_take (i := 5) (v := ?_) (by simp only [List.getElem?_toArray, List.getElem?_cons_succ, List.getElem?_cons_zero]; exact rfl) (by kernel_rfl) (by kernel_rfl) (by kernel_rfl) (fun _ _ _ h => h) (Or.inl ⟨by rfl, ?_⟩) (by assumption) ?_
      rotate_left 1
      · (intro w hSw; (try dsimp only at hSw); go_simp; try with_reducible rfl)
      try simp only [Act.put, List.setIfInBounds_toArray, List.set_cons_zero, List.set_cons_succ]
      refine wpAnyH_take (i := 6) (v := ?_) (by simp only [List.getElem?_toArray, List.getElem?_cons_succ, List.getElem?_cons_zero]; exact rfl) (by kernel_rfl) (by kernel_rfl) (by kernel_rfl) (fun _ _ _ h => h) (Or.inl ⟨by rfl, ?_⟩) (by assumption) ?_
      rotate_left 1
      · (intro w hSw; (try dsimp only at hSw); go_simp; try with_reducible rfl)
      try simp only [Act.put, List.setIfInBounds_toArray, List.set_cons_zero, List.set_cons_succ]
      refine wpAnyH_take (i := 7) (v := ?_) (by simp only [List.getElem?_toArray, List.getElem?_cons_succ, List.getElem?_cons_zero]; exact rfl) (by kernel_rfl) (by kernel_rfl) (by kernel_rfl) (fun _ _ _ h => h) (Or.inl ⟨by rfl, ?_⟩) (by assumption) ?_
      rotate_left 1
      · (intro w hSw; (try dsimp only at hSw); go_simp; try with_reducible rfl)
      try simp only [Act.put, List.setIfInBounds_toArray, List.set_cons_zero, List.set_cons_succ]
      refine wpAnyH_take (i := 8) (v := ?_) (by simp only [List.getElem?_toArray, List.getElem?_cons_succ, List.getElem?_cons_zero]; exact rfl) (by kernel_rfl) (by kernel_rfl) (by kernel_rfl) (fun _ _ _ h => h) (Or.inl ⟨by rfl, ?_⟩) (by assumption) ?_
      rotate_left 1
      · (intro w hSw; (try dsimp only at hSw); go_simp; try with_reducible rfl)
      try simp only [Act.put, List.setIfInBounds_toArray, List.set_cons_zero, List.set_cons_succ]
      refine wpAnyH_take (i := 9) (v := ?_) (by simp only [List.getElem?_toArray, List.getElem?_cons_succ, List.getElem?_cons_zero]; exact rfl) (by kernel_rfl) (by kernel_rfl) (by kernel_rfl) (fun _ _ _ h => h) (Or.inl ⟨by rfl, ?_⟩) (by assumption) ?_
      rotate_left 1
      · (intro w hSw; (try dsimp only at hSw); go_simp; try with_reducible rfl)
      try simp only [Act.put, List.setIfInBounds_toArray, List.set_cons_zero, List.set_cons_succ]
      refine wpAnyH_take (i := 10) (v := ?_) (by simp only [List.getElem?_toArray, List.getElem?_cons_succ, List.getElem?_cons_zero]; exact rfl) (by kernel_rfl) (by kernel_rfl) (by kernel_rfl) (fun _ _ _ h => h) (Or.inl ⟨by rfl, ?_⟩) (by assumption) ?_
      rotate_left 1
      · (intro w hSw; (try dsimp only at hSw); go_simp; try with_reducible rfl)
      try simp only [Act.put, List.setIfInBounds_toArray, List.set_cons_zero, List.set_cons_succ]
      refine wpAnyH_take (i := 11) (v := ?_) (by simp only [List.getElem?_toArray, List.getElem?_cons_succ, List.getElem?_cons_zero]; exact rfl) (by kernel_rfl) (by kernel_rfl) (by kernel_rfl) (fun _ _ _ h => h) (Or.inl ⟨by rfl, ?_⟩) (by assumption) ?_
      rotate_left 1
      · (intro w hSw; (try dsimp only at hSw); go_simp; try with_reducible rfl)
      try simp only [Act.put, List.setIfInBounds_toArray, List.set_cons_zero, List.set_cons_succ]
      refine wpAnyH_take (i := 12) (v := ?_) (by simp only [List.getElem?_toArray, List.getElem?_cons_succ, List.getElem?_cons_zero]; exact rfl) (by kernel_rfl) (by kernel_rfl) (by kernel_rfl) (fun _ _ _ h => h) (Or.inl ⟨by rfl, ?_⟩) (by assumption) ?_
      rotate_left 1
      · (intro w hSw; (try dsimp only at hSw); go_simp; try with_reducible rfl)
      try simp only [Act.put, List.setIfInBounds_toArray, List.set_cons_zero, List.set_cons_succ]
      refine wpAnyH_take (i := 13) (v := ?_) (by simp only [List.getElem?_toArray, List.getElem?_cons_succ, List.getElem?_cons_zero]; exact rfl) (by kernel_rfl) (by kernel_rfl) (by kernel_rfl) (fun _ _ _ h => h) (Or.inl ⟨by rfl, ?_⟩) (by assumption) ?_
      rotate_left 1
      · (intro w hSw; (try dsimp only at hSw); go_simp; try with_reducible rfl)
      try simp only [Act.put, List.setIfInBounds_toArray, List.set_cons_zero, List.set_cons_succ]
      refine wpAnyH_take (i := 14) (v := ?_) (by simp only [List.getElem?_toArray, List.getElem?_cons_succ, List.getElem?_cons_zero]; exact rfl) (by kernel_rfl) (by kernel_rfl) (by kernel_rfl) (fun _ _ _ h => h) (Or.inl ⟨by rfl, ?_⟩) (by assumption) ?_
      rotate_left 1
      · (intro w hSw; (try dsimp only at hSw); go_simp; try with_reducible rfl)
      try simp only [Act.put, List.setIfInBounds_toArray, List.set_cons_zero, List.set_cons_succ]
      refine wpAnyH_done (by kernel_rfl) ?_ _
      refine NoPanic.normal ?_
      clear hHeld
      clear s0 hcmp
      go_wp2
      go_loopw [37] (fun f wr => ∃ i : Nat, i ≤ k2 ∧ f = .int .i64 (i : Int) ∧ Row wr G 4 k2 (fun j => .bool (decide (j < i) && entB l j)) ∧ Below w.heap.size w wr) (fun f _ => k2 - (intOf f).toNat)
      case atStart => exact ⟨0, Nat.zero_le _, rfl, (show Row W2.drew G 4 k2 _ from HG1.out).congr (fun j _ => by rw [decide_eq_false (Nat.not_lt_zero j)]; rfl), HB2.out.drew⟩
      case round =>
        obtain ⟨i, hi, rfl, hR, hB⟩ := hrel
        have HRW := Lib.hid hR
        have HBW := Lib.hid hB
        by_cases hik : i < k2
        · have z3 : (i : Int) < (k2 : Int) := by omega
          have z4 : decide ((i : Int) < (k2 : Int)) = true := decide_eq_true z3
          have HIK := Lib.hid hik
          have hik0 : (0 : Int) ≤ (i : Int) := by omega
          have hkk := HKK.out
          have hin : 288 * i + 320 ≤ n := by have := HNM.out; omega
          obtain ⟨A, hA⟩ : ∃ A, 288 * i = A := ⟨_, rfl⟩
          obtain ⟨F, hF⟩ : ∃ F, A + 32 = F := ⟨_, rfl⟩
          obtain ⟨T, hT⟩ : ∃ T, F + 256 = T := ⟨_, rfl⟩
          obtain ⟨E, hE⟩ : ∃ E, F + 288 = E := ⟨_, rfl⟩
          have hnn := HNN.out
          have hcc := HCC.out
          have v1 : IntKind.i64.wrap (288 * (i : Int)) = (A : Int) := by rw [IntKind.wrap_i64]; omega
          have v2 : IntKind.i64.wrap (32 + (A : Int)) = (F : Int) := by rw [IntKind.wrap_i64]; omega
          have v3 : IntKind.i64.wrap ((F : Int) + 256) = (T : Int) := by rw [IntKind.wrap_i64]; omega
          have v4 : IntKind.i64.wrap ((F : Int) + 288) = (E : Int) := by rw [IntKind.wrap_i64]; omega
          have s1 := fun u => sl_lh12 c o n cap F T u (by omega) (by omega) (by omega)
          have s2 := fun u => sl_lh12 c o n cap T E u (by omega) (by omega) (by omega)
          rw [show T - F = 256 by omega] at s1
          rw [show E - T = 32 by omega] at s2
          have HIL := Lib.hid (show 288 * i + 320 ≤ l.length from by omega)
          have hF0 : F = 288 * i + 32 := by omega
          have hT0 : T = 288 * i + 288 := by omega
          obtain ⟨bl, hbl⟩ : ∃ d, seg12 l F 256 = d := ⟨_, rfl⟩
          obtain ⟨d, hd⟩ : ∃ d, digL bl = d := ⟨_, rfl⟩
          have hbl2 : bl.length = 256 := by rw [← hbl]; exact seg12_len (by omega)
          have hdl : d.length = 32 := by rw [← hd]; exact digL_len _
          have HSM := Lib.hid (refSum1_any bl (some ⟨c, o + F, none⟩) 256 (cap - F) wr hbl2 (by rw [← hbl]; exact seg12_sl (HSL.out.of_below hB) _ _) (fun e => by cases e) (HT.out.on hB) (by decide))
          rw [hd] at HSM
          obtain ⟨d2, hd2⟩ : ∃ d, seg12 l T 32 = d := ⟨_, rfl⟩
          have hdl2 : d2.length = 32 := by rw [← hd2]; exact seg12_len (by omega)
          have HDL := Lib.hid (And.intro hdl hdl2)
          obtain ⟨sC, hsC⟩ : ∃ s, strOf d = s := ⟨_, rfl⟩
          obtain ⟨sD, hsD⟩ : ∃ s, strOf d2 = s := ⟨_, rfl⟩
          have HENB := Lib.hid (show (sC.toList == sD.toList) = entB l i from by
            unfold entB
            rw [← hF0, ← hT0, hbl, hd, hd2, ← hsC, ← hsD]
            by_cases h : d = d2
            · rw [h, decide_eq_true rfl]; simp
            · rw [str_ne _ _ h, decide_eq_false h])
          have HCV0 := Lib.hid (fun (b5 : Nat) (u : World) (h1 : Sl u (some ⟨b5, 0, none⟩) d) (h2 : Below w.heap.size w u) => (show (convert 22 9 (.slice (some ⟨b5, 0, none⟩) 32 32)).run Tryd.prog u = .ok (.string sC) u ∧ (convert 22 9 (.slice (some ⟨c, o + T, none⟩) 32 (cap - T))).run Tryd.prog u = .ok (.string sD) u from
            ⟨by rw [← hsC]; exact conv_str u _ d 32 32 h1 hdl (fun e => by cases e), by rw [← hsD]; exact conv_str u _ d2 32 _ (by rw [← hd2]; exact seg12_sl (HSL.out.of_below h2) _ _) hdl2 (fun e => by cases e)⟩))
          clear hd hdl hd2 hdl2 hsC hsD hbl hbl2 hF0 hT0 hA hF hT hE hR hB hkk hin hnn hcc
          go_wp2_with fail
          refine HSM.out.mono ?_
          rintro e w5 ⟨rfl, hB5⟩
          have st := st_dig w5 w5.heap.size d rfl
          obtain ⟨y0, hy0⟩ : ∃ y, w5.alloc (.cells (tab 32 (dgF d)) 31) = y := ⟨_, rfl⟩
          have hby := below_newR w5 (.cells (tab 32 (dgF d)) 31)
          have hrd := Row.new w5 31 32 (dgF d)
          rw [hy0] at st hby hrd
          have hb := hB5.trans (hby.mono hB5.size)
          have HG5 := Lib.hid (show G < w5.heap.size from Nat.lt_of_lt_of_le HRW.out.lt hB5.size)
          have HDX := Lib.hid (show Sl y0.drew (some ⟨w5.heap.size, 0, none⟩) d from dgF_sl12 hrd HDL.out.1)
          have HWX := Lib.hid (show Below w.heap.size w y0.drew from (HBW.out.trans (hb.mono HBW.out.size)).drew)
          have HGX := Lib.hid (HRW.out.of_below hb.drew)
          have HCV := Lib.hid (HCV0.out w5.heap.size)
          have hgc := HGX.out.cell i hik
          have hgf := HGX.out.free i
          have hgs : (y0.drew.cell? ⟨G, i, none⟩).isSome = true := by rw [hgc]; rfl
          clear hby hrd hb hB5 HSM hy0 HCV0
          go_wp2
          clear st
          refine wp_region_noPanic ?_
          refine wp_region_held_drew (S := (fun u : World => (convert 22 9 (.slice (some ⟨w5.heap.size, 0, none⟩) 32 32)).run Tryd.prog u = .ok (.string sC) u ∧ (convert 22 9 (.slice (some ⟨c, o + T, none⟩) 32 (cap - T))).run Tryd.prog u = .ok (.string sD) u)) (by kernel_rfl) (HCV.out _ HDX.out HWX.out) (fun hHeld => ?_)
          generalize y0.drew = x at hHeld HDX HGX HWX hgc hgf hgs ⊢
          refine wpAnyH_take (i := 0) (v := ?_) (by simp only [List.getElem?_toArray, List.getElem?_cons_succ, List.getElem?_cons_zero]; exact rfl) (by kernel_rfl) (by kernel_rfl) (by kernel_rfl) (fun _ _ _ h => h) (Or.inl ⟨by rfl, ?_⟩) (by assumption) ?_
          rotate_left 1
          · (intro w hSw; (try dsimp only at hSw); go_simp; try with_reducible rfl)
          try simp only [Act.put, List.setIfInBounds_toArray, List.set_cons_zero, List.set_cons_succ]
          refine wpAnyH_take (i := 1) (v := ?_) (by simp only [List.getElem?_toArray, List.getElem?_cons_succ, List.getElem?_cons_zero]; exact rfl) (by kernel_rfl) (by kernel_rfl) (by kernel_rfl) (fun _ _ _ h => h) (Or.inl ⟨by rfl, ?_⟩) (by assumption) ?_
          rotate_left 1
          · (intro w hSw; (try dsimp only at hSw); go_simp; try with_reducible rfl)
          try simp only [Act.put, List.setIfInBounds_toArray, List.set_cons_zero, List.set_cons_succ]
          refine wpAnyH_take (i := 2) (v := ?_) (by simp only [List.getElem?_toArray, List.getElem?_cons_succ, List.getElem?_cons_zero]; exact rfl) (by kernel_rfl) (by kernel_rfl) (by kernel_rfl) (fun _ _ _ h => h) (Or.inl ⟨by rfl, ?_⟩) (by assumption) ?_
          rotate_left 1
          · (intro w hSw; (try dsimp only at hSw); go_simp; try with_reducible rfl)
          try simp only [Act.put, List.setIfInBounds_toArray, List.set_cons_zero, List.set_cons_succ]
          refine wpAnyH_take (i := 3) (v := ?_) (by simp only [List.getElem?_toArray, List.getElem?_cons_succ, List.getElem?_cons_zero]; exact rfl) (by kernel_rfl) (by kernel_rfl) (by kernel_rfl) (fun _ _ _ h => h) (Or.inl ⟨by rfl, ?_⟩) (by assumption) ?_
          rotate_left 1
          · (intro w hSw; (try dsimp only at hSw); go_simp; try with_reducible rfl)
          try simp only [Act.put, List.setIfInBounds_toArray, List.set_cons_zero, List.set_cons_succ]
          refine wpAnyH_take (i := 4) (v := ?_) (by simp only [List.getElem?_toArray, List.getElem?_cons_succ, List.getElem?_cons_zero]; exact rfl) (by kernel_rfl) (by kernel_rfl) (by kernel_rfl) (fun _ _ _ h => h) (Or.inl ⟨by rfl, ?_⟩) (by assumption) ?_
          rotate_left 1
          · (intro w hSw; (try dsimp only at hSw); go_simp; try with_reducible rfl)
          try simp only [Act.put, List.setIfInBounds_toArray, List.set_cons_zero, List.set_cons_succ]
          refine wpAnyH_take (i := 5) (v := ?_) (by simp only [List.getElem?_toArray, List.getElem?_cons_succ, List.getElem?_cons_zero]; exact rfl) (by kernel_rfl) (by kernel_rfl) (by kernel_rfl) (fun _ _ _ h => h) (Or.inl ⟨by rfl, ?_⟩) (by assumption) ?_
          rotate_left 1
          · (intro w hSw; (try dsimp only at hSw); go_simp; try with_reducible rfl)
          try simp only [Act.put, List.setIfInBounds_toArray, List.set_cons_zero, List.set_cons_succ]
          refine wpAnyH_take (i := 6) (v := ?_) (by simp only [List.getElem?_toArray, List.getElem?_cons_succ, List.getElem?_cons_zero]; exact rfl) (by kernel_rfl) (by kernel_rfl) (by kernel_rfl) (fun _ _ _ h => h) (Or.inl ⟨by rfl, ?_⟩) (by assumption) ?_
          rotate_left 1
          · (intro w hSw; (try dsimp only at hSw); go_simp; try with_reducible rfl)
          try simp only [Act.put, List.setIfInBounds_toArray, List.set_cons_zero, List.set_cons_succ]
          refine wpAnyH_take (i := 7) (v := ?_) (by simp only [List.getElem?_toArray, List.getElem?_cons_succ, List.getElem?_cons_zero]; exact rfl) (by kernel_rfl) (by kernel_rfl) (by kernel_rfl) (fun _ _ _ h => h) (Or.inl ⟨by rfl, ?_⟩) (by assumption) ?_
          rotate_left 1
          · (intro w hSw; (try dsimp only at hSw); go_simp; try with_reducible rfl)
          try simp only [Act.put, List.setIfInBounds_toArray, List.set_cons_zero, List.set_cons_succ]
          refine wpAnyH_take (i := 8) (v := ?_) (by simp only [List.getElem?_toArray, List.getElem?_cons_succ, List.getElem?_cons_zero]; exact rfl) (by kernel_rfl) (by kernel_rfl) (by kernel_rfl) (fun _ _ _ h => h) (Or.inl ⟨by rfl, ?_⟩) (by assumption) ?_
          rotate_left 1
          · (intro w hSw; (try dsimp only at hSw); go_simp; try with_reducible rfl)
          try simp only [Act.put, List.setIfInBounds_toArray, List.set_cons_zero, List.set_cons_succ]
          refine wpAnyH_take (i := 9) (v := ?_) (by simp only [List.getElem?_toArray, List.getElem?_cons_succ, List.getElem?_cons_zero]; exact rfl) (by kernel_rfl) (by kernel_rfl) (by kernel_rfl) (fun _ _ _ h => h) (Or.inl ⟨by rfl, ?_⟩) (by assumption) ?_
          rotate_left 1
          · (intro w hSw; (try dsimp only at hSw); go_simp; try with_reducible rfl)
          try simp only [Act.put, List.setIfInBounds_toArray, List.set_cons_zero, List.set_cons_succ]
          refine wpAnyH_take (i := 10) (v := ?_) (by simp only [List.getElem?_toArray, List.getElem?_cons_succ, List.getElem?_cons_zero]; exact rfl) (by kernel_rfl) (by kernel_rfl) (by kernel_rfl) (fun _ _ _ h => h) (Or.inl ⟨by rfl, ?_⟩) (by assumption) ?_
          rotate_left 1
          · (intro w hSw; (try dsimp only at hSw); go_simp; try with_reducible rfl)
          try simp only [Act.put, List.setIfInBounds_toArray, List.set_cons_zero, List.set_cons_succ]
          refine wpAnyH_take (i := 11) (v := ?_) (by simp only [List.getElem?_toArray, List.getElem?_cons_succ, List.getElem?_cons_zero]; exact rfl) (by kernel_rfl) (by kernel_rfl) (by kernel_rfl) (fun _ _ _ h => h) (Or.inl ⟨by rfl, ?_⟩) (by assumption) ?_
          rotate_left 1
          · (intro w hSw; (try dsimp only at hSw); go_simp; try with_reducible rfl)
          try simp only [Act.put, List.setIfInBounds_toArray, List.set_cons_zero, List.set_cons_succ]
          refine wpAnyH_take (i := 12) (v := ?_) (by simp only [List.getElem?_toArray, List.getElem?_cons_succ, List.getElem?_cons_zero]; exact rfl) (by kernel_rfl) (by kernel_rfl) (by kernel_rfl) (fun _ _ _ h => h) (Or.inl ⟨by rfl, ?_⟩) (by assumption) ?_
          rotate_left 1
          · (intro w hSw; (try dsimp only at hSw); go_simp; try with_reducible rfl)
          try simp only [Act.put, List.setIfInBounds_toArray, List.set_cons_zero, List.set_cons_succ]
          refine wpAnyH_take (i := 13) (v := ?_) (by simp only [List.getElem?_toArray, List.getElem?_cons_succ, List.getElem?_cons_zero]; exact rfl) (by kernel_rfl) (by kernel_rfl) (by kernel_rfl) (fun _ _ _ h => h) (Or.inl ⟨by rfl, ?_⟩) (by assumption) ?_
          rotate_left 1
          · (intro w hSw; (try dsimp only at hSw); go_simp; try with_reducible rfl)
          try simp only [Act.put, List.setIfInBounds_toArray, List.set_cons_zero, List.set_cons_succ]
          refine wpAnyH_take (i := 14) (v := ?_) (by simp only [List.getElem?_toArray, List.getElem?_cons_succ, List.getElem?_cons_zero]; exact rfl) (by kernel_rfl) (by kernel_rfl) (by kernel_rfl) (fun _ _ _ h => h) (Or.inl ⟨by rfl, ?_⟩) (by assumption) ?_
          rotate_left 1
          · (intro w hSw; (try dsimp only at hSw); go_simp; try with_reducible rfl)
          try simp only [Act.put, List.setIfInBounds_toArray, List.set_cons_zero, List.set_cons_succ]
          refine wpAnyH_take (i := 15) (v := ?_) (by simp only [List.getElem?_toArray, List.getElem?_cons_succ, List.getElem?_cons_zero]; exact rfl) (by kernel_rfl) (by kernel_rfl) (by kernel_rfl) (fun _ _ _ h => h) (Or.inl ⟨by rfl, ?_⟩) (by assumption) ?_
          rotate_left 1
          · (intro w hSw; (try dsimp only at hSw); go_simp; try with_reducible rfl)
          try simp only [Act.put, List.setIfInBounds_toArray, List.set_cons_zero, List.set_cons_succ]
          refine wpAnyH_take (i := 16) (v := ?_) (by simp only [List.getElem?_toArray, List.getElem?_cons_succ, List.getElem?_cons_zero]; exact rfl) (by kernel_rfl) (by kernel_rfl) (by kernel_rfl) (fun _ _ _ h => h) (Or.inl ⟨by rfl, ?_⟩) (by assumption) ?_
          rotate_left 1
          · (intro w hSw; (try dsimp only at hSw); go_simp; try with_reducible rfl)
          try simp only [Act.put, List.setIfInBounds_toArray, List.set_cons_zero, List.set_cons_succ]
          refine wpAnyH_ready (rs := [17]) (by kernel_rfl) (by simp) ?_
          refine (AllReadyH.cons (by simp only [List.getElem?_toArray, List.getElem?_cons_succ, List.getElem?_cons_zero]; exact rfl) (fun K hK => ?_) AllReadyH.nil)
          go_simp
          have HROW := Lib.hid (HGX.out.set i (.bool (sC.toList == sD.toList)))
          have HBX := Lib.hid (HWX.out.setCell (show w.heap.size ≤ (⟨G, i, none⟩ : Addr).block from HG2.out) (.bool (sC.toList == sD.toList)))
          refine hK.out _ _ (HCV.out (x.setCell ⟨G, i, none⟩ (.bool (sC.toList == sD.toList))) (HDX.out.of_block (fun a e => by injection e with e; subst e; exact Below.heap_setCell _ _ _ _ (show w5.heap.size ≠ G by have := HG5.out; omega))) HBX.out) (fun hHeld => ?_)
          clear hK K
          try simp only [Act.put, List.setIfInBounds_toArray, List.set_cons_zero, List.set_cons_succ]
          refine wpAnyH_done (by kernel_rfl) ?_ _
          refine NoPanic.normal ?_
          clear hHeld hgc hgf hgs
          go_wp2
          go_roundw
          case rel => exact ⟨i + 1, by have := HIK.out; omega, by go_num, HROW.out.congr (fun j hj => by
            by_cases hji : j = i
            · subst hji
              rw [if_pos rfl, HENB.out, decide_eq_true (show j < j + 1 by omega)]; rfl
            · rw [if_neg hji]
              by_cases h : j < i
              · rw [decide_eq_true h, decide_eq_true (show j < i + 1 by omega)]
              · rw [decide_eq_false h, decide_eq_false (show ¬ j < i + 1 by omega)]), HBX.out⟩
          case measure => have := HIK.out; simp [intOf]; omega
        · have z3 : ¬ (i : Int) < (k2 : Int) := by omega
          have z4 : decide ((i : Int) < (k2 : Int)) = false := decide_eq_false z3
          have hie : i = k2 := by omega
          have HIE := Lib.hid hie
          clear hR hB hie
          go_wp2
          go_ret
          exact ⟨_, rfl, by rw [← hbw]; exact HG2.out, HRW.out.lt, HRW.out.congr (fun j hj => by rw [decide_eq_true (show j < i by have := HIE.out; omega)]; unfold stB; rw [HYO.out]), by rw [← hbw]; exact HBW.out⟩
    · have HNO := Lib.hid (show okS l k wh = false from by
        unfold okS
        rw [decide_eq_false_iff_not]
        rintro ⟨-, h⟩
        exact hD h)
      have hcmp : (sA.toList == sB.toList) = false := by rw [← hsA, ← hsB]; exact str_ne _ _ hD
      clear hs hl hq hT hk hk2 hW1 hW2 hb1 hb2 hr1 hr2 hG hm hlen hw hzn y1 ht32 hlq hD hsA hsB
      go_enter Tryd.func11, Tryd.ntmps11
      try rw [hbw]
      go_wp2
      clear x1
      refine wp_region_noPanic ?_
      refine wp_region_held_drew (S := (fun u : World => (convert 22 9 (.slice (some ⟨c, o, none⟩) 32 cap)).run Tryd.prog u = .ok (.string sA) u ∧ (convert 22 9 (.slice (some ⟨bw, 0, none⟩) 32 32)).run Tryd.prog u = .ok (.string sB) u)) (by kernel_rfl) (HLD.out) (fun hHeld => ?_)
      refine wpAnyH_take (i := 0) (v := ?_) (by simp only [List.getElem?_toArray, List.getElem?_cons_succ, List.getElem?_cons_zero]; exact rfl) (by kernel_rfl) (by kernel_rfl) (by kernel_rfl) (fun _ _ _ h => h) (Or.inl ⟨by rfl, ?_⟩) (by assumption) ?_
      rotate_left 1
      · (intro w hSw; (try dsimp only at hSw); go_simp; try with_reducible rfl)
      try simp only [Act.put, List.setIfInBounds_toArray, List.set_cons_zero, List.set_cons_succ]
      refine wpAnyH_take (i := 1) (v := ?_) (by simp only [List.getElem?_toArray, List.getElem?_cons_succ, List.getElem?_cons_zero]; exact rfl) (by kernel_rfl) (by kernel_rfl) (by kernel_rfl) (fun _ _ _ h => h) (Or.inl ⟨by rfl, ?_⟩) (by assumption) ?_
      rotate_left 1
      · (intro w hSw; (try dsimp only at hSw); go_simp; try with_reducible rfl)
      try simp only [Act.put, List.setIfInBounds_toArray, List.set_cons_zero, List.set_cons_succ]
      refine wpAnyH_take (i := 2) (v := ?_) (by simp only [List.getElem?_toArray, List.getElem?_cons_succ, List.getElem?_cons_zero]; exact rfl) (by kernel_rfl) (by kernel_rfl) (by kernel_rfl) (fun _ _ _ h => h) (Or.inl ⟨by rfl, ?_⟩) (by assumption) ?_
      rotate_left 1
      · (intro w hSw; (try dsimp only at hSw); go_simp; try with_reducible rfl)
      try simp only [Act.put, List.setIfInBounds_toArray, List.set_cons_zero, List.set_cons_succ]
      refine wpAnyH_take (i := 3) (v := ?_) (by simp only [List.getElem?_toArray, List.getElem?_cons_succ, List.getElem?_cons_zero]; exact rfl) (by kernel_rfl) (by kernel_rfl) (by kernel_rfl) (fun _ _ _ h => h) (Or.inl ⟨by rfl, ?_⟩) (by assumption) ?_
      rotate_left 1
      · (intro w hSw; (try dsimp only at hSw); go_simp; try with_reducible rfl)
      try simp only [Act.put, List.setIfInBounds_toArray, List.set_cons_zero, List.set_cons_succ]
      refine wpAnyH_take (i := 4) (v := ?_) (by simp only [List.getElem?_toArray, List.getElem?_cons_succ, List.getElem?_cons_zero]; exact rfl) (by kernel_rfl) (by kernel_rfl) (by kernel_rfl) (fun _ _ _ h => h) (Or.inl ⟨by rfl, ?_⟩) (by assumption) ?_
      rotate_left 1
      · (intro w hSw; (try dsimp only at hSw); go_simp; try with_reducible rfl)
      try simp only [Act.put, List.setIfInBounds_toArray, List.set_cons_zero, List.set_cons_succ]
      refine wpAnyH_take (i := 5) (v := ?_) (by simp only [List.getElem?_toArray, List.getElem?_cons_succ, List.getElem?_cons_zero]; exact rfl) (by kernel_rfl) (by kernel_rfl) (by kernel_rfl) (fun _ _ _ h => h) (Or.inl ⟨by rfl, ?_⟩) (by assumption) ?_
      rotate_left 1
      · (intro w hSw; (try dsimp only at hSw); go_simp; try with_reducible rfl)
      try simp only [Act.put, List.setIfInBounds_toArray, List.set_cons_zero, List.set_cons_succ]
      refine wpAnyH_take (i := 6) (v := ?_) (by simp only [List.getElem?_toArray, List.getElem?_cons_succ, List.getElem?_cons_zero]; exact rfl) (by kernel_rfl) (by kernel_rfl) (by kernel_rfl) (fun _ _ _ h => h) (Or.inl ⟨by rfl, ?_⟩) (by assumption) ?_
      rotate_left 1
      · (intro w hSw; (try dsimp only at hSw); go_simp; try with_reducible rfl)
      try simp only [Act.put, List.setIfInBounds_toArray, List.set_cons_zero, List.set_cons_succ]
      refine wpAnyH_take (i := 7) (v := ?_) (by simp only [List.getElem?_toArray, List.getElem?_cons_succ, List.getElem?_cons_zero]; exact rfl) (by kernel_rfl) (by kernel_rfl) (by kernel_rfl) (fun _ _ _ h => h) (Or.inl ⟨by rfl, ?_⟩) (by assumption) ?_
      rotate_left 1
      · (intro w hSw; (try dsimp only at hSw); go_simp; try with_reducible rfl)
      try simp only [Act.put, List.setIfInBounds_toArray, List.set_cons_zero, List.set_cons_succ]
      refine wpAnyH_take (i := 8) (v := ?_) (by simp only [List.getElem?_toArray, List.getElem?_cons_succ, List.getElem?_cons_zero]; exact rfl) (by kernel_rfl) (by kernel_rfl) (by kernel_rfl) (fun _ _ _ h => h) (Or.inl ⟨by rfl, ?_⟩) (by assumption) ?_
      rotate_left 1
      · (intro w hSw; (try dsimp only at hSw); go_simp; try with_reducible rfl)
      try simp only [Act.put, List.setIfInBounds_toArray, List.set_cons_zero, List.set_cons_succ]
      refine wpAnyH_take (i := 9) (v := ?_) (by simp only [List.getElem?_toArray, List.getElem?_cons_succ, List.getElem?_cons_zero]; exact rfl) (by kernel_rfl) (by kernel_rfl) (by kernel_rfl) (fun _ _ _ h => h) (Or.inl ⟨by rfl, ?_⟩) (by assumption) ?_
      rotate_left 1
      · (intro w hSw; (try dsimp only at hSw); go_simp; try with_reducible rfl)
      try simp only [Act.put, List.setIfInBounds_toArray, List.set_cons_zero, List.set_cons_succ]
      refine wpAnyH_take (i := 10) (v := ?_) (by simp only [List.getElem?_toArray, List.getElem?_cons_succ, List.getElem?_cons_zero]; exact rfl) (by kernel_rfl) (by kernel_rfl) (by kernel_rfl) (fun _ _ _ h => h) (Or.inl ⟨by rfl, ?_⟩) (by assumption) ?_
      rotate_left 1
      · (intro w hSw; (try dsimp only at hSw); go_simp; try with_reducible rfl)
      try simp only [Act.put, List.setIfInBounds_toArray, List.set_cons_zero, List.set_cons_succ]
      refine wpAnyH_take (i := 11) (v := ?_) (by simp only [List.getElem?_toArray, List.getElem?_cons_succ, List.getElem?_cons_zero]; exact rfl) (by kernel_rfl) (by kernel_rfl) (by kernel_rfl) (fun _ _ _ h => h) (Or.inl ⟨by rfl, ?_⟩) (by assumption) ?_
      rotate_left 1
      · (intro w hSw; (try dsimp only at hSw); go_simp; try with_reducible rfl)
      try simp only [Act.put, List.setIfInBounds_toArray, List.set_cons_zero, List.set_cons_succ]
      refine wpAnyH_take (i := 12) (v := ?_) (by simp only [List.getElem?_toArray, List.getElem?_cons_succ, List.getElem?_cons_zero]; exact rfl) (by kernel_rfl) (by kernel_rfl) (by kernel_rfl) (fun _ _ _ h => h) (Or.inl ⟨by rfl, ?_⟩) (by assumption) ?_
      rotate_left 1
      · (intro w hSw; (try dsimp only at hSw); go_simp; try with_reducible rfl)
      try simp only [Act.put, List.setIfInBounds_toArray, List.set_cons_zero, List.set_cons_succ]
      refine wpAnyH_take (i := 13) (v := ?_) (by simp only [List.getElem?_toArray, List.getElem?_cons_succ, List.getElem?_cons_zero]; exact rfl) (by kernel_rfl) (by kernel_rfl) (by kernel_rfl) (fun _ _ _ h => h) (Or.inl ⟨by rfl, ?_⟩) (by assumption) ?_
      rotate_left 1
      · (intro w hSw; (try dsimp only at hSw); go_simp; try with_reducible rfl)
      try simp only [Act.put, List.setIfInBounds_toArray, List.set_cons_zero, List.set_cons_succ]
      refine wpAnyH_take (i := 14) (v := ?_) (by simp only [List.getElem?_toArray, List.getElem?_cons_succ, List.getElem?_cons_zero]; exact rfl) (by kernel_rfl) (by kernel_rfl) (by kernel_rfl) (fun _ _ _ h => h) (Or.inl ⟨by rfl, ?_⟩) (by assumption) ?_
      rotate_left 1
      · (intro w hSw; (try dsimp only at hSw); go_simp; try with_reducible rfl)
      try simp only [Act.put, List.setIfInBounds_toArray, List.set_cons_zero, List.set_cons_succ]
      refine wpAnyH_done (by kernel_rfl) ?_ _
      refine NoPanic.normal ?_
      clear hHeld
      go_wp2
      go_ret
      exact ⟨_, rfl, by rw [← hbw]; exact HG2.out, HG3.out, (HG1.out.of_below (Below.refl _ _).drew).congr (fun i _ => by unfold stB; rw [HNO.out]; rfl), by rw [← hbw]; exact HB2.out.drew⟩
  · have HNO := Lib.hid (show okS l k wh = false from by
      unfold okS
      rw [decide_eq_false_iff_not]
      rintro ⟨h, -⟩
      exact hlen (by omega))
    have y1 : ¬ ((n : Int) = (m : Int)) := by omega
    have y6 : ((n : Int) != (m : Int)) = true := by simpa using y1
    have HLD := Lib.hid (show Below W2.heap.size W2 W2.drew from (Below.refl _ _).drew)
    clear hs hl hq hT hk hk2 hW1 hW2 hb1 hb2 hr1 hr2 hG hm hlen hw hzn
    go_enter Tryd.func11, Tryd.ntmps11
    try rw [hbw]
    go_wp2
    clear x1
    refine wp_region_noPanic ?_
    refine wp_region_held_drew (S := (fun u : World => Below W2.heap.size W2 u)) (by kernel_rfl) (HLD.out) (fun hHeld => ?_)
    refine wpAnyH_take (i := 0) (v := ?_) (by simp only [List.getElem?_toArray, List.getElem?_cons_succ, List.getElem?_cons_zero]; exact rfl) (by kernel_rfl) (by kernel_rfl) (by kernel_rfl) (fun _ _ _ h => h) (Or.inl ⟨by rfl, ?_⟩) (by assumption) ?_
    rotate_left 1
    · (intro w hSw; (try dsimp only at hSw); go_simp; try with_reducible rfl)
    try simp only [Act.put, List.setIfInBounds_toArray, List.set_cons_zero, List.set_cons_succ]
    refine wpAnyH_take (i := 1) (v := ?_) (by simp only [List.getElem?_toArray, List.getElem?_cons_succ, List.getElem?_cons_zero]; exact rfl) (by kernel_rfl) (by kernel_rfl) (by kernel_rfl) (fun _ _ _ h => h) (Or.inl ⟨by rfl, ?_⟩) (by assumption) ?_
    rotate_left 1
    · (intro w hSw; (try dsimp only at hSw); go_simp; try with_reducible rfl)
    try simp only [Act.put, List.setIfInBounds_toArray, List.set_cons_zero, List.set_cons_succ]
    refine wpAnyH_take (i := 2) (v := ?_) (by simp only [List.getElem?_toArray, List.getElem?_cons_succ, List.getElem?_cons_zero]; exact rfl) (by kernel_rfl) (by kernel_rfl) (by kernel_rfl) (fun _ _ _ h => h) (Or.inl ⟨by rfl, ?_⟩) (by assumption) ?_
    rotate_left 1
    · (intro w hSw; (try dsimp only at hSw); go_simp; try with_reducible rfl)
    try simp only [Act.put, List.setIfInBounds_toArray, List.set_cons_zero, List.set_cons_succ]
    refine wpAnyH_take (i := 3) (v := ?_) (by simp only [List.getElem?_toArray, List.getElem?_cons_succ, List.getElem?_cons_zero]; exact rfl) (by kernel_rfl) (by kernel_rfl) (by kernel_rfl) (fun _ _ _ h => h) (Or.inl ⟨by rfl, ?_⟩) (by assumption) ?_
    rotate_left 1
    · (intro w hSw; (try dsimp only at hSw); go_simp; try with_reducible rfl)
    try simp only [Act.put, List.setIfInBounds_toArray, List.set_cons_zero, List.set_cons_succ]
    refine wpAnyH_take (i := 4) (v := ?_) (by simp only [List.getElem?_toArray, List.getElem?_cons_succ, List.getElem?_cons_zero]; exact rfl) (by kernel_rfl) (by kernel_rfl) (by kernel_rfl) (fun _ _ _ h => h) (Or.inl ⟨by rfl, ?_⟩) (by assumption) ?_
    rotate_left 1
    · (intro w hSw; (try dsimp only at hSw); go_simp; try with_reducible rfl)
    try simp only [Act.put, List.setIfInBounds_toArray, List.set_cons_zero, List.set_cons_succ]
    refine wpAnyH_take (i := 5) (v := ?_) (by simp only [List.getElem?_toArray, List.getElem?_cons_succ, List.getElem?_cons_zero]; exact rfl) (by kernel_rfl) (by kernel_rfl) (by kernel_rfl) (fun _ _ _ h => h) (Or.inl ⟨by rfl, ?_⟩) (by assumption) ?_
    rotate_left 1
    · (intro w hSw; (try dsimp only at hSw); go_simp; try with_reducible rfl)
    try simp only [Act.put, List.setIfInBounds_toArray, List.set_cons_zero, List.set_cons_succ]
    refine wpAnyH_take (i := 6) (v := ?_) (by simp only [List.getElem?_toArray, List.getElem?_cons_succ, List.getElem?_cons_zero]; exact rfl) (by kernel_rfl) (by kernel_rfl) (by kernel_rfl) (fun _ _ _ h => h) (Or.inl ⟨by rfl, ?_⟩) (by assumption) ?_
    rotate_left 1
    · (intro w hSw; (try dsimp only at hSw); go_simp; try with_reducible rfl)
    try simp only [Act.put, List.setIfInBounds_toArray, List.set_cons_zero, List.set_cons_succ]
    refine wpAnyH_take (i := 7) (v := ?_) (by simp only [List.getElem?_toArray, List.getElem?_cons_succ, List.getElem?_cons_zero]; exact rfl) (by kernel_rfl) (by kernel_rfl) (by kernel_rfl) (fun _ _ _ h => h) (Or.inl ⟨by rfl, ?_⟩) (by assumption) ?_
    rotate_left 1
    · (intro w hSw; (try dsimp only at hSw); go_simp; try with_reducible rfl)
    try simp only [Act.put, List.setIfInBounds_toArray, List.set_cons_zero, List.set_cons_succ]
    refine wpAnyH_take (i := 8) (v := undef) (by simp only [List.getElem?_toArray, List.getElem?_cons_succ, List.getElem?_cons_zero]; exact rfl) (by kernel_rfl) (by kernel_rfl) (by kernel_rfl) (fun _ _ _ h => h) (Or.inr ⟨by rfl, rfl⟩) (by assumption) ?_
    try simp only [Act.put, List.setIfInBounds_toArray, List.set_cons_zero, List.set_cons_succ]
    refine wpAnyH_take (i := 9) (v := undef) (by simp only [List.getElem?_toArray, List.getElem?_cons_succ, List.getElem?_cons_zero]; exact rfl) (by kernel_rfl) (by kernel_rfl) (by kernel_rfl) (fun _ _ _ h => h) (Or.inr ⟨by rfl, rfl⟩) (by assumption) ?_
    try simp only [Act.put, List.setIfInBounds_toArray, List.set_cons_zero, List.set_cons_succ]
    refine wpAnyH_take (i := 10) (v := undef) (by simp only [List.getElem?_toArray, List.getElem?_cons_succ, List.getElem?_cons_zero]; exact rfl) (by kernel_rfl) (by kernel_rfl) (by kernel_rfl) (fun _ _ _ h => h) (Or.inr ⟨by rfl, rfl⟩) (by assumption) ?_
    try simp only [Act.put, List.setIfInBounds_toArray, List.set_cons_zero, List.set_cons_succ]
    refine wpAnyH_take (i := 11) (v := undef) (by simp only [List.getElem?_toArray, List.getElem?_cons_succ, List.getElem?_cons_zero]; exact rfl) (by kernel_rfl) (by kernel_rfl) (by kernel_rfl) (fun _ _ _ h => h) (Or.inr ⟨by rfl, rfl⟩) (by assumption) ?_
    try simp only [Act.put, List.setIfInBounds_toArray, List.set_cons_zero, List.set_cons_succ]
    refine wpAnyH_take (i := 12) (v := undef) (by simp only [List.getElem?_toArray, List.getElem?_cons_succ, List.getElem?_cons_zero]; exact rfl) (by kernel_rfl) (by kernel_rfl) (by kernel_rfl) (fun _ _ _ h => h) (Or.inr ⟨by rfl, rfl⟩) (by assumption) ?_
    try simp only [Act.put, List.setIfInBounds_toArray, List.set_cons_zero, List.set_cons_succ]
    refine wpAnyH_take (i := 13) (v := undef) (by simp only [List.getElem?_toArray, List.getElem?_cons_succ, List.getElem?_cons_zero]; exact rfl) (by kernel_rfl) (by kernel_rfl) (by kernel_rfl) (fun _ _ _ h => h) (Or.inr ⟨by rfl, rfl⟩) (by assumption) ?_
    try simp only [Act.put, List.setIfInBounds_toArray, List.set_cons_zero, List.set_cons_succ]
    refine wpAnyH_take (i := 14) (v := ?_) (by simp only [List.getElem?_toArray, List.getElem?_cons_succ, List.getElem?_cons_zero]; exact rfl) (by kernel_rfl) (by kernel_rfl) (by kernel_rfl) (fun _ _ _ h => h) (Or.inl ⟨by rfl, ?_⟩) (by assumption) ?_
    rotate_left 1
    · (intro w hSw; (try dsimp only at hSw); go_simp; try with_reducible rfl)
    try simp only [Act.put, List.setIfInBounds_toArray, List.set_cons_zero, List.set_cons_succ]
    refine wpAnyH_done (by kernel_rfl) ?_ _
    refine NoPanic.normal ?_
    clear hHeld
    go_wp2
    go_ret
    exact ⟨_, rfl, by rw [← hbw]; exact HG2.out, HG3.out, (HG1.out.of_below (Below.refl _ _).drew).congr (fun i _ => by unfold stB; rw [HNO.out]; rfl), by rw [← hbw]; exact HB2.out.drew⟩
end Go.Proofs.YtkfceloaomlhmaaDoor
/- Arguments that are arrays of four ints, in the walks' words. -/
set_option maxRecDepth 100000
namespace Go.Proofs.YtkfceloaomlhmaaDoor
open Go Go.ChangeShapes Go.WideShapes Go.ChangeAt Go.RowKit
attribute [-go_sem] Sha.exec_store

theorem undArr4 : Tryd.prog.underlying 34 = some (.array 4 3) := by kernel_rfl
theorem cellsArr4 : Tryd.prog.cellsOf 34 = 4 := by kernel_rfl
theorem undInt4 : Tryd.prog.underlying 3 = some (.int .i64) := by kernel_rfl
theorem cellsInt4 : Tryd.prog.cellsOf 3 = 1 := by kernel_rfl
/-- An argument that is an array of four ints. -/
theorem open_arr4 {H : Type} {enc : TypeId × Value → H} {W : World} {r : _root_.Go.Reach} {b0 : Nat} {v : Value} {d : DataW H} {ps : List MemPlace} (hval : Value.okWide Tryd.prog W r b0 34 v)
    (h : DataW.Trod enc Tryd.prog W 0 (fun _ => true) true 34 v d ps) : ∃ a b c e : Int, v = .agg #[.int .i64 a, .int .i64 b, .int .i64 c, .int .i64 e] ∧ ps = [] ∧ (Lit.int .i64 a).wf = true ∧ (Lit.int .i64 b).wf = true ∧ (Lit.int .i64 c).wf = true ∧ (Lit.int .i64 e).wf = true := by
  simp only [Value.okWide, undArr4] at hval
  obtain ⟨cs, rfl, hsz, -⟩ := hval
  rw [cellsArr4] at hsz
  obtain ⟨fuel, hf⟩ := h
  obtain ⟨xs, m, -, hx, hl, hn, hi⟩ := DataW.trod_array undArr4 hf
  rw [cellsInt4] at hi
  have hc : ((Value.agg cs).cells.toList) = cs.toList := rfl
  rw [hc] at hi
  obtain ⟨l⟩ := cs
  match l, hsz with
  | [u0, u1, u2, u3], _ =>
    have e0 := hi 0 (by decide)
    have e1 := hi 1 (by decide)
    have e2 := hi 2 (by decide)
    have e3 := hi 3 (by decide)
    simp at e0 e1 e2 e3
    match xs, hn with
    | [y0, y1, y2, y3], _ =>
      simp at e0 e1 e2 e3
      obtain ⟨a, ha, hya, hwa⟩ := DataW.trod_int undInt4 e0
      obtain ⟨b, hb, hyb, hwb⟩ := DataW.trod_int undInt4 e1
      obtain ⟨c, hcc, hyc, hwc⟩ := DataW.trod_int undInt4 e2
      obtain ⟨f, hf', hyf, hwf⟩ := DataW.trod_int undInt4 e3
      simp at ha hb hcc hf'
      subst ha hb hcc hf'
      refine ⟨a, b, c, f, rfl, ?_, hwa, hwb, hwc, hwf⟩
      simp only [Prod.mk.injEq] at hx
      rw [hx.2, hya, hyb, hyc, hyf]
      rfl
end Go.Proofs.YtkfceloaomlhmaaDoor
