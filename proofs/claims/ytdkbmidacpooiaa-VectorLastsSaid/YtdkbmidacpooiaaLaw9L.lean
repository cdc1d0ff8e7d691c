/- VectorLasts. -/
import Derived.Test.YtdkbmidacpooiaaCov9
import Derived.Test.YtdkbmidacpooiaaOwnVs9
set_option linter.unusedSimpArgs false
set_option linter.unusedVariables false
namespace Go.Proofs.Ytdkbmidacpooiaa
open Go Go.RowKit

attribute [local go_sem ↓] exec_boxA exec_loadA exec_indexA exec_allocA exec_storeA exec_buildA exec_eqlA exec_neqA exec_boxV exec_loadV exec_indexV exec_allocV exec_storeV exec_buildV exec_eqlV exec_neqV
attribute [local go_sem] boxA indexA storeNewA buildA eqlA neqA boxV indexV storeNewV buildV eqlV neqV

attribute [local go_sem ↓] exec_bsV
attribute [local go_sem] bsV1 bsV2 bsV3
theorem pushed_atL (u : World) (f : Nat → Int) : VecAt (u.alloc (.cells (tab 16 (vfs [f])) 25)) u.heap.size 0 f := fun i hi => by
  rw [Nat.zero_add, (Row.new u 25 16 (vfs [f])).cell i hi]
  unfold vfs
  rw [show i / 16 = 0 by omega, show i % 16 = i by omega]
  rfl
theorem OwnI.lower {w : World} {base b2 : Nat} {v : Value} {l : List Nat} (h : OwnI w base v l) (hb : b2 ≤ base) : OwnI w b2 v l := by
  refine ⟨h.1, ?_⟩
  rcases h.2 with h' | ⟨g, cap, cur, hv, h1, r⟩
  · exact .inl h'
  · exact .inr ⟨g, cap, cur, hv, Nat.le_trans hb h1, r⟩
set_option maxRecDepth 100000 in
set_option maxHeartbeats 16000000 in
theorem lasts_any (l : List (Nat → Int)) (p : Option Addr) (n cap : Nat) (w : World) (h : VecsAt w p n l) (hc : n ≤ cap) : Calls Try.prog 5 #[.slice p n cap] w fun e w' => e = .returned (.bool true) ∧ Below w.heap.size w w' := by
  have HAW := Lib.hid awake9
  have HL := Lib.hid h
  have HLN := Lib.hid h.len
  by_cases hbig : 20 < n
  · have z : decide ((20 : Int) < (n : Int)) = true := decide_eq_true (by omega)
    clear h
    go_enter Try.func5, Try.ntmps5
    go_wp2_with fail
    refine (HAW.out _).mono ?_
    rintro e w1 ⟨rfl, hB1⟩
    have HB1 := Lib.hid hB1
    clear hB1
    go_wp2_with fail
    refine (HAW.out _).mono ?_
    rintro e w2 ⟨rfl, hB2⟩
    have HB2 := Lib.hid (HB1.out.trans (hB2.mono HB1.out.size))
    clear hB2
    go_wp2
    go_ret
    exact ⟨rfl, HB2.out⟩
  · have z : decide ((20 : Int) < (n : Int)) = false := decide_eq_false (by omega)
    clear h
    go_enter Try.func5, Try.ntmps5
    go_wp2_with fail
    refine (HAW.out _).mono ?_
    rintro e w1 ⟨rfl, hB1⟩
    have HB1 := Lib.hid hB1
    clear hB1
    go_wp2
    go_loopw [3, 24] (fun s i wr => ∃ k : Nat, k ≤ n ∧ i = .int .i64 k ∧ OwnVs wr w.heap.size s (l.take k) ∧ Below w.heap.size w wr) (fun s i _ => n - (intOf i).toNat)
    case atStart => exact ⟨0, Nat.zero_le _, rfl, OwnVs.nil _ _, HB1.out⟩
    case round =>
      rename World => WO
      obtain ⟨k, hk, rfl, hO, hB⟩ := hrel
      obtain ⟨pv, cv, hv, hvs, hcap⟩ := hO.vecs
      have hlen : (l.take k).length = k := by rw [List.length_take]; have := HLN.out; omega
      rw [hlen] at hv hvs hcap
      subst hv
      have HO := Lib.hid hO
      have HB := Lib.hid hB
      have HLEN := Lib.hid hlen
      have HVS := Lib.hid hvs
      have HCP := Lib.hid hcap
      clear hO hlen hvs hcap
      by_cases hlt : k < n
      · have hkl : k < l.length := by rw [HLN.out]; exact hlt
        obtain ⟨c, o, rfl, hat⟩ := HL.out.at_ (by omega)
        obtain ⟨f, hf⟩ : ∃ f, l[k] = f := ⟨_, rfl⟩
        have vk := (hat k hkl).of_below hB
        rw [hf] at vk
        have l1 := loadVT vtA vk
        have HTK := Lib.hid (show l.take (k + 1) = l.take k ++ [f] by rw [List.take_succ_eq_append_getElem hkl, hf])
        have ha := (Below.refl WO.heap.size WO).alloc (Nat.le_refl _) (.cells (tab 16 (vf f)) 22)
        have HRF := Lib.hid (Row.new WO 22 16 (vf f))
        have l2 := loadVT vtA (VecAt.of_row HRF.out (Nat.le_refl _))
        have HBA := Lib.hid (HB.out.trans (ha.mono HB.out.size))
        have HOA := Lib.hid (HO.out.of_below ha)
        have HGD := Lib.hid (fun u => refGood9_any f u)
        have z1 : (k : Int) < (n : Int) := by omega
        have z2 : decide ((k : Int) < (n : Int)) = true := decide_eq_true z1
        have hw := i64l k (by omega)
        obtain ⟨gd, hgd⟩ : ∃ x, gdV f = x := ⟨_, rfl⟩
        rw [hgd] at HGD
        clear hB hat hf vk ha hgd
        go_wp2_with fail
        refine (HGD.out _).mono ?_
        rintro e w2 ⟨rfl, hB2⟩
        have HB2 := Lib.hid (HBA.out.trans (hB2.mono HBA.out.size))
        have HO2 := Lib.hid (HOA.out.of_below hB2)
        have HRF2 := Lib.hid (HRF.out.of_below hB2)
        have l3 := loadVT vtA (VecAt.of_row HRF2.out (Nat.le_refl _))
        clear hB2 l1 l2
        cases gd with
        | false =>
          go_wp2
          go_ret
          exact ⟨rfl, HB2.out⟩
        | true =>
          have hal := (Below.refl w2.heap.size w2).alloc (Nat.le_refl _) (.cells (tab 16 (vfs [f])) 25)
          have HOa := Lib.hid (HO2.out.of_below hal)
          have HBa := Lib.hid (HB2.out.trans (hal.mono HB2.out.size))
          have hNa : w.heap.size ≤ (w2.alloc (.cells (tab 16 (vfs [f])) 25)).heap.size := HBa.out.size
          clear hal
          go_wp2_with (first | (refine wpl_pushV _ rfl (.tmp 31) (.tmp 33) rfl w.heap.size (.slice pv k cv) (l.take k) rfl HOa.out w2.heap.size f rfl (pushed_atL _ _) (by rw [HLEN.out]; omega) hNa ?_; rintro p7 d7 w7 hO7 hg7; rw [HLEN.out] at hO7; have HB7 := Lib.hid (HBa.out.grown hg7 hNa (fun g hg => (HOa.out.lt g hg).1)); have HO7 := Lib.hid hO7; rw [HLEN.out]; clear hO7 hg7))
          go_roundw
          case rel => exact ⟨k + 1, by omega, by go_num, by rw [HTK.out]; exact HO7.out, HB7.out⟩
          case measure => simp [intOf]; omega
      · have z1 : ¬ (k : Int) < (n : Int) := by omega
        have z2 : decide ((k : Int) < (n : Int)) = false := decide_eq_false z1
        obtain rfl : k = n := by omega
        have hta : l.take k = l := List.take_of_length_le (by rw [HLN.out]; exact Nat.le_refl _)
        rw [hta] at HVS
        have HLA := Lib.hid (last_any l pv k cv WO HVS.out (by omega) HCP.out)
        have HLV := Lib.hid (fun (u : World) (hu : Below w.heap.size w u) => HL.out.of_below hu)
        clear hB hta
        go_wp2_with fail
        refine HLA.out.mono ?_
        rintro e w2 ⟨v1, rfl, hO1, hB2⟩
        have HB2 := Lib.hid (HB.out.trans (hB2.mono HB.out.size))
        have HLR := Lib.hid (refLast_any l p k cap w2 (HLV.out _ HB2.out) (by omega))
        obtain ⟨m, hm⟩ : ∃ m, (lastL l).length = m := ⟨_, rfl⟩
        have hmk : m ≤ k := by rw [← hm]; have := lastTo_len l l.length; rw [HLN.out] at this; unfold lastL; rw [HLN.out]; exact this
        have HO1 := Lib.hid hO1
        have HM := Lib.hid hm
        clear hB2 hO1 hm
        go_wp2_with fail
        refine HLR.out.mono ?_
        rintro e w3 ⟨v2, rfl, hO2, hB3⟩
        have HB3 := Lib.hid (HB2.out.trans (hB3.mono HB2.out.size))
        obtain ⟨q1, e1, hv1, hc1⟩ := (HO1.out.of_below hB3).cells
        obtain ⟨q2, e2, hv2, hc2⟩ := hO2.cells
        rw [HM.out] at hv1 hc1 hv2 hc2
        subst hv1
        subst hv2
        have HC1 := Lib.hid (fun (u : World) (hu : Below w3.heap.size w3 u) j (hj : j < m) => (by
          obtain ⟨g, e, x⟩ := hc1 j hj
          exact ⟨g, e, (hu.cell (p := ⟨g, j, none⟩) (World.block_lt_of_cell? w3 _ x)).trans x⟩ : ∃ g, q1 = some ⟨g, 0, none⟩ ∧ u.cell? ⟨g, j, none⟩ = some (.int .i64 (((lastL l).getD j 0 : Nat) : Int))))
        have HC2 := Lib.hid (fun (u : World) (hu : Below w3.heap.size w3 u) j (hj : j < m) => (by
          obtain ⟨g, e, x⟩ := hc2 j hj
          exact ⟨g, e, (hu.cell (p := ⟨g, j, none⟩) (World.block_lt_of_cell? w3 _ x)).trans x⟩ : ∃ g, q2 = some ⟨g, 0, none⟩ ∧ u.cell? ⟨g, j, none⟩ = some (.int .i64 (((lastL l).getD j 0 : Nat) : Int))))
        clear hB3 hO2 hc1 hc2
        go_wp2
        go_loopw [47] (fun i wr => ∃ j : Nat, j ≤ m ∧ i = .int .i64 j ∧ Below w3.heap.size w3 wr) (fun i _ => m - (intOf i).toNat)
        case atStart => exact ⟨0, Nat.zero_le _, rfl, Below.refl _ _⟩
        case round =>
          obtain ⟨j, hj, rfl, hBQ⟩ := hrel
          have HBQ := Lib.hid hBQ
          by_cases hjt : j < m
          · obtain ⟨g1, rfl, x1⟩ := HC1.out _ hBQ j hjt
            obtain ⟨g2, rfl, x2⟩ := HC2.out _ hBQ j hjt
            obtain ⟨xx, hxx⟩ : ∃ x, (lastL l).getD j 0 = x := ⟨_, rfl⟩
            rw [hxx] at x1 x2
            have y1 : (j : Int) < (m : Int) := by omega
            have y2 : decide ((j : Int) < (m : Int)) = true := decide_eq_true y1
            have hw2 := i64l j (by omega)
            clear hBQ hxx
            go_wp2
            go_quiet (fail)
            go_wp2
            go_roundw
            case rel => exact ⟨j + 1, by omega, by go_num, below_drewN HBQ.out _⟩
            case measure => simp [intOf]; omega
          · have y1 : ¬ (j : Int) < (m : Int) := by omega
            have y2 : decide ((j : Int) < (m : Int)) = false := decide_eq_false y1
            clear hBQ
            go_wp2
            go_loopw [62] (fun i wr => ∃ t : Nat, t ≤ k ∧ i = .int .i64 t ∧ Below w3.heap.size w3 wr) (fun i _ => k - (intOf i).toNat)
            case atStart => exact ⟨0, Nat.zero_le _, rfl, HBQ.out⟩
            case round =>
              clear HBQ
              rename World => WO
              obtain ⟨t, ht, rfl, hBT⟩ := hrel
              have HBT := Lib.hid hBT
              by_cases htk : t < k
              · have htl : t < l.length := by rw [HLN.out]; exact htk
                obtain ⟨c, o, rfl, hat⟩ := HL.out.at_ (by omega)
                obtain ⟨f, hf⟩ : ∃ f, l[t] = f := ⟨_, rfl⟩
                have hbw := HB3.out.trans (hBT.mono HB3.out.size)
                have vk := (hat t htl).of_below hbw
                rw [hf] at vk
                have l1 := loadVT vtA vk
                have HFT := Lib.hid (show atL l t = f by unfold atL; rw [List.getD_eq_getElem?_getD, List.getElem?_eq_getElem htl]; exact hf)
                have ha := (Below.refl WO.heap.size WO).alloc (Nat.le_refl _) (.cells (tab 16 (vf f)) 22)
                have HRF := Lib.hid (Row.new WO 22 16 (vf f))
                have HBA := Lib.hid ha
                have HBW := Lib.hid hbw
                have HAT := Lib.hid hat
                have z1 : (t : Int) < (k : Int) := by omega
                have z2 : decide ((t : Int) < (k : Int)) = true := decide_eq_true z1
                have hw3 := i64l t (by omega)
                clear hBT hat hf vk ha hbw
                go_wp2
                go_loopw [11, 68] (fun s i wr => ∃ j : Nat, j ≤ m ∧ i = .int .i64 j ∧ s = .bool (covTo l t j) ∧ Row wr WO.heap.size 22 16 (vf f) ∧ Below WO.heap.size WO wr) (fun s i _ => m - (intOf i).toNat)
                case atStart => exact ⟨0, Nat.zero_le _, rfl, rfl, HRF.out, HBA.out⟩
                case round =>
                  clear HRF HBA l1
                  obtain ⟨j, hj, rfl, rfl, hR, hBQ⟩ := hrel
                  have HR := Lib.hid hR
                  have HBQ := Lib.hid hBQ
                  have HB3Q := Lib.hid (HBT.out.trans (hBQ.mono HBT.out.size))
                  by_cases hjt2 : j < m
                  · obtain ⟨g1, rfl, x1⟩ := HC1.out _ HB3Q.out j hjt2
                    obtain ⟨x, hx⟩ : ∃ x, (lastL l).getD j 0 = x := ⟨_, rfl⟩
                    have hxl : x < l.length := by rw [← hx]; exact last_lt l j (by rw [HM.out]; exact hjt2)
                    have hxk : x < k := by rw [← HLN.out]; exact hxl
                    obtain ⟨g, hg⟩ : ∃ g, l[x] = g := ⟨_, rfl⟩
                    have hsu := covTo_succ l t j (by rw [HM.out]; exact hjt2)
                    rw [hx] at x1 hsu
                    have hgx : atL l x = g := by unfold atL; rw [List.getD_eq_getElem?_getD, List.getElem?_eq_getElem hxl]; exact hg
                    rw [hgx, HFT.out] at hsu
                    have HCV := Lib.hid (fun u => refCovers_any g f u)
                    obtain ⟨cg, hcg⟩ : ∃ q, cvV g f = q := ⟨_, rfl⟩
                    rw [hcg] at HCV hsu
                    obtain ⟨tk, htk2⟩ : ∃ q, covTo l t j = q := ⟨_, rfl⟩
                    rw [htk2] at hsu ⊢
                    have HS := Lib.hid (fun (u : World) (hu : Below wr.heap.size wr u) => (⟨by have hq := loadVT vtA ((HAT.out x hxl).of_below ((HB3.out.trans (HB3Q.out.mono HB3.out.size)).trans (hu.mono (HB3.out.trans (HB3Q.out.mono HB3.out.size)).size))); rw [hg] at hq; exact hq, loadVT vtA (VecAt.of_row (HR.out.of_below hu) (Nat.le_refl _)), hu⟩ : (ldT 22 (.pointer (some ⟨c, o + x * 16, none⟩))).run Try.prog u = .ok (.value (vcV g)) u ∧ (ldT 22 (.pointer (some ⟨WO.heap.size, 0, none⟩))).run Try.prog u = .ok (.value (vcV f)) u ∧ Below wr.heap.size wr u))
                    have HSU := Lib.hid hsu
                    have v1 : (j : Int) < (m : Int) := by omega
                    have v2 : decide ((j : Int) < (m : Int)) = true := decide_eq_true v1
                    have v3 : (x : Int) < (k : Int) := by omega
                    have hw4 := i64l j (by omega)
                    clear hR hBQ hx hxl hg hsu hgx hcg htk2
                    cases tk with
                    | true =>
                      go_wp2_with fail
                      refine wp_region_noPanic ?_
                      refine wp_region_held_drew (S := (fun u : World => (ldT 22 (.pointer (some ⟨c, o + x * 16, none⟩))).run Try.prog u = .ok (.value (vcV g)) u ∧ (ldT 22 (.pointer (some ⟨WO.heap.size, 0, none⟩))).run Try.prog u = .ok (.value (vcV f)) u ∧ Below wr.heap.size wr u)) (by kernel_rfl) (HS.out _ (Below.refl _ _).drew) (fun hHeld => ?_)
                      refine wpAnyH_take (i := 0) (v := ?_) (by simp only [List.getElem?_toArray, List.getElem?_cons_succ, List.getElem?_cons_zero]; exact rfl) (by kernel_rfl) (by kernel_rfl) (by kernel_rfl) (fun _ _ _ h => h) (Or.inl ⟨by rfl, ?_⟩) (by assumption) ?_
                      rotate_left 1
                      · (intro w hSw; (try dsimp only at hSw); go_simp; try with_reducible rfl)
                      try simp only [Act.put, List.setIfInBounds_toArray, List.set_cons_zero, List.set_cons_succ]
                      refine wpAnyH_take (i := 1) (v := ?_) (by simp only [List.getElem?_toArray, List.getElem?_cons_succ, List.getElem?_cons_zero]; exact rfl) (by kernel_rfl) (by kernel_rfl) (by kernel_rfl) (fun _ _ _ h => h) (Or.inl ⟨by rfl, ?_⟩) (by assumption) ?_
                      rotate_left 1
                      · (intro w hSw; (try dsimp only at hSw); go_simp; try with_reducible rfl)
                      try simp only [Act.put, List.setIfInBounds_toArray, List.set_cons_zero, List.set_cons_succ]
                      refine wpAnyH_take (i := 2) (v := undef) (by simp only [List.getElem?_toArray, List.getElem?_cons_succ, List.getElem?_cons_zero]; exact rfl) (by kernel_rfl) (by kernel_rfl) (by kernel_rfl) (fun _ _ _ h => h) (Or.inr ⟨by rfl, rfl⟩) (by assumption) ?_
                      try simp only [Act.put, List.setIfInBounds_toArray, List.set_cons_zero, List.set_cons_succ]
                      refine wpAnyH_take (i := 3) (v := undef) (by simp only [List.getElem?_toArray, List.getElem?_cons_succ, List.getElem?_cons_zero]; exact rfl) (by kernel_rfl) (by kernel_rfl) (by kernel_rfl) (fun _ _ _ h => h) (Or.inr ⟨by rfl, rfl⟩) (by assumption) ?_
                      try simp only [Act.put, List.setIfInBounds_toArray, List.set_cons_zero, List.set_cons_succ]
                      refine wpAnyH_take (i := 4) (v := undef) (by simp only [List.getElem?_toArray, List.getElem?_cons_succ, List.getElem?_cons_zero]; exact rfl) (by kernel_rfl) (by kernel_rfl) (by kernel_rfl) (fun _ _ _ h => h) (Or.inr ⟨by rfl, rfl⟩) (by assumption) ?_
                      try simp only [Act.put, List.setIfInBounds_toArray, List.set_cons_zero, List.set_cons_succ]
                      refine wpAnyH_take (i := 5) (v := undef) (by simp only [List.getElem?_toArray, List.getElem?_cons_succ, List.getElem?_cons_zero]; exact rfl) (by kernel_rfl) (by kernel_rfl) (by kernel_rfl) (fun _ _ _ h => h) (Or.inr ⟨by rfl, rfl⟩) (by assumption) ?_
                      try simp only [Act.put, List.setIfInBounds_toArray, List.set_cons_zero, List.set_cons_succ]
                      refine wpAnyH_take (i := 6) (v := undef) (by simp only [List.getElem?_toArray, List.getElem?_cons_succ, List.getElem?_cons_zero]; exact rfl) (by kernel_rfl) (by kernel_rfl) (by kernel_rfl) (fun _ _ _ h => h) (Or.inr ⟨by rfl, rfl⟩) (by assumption) ?_
                      try simp only [Act.put, List.setIfInBounds_toArray, List.set_cons_zero, List.set_cons_succ]
                      refine wpAnyH_take (i := 7) (v := undef) (by simp only [List.getElem?_toArray, List.getElem?_cons_succ, List.getElem?_cons_zero]; exact rfl) (by kernel_rfl) (by kernel_rfl) (by kernel_rfl) (fun _ _ _ h => h) (Or.inr ⟨by rfl, rfl⟩) (by assumption) ?_
                      try simp only [Act.put, List.setIfInBounds_toArray, List.set_cons_zero, List.set_cons_succ]
                      refine wpAnyH_take (i := 8) (v := ?_) (by simp only [List.getElem?_toArray, List.getElem?_cons_succ, List.getElem?_cons_zero]; exact rfl) (by kernel_rfl) (by kernel_rfl) (by kernel_rfl) (fun _ _ _ h => h) (Or.inl ⟨by rfl, ?_⟩) (by assumption) ?_
                      rotate_left 1
                      · (intro w hSw; (try dsimp only at hSw); go_simp; try with_reducible rfl)
                      try simp only [Act.put, List.setIfInBounds_toArray, List.set_cons_zero, List.set_cons_succ]
                      refine wpAnyH_take (i := 9) (v := ?_) (by simp only [List.getElem?_toArray, List.getElem?_cons_succ, List.getElem?_cons_zero]; exact rfl) (by kernel_rfl) (by kernel_rfl) (by kernel_rfl) (fun _ _ _ h => h) (Or.inl ⟨by rfl, ?_⟩) (by assumption) ?_
                      rotate_left 1
                      · (intro w hSw; (try dsimp only at hSw); go_simp; try with_reducible rfl)
                      try simp only [Act.put, List.setIfInBounds_toArray, List.set_cons_zero, List.set_cons_succ]
                      refine wpAnyH_done (by kernel_rfl) ?_ _
                      refine NoPanic.normal ?_
                      go_wp2
                      go_roundw
                      case rel => exact ⟨j + 1, by omega, by go_num, by rw [HSU.out]; rfl, HR.out.of_below hHeld.2.2, HBQ.out.trans (hHeld.2.2.mono HBQ.out.size)⟩
                      case measure => simp [intOf]; omega
                    | false =>
                      go_wp2_with fail
                      refine wp_region_noPanic ?_
                      refine wp_region_held_drew (S := (fun u : World => (ldT 22 (.pointer (some ⟨c, o + x * 16, none⟩))).run Try.prog u = .ok (.value (vcV g)) u ∧ (ldT 22 (.pointer (some ⟨WO.heap.size, 0, none⟩))).run Try.prog u = .ok (.value (vcV f)) u ∧ Below wr.heap.size wr u)) (by kernel_rfl) (HS.out _ (Below.refl _ _).drew) (fun hHeld => ?_)
                      refine wpAnyH_take (i := 0) (v := ?_) (by simp only [List.getElem?_toArray, List.getElem?_cons_succ, List.getElem?_cons_zero]; exact rfl) (by kernel_rfl) (by kernel_rfl) (by kernel_rfl) (fun _ _ _ h => h) (Or.inl ⟨by rfl, ?_⟩) (by assumption) ?_
                      rotate_left 1
                      · (intro w hSw; (try dsimp only at hSw); go_simp; try with_reducible rfl)
                      try simp only [Act.put, List.setIfInBounds_toArray, List.set_cons_zero, List.set_cons_succ]
                      refine wpAnyH_take (i := 1) (v := ?_) (by simp only [List.getElem?_toArray, List.getElem?_cons_succ, List.getElem?_cons_zero]; exact rfl) (by kernel_rfl) (by kernel_rfl) (by kernel_rfl) (fun _ _ _ h => h) (Or.inl ⟨by rfl, ?_⟩) (by assumption) ?_
                      rotate_left 1
                      · (intro w hSw; (try dsimp only at hSw); go_simp; try with_reducible rfl)
                      try simp only [Act.put, List.setIfInBounds_toArray, List.set_cons_zero, List.set_cons_succ]
                      refine wpAnyH_take (i := 2) (v := ?_) (by simp only [List.getElem?_toArray, List.getElem?_cons_succ, List.getElem?_cons_zero]; exact rfl) (by kernel_rfl) (by kernel_rfl) (by kernel_rfl) (fun _ _ _ h => h) (Or.inl ⟨by rfl, ?_⟩) (by assumption) ?_
                      rotate_left 1
                      · (intro w hSw; (try dsimp only at hSw); go_simp; try with_reducible rfl)
                      try simp only [Act.put, List.setIfInBounds_toArray, List.set_cons_zero, List.set_cons_succ]
                      refine wpAnyH_take (i := 3) (v := ?_) (by simp only [List.getElem?_toArray, List.getElem?_cons_succ, List.getElem?_cons_zero]; exact rfl) (by kernel_rfl) (by kernel_rfl) (by kernel_rfl) (fun _ _ _ h => h) (Or.inl ⟨by rfl, ?_⟩) (by assumption) ?_
                      rotate_left 1
                      · (intro w hSw; (try dsimp only at hSw); go_simp; try with_reducible rfl)
                      try simp only [Act.put, List.setIfInBounds_toArray, List.set_cons_zero, List.set_cons_succ]
                      refine wpAnyH_take (i := 4) (v := ?_) (by simp only [List.getElem?_toArray, List.getElem?_cons_succ, List.getElem?_cons_zero]; exact rfl) (by kernel_rfl) (by kernel_rfl) (by kernel_rfl) (fun _ _ _ h => h) (Or.inl ⟨by rfl, ?_⟩) (by assumption) ?_
                      rotate_left 1
                      · (intro w hSw; (try dsimp only at hSw); go_simp; try with_reducible rfl)
                      try simp only [Act.put, List.setIfInBounds_toArray, List.set_cons_zero, List.set_cons_succ]
                      refine wpAnyH_take (i := 5) (v := ?_) (by simp only [List.getElem?_toArray, List.getElem?_cons_succ, List.getElem?_cons_zero]; exact rfl) (by kernel_rfl) (by kernel_rfl) (by kernel_rfl) (fun _ _ _ h => h) (Or.inl ⟨by rfl, ?_⟩) (by assumption) ?_
                      rotate_left 1
                      · (intro w hSw; (try dsimp only at hSw); go_simp; try with_reducible rfl)
                      try simp only [Act.put, List.setIfInBounds_toArray, List.set_cons_zero, List.set_cons_succ]
                      refine wpAnyH_take (i := 6) (v := ?_) (by simp only [List.getElem?_toArray, List.getElem?_cons_succ, List.getElem?_cons_zero]; exact rfl) (by kernel_rfl) (by kernel_rfl) (by kernel_rfl) (fun _ _ _ h => h) (Or.inl ⟨by rfl, ?_⟩) (by assumption) ?_
                      rotate_left 1
                      · (intro w hSw; (try dsimp only at hSw); go_simp; try with_reducible rfl)
                      try simp only [Act.put, List.setIfInBounds_toArray, List.set_cons_zero, List.set_cons_succ]
                      refine wpAnyH_ready (rs := [7]) (by kernel_rfl) (by simp) ?_
                      refine (AllReadyH.cons (by simp only [List.getElem?_toArray, List.getElem?_cons_succ, List.getElem?_cons_zero]; exact rfl) (fun K hK => ?_) AllReadyH.nil)
                      go_simp
                      refine (HCV.out _).mono ?_
                      rintro e vW ⟨rfl, hB⟩
                      go_wp2_with fail
                      refine hK.out _ _ (HS.out _ (hHeld.2.2.trans (hB.mono hHeld.2.2.size))) (fun hHeld => ?_)
                      clear hK K
                      try simp only [Act.put, List.setIfInBounds_toArray, List.set_cons_zero, List.set_cons_succ]
                      refine wpAnyH_take (i := 8) (v := ?_) (by simp only [List.getElem?_toArray, List.getElem?_cons_succ, List.getElem?_cons_zero]; exact rfl) (by kernel_rfl) (by kernel_rfl) (by kernel_rfl) (fun _ _ _ h => h) (Or.inl ⟨by rfl, ?_⟩) (by assumption) ?_
                      rotate_left 1
                      · (intro w hSw; (try dsimp only at hSw); go_simp; try with_reducible rfl)
                      try simp only [Act.put, List.setIfInBounds_toArray, List.set_cons_zero, List.set_cons_succ]
                      refine wpAnyH_take (i := 9) (v := ?_) (by simp only [List.getElem?_toArray, List.getElem?_cons_succ, List.getElem?_cons_zero]; exact rfl) (by kernel_rfl) (by kernel_rfl) (by kernel_rfl) (fun _ _ _ h => h) (Or.inl ⟨by rfl, ?_⟩) (by assumption) ?_
                      rotate_left 1
                      · (intro w hSw; (try dsimp only at hSw); go_simp; try with_reducible rfl)
                      try simp only [Act.put, List.setIfInBounds_toArray, List.set_cons_zero, List.set_cons_succ]
                      refine wpAnyH_done (by kernel_rfl) ?_ _
                      refine NoPanic.normal ?_
                      go_wp2
                      go_roundw
                      case rel => exact ⟨j + 1, by omega, by go_num, by rw [HSU.out]; rfl, HR.out.of_below hHeld.2.2, HBQ.out.trans (hHeld.2.2.mono HBQ.out.size)⟩
                      case measure => simp [intOf]; omega
                  · have v1 : ¬ (j : Int) < (m : Int) := by omega
                    have v2 : decide ((j : Int) < (m : Int)) = false := decide_eq_false v1
                    rw [show covTo l t j = true by rw [show j = (lastL l).length by rw [HM.out]; omega]; exact covTo_all l t htl]
                    clear hR hBQ
                    go_wp2
                    go_roundw
                    case rel => exact ⟨t + 1, by omega, by go_num, HB3Q.out⟩
                    case measure => simp [intOf]; omega
              · have z1 : ¬ (t : Int) < (k : Int) := by omega
                have z2 : decide ((t : Int) < (k : Int)) = false := decide_eq_false z1
                clear hBT
                go_wp2
                go_ret
                exact ⟨rfl, HB3.out.trans (HBT.out.mono HB3.out.size)⟩
end Go.Proofs.Ytdkbmidacpooiaa
