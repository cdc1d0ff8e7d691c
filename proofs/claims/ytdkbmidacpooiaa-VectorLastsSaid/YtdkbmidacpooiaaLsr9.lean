/- Last of the reference. -/
import Derived.Test.YtdkbmidacpooiaaLst9
import Derived.Deep.RegionHeld3
set_option linter.unusedSimpArgs false
set_option linter.unusedVariables false
namespace Go.Proofs.Ytdkbmidacpooiaa
open Go Go.RowKit

attribute [local go_sem ↓] exec_boxA exec_loadA exec_indexA exec_allocA exec_storeA exec_buildA exec_eqlA exec_neqA exec_boxV exec_loadV exec_indexV exec_allocV exec_storeV exec_buildV exec_eqlV exec_neqV
attribute [local go_sem] boxA indexA storeNewA buildA eqlA neqA boxV indexV storeNewV buildV eqlV neqV

attribute [local go_sem ↓] exec_bs exec_bsV
attribute [local go_sem] bs1I
/-- Is number k kept so far, up to place j? -/
def okTo (l : List (Nat → Int)) (k j : Nat) : Bool := (List.range j).all fun q => !behindL l k q
theorem okTo_succ (l : List (Nat → Int)) (k j : Nat) : okTo l k (j + 1) = (okTo l k j && !behindL l k j) := by
  unfold okTo
  rw [List.range_succ, List.all_append]
  simp
set_option maxRecDepth 100000 in
set_option maxHeartbeats 8000000 in
theorem refLast_any (l : List (Nat → Int)) (p : Option Addr) (n cap : Nat) (w : World) (h : VecsAt w p n l) (hn : n ≤ 100) : Calls Try.prog 18 #[.slice p n cap] w fun e w' => ∃ v, e = .returned v ∧ OwnI w' w.heap.size v (lastL l) ∧ Below w.heap.size w w' := by
  have HL := Lib.hid h
  have HLN := Lib.hid h.len
  clear h
  go_enter Try.func18, Try.ntmps18
  go_wp2
  go_loopw [3, 10] (fun s i wr => ∃ k : Nat, k ≤ n ∧ i = .int .i64 k ∧ OwnI wr w.heap.size s (lastTo l k) ∧ Below w.heap.size w wr) (fun s i _ => n - (intOf i).toNat)
  case atStart => exact ⟨0, Nat.zero_le _, rfl, OwnI.nil _ _, Below.refl _ _⟩
  case round =>
    rename World => WO
    obtain ⟨k, hk, rfl, hO, hB⟩ := hrel
    obtain ⟨pv, cv, hv, -⟩ := hO.cells
    obtain ⟨len, hlen⟩ : ∃ len, (lastTo l k).length = len := ⟨_, rfl⟩
    have hlk : len ≤ k := by rw [← hlen]; exact lastTo_len l k
    rw [hlen] at hv
    subst hv
    have HLEN := Lib.hid hlen
    have HO := Lib.hid hO
    have HB := Lib.hid hB
    clear hO hlen hB
    by_cases hlt : k < n
    · have hkl : k < l.length := by rw [HLN.out]; exact hlt
      obtain ⟨c, o, rfl, hat⟩ := HL.out.at_ (by omega)
      have HAT := Lib.hid (fun (u : World) (hu : Below w.heap.size w u) i (hi : i < l.length) => (hat i hi).of_below hu)
      obtain ⟨f, hf⟩ : ∃ f, l[k] = f := ⟨_, rfl⟩
      have HF := Lib.hid hf
      have HFK := Lib.hid (show l.getD k (fun _ => 0) = f by rw [List.getD_eq_getElem?_getD, List.getElem?_eq_getElem hkl]; exact hf)
      have z1 : (k : Int) < (n : Int) := by omega
      have z2 : decide ((k : Int) < (n : Int)) = true := decide_eq_true z1
      have hw := i64l k (by omega)
      clear hat hf
      go_wp2
      go_loopw [5, 15] (fun t i2 wq => ∃ j : Nat, j ≤ n ∧ i2 = .int .i64 j ∧ t = .bool (okTo l k j) ∧ Below WO.heap.size WO wq) (fun t i2 _ => n - (intOf i2).toNat)
      case atStart => exact ⟨0, Nat.zero_le _, rfl, rfl, Below.refl _ _⟩
      case round =>
        obtain ⟨j, hj, rfl, rfl, hBQ⟩ := hrel
        have HBQ := Lib.hid hBQ
        have HBW := Lib.hid (HB.out.trans (hBQ.mono HB.out.size))
        obtain ⟨tk, htk⟩ : ∃ t, okTo l k j = t := ⟨_, rfl⟩
        rw [htk]
        have HTK := Lib.hid htk
        clear htk
        by_cases hjt : j < n
        · have hjl : j < l.length := by rw [HLN.out]; exact hjt
          obtain ⟨g, hg⟩ : ∃ g, l[j] = g := ⟨_, rfl⟩
          have hgj : l.getD j (fun _ => 0) = g := by rw [List.getD_eq_getElem?_getD, List.getElem?_eq_getElem hjl]; exact hg
          have HS := Lib.hid (fun (u : World) (hu : Below wr.heap.size wr u) => (⟨by have := loadVT vtA (HAT.out u (HBW.out.trans (hu.mono HBW.out.size)) k hkl); rw [HF.out] at this; exact this, by have := loadVT vtA (HAT.out u (HBW.out.trans (hu.mono HBW.out.size)) j hjl); rw [hg] at this; exact this, hu⟩ : (ldT 22 (.pointer (some ⟨c, o + k * 16, none⟩))).run Try.prog u = .ok (.value (vcV f)) u ∧ (ldT 22 (.pointer (some ⟨c, o + j * 16, none⟩))).run Try.prog u = .ok (.value (vcV g)) u ∧ Below wr.heap.size wr u))
          have HCM := Lib.hid (fun u => refCompare_any f g u)
          have hbh : behindL l k j = (cmpV f g == -1 || (cmpV f g == 0 && decide (j < k))) := by unfold behindL; rw [HFK.out, hgj]
          have hfour := cmpV_four f g
          obtain ⟨cc, hcc⟩ : ∃ cc, cmpV f g = cc := ⟨_, rfl⟩
          rw [hcc] at HCM hbh hfour
          have y1 : (j : Int) < (n : Int) := by omega
          have y2 : decide ((j : Int) < (n : Int)) = true := decide_eq_true y1
          have hw2 := i64l j (by omega)
          have y3 : (k : Int) < (n : Int) := by omega
          have hsu := okTo_succ l k j
          rw [HTK.out] at hsu
          clear hBQ hg hgj hcc
          by_cases hjk : j < k
          · have u1 : (j : Int) < (k : Int) := by omega
            have u2 : decide ((j : Int) < (k : Int)) = true := decide_eq_true u1
            have u3 : decide (j < k) = true := decide_eq_true hjk
            rw [u3] at hbh
            rcases hfour with e | e | e | e <;> subst e <;> (
              rw [hbh] at hsu
              have HBN := Lib.hid hsu
              clear hsu hbh
              cases tk <;> (
                go_wp2_with fail
                refine wp_region_noPanic ?_
                refine wp_region_held_drew (S := (fun u : World => (ldT 22 (.pointer (some ⟨c, o + k * 16, none⟩))).run Try.prog u = .ok (.value (vcV f)) u ∧ (ldT 22 (.pointer (some ⟨c, o + j * 16, none⟩))).run Try.prog u = .ok (.value (vcV g)) u ∧ Below wr.heap.size wr u)) (by kernel_rfl) (HS.out _ (Below.refl _ _).drew) (fun hHeld => ?_)
                refine wpAnyH_take (i := 0) (v := ?_) (by simp only [List.getElem?_toArray, List.getElem?_cons_succ, List.getElem?_cons_zero]; exact rfl) (by kernel_rfl) (by kernel_rfl) (by kernel_rfl) (fun _ _ _ h => h) (Or.inl ⟨by rfl, ?_⟩) (by assumption) ?_
                rotate_left 1
                · (intro w hSw; (try dsimp only at hSw); go_simp; try with_reducible rfl)
                try simp only [Act.put, List.setIfInBounds_toArray, List.set_cons_zero, List.set_cons_succ]
                refine wpAnyH_take (i := 1) (v := ?_) (by simp only [List.getElem?_toArray, List.getElem?_cons_succ, List.getElem?_cons_zero]; exact rfl) (by kernel_rfl) (by kernel_rfl) (by kernel_rfl) (fun _ _ _ h => h) (Or.inl ⟨by rfl, ?_⟩) (by assumption) ?_
                rotate_left 1
                · (intro w hSw; (try dsimp only at hSw); go_simp; try with_reducible rfl)
                try simp only [Act.put, List.setIfInBounds_toArray, List.set_cons_zero, List.set_cons_succ]
                refine wpAnyH_take (i := 2) (v := ?_) (by simp only [List.getElem?_toArray, List.getElem?_cons_succ, List.getElem?_cons_zero]; exact rfl) (by kernel_rfl) (by kernel_rfl) (by kernel_rfl) (fun _ _ _ h => h) (Or.inl ⟨by rfl, ?_⟩) (by assumption) ?_
                rotate_left 1
                · (intro w hSw; (try dsimp only at hSw); go_simp; try with_reducible rfl)
                try simp only [Act.put, List.setIfInBounds_toArray, List.set_cons_zero, List.set_cons_succ]
                refine wpAnyH_take (i := 3) (v := ?_) (by simp only [List.getElem?_toArray, List.getElem?_cons_succ, List.getElem?_cons_zero]; exact rfl) (by kernel_rfl) (by kernel_rfl) (by kernel_rfl) (fun _ _ _ h => h) (Or.inl ⟨by rfl, ?_⟩) (by assumption) ?_
                rotate_left 1
                · (intro w hSw; (try dsimp only at hSw); go_simp; try with_reducible rfl)
                try simp only [Act.put, List.setIfInBounds_toArray, List.set_cons_zero, List.set_cons_succ]
                refine wpAnyH_take (i := 4) (v := ?_) (by simp only [List.getElem?_toArray, List.getElem?_cons_succ, List.getElem?_cons_zero]; exact rfl) (by kernel_rfl) (by kernel_rfl) (by kernel_rfl) (fun _ _ _ h => h) (Or.inl ⟨by rfl, ?_⟩) (by assumption) ?_
                rotate_left 1
                · (intro w hSw; (try dsimp only at hSw); go_simp; try with_reducible rfl)
                try simp only [Act.put, List.setIfInBounds_toArray, List.set_cons_zero, List.set_cons_succ]
                refine wpAnyH_take (i := 5) (v := ?_) (by simp only [List.getElem?_toArray, List.getElem?_cons_succ, List.getElem?_cons_zero]; exact rfl) (by kernel_rfl) (by kernel_rfl) (by kernel_rfl) (fun _ _ _ h => h) (Or.inl ⟨by rfl, ?_⟩) (by assumption) ?_
                rotate_left 1
                · (intro w hSw; (try dsimp only at hSw); go_simp; try with_reducible rfl)
                try simp only [Act.put, List.setIfInBounds_toArray, List.set_cons_zero, List.set_cons_succ]
                refine wpAnyH_take (i := 6) (v := ?_) (by simp only [List.getElem?_toArray, List.getElem?_cons_succ, List.getElem?_cons_zero]; exact rfl) (by kernel_rfl) (by kernel_rfl) (by kernel_rfl) (fun _ _ _ h => h) (Or.inl ⟨by rfl, ?_⟩) (by assumption) ?_
                rotate_left 1
                · (intro w hSw; (try dsimp only at hSw); go_simp; try with_reducible rfl)
                try simp only [Act.put, List.setIfInBounds_toArray, List.set_cons_zero, List.set_cons_succ]
                refine wpAnyH_take (i := 7) (v := ?_) (by simp only [List.getElem?_toArray, List.getElem?_cons_succ, List.getElem?_cons_zero]; exact rfl) (by kernel_rfl) (by kernel_rfl) (by kernel_rfl) (fun _ _ _ h => h) (Or.inl ⟨by rfl, ?_⟩) (by assumption) ?_
                rotate_left 1
                · (intro w hSw; (try dsimp only at hSw); go_simp; try with_reducible rfl)
                try simp only [Act.put, List.setIfInBounds_toArray, List.set_cons_zero, List.set_cons_succ]
                refine wpAnyH_ready (rs := [8]) (by kernel_rfl) (by simp) ?_
                refine (AllReadyH.cons (by simp only [List.getElem?_toArray, List.getElem?_cons_succ, List.getElem?_cons_zero]; exact rfl) (fun K hK => ?_) AllReadyH.nil)
                go_simp
                refine (HCM.out _).mono ?_
                rintro e vW ⟨rfl, hB⟩
                go_wp2_with fail
                refine hK.out _ _ (HS.out _ (hHeld.2.2.trans (hB.mono hHeld.2.2.size))) (fun hHeld => ?_)
                clear hK K
                try simp only [Act.put, List.setIfInBounds_toArray, List.set_cons_zero, List.set_cons_succ]
                refine wpAnyH_take (i := 9) (v := ?_) (by simp only [List.getElem?_toArray, List.getElem?_cons_succ, List.getElem?_cons_zero]; exact rfl) (by kernel_rfl) (by kernel_rfl) (by kernel_rfl) (fun _ _ _ h => h) (Or.inl ⟨by rfl, ?_⟩) (by assumption) ?_
                rotate_left 1
                · (intro w hSw; (try dsimp only at hSw); go_simp; try with_reducible rfl)
                try simp only [Act.put, List.setIfInBounds_toArray, List.set_cons_zero, List.set_cons_succ]
                refine wpAnyH_done (by kernel_rfl) ?_ _
                refine NoPanic.normal ?_
                go_wp2
                go_roundw
                case rel => exact ⟨j + 1, by omega, by go_num, by rw [HBN.out]; rfl, HBQ.out.trans (hHeld.2.2.mono HBQ.out.size)⟩
                case measure => simp [intOf]; omega))
          · have u1 : ¬ (j : Int) < (k : Int) := by omega
            have u2 : decide ((j : Int) < (k : Int)) = false := decide_eq_false u1
            have u3 : decide (j < k) = false := decide_eq_false hjk
            rw [u3] at hbh
            rcases hfour with e | e | e | e <;> subst e <;> (
              rw [hbh] at hsu
              have HBN := Lib.hid hsu
              clear hsu hbh
              cases tk <;> (
                go_wp2_with fail
                refine wp_region_noPanic ?_
                refine wp_region_held_drew (S := (fun u : World => (ldT 22 (.pointer (some ⟨c, o + k * 16, none⟩))).run Try.prog u = .ok (.value (vcV f)) u ∧ (ldT 22 (.pointer (some ⟨c, o + j * 16, none⟩))).run Try.prog u = .ok (.value (vcV g)) u ∧ Below wr.heap.size wr u)) (by kernel_rfl) (HS.out _ (Below.refl _ _).drew) (fun hHeld => ?_)
                refine wpAnyH_take (i := 0) (v := ?_) (by simp only [List.getElem?_toArray, List.getElem?_cons_succ, List.getElem?_cons_zero]; exact rfl) (by kernel_rfl) (by kernel_rfl) (by kernel_rfl) (fun _ _ _ h => h) (Or.inl ⟨by rfl, ?_⟩) (by assumption) ?_
                rotate_left 1
                · (intro w hSw; (try dsimp only at hSw); go_simp; try with_reducible rfl)
                try simp only [Act.put, List.setIfInBounds_toArray, List.set_cons_zero, List.set_cons_succ]
                refine wpAnyH_take (i := 1) (v := ?_) (by simp only [List.getElem?_toArray, List.getElem?_cons_succ, List.getElem?_cons_zero]; exact rfl) (by kernel_rfl) (by kernel_rfl) (by kernel_rfl) (fun _ _ _ h => h) (Or.inl ⟨by rfl, ?_⟩) (by assumption) ?_
                rotate_left 1
                · (intro w hSw; (try dsimp only at hSw); go_simp; try with_reducible rfl)
                try simp only [Act.put, List.setIfInBounds_toArray, List.set_cons_zero, List.set_cons_succ]
                refine wpAnyH_take (i := 2) (v := ?_) (by simp only [List.getElem?_toArray, List.getElem?_cons_succ, List.getElem?_cons_zero]; exact rfl) (by kernel_rfl) (by kernel_rfl) (by kernel_rfl) (fun _ _ _ h => h) (Or.inl ⟨by rfl, ?_⟩) (by assumption) ?_
                rotate_left 1
                · (intro w hSw; (try dsimp only at hSw); go_simp; try with_reducible rfl)
                try simp only [Act.put, List.setIfInBounds_toArray, List.set_cons_zero, List.set_cons_succ]
                refine wpAnyH_take (i := 3) (v := ?_) (by simp only [List.getElem?_toArray, List.getElem?_cons_succ, List.getElem?_cons_zero]; exact rfl) (by kernel_rfl) (by kernel_rfl) (by kernel_rfl) (fun _ _ _ h => h) (Or.inl ⟨by rfl, ?_⟩) (by assumption) ?_
                rotate_left 1
                · (intro w hSw; (try dsimp only at hSw); go_simp; try with_reducible rfl)
                try simp only [Act.put, List.setIfInBounds_toArray, List.set_cons_zero, List.set_cons_succ]
                refine wpAnyH_take (i := 4) (v := ?_) (by simp only [List.getElem?_toArray, List.getElem?_cons_succ, List.getElem?_cons_zero]; exact rfl) (by kernel_rfl) (by kernel_rfl) (by kernel_rfl) (fun _ _ _ h => h) (Or.inl ⟨by rfl, ?_⟩) (by assumption) ?_
                rotate_left 1
                · (intro w hSw; (try dsimp only at hSw); go_simp; try with_reducible rfl)
                try simp only [Act.put, List.setIfInBounds_toArray, List.set_cons_zero, List.set_cons_succ]
                refine wpAnyH_take (i := 5) (v := ?_) (by simp only [List.getElem?_toArray, List.getElem?_cons_succ, List.getElem?_cons_zero]; exact rfl) (by kernel_rfl) (by kernel_rfl) (by kernel_rfl) (fun _ _ _ h => h) (Or.inl ⟨by rfl, ?_⟩) (by assumption) ?_
                rotate_left 1
                · (intro w hSw; (try dsimp only at hSw); go_simp; try with_reducible rfl)
                try simp only [Act.put, List.setIfInBounds_toArray, List.set_cons_zero, List.set_cons_succ]
                refine wpAnyH_take (i := 6) (v := ?_) (by simp only [List.getElem?_toArray, List.getElem?_cons_succ, List.getElem?_cons_zero]; exact rfl) (by kernel_rfl) (by kernel_rfl) (by kernel_rfl) (fun _ _ _ h => h) (Or.inl ⟨by rfl, ?_⟩) (by assumption) ?_
                rotate_left 1
                · (intro w hSw; (try dsimp only at hSw); go_simp; try with_reducible rfl)
                try simp only [Act.put, List.setIfInBounds_toArray, List.set_cons_zero, List.set_cons_succ]
                refine wpAnyH_take (i := 7) (v := ?_) (by simp only [List.getElem?_toArray, List.getElem?_cons_succ, List.getElem?_cons_zero]; exact rfl) (by kernel_rfl) (by kernel_rfl) (by kernel_rfl) (fun _ _ _ h => h) (Or.inl ⟨by rfl, ?_⟩) (by assumption) ?_
                rotate_left 1
                · (intro w hSw; (try dsimp only at hSw); go_simp; try with_reducible rfl)
                try simp only [Act.put, List.setIfInBounds_toArray, List.set_cons_zero, List.set_cons_succ]
                refine wpAnyH_ready (rs := [8]) (by kernel_rfl) (by simp) ?_
                refine (AllReadyH.cons (by simp only [List.getElem?_toArray, List.getElem?_cons_succ, List.getElem?_cons_zero]; exact rfl) (fun K hK => ?_) AllReadyH.nil)
                go_simp
                refine (HCM.out _).mono ?_
                rintro e vW ⟨rfl, hB⟩
                go_wp2_with fail
                refine hK.out _ _ (HS.out _ (hHeld.2.2.trans (hB.mono hHeld.2.2.size))) (fun hHeld => ?_)
                clear hK K
                try simp only [Act.put, List.setIfInBounds_toArray, List.set_cons_zero, List.set_cons_succ]
                refine wpAnyH_take (i := 9) (v := ?_) (by simp only [List.getElem?_toArray, List.getElem?_cons_succ, List.getElem?_cons_zero]; exact rfl) (by kernel_rfl) (by kernel_rfl) (by kernel_rfl) (fun _ _ _ h => h) (Or.inl ⟨by rfl, ?_⟩) (by assumption) ?_
                rotate_left 1
                · (intro w hSw; (try dsimp only at hSw); go_simp; try with_reducible rfl)
                try simp only [Act.put, List.setIfInBounds_toArray, List.set_cons_zero, List.set_cons_succ]
                refine wpAnyH_done (by kernel_rfl) ?_ _
                refine NoPanic.normal ?_
                go_wp2
                go_roundw
                case rel => exact ⟨j + 1, by omega, by go_num, by rw [HBN.out]; rfl, HBQ.out.trans (hHeld.2.2.mono HBQ.out.size)⟩
                case measure => simp [intOf]; omega))
        · have y1 : ¬ (j : Int) < (n : Int) := by omega
          have y2 : decide ((j : Int) < (n : Int)) = false := decide_eq_false y1
          have hkeep : keepI l k = tk := by rw [← HTK.out]; unfold keepI okTo; rw [HLN.out, show j = n by omega]
          cases tk with
          | false =>
            have HNO := Lib.hid (lastTo_no hkeep)
            clear hBQ hkeep
            go_wp2
            go_roundw
            case rel => exact ⟨k + 1, by omega, by go_num, by rw [HNO.out]; exact HO.out.of_below HBQ.out, HBW.out⟩
            case measure => simp [intOf]; omega
          | true =>
            have HYES := Lib.hid (lastTo_yes hkeep)
            have hal := (Below.refl wr.heap.size wr).alloc (Nat.le_refl _) (.cells #[.int .i64 (k : Int)] 3)
            have HOa := Lib.hid (HO.out.of_below (HBQ.out.trans (hal.mono HBQ.out.size)))
            have HBa := Lib.hid (HBW.out.trans (hal.mono HBW.out.size))
            have hNa : w.heap.size ≤ (wr.alloc (.cells #[.int .i64 (k : Int)] 3)).heap.size := HBa.out.size
            have HXa := Lib.hid (show (wr.alloc (.cells #[.int .i64 (k : Int)] 3)).cell? ⟨wr.heap.size, 0, none⟩ = some (.int .i64 (k : Int)) by rw [World.cell?_alloc_new]; rfl)
            clear hBQ hal hkeep
            go_wp2_with (first | (refine wpl_pushI _ rfl (.tmp 40) (.tmp 42) rfl w.heap.size (.slice pv len cv) (lastTo l k) rfl HOa.out ⟨wr.heap.size, 0, none⟩ rfl k HXa.out len HLEN.out (by omega) hNa ?_; rintro g7 d7 w7 hO7 hg7 ho7; have HO7 := Lib.hid hO7; have HB7 := Lib.hid (HBa.out.grown hg7 hNa (fun g hg => (HOa.out.lt g hg).1)); clear hO7 hg7 ho7))
            go_roundw
            case rel => exact ⟨k + 1, by omega, by go_num, by rw [HYES.out]; exact HO7.out, HB7.out⟩
            case measure => simp [intOf]; omega
    · have z1 : ¬ (k : Int) < (n : Int) := by omega
      have z2 : decide ((k : Int) < (n : Int)) = false := decide_eq_false z1
      have HKN := Lib.hid (show lastTo l k = lastL l by unfold lastL; rw [HLN.out, show k = n by omega])
      go_wp2
      go_ret
      exact ⟨_, rfl, by rw [← HKN.out]; exact HO.out, HB.out⟩
end Go.Proofs.Ytdkbmidacpooiaa
