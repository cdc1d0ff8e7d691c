/- VectorChains. -/
import Derived.Test.YtdkbmidacpooiaaChn9
set_option linter.unusedSimpArgs false
set_option linter.unusedVariables false
namespace Go.Proofs.Ytdkbmidacpooiaa
open Go Go.RowKit

attribute [local go_sem ↓] exec_boxA exec_loadA exec_indexA exec_allocA exec_storeA exec_buildA exec_eqlA exec_neqA exec_boxV exec_loadV exec_indexV exec_allocV exec_storeV exec_buildV exec_eqlV exec_neqV
attribute [local go_sem] boxA indexA storeNewA buildA eqlA neqA boxV indexV storeNewV buildV eqlV neqV

attribute [local go_sem ↓] exec_bsV
attribute [local go_sem] bsV1 bsV2 bsV3
theorem conv89 {n : Nat} (hn : n < 256) (u : World) : (convert 5 3 (.int .u8 (n : Int))).run Try.prog u = .ok (.int .i64 (n : Int)) u := by
  have hk : Try.prog.intKind 3 = .i64 := by kernel_rfl
  have := run_convert_int (P := Try.prog) (w := u) 5 3 .u8 (n : Int) (by kernel_rfl) (by rw [hk]; kernel_rfl)
  rw [hk] at this
  rw [this, show IntKind.i64.wrap (n : Int) = (n : Int) by rw [IntKind.wrap_i64]; omega]
theorem pushed_at (u : World) (f : Nat → Int) : VecAt (u.alloc (.cells (tab 16 (vfs [f])) 25)) u.heap.size 0 f := fun i hi => by
  rw [Nat.zero_add, (Row.new u 25 16 (vfs [f])).cell i hi]
  unfold vfs
  rw [show i / 16 = 0 by omega, show i % 16 = i by omega]
  rfl
set_option maxRecDepth 100000 in
set_option maxHeartbeats 8000000 in
theorem chains_any (l : List (BitVec 8)) (p : Option Addr) (n cap : Nat) (w : World) (h : Sl w p l) (hl : l.length = n) : Calls Try.prog 7 #[.slice p n cap] w fun e w' => e = .returned (.bool true) ∧ Below w.heap.size w w' := by
  have HAW := Lib.hid awake9
  have HL := Lib.hid h
  have HLN := Lib.hid hl
  by_cases hbig : 60 < n
  · have z : decide ((60 : Int) < (n : Int)) = true := decide_eq_true (by omega)
    clear h hl
    go_enter Try.func7, Try.ntmps7
    go_wp2_with fail
    refine (HAW.out _).mono ?_
    rintro e w1 ⟨rfl, hB1⟩
    have HB1 := Lib.hid hB1
    clear hB1
    go_wp2_with fail
    refine (HAW.out _).mono ?_
    rintro e w2 ⟨rfl, hB2⟩
    have HB2 := Lib.hid (HB1.out.trans (hB2.mono HB1.out.size))
    clear hB2
    go_wp2
    go_ret
    exact ⟨rfl, HB2.out⟩
  · have z : decide ((60 : Int) < (n : Int)) = false := decide_eq_false (by omega)
    obtain ⟨bs, hbs⟩ : ∃ bs : List Nat, l.map BitVec.toNat = bs := ⟨_, rfl⟩
    have hbl : bs.length = n := by rw [← hbs, List.length_map, hl]
    have HBS := Lib.hid hbs
    have HBL := Lib.hid hbl
    clear h hl hbs hbl
    go_enter Try.func7, Try.ntmps7
    go_wp2_with fail
    refine (HAW.out _).mono ?_
    rintro e w1 ⟨rfl, hB1⟩
    have HB1 := Lib.hid hB1
    have HST : Hid (Row ((w1.alloc (.cells (tab 16 (vf fun _ => 0)) 25)).alloc (.cells (tab 16 (vf fun _ => 0)) 22)) w1.heap.size 25 16 (vf (cnt bs 0)) ∧ Row ((w1.alloc (.cells (tab 16 (vf fun _ => 0)) 25)).alloc (.cells (tab 16 (vf fun _ => 0)) 22)) (w1.heap.size + 1) 22 16 (vf (cnt bs 0)) ∧ Below w1.heap.size w1 ((w1.alloc (.cells (tab 16 (vf fun _ => 0)) 25)).alloc (.cells (tab 16 (vf fun _ => 0)) 22)) ∧ ((w1.alloc (.cells (tab 16 (vf fun _ => 0)) 25)).alloc (.cells (tab 16 (vf fun _ => 0)) 22)).heap.size = w1.heap.size + 1 + 1) := Lib.hid (by
      have b1 := (Below.refl w1.heap.size w1).alloc (Nat.le_refl _) (.cells (tab 16 (vf fun _ => 0)) 25)
      have b2 := (Below.refl (w1.alloc (.cells (tab 16 (vf fun _ => 0)) 25)).heap.size (w1.alloc (.cells (tab 16 (vf fun _ => 0)) 25))).alloc (Nat.le_refl _) (.cells (tab 16 (vf fun _ => 0)) 22)
      have r2 := Row.new (w1.alloc (.cells (tab 16 (vf fun _ => 0)) 25)) 22 16 (vf fun _ => 0)
      rw [World.size_alloc] at r2
      exact ⟨(Row.new w1 25 16 (vf fun _ => 0)).of_below b2, r2, b1.trans (b2.mono b1.size), by rw [World.size_alloc, World.size_alloc]⟩)
    clear hB1
    go_wp2
    go_loopw [4, 22] (fun s i wr => ∃ k : Nat, k ≤ n ∧ i = .int .i64 k ∧ Row wr (w1.heap.size) 25 16 (vf (cnt bs k)) ∧ Row wr (w1.heap.size + 1) 22 16 (vf (cnt bs k)) ∧ OwnVs wr (w1.heap.size + 1 + 1) s (chain9 bs k) ∧ Below w.heap.size w wr ∧ w1.heap.size + 1 + 1 ≤ wr.heap.size) (fun s i _ => n - (intOf i).toNat)
    case atStart => exact ⟨0, Nat.zero_le _, rfl, HST.out.1, HST.out.2.1, OwnVs.nil _ _, HB1.out.trans (HST.out.2.2.1.mono HB1.out.size), Nat.le_of_eq HST.out.2.2.2.symm⟩
    case round =>
      clear HST
      rename World => WO
      obtain ⟨k, hk, rfl, hR3, hR5, hO, hB, hN⟩ := hrel
      obtain ⟨pv, cv, hv, hvs, hcap⟩ := hO.vecs
      rw [chain9_len] at hv hvs hcap
      subst hv
      have HR3 := Lib.hid hR3
      have HR5 := Lib.hid hR5
      have HO := Lib.hid hO
      have HB := Lib.hid hB
      have HVS := Lib.hid hvs
      have HCP := Lib.hid hcap
      clear hO hvs hcap
      by_cases hlt : k < n
      · have hkl : k < l.length := by rw [HLN.out]; exact hlt
        have hkb : k < bs.length := by rw [HBL.out]; exact hlt
        obtain ⟨cc, oo, hpe, hx⟩ := (HL.out.of_below hB) k hkl
        obtain ⟨b, hbv⟩ : ∃ b, (l.getD k 0#8).toNat = b := ⟨_, rfl⟩
        rw [B_eq', hbv] at hx
        have hb256 : b < 256 := by rw [← hbv]; exact (l.getD k 0#8).isLt
        have hbk : bs[k] = b := by
          rw [← hbv]
          have : bs[k]? = some (l.getD k 0#8).toNat := by rw [← HBS.out, List.getElem?_map, List.getElem?_eq_getElem hkl, List.getD_eq_getElem?_getD, List.getElem?_eq_getElem hkl]; rfl
          rw [List.getElem?_eq_getElem hkb] at this
          injection this
        obtain ⟨r, hr⟩ : ∃ r, b % 16 = r := ⟨_, rfl⟩
        have hr16 : r < 16 := by omega
        have q16 : ((b : Int).tmod 16) = (r : Int) := by rw [Int.tmod_eq_emod_of_nonneg (by omega)]; omega
        have hcv := fun u => conv89 (n := r) (by omega) u
        have hc2 : (fun i => if i = r then cnt bs k i + 1 else cnt bs k i) = cnt bs (k + 1) := by rw [cnt_succ hkb, hbk, hr]
        have hcr : cnt bs (k + 1) r = cnt bs k r + 1 := by rw [← hc2]; exact if_pos rfl
        have hcb := cnt_bounds bs k r
        have hok : bmOk (cnt bs k) (r : Int) = true := by
          unfold bmOk
          rw [decide_eq_true (show (0 : Int) ≤ (r : Int) by omega), decide_eq_true (show (r : Int) < 16 by omega), decide_eq_true (show cnt bs k (r : Int).toNat < 1099511627776 by rw [Int.toNat_natCast]; omega)]
          rfl
        have HBP := Lib.hid (fun u => bump_any (cnt bs k) (cnt_good (by omega)) (r : Int) u)
        rw [(bm_yes hok).1, (bm_yes hok).2, hc2] at HBP
        have hless := cnt_less (l := bs) (j := k) (k := k + 1) (by omega) (by omega)
        have HC1 := Lib.hid (fun u => compare_any (cnt bs k) (cnt bs (k + 1)) u)
        have HC2 := Lib.hid (fun u => compare_any (cnt bs (k + 1)) (cnt bs k) u)
        rw [hless.1] at HC1
        rw [hless.2] at HC2
        have HCH := Lib.hid (chain9_succ bs k)
        have HCX := Lib.hid hc2
        obtain ⟨c1, hc1⟩ : ∃ c, cnt bs k = c := ⟨_, rfl⟩
        obtain ⟨c2, hc2b⟩ : ∃ c, cnt bs (k + 1) = c := ⟨_, rfl⟩
        rw [hc1] at HBP HC1 HC2 HR3 HR5 hR3 hR5 hcr hcb HCX
        rw [hc2b] at HBP HC1 HC2 HCH hcr HCX
        have HC2B := Lib.hid hc2b
        have l1 := loadVT vtV (VecAt.of_row hR3 (Nat.le_refl _))
        have z1 : (k : Int) < (n : Int) := by omega
        have z2 : decide ((k : Int) < (n : Int)) = true := decide_eq_true z1
        have hw := i64l k (by omega)
        subst hpe
        clear hbk hc2 hok hless hc1 hc2b hB hR3 hR5 hr hbv
        go_wp2_with fail
        refine (HBP.out _).mono ?_
        rintro e w2 ⟨rfl, hB2⟩
        have ha := (Below.refl w2.heap.size w2).alloc (Nat.le_refl _) (.cells (tab 16 (vf c2)) 25)
        have hB2a := hB2.trans (ha.mono hB2.size)
        have HR3a := Lib.hid (HR3.out.of_below hB2a)
        have HR5a := Lib.hid (HR5.out.of_below hB2a)
        have HR8a := Lib.hid (Row.new w2 25 16 (vf c2))
        have HBa := Lib.hid hB2a
        have l2 := loadVT vtV (VecAt.of_row HR3a.out (Nat.le_refl _))
        have l3 := loadVT vtV (VecAt.of_row HR8a.out (Nat.le_refl _))
        have HW2 := Lib.hid (show WO.heap.size ≤ w2.heap.size from hB2.size)
        clear hB2 ha hB2a l1
        go_wp2_with fail
        refine (HC1.out _).mono ?_
        rintro e w3 ⟨rfl, hB3⟩
        have HR3b := Lib.hid (HR3a.out.of_below hB3)
        have HR5b := Lib.hid (HR5a.out.of_below hB3)
        have HR8b := Lib.hid (HR8a.out.of_below hB3)
        have HBb := Lib.hid (HBa.out.trans (hB3.mono HBa.out.size))
        have m2 := loadVT vtV (VecAt.of_row HR3b.out (Nat.le_refl _))
        have m3 := loadVT vtV (VecAt.of_row HR8b.out (Nat.le_refl _))
        clear hB3 l2 l3
        go_wp2_with fail
        refine (HC2.out _).mono ?_
        rintro e w4 ⟨rfl, hB4⟩
        have HBc := Lib.hid (HBb.out.trans (hB4.mono HBb.out.size))
        have HN4 := Lib.hid (show w1.heap.size + 1 + 1 ≤ w4.heap.size by have := HBc.out.size; omega)
        have HR3c := Lib.hid (HR3b.out.of_below hB4)
        have HR5c := Lib.hid (HR5b.out.of_below hB4)
        have HR8c := Lib.hid (HR8b.out.of_below hB4)
        have x5 : w4.cell? ⟨w1.heap.size + 1, r, none⟩ = some (.int .i64 (c1 r)) := HR5c.out.cell r hr16
        have x6 := HR5c.out.free r
        have hwc : IntKind.i64.wrap (c1 r + 1) = c1 r + 1 := by rw [IntKind.wrap_i64]; omega
        have hR5d : Row (w4.setCell ⟨w1.heap.size + 1, r, none⟩ (.int .i64 (c1 r + 1))) (w1.heap.size + 1) 22 16 (vf c2) := (HR5c.out.set r (.int .i64 (c1 r + 1))).congr fun j _ => by
          rw [← HCX.out]
          unfold vf
          by_cases e : j = r
          · simp [e]
          · simp [e]
        have hR3d := HR3c.out.of_block (w' := w4.setCell ⟨w1.heap.size + 1, r, none⟩ (.int .i64 (c1 r + 1))) (Below.heap_setCell _ _ _ _ (by show w1.heap.size ≠ w1.heap.size + 1; omega))
        have hR8d := HR8c.out.of_block (w' := w4.setCell ⟨w1.heap.size + 1, r, none⟩ (.int .i64 (c1 r + 1))) (Below.heap_setCell _ _ _ _ (by show w2.heap.size ≠ w1.heap.size + 1; have := HW2.out; omega))
        have m8 := loadVT vtV (VecAt.of_row hR8d (Nat.le_refl _))
        obtain ⟨w6, hs6, hR6, hK6⟩ := storeVT vtV hR3d c2
        have HR6 := Lib.hid hR6
        have HR56 := Lib.hid (hR5d.of_kp hK6 (by omega))
        have hz6 : w4.heap.size ≤ w6.heap.size := by have := hK6.size; simpa using this
        have hOk : ∀ q, w1.heap.size + 1 < q → q < w4.heap.size → w6.heap[q]? = w4.heap[q]? := fun q h1 h2 => by
          rw [hK6.block q (by simpa using h2) (by omega)]
          exact Below.heap_setCell _ _ _ _ (by show q ≠ w1.heap.size + 1; omega)
        have HO6 := Lib.hid ((HO.out.of_below HBc.out).keep (w' := w6) fun g hg => hOk g (by have := ((HO.out.of_below HBc.out).lt g hg).1; omega) ((HO.out.of_below HBc.out).lt g hg).2)
        have HB6 := Lib.hid (show Below w.heap.size w w6 from (HB.out.trans (HBc.out.mono HB.out.size)).trans ((((Below.refl w.heap.size w4).setCell (by show w.heap.size ≤ w1.heap.size + 1; have := HB1.out.size; omega) _)).trans (hK6.below (by have := HB1.out.size; omega) (by have := HB1.out.size; have h9 := HN4.out; simp; omega))))
        have HN6 := Lib.hid (show w1.heap.size + 1 + 1 ≤ w6.heap.size from Nat.le_trans HN4.out hz6)
        have m6 := loadVT vtV (VecAt.of_row HR6.out (Nat.le_refl _))
        have hal := (Below.refl w6.heap.size w6).alloc (Nat.le_refl _) (.cells (tab 16 (vfs [c2])) 25)
        have HAL := Lib.hid hal
        have HOa := Lib.hid (HO6.out.of_below hal)
        have hNa : w1.heap.size + 1 + 1 ≤ (w6.alloc (.cells (tab 16 (vfs [c2])) 25)).heap.size := Nat.le_trans HN6.out hal.size
        clear hB4 m2 m3 hR5d hR3d hR8d hR6 hK6 hz6 hOk hal
        go_wp2_with (first | (refine wpl_pushV _ rfl (.tmp 55) (.tmp 57) rfl (w1.heap.size + 1 + 1) (.slice pv k cv) (chain9 bs k) rfl HOa.out w6.heap.size c2 rfl (pushed_at _ _) (by rw [chain9_len]; omega) hNa ?_; rintro p7 d7 w7 hO7 hg7; rw [chain9_len] at hO7; have hk7 := (Below.refl (w1.heap.size + 1 + 1) (w6.alloc (.cells (tab 16 (vfs [c2])) 25))).grown hg7 hNa (fun g hg => (HOa.out.lt g hg).1); have HO7 := Lib.hid hO7; have HK7 := Lib.hid (((Below.refl (w1.heap.size + 1 + 1) w6).alloc HN6.out (.cells (tab 16 (vfs [c2])) 25)).trans hk7); rw [chain9_len]; clear hO7 hg7 hk7))
        go_roundw
        case rel => exact ⟨k + 1, by omega, by go_num, by rw [HC2B.out]; exact HR6.out.below HK7.out (by omega), by rw [HC2B.out]; exact HR56.out.below HK7.out (by omega), by rw [HCH.out]; exact HO7.out, HB6.out.trans (HK7.out.mono (by have := HB1.out.size; omega)), Nat.le_trans HN6.out HK7.out.size⟩
        case measure => simp [intOf]; omega
      · have z1 : ¬ (k : Int) < (n : Int) := by omega
        have z2 : decide ((k : Int) < (n : Int)) = false := decide_eq_false z1
        obtain rfl : k = n := by omega
        have HLA := Lib.hid (last_any (chain9 bs k) pv k cv WO HVS.out (by omega) HCP.out)
        rw [chain9_last bs k (by rw [HBL.out]; exact Nat.le_refl _)] at HLA
        have HM0 := Lib.hid (fun (u : World) (h : VecsAt u pv k (chain9 bs k)) => merge_any (chain9 bs k) pv k cv u h (by omega) HCP.out)
        rw [chain9_merge bs k (by rw [HBL.out]; exact Nat.le_refl _)] at HM0
        have HGD := Lib.hid (fun u => good9_any (cnt bs k) u)
        rw [cnt_good (by omega)] at HGD
        obtain ⟨c, hc⟩ : ∃ c, cnt bs k = c := ⟨_, rfl⟩
        rw [hc] at HM0 HGD HR3 HR5 hR3 hR5
        have y1 : veq c c = true := veq_iff.2 fun _ _ => rfl
        clear hB hR3 hR5 hc
        go_wp2_with fail
        refine HLA.out.mono ?_
        rintro e w5 ⟨v, rfl, hOI, hB5⟩
        have HB5 := Lib.hid (HB.out.trans (hB5.mono HB.out.size))
        have HMG := Lib.hid (fun (u : World) (hu : Below w5.heap.size w5 u) => HM0.out u ((HVS.out.of_below hB5).of_below hu))
        have h3 := HR3.out.of_below hB5
        have h5 := HR5.out.of_below hB5
        rcases Nat.eq_zero_or_pos k with hk0 | hk0
        · subst hk0
          obtain ⟨q, cq, hv, -⟩ := hOI.cells
          have hv2 : v = .slice q 0 cq := hv
          subst hv2
          have HS := Lib.hid (fun (u : World) (hu : Below w5.heap.size w5 u) => (⟨loadVT vtV (VecAt.of_row (h3.of_below hu) (Nat.le_refl _)), loadVT vtA (VecAt.of_row (h5.of_below hu) (Nat.le_refl _)), hu⟩ : (ldT 25 (.pointer (some ⟨w1.heap.size, 0, none⟩))).run Try.prog u = .ok (.value (vcV c)) u ∧ (ldT 22 (.pointer (some ⟨w1.heap.size + 1, 0, none⟩))).run Try.prog u = .ok (.value (vcV c)) u ∧ Below w5.heap.size w5 u))
          clear hOI hv h3 h5 hB5
          go_wp2_with fail
          refine wp_region_noPanic ?_
          refine wp_region_held_drew (S := (fun u : World => (ldT 25 (.pointer (some ⟨w1.heap.size, 0, none⟩))).run Try.prog u = .ok (.value (vcV c)) u ∧ (ldT 22 (.pointer (some ⟨w1.heap.size + 1, 0, none⟩))).run Try.prog u = .ok (.value (vcV c)) u ∧ Below w5.heap.size w5 u)) (by kernel_rfl) (HS.out _ (Below.refl _ _).drew) (fun hHeld => ?_)
          refine wpAnyH_take (i := 0) (v := ?_) (by simp only [List.getElem?_toArray, List.getElem?_cons_succ, List.getElem?_cons_zero]; exact rfl) (by kernel_rfl) (by kernel_rfl) (by kernel_rfl) (fun _ _ _ h => h) (Or.inl ⟨by rfl, ?_⟩) (by assumption) ?_
          rotate_left 1
          · (intro w hSw; (try dsimp only at hSw); go_simp; try with_reducible rfl)
          try simp only [Act.put, List.setIfInBounds_toArray, List.set_cons_zero, List.set_cons_succ]
          refine wpAnyH_take (i := 1) (v := ?_) (by simp only [List.getElem?_toArray, List.getElem?_cons_succ, List.getElem?_cons_zero]; exact rfl) (by kernel_rfl) (by kernel_rfl) (by kernel_rfl) (fun _ _ _ h => h) (Or.inl ⟨by rfl, ?_⟩) (by assumption) ?_
          rotate_left 1
          · (intro w hSw; (try dsimp only at hSw); go_simp; try with_reducible rfl)
          try simp only [Act.put, List.setIfInBounds_toArray, List.set_cons_zero, List.set_cons_succ]
          refine wpAnyH_take (i := 2) (v := ?_) (by simp only [List.getElem?_toArray, List.getElem?_cons_succ, List.getElem?_cons_zero]; exact rfl) (by kernel_rfl) (by kernel_rfl) (by kernel_rfl) (fun _ _ _ h => h) (Or.inl ⟨by rfl, ?_⟩) (by assumption) ?_
          rotate_left 1
          · (intro w hSw; (try dsimp only at hSw); go_simp; try with_reducible rfl)
          try simp only [Act.put, List.setIfInBounds_toArray, List.set_cons_zero, List.set_cons_succ]
          refine wpAnyH_take (i := 3) (v := ?_) (by simp only [List.getElem?_toArray, List.getElem?_cons_succ, List.getElem?_cons_zero]; exact rfl) (by kernel_rfl) (by kernel_rfl) (by kernel_rfl) (fun _ _ _ h => h) (Or.inl ⟨by rfl, ?_⟩) (by assumption) ?_
          rotate_left 1
          · (intro w hSw; (try dsimp only at hSw); go_simp; try with_reducible rfl)
          try simp only [Act.put, List.setIfInBounds_toArray, List.set_cons_zero, List.set_cons_succ]
          refine wpAnyH_take (i := 4) (v := ?_) (by simp only [List.getElem?_toArray, List.getElem?_cons_succ, List.getElem?_cons_zero]; exact rfl) (by kernel_rfl) (by kernel_rfl) (by kernel_rfl) (fun _ _ _ h => h) (Or.inl ⟨by rfl, ?_⟩) (by assumption) ?_
          rotate_left 1
          · (intro w hSw; (try dsimp only at hSw); go_simp; try with_reducible rfl)
          try simp only [Act.put, List.setIfInBounds_toArray, List.set_cons_zero, List.set_cons_succ]
          refine wpAnyH_take (i := 6) (v := ?_) (by simp only [List.getElem?_toArray, List.getElem?_cons_succ, List.getElem?_cons_zero]; exact rfl) (by kernel_rfl) (by kernel_rfl) (by kernel_rfl) (fun _ _ _ h => h) (Or.inl ⟨by rfl, ?_⟩) (by assumption) ?_
          rotate_left 1
          · (intro w hSw; (try dsimp only at hSw); go_simp; try with_reducible rfl)
          try simp only [Act.put, List.setIfInBounds_toArray, List.set_cons_zero, List.set_cons_succ]
          refine wpAnyH_ready (rs := [5]) (by kernel_rfl) (by simp) ?_
          refine (AllReadyH.cons (by simp only [List.getElem?_toArray, List.getElem?_cons_succ, List.getElem?_cons_zero]; exact rfl) (fun K hK => ?_) AllReadyH.nil)
          go_simp
          refine (HMG.out _ (hHeld.2.2)).mono ?_
          rintro e vW ⟨rfl, hB⟩
          go_wp2_with fail
          refine hK.out _ _ (HS.out _ (hHeld.2.2.trans (hB.mono hHeld.2.2.size))) (fun hHeld => ?_)
          clear hK K
          try simp only [Act.put, List.setIfInBounds_toArray, List.set_cons_zero, List.set_cons_succ]
          refine wpAnyH_take (i := 7) (v := ?_) (by simp only [List.getElem?_toArray, List.getElem?_cons_succ, List.getElem?_cons_zero]; exact rfl) (by kernel_rfl) (by kernel_rfl) (by kernel_rfl) (fun _ _ _ h => h) (Or.inl ⟨by rfl, ?_⟩) (by assumption) ?_
          rotate_left 1
          · (intro w hSw; (try dsimp only at hSw); go_simp; try with_reducible rfl)
          try simp only [Act.put, List.setIfInBounds_toArray, List.set_cons_zero, List.set_cons_succ]
          refine wpAnyH_take (i := 8) (v := ?_) (by simp only [List.getElem?_toArray, List.getElem?_cons_succ, List.getElem?_cons_zero]; exact rfl) (by kernel_rfl) (by kernel_rfl) (by kernel_rfl) (fun _ _ _ h => h) (Or.inl ⟨by rfl, ?_⟩) (by assumption) ?_
          rotate_left 1
          · (intro w hSw; (try dsimp only at hSw); go_simp; try with_reducible rfl)
          try simp only [Act.put, List.setIfInBounds_toArray, List.set_cons_zero, List.set_cons_succ]
          refine wpAnyH_take (i := 9) (v := ?_) (by simp only [List.getElem?_toArray, List.getElem?_cons_succ, List.getElem?_cons_zero]; exact rfl) (by kernel_rfl) (by kernel_rfl) (by kernel_rfl) (fun _ _ _ h => h) (Or.inl ⟨by rfl, ?_⟩) (by assumption) ?_
          rotate_left 1
          · (intro w hSw; (try dsimp only at hSw); go_simp; try with_reducible rfl)
          try simp only [Act.put, List.setIfInBounds_toArray, List.set_cons_zero, List.set_cons_succ]
          refine wpAnyH_take (i := 10) (v := ?_) (by simp only [List.getElem?_toArray, List.getElem?_cons_succ, List.getElem?_cons_zero]; exact rfl) (by kernel_rfl) (by kernel_rfl) (by kernel_rfl) (fun _ _ _ h => h) (Or.inl ⟨by rfl, ?_⟩) (by assumption) ?_
          rotate_left 1
          · (intro w hSw; (try dsimp only at hSw); go_simp; try with_reducible rfl)
          try simp only [Act.put, List.setIfInBounds_toArray, List.set_cons_zero, List.set_cons_succ]
          refine wpAnyH_ready (rs := [11]) (by kernel_rfl) (by simp) ?_
          refine (AllReadyH.cons (by simp only [List.getElem?_toArray, List.getElem?_cons_succ, List.getElem?_cons_zero]; exact rfl) (fun K hK => ?_) AllReadyH.nil)
          go_simp
          refine (HGD.out _).mono ?_
          rintro e vW ⟨rfl, hB⟩
          go_wp2_with fail
          refine hK.out _ _ (HS.out _ (hHeld.2.2.trans (hB.mono hHeld.2.2.size))) (fun hHeld => ?_)
          clear hK K
          try simp only [Act.put, List.setIfInBounds_toArray, List.set_cons_zero, List.set_cons_succ]
          refine wpAnyH_take (i := 12) (v := ?_) (by simp only [List.getElem?_toArray, List.getElem?_cons_succ, List.getElem?_cons_zero]; exact rfl) (by kernel_rfl) (by kernel_rfl) (by kernel_rfl) (fun _ _ _ h => h) (Or.inl ⟨by rfl, ?_⟩) (by assumption) ?_
          rotate_left 1
          · (intro w hSw; (try dsimp only at hSw); go_simp; try with_reducible rfl)
          try simp only [Act.put, List.setIfInBounds_toArray, List.set_cons_zero, List.set_cons_succ]
          refine wpAnyH_take (i := 13) (v := ?_) (by simp only [List.getElem?_toArray, List.getElem?_cons_succ, List.getElem?_cons_zero]; exact rfl) (by kernel_rfl) (by kernel_rfl) (by kernel_rfl) (fun _ _ _ h => h) (Or.inl ⟨by rfl, ?_⟩) (by assumption) ?_
          rotate_left 1
          · (intro w hSw; (try dsimp only at hSw); go_simp; try with_reducible rfl)
          try simp only [Act.put, List.setIfInBounds_toArray, List.set_cons_zero, List.set_cons_succ]
          refine wpAnyH_take (i := 14) (v := ?_) (by simp only [List.getElem?_toArray, List.getElem?_cons_succ, List.getElem?_cons_zero]; exact rfl) (by kernel_rfl) (by kernel_rfl) (by kernel_rfl) (fun _ _ _ h => h) (Or.inl ⟨by rfl, ?_⟩) (by assumption) ?_
          rotate_left 1
          · (intro w hSw; (try dsimp only at hSw); go_simp; try with_reducible rfl)
          try simp only [Act.put, List.setIfInBounds_toArray, List.set_cons_zero, List.set_cons_succ]
          refine wpAnyH_take (i := 15) (v := ?_) (by simp only [List.getElem?_toArray, List.getElem?_cons_succ, List.getElem?_cons_zero]; exact rfl) (by kernel_rfl) (by kernel_rfl) (by kernel_rfl) (fun _ _ _ h => h) (Or.inl ⟨by rfl, ?_⟩) (by assumption) ?_
          rotate_left 1
          · (intro w hSw; (try dsimp only at hSw); go_simp; try with_reducible rfl)
          try simp only [Act.put, List.setIfInBounds_toArray, List.set_cons_zero, List.set_cons_succ]
          refine wpAnyH_take (i := 16) (v := ?_) (by simp only [List.getElem?_toArray, List.getElem?_cons_succ, List.getElem?_cons_zero]; exact rfl) (by kernel_rfl) (by kernel_rfl) (by kernel_rfl) (fun _ _ _ h => h) (Or.inl ⟨by rfl, ?_⟩) (by assumption) ?_
          rotate_left 1
          · (intro w hSw; (try dsimp only at hSw); go_simp; try with_reducible rfl)
          try simp only [Act.put, List.setIfInBounds_toArray, List.set_cons_zero, List.set_cons_succ]
          refine wpAnyH_take (i := 17) (v := ?_) (by simp only [List.getElem?_toArray, List.getElem?_cons_succ, List.getElem?_cons_zero]; exact rfl) (by kernel_rfl) (by kernel_rfl) (by kernel_rfl) (fun _ _ _ h => h) (Or.inl ⟨by rfl, ?_⟩) (by assumption) ?_
          rotate_left 1
          · (intro w hSw; (try dsimp only at hSw); go_simp; try with_reducible rfl)
          try simp only [Act.put, List.setIfInBounds_toArray, List.set_cons_zero, List.set_cons_succ]
          refine wpAnyH_take (i := 18) (v := ?_) (by simp only [List.getElem?_toArray, List.getElem?_cons_succ, List.getElem?_cons_zero]; exact rfl) (by kernel_rfl) (by kernel_rfl) (by kernel_rfl) (fun _ _ _ h => h) (Or.inl ⟨by rfl, ?_⟩) (by assumption) ?_
          rotate_left 1
          · (intro w hSw; (try dsimp only at hSw); go_simp; try with_reducible rfl)
          try simp only [Act.put, List.setIfInBounds_toArray, List.set_cons_zero, List.set_cons_succ]
          refine wpAnyH_take (i := 19) (v := ?_) (by simp only [List.getElem?_toArray, List.getElem?_cons_succ, List.getElem?_cons_zero]; exact rfl) (by kernel_rfl) (by kernel_rfl) (by kernel_rfl) (fun _ _ _ h => h) (Or.inl ⟨by rfl, ?_⟩) (by assumption) ?_
          rotate_left 1
          · (intro w hSw; (try dsimp only at hSw); go_simp; try with_reducible rfl)
          try simp only [Act.put, List.setIfInBounds_toArray, List.set_cons_zero, List.set_cons_succ]
          refine wpAnyH_take (i := 20) (v := ?_) (by simp only [List.getElem?_toArray, List.getElem?_cons_succ, List.getElem?_cons_zero]; exact rfl) (by kernel_rfl) (by kernel_rfl) (by kernel_rfl) (fun _ _ _ h => h) (Or.inl ⟨by rfl, ?_⟩) (by assumption) ?_
          rotate_left 1
          · (intro w hSw; (try dsimp only at hSw); go_simp; try with_reducible rfl)
          try simp only [Act.put, List.setIfInBounds_toArray, List.set_cons_zero, List.set_cons_succ]
          refine wpAnyH_take (i := 21) (v := ?_) (by simp only [List.getElem?_toArray, List.getElem?_cons_succ, List.getElem?_cons_zero]; exact rfl) (by kernel_rfl) (by kernel_rfl) (by kernel_rfl) (fun _ _ _ h => h) (Or.inl ⟨by rfl, ?_⟩) (by assumption) ?_
          rotate_left 1
          · (intro w hSw; (try dsimp only at hSw); go_simp; try with_reducible rfl)
          try simp only [Act.put, List.setIfInBounds_toArray, List.set_cons_zero, List.set_cons_succ]
          refine wpAnyH_take (i := 22) (v := ?_) (by simp only [List.getElem?_toArray, List.getElem?_cons_succ, List.getElem?_cons_zero]; exact rfl) (by kernel_rfl) (by kernel_rfl) (by kernel_rfl) (fun _ _ _ h => h) (Or.inl ⟨by rfl, ?_⟩) (by assumption) ?_
          rotate_left 1
          · (intro w hSw; (try dsimp only at hSw); go_simp; try with_reducible rfl)
          try simp only [Act.put, List.setIfInBounds_toArray, List.set_cons_zero, List.set_cons_succ]
          refine wpAnyH_take (i := 23) (v := undef) (by simp only [List.getElem?_toArray, List.getElem?_cons_succ, List.getElem?_cons_zero]; exact rfl) (by kernel_rfl) (by kernel_rfl) (by kernel_rfl) (fun _ _ _ h => h) (Or.inr ⟨by rfl, rfl⟩) (by assumption) ?_
          try simp only [Act.put, List.setIfInBounds_toArray, List.set_cons_zero, List.set_cons_succ]
          refine wpAnyH_take (i := 24) (v := undef) (by simp only [List.getElem?_toArray, List.getElem?_cons_succ, List.getElem?_cons_zero]; exact rfl) (by kernel_rfl) (by kernel_rfl) (by kernel_rfl) (fun _ _ _ h => h) (Or.inr ⟨by rfl, rfl⟩) (by assumption) ?_
          try simp only [Act.put, List.setIfInBounds_toArray, List.set_cons_zero, List.set_cons_succ]
          refine wpAnyH_take (i := 25) (v := undef) (by simp only [List.getElem?_toArray, List.getElem?_cons_succ, List.getElem?_cons_zero]; exact rfl) (by kernel_rfl) (by kernel_rfl) (by kernel_rfl) (fun _ _ _ h => h) (Or.inr ⟨by rfl, rfl⟩) (by assumption) ?_
          try simp only [Act.put, List.setIfInBounds_toArray, List.set_cons_zero, List.set_cons_succ]
          refine wpAnyH_take (i := 26) (v := undef) (by simp only [List.getElem?_toArray, List.getElem?_cons_succ, List.getElem?_cons_zero]; exact rfl) (by kernel_rfl) (by kernel_rfl) (by kernel_rfl) (fun _ _ _ h => h) (Or.inr ⟨by rfl, rfl⟩) (by assumption) ?_
          try simp only [Act.put, List.setIfInBounds_toArray, List.set_cons_zero, List.set_cons_succ]
          refine wpAnyH_take (i := 27) (v := undef) (by simp only [List.getElem?_toArray, List.getElem?_cons_succ, List.getElem?_cons_zero]; exact rfl) (by kernel_rfl) (by kernel_rfl) (by kernel_rfl) (fun _ _ _ h => h) (Or.inr ⟨by rfl, rfl⟩) (by assumption) ?_
          try simp only [Act.put, List.setIfInBounds_toArray, List.set_cons_zero, List.set_cons_succ]
          refine wpAnyH_take (i := 28) (v := undef) (by simp only [List.getElem?_toArray, List.getElem?_cons_succ, List.getElem?_cons_zero]; exact rfl) (by kernel_rfl) (by kernel_rfl) (by kernel_rfl) (fun _ _ _ h => h) (Or.inr ⟨by rfl, rfl⟩) (by assumption) ?_
          try simp only [Act.put, List.setIfInBounds_toArray, List.set_cons_zero, List.set_cons_succ]
          refine wpAnyH_take (i := 29) (v := undef) (by simp only [List.getElem?_toArray, List.getElem?_cons_succ, List.getElem?_cons_zero]; exact rfl) (by kernel_rfl) (by kernel_rfl) (by kernel_rfl) (fun _ _ _ h => h) (Or.inr ⟨by rfl, rfl⟩) (by assumption) ?_
          try simp only [Act.put, List.setIfInBounds_toArray, List.set_cons_zero, List.set_cons_succ]
          refine wpAnyH_take (i := 30) (v := undef) (by simp only [List.getElem?_toArray, List.getElem?_cons_succ, List.getElem?_cons_zero]; exact rfl) (by kernel_rfl) (by kernel_rfl) (by kernel_rfl) (fun _ _ _ h => h) (Or.inr ⟨by rfl, rfl⟩) (by assumption) ?_
          try simp only [Act.put, List.setIfInBounds_toArray, List.set_cons_zero, List.set_cons_succ]
          refine wpAnyH_take (i := 31) (v := undef) (by simp only [List.getElem?_toArray, List.getElem?_cons_succ, List.getElem?_cons_zero]; exact rfl) (by kernel_rfl) (by kernel_rfl) (by kernel_rfl) (fun _ _ _ h => h) (Or.inr ⟨by rfl, rfl⟩) (by assumption) ?_
          try simp only [Act.put, List.setIfInBounds_toArray, List.set_cons_zero, List.set_cons_succ]
          refine wpAnyH_take (i := 32) (v := undef) (by simp only [List.getElem?_toArray, List.getElem?_cons_succ, List.getElem?_cons_zero]; exact rfl) (by kernel_rfl) (by kernel_rfl) (by kernel_rfl) (fun _ _ _ h => h) (Or.inr ⟨by rfl, rfl⟩) (by assumption) ?_
          try simp only [Act.put, List.setIfInBounds_toArray, List.set_cons_zero, List.set_cons_succ]
          refine wpAnyH_take (i := 33) (v := undef) (by simp only [List.getElem?_toArray, List.getElem?_cons_succ, List.getElem?_cons_zero]; exact rfl) (by kernel_rfl) (by kernel_rfl) (by kernel_rfl) (fun _ _ _ h => h) (Or.inr ⟨by rfl, rfl⟩) (by assumption) ?_
          try simp only [Act.put, List.setIfInBounds_toArray, List.set_cons_zero, List.set_cons_succ]
          refine wpAnyH_take (i := 34) (v := undef) (by simp only [List.getElem?_toArray, List.getElem?_cons_succ, List.getElem?_cons_zero]; exact rfl) (by kernel_rfl) (by kernel_rfl) (by kernel_rfl) (fun _ _ _ h => h) (Or.inr ⟨by rfl, rfl⟩) (by assumption) ?_
          try simp only [Act.put, List.setIfInBounds_toArray, List.set_cons_zero, List.set_cons_succ]
          refine wpAnyH_take (i := 35) (v := ?_) (by simp only [List.getElem?_toArray, List.getElem?_cons_succ, List.getElem?_cons_zero]; exact rfl) (by kernel_rfl) (by kernel_rfl) (by kernel_rfl) (fun _ _ _ h => h) (Or.inl ⟨by rfl, ?_⟩) (by assumption) ?_
          rotate_left 1
          · (intro w hSw; (try dsimp only at hSw); go_simp; try with_reducible rfl)
          try simp only [Act.put, List.setIfInBounds_toArray, List.set_cons_zero, List.set_cons_succ]
          refine wpAnyH_take (i := 36) (v := ?_) (by simp only [List.getElem?_toArray, List.getElem?_cons_succ, List.getElem?_cons_zero]; exact rfl) (by kernel_rfl) (by kernel_rfl) (by kernel_rfl) (fun _ _ _ h => h) (Or.inl ⟨by rfl, ?_⟩) (by assumption) ?_
          rotate_left 1
          · (intro w hSw; (try dsimp only at hSw); go_simp; try with_reducible rfl)
          try simp only [Act.put, List.setIfInBounds_toArray, List.set_cons_zero, List.set_cons_succ]
          refine wpAnyH_take (i := 37) (v := ?_) (by simp only [List.getElem?_toArray, List.getElem?_cons_succ, List.getElem?_cons_zero]; exact rfl) (by kernel_rfl) (by kernel_rfl) (by kernel_rfl) (fun _ _ _ h => h) (Or.inl ⟨by rfl, ?_⟩) (by assumption) ?_
          rotate_left 1
          · (intro w hSw; (try dsimp only at hSw); go_simp; try with_reducible rfl)
          try simp only [Act.put, List.setIfInBounds_toArray, List.set_cons_zero, List.set_cons_succ]
          refine wpAnyH_done (by kernel_rfl) ?_ _
          refine NoPanic.normal ?_
          go_wp2
          go_ret
          exact ⟨rfl, HB5.out.trans (hHeld.2.2.mono HB5.out.size)⟩
        · rw [if_neg (by omega)] at hOI
          obtain ⟨m, hm⟩ : ∃ m, k - 1 = m := ⟨_, rfl⟩
          rw [hm] at hOI
          obtain ⟨q, cq, hv, hcs⟩ := hOI.cells
          have hv2 : v = .slice q 1 cq := hv
          subst hv2
          obtain ⟨g, hg, hcell⟩ := hcs 0 (by show 0 < 1; decide)
          subst hg
          have HS := Lib.hid (fun (u : World) (hu : Below w5.heap.size w5 u) => (⟨loadVT vtV (VecAt.of_row (h3.of_below hu) (Nat.le_refl _)), loadVT vtA (VecAt.of_row (h5.of_below hu) (Nat.le_refl _)), (hu.cell (p := ⟨g, 0, none⟩) (World.block_lt_of_cell? w5 _ hcell)).trans hcell, hu⟩ : (ldT 25 (.pointer (some ⟨w1.heap.size, 0, none⟩))).run Try.prog u = .ok (.value (vcV c)) u ∧ (ldT 22 (.pointer (some ⟨w1.heap.size + 1, 0, none⟩))).run Try.prog u = .ok (.value (vcV c)) u ∧ u.cell? ⟨g, 0, none⟩ = some (.int .i64 (m : Int)) ∧ Below w5.heap.size w5 u))
          have y2 : ((k : Int) == 0) = false := by rw [beq_eq_false_iff_ne]; omega
          have y3 : ((m : Int) == (k : Int) - 1) = true := by rw [beq_iff_eq]; omega
          have y4 : IntKind.i64.wrap ((k : Int) - 1) = (k : Int) - 1 := by rw [IntKind.wrap_i64]; omega
          have y5 : ¬ k = 0 := by omega
          have y6 : ¬ (k : Int) = 0 := by omega
          have y7 : (k == 0) = false := by rw [beq_eq_false_iff_ne]; exact y5
          clear hm
          clear hOI hv h3 h5 hB5 hcs hcell
          go_wp2_with fail
          refine wp_region_noPanic ?_
          refine wp_region_held_drew (S := (fun u : World => (ldT 25 (.pointer (some ⟨w1.heap.size, 0, none⟩))).run Try.prog u = .ok (.value (vcV c)) u ∧ (ldT 22 (.pointer (some ⟨w1.heap.size + 1, 0, none⟩))).run Try.prog u = .ok (.value (vcV c)) u ∧ u.cell? ⟨g, 0, none⟩ = some (.int .i64 (m : Int)) ∧ Below w5.heap.size w5 u)) (by kernel_rfl) (HS.out _ (Below.refl _ _).drew) (fun hHeld => ?_)
          refine wpAnyH_take (i := 0) (v := ?_) (by simp only [List.getElem?_toArray, List.getElem?_cons_succ, List.getElem?_cons_zero]; exact rfl) (by kernel_rfl) (by kernel_rfl) (by kernel_rfl) (fun _ _ _ h => h) (Or.inl ⟨by rfl, ?_⟩) (by assumption) ?_
          rotate_left 1
          · (intro w hSw; (try dsimp only at hSw); go_simp; try with_reducible rfl)
          try simp only [Act.put, List.setIfInBounds_toArray, List.set_cons_zero, List.set_cons_succ]
          refine wpAnyH_take (i := 1) (v := ?_) (by simp only [List.getElem?_toArray, List.getElem?_cons_succ, List.getElem?_cons_zero]; exact rfl) (by kernel_rfl) (by kernel_rfl) (by kernel_rfl) (fun _ _ _ h => h) (Or.inl ⟨by rfl, ?_⟩) (by assumption) ?_
          rotate_left 1
          · (intro w hSw; (try dsimp only at hSw); go_simp; try with_reducible rfl)
          try simp only [Act.put, List.setIfInBounds_toArray, List.set_cons_zero, List.set_cons_succ]
          refine wpAnyH_take (i := 2) (v := ?_) (by simp only [List.getElem?_toArray, List.getElem?_cons_succ, List.getElem?_cons_zero]; exact rfl) (by kernel_rfl) (by kernel_rfl) (by kernel_rfl) (fun _ _ _ h => h) (Or.inl ⟨by rfl, ?_⟩) (by assumption) ?_
          rotate_left 1
          · (intro w hSw; (try dsimp only at hSw); go_simp; try with_reducible rfl)
          try simp only [Act.put, List.setIfInBounds_toArray, List.set_cons_zero, List.set_cons_succ]
          refine wpAnyH_take (i := 3) (v := ?_) (by simp only [List.getElem?_toArray, List.getElem?_cons_succ, List.getElem?_cons_zero]; exact rfl) (by kernel_rfl) (by kernel_rfl) (by kernel_rfl) (fun _ _ _ h => h) (Or.inl ⟨by rfl, ?_⟩) (by assumption) ?_
          rotate_left 1
          · (intro w hSw; (try dsimp only at hSw); go_simp; try with_reducible rfl)
          try simp only [Act.put, List.setIfInBounds_toArray, List.set_cons_zero, List.set_cons_succ]
          refine wpAnyH_take (i := 4) (v := ?_) (by simp only [List.getElem?_toArray, List.getElem?_cons_succ, List.getElem?_cons_zero]; exact rfl) (by kernel_rfl) (by kernel_rfl) (by kernel_rfl) (fun _ _ _ h => h) (Or.inl ⟨by rfl, ?_⟩) (by assumption) ?_
          rotate_left 1
          · (intro w hSw; (try dsimp only at hSw); go_simp; try with_reducible rfl)
          try simp only [Act.put, List.setIfInBounds_toArray, List.set_cons_zero, List.set_cons_succ]
          refine wpAnyH_take (i := 6) (v := ?_) (by simp only [List.getElem?_toArray, List.getElem?_cons_succ, List.getElem?_cons_zero]; exact rfl) (by kernel_rfl) (by kernel_rfl) (by kernel_rfl) (fun _ _ _ h => h) (Or.inl ⟨by rfl, ?_⟩) (by assumption) ?_
          rotate_left 1
          · (intro w hSw; (try dsimp only at hSw); go_simp; try with_reducible rfl)
          try simp only [Act.put, List.setIfInBounds_toArray, List.set_cons_zero, List.set_cons_succ]
          refine wpAnyH_ready (rs := [5]) (by kernel_rfl) (by simp) ?_
          refine (AllReadyH.cons (by simp only [List.getElem?_toArray, List.getElem?_cons_succ, List.getElem?_cons_zero]; exact rfl) (fun K hK => ?_) AllReadyH.nil)
          go_simp
          refine (HMG.out _ (hHeld.2.2.2)).mono ?_
          rintro e vW ⟨rfl, hB⟩
          go_wp2_with fail
          refine hK.out _ _ (HS.out _ (hHeld.2.2.2.trans (hB.mono hHeld.2.2.2.size))) (fun hHeld => ?_)
          clear hK K
          try simp only [Act.put, List.setIfInBounds_toArray, List.set_cons_zero, List.set_cons_succ]
          refine wpAnyH_take (i := 7) (v := ?_) (by simp only [List.getElem?_toArray, List.getElem?_cons_succ, List.getElem?_cons_zero]; exact rfl) (by kernel_rfl) (by kernel_rfl) (by kernel_rfl) (fun _ _ _ h => h) (Or.inl ⟨by rfl, ?_⟩) (by assumption) ?_
          rotate_left 1
          · (intro w hSw; (try dsimp only at hSw); go_simp; try with_reducible rfl)
          try simp only [Act.put, List.setIfInBounds_toArray, List.set_cons_zero, List.set_cons_succ]
          refine wpAnyH_take (i := 8) (v := ?_) (by simp only [List.getElem?_toArray, List.getElem?_cons_succ, List.getElem?_cons_zero]; exact rfl) (by kernel_rfl) (by kernel_rfl) (by kernel_rfl) (fun _ _ _ h => h) (Or.inl ⟨by rfl, ?_⟩) (by assumption) ?_
          rotate_left 1
          · (intro w hSw; (try dsimp only at hSw); go_simp; try with_reducible rfl)
          try simp only [Act.put, List.setIfInBounds_toArray, List.set_cons_zero, List.set_cons_succ]
          refine wpAnyH_take (i := 9) (v := ?_) (by simp only [List.getElem?_toArray, List.getElem?_cons_succ, List.getElem?_cons_zero]; exact rfl) (by kernel_rfl) (by kernel_rfl) (by kernel_rfl) (fun _ _ _ h => h) (Or.inl ⟨by rfl, ?_⟩) (by assumption) ?_
          rotate_left 1
          · (intro w hSw; (try dsimp only at hSw); go_simp; try with_reducible rfl)
          try simp only [Act.put, List.setIfInBounds_toArray, List.set_cons_zero, List.set_cons_succ]
          refine wpAnyH_take (i := 10) (v := ?_) (by simp only [List.getElem?_toArray, List.getElem?_cons_succ, List.getElem?_cons_zero]; exact rfl) (by kernel_rfl) (by kernel_rfl) (by kernel_rfl) (fun _ _ _ h => h) (Or.inl ⟨by rfl, ?_⟩) (by assumption) ?_
          rotate_left 1
          · (intro w hSw; (try dsimp only at hSw); go_simp; try with_reducible rfl)
          try simp only [Act.put, List.setIfInBounds_toArray, List.set_cons_zero, List.set_cons_succ]
          refine wpAnyH_ready (rs := [11]) (by kernel_rfl) (by simp) ?_
          refine (AllReadyH.cons (by simp only [List.getElem?_toArray, List.getElem?_cons_succ, List.getElem?_cons_zero]; exact rfl) (fun K hK => ?_) AllReadyH.nil)
          go_simp
          refine (HGD.out _).mono ?_
          rintro e vW ⟨rfl, hB⟩
          go_wp2_with fail
          refine hK.out _ _ (HS.out _ (hHeld.2.2.2.trans (hB.mono hHeld.2.2.2.size))) (fun hHeld => ?_)
          clear hK K
          try simp only [Act.put, List.setIfInBounds_toArray, List.set_cons_zero, List.set_cons_succ]
          refine wpAnyH_take (i := 12) (v := ?_) (by simp only [List.getElem?_toArray, List.getElem?_cons_succ, List.getElem?_cons_zero]; exact rfl) (by kernel_rfl) (by kernel_rfl) (by kernel_rfl) (fun _ _ _ h => h) (Or.inl ⟨by rfl, ?_⟩) (by assumption) ?_
          rotate_left 1
          · (intro w hSw; (try dsimp only at hSw); go_simp; try with_reducible rfl)
          try simp only [Act.put, List.setIfInBounds_toArray, List.set_cons_zero, List.set_cons_succ]
          refine wpAnyH_take (i := 13) (v := ?_) (by simp only [List.getElem?_toArray, List.getElem?_cons_succ, List.getElem?_cons_zero]; exact rfl) (by kernel_rfl) (by kernel_rfl) (by kernel_rfl) (fun _ _ _ h => h) (Or.inl ⟨by rfl, ?_⟩) (by assumption) ?_
          rotate_left 1
          · (intro w hSw; (try dsimp only at hSw); go_simp; try with_reducible rfl)
          try simp only [Act.put, List.setIfInBounds_toArray, List.set_cons_zero, List.set_cons_succ]
          refine wpAnyH_take (i := 14) (v := ?_) (by simp only [List.getElem?_toArray, List.getElem?_cons_succ, List.getElem?_cons_zero]; exact rfl) (by kernel_rfl) (by kernel_rfl) (by kernel_rfl) (fun _ _ _ h => h) (Or.inl ⟨by rfl, ?_⟩) (by assumption) ?_
          rotate_left 1
          · (intro w hSw; (try dsimp only at hSw); go_simp; try with_reducible rfl)
          try simp only [Act.put, List.setIfInBounds_toArray, List.set_cons_zero, List.set_cons_succ]
          refine wpAnyH_take (i := 15) (v := ?_) (by simp only [List.getElem?_toArray, List.getElem?_cons_succ, List.getElem?_cons_zero]; exact rfl) (by kernel_rfl) (by kernel_rfl) (by kernel_rfl) (fun _ _ _ h => h) (Or.inl ⟨by rfl, ?_⟩) (by assumption) ?_
          rotate_left 1
          · (intro w hSw; (try dsimp only at hSw); go_simp; try with_reducible rfl)
          try simp only [Act.put, List.setIfInBounds_toArray, List.set_cons_zero, List.set_cons_succ]
          refine wpAnyH_take (i := 16) (v := ?_) (by simp only [List.getElem?_toArray, List.getElem?_cons_succ, List.getElem?_cons_zero]; exact rfl) (by kernel_rfl) (by kernel_rfl) (by kernel_rfl) (fun _ _ _ h => h) (Or.inl ⟨by rfl, ?_⟩) (by assumption) ?_
          rotate_left 1
          · (intro w hSw; (try dsimp only at hSw); go_simp; try with_reducible rfl)
          try simp only [Act.put, List.setIfInBounds_toArray, List.set_cons_zero, List.set_cons_succ]
          refine wpAnyH_take (i := 17) (v := ?_) (by simp only [List.getElem?_toArray, List.getElem?_cons_succ, List.getElem?_cons_zero]; exact rfl) (by kernel_rfl) (by kernel_rfl) (by kernel_rfl) (fun _ _ _ h => h) (Or.inl ⟨by rfl, ?_⟩) (by assumption) ?_
          rotate_left 1
          · (intro w hSw; (try dsimp only at hSw); go_simp; try with_reducible rfl)
          try simp only [Act.put, List.setIfInBounds_toArray, List.set_cons_zero, List.set_cons_succ]
          refine wpAnyH_take (i := 18) (v := undef) (by simp only [List.getElem?_toArray, List.getElem?_cons_succ, List.getElem?_cons_zero]; exact rfl) (by kernel_rfl) (by kernel_rfl) (by kernel_rfl) (fun _ _ _ h => h) (Or.inr ⟨by rfl, rfl⟩) (by assumption) ?_
          try simp only [Act.put, List.setIfInBounds_toArray, List.set_cons_zero, List.set_cons_succ]
          refine wpAnyH_take (i := 19) (v := undef) (by simp only [List.getElem?_toArray, List.getElem?_cons_succ, List.getElem?_cons_zero]; exact rfl) (by kernel_rfl) (by kernel_rfl) (by kernel_rfl) (fun _ _ _ h => h) (Or.inr ⟨by rfl, rfl⟩) (by assumption) ?_
          try simp only [Act.put, List.setIfInBounds_toArray, List.set_cons_zero, List.set_cons_succ]
          refine wpAnyH_take (i := 20) (v := undef) (by simp only [List.getElem?_toArray, List.getElem?_cons_succ, List.getElem?_cons_zero]; exact rfl) (by kernel_rfl) (by kernel_rfl) (by kernel_rfl) (fun _ _ _ h => h) (Or.inr ⟨by rfl, rfl⟩) (by assumption) ?_
          try simp only [Act.put, List.setIfInBounds_toArray, List.set_cons_zero, List.set_cons_succ]
          refine wpAnyH_take (i := 21) (v := ?_) (by simp only [List.getElem?_toArray, List.getElem?_cons_succ, List.getElem?_cons_zero]; exact rfl) (by kernel_rfl) (by kernel_rfl) (by kernel_rfl) (fun _ _ _ h => h) (Or.inl ⟨by rfl, ?_⟩) (by assumption) ?_
          rotate_left 1
          · (intro w hSw; (try dsimp only at hSw); go_simp; try with_reducible rfl)
          try simp only [Act.put, List.setIfInBounds_toArray, List.set_cons_zero, List.set_cons_succ]
          refine wpAnyH_take (i := 22) (v := ?_) (by simp only [List.getElem?_toArray, List.getElem?_cons_succ, List.getElem?_cons_zero]; exact rfl) (by kernel_rfl) (by kernel_rfl) (by kernel_rfl) (fun _ _ _ h => h) (Or.inl ⟨by rfl, ?_⟩) (by assumption) ?_
          rotate_left 1
          · (intro w hSw; (try dsimp only at hSw); go_simp; try with_reducible rfl)
          try simp only [Act.put, List.setIfInBounds_toArray, List.set_cons_zero, List.set_cons_succ]
          refine wpAnyH_take (i := 23) (v := ?_) (by simp only [List.getElem?_toArray, List.getElem?_cons_succ, List.getElem?_cons_zero]; exact rfl) (by kernel_rfl) (by kernel_rfl) (by kernel_rfl) (fun _ _ _ h => h) (Or.inl ⟨by rfl, ?_⟩) (by assumption) ?_
          rotate_left 1
          · (intro w hSw; (try dsimp only at hSw); go_simp; try with_reducible rfl)
          try simp only [Act.put, List.setIfInBounds_toArray, List.set_cons_zero, List.set_cons_succ]
          refine wpAnyH_take (i := 24) (v := ?_) (by simp only [List.getElem?_toArray, List.getElem?_cons_succ, List.getElem?_cons_zero]; exact rfl) (by kernel_rfl) (by kernel_rfl) (by kernel_rfl) (fun _ _ _ h => h) (Or.inl ⟨by rfl, ?_⟩) (by assumption) ?_
          rotate_left 1
          · (intro w hSw; (try dsimp only at hSw); go_simp; try with_reducible rfl)
          try simp only [Act.put, List.setIfInBounds_toArray, List.set_cons_zero, List.set_cons_succ]
          refine wpAnyH_take (i := 25) (v := ?_) (by simp only [List.getElem?_toArray, List.getElem?_cons_succ, List.getElem?_cons_zero]; exact rfl) (by kernel_rfl) (by kernel_rfl) (by kernel_rfl) (fun _ _ _ h => h) (Or.inl ⟨by rfl, ?_⟩) (by assumption) ?_
          rotate_left 1
          · (intro w hSw; (try dsimp only at hSw); go_simp; try with_reducible rfl)
          try simp only [Act.put, List.setIfInBounds_toArray, List.set_cons_zero, List.set_cons_succ]
          refine wpAnyH_take (i := 26) (v := ?_) (by simp only [List.getElem?_toArray, List.getElem?_cons_succ, List.getElem?_cons_zero]; exact rfl) (by kernel_rfl) (by kernel_rfl) (by kernel_rfl) (fun _ _ _ h => h) (Or.inl ⟨by rfl, ?_⟩) (by assumption) ?_
          rotate_left 1
          · (intro w hSw; (try dsimp only at hSw); go_simp; try with_reducible rfl)
          try simp only [Act.put, List.setIfInBounds_toArray, List.set_cons_zero, List.set_cons_succ]
          refine wpAnyH_take (i := 27) (v := ?_) (by simp only [List.getElem?_toArray, List.getElem?_cons_succ, List.getElem?_cons_zero]; exact rfl) (by kernel_rfl) (by kernel_rfl) (by kernel_rfl) (fun _ _ _ h => h) (Or.inl ⟨by rfl, ?_⟩) (by assumption) ?_
          rotate_left 1
          · (intro w hSw; (try dsimp only at hSw); go_simp; try with_reducible rfl)
          try simp only [Act.put, List.setIfInBounds_toArray, List.set_cons_zero, List.set_cons_succ]
          refine wpAnyH_take (i := 28) (v := ?_) (by simp only [List.getElem?_toArray, List.getElem?_cons_succ, List.getElem?_cons_zero]; exact rfl) (by kernel_rfl) (by kernel_rfl) (by kernel_rfl) (fun _ _ _ h => h) (Or.inl ⟨by rfl, ?_⟩) (by assumption) ?_
          rotate_left 1
          · (intro w hSw; (try dsimp only at hSw); go_simp; try with_reducible rfl)
          try simp only [Act.put, List.setIfInBounds_toArray, List.set_cons_zero, List.set_cons_succ]
          refine wpAnyH_take (i := 29) (v := ?_) (by simp only [List.getElem?_toArray, List.getElem?_cons_succ, List.getElem?_cons_zero]; exact rfl) (by kernel_rfl) (by kernel_rfl) (by kernel_rfl) (fun _ _ _ h => h) (Or.inl ⟨by rfl, ?_⟩) (by assumption) ?_
          rotate_left 1
          · (intro w hSw; (try dsimp only at hSw); go_simp; try with_reducible rfl)
          try simp only [Act.put, List.setIfInBounds_toArray, List.set_cons_zero, List.set_cons_succ]
          refine wpAnyH_take (i := 30) (v := ?_) (by simp only [List.getElem?_toArray, List.getElem?_cons_succ, List.getElem?_cons_zero]; exact rfl) (by kernel_rfl) (by kernel_rfl) (by kernel_rfl) (fun _ _ _ h => h) (Or.inl ⟨by rfl, ?_⟩) (by assumption) ?_
          rotate_left 1
          · (intro w hSw; (try dsimp only at hSw); go_simp; try with_reducible rfl)
          try simp only [Act.put, List.setIfInBounds_toArray, List.set_cons_zero, List.set_cons_succ]
          refine wpAnyH_take (i := 31) (v := ?_) (by simp only [List.getElem?_toArray, List.getElem?_cons_succ, List.getElem?_cons_zero]; exact rfl) (by kernel_rfl) (by kernel_rfl) (by kernel_rfl) (fun _ _ _ h => h) (Or.inl ⟨by rfl, ?_⟩) (by assumption) ?_
          rotate_left 1
          · (intro w hSw; (try dsimp only at hSw); go_simp; try with_reducible rfl)
          try simp only [Act.put, List.setIfInBounds_toArray, List.set_cons_zero, List.set_cons_succ]
          refine wpAnyH_take (i := 32) (v := ?_) (by simp only [List.getElem?_toArray, List.getElem?_cons_succ, List.getElem?_cons_zero]; exact rfl) (by kernel_rfl) (by kernel_rfl) (by kernel_rfl) (fun _ _ _ h => h) (Or.inl ⟨by rfl, ?_⟩) (by assumption) ?_
          rotate_left 1
          · (intro w hSw; (try dsimp only at hSw); go_simp; try with_reducible rfl)
          try simp only [Act.put, List.setIfInBounds_toArray, List.set_cons_zero, List.set_cons_succ]
          refine wpAnyH_take (i := 33) (v := ?_) (by simp only [List.getElem?_toArray, List.getElem?_cons_succ, List.getElem?_cons_zero]; exact rfl) (by kernel_rfl) (by kernel_rfl) (by kernel_rfl) (fun _ _ _ h => h) (Or.inl ⟨by rfl, ?_⟩) (by assumption) ?_
          rotate_left 1
          · (intro w hSw; (try dsimp only at hSw); go_simp; try with_reducible rfl)
          try simp only [Act.put, List.setIfInBounds_toArray, List.set_cons_zero, List.set_cons_succ]
          refine wpAnyH_take (i := 34) (v := ?_) (by simp only [List.getElem?_toArray, List.getElem?_cons_succ, List.getElem?_cons_zero]; exact rfl) (by kernel_rfl) (by kernel_rfl) (by kernel_rfl) (fun _ _ _ h => h) (Or.inl ⟨by rfl, ?_⟩) (by assumption) ?_
          rotate_left 1
          · (intro w hSw; (try dsimp only at hSw); go_simp; try with_reducible rfl)
          try simp only [Act.put, List.setIfInBounds_toArray, List.set_cons_zero, List.set_cons_succ]
          refine wpAnyH_take (i := 35) (v := ?_) (by simp only [List.getElem?_toArray, List.getElem?_cons_succ, List.getElem?_cons_zero]; exact rfl) (by kernel_rfl) (by kernel_rfl) (by kernel_rfl) (fun _ _ _ h => h) (Or.inl ⟨by rfl, ?_⟩) (by assumption) ?_
          rotate_left 1
          · (intro w hSw; (try dsimp only at hSw); go_simp; try with_reducible rfl)
          try simp only [Act.put, List.setIfInBounds_toArray, List.set_cons_zero, List.set_cons_succ]
          refine wpAnyH_take (i := 36) (v := ?_) (by simp only [List.getElem?_toArray, List.getElem?_cons_succ, List.getElem?_cons_zero]; exact rfl) (by kernel_rfl) (by kernel_rfl) (by kernel_rfl) (fun _ _ _ h => h) (Or.inl ⟨by rfl, ?_⟩) (by assumption) ?_
          rotate_left 1
          · (intro w hSw; (try dsimp only at hSw); go_simp; try with_reducible rfl)
          try simp only [Act.put, List.setIfInBounds_toArray, List.set_cons_zero, List.set_cons_succ]
          refine wpAnyH_take (i := 37) (v := ?_) (by simp only [List.getElem?_toArray, List.getElem?_cons_succ, List.getElem?_cons_zero]; exact rfl) (by kernel_rfl) (by kernel_rfl) (by kernel_rfl) (fun _ _ _ h => h) (Or.inl ⟨by rfl, ?_⟩) (by assumption) ?_
          rotate_left 1
          · (intro w hSw; (try dsimp only at hSw); go_simp; try with_reducible rfl)
          try simp only [Act.put, List.setIfInBounds_toArray, List.set_cons_zero, List.set_cons_succ]
          refine wpAnyH_done (by kernel_rfl) ?_ _
          refine NoPanic.normal ?_
          go_wp2
          go_ret
          exact ⟨rfl, HB5.out.trans (hHeld.2.2.2.mono HB5.out.size)⟩
end Go.Proofs.Ytdkbmidacpooiaa
