/- SidecarRaw. -/
import Derived.Test.YtnmopjefjpifoaaGreatDoorKR11
import Derived.Test.YtnmopjefjpifoaaGreatDoorKR4
import Derived.Test.YtnmopjefjpifoaaGreatDoorKR12
import Derived.StillTailTactics
set_option linter.unusedSimpArgs false
set_option maxRecDepth 100000
set_option linter.unusedVariables false
namespace Go.Proofs.YtnmopjefjpifoaaGreatDoor
open Go Go.RowKit Go.Shelf

attribute [-go_sem] Sha.exec_store
theorem exec_loadM12 (r : Operand → Value) (dst : Option Tmp) (p : Operand) (ty : TypeId) (pos : String) (after : Array Edge) (guard : Option (Nat × Bool)) :
    execOp r ⟨dst, .load 49 p, ty, pos, after, guard⟩ = ldT 49 (r p) := rfl
theorem kind3_len12 {p : S8} (h : kindL p = 3) : p.length ≤ 100 := by
  unfold kindL at h
  split at h
  · rename_i hg
    unfold goodL at hg
    simp only [Bool.and_eq_true, decide_eq_true_eq] at hg
    exact hg.1
  · cases h
theorem goodR_fac12 {r : Rc} (h : goodR r = true) : r.path.length ≤ 100 ∧ (0 ≤ r.size ∧ r.size ≤ 16384) ∧ 0 ≤ r.time ∧ 0 ≤ r.chg ∧ gdV r.ver = true ∧ r.n = nblk r.size.toNat ∧ (r.dead = true → r.size = 0 ∧ deq r.whole z32 = true) := by
  unfold goodR at h
  simp only [Bool.and_eq_true, decide_eq_true_eq, Bool.or_eq_true] at h
  obtain ⟨h1, h2, h3⟩ := h
  obtain ⟨k1, k2, k3⟩ := rfE_zero h1
  have k4 := okS_iff.1 k2
  unfold okV at k3
  simp only [Bool.and_eq_true] at k3
  refine ⟨kind3_len12 k1, ⟨k4.1, k4.2.1⟩, k4.2.2.1, k4.2.2.2, k3.1, h2, fun hd => ?_⟩
  rcases h3 with h4 | h4
  · rw [hd] at h4; cases h4
  · exact h4
theorem mkI12 (n : Nat) (w : World) (hn : n < 4294967296) : (mkT 70 (.int .i64 (n : Int)) (.int .i64 (n : Int))).run Tryz.prog w = .ok (.value (.slice (some ⟨w.heap.size, 0, none⟩) n n)) (w.alloc (.cells (tab n (fun _ => .int .i64 0)) 3)) := by
  have hi := infoIV
  cases hq : Tryz.prog.info? 3 with
  | none => simp [hq] at hi
  | some i =>
    rw [hq] at hi
    simp only [Option.map_some, Option.some.injEq, Prod.mk.injEq] at hi
    obtain ⟨h1, h2, h3⟩ := hi
    have := run_make (P := Tryz.prog) w 70 3 i (.int .i64 0) undIV hq h1 .i64 .i64 n n (by omega) (Int.le_refl _) (by rw [h3]; omega) (by omega)
    rw [h2] at this
    simp only [Int.toNat_natCast, Nat.mul_one] at this
    simp only [mkT, Sem.run_bind, this, Result.andThen_ok, Sem.run_pure]
    congr 2
    congr 1
    rw [tab_const]
    apply Array.ext_getElem?
    intro j
    by_cases hj : j < n <;> simp [madeCells, Value.cells, hj, Nat.mod_one]
attribute [local go_sem ↓] exec_bs exec_boxP exec_boxM exec_allocP exec_storeP exec_loadM12 exec_loadP exec_load32 exec_eqlD exec_make
attribute [local go_sem] bs0 boxP boxM eqlD mkI12
set_option maxRecDepth 100000 in
set_option maxHeartbeats 16000000 in
theorem raw12_law (r : Rc) (ds : List By) (l l2 : By) (q : Option Addr) (n cap : Nat) (q2 : Option Addr) (n2 cap2 : Nat) (w : World) (h : DgAt w r ds) (hin : RcIn r) (hs : Sl w q l) (hl : l.length = n) (hq : q = none → cap = 0) (hc : n ≤ cap) (hs2 : Sl w q2 l2) (hl2 : l2.length = n2) (hq2 : q2 = none → cap2 = 0) (hc2 : n2 ≤ cap2) (hT : Tb w) :
    Calls Tryz.prog 6 #[rcV r, .slice q n cap, .slice q2 n2 cap2] w fun e w' => e = .returned (.bool true) ∧ Below w.heap.size w w' := by
  obtain ⟨b0, hb0⟩ : ∃ b, w.heap.size = b := ⟨_, rfl⟩
  obtain ⟨W1, hW1⟩ : ∃ W, w.alloc (.cells (tab 54 (rcF r)) 49) = W := ⟨_, rfl⟩
  have hB1 : Below w.heap.size w W1 := by rw [← hW1]; exact below_newD _ _
  have hR1 : Row W1 b0 49 54 (rcF r) := by rw [← hb0, ← hW1]; exact Row.new _ _ _ _
  obtain ⟨V, hV⟩ : ∃ V, rcV r = V := ⟨_, rfl⟩
  have x1 : (bxT 49 V).run Tryz.prog w = .ok (.value (.pointer (some ⟨w.heap.size, 0, none⟩))) W1 := by rw [← hV, ← hW1]; exact boxM w _
  have HV := Lib.hid hV
  rw [hV]
  have HAW := Lib.hid (fun (u : World) (hu : Below W1.heap.size W1 u) => awake12 u (hT.on (hB1.trans (hu.mono hB1.size))))
  have HB1 := Lib.hid hB1
  have HD := Lib.hid (fun (u : World) (hu : Below W1.heap.size W1 u) => (h.of_below hB1).of_below hu)
  have HR := Lib.hid (fun (u : World) (hu : Below W1.heap.size W1 u) => hR1.of_below hu)
  have HTB := Lib.hid (fun (u : World) (hu : Below W1.heap.size W1 u) => hT.on (hB1.trans (hu.mono hB1.size)))
  have HSL := Lib.hid (fun (u : World) (hu : Below W1.heap.size W1 u) => (show Sl u q l ∧ Sl u q2 l2 from ⟨(hs.of_below hB1).of_below hu, (hs2.of_below hB1).of_below hu⟩))
  have HLN := Lib.hid (And.intro hl (And.intro hq (And.intro hc (And.intro hl2 (And.intro hq2 hc2)))))
  have HIN := Lib.hid hin
  have hsz := mkS_size r.path
  clear hB1 hR1 h hT hin hV hs hl hq hc hs2 hl2 hq2 hc2
  go_enter Tryz.func6, Tryz.ntmps6
  try rw [hb0]
  rw [hb0] at x1
  go_wp2_with fail
  clear x1 hW1
  refine (HAW.out W1 (Below.refl _ _)).mono ?_
  rintro e w2 ⟨rfl, hB2⟩
  have HX2 := Lib.hid (show Below W1.heap.size W1 w2 from hB2)
  clear hB2
  have c0 := rc_path (HR.out _ HX2.out)
  have c53 := rc_blocks (HR.out _ HX2.out)
  by_cases hp : r.path.length ≤ 200
  · have z1 : ¬ (200 : Int) < (r.path.length : Int) := by omega
    have d1 : decide ((200 : Int) < (r.path.length : Int)) = false := decide_eq_false z1
    by_cases hbn : r.n ≤ 100
    · have z2 : ¬ (100 : Int) < (r.n : Int) := by omega
      have d2 : decide ((100 : Int) < (r.n : Int)) = false := decide_eq_false z2
      by_cases hn : n ≤ 3000
      · have z3 : ¬ (3000 : Int) < (n : Int) := by omega
        have d3 : decide ((3000 : Int) < (n : Int)) = false := decide_eq_false z3
        by_cases hn2 : n2 ≤ 3000
        · have z4 : ¬ (3000 : Int) < (n2 : Int) := by omega
          have d4 : decide ((3000 : Int) < (n2 : Int)) = false := decide_eq_false z4
          have HPN := Lib.hid (And.intro hp (And.intro hbn (And.intro hn hn2)))
          clear hp hbn hn hn2
          have hnd := (HD.out _ HX2.out).n
          have ld := loadRT rtM (HR.out _ HX2.out)
          rw [HV.out] at ld
          have HRL := Lib.hid (real_any r ds w2 (HD.out _ HX2.out) (by have := HPN.out.2.1; omega))
          rw [HV.out] at HRL
          have HND := Lib.hid hnd
          clear hnd
          go_wp2_with fail
          refine HRL.out.mono ?_
          rintro e w4 ⟨q3, c3, rfl, hB4, hD4⟩
          obtain ⟨P, hP⟩ : ∃ P, r.mov q3 c3 = P := ⟨_, rfl⟩
          rw [hP] at hD4 ⊢
          obtain ⟨W5, hW5⟩ : ∃ W, w4.alloc (.cells (tab 54 (rcF P)) 44) = W := ⟨_, rfl⟩
          have hst5 := storeNewP w4 w4.heap.size 44 (rcF rc0) P rfl
          rw [hW5] at hst5
          have hB5 : Below w4.heap.size w4 W5 := by rw [← hW5]; exact below_newR _ _
          have hR5 : Row W5 w4.heap.size 44 54 (rcF P) := by rw [← hW5]; exact Row.new _ _ 54 _
          obtain ⟨b3, hb3⟩ : ∃ b, w4.heap.size = b := ⟨_, rfl⟩
          rw [hb3] at hst5 hR5
          have HX5 := Lib.hid (HX2.out.trans ((hB4.trans (hB5.mono hB4.size)).mono HX2.out.size))
          have HR5 := Lib.hid (fun (u : World) (hu : Below W5.heap.size W5 u) => (hR5.of_below hu))
          have HD5 := Lib.hid (fun (u : World) (hu : Below W5.heap.size W5 u) => ((hD4.of_below hB5).of_below hu))
          obtain ⟨VP, hVP⟩ : ∃ x, rcV P = x := ⟨_, rfl⟩
          have HVP := Lib.hid hVP
          rw [hVP] at hst5 ⊢
          have HP := Lib.hid hP
          have HA5 := Lib.hid (below_newR W5 (.cells #[] 5))
          have HOE := Lib.hid (own_emptyB W5)
          have HSE := Lib.hid ((HSL.out _ HX5.out).1.of_below HA5.out)
          clear hB4 hB5 hR5 hW5 hD4 hVP hP ld HRL c0 c53 hsz
          go_wp2_with (first
            | (refine wpl_appendL (W5.alloc (.cells #[] 5)) rfl (.tmp 51) (.tmp 52) rfl W5.heap.size (.slice (some ⟨W5.heap.size, 0, none⟩) 0 0) [] rfl HOE.out q n cap l HLN.out.1 rfl HSE.out HLN.out.2.1 (by have := HPN.out.2.2.1; simp; omega) HA5.out.size ?_
               rintro v6 w6 hO6 hg6 -
               rw [List.nil_append] at hO6
               have hB6 := HA5.out.grown hg6 HA5.out.size (fun k hk => (HOE.out.lt k hk).1)
               have HB6 := Lib.hid hB6
               obtain ⟨p6, c6, hv6, hs6, hp6, hc6⟩ := hO6.shape
               subst hv6
               rw [HLN.out.1] at hc6 ⊢
               have HO6 := Lib.hid (And.intro hs6 (And.intro hp6 hc6))
               have HX6 := Lib.hid (HX5.out.trans (hB6.mono HX5.out.size))
               have HA6 := Lib.hid (below_newR w6 (.cells #[] 5))
               have HOE6 := Lib.hid (own_emptyB w6)
               have HSE6 := Lib.hid ((HSL.out _ HX6.out).2.of_below HA6.out)
               clear hO6 hg6 hB6 hs6 hp6 hc6)
            | (refine wpl_appendL (w6.alloc (.cells #[] 5)) rfl (.tmp 54) (.tmp 55) rfl w6.heap.size (.slice (some ⟨w6.heap.size, 0, none⟩) 0 0) [] rfl HOE6.out q2 n2 cap2 l2 HLN.out.2.2.2.1 rfl HSE6.out HLN.out.2.2.2.2.1 (by have := HPN.out.2.2.2; simp; omega) HA6.out.size ?_
               rintro v7 w7 hO7 hg7 -
               rw [List.nil_append] at hO7
               have hB7 := HA6.out.grown hg7 HA6.out.size (fun k hk => (HOE6.out.lt k hk).1)
               obtain ⟨p7, c7, hv7, hs7, hp7, hc7⟩ := hO7.shape
               subst hv7
               rw [HLN.out.2.2.2.1] at hc7 ⊢
               have HO7 := Lib.hid (And.intro (HO6.out.1.of_below hB7) (And.intro hs7 (And.intro hp7 hc7)))
               have HX7 := Lib.hid (HX6.out.trans (hB7.mono HX6.out.size))
               have HB57 := Lib.hid (HB6.out.trans (hB7.mono HB6.out.size))
               have ld5 := loadRT rtP (HR5.out _ HB57.out)
               rw [HVP.out] at ld5
               clear hO7 hg7 hB7 hs7 hp7 hc7 hst5))
          have hwh := (HD5.out _ HB57.out).whole
          have HGR := Lib.hid (fun u => refGood10_any r (by have := HPN.out.1; omega) (HD.out _ HX2.out).whole u)
          rw [HV.out] at HGR
          have hgr : goodR r = goodR P := by rw [← HP.out]; rfl
          have hpl : P.path.length ≤ 200 := by rw [← HP.out]; exact HPN.out.1
          have hde : P.dead = r.dead := by rw [← HP.out]; rfl
          by_cases hok : goodR r = true ∧ r.dead = false
          · obtain ⟨hok1, hok2⟩ := hok
            have hgf := goodR_fac12 hok1
            obtain ⟨-, ⟨hs0, hs1⟩, -, -, -, hrn, -⟩ := hgf
            obtain ⟨sz, hsz⟩ : ∃ sz : Nat, r.size = (sz : Int) := ⟨r.size.toNat, by omega⟩
            have hsz2 : sz ≤ 16384 := by omega
            have hdn : ds.length = nblk sz := by rw [← HND.out, hrn, hsz]; rfl
            have hPe : P = ⟨r.path, (sz : Int), r.time, r.chg, r.ver, false, r.whole, q3, r.n, c3⟩ := by rw [← HP.out, ← hsz, ← hok2]; rfl
            have HM := mendOk12 r.path r.time r.chg r.ver r.whole q3 r.n c3 ds sz l l2 p6 n c6 p7 n2 c7 w7 (by have := HPN.out.1; omega) (by rw [← hPe, ← hgr]; exact hok1) (by rw [← hPe]; exact HD5.out _ HB57.out) hsz2 hdn HLN.out.1 HO7.out.1 (by have := HPN.out.2.2.1; omega) HLN.out.2.2.2.1 HO7.out.2.1 HO7.out.2.2.1 HO7.out.2.2.2 (by have := HPN.out.2.2.2; omega) (HTB.out _ HX7.out)
            rw [← hPe, HVP.out] at HM
            have HM := Lib.hid HM
            have HSZ := Lib.hid (And.intro hsz (And.intro hsz2 hdn))
            have HOK := Lib.hid (And.intro hok1 hok2)
            clear hgr hpl hde hwh hs0 hs1 hrn hsz hsz2 hdn hPe hok1 hok2
            go_wp2_with fail
            refine HM.out.mono ?_
            rintro e w8 ⟨C, v1, v2, ct, R, rfl, hC, hrow, hO1, hO2, hAll, hB8⟩
            have HX8 := Lib.hid (HX7.out.trans (hB8.mono HX7.out.size))
            obtain ⟨lw, hlw⟩ : ∃ x, rowC (szF l) sz = x := ⟨_, rfl⟩
            have hlwl : lw.length = sz := by rw [← hlw]; exact rowC_len _ _
            obtain ⟨ln, hln⟩ : ∃ x, rowC ct sz = x := ⟨_, rfl⟩
            have hlnl : ln.length = sz := by rw [← hln]; exact rowC_len _ _
            have hkd := fun k (hk : k < nblk sz) => kd_cases hAll k (by rw [rowC_len]; exact hk)
            have hRb := nodup_lt_length (nblk sz) R hAll.1 (fun x hx => by have := (hAll.2.1 x hx).2.1; rw [rowC_len] at this; exact this)
            have hRm : ∀ x ∈ R, x < nblk sz := fun x hx => by have := (hAll.2.1 x hx).2.1; rw [rowC_len] at this; exact this
            rw [rowC_len, hln, hlw] at hkd
            rw [hln] at hO2
            obtain ⟨L, hL⟩ : ∃ L, badL (nblk sz) (fun i => deq (digL (blkL ln i)) (ds.getD i [])) = L := ⟨_, rfl⟩
            rw [hL] at hkd hO2
            have hLb : L.length ≤ nblk sz := by rw [← hL]; exact badL_len _ _
            have hLm : ∀ x ∈ L, x < nblk sz := fun x hx => by rw [← hL] at hx; exact (badL_mem.1 hx).1
            have hnb64 : nblk sz ≤ 64 := by have := HSZ.out.2.1; unfold nblk; omega
            have HKD := Lib.hid hkd
            have HRL := Lib.hid (And.intro hRb (And.intro hRm (And.intro hLb (And.intro hLm hnb64))))
            obtain ⟨m1, k1, hv1, hce1⟩ := hO1.cells
            subst hv1
            obtain ⟨m2, k2, hv2, hce2⟩ := hO2.cells
            subst hv2
            have HO1 := Lib.hid hO1
            have HO2 := Lib.hid hO2
            have hsw : Sl w8 (some ⟨C, 0, none⟩) ln := fun j hj => by
              rw [hlnl] at hj
              refine ⟨C, 0, rfl, ?_⟩
              rw [Nat.zero_add, hrow.cell j hj, ← hln]
              unfold rowC
              simp [List.getD_eq_getElem?_getD, hj]
            have HSW := Lib.hid hsw
            have HLW := Lib.hid (And.intro hlw (And.intro hlwl hlnl))
            have cv1 := conv_str w8 p6 l n c6 (HO7.out.1.of_below hB8) HLN.out.1 HO6.out.2.1
            have cv2 := conv_str w8 p7 l2 n2 c7 (HO7.out.2.1.of_below hB8) HLN.out.2.2.2.1 HO7.out.2.2.1
            have cv3 := conv_str w8 q l n cap (HSL.out _ HX8.out).1 HLN.out.1 HLN.out.2.1
            have cv4 := conv_str w8 q2 l2 n2 cap2 (HSL.out _ HX8.out).2 HLN.out.2.2.2.1 HLN.out.2.2.2.2.1
            obtain ⟨sA, hsA⟩ : ∃ s, strOf l = s := ⟨_, rfl⟩
            obtain ⟨sB, hsB⟩ : ∃ s, strOf l2 = s := ⟨_, rfl⟩
            rw [hsA] at cv1 cv3
            rw [hsB] at cv2 cv4
            have ld8 := loadRT rtM (HR.out _ HX8.out)
            rw [HV.out] at ld8
            rw [HOK.out.1] at HGR
            clear hC hrow hO1 hO2 hAll hB8 hlw hlwl hln hlnl hkd hRb hRm hL hLb hLm hnb64 hce1 hce2 hsw ld5 HM hsA hsB
            go_wp2_with fail
            refine (HGR.out _).mono ?_
            rintro e w9 ⟨rfl, hB9⟩
            have HX9 := Lib.hid (HX8.out.trans (hB9.mono HX8.out.size))
            have HB89 := Lib.hid hB9
            have c20 := rc_dead (HR.out _ HX9.out)
            rw [HOK.out.2] at c20
            have c1 := rc_size (HR.out _ HX9.out)
            rw [HSZ.out.1] at c1
            have hne : ((sz : Int) != (sz : Int)) = false := by simp
            have HSD := Lib.hid (sized12_any l q n cap sz w9 HLN.out.1 (HSL.out _ HX9.out).1 (by have := HPN.out.2.2.1; omega) (by have := HSZ.out.2.1; omega))
            clear hB9 cv1 cv2 cv3 cv4 ld8
            go_wp2_with fail
            refine HSD.out.mono ?_
            rintro e w10 ⟨rfl, hrw, hB10⟩
            obtain ⟨g10, hg10⟩ : ∃ g, w9.heap.size = g := ⟨_, rfl⟩
            rw [hg10] at hrw ⊢
            have hsl10 : Sl w10 (some ⟨g10, 0, none⟩) lw := fun j hj => by
              rw [HLW.out.2.1] at hj
              refine ⟨g10, 0, rfl, ?_⟩
              rw [Nat.zero_add, hrw.cell j hj, ← HLW.out.1]
              unfold rowC
              simp [List.getD_eq_getElem?_getD, hj]
            have HB810 := Lib.hid (HB89.out.trans (hB10.mono HB89.out.size))
            have HC1 := Lib.hid (refCut10_any lw (some ⟨g10, 0, none⟩) sz sz w10 HLW.out.2.1 hsl10 (fun e => by cases e) (Nat.le_refl _) (by have := HSZ.out.2.1; omega))
            clear hrw hB10 hg10 hsl10 HSD c20 c1
            go_wp2_with fail
            refine HC1.out.mono ?_
            rintro e w11 ⟨va, rfl, hHa, hB11⟩
            have HB811 := Lib.hid (HB810.out.trans (hB11.mono HB810.out.size))
            have HHA := Lib.hid hHa
            have HC2 := Lib.hid (refCut10_any ln (some ⟨C, 0, none⟩) sz sz w11 HLW.out.2.2 (HSW.out.of_below HB811.out) (fun e => by cases e) (Nat.le_refl _) (by have := HSZ.out.2.1; omega))
            clear hHa hB11 HC1
            go_wp2_with fail
            refine HC2.out.mono ?_
            rintro e w12 ⟨vb, rfl, hHb, hB12⟩
            have HB812 := Lib.hid (HB811.out.trans (hB12.mono HB811.out.size))
            have hHa2 := HHA.out.of_below hB12
            obtain ⟨nb, hnb⟩ : ∃ x, nblk sz = x := ⟨_, rfl⟩
            have hla : ((List.range (nblk sz)).map (blkL lw)).length = nb := by simp [hnb]
            have hlb : ((List.range (nblk sz)).map (blkL ln)).length = nb := by simp [hnb]
            have hga : ∀ i, i < nb → ((List.range (nblk sz)).map (blkL lw)).getD i [] = blkL lw i := fun i hi => by rw [hnb]; simp [List.getD_eq_getElem?_getD, hi]
            have hgb : ∀ i, i < nb → ((List.range (nblk sz)).map (blkL ln)).getD i [] = blkL ln i := fun i hi => by rw [hnb]; simp [List.getD_eq_getElem?_getD, hi]
            obtain ⟨pa, ca, hva, hpa, hca, -, hsa⟩ := hHa2.shape
            obtain ⟨pb, cb, hvb, hpb, hcb, -, hsb⟩ := hHb.shape
            rw [hla] at hva hsa hca
            rw [hlb] at hvb hsb hcb
            subst hva hvb
            have HSA := Lib.hid (show ∀ i, i < nb → ∃ c o q d, pa = some ⟨c, o, none⟩ ∧ w12.cell? ⟨c, o + i, none⟩ = some (.slice q (blkL lw i).length d) ∧ Sl w12 q (blkL lw i) ∧ (q = none → d = 0) from fun i hi => by have h := hsa i hi; rw [hga i hi] at h; exact h)
            have HSB := Lib.hid (show ∀ i, i < nb → ∃ c o q d, pb = some ⟨c, o, none⟩ ∧ w12.cell? ⟨c, o + i, none⟩ = some (.slice q (blkL ln i).length d) ∧ Sl w12 q (blkL ln i) ∧ (q = none → d = 0) from fun i hi => by have h := hsb i hi; rw [hgb i hi] at h; exact h)
            have HX12 := Lib.hid (HX8.out.trans (HB812.out.mono HX8.out.size))
            have HO1b := Lib.hid (HO1.out.of_below HB812.out)
            have HO2b := Lib.hid (HO2.out.of_below HB812.out)
            have hkd := HKD.out
            have hrl := HRL.out
            have hdn := HSZ.out.2.2
            rw [hnb] at hkd hrl hdn
            have HKD := Lib.hid hkd
            have HRL := Lib.hid hrl
            have HDN := Lib.hid hdn
            have hnb2 : nb ≤ 64 := hrl.2.2.2.2
            have hmk := mkI12 nb w12 (by omega)
            obtain ⟨W13, hW13⟩ : ∃ W, w12.alloc (.cells (tab nb (fun _ => .int .i64 0)) 3) = W := ⟨_, rfl⟩
            have hR13 := Row.new w12 3 nb (fun _ => .int .i64 0)
            have hb13 := below_newR w12 (.cells (tab nb (fun _ => .int .i64 0)) 3)
            rw [hW13] at hmk hR13 hb13
            obtain ⟨kb, hkb⟩ : ∃ b, w12.heap.size = b := ⟨_, rfl⟩
            rw [hkb] at hmk hR13
            have HR13 := Lib.hid hR13
            have HB13 := Lib.hid hb13
            have HKB := Lib.hid hkb
            clear hHb hB12 hHa2 hla hlb hga hgb hpa hca hsa hpb hcb hsb hkd hrl hdn HC2 hnb hW13 hR13 hb13 hkb hnb2
            go_wp2
            go_loopw [119] (fun fi wr => ∃ i : Nat, i ≤ R.length ∧ fi = .int .i64 (i : Int) ∧ Row wr kb 3 nb (fun k => .int .i64 (kdF (R.take i) [] k)) ∧ Below w12.heap.size w12 wr) (fun fi _ => R.length - (intOf fi).toNat)
            case atStart => exact ⟨0, Nat.zero_le _, rfl, HR13.out.congr (fun j _ => by rw [List.take_zero, kdF_nil]), HB13.out⟩
            case round =>
              obtain ⟨i, hi, rfl, hR, hB⟩ := hrel
              have HR1 := Lib.hid hR
              have HBw := Lib.hid hB
              have hXl : R.length ≤ 64 := by have h5 := HRL.out.1; have h6 := HRL.out.2.2.1; have h7 := HRL.out.2.2.2.2; omega
              by_cases hlt : i < R.length
              · have y1 : (i : Int) < (R.length : Int) := by omega
                have y2 : decide ((i : Int) < (R.length : Int)) = true := decide_eq_true y1
                have y3 : decide (i < R.length) = true := decide_eq_true hlt
                obtain ⟨x, hx⟩ : ∃ x, R.getD i 0 = x := ⟨_, rfl⟩
                have hxm : x < nb := HRL.out.2.1 x (by rw [← hx, List.getD_eq_getElem?_getD, List.getElem?_eq_getElem hlt]; exact List.getElem_mem hlt)
                have hx0 : (0 : Int) ≤ (x : Int) := by omega
                have hx1 : (x : Int) < (nb : Int) := by omega
                obtain ⟨g1, hg1, hcx⟩ : ∃ g, m1 = some ⟨g, 0, none⟩ ∧ wr.cell? ⟨g, i, none⟩ = some (.int .i64 (x : Int)) := by
                  obtain ⟨m', k', e, hce⟩ := (HO1b.out.of_below hB).cells
                  injection e with e1 e2 e3
                  obtain ⟨g, e4, e5⟩ := hce i hlt
                  exact ⟨g, by rw [e1, e4], by rw [e5, hx]⟩
                subst hg1
                obtain ⟨z, hz⟩ : ∃ z, kdF (R.take i) [] x = z := ⟨_, rfl⟩
                have hzb : 0 ≤ z ∧ z ≤ 200 := by
                  have := kdF_bd R [] i 0 x
                  rw [List.take_nil] at this
                  rw [hz] at this
                  have h5 := HRL.out.1
                  have h6 := HRL.out.2.2.1
                  have h7 := HRL.out.2.2.2.2
                  omega
                obtain ⟨hz0, hz1⟩ := hzb
                have hck := hR.cell x hxm
                rw [hz] at hck
                have hfk := hR.free x
                have HZX := Lib.hid (And.intro hx hz)
                clear hR hB hx hz
                go_wp2
                go_roundw
                case rel => exact ⟨i + 1, by omega, by go_num, (HR1.out.set x (.int .i64 (z + 1))).congr (fun j hj => by
                  have e := kdF_put1 R i hlt j
                  rw [HZX.out.1, HZX.out.2] at e
                  exact e), HBw.out.setCell (show w12.heap.size ≤ (⟨kb, x, none⟩ : Addr).block from Nat.le_of_eq HKB.out) _⟩
                case measure => simp [intOf]; omega
              · have y1 : ¬ (i : Int) < (R.length : Int) := by omega
                have y2 : decide ((i : Int) < (R.length : Int)) = false := decide_eq_false y1
                have hiR : i = R.length := by omega
                have h1 := hR
                rw [hiR, List.take_length] at h1
                have HV1 := Lib.hid h1
                clear hR hB h1 hiR
                rename World => w14
                have HBV1 := Lib.hid HBw.out
                clear HBw HR1
                go_wp2
                go_loopw [132] (fun fi wr => ∃ i : Nat, i ≤ L.length ∧ fi = .int .i64 (i : Int) ∧ Row wr kb 3 nb (fun k => .int .i64 (kdF R (L.take i) k)) ∧ Below w12.heap.size w12 wr) (fun fi _ => L.length - (intOf fi).toNat)
                case atStart => exact ⟨0, Nat.zero_le _, rfl, HV1.out.congr (fun j _ => by rw [List.take_zero]), HBV1.out⟩
                case round =>
                  obtain ⟨i, hi, rfl, hR, hB⟩ := hrel
                  have HR1 := Lib.hid hR
                  have HBw := Lib.hid hB
                  have hXl : L.length ≤ 64 := by have h5 := HRL.out.1; have h6 := HRL.out.2.2.1; have h7 := HRL.out.2.2.2.2; omega
                  by_cases hlt : i < L.length
                  · have y1 : (i : Int) < (L.length : Int) := by omega
                    have y2 : decide ((i : Int) < (L.length : Int)) = true := decide_eq_true y1
                    have y3 : decide (i < L.length) = true := decide_eq_true hlt
                    obtain ⟨x, hx⟩ : ∃ x, L.getD i 0 = x := ⟨_, rfl⟩
                    have hxm : x < nb := HRL.out.2.2.2.1 x (by rw [← hx, List.getD_eq_getElem?_getD, List.getElem?_eq_getElem hlt]; exact List.getElem_mem hlt)
                    have hx0 : (0 : Int) ≤ (x : Int) := by omega
                    have hx1 : (x : Int) < (nb : Int) := by omega
                    obtain ⟨g1, hg1, hcx⟩ : ∃ g, m2 = some ⟨g, 0, none⟩ ∧ wr.cell? ⟨g, i, none⟩ = some (.int .i64 (x : Int)) := by
                      obtain ⟨m', k', e, hce⟩ := (HO2b.out.of_below hB).cells
                      injection e with e1 e2 e3
                      obtain ⟨g, e4, e5⟩ := hce i hlt
                      exact ⟨g, by rw [e1, e4], by rw [e5, hx]⟩
                    subst hg1
                    obtain ⟨z, hz⟩ : ∃ z, kdF R (L.take i) x = z := ⟨_, rfl⟩
                    have hzb : 0 ≤ z ∧ z ≤ 200 := by
                      have := kdF_bd R L R.length i x
                      rw [List.take_length] at this
                      rw [hz] at this
                      have h5 := HRL.out.1
                      have h6 := HRL.out.2.2.1
                      have h7 := HRL.out.2.2.2.2
                      omega
                    obtain ⟨hz0, hz1⟩ := hzb
                    have hck := hR.cell x hxm
                    rw [hz] at hck
                    have hfk := hR.free x
                    have HZX := Lib.hid (And.intro hx hz)
                    clear hR hB hx hz
                    go_wp2
                    go_roundw
                    case rel => exact ⟨i + 1, by omega, by go_num, (HR1.out.set x (.int .i64 (z + 2))).congr (fun j hj => by
                      have e := kdF_put2 R L i hlt j
                      rw [HZX.out.1, HZX.out.2] at e
                      exact e), HBw.out.setCell (show w12.heap.size ≤ (⟨kb, x, none⟩ : Addr).block from Nat.le_of_eq HKB.out) _⟩
                    case measure => simp [intOf]; omega
                  · have y1 : ¬ (i : Int) < (L.length : Int) := by omega
                    have y2 : decide ((i : Int) < (L.length : Int)) = false := decide_eq_false y1
                    have hiR : i = L.length := by omega
                    have h1 := hR
                    rw [hiR, List.take_length] at h1
                    have HV2 := Lib.hid h1
                    clear hR hB h1 hiR
                    rename World => w15
                    have HBV2 := Lib.hid HBw.out
                    clear HBw HR1
                    go_wp2
                    go_loopw [145] (fun fi wr => ∃ i : Nat, i ≤ nb ∧ fi = .int .i64 (i : Int) ∧ Below w15.heap.size w15 wr) (fun fi _ => nb - (intOf fi).toNat)
                    case atStart => exact ⟨0, Nat.zero_le _, rfl, Below.refl _ _⟩
                    case round =>
                      obtain ⟨i, hi, rfl, hB⟩ := hrel
                      have hnb64 : nb ≤ 64 := HRL.out.2.2.2.2
                      have HBW := Lib.hid (HBV2.out.trans (hB.mono HBV2.out.size))
                      have HBR := Lib.hid hB
                      have HXW := Lib.hid (HX12.out.trans (HBW.out.mono HX12.out.size))
                      by_cases hlt : i < nb
                      · have y1 : (i : Int) < (nb : Int) := by omega
                        have y2 : decide ((i : Int) < (nb : Int)) = true := decide_eq_true y1
                        have y3 : decide (i < nb) = true := decide_eq_true hlt
                        obtain ⟨ga, oa, qa, da, hpa, hca, hsa, hna⟩ := HSA.out i hlt
                        subst hpa
                        obtain ⟨gb, ob, qb, db, hpb, hcb, hsb, hnb⟩ := HSB.out i hlt
                        subst hpb
                        obtain ⟨cq, oq, hrq, -, -, -⟩ := (HD.out _ HX12.out).at i (by rw [HDN.out]; exact hlt)
                        have hbl := blkL_len lw i
                        have hbl2 := blkL_len ln i
                        obtain ⟨la, hla⟩ : ∃ x, (blkL lw i).length = x := ⟨_, rfl⟩
                        obtain ⟨lb, hlb⟩ : ∃ x, (blkL ln i).length = x := ⟨_, rfl⟩
                        rw [hla] at hca hbl
                        rw [hlb] at hcb hbl2
                        have hla2 : la < 100000000 := by rw [hbl]; unfold blen; omega
                        have hlb2 : lb < 100000000 := by rw [hbl2]; unfold blen; omega
                        have hHA := fun (u : World) (hu : Below wr.heap.size wr u) => HBW.out.trans (hu.mono HBW.out.size)
                        have hHX := fun (u : World) (hu : Below wr.heap.size wr u) => HXW.out.trans (hu.mono HXW.out.size)
                        have HSN := Lib.hid (fun (u : World) (hu : Below wr.heap.size wr u) => refSum1_any (blkL ln i) qb lb db u hlb (hsb.of_below (hHA u hu)) hnb (HTB.out _ (hHX u hu)) hlb2)
                        have HSO := Lib.hid (fun (u : World) (hu : Below wr.heap.size wr u) => refSum1_any (blkL lw i) qa la da u hla (hsa.of_below (hHA u hu)) hna (HTB.out _ (hHX u hu)) hla2)
                        have HCV := Lib.hid (fun (u : World) (hu : Below wr.heap.size wr u) => (show _ ∧ _ from ⟨conv_str u qa (blkL lw i) la da (hsa.of_below (hHA u hu)) hla hna, conv_str u qb (blkL ln i) lb db (hsb.of_below (hHA u hu)) hlb hnb⟩))
                        have HCS := Lib.hid (HKD.out i hlt)
                        obtain ⟨dN, hdN⟩ : ∃ x, digL (blkL ln i) = x := ⟨_, rfl⟩
                        obtain ⟨dW, hdW⟩ : ∃ x, digL (blkL lw i) = x := ⟨_, rfl⟩
                        obtain ⟨dg, hdg⟩ : ∃ x, ds.getD i [] = x := ⟨_, rfl⟩
                        obtain ⟨kz, hkz⟩ : ∃ x, kdF R L i = x := ⟨_, rfl⟩
                        have hcs : (kz = 0 ∧ blkL ln i = blkL lw i ∧ deq dW dg = true ∧ deq dN dg = true) ∨ (kz = 1 ∧ deq dW dg = false ∧ deq dN dg = true) ∨ (kz = 2 ∧ blkL ln i = blkL lw i ∧ deq dW dg = false ∧ deq dN dg = false) := by
                          rcases HCS.out with ⟨h1, h2, h3⟩ | ⟨h1, h2, h3⟩ | ⟨h1, h2, h3⟩
                          · refine .inl ⟨by rw [← hkz]; exact h1, h2, by rw [← hdW, ← hdg]; exact h3, by rw [← hdN, ← hdg, h2]; exact h3⟩
                          · refine .inr (.inl ⟨by rw [← hkz]; exact h1, by rw [← hdW, ← hdg]; exact h2, by rw [← hdN, ← hdg]; exact h3⟩)
                          · refine .inr (.inr ⟨by rw [← hkz]; exact h1, h2, by rw [← hdW, ← hdg]; exact h3, by rw [← hdN, ← hdg, h2]; exact h3⟩)
                        obtain ⟨bN, hbN⟩ : ∃ x, deq dN dg = x := ⟨_, rfl⟩
                        obtain ⟨bW, hbW⟩ : ∃ x, deq dW dg = x := ⟨_, rfl⟩
                        rw [hbN, hbW] at hcs
                        rw [hdN] at HSN
                        rw [hdW] at HSO
                        have HCS := Lib.hid hcs
                        have HS := Lib.hid (fun (u : World) (hu : Below wr.heap.size wr u) => (show u.cell? ⟨gb, ob + i, none⟩ = some (.slice qb lb db) ∧ u.cell? ⟨ga, oa + i, none⟩ = some (.slice qa la da) ∧ u.cell? ⟨b0, 53, none⟩ = some (.slice (some ⟨cq, oq, none⟩) nb r.cap) ∧ (ldT 41 (.pointer (some ⟨cq, oq + i * 32, none⟩))).run Tryz.prog u = .ok (.value (digV dg)) u ∧ Below wr.heap.size wr u from
                          ⟨by rw [(hHA u hu).cell (by exact World.block_lt_of_cell? w12 _ hcb)]; exact hcb, by rw [(hHA u hu).cell (by exact World.block_lt_of_cell? w12 _ hca)]; exact hca, by have h := rc_blocks (HR.out _ (hHX u hu)); rw [hrq, HND.out, HDN.out] at h; exact h, by rw [← hdg]; exact (HD.out _ (hHX u hu)).ldq hrq i (by rw [HDN.out]; exact hlt), hu⟩))
                        have HKC := Lib.hid (fun (u : World) (hu : Below wr.heap.size wr u) => (show u.cell? ⟨kb, i, none⟩ = some (.int .i64 kz) from by
                          have h := ((HV2.out.of_below hB).of_below hu).cell i hlt
                          rw [hkz] at h
                          exact h))
                        have HBN := Lib.hid (And.intro hbN hbW)
                        have hbl0 : deq dN dg = bN := hbN
                        have hbl1 : deq dW dg = bW := hbW
                        clear hcs hbN hbW hdN hdW hdg hkz hHA hHX hla hlb hla2 hlb2 hbl hbl2 hca hsa hna hcb hsb hnb hrq hB
                        go_wp2
                        refine wp_region_noPanic ?_
                        refine wp_region_held_drew (S := (fun u : World => u.cell? ⟨gb, ob + i, none⟩ = some (.slice qb lb db) ∧ u.cell? ⟨ga, oa + i, none⟩ = some (.slice qa la da) ∧ u.cell? ⟨b0, 53, none⟩ = some (.slice (some ⟨cq, oq, none⟩) nb r.cap) ∧ (ldT 41 (.pointer (some ⟨cq, oq + i * 32, none⟩))).run Tryz.prog u = .ok (.value (digV dg)) u ∧ Below wr.heap.size wr u)) (by kernel_rfl) (HS.out _ (Below.refl _ _).drew) (fun hHeld => ?_)
                        refine wpAnyH_take (i := 0) (v := ?_) (by simp only [List.getElem?_toArray, List.getElem?_cons_succ, List.getElem?_cons_zero]; exact rfl) (by kernel_rfl) (by kernel_rfl) (by kernel_rfl) (fun _ _ _ h => h) (Or.inl ⟨by rfl, ?_⟩) (by assumption) ?_
                        rotate_left 1
                        · (intro w hSw; (try dsimp only at hSw); go_simp; try with_reducible rfl)
                        try simp only [Act.put, List.setIfInBounds_toArray, List.set_cons_zero, List.set_cons_succ]
                        refine wpAnyH_take (i := 1) (v := ?_) (by simp only [List.getElem?_toArray, List.getElem?_cons_succ, List.getElem?_cons_zero]; exact rfl) (by kernel_rfl) (by kernel_rfl) (by kernel_rfl) (fun _ _ _ h => h) (Or.inl ⟨by rfl, ?_⟩) (by assumption) ?_
                        rotate_left 1
                        · (intro w hSw; (try dsimp only at hSw); go_simp; try with_reducible rfl)
                        try simp only [Act.put, List.setIfInBounds_toArray, List.set_cons_zero, List.set_cons_succ]
                        refine wpAnyH_take (i := 2) (v := ?_) (by simp only [List.getElem?_toArray, List.getElem?_cons_succ, List.getElem?_cons_zero]; exact rfl) (by kernel_rfl) (by kernel_rfl) (by kernel_rfl) (fun _ _ _ h => h) (Or.inl ⟨by rfl, ?_⟩) (by assumption) ?_
                        rotate_left 1
                        · (intro w hSw; (try dsimp only at hSw); go_simp; try with_reducible rfl)
                        try simp only [Act.put, List.setIfInBounds_toArray, List.set_cons_zero, List.set_cons_succ]
                        refine wpAnyH_take (i := 3) (v := ?_) (by simp only [List.getElem?_toArray, List.getElem?_cons_succ, List.getElem?_cons_zero]; exact rfl) (by kernel_rfl) (by kernel_rfl) (by kernel_rfl) (fun _ _ _ h => h) (Or.inl ⟨by rfl, ?_⟩) (by assumption) ?_
                        rotate_left 1
                        · (intro w hSw; (try dsimp only at hSw); go_simp; try with_reducible rfl)
                        try simp only [Act.put, List.setIfInBounds_toArray, List.set_cons_zero, List.set_cons_succ]
                        refine wpAnyH_take (i := 5) (v := ?_) (by simp only [List.getElem?_toArray, List.getElem?_cons_succ, List.getElem?_cons_zero]; exact rfl) (by kernel_rfl) (by kernel_rfl) (by kernel_rfl) (fun _ _ _ h => h) (Or.inl ⟨by rfl, ?_⟩) (by assumption) ?_
                        rotate_left 1
                        · (intro w hSw; (try dsimp only at hSw); go_simp; try with_reducible rfl)
                        try simp only [Act.put, List.setIfInBounds_toArray, List.set_cons_zero, List.set_cons_succ]
                        refine wpAnyH_take (i := 6) (v := ?_) (by simp only [List.getElem?_toArray, List.getElem?_cons_succ, List.getElem?_cons_zero]; exact rfl) (by kernel_rfl) (by kernel_rfl) (by kernel_rfl) (fun _ _ _ h => h) (Or.inl ⟨by rfl, ?_⟩) (by assumption) ?_
                        rotate_left 1
                        · (intro w hSw; (try dsimp only at hSw); go_simp; try with_reducible rfl)
                        try simp only [Act.put, List.setIfInBounds_toArray, List.set_cons_zero, List.set_cons_succ]
                        refine wpAnyH_take (i := 7) (v := ?_) (by simp only [List.getElem?_toArray, List.getElem?_cons_succ, List.getElem?_cons_zero]; exact rfl) (by kernel_rfl) (by kernel_rfl) (by kernel_rfl) (fun _ _ _ h => h) (Or.inl ⟨by rfl, ?_⟩) (by assumption) ?_
                        rotate_left 1
                        · (intro w hSw; (try dsimp only at hSw); go_simp; try with_reducible rfl)
                        try simp only [Act.put, List.setIfInBounds_toArray, List.set_cons_zero, List.set_cons_succ]
                        refine wpAnyH_take (i := 8) (v := ?_) (by simp only [List.getElem?_toArray, List.getElem?_cons_succ, List.getElem?_cons_zero]; exact rfl) (by kernel_rfl) (by kernel_rfl) (by kernel_rfl) (fun _ _ _ h => h) (Or.inl ⟨by rfl, ?_⟩) (by assumption) ?_
                        rotate_left 1
                        · (intro w hSw; (try dsimp only at hSw); go_simp; try with_reducible rfl)
                        try simp only [Act.put, List.setIfInBounds_toArray, List.set_cons_zero, List.set_cons_succ]
                        refine wpAnyH_take (i := 9) (v := ?_) (by simp only [List.getElem?_toArray, List.getElem?_cons_succ, List.getElem?_cons_zero]; exact rfl) (by kernel_rfl) (by kernel_rfl) (by kernel_rfl) (fun _ _ _ h => h) (Or.inl ⟨by rfl, ?_⟩) (by assumption) ?_
                        rotate_left 1
                        · (intro w hSw; (try dsimp only at hSw); go_simp; try with_reducible rfl)
                        try simp only [Act.put, List.setIfInBounds_toArray, List.set_cons_zero, List.set_cons_succ]
                        refine wpAnyH_take (i := 11) (v := ?_) (by simp only [List.getElem?_toArray, List.getElem?_cons_succ, List.getElem?_cons_zero]; exact rfl) (by kernel_rfl) (by kernel_rfl) (by kernel_rfl) (fun _ _ _ h => h) (Or.inl ⟨by rfl, ?_⟩) (by assumption) ?_
                        rotate_left 1
                        · (intro w hSw; (try dsimp only at hSw); go_simp; try with_reducible rfl)
                        try simp only [Act.put, List.setIfInBounds_toArray, List.set_cons_zero, List.set_cons_succ]
                        refine wpAnyH_take (i := 12) (v := ?_) (by simp only [List.getElem?_toArray, List.getElem?_cons_succ, List.getElem?_cons_zero]; exact rfl) (by kernel_rfl) (by kernel_rfl) (by kernel_rfl) (fun _ _ _ h => h) (Or.inl ⟨by rfl, ?_⟩) (by assumption) ?_
                        rotate_left 1
                        · (intro w hSw; (try dsimp only at hSw); go_simp; try with_reducible rfl)
                        try simp only [Act.put, List.setIfInBounds_toArray, List.set_cons_zero, List.set_cons_succ]
                        refine wpAnyH_take (i := 13) (v := ?_) (by simp only [List.getElem?_toArray, List.getElem?_cons_succ, List.getElem?_cons_zero]; exact rfl) (by kernel_rfl) (by kernel_rfl) (by kernel_rfl) (fun _ _ _ h => h) (Or.inl ⟨by rfl, ?_⟩) (by assumption) ?_
                        rotate_left 1
                        · (intro w hSw; (try dsimp only at hSw); go_simp; try with_reducible rfl)
                        try simp only [Act.put, List.setIfInBounds_toArray, List.set_cons_zero, List.set_cons_succ]
                        refine wpAnyH_take (i := 14) (v := ?_) (by simp only [List.getElem?_toArray, List.getElem?_cons_succ, List.getElem?_cons_zero]; exact rfl) (by kernel_rfl) (by kernel_rfl) (by kernel_rfl) (fun _ _ _ h => h) (Or.inl ⟨by rfl, ?_⟩) (by assumption) ?_
                        rotate_left 1
                        · (intro w hSw; (try dsimp only at hSw); go_simp; try with_reducible rfl)
                        try simp only [Act.put, List.setIfInBounds_toArray, List.set_cons_zero, List.set_cons_succ]
                        refine wpAnyH_take (i := 16) (v := ?_) (by simp only [List.getElem?_toArray, List.getElem?_cons_succ, List.getElem?_cons_zero]; exact rfl) (by kernel_rfl) (by kernel_rfl) (by kernel_rfl) (fun _ _ _ h => h) (Or.inl ⟨by rfl, ?_⟩) (by assumption) ?_
                        rotate_left 1
                        · (intro w hSw; (try dsimp only at hSw); go_simp; try with_reducible rfl)
                        try simp only [Act.put, List.setIfInBounds_toArray, List.set_cons_zero, List.set_cons_succ]
                        refine wpAnyH_take (i := 17) (v := ?_) (by simp only [List.getElem?_toArray, List.getElem?_cons_succ, List.getElem?_cons_zero]; exact rfl) (by kernel_rfl) (by kernel_rfl) (by kernel_rfl) (fun _ _ _ h => h) (Or.inl ⟨by rfl, ?_⟩) (by assumption) ?_
                        rotate_left 1
                        · (intro w hSw; (try dsimp only at hSw); go_simp; try with_reducible rfl)
                        try simp only [Act.put, List.setIfInBounds_toArray, List.set_cons_zero, List.set_cons_succ]
                        refine wpAnyH_take (i := 18) (v := ?_) (by simp only [List.getElem?_toArray, List.getElem?_cons_succ, List.getElem?_cons_zero]; exact rfl) (by kernel_rfl) (by kernel_rfl) (by kernel_rfl) (fun _ _ _ h => h) (Or.inl ⟨by rfl, ?_⟩) (by assumption) ?_
                        rotate_left 1
                        · (intro w hSw; (try dsimp only at hSw); go_simp; try with_reducible rfl)
                        try simp only [Act.put, List.setIfInBounds_toArray, List.set_cons_zero, List.set_cons_succ]
                        refine wpAnyH_take (i := 19) (v := ?_) (by simp only [List.getElem?_toArray, List.getElem?_cons_succ, List.getElem?_cons_zero]; exact rfl) (by kernel_rfl) (by kernel_rfl) (by kernel_rfl) (fun _ _ _ h => h) (Or.inl ⟨by rfl, ?_⟩) (by assumption) ?_
                        rotate_left 1
                        · (intro w hSw; (try dsimp only at hSw); go_simp; try with_reducible rfl)
                        try simp only [Act.put, List.setIfInBounds_toArray, List.set_cons_zero, List.set_cons_succ]
                        refine wpAnyH_take (i := 20) (v := ?_) (by simp only [List.getElem?_toArray, List.getElem?_cons_succ, List.getElem?_cons_zero]; exact rfl) (by kernel_rfl) (by kernel_rfl) (by kernel_rfl) (fun _ _ _ h => h) (Or.inl ⟨by rfl, ?_⟩) (by assumption) ?_
                        rotate_left 1
                        · (intro w hSw; (try dsimp only at hSw); go_simp; try with_reducible rfl)
                        try simp only [Act.put, List.setIfInBounds_toArray, List.set_cons_zero, List.set_cons_succ]
                        refine wpAnyH_ready (rs := [4]) (by kernel_rfl) (by simp) ?_
                        refine (AllReadyH.cons (by simp only [List.getElem?_toArray, List.getElem?_cons_succ, List.getElem?_cons_zero]; exact rfl) (fun K hK => ?_) AllReadyH.nil)
                        go_simp
                        refine (HSN.out _ hHeld.2.2.2.2).mono ?_
                        rintro e vW ⟨rfl, hB⟩
                        go_wp2_with fail
                        refine hK.out _ _ (HS.out _ (hHeld.2.2.2.2.trans (hB.mono hHeld.2.2.2.2.size))) (fun hHeld => ?_)
                        clear hK K
                        try simp only [Act.put, List.setIfInBounds_toArray, List.set_cons_zero, List.set_cons_succ]
                        refine wpAnyH_take (i := 10) (v := ?_) (by simp only [List.getElem?_toArray, List.getElem?_cons_succ, List.getElem?_cons_zero]; exact rfl) (by kernel_rfl) (by kernel_rfl) (by kernel_rfl) (fun _ _ _ h => h) (Or.inl ⟨by rfl, ?_⟩) (by assumption) ?_
                        rotate_left 1
                        · (intro w hSw; (try dsimp only at hSw); go_simp; try with_reducible rfl)
                        try simp only [Act.put, List.setIfInBounds_toArray, List.set_cons_zero, List.set_cons_succ]
                        refine wpAnyH_ready (rs := [15]) (by kernel_rfl) (by simp) ?_
                        refine (AllReadyH.cons (by simp only [List.getElem?_toArray, List.getElem?_cons_succ, List.getElem?_cons_zero]; exact rfl) (fun K hK => ?_) AllReadyH.nil)
                        go_simp
                        refine (HSO.out _ hHeld.2.2.2.2).mono ?_
                        rintro e vW ⟨rfl, hB⟩
                        go_wp2_with fail
                        refine hK.out _ _ (HS.out _ (hHeld.2.2.2.2.trans (hB.mono hHeld.2.2.2.2.size))) (fun hHeld => ?_)
                        clear hK K
                        try simp only [Act.put, List.setIfInBounds_toArray, List.set_cons_zero, List.set_cons_succ]
                        refine wpAnyH_take (i := 21) (v := ?_) (by simp only [List.getElem?_toArray, List.getElem?_cons_succ, List.getElem?_cons_zero]; exact rfl) (by kernel_rfl) (by kernel_rfl) (by kernel_rfl) (fun _ _ _ h => h) (Or.inl ⟨by rfl, ?_⟩) (by assumption) ?_
                        rotate_left 1
                        · (intro w hSw; (try dsimp only at hSw); go_simp; try with_reducible rfl)
                        try simp only [Act.put, List.setIfInBounds_toArray, List.set_cons_zero, List.set_cons_succ]
                        refine wpAnyH_take (i := 22) (v := ?_) (by simp only [List.getElem?_toArray, List.getElem?_cons_succ, List.getElem?_cons_zero]; exact rfl) (by kernel_rfl) (by kernel_rfl) (by kernel_rfl) (fun _ _ _ h => h) (Or.inl ⟨by rfl, ?_⟩) (by assumption) ?_
                        rotate_left 1
                        · (intro w hSw; (try dsimp only at hSw); go_simp; try with_reducible rfl)
                        try simp only [Act.put, List.setIfInBounds_toArray, List.set_cons_zero, List.set_cons_succ]
                        refine wpAnyH_take (i := 23) (v := ?_) (by simp only [List.getElem?_toArray, List.getElem?_cons_succ, List.getElem?_cons_zero]; exact rfl) (by kernel_rfl) (by kernel_rfl) (by kernel_rfl) (fun _ _ _ h => h) (Or.inl ⟨by rfl, ?_⟩) (by assumption) ?_
                        rotate_left 1
                        · (intro w hSw; (try dsimp only at hSw); go_simp; try with_reducible rfl)
                        try simp only [Act.put, List.setIfInBounds_toArray, List.set_cons_zero, List.set_cons_succ]
                        refine wpAnyH_done (by kernel_rfl) ?_ _
                        refine NoPanic.normal ?_
                        have HX27 := Lib.hid hHeld.2.2.2.2
                        have hck := HKC.out _ hHeld.2.2.2.2
                        clear hHeld
                        rcases HCS.out with ⟨rfl, hsame, e1, e2⟩ | ⟨rfl, e1, e2⟩ | ⟨rfl, hsame, e1, e2⟩
                        · subst e1 e2
                          obtain ⟨hc1, hc2, -, -, -⟩ := HS.out _ HX27.out.drew
                          obtain ⟨cva, cvb⟩ := HCV.out _ HX27.out.drew
                          obtain ⟨sX, hsX⟩ : ∃ s, strOf (blkL lw i) = s := ⟨_, rfl⟩
                          rw [hsame] at cvb
                          rw [hsX] at cva cvb
                          have HST := Lib.hid (And.intro hc1 (And.intro hc2 (And.intro cva cvb)))
                          clear hc1 hc2 cva cvb hsX hsame
                          go_wp2
                          clear hck
                          refine wp_region_noPanic ?_
                          refine wp_region_held_drew (S := (fun u : World => u.cell? ⟨gb, ob + i, none⟩ = some (.slice qb lb db) ∧ u.cell? ⟨ga, oa + i, none⟩ = some (.slice qa la da) ∧ (convert 53 9 (.slice qa la da)).run Tryz.prog u = .ok (.string sX) u ∧ (convert 53 9 (.slice qb lb db)).run Tryz.prog u = .ok (.string sX) u)) (by kernel_rfl) (HST.out) (fun hHeld => ?_)
                          refine wpAnyH_take (i := 0) (v := ?_) (by simp only [List.getElem?_toArray, List.getElem?_cons_succ, List.getElem?_cons_zero]; exact rfl) (by kernel_rfl) (by kernel_rfl) (by kernel_rfl) (fun _ _ _ h => h) (Or.inl ⟨by rfl, ?_⟩) (by assumption) ?_
                          rotate_left 1
                          · (intro w hSw; (try dsimp only at hSw); go_simp; try with_reducible rfl)
                          try simp only [Act.put, List.setIfInBounds_toArray, List.set_cons_zero, List.set_cons_succ]
                          refine wpAnyH_take (i := 1) (v := ?_) (by simp only [List.getElem?_toArray, List.getElem?_cons_succ, List.getElem?_cons_zero]; exact rfl) (by kernel_rfl) (by kernel_rfl) (by kernel_rfl) (fun _ _ _ h => h) (Or.inl ⟨by rfl, ?_⟩) (by assumption) ?_
                          rotate_left 1
                          · (intro w hSw; (try dsimp only at hSw); go_simp; try with_reducible rfl)
                          try simp only [Act.put, List.setIfInBounds_toArray, List.set_cons_zero, List.set_cons_succ]
                          refine wpAnyH_take (i := 2) (v := ?_) (by simp only [List.getElem?_toArray, List.getElem?_cons_succ, List.getElem?_cons_zero]; exact rfl) (by kernel_rfl) (by kernel_rfl) (by kernel_rfl) (fun _ _ _ h => h) (Or.inl ⟨by rfl, ?_⟩) (by assumption) ?_
                          rotate_left 1
                          · (intro w hSw; (try dsimp only at hSw); go_simp; try with_reducible rfl)
                          try simp only [Act.put, List.setIfInBounds_toArray, List.set_cons_zero, List.set_cons_succ]
                          refine wpAnyH_take (i := 3) (v := ?_) (by simp only [List.getElem?_toArray, List.getElem?_cons_succ, List.getElem?_cons_zero]; exact rfl) (by kernel_rfl) (by kernel_rfl) (by kernel_rfl) (fun _ _ _ h => h) (Or.inl ⟨by rfl, ?_⟩) (by assumption) ?_
                          rotate_left 1
                          · (intro w hSw; (try dsimp only at hSw); go_simp; try with_reducible rfl)
                          try simp only [Act.put, List.setIfInBounds_toArray, List.set_cons_zero, List.set_cons_succ]
                          refine wpAnyH_take (i := 4) (v := ?_) (by simp only [List.getElem?_toArray, List.getElem?_cons_succ, List.getElem?_cons_zero]; exact rfl) (by kernel_rfl) (by kernel_rfl) (by kernel_rfl) (fun _ _ _ h => h) (Or.inl ⟨by rfl, ?_⟩) (by assumption) ?_
                          rotate_left 1
                          · (intro w hSw; (try dsimp only at hSw); go_simp; try with_reducible rfl)
                          try simp only [Act.put, List.setIfInBounds_toArray, List.set_cons_zero, List.set_cons_succ]
                          refine wpAnyH_take (i := 5) (v := ?_) (by simp only [List.getElem?_toArray, List.getElem?_cons_succ, List.getElem?_cons_zero]; exact rfl) (by kernel_rfl) (by kernel_rfl) (by kernel_rfl) (fun _ _ _ h => h) (Or.inl ⟨by rfl, ?_⟩) (by assumption) ?_
                          rotate_left 1
                          · (intro w hSw; (try dsimp only at hSw); go_simp; try with_reducible rfl)
                          try simp only [Act.put, List.setIfInBounds_toArray, List.set_cons_zero, List.set_cons_succ]
                          refine wpAnyH_take (i := 6) (v := ?_) (by simp only [List.getElem?_toArray, List.getElem?_cons_succ, List.getElem?_cons_zero]; exact rfl) (by kernel_rfl) (by kernel_rfl) (by kernel_rfl) (fun _ _ _ h => h) (Or.inl ⟨by rfl, ?_⟩) (by assumption) ?_
                          rotate_left 1
                          · (intro w hSw; (try dsimp only at hSw); go_simp; try with_reducible rfl)
                          try simp only [Act.put, List.setIfInBounds_toArray, List.set_cons_zero, List.set_cons_succ]
                          refine wpAnyH_take (i := 7) (v := ?_) (by simp only [List.getElem?_toArray, List.getElem?_cons_succ, List.getElem?_cons_zero]; exact rfl) (by kernel_rfl) (by kernel_rfl) (by kernel_rfl) (fun _ _ _ h => h) (Or.inl ⟨by rfl, ?_⟩) (by assumption) ?_
                          rotate_left 1
                          · (intro w hSw; (try dsimp only at hSw); go_simp; try with_reducible rfl)
                          try simp only [Act.put, List.setIfInBounds_toArray, List.set_cons_zero, List.set_cons_succ]
                          refine wpAnyH_take (i := 8) (v := ?_) (by simp only [List.getElem?_toArray, List.getElem?_cons_succ, List.getElem?_cons_zero]; exact rfl) (by kernel_rfl) (by kernel_rfl) (by kernel_rfl) (fun _ _ _ h => h) (Or.inl ⟨by rfl, ?_⟩) (by assumption) ?_
                          rotate_left 1
                          · (intro w hSw; (try dsimp only at hSw); go_simp; try with_reducible rfl)
                          try simp only [Act.put, List.setIfInBounds_toArray, List.set_cons_zero, List.set_cons_succ]
                          refine wpAnyH_take (i := 9) (v := ?_) (by simp only [List.getElem?_toArray, List.getElem?_cons_succ, List.getElem?_cons_zero]; exact rfl) (by kernel_rfl) (by kernel_rfl) (by kernel_rfl) (fun _ _ _ h => h) (Or.inl ⟨by rfl, ?_⟩) (by assumption) ?_
                          rotate_left 1
                          · (intro w hSw; (try dsimp only at hSw); go_simp; try with_reducible rfl)
                          try simp only [Act.put, List.setIfInBounds_toArray, List.set_cons_zero, List.set_cons_succ]
                          refine wpAnyH_take (i := 10) (v := ?_) (by simp only [List.getElem?_toArray, List.getElem?_cons_succ, List.getElem?_cons_zero]; exact rfl) (by kernel_rfl) (by kernel_rfl) (by kernel_rfl) (fun _ _ _ h => h) (Or.inl ⟨by rfl, ?_⟩) (by assumption) ?_
                          rotate_left 1
                          · (intro w hSw; (try dsimp only at hSw); go_simp; try with_reducible rfl)
                          try simp only [Act.put, List.setIfInBounds_toArray, List.set_cons_zero, List.set_cons_succ]
                          refine wpAnyH_take (i := 11) (v := ?_) (by simp only [List.getElem?_toArray, List.getElem?_cons_succ, List.getElem?_cons_zero]; exact rfl) (by kernel_rfl) (by kernel_rfl) (by kernel_rfl) (fun _ _ _ h => h) (Or.inl ⟨by rfl, ?_⟩) (by assumption) ?_
                          rotate_left 1
                          · (intro w hSw; (try dsimp only at hSw); go_simp; try with_reducible rfl)
                          try simp only [Act.put, List.setIfInBounds_toArray, List.set_cons_zero, List.set_cons_succ]
                          refine wpAnyH_take (i := 12) (v := ?_) (by simp only [List.getElem?_toArray, List.getElem?_cons_succ, List.getElem?_cons_zero]; exact rfl) (by kernel_rfl) (by kernel_rfl) (by kernel_rfl) (fun _ _ _ h => h) (Or.inl ⟨by rfl, ?_⟩) (by assumption) ?_
                          rotate_left 1
                          · (intro w hSw; (try dsimp only at hSw); go_simp; try with_reducible rfl)
                          try simp only [Act.put, List.setIfInBounds_toArray, List.set_cons_zero, List.set_cons_succ]
                          refine wpAnyH_take (i := 13) (v := ?_) (by simp only [List.getElem?_toArray, List.getElem?_cons_succ, List.getElem?_cons_zero]; exact rfl) (by kernel_rfl) (by kernel_rfl) (by kernel_rfl) (fun _ _ _ h => h) (Or.inl ⟨by rfl, ?_⟩) (by assumption) ?_
                          rotate_left 1
                          · (intro w hSw; (try dsimp only at hSw); go_simp; try with_reducible rfl)
                          try simp only [Act.put, List.setIfInBounds_toArray, List.set_cons_zero, List.set_cons_succ]
                          refine wpAnyH_take (i := 14) (v := ?_) (by simp only [List.getElem?_toArray, List.getElem?_cons_succ, List.getElem?_cons_zero]; exact rfl) (by kernel_rfl) (by kernel_rfl) (by kernel_rfl) (fun _ _ _ h => h) (Or.inl ⟨by rfl, ?_⟩) (by assumption) ?_
                          rotate_left 1
                          · (intro w hSw; (try dsimp only at hSw); go_simp; try with_reducible rfl)
                          try simp only [Act.put, List.setIfInBounds_toArray, List.set_cons_zero, List.set_cons_succ]
                          refine wpAnyH_done (by kernel_rfl) ?_ _
                          refine NoPanic.normal ?_
                          clear hHeld
                          go_wp2
                          go_roundw
                          case rel => exact ⟨i + 1, by omega, by go_num, (HBR.out.trans (HX27.out.mono HBR.out.size)).drew⟩
                          case measure => simp [intOf]; omega
                        · subst e1 e2
                          go_wp2
                          go_roundw
                          case rel => exact ⟨i + 1, by omega, by go_num, HBR.out.trans (HX27.out.mono HBR.out.size)⟩
                          case measure => simp [intOf]; omega
                        · subst e1 e2
                          obtain ⟨hc1, hc2, -, -, -⟩ := HS.out _ HX27.out.drew
                          obtain ⟨cva, cvb⟩ := HCV.out _ HX27.out.drew
                          obtain ⟨sX, hsX⟩ : ∃ s, strOf (blkL lw i) = s := ⟨_, rfl⟩
                          rw [hsame] at cvb
                          rw [hsX] at cva cvb
                          have HST := Lib.hid (And.intro hc1 (And.intro hc2 (And.intro cva cvb)))
                          clear hc1 hc2 cva cvb hsX hsame
                          go_wp2
                          clear hck
                          refine wp_region_noPanic ?_
                          refine wp_region_held_drew (S := (fun u : World => u.cell? ⟨gb, ob + i, none⟩ = some (.slice qb lb db) ∧ u.cell? ⟨ga, oa + i, none⟩ = some (.slice qa la da) ∧ (convert 53 9 (.slice qa la da)).run Tryz.prog u = .ok (.string sX) u ∧ (convert 53 9 (.slice qb lb db)).run Tryz.prog u = .ok (.string sX) u)) (by kernel_rfl) (HST.out) (fun hHeld => ?_)
                          refine wpAnyH_take (i := 0) (v := ?_) (by simp only [List.getElem?_toArray, List.getElem?_cons_succ, List.getElem?_cons_zero]; exact rfl) (by kernel_rfl) (by kernel_rfl) (by kernel_rfl) (fun _ _ _ h => h) (Or.inl ⟨by rfl, ?_⟩) (by assumption) ?_
                          rotate_left 1
                          · (intro w hSw; (try dsimp only at hSw); go_simp; try with_reducible rfl)
                          try simp only [Act.put, List.setIfInBounds_toArray, List.set_cons_zero, List.set_cons_succ]
                          refine wpAnyH_take (i := 1) (v := ?_) (by simp only [List.getElem?_toArray, List.getElem?_cons_succ, List.getElem?_cons_zero]; exact rfl) (by kernel_rfl) (by kernel_rfl) (by kernel_rfl) (fun _ _ _ h => h) (Or.inl ⟨by rfl, ?_⟩) (by assumption) ?_
                          rotate_left 1
                          · (intro w hSw; (try dsimp only at hSw); go_simp; try with_reducible rfl)
                          try simp only [Act.put, List.setIfInBounds_toArray, List.set_cons_zero, List.set_cons_succ]
                          refine wpAnyH_take (i := 2) (v := ?_) (by simp only [List.getElem?_toArray, List.getElem?_cons_succ, List.getElem?_cons_zero]; exact rfl) (by kernel_rfl) (by kernel_rfl) (by kernel_rfl) (fun _ _ _ h => h) (Or.inl ⟨by rfl, ?_⟩) (by assumption) ?_
                          rotate_left 1
                          · (intro w hSw; (try dsimp only at hSw); go_simp; try with_reducible rfl)
                          try simp only [Act.put, List.setIfInBounds_toArray, List.set_cons_zero, List.set_cons_succ]
                          refine wpAnyH_take (i := 3) (v := ?_) (by simp only [List.getElem?_toArray, List.getElem?_cons_succ, List.getElem?_cons_zero]; exact rfl) (by kernel_rfl) (by kernel_rfl) (by kernel_rfl) (fun _ _ _ h => h) (Or.inl ⟨by rfl, ?_⟩) (by assumption) ?_
                          rotate_left 1
                          · (intro w hSw; (try dsimp only at hSw); go_simp; try with_reducible rfl)
                          try simp only [Act.put, List.setIfInBounds_toArray, List.set_cons_zero, List.set_cons_succ]
                          refine wpAnyH_take (i := 4) (v := ?_) (by simp only [List.getElem?_toArray, List.getElem?_cons_succ, List.getElem?_cons_zero]; exact rfl) (by kernel_rfl) (by kernel_rfl) (by kernel_rfl) (fun _ _ _ h => h) (Or.inl ⟨by rfl, ?_⟩) (by assumption) ?_
                          rotate_left 1
                          · (intro w hSw; (try dsimp only at hSw); go_simp; try with_reducible rfl)
                          try simp only [Act.put, List.setIfInBounds_toArray, List.set_cons_zero, List.set_cons_succ]
                          refine wpAnyH_take (i := 5) (v := ?_) (by simp only [List.getElem?_toArray, List.getElem?_cons_succ, List.getElem?_cons_zero]; exact rfl) (by kernel_rfl) (by kernel_rfl) (by kernel_rfl) (fun _ _ _ h => h) (Or.inl ⟨by rfl, ?_⟩) (by assumption) ?_
                          rotate_left 1
                          · (intro w hSw; (try dsimp only at hSw); go_simp; try with_reducible rfl)
                          try simp only [Act.put, List.setIfInBounds_toArray, List.set_cons_zero, List.set_cons_succ]
                          refine wpAnyH_take (i := 6) (v := ?_) (by simp only [List.getElem?_toArray, List.getElem?_cons_succ, List.getElem?_cons_zero]; exact rfl) (by kernel_rfl) (by kernel_rfl) (by kernel_rfl) (fun _ _ _ h => h) (Or.inl ⟨by rfl, ?_⟩) (by assumption) ?_
                          rotate_left 1
                          · (intro w hSw; (try dsimp only at hSw); go_simp; try with_reducible rfl)
                          try simp only [Act.put, List.setIfInBounds_toArray, List.set_cons_zero, List.set_cons_succ]
                          refine wpAnyH_take (i := 7) (v := ?_) (by simp only [List.getElem?_toArray, List.getElem?_cons_succ, List.getElem?_cons_zero]; exact rfl) (by kernel_rfl) (by kernel_rfl) (by kernel_rfl) (fun _ _ _ h => h) (Or.inl ⟨by rfl, ?_⟩) (by assumption) ?_
                          rotate_left 1
                          · (intro w hSw; (try dsimp only at hSw); go_simp; try with_reducible rfl)
                          try simp only [Act.put, List.setIfInBounds_toArray, List.set_cons_zero, List.set_cons_succ]
                          refine wpAnyH_take (i := 8) (v := ?_) (by simp only [List.getElem?_toArray, List.getElem?_cons_succ, List.getElem?_cons_zero]; exact rfl) (by kernel_rfl) (by kernel_rfl) (by kernel_rfl) (fun _ _ _ h => h) (Or.inl ⟨by rfl, ?_⟩) (by assumption) ?_
                          rotate_left 1
                          · (intro w hSw; (try dsimp only at hSw); go_simp; try with_reducible rfl)
                          try simp only [Act.put, List.setIfInBounds_toArray, List.set_cons_zero, List.set_cons_succ]
                          refine wpAnyH_take (i := 9) (v := ?_) (by simp only [List.getElem?_toArray, List.getElem?_cons_succ, List.getElem?_cons_zero]; exact rfl) (by kernel_rfl) (by kernel_rfl) (by kernel_rfl) (fun _ _ _ h => h) (Or.inl ⟨by rfl, ?_⟩) (by assumption) ?_
                          rotate_left 1
                          · (intro w hSw; (try dsimp only at hSw); go_simp; try with_reducible rfl)
                          try simp only [Act.put, List.setIfInBounds_toArray, List.set_cons_zero, List.set_cons_succ]
                          refine wpAnyH_take (i := 10) (v := ?_) (by simp only [List.getElem?_toArray, List.getElem?_cons_succ, List.getElem?_cons_zero]; exact rfl) (by kernel_rfl) (by kernel_rfl) (by kernel_rfl) (fun _ _ _ h => h) (Or.inl ⟨by rfl, ?_⟩) (by assumption) ?_
                          rotate_left 1
                          · (intro w hSw; (try dsimp only at hSw); go_simp; try with_reducible rfl)
                          try simp only [Act.put, List.setIfInBounds_toArray, List.set_cons_zero, List.set_cons_succ]
                          refine wpAnyH_take (i := 11) (v := ?_) (by simp only [List.getElem?_toArray, List.getElem?_cons_succ, List.getElem?_cons_zero]; exact rfl) (by kernel_rfl) (by kernel_rfl) (by kernel_rfl) (fun _ _ _ h => h) (Or.inl ⟨by rfl, ?_⟩) (by assumption) ?_
                          rotate_left 1
                          · (intro w hSw; (try dsimp only at hSw); go_simp; try with_reducible rfl)
                          try simp only [Act.put, List.setIfInBounds_toArray, List.set_cons_zero, List.set_cons_succ]
                          refine wpAnyH_take (i := 12) (v := ?_) (by simp only [List.getElem?_toArray, List.getElem?_cons_succ, List.getElem?_cons_zero]; exact rfl) (by kernel_rfl) (by kernel_rfl) (by kernel_rfl) (fun _ _ _ h => h) (Or.inl ⟨by rfl, ?_⟩) (by assumption) ?_
                          rotate_left 1
                          · (intro w hSw; (try dsimp only at hSw); go_simp; try with_reducible rfl)
                          try simp only [Act.put, List.setIfInBounds_toArray, List.set_cons_zero, List.set_cons_succ]
                          refine wpAnyH_take (i := 13) (v := ?_) (by simp only [List.getElem?_toArray, List.getElem?_cons_succ, List.getElem?_cons_zero]; exact rfl) (by kernel_rfl) (by kernel_rfl) (by kernel_rfl) (fun _ _ _ h => h) (Or.inl ⟨by rfl, ?_⟩) (by assumption) ?_
                          rotate_left 1
                          · (intro w hSw; (try dsimp only at hSw); go_simp; try with_reducible rfl)
                          try simp only [Act.put, List.setIfInBounds_toArray, List.set_cons_zero, List.set_cons_succ]
                          refine wpAnyH_done (by kernel_rfl) ?_ _
                          refine NoPanic.normal ?_
                          clear hHeld
                          go_wp2
                          go_roundw
                          case rel => exact ⟨i + 1, by omega, by go_num, (HBR.out.trans (HX27.out.mono HBR.out.size)).drew⟩
                          case measure => simp [intOf]; omega
                      · have y1 : ¬ (i : Int) < (nb : Int) := by omega
                        have y2 : decide ((i : Int) < (nb : Int)) = false := decide_eq_false y1
                        have y3 : decide (i < nb) = false := decide_eq_false hlt
                        clear hB
                        go_wp2
                        go_ret
                        exact ⟨rfl, by rw [← hb0]; exact HB1.out.trans (HXW.out.mono HB1.out.size)⟩
          · have hno : goodR P = false ∨ P.dead = true := by
              rw [← hgr, hde]
              cases h1 : goodR r
              · exact .inl rfl
              · cases h2 : r.dead
                · exact absurd ⟨h1, h2⟩ hok
                · exact .inr rfl
            have HM := Lib.hid (mendNo12 P (by omega) hwh hno (.slice p6 n c6) (.slice p7 n2 c7) w7)
            rw [HVP.out] at HM
            have HNO := Lib.hid hno
            rw [← hgr, hde] at HNO
            clear hno hok hgr hpl hde hwh
            go_wp2_with fail
            refine HM.out.mono ?_
            rintro e w8 ⟨rfl, hB8⟩
            have HX8 := Lib.hid (HX7.out.trans (hB8.mono HX7.out.size))
            have cv1 := conv_str w8 p6 l n c6 (HO7.out.1.of_below hB8) HLN.out.1 HO6.out.2.1
            have cv2 := conv_str w8 p7 l2 n2 c7 (HO7.out.2.1.of_below hB8) HLN.out.2.2.2.1 HO7.out.2.2.1
            have cv3 := conv_str w8 q l n cap (HSL.out _ HX8.out).1 HLN.out.1 HLN.out.2.1
            have cv4 := conv_str w8 q2 l2 n2 cap2 (HSL.out _ HX8.out).2 HLN.out.2.2.2.1 HLN.out.2.2.2.2.1
            obtain ⟨sA, hsA⟩ : ∃ s, strOf l = s := ⟨_, rfl⟩
            obtain ⟨sB, hsB⟩ : ∃ s, strOf l2 = s := ⟨_, rfl⟩
            rw [hsA] at cv1 cv3
            rw [hsB] at cv2 cv4
            have ld8 := loadRT rtM (HR.out _ HX8.out)
            rw [HV.out] at ld8
            obtain ⟨G, hG⟩ : ∃ b, goodR r = b := ⟨_, rfl⟩
            obtain ⟨dd, hdd⟩ : ∃ b, r.dead = b := ⟨_, rfl⟩
            rw [hG] at HNO HGR
            rw [hdd] at HNO
            have HDD := Lib.hid hdd
            clear hB8 ld5 hsA hsB hG hdd HM
            go_wp2_with fail
            refine (HGR.out _).mono ?_
            rintro e w9 ⟨rfl, hB9⟩
            have HX9 := Lib.hid (HX8.out.trans (hB9.mono HX8.out.size))
            have c20 := rc_dead (HR.out _ HX9.out)
            rw [HDD.out] at c20
            clear hB9 cv1 cv2 cv3 cv4 ld8
            cases G with
            | false =>
              go_wp2
              go_ret
              exact ⟨rfl, by rw [← hb0]; exact HB1.out.trans (HX9.out.mono HB1.out.size)⟩
            | true =>
              have hd1 : dd = true := by rcases HNO.out with h | h; cases h; exact h
              subst hd1
              go_wp2
              go_ret
              exact ⟨rfl, by rw [← hb0]; exact HB1.out.trans (HX9.out.mono HB1.out.size)⟩
        · have z4 : (3000 : Int) < (n2 : Int) := by omega
          have d4 : decide ((3000 : Int) < (n2 : Int)) = true := decide_eq_true z4
          go_wp2_with fail
          refine (HAW.out w2 HX2.out).mono ?_
          rintro e w3 ⟨rfl, hB3⟩
          have HB3 := Lib.hid (HX2.out.trans (hB3.mono HX2.out.size))
          clear hB3
          go_wp2
          go_ret
          exact ⟨rfl, by rw [← hb0]; exact HB1.out.trans (HB3.out.mono HB1.out.size)⟩
      · have z3 : (3000 : Int) < (n : Int) := by omega
        have d3 : decide ((3000 : Int) < (n : Int)) = true := decide_eq_true z3
        go_wp2_with fail
        refine (HAW.out w2 HX2.out).mono ?_
        rintro e w3 ⟨rfl, hB3⟩
        have HB3 := Lib.hid (HX2.out.trans (hB3.mono HX2.out.size))
        clear hB3
        go_wp2
        go_ret
        exact ⟨rfl, by rw [← hb0]; exact HB1.out.trans (HB3.out.mono HB1.out.size)⟩
    · have z2 : (100 : Int) < (r.n : Int) := by omega
      have d2 : decide ((100 : Int) < (r.n : Int)) = true := decide_eq_true z2
      go_wp2_with fail
      refine (HAW.out w2 HX2.out).mono ?_
      rintro e w3 ⟨rfl, hB3⟩
      have HB3 := Lib.hid (HX2.out.trans (hB3.mono HX2.out.size))
      clear hB3
      go_wp2
      go_ret
      exact ⟨rfl, by rw [← hb0]; exact HB1.out.trans (HB3.out.mono HB1.out.size)⟩
  · have z1 : (200 : Int) < (r.path.length : Int) := by omega
    have d1 : decide ((200 : Int) < (r.path.length : Int)) = true := decide_eq_true z1
    go_wp2_with fail
    refine (HAW.out w2 HX2.out).mono ?_
    rintro e w3 ⟨rfl, hB3⟩
    have HB3 := Lib.hid (HX2.out.trans (hB3.mono HX2.out.size))
    clear hB3
    go_wp2
    go_ret
    exact ⟨rfl, by rw [← hb0]; exact HB1.out.trans (HB3.out.mono HB1.out.size)⟩
end Go.Proofs.YtnmopjefjpifoaaGreatDoor
