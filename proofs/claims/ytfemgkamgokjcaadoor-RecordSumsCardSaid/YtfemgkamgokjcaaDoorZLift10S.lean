/- For every record and every byte the statement RecordSums returns true, and leaves the record as it was.
   Conditions: the package variables api.Words256, api.First256, utf8.acceptRanges, utf8.first of the library hold, when the call begins, what the program's text lays (the card ties them to a pruned copy of the project; code outside that copy is not spoken of). -/
import Derived.Test.YtfemgkamgokjcaaDoorK9
import Derived.Test.YtfemgkamgokjcaaDoorK7
import Derived.Test.YtfemgkamgokjcaaDoorK6
import Derived.Test.YtfemgkamgokjcaaDoorCards
import Derived.Test.YtfemgkamgokjcaaDoorTie
import Derived.Stop.LaidErr
/- RecordSums. -/
set_option linter.unusedSimpArgs false
set_option maxRecDepth 100000
set_option linter.unusedVariables false
namespace Go.Proofs.YtfemgkamgokjcaaDoor
open Go Go.RowKit

attribute [-go_sem] Sha.exec_store
attribute [local go_sem ↓] exec_boxA exec_loadA exec_indexA exec_allocA exec_storeA exec_buildA exec_eqlA exec_neqA exec_boxV exec_loadV exec_indexV exec_allocV exec_storeV exec_buildV exec_eqlV exec_neqV
attribute [local go_sem] boxA indexA storeNewA buildA eqlA neqA boxV indexV storeNewV buildV eqlV neqV

attribute [local go_sem ↓] exec_loadS exec_boxS exec_boxP exec_boxM exec_allocP exec_allocM exec_storeP exec_storeM exec_buildP exec_buildM exec_buildS exec_load32 exec_build32 exec_eqlD exec_neqD exec_loadM exec_loadP exec_store32F
attribute [local go_sem] box_stamp boxP boxM bd32 eqlD neqD
set_option maxRecDepth 100000 in
set_option maxHeartbeats 16000000 in
theorem sums10_any (r : Rc) (ds : List By) (bx : Nat) (w : World) (h : DgAt w r ds) (hin : RcIn r) (hx : bx < 256) (hT : Tb w) :
    Calls Tryd.prog 4 #[rcV r, .int .u8 (bx : Int)] w fun e w' => e = .returned (.bool true) ∧ Below w.heap.size w w' := by
  have HAW := Lib.hid awake10
  have HSMA := Lib.hid (fun u => small10_any r u)
  obtain ⟨b0, hb0⟩ : ∃ b, w.heap.size = b := ⟨_, rfl⟩
  obtain ⟨W1, hW1⟩ : ∃ W, w.alloc (.cells (tab 54 (rcF r)) 26) = W := ⟨_, rfl⟩
  have hB1 : Below w.heap.size w W1 := by rw [← hW1]; exact below_newD _ _
  have hR1 : Row W1 b0 26 54 (rcF r) := by rw [← hb0, ← hW1]; exact Row.new _ _ _ _
  obtain ⟨V, hV⟩ : ∃ V, rcV r = V := ⟨_, rfl⟩
  have x1 : (bxT 26 V).run Tryd.prog w = .ok (.value (.pointer (some ⟨w.heap.size, 0, none⟩))) W1 := by rw [← hV, ← hW1]; exact boxM w _
  have HV := Lib.hid hV
  rw [hV]
  rw [hV] at HSMA
  have HB1 := Lib.hid hB1
  have HD := Lib.hid (fun (u : World) (hu : Below W1.heap.size W1 u) => (h.of_below hB1).of_below hu)
  have HR := Lib.hid (fun (u : World) (hu : Below W1.heap.size W1 u) => hR1.of_below hu)
  have HTB := Lib.hid (fun (u : World) (hu : Below W1.heap.size W1 u) => hT.on (hB1.trans (hu.mono hB1.size)))
  have HIN := Lib.hid hin
  have HT0 := Lib.hid hT
  clear hB1 hR1 h hT hin hV
  obtain ⟨p, s, t, c, f, d, wh, q, n, cap⟩ := r
  go_enter Tryd.func4, Tryd.ntmps4
  try rw [hb0]
  rw [hb0] at x1
  go_wp2_with fail
  clear x1 hW1
  refine (HAW.out _).mono ?_
  rintro e w2 ⟨rfl, hB2⟩
  have HX2 := Lib.hid (show Below W1.heap.size W1 w2 from hB2)
  have ld := loadRT rtM (HR.out _ HX2.out)
  rw [HV.out] at ld
  clear hB2
  go_wp2_with fail
  clear ld
  refine (HSMA.out _).mono ?_
  rintro e w3 ⟨rfl, hB3⟩
  have HX3 := Lib.hid (HX2.out.trans (hB3.mono HX2.out.size))
  have a0 := rc_path (HR.out _ HX3.out)
  have a1 := rc_size (HR.out _ HX3.out)
  have a2 := rc_time (HR.out _ HX3.out)
  have a3 := rc_chg (HR.out _ HX3.out)
  have a7 := rc_blocks (HR.out _ HX3.out)
  dsimp only at a0 a1 a2 a3 a7
  have hsz := mkS_size p
  clear hB3
  obtain ⟨SM, hSM⟩ : ∃ b, (decide (p.length ≤ 200) && decide (n ≤ 100)) = b := ⟨_, rfl⟩
  rw [hSM]
  clear hSM
  cases SM with
  | false =>
    go_wp2_with fail
    refine (HAW.out _).mono ?_
    rintro e w4 ⟨rfl, hB4⟩
    have HB4 := Lib.hid (HX3.out.trans (hB4.mono HX3.out.size))
    clear hB4
    go_wp2
    go_ret
    exact ⟨rfl, by rw [← hb0]; exact HB1.out.trans (HB4.out.mono HB1.out.size)⟩
  | true =>
    by_cases hp : p.length ≤ 100
    · have z0 : ¬ (100 : Int) < (p.length : Int) := by omega
      have d0 : decide ((100 : Int) < (p.length : Int)) = false := decide_eq_false z0
      by_cases hn : n ≤ 64
      · have z1 : ¬ (64 : Int) < (n : Int) := by omega
        have d1 : decide ((64 : Int) < (n : Int)) = false := decide_eq_false z1
        by_cases hs : 0 ≤ s
        · have z2 : ¬ s < 0 := by omega
          have d2 : decide (s < 0) = false := decide_eq_false z2
          by_cases ht : 0 ≤ t
          · have z3 : ¬ t < 0 := by omega
            have d3 : decide (t < 0) = false := decide_eq_false z3
            by_cases hc : 0 ≤ c
            · have z4 : ¬ c < 0 := by omega
              have d4 : decide (c < 0) = false := decide_eq_false z4
              have z9 : True := trivial
              obtain ⟨s', rfl⟩ := Int.eq_ofNat_of_zero_le hs
              obtain ⟨t', rfl⟩ := Int.eq_ofNat_of_zero_le ht
              obtain ⟨c', rfl⟩ := Int.eq_ofNat_of_zero_le hc
              have a4 := loadVT vtA (rc_ver (HR.out _ HX3.out))
              dsimp only at a4
              go_wp2_with fail
              go_loopw [6, 50] (fun s6 si wr => ∃ i : Nat, i ≤ 16 ∧ si = .int .i64 (i : Int) ∧ (∀ j, j < i → 0 ≤ f j ∧ f j ≤ 1099511627776) ∧ Below W1.heap.size W1 wr) (fun _ si _ => 16 - (intOf si).toNat)
              case atStart => exact ⟨0, Nat.zero_le _, rfl, fun j hj => absurd hj (Nat.not_lt_zero j), HX3.out⟩
              case round =>
                obtain ⟨i, hi, rfl, hfi, hB⟩ := hrel
                have HX4 := Lib.hid hB
                have HFI := Lib.hid hfi
                clear hB hfi a0 a1 a2 a3 a4 a7
                by_cases hlt : i < 16
                · have y1 : (i : Int) < 16 := by omega
                  have y2 : decide ((i : Int) < 16) = true := decide_eq_true y1
                  have hw := i64v i hlt
                  obtain ⟨m, hm⟩ : ∃ m, f i = m := ⟨_, rfl⟩
                  by_cases hv : 0 ≤ m ∧ m ≤ 1099511627776
                  · have v1 : ¬ m < 0 := by omega
                    have v2 : decide (m < 0) = false := decide_eq_false v1
                    have v3 : ¬ (1099511627776 : Int) < m := by omega
                    have v4 : decide ((1099511627776 : Int) < m) = false := decide_eq_false v3
                    have HM := Lib.hid hm
                    have HVV := Lib.hid hv
                    clear hv
                    go_wp2
                    go_roundw
                    case rel => exact ⟨i + 1, by omega, by go_num, fun j hj => by
                      by_cases e : j = i
                      · subst e; rw [HM.out]; exact HVV.out
                      · exact HFI.out j (by omega), HX4.out⟩
                    case measure => simp [intOf]; omega
                  · have HX4b := HX4
                    by_cases hv0 : m < 0
                    · have v2 : decide (m < 0) = true := decide_eq_true hv0
                      clear hv
                      go_wp2
                      go_ret
                      exact ⟨rfl, by rw [← hb0]; exact HB1.out.trans (HX4.out.mono HB1.out.size)⟩
                    · have v2 : decide (m < 0) = false := decide_eq_false hv0
                      have v3 : (1099511627776 : Int) < m := by omega
                      have v4 : decide ((1099511627776 : Int) < m) = true := decide_eq_true v3
                      clear hv
                      go_wp2
                      go_ret
                      exact ⟨rfl, by rw [← hb0]; exact HB1.out.trans (HX4.out.mono HB1.out.size)⟩
                · have y1 : ¬ (i : Int) < 16 := by omega
                  have y2 : decide ((i : Int) < 16) = false := decide_eq_false y1
                  have hff : ∀ j, j < 16 → 0 ≤ f j ∧ f j ≤ 1099511627776 := fun j hj => HFI.out j (by omega)
                  have ld := loadRT rtM (HR.out _ HX4.out)
                  rw [HV.out] at ld
                  have hs9 : (s' : Int) < 9223372036854775808 := HIN.out.size.2
                  have ht9 : (t' : Int) < 9223372036854775808 := HIN.out.time.2
                  have hc9 : (c' : Int) < 9223372036854775808 := HIN.out.chg.2
                  have hn9 := (HD.out _ HX4.out).n
                  dsimp only at hn9
                  have HBY := Lib.hid (refBytes10_any p s' t' c' f d wh q n cap ds wr (HD.out _ HX4.out) (by omega) (by omega) (by omega) (by omega) hff (by omega) (HTB.out _ HX4.out))
                  rw [HV.out] at HBY
                  obtain ⟨E, hE⟩ : ∃ E, encRc ⟨pB p, s', t', c', f, d, wh, ds⟩ = E := ⟨_, rfl⟩
                  have HE := Lib.hid hE
                  rw [hE] at HBY
                  have HFF := Lib.hid hff
                  have HZ := Lib.hid (show (s' : Int) < 9223372036854775808 ∧ (t' : Int) < 9223372036854775808 ∧ (c' : Int) < 9223372036854775808 ∧ n = ds.length from ⟨hs9, ht9, hc9, hn9⟩)
                  clear hE hff hs9 ht9 hc9 hn9
                  go_wp2_with fail
                  refine HBY.out.mono ?_
                  rintro e w5 ⟨v5, rfl, hO5, hB5⟩
                  have HX5 := Lib.hid (HX4.out.trans (hB5.mono HX4.out.size))
                  have HO5 := Lib.hid (hO5.lower HX4.out.size)
                  have a5 := rc_dead (HR.out _ HX5.out)
                  dsimp only at a5
                  clear ld hO5 hB5
                  have hb9 : b0 < W1.heap.size := (HR.out W1 (Below.refl _ _)).lt
                  have hRW := text_W (r := ⟨p, (s' : Int), (t' : Int), (c' : Int), f, d, wh, q, n, cap⟩) (HD.out _ HX5.out) hp hn ⟨hs, HZ.out.1⟩ ⟨ht, HZ.out.2.1⟩ ⟨hc, HZ.out.2.2.1⟩ HFF.out
                  have HTX := Lib.hid (show ∃ g, (∀ j, j < 16 → g j = f j) ∧ (parseC E = if goodR (Rc.cut ⟨p, (s' : Int), (t' : Int), (c' : Int), f, d, wh, q, n, cap⟩) then (0, some ((Rc.text ⟨p, (s' : Int), (t' : Int), (c' : Int), f, d, wh, q, n, cap⟩ ds).nrm g)) else (1, none)) ∧ ∀ q' c'', ((Rc.text ⟨p, (s' : Int), (t' : Int), (c' : Int), f, d, wh, q, n, cap⟩ ds).nrm g).rc q' c'' = { (Rc.mov (Rc.cut ⟨p, (s' : Int), (t' : Int), (c' : Int), f, d, wh, q, n, cap⟩) q' c'') with ver := g } from by
                    obtain ⟨g, hg, hpe⟩ := parseC_back hRW
                    refine ⟨g, hg, ?_, fun q' c'' => nrm_rc (HD.out _ HX5.out) hs ht hc g q' c''⟩
                    rw [goodT_cut (HD.out _ HX5.out) hs ht hc hg] at hpe
                    rw [← HE.out]
                    exact hpe)
                  have HST := Lib.hid (show (∀ z : BitVec 8, z ≠ E.getD (E.length - 1) 0#8 → parseC (E.set (E.length - 1) z) = (11, none)) ∧ E.length ≤ 9000 ∧ 32 ≤ E.length from by
                    rw [← HE.out]
                    exact ⟨fun z hz => parseC_set hRW z hz, encRc_len hRW⟩)
                  clear hRW
                  cases d with
                  | true =>
                    obtain ⟨u6, hst6, hR6, hK6⟩ := st_whole (HR.out _ HX5.out) z32 z32_len
                    dsimp only at hR6
                    have a7 := rc_blocks hR6
                    dsimp only at a7
                    have hfz := hR6.free 53
                    obtain ⟨y, hy⟩ : ∃ y, u6.setCell ⟨b0, 53, none⟩ (.slice none 0 0) = y := ⟨_, rfl⟩
                    have hR7 := setB53 hR6 none 0 0
                    have hK7 : Kp b0 w5 y := by rw [← hy]; exact hK6.trans ((Kp.refl _ _).setCell 53 _)
                    rw [hy] at hR7
                    obtain ⟨rk, hrk⟩ : ∃ r : Rc, (⟨p, (s' : Int), (t' : Int), (c' : Int), f, true, z32, none, 0, 0⟩ : Rc) = r := ⟨_, rfl⟩
                    rw [hrk] at hR7
                    have HRK := Lib.hid hR7
                    have HDK := Lib.hid (show DgAt y rk [] from by rw [← hrk]; exact dg_nil _ _ rfl rfl rfl z32_len)
                    have HWY := Lib.hid (show Below w.heap.size w y from (HB1.out.trans (HX5.out.mono HB1.out.size)).trans (hK7.below (by omega) (Nat.le_trans HB1.out.size HX5.out.size)))
                    have HOY := Lib.hid (show OwnB y W1.heap.size v5 E from HO5.out.keep fun k hk => hK7.block k (HO5.out.lt k hk).2 (by have := (HO5.out.lt k hk).1; omega))
                    have hct : Rc.cut ⟨p, (s' : Int), (t' : Int), (c' : Int), f, true, wh, q, n, cap⟩ = rk := by rw [← hrk]; rfl
                    have HYS := Lib.hid (show W1.heap.size ≤ y.heap.size from Nat.le_trans HX5.out.size hK7.size)
                    have HTY := Lib.hid (HTB.out W1 (Below.refl _ _))
                    have hrp : rk.path.length ≤ 100 := by rw [← hrk]; exact hp
                    have HFV := Lib.hid (show ∀ j, f j = rk.ver j from fun j => by rw [← hrk])
                    have HKN := Lib.hid (show rk.n ≤ 64 from by rw [← hrk]; first | exact hn | exact Nat.zero_le _)
                    clear hR6 hK6 hR7 hK7 hrk
                    rw [hct] at HTX
                    clear hct
                    obtain ⟨dk, hdk⟩ : ∃ x : List By, [] = x := ⟨_, rfl⟩
                    rw [hdk] at HDK
                    obtain ⟨pz, cz, hvz, hsz5, hpz, hcz⟩ := HOY.out.shape
                    obtain ⟨hst, hel, hel2⟩ := HST.out
                    have hwy := HT0.out.on HWY.out
                    obtain ⟨g, hg, hpe, hrc⟩ := HTX.out
                    subst hvz
                    have HPA := Lib.hid (parse10_any E pz _ cz y rfl hsz5 hpz hcz (by omega) hwy)
                    have HG := Lib.hid hg
                    have HRC := Lib.hid hrc
                    obtain ⟨G, hG⟩ : ∃ b, goodR rk = b := ⟨_, rfl⟩
                    have hwh := HDK.out.whole
                    have HGD := Lib.hid (fun u => refGood10_any rk (by omega) hwh u)
                    have HSHP := Lib.hid (And.intro hsz5 (And.intro hpz hcz))
                    rw [hG] at hpe HGD
                    rw [hpe] at HPA
                    clear hpe hg hrc hst hwy hG hsz5 hpz hcz
                    cases G with
                    | true =>
                      rw [if_pos rfl] at HPA
                      go_wp2_with fail
                      try (rw [hy])
                      refine HPA.out.mono ?_
                      rintro e w8 ⟨R, rfl, hB8, hP8⟩
                      obtain ⟨W9, hW9⟩ : ∃ W, w8.alloc (.cells (tab 54 (rcF R)) 33) = W := ⟨_, rfl⟩
                      have hst9 := storeNewP w8 w8.heap.size 33 (rcF rc0) R rfl
                      rw [hW9] at hst9
                      have hB9 : Below w8.heap.size w8 W9 := by rw [← hW9]; exact below_newR _ _
                      have hR9 : Row W9 w8.heap.size 33 54 (rcF R) := by rw [← hW9]; exact Row.new _ _ 54 _
                      obtain ⟨b8, hb8⟩ : ∃ b, w8.heap.size = b := ⟨_, rfl⟩
                      rw [hb8] at hst9 hR9
                      have hBY9 := hB8.trans (hB9.mono hB8.size)
                      have hRK9 := HRK.out.of_below hBY9
                      have HY9 := Lib.hid hBY9
                      obtain ⟨V2, hV2⟩ : ∃ x, rcV rk = x := ⟨_, rfl⟩
                      obtain ⟨V3, hV3⟩ : ∃ x, rcV R = x := ⟨_, rfl⟩
                      have ld9 := loadRT rtM hRK9
                      have HP8 := Lib.hid (And.intro hP8 hB9)
                      rw [hV2] at ld9 HGD
                      rw [hV3] at hst9 ⊢
                      have HL := Lib.hid (fun (u : World) (hu : Below W9.heap.size W9 u) => (show (ldT 33 (.pointer (some ⟨b8, 0, none⟩))).run Tryd.prog u = .ok (.value V3) u ∧ (ldT 26 (.pointer (some ⟨b0, 0, none⟩))).run Tryd.prog u = .ok (.value V2) u ∧ Below W9.heap.size W9 u from ⟨by rw [← hV3]; exact loadRT rtP (hR9.of_below hu), by rw [← hV2]; exact loadRT rtM (hRK9.of_below hu), hu⟩))
                      have HV2 := Lib.hid hV2
                      have HV3 := Lib.hid hV3
                      clear hB8 hB9 hBY9 hRK9 hR9 hW9 hV2 hV3 hP8
                      go_wp2_with fail
                      clear hst9 hb8
                      refine (HGD.out _).mono ?_
                      rintro e w10 ⟨rfl, hB10⟩
                      have HX10 := Lib.hid (show Below W9.heap.size W9 w10 from hB10)
                      clear hB10 ld9
                      go_wp2_with fail
                      obtain ⟨⟨q2, c2, hR, hDR, -⟩, hB9'⟩ := HP8.out
                      have hdr : ((Rc.text ⟨p, (s' : Int), (t' : Int), (c' : Int), f, true, wh, q, n, cap⟩ ds).nrm g).ds = dk := by rw [← hdk]; rfl
                      rw [hdr] at hDR
                      rw [HRC.out q2 c2] at hR
                      have hwR := hDR.whole
                      have hgv : ∀ j, j < 16 → g j = (rk.mov q2 c2).ver j := fun j hj => by rw [HG.out j hj]; exact HFV.out j
                      have hV : rcV (rk.mov q2 c2) = V3 := by rw [← HV3.out, hR]; exact (rcV_ver _ hgv).symm
                      have hDM : DgAt W9 (rk.mov q2 c2) dk := (by rw [hR] at hDR; exact hDR.ver : DgAt w8 (rk.mov q2 c2) dk).of_below hB9'
                      have HREF := Lib.hid (fun u => ref10_any (rk.mov q2 c2) hDM.whole u)
                      have hdl : dk.length < 100000 := by have := HDK.out.n; have := HKN.out; omega
                      have HSA := Lib.hid (fun (u : World) (hu : Below W9.heap.size W9 u) => refSame_yes (rk.mov q2 c2) rk.q rk.cap dk u (hDM.of_below hu) (by rw [mov_back]; exact (HDK.out.of_below HY9.out).of_below hu) hdl)
                      rw [mov_back] at HSA
                      rw [hV] at HREF
                      rw [HV2.out, hV] at HSA
                      clear hR hDR hwR hgv hV hDM hdl hB9' hdr
                      refine wp_region_noPanic ?_
                      refine wp_region_held_drew (S := (fun u : World => (ldT 33 (.pointer (some ⟨b8, 0, none⟩))).run Tryd.prog u = .ok (.value V3) u ∧ (ldT 26 (.pointer (some ⟨b0, 0, none⟩))).run Tryd.prog u = .ok (.value V2) u ∧ Below W9.heap.size W9 u)) (by kernel_rfl) (HL.out _ HX10.out.drew) (fun hHeld => ?_)
                      have HX := Lib.hid HX10.out.drew
                      generalize w10.drew = x at hHeld HX ⊢
                      refine wpAnyH_take (i := 0) (v := ?_) (by simp only [List.getElem?_toArray, List.getElem?_cons_succ, List.getElem?_cons_zero]; exact rfl) (by kernel_rfl) (by kernel_rfl) (by kernel_rfl) (fun _ _ _ h => h) (Or.inl ⟨by rfl, ?_⟩) (by assumption) ?_
                      rotate_left 1
                      · (intro w hSw; (try dsimp only at hSw); go_simp; try with_reducible rfl)
                      try simp only [Act.put, List.setIfInBounds_toArray, List.set_cons_zero, List.set_cons_succ]
                      refine wpAnyH_take (i := 1) (v := ?_) (by simp only [List.getElem?_toArray, List.getElem?_cons_succ, List.getElem?_cons_zero]; exact rfl) (by kernel_rfl) (by kernel_rfl) (by kernel_rfl) (fun _ _ _ h => h) (Or.inl ⟨by rfl, ?_⟩) (by assumption) ?_
                      rotate_left 1
                      · (intro w hSw; (try dsimp only at hSw); go_simp; try with_reducible rfl)
                      try simp only [Act.put, List.setIfInBounds_toArray, List.set_cons_zero, List.set_cons_succ]
                      refine wpAnyH_take (i := 2) (v := ?_) (by simp only [List.getElem?_toArray, List.getElem?_cons_succ, List.getElem?_cons_zero]; exact rfl) (by kernel_rfl) (by kernel_rfl) (by kernel_rfl) (fun _ _ _ h => h) (Or.inl ⟨by rfl, ?_⟩) (by assumption) ?_
                      rotate_left 1
                      · (intro w hSw; (try dsimp only at hSw); go_simp; try with_reducible rfl)
                      try simp only [Act.put, List.setIfInBounds_toArray, List.set_cons_zero, List.set_cons_succ]
                      refine wpAnyH_take (i := 3) (v := ?_) (by simp only [List.getElem?_toArray, List.getElem?_cons_succ, List.getElem?_cons_zero]; exact rfl) (by kernel_rfl) (by kernel_rfl) (by kernel_rfl) (fun _ _ _ h => h) (Or.inl ⟨by rfl, ?_⟩) (by assumption) ?_
                      rotate_left 1
                      · (intro w hSw; (try dsimp only at hSw); go_simp; try with_reducible rfl)
                      try simp only [Act.put, List.setIfInBounds_toArray, List.set_cons_zero, List.set_cons_succ]
                      refine wpAnyH_take (i := 4) (v := ?_) (by simp only [List.getElem?_toArray, List.getElem?_cons_succ, List.getElem?_cons_zero]; exact rfl) (by kernel_rfl) (by kernel_rfl) (by kernel_rfl) (fun _ _ _ h => h) (Or.inl ⟨by rfl, ?_⟩) (by assumption) ?_
                      rotate_left 1
                      · (intro w hSw; (try dsimp only at hSw); go_simp; try with_reducible rfl)
                      try simp only [Act.put, List.setIfInBounds_toArray, List.set_cons_zero, List.set_cons_succ]
                      refine wpAnyH_take (i := 5) (v := ?_) (by simp only [List.getElem?_toArray, List.getElem?_cons_succ, List.getElem?_cons_zero]; exact rfl) (by kernel_rfl) (by kernel_rfl) (by kernel_rfl) (fun _ _ _ h => h) (Or.inl ⟨by rfl, ?_⟩) (by assumption) ?_
                      rotate_left 1
                      · (intro w hSw; (try dsimp only at hSw); go_simp; try with_reducible rfl)
                      try simp only [Act.put, List.setIfInBounds_toArray, List.set_cons_zero, List.set_cons_succ]
                      refine wpAnyH_take (i := 6) (v := ?_) (by simp only [List.getElem?_toArray, List.getElem?_cons_succ, List.getElem?_cons_zero]; exact rfl) (by kernel_rfl) (by kernel_rfl) (by kernel_rfl) (fun _ _ _ h => h) (Or.inl ⟨by rfl, ?_⟩) (by assumption) ?_
                      rotate_left 1
                      · (intro w hSw; (try dsimp only at hSw); go_simp; try with_reducible rfl)
                      try simp only [Act.put, List.setIfInBounds_toArray, List.set_cons_zero, List.set_cons_succ]
                      refine wpAnyH_take (i := 7) (v := ?_) (by simp only [List.getElem?_toArray, List.getElem?_cons_succ, List.getElem?_cons_zero]; exact rfl) (by kernel_rfl) (by kernel_rfl) (by kernel_rfl) (fun _ _ _ h => h) (Or.inl ⟨by rfl, ?_⟩) (by assumption) ?_
                      rotate_left 1
                      · (intro w hSw; (try dsimp only at hSw); go_simp; try with_reducible rfl)
                      try simp only [Act.put, List.setIfInBounds_toArray, List.set_cons_zero, List.set_cons_succ]
                      refine wpAnyH_take (i := 9) (v := ?_) (by simp only [List.getElem?_toArray, List.getElem?_cons_succ, List.getElem?_cons_zero]; exact rfl) (by kernel_rfl) (by kernel_rfl) (by kernel_rfl) (fun _ _ _ h => h) (Or.inl ⟨by rfl, ?_⟩) (by assumption) ?_
                      rotate_left 1
                      · (intro w hSw; (try dsimp only at hSw); go_simp; try with_reducible rfl)
                      try simp only [Act.put, List.setIfInBounds_toArray, List.set_cons_zero, List.set_cons_succ]
                      refine wpAnyH_ready (rs := [8]) (by kernel_rfl) (by simp) ?_
                      refine (AllReadyH.cons (by simp only [List.getElem?_toArray, List.getElem?_cons_succ, List.getElem?_cons_zero]; exact rfl) (fun K hK => ?_) AllReadyH.nil)
                      go_simp
                      refine (HREF.out x).mono ?_
                      rintro e z8 ⟨rfl, hBz⟩
                      have HX := Lib.hid (HX.out.trans (hBz.mono HX.out.size))
                      clear hBz
                      go_wp2_with fail
                      refine hK.out _ _ (HL.out _ HX.out) (fun hHeld => ?_)
                      clear hK K
                      try simp only [Act.put, List.setIfInBounds_toArray, List.set_cons_zero, List.set_cons_succ]
                      refine wpAnyH_ready (rs := [10]) (by kernel_rfl) (by simp) ?_
                      refine (AllReadyH.cons (by simp only [List.getElem?_toArray, List.getElem?_cons_succ, List.getElem?_cons_zero]; exact rfl) (fun K hK => ?_) AllReadyH.nil)
                      go_simp
                      refine (HSA.out z8 HX.out).mono ?_
                      rintro e z10 ⟨rfl, hBz⟩
                      have HX := Lib.hid (HX.out.trans (hBz.mono HX.out.size))
                      clear hBz
                      go_wp2_with fail
                      refine hK.out _ _ (HL.out _ HX.out) (fun hHeld => ?_)
                      clear hK K
                      try simp only [Act.put, List.setIfInBounds_toArray, List.set_cons_zero, List.set_cons_succ]
                      refine wpAnyH_take (i := 11) (v := ?_) (by simp only [List.getElem?_toArray, List.getElem?_cons_succ, List.getElem?_cons_zero]; exact rfl) (by kernel_rfl) (by kernel_rfl) (by kernel_rfl) (fun _ _ _ h => h) (Or.inl ⟨by rfl, ?_⟩) (by assumption) ?_
                      rotate_left 1
                      · (intro w hSw; (try dsimp only at hSw); go_simp; try with_reducible rfl)
                      try simp only [Act.put, List.setIfInBounds_toArray, List.set_cons_zero, List.set_cons_succ]
                      refine wpAnyH_take (i := 12) (v := ?_) (by simp only [List.getElem?_toArray, List.getElem?_cons_succ, List.getElem?_cons_zero]; exact rfl) (by kernel_rfl) (by kernel_rfl) (by kernel_rfl) (fun _ _ _ h => h) (Or.inl ⟨by rfl, ?_⟩) (by assumption) ?_
                      rotate_left 1
                      · (intro w hSw; (try dsimp only at hSw); go_simp; try with_reducible rfl)
                      try simp only [Act.put, List.setIfInBounds_toArray, List.set_cons_zero, List.set_cons_succ]
                      refine wpAnyH_take (i := 13) (v := ?_) (by simp only [List.getElem?_toArray, List.getElem?_cons_succ, List.getElem?_cons_zero]; exact rfl) (by kernel_rfl) (by kernel_rfl) (by kernel_rfl) (fun _ _ _ h => h) (Or.inl ⟨by rfl, ?_⟩) (by assumption) ?_
                      rotate_left 1
                      · (intro w hSw; (try dsimp only at hSw); go_simp; try with_reducible rfl)
                      try simp only [Act.put, List.setIfInBounds_toArray, List.set_cons_zero, List.set_cons_succ]
                      refine wpAnyH_done (by kernel_rfl) ?_ _
                      refine NoPanic.normal ?_
                      clear hHeld HREF HSA HP8
                      have HXZ := Lib.hid (HY9.out.trans (HX.out.mono HY9.out.size))
                      have HSF := Lib.hid ((HT0.out).on (HWY.out.trans (HXZ.out.mono HWY.out.size)))
                      obtain ⟨m, hm⟩ : ∃ m, E.length = m + 1 := ⟨E.length - 1, by omega⟩
                      obtain ⟨gb, hgb, hgl, hgs, hgf, hgc, hgw⟩ := own_set (HOY.out.of_below HXZ.out) m (by omega)
                      subst hgb
                      have hstz := HST.out.1
                      have hcz := HSHP.out.2.2
                      have hlen : E.length ≤ 9000 := hel
                      rw [show E.length - 1 = m by omega] at hstz
                      have HSTZ := Lib.hid hstz
                      have HGW := Lib.hid hgw
                      have HMM := Lib.hid hm
                      clear hstz hgw HL HST HSHP
                      obtain ⟨ev, hev⟩ : ∃ e, E.getD m 0#8 = e := ⟨_, rfl⟩
                      rw [hev] at hgc HSTZ
                      clear hev
                      have w1 : IntKind.i64.wrap ((m : Int) + 1 - 1) = (m : Int) := by rw [IntKind.wrap_i64]; omega
                      have w2 : IntKind.i64.wrap (m : Int) = (m : Int) := by rw [IntKind.wrap_i64]; omega
                      obtain ⟨yb, hyb, hy0⟩ : ∃ y : BitVec 8, B y = .int .u8 (max (bx : Int) 1) ∧ y ≠ 0#8 := by
                        refine ⟨BitVec.ofNat 8 (max bx 1), ?_, fun e => ?_⟩
                        · have h1 : (BitVec.ofNat 8 (max bx 1)).toNat = max bx 1 := by rw [BitVec.toNat_ofNat]; omega
                          have h2 : ((max bx 1 : Nat) : Int) = max (bx : Int) 1 := by omega
                          unfold B
                          rw [h1, h2]
                        · have h1 : (BitVec.ofNat 8 (max bx 1)).toNat = max bx 1 := by rw [BitVec.toNat_ofNat]; omega
                          rw [e] at h1
                          have : (0#8 : BitVec 8).toNat = 0 := rfl
                          omega
                      have hxor : binOp .xor 5 (B ev) (.int .u8 (max (bx : Int) 1)) = pure (B (ev ^^^ yb)) := by rw [← hyb]; exact bB_xor _ _ _
                      obtain ⟨zb, hzb⟩ : ∃ z, ev ^^^ yb = z := ⟨_, rfl⟩
                      have hzne : zb ≠ ev := fun e => hy0 (by
                        have h1 : ev ^^^ (ev ^^^ yb) = yb := by rw [← BitVec.xor_assoc, BitVec.xor_self, BitVec.zero_xor]
                        rw [← h1, hzb, e, BitVec.xor_self])
                      rw [hzb] at hxor
                      have hBz : B zb = .int .u8 (zb.toNat : Int) := by unfold B; rfl
                      have HBZ := Lib.hid hBz
                      rw [hBz] at hxor
                      clear hyb hy0 hzb hBz
                      have HPC := Lib.hid (HSTZ.out zb hzne)
                      obtain ⟨WF, hWF⟩ : ∃ W, (z10).setCell ⟨gb, m, none⟩ (.int .u8 (zb.toNat : Int)) = W := ⟨_, rfl⟩
                      have hgw := HGW.out zb
                      rw [HBZ.out] at hgw
                      rw [hWF] at hgw
                      have HBF := Lib.hid (show Below w.heap.size w WF from by
                        rw [← hWF]
                        exact (HWY.out.trans (HXZ.out.mono HWY.out.size)).setCell (show w.heap.size ≤ (⟨gb, m, none⟩ : Addr).block from Nat.le_trans HB1.out.size hgl) _)
                      have HPF := Lib.hid (parse10_any (E.set m zb) (some ⟨gb, 0, none⟩) (m + 1) cz WF (by rw [List.length_set]; exact HMM.out) hgw (fun e => by cases e) (by omega) (by omega) (HT0.out.on HBF.out))
                      rw [HPC.out] at HPF
                      clear hgw hzne HSTZ HGW HPC
                      go_wp2_with fail
                      clear hxor hgf hgc
                      try rw [hWF]
                      refine HPF.out.mono ?_
                      rintro e w11 ⟨R2, rfl, hB11, hP11⟩
                      have hst12 := storeNewP w11 w11.heap.size 33 (rcF rc0) R2 rfl
                      obtain ⟨V4, hV4⟩ : ∃ x, rcV R2 = x := ⟨_, rfl⟩
                      rw [hV4] at hst12 ⊢
                      clear hP11 hV4
                      have HFIN := Lib.hid (show Below w.heap.size w (w11.alloc (.cells (tab 54 (rcF R2)) 33)) from by
                        have h1 := HBF.out.trans (hB11.mono HBF.out.size)
                        exact h1.trans ((below_newR w11 _).mono h1.size))
                      clear hB11
                      go_wp2
                      go_ret
                      exact ⟨rfl, by rw [← hb0]; exact HFIN.out⟩
                    | false =>
                      rw [if_neg (by simp)] at HPA
                      go_wp2_with fail
                      try (rw [hy])
                      refine HPA.out.mono ?_
                      rintro e w8 ⟨R, rfl, hB8, hP8⟩
                      obtain ⟨W9, hW9⟩ : ∃ W, w8.alloc (.cells (tab 54 (rcF R)) 33) = W := ⟨_, rfl⟩
                      have hst9 := storeNewP w8 w8.heap.size 33 (rcF rc0) R rfl
                      rw [hW9] at hst9
                      have hB9 : Below w8.heap.size w8 W9 := by rw [← hW9]; exact below_newR _ _
                      have hR9 : Row W9 w8.heap.size 33 54 (rcF R) := by rw [← hW9]; exact Row.new _ _ 54 _
                      obtain ⟨b8, hb8⟩ : ∃ b, w8.heap.size = b := ⟨_, rfl⟩
                      rw [hb8] at hst9 hR9
                      have hBY9 := hB8.trans (hB9.mono hB8.size)
                      have hRK9 := HRK.out.of_below hBY9
                      have HY9 := Lib.hid hBY9
                      obtain ⟨V2, hV2⟩ : ∃ x, rcV rk = x := ⟨_, rfl⟩
                      obtain ⟨V3, hV3⟩ : ∃ x, rcV R = x := ⟨_, rfl⟩
                      have ld9 := loadRT rtM hRK9
                      have HP8 := Lib.hid (And.intro hP8 hB9)
                      rw [hV2] at ld9 HGD
                      rw [hV3] at hst9 ⊢
                      have HL := Lib.hid (fun (u : World) (hu : Below W9.heap.size W9 u) => (show (ldT 33 (.pointer (some ⟨b8, 0, none⟩))).run Tryd.prog u = .ok (.value V3) u ∧ (ldT 26 (.pointer (some ⟨b0, 0, none⟩))).run Tryd.prog u = .ok (.value V2) u ∧ Below W9.heap.size W9 u from ⟨by rw [← hV3]; exact loadRT rtP (hR9.of_below hu), by rw [← hV2]; exact loadRT rtM (hRK9.of_below hu), hu⟩))
                      have HV2 := Lib.hid hV2
                      have HV3 := Lib.hid hV3
                      clear hB8 hB9 hBY9 hRK9 hR9 hW9 hV2 hV3 hP8
                      go_wp2_with fail
                      clear hst9 hb8
                      refine (HGD.out _).mono ?_
                      rintro e w10 ⟨rfl, hB10⟩
                      have HX10 := Lib.hid (show Below W9.heap.size W9 w10 from hB10)
                      clear hB10 ld9
                      go_wp2_with fail
                      have HL10 := Lib.hid HX10.out.drew
                      clear HP8
                      refine wp_region_noPanic ?_
                      refine wp_region_held_drew (S := (fun u : World => (ldT 33 (.pointer (some ⟨b8, 0, none⟩))).run Tryd.prog u = .ok (.value V3) u ∧ (ldT 26 (.pointer (some ⟨b0, 0, none⟩))).run Tryd.prog u = .ok (.value V2) u ∧ Below W9.heap.size W9 u)) (by kernel_rfl) (HL.out _ HL10.out) (fun hHeld => ?_)
                      generalize w10.drew = x at hHeld HL10 ⊢
                      refine wpAnyH_take (i := 0) (v := ?_) (by simp only [List.getElem?_toArray, List.getElem?_cons_succ, List.getElem?_cons_zero]; exact rfl) (by kernel_rfl) (by kernel_rfl) (by kernel_rfl) (fun _ _ _ h => h) (Or.inl ⟨by rfl, ?_⟩) (by assumption) ?_
                      rotate_left 1
                      · (intro w hSw; (try dsimp only at hSw); go_simp; try with_reducible rfl)
                      try simp only [Act.put, List.setIfInBounds_toArray, List.set_cons_zero, List.set_cons_succ]
                      refine wpAnyH_take (i := 1) (v := ?_) (by simp only [List.getElem?_toArray, List.getElem?_cons_succ, List.getElem?_cons_zero]; exact rfl) (by kernel_rfl) (by kernel_rfl) (by kernel_rfl) (fun _ _ _ h => h) (Or.inl ⟨by rfl, ?_⟩) (by assumption) ?_
                      rotate_left 1
                      · (intro w hSw; (try dsimp only at hSw); go_simp; try with_reducible rfl)
                      try simp only [Act.put, List.setIfInBounds_toArray, List.set_cons_zero, List.set_cons_succ]
                      refine wpAnyH_take (i := 2) (v := ?_) (by simp only [List.getElem?_toArray, List.getElem?_cons_succ, List.getElem?_cons_zero]; exact rfl) (by kernel_rfl) (by kernel_rfl) (by kernel_rfl) (fun _ _ _ h => h) (Or.inl ⟨by rfl, ?_⟩) (by assumption) ?_
                      rotate_left 1
                      · (intro w hSw; (try dsimp only at hSw); go_simp; try with_reducible rfl)
                      try simp only [Act.put, List.setIfInBounds_toArray, List.set_cons_zero, List.set_cons_succ]
                      refine wpAnyH_take (i := 3) (v := ?_) (by simp only [List.getElem?_toArray, List.getElem?_cons_succ, List.getElem?_cons_zero]; exact rfl) (by kernel_rfl) (by kernel_rfl) (by kernel_rfl) (fun _ _ _ h => h) (Or.inl ⟨by rfl, ?_⟩) (by assumption) ?_
                      rotate_left 1
                      · (intro w hSw; (try dsimp only at hSw); go_simp; try with_reducible rfl)
                      try simp only [Act.put, List.setIfInBounds_toArray, List.set_cons_zero, List.set_cons_succ]
                      refine wpAnyH_take (i := 4) (v := ?_) (by simp only [List.getElem?_toArray, List.getElem?_cons_succ, List.getElem?_cons_zero]; exact rfl) (by kernel_rfl) (by kernel_rfl) (by kernel_rfl) (fun _ _ _ h => h) (Or.inl ⟨by rfl, ?_⟩) (by assumption) ?_
                      rotate_left 1
                      · (intro w hSw; (try dsimp only at hSw); go_simp; try with_reducible rfl)
                      try simp only [Act.put, List.setIfInBounds_toArray, List.set_cons_zero, List.set_cons_succ]
                      refine wpAnyH_take (i := 5) (v := ?_) (by simp only [List.getElem?_toArray, List.getElem?_cons_succ, List.getElem?_cons_zero]; exact rfl) (by kernel_rfl) (by kernel_rfl) (by kernel_rfl) (fun _ _ _ h => h) (Or.inl ⟨by rfl, ?_⟩) (by assumption) ?_
                      rotate_left 1
                      · (intro w hSw; (try dsimp only at hSw); go_simp; try with_reducible rfl)
                      try simp only [Act.put, List.setIfInBounds_toArray, List.set_cons_zero, List.set_cons_succ]
                      refine wpAnyH_take (i := 6) (v := ?_) (by simp only [List.getElem?_toArray, List.getElem?_cons_succ, List.getElem?_cons_zero]; exact rfl) (by kernel_rfl) (by kernel_rfl) (by kernel_rfl) (fun _ _ _ h => h) (Or.inl ⟨by rfl, ?_⟩) (by assumption) ?_
                      rotate_left 1
                      · (intro w hSw; (try dsimp only at hSw); go_simp; try with_reducible rfl)
                      try simp only [Act.put, List.setIfInBounds_toArray, List.set_cons_zero, List.set_cons_succ]
                      refine wpAnyH_take (i := 7) (v := undef) (by simp only [List.getElem?_toArray, List.getElem?_cons_succ, List.getElem?_cons_zero]; exact rfl) (by kernel_rfl) (by kernel_rfl) (by kernel_rfl) (fun _ _ _ h => h) (Or.inr ⟨by rfl, rfl⟩) (by assumption) ?_
                      try simp only [Act.put, List.setIfInBounds_toArray, List.set_cons_zero, List.set_cons_succ]
                      refine wpAnyH_take (i := 8) (v := undef) (by simp only [List.getElem?_toArray, List.getElem?_cons_succ, List.getElem?_cons_zero]; exact rfl) (by kernel_rfl) (by kernel_rfl) (by kernel_rfl) (fun _ _ _ h => h) (Or.inr ⟨by rfl, rfl⟩) (by assumption) ?_
                      try simp only [Act.put, List.setIfInBounds_toArray, List.set_cons_zero, List.set_cons_succ]
                      refine wpAnyH_take (i := 9) (v := undef) (by simp only [List.getElem?_toArray, List.getElem?_cons_succ, List.getElem?_cons_zero]; exact rfl) (by kernel_rfl) (by kernel_rfl) (by kernel_rfl) (fun _ _ _ h => h) (Or.inr ⟨by rfl, rfl⟩) (by assumption) ?_
                      try simp only [Act.put, List.setIfInBounds_toArray, List.set_cons_zero, List.set_cons_succ]
                      refine wpAnyH_take (i := 10) (v := undef) (by simp only [List.getElem?_toArray, List.getElem?_cons_succ, List.getElem?_cons_zero]; exact rfl) (by kernel_rfl) (by kernel_rfl) (by kernel_rfl) (fun _ _ _ h => h) (Or.inr ⟨by rfl, rfl⟩) (by assumption) ?_
                      try simp only [Act.put, List.setIfInBounds_toArray, List.set_cons_zero, List.set_cons_succ]
                      refine wpAnyH_take (i := 11) (v := undef) (by simp only [List.getElem?_toArray, List.getElem?_cons_succ, List.getElem?_cons_zero]; exact rfl) (by kernel_rfl) (by kernel_rfl) (by kernel_rfl) (fun _ _ _ h => h) (Or.inr ⟨by rfl, rfl⟩) (by assumption) ?_
                      try simp only [Act.put, List.setIfInBounds_toArray, List.set_cons_zero, List.set_cons_succ]
                      refine wpAnyH_take (i := 12) (v := ?_) (by simp only [List.getElem?_toArray, List.getElem?_cons_succ, List.getElem?_cons_zero]; exact rfl) (by kernel_rfl) (by kernel_rfl) (by kernel_rfl) (fun _ _ _ h => h) (Or.inl ⟨by rfl, ?_⟩) (by assumption) ?_
                      rotate_left 1
                      · (intro w hSw; (try dsimp only at hSw); go_simp; try with_reducible rfl)
                      try simp only [Act.put, List.setIfInBounds_toArray, List.set_cons_zero, List.set_cons_succ]
                      refine wpAnyH_take (i := 13) (v := ?_) (by simp only [List.getElem?_toArray, List.getElem?_cons_succ, List.getElem?_cons_zero]; exact rfl) (by kernel_rfl) (by kernel_rfl) (by kernel_rfl) (fun _ _ _ h => h) (Or.inl ⟨by rfl, ?_⟩) (by assumption) ?_
                      rotate_left 1
                      · (intro w hSw; (try dsimp only at hSw); go_simp; try with_reducible rfl)
                      try simp only [Act.put, List.setIfInBounds_toArray, List.set_cons_zero, List.set_cons_succ]
                      refine wpAnyH_done (by kernel_rfl) ?_ _
                      refine NoPanic.normal ?_
                      have HX := HL10
                      clear hHeld
                      have HXZ := Lib.hid (HY9.out.trans (HX.out.mono HY9.out.size))
                      have HSF := Lib.hid ((HT0.out).on (HWY.out.trans (HXZ.out.mono HWY.out.size)))
                      obtain ⟨m, hm⟩ : ∃ m, E.length = m + 1 := ⟨E.length - 1, by omega⟩
                      obtain ⟨gb, hgb, hgl, hgs, hgf, hgc, hgw⟩ := own_set (HOY.out.of_below HXZ.out) m (by omega)
                      subst hgb
                      have hstz := HST.out.1
                      have hcz := HSHP.out.2.2
                      have hlen : E.length ≤ 9000 := hel
                      rw [show E.length - 1 = m by omega] at hstz
                      have HSTZ := Lib.hid hstz
                      have HGW := Lib.hid hgw
                      have HMM := Lib.hid hm
                      clear hstz hgw HL HST HSHP
                      obtain ⟨ev, hev⟩ : ∃ e, E.getD m 0#8 = e := ⟨_, rfl⟩
                      rw [hev] at hgc HSTZ
                      clear hev
                      have w1 : IntKind.i64.wrap ((m : Int) + 1 - 1) = (m : Int) := by rw [IntKind.wrap_i64]; omega
                      have w2 : IntKind.i64.wrap (m : Int) = (m : Int) := by rw [IntKind.wrap_i64]; omega
                      obtain ⟨yb, hyb, hy0⟩ : ∃ y : BitVec 8, B y = .int .u8 (max (bx : Int) 1) ∧ y ≠ 0#8 := by
                        refine ⟨BitVec.ofNat 8 (max bx 1), ?_, fun e => ?_⟩
                        · have h1 : (BitVec.ofNat 8 (max bx 1)).toNat = max bx 1 := by rw [BitVec.toNat_ofNat]; omega
                          have h2 : ((max bx 1 : Nat) : Int) = max (bx : Int) 1 := by omega
                          unfold B
                          rw [h1, h2]
                        · have h1 : (BitVec.ofNat 8 (max bx 1)).toNat = max bx 1 := by rw [BitVec.toNat_ofNat]; omega
                          rw [e] at h1
                          have : (0#8 : BitVec 8).toNat = 0 := rfl
                          omega
                      have hxor : binOp .xor 5 (B ev) (.int .u8 (max (bx : Int) 1)) = pure (B (ev ^^^ yb)) := by rw [← hyb]; exact bB_xor _ _ _
                      obtain ⟨zb, hzb⟩ : ∃ z, ev ^^^ yb = z := ⟨_, rfl⟩
                      have hzne : zb ≠ ev := fun e => hy0 (by
                        have h1 : ev ^^^ (ev ^^^ yb) = yb := by rw [← BitVec.xor_assoc, BitVec.xor_self, BitVec.zero_xor]
                        rw [← h1, hzb, e, BitVec.xor_self])
                      rw [hzb] at hxor
                      have hBz : B zb = .int .u8 (zb.toNat : Int) := by unfold B; rfl
                      have HBZ := Lib.hid hBz
                      rw [hBz] at hxor
                      clear hyb hy0 hzb hBz
                      have HPC := Lib.hid (HSTZ.out zb hzne)
                      obtain ⟨WF, hWF⟩ : ∃ W, (x).setCell ⟨gb, m, none⟩ (.int .u8 (zb.toNat : Int)) = W := ⟨_, rfl⟩
                      have hgw := HGW.out zb
                      rw [HBZ.out] at hgw
                      rw [hWF] at hgw
                      have HBF := Lib.hid (show Below w.heap.size w WF from by
                        rw [← hWF]
                        exact (HWY.out.trans (HXZ.out.mono HWY.out.size)).setCell (show w.heap.size ≤ (⟨gb, m, none⟩ : Addr).block from Nat.le_trans HB1.out.size hgl) _)
                      have HPF := Lib.hid (parse10_any (E.set m zb) (some ⟨gb, 0, none⟩) (m + 1) cz WF (by rw [List.length_set]; exact HMM.out) hgw (fun e => by cases e) (by omega) (by omega) (HT0.out.on HBF.out))
                      rw [HPC.out] at HPF
                      clear hgw hzne HSTZ HGW HPC
                      go_wp2_with fail
                      clear hxor hgf hgc
                      try rw [hWF]
                      refine HPF.out.mono ?_
                      rintro e w11 ⟨R2, rfl, hB11, hP11⟩
                      have hst12 := storeNewP w11 w11.heap.size 33 (rcF rc0) R2 rfl
                      obtain ⟨V4, hV4⟩ : ∃ x, rcV R2 = x := ⟨_, rfl⟩
                      rw [hV4] at hst12 ⊢
                      clear hP11 hV4
                      have HFIN := Lib.hid (show Below w.heap.size w (w11.alloc (.cells (tab 54 (rcF R2)) 33)) from by
                        have h1 := HBF.out.trans (hB11.mono HBF.out.size)
                        exact h1.trans ((below_newR w11 _).mono h1.size))
                      clear hB11
                      go_wp2
                      go_ret
                      exact ⟨rfl, by rw [← hb0]; exact HFIN.out⟩
                  | false =>
                    obtain ⟨rk, hrk⟩ : ∃ r : Rc, (⟨p, (s' : Int), (t' : Int), (c' : Int), f, false, wh, q, n, cap⟩ : Rc) = r := ⟨_, rfl⟩
                    have hR7 := HR.out _ HX5.out
                    have hD7 := HD.out _ HX5.out
                    rw [hrk] at hR7 hD7
                    have HRK := Lib.hid hR7
                    have HDK := Lib.hid hD7
                    have HWY := Lib.hid (show Below w.heap.size w w5 from HB1.out.trans (HX5.out.mono HB1.out.size))
                    have HOY := HO5
                    have hct : Rc.cut ⟨p, (s' : Int), (t' : Int), (c' : Int), f, false, wh, q, n, cap⟩ = rk := by rw [← hrk]; rfl
                    have HYS := Lib.hid (show W1.heap.size ≤ w5.heap.size from HX5.out.size)
                    have hrp : rk.path.length ≤ 100 := by rw [← hrk]; exact hp
                    have HFV := Lib.hid (show ∀ j, f j = rk.ver j from fun j => by rw [← hrk])
                    have HKN := Lib.hid (show rk.n ≤ 64 from by rw [← hrk]; first | exact hn | exact Nat.zero_le _)
                    clear hR7 hD7 hrk
                    rw [hct] at HTX
                    clear hct
                    obtain ⟨dk, hdk⟩ : ∃ x : List By, ds = x := ⟨_, rfl⟩
                    rw [hdk] at HDK
                    obtain ⟨y, hy⟩ : ∃ y, y = w5 := ⟨_, rfl⟩
                    subst hy
                    obtain ⟨pz, cz, hvz, hsz5, hpz, hcz⟩ := HOY.out.shape
                    obtain ⟨hst, hel, hel2⟩ := HST.out
                    have hwy := HT0.out.on HWY.out
                    obtain ⟨g, hg, hpe, hrc⟩ := HTX.out
                    subst hvz
                    have HPA := Lib.hid (parse10_any E pz _ cz y rfl hsz5 hpz hcz (by omega) hwy)
                    have HG := Lib.hid hg
                    have HRC := Lib.hid hrc
                    obtain ⟨G, hG⟩ : ∃ b, goodR rk = b := ⟨_, rfl⟩
                    have hwh := HDK.out.whole
                    have HGD := Lib.hid (fun u => refGood10_any rk (by omega) hwh u)
                    have HSHP := Lib.hid (And.intro hsz5 (And.intro hpz hcz))
                    rw [hG] at hpe HGD
                    rw [hpe] at HPA
                    clear hpe hg hrc hst hwy hG hsz5 hpz hcz
                    cases G with
                    | true =>
                      rw [if_pos rfl] at HPA
                      go_wp2_with fail
                      try (rw [hy])
                      refine HPA.out.mono ?_
                      rintro e w8 ⟨R, rfl, hB8, hP8⟩
                      obtain ⟨W9, hW9⟩ : ∃ W, w8.alloc (.cells (tab 54 (rcF R)) 33) = W := ⟨_, rfl⟩
                      have hst9 := storeNewP w8 w8.heap.size 33 (rcF rc0) R rfl
                      rw [hW9] at hst9
                      have hB9 : Below w8.heap.size w8 W9 := by rw [← hW9]; exact below_newR _ _
                      have hR9 : Row W9 w8.heap.size 33 54 (rcF R) := by rw [← hW9]; exact Row.new _ _ 54 _
                      obtain ⟨b8, hb8⟩ : ∃ b, w8.heap.size = b := ⟨_, rfl⟩
                      rw [hb8] at hst9 hR9
                      have hBY9 := hB8.trans (hB9.mono hB8.size)
                      have hRK9 := HRK.out.of_below hBY9
                      have HY9 := Lib.hid hBY9
                      obtain ⟨V2, hV2⟩ : ∃ x, rcV rk = x := ⟨_, rfl⟩
                      obtain ⟨V3, hV3⟩ : ∃ x, rcV R = x := ⟨_, rfl⟩
                      have ld9 := loadRT rtM hRK9
                      have HP8 := Lib.hid (And.intro hP8 hB9)
                      rw [hV2] at ld9 HGD
                      rw [hV3] at hst9 ⊢
                      have HL := Lib.hid (fun (u : World) (hu : Below W9.heap.size W9 u) => (show (ldT 33 (.pointer (some ⟨b8, 0, none⟩))).run Tryd.prog u = .ok (.value V3) u ∧ (ldT 26 (.pointer (some ⟨b0, 0, none⟩))).run Tryd.prog u = .ok (.value V2) u ∧ Below W9.heap.size W9 u from ⟨by rw [← hV3]; exact loadRT rtP (hR9.of_below hu), by rw [← hV2]; exact loadRT rtM (hRK9.of_below hu), hu⟩))
                      have HV2 := Lib.hid hV2
                      have HV3 := Lib.hid hV3
                      clear hB8 hB9 hBY9 hRK9 hR9 hW9 hV2 hV3 hP8
                      go_wp2_with fail
                      clear hst9 hb8
                      refine (HGD.out _).mono ?_
                      rintro e w10 ⟨rfl, hB10⟩
                      have HX10 := Lib.hid (show Below W9.heap.size W9 w10 from hB10)
                      clear hB10 ld9
                      go_wp2_with fail
                      obtain ⟨⟨q2, c2, hR, hDR, -⟩, hB9'⟩ := HP8.out
                      have hdr : ((Rc.text ⟨p, (s' : Int), (t' : Int), (c' : Int), f, false, wh, q, n, cap⟩ ds).nrm g).ds = dk := by rw [← hdk]; rfl
                      rw [hdr] at hDR
                      rw [HRC.out q2 c2] at hR
                      have hwR := hDR.whole
                      have hgv : ∀ j, j < 16 → g j = (rk.mov q2 c2).ver j := fun j hj => by rw [HG.out j hj]; exact HFV.out j
                      have hV : rcV (rk.mov q2 c2) = V3 := by rw [← HV3.out, hR]; exact (rcV_ver _ hgv).symm
                      have hDM : DgAt W9 (rk.mov q2 c2) dk := (by rw [hR] at hDR; exact hDR.ver : DgAt w8 (rk.mov q2 c2) dk).of_below hB9'
                      have HREF := Lib.hid (fun u => ref10_any (rk.mov q2 c2) hDM.whole u)
                      have hdl : dk.length < 100000 := by have := HDK.out.n; have := HKN.out; omega
                      have HSA := Lib.hid (fun (u : World) (hu : Below W9.heap.size W9 u) => refSame_yes (rk.mov q2 c2) rk.q rk.cap dk u (hDM.of_below hu) (by rw [mov_back]; exact (HDK.out.of_below HY9.out).of_below hu) hdl)
                      rw [mov_back] at HSA
                      rw [hV] at HREF
                      rw [HV2.out, hV] at HSA
                      clear hR hDR hwR hgv hV hDM hdl hB9' hdr
                      refine wp_region_noPanic ?_
                      refine wp_region_held_drew (S := (fun u : World => (ldT 33 (.pointer (some ⟨b8, 0, none⟩))).run Tryd.prog u = .ok (.value V3) u ∧ (ldT 26 (.pointer (some ⟨b0, 0, none⟩))).run Tryd.prog u = .ok (.value V2) u ∧ Below W9.heap.size W9 u)) (by kernel_rfl) (HL.out _ HX10.out.drew) (fun hHeld => ?_)
                      have HX := Lib.hid HX10.out.drew
                      generalize w10.drew = x at hHeld HX ⊢
                      refine wpAnyH_take (i := 0) (v := ?_) (by simp only [List.getElem?_toArray, List.getElem?_cons_succ, List.getElem?_cons_zero]; exact rfl) (by kernel_rfl) (by kernel_rfl) (by kernel_rfl) (fun _ _ _ h => h) (Or.inl ⟨by rfl, ?_⟩) (by assumption) ?_
                      rotate_left 1
                      · (intro w hSw; (try dsimp only at hSw); go_simp; try with_reducible rfl)
                      try simp only [Act.put, List.setIfInBounds_toArray, List.set_cons_zero, List.set_cons_succ]
                      refine wpAnyH_take (i := 1) (v := ?_) (by simp only [List.getElem?_toArray, List.getElem?_cons_succ, List.getElem?_cons_zero]; exact rfl) (by kernel_rfl) (by kernel_rfl) (by kernel_rfl) (fun _ _ _ h => h) (Or.inl ⟨by rfl, ?_⟩) (by assumption) ?_
                      rotate_left 1
                      · (intro w hSw; (try dsimp only at hSw); go_simp; try with_reducible rfl)
                      try simp only [Act.put, List.setIfInBounds_toArray, List.set_cons_zero, List.set_cons_succ]
                      refine wpAnyH_take (i := 2) (v := ?_) (by simp only [List.getElem?_toArray, List.getElem?_cons_succ, List.getElem?_cons_zero]; exact rfl) (by kernel_rfl) (by kernel_rfl) (by kernel_rfl) (fun _ _ _ h => h) (Or.inl ⟨by rfl, ?_⟩) (by assumption) ?_
                      rotate_left 1
                      · (intro w hSw; (try dsimp only at hSw); go_simp; try with_reducible rfl)
                      try simp only [Act.put, List.setIfInBounds_toArray, List.set_cons_zero, List.set_cons_succ]
                      refine wpAnyH_take (i := 3) (v := ?_) (by simp only [List.getElem?_toArray, List.getElem?_cons_succ, List.getElem?_cons_zero]; exact rfl) (by kernel_rfl) (by kernel_rfl) (by kernel_rfl) (fun _ _ _ h => h) (Or.inl ⟨by rfl, ?_⟩) (by assumption) ?_
                      rotate_left 1
                      · (intro w hSw; (try dsimp only at hSw); go_simp; try with_reducible rfl)
                      try simp only [Act.put, List.setIfInBounds_toArray, List.set_cons_zero, List.set_cons_succ]
                      refine wpAnyH_take (i := 4) (v := ?_) (by simp only [List.getElem?_toArray, List.getElem?_cons_succ, List.getElem?_cons_zero]; exact rfl) (by kernel_rfl) (by kernel_rfl) (by kernel_rfl) (fun _ _ _ h => h) (Or.inl ⟨by rfl, ?_⟩) (by assumption) ?_
                      rotate_left 1
                      · (intro w hSw; (try dsimp only at hSw); go_simp; try with_reducible rfl)
                      try simp only [Act.put, List.setIfInBounds_toArray, List.set_cons_zero, List.set_cons_succ]
                      refine wpAnyH_take (i := 5) (v := ?_) (by simp only [List.getElem?_toArray, List.getElem?_cons_succ, List.getElem?_cons_zero]; exact rfl) (by kernel_rfl) (by kernel_rfl) (by kernel_rfl) (fun _ _ _ h => h) (Or.inl ⟨by rfl, ?_⟩) (by assumption) ?_
                      rotate_left 1
                      · (intro w hSw; (try dsimp only at hSw); go_simp; try with_reducible rfl)
                      try simp only [Act.put, List.setIfInBounds_toArray, List.set_cons_zero, List.set_cons_succ]
                      refine wpAnyH_take (i := 6) (v := ?_) (by simp only [List.getElem?_toArray, List.getElem?_cons_succ, List.getElem?_cons_zero]; exact rfl) (by kernel_rfl) (by kernel_rfl) (by kernel_rfl) (fun _ _ _ h => h) (Or.inl ⟨by rfl, ?_⟩) (by assumption) ?_
                      rotate_left 1
                      · (intro w hSw; (try dsimp only at hSw); go_simp; try with_reducible rfl)
                      try simp only [Act.put, List.setIfInBounds_toArray, List.set_cons_zero, List.set_cons_succ]
                      refine wpAnyH_take (i := 7) (v := ?_) (by simp only [List.getElem?_toArray, List.getElem?_cons_succ, List.getElem?_cons_zero]; exact rfl) (by kernel_rfl) (by kernel_rfl) (by kernel_rfl) (fun _ _ _ h => h) (Or.inl ⟨by rfl, ?_⟩) (by assumption) ?_
                      rotate_left 1
                      · (intro w hSw; (try dsimp only at hSw); go_simp; try with_reducible rfl)
                      try simp only [Act.put, List.setIfInBounds_toArray, List.set_cons_zero, List.set_cons_succ]
                      refine wpAnyH_take (i := 9) (v := ?_) (by simp only [List.getElem?_toArray, List.getElem?_cons_succ, List.getElem?_cons_zero]; exact rfl) (by kernel_rfl) (by kernel_rfl) (by kernel_rfl) (fun _ _ _ h => h) (Or.inl ⟨by rfl, ?_⟩) (by assumption) ?_
                      rotate_left 1
                      · (intro w hSw; (try dsimp only at hSw); go_simp; try with_reducible rfl)
                      try simp only [Act.put, List.setIfInBounds_toArray, List.set_cons_zero, List.set_cons_succ]
                      refine wpAnyH_ready (rs := [8]) (by kernel_rfl) (by simp) ?_
                      refine (AllReadyH.cons (by simp only [List.getElem?_toArray, List.getElem?_cons_succ, List.getElem?_cons_zero]; exact rfl) (fun K hK => ?_) AllReadyH.nil)
                      go_simp
                      refine (HREF.out x).mono ?_
                      rintro e z8 ⟨rfl, hBz⟩
                      have HX := Lib.hid (HX.out.trans (hBz.mono HX.out.size))
                      clear hBz
                      go_wp2_with fail
                      refine hK.out _ _ (HL.out _ HX.out) (fun hHeld => ?_)
                      clear hK K
                      try simp only [Act.put, List.setIfInBounds_toArray, List.set_cons_zero, List.set_cons_succ]
                      refine wpAnyH_ready (rs := [10]) (by kernel_rfl) (by simp) ?_
                      refine (AllReadyH.cons (by simp only [List.getElem?_toArray, List.getElem?_cons_succ, List.getElem?_cons_zero]; exact rfl) (fun K hK => ?_) AllReadyH.nil)
                      go_simp
                      refine (HSA.out z8 HX.out).mono ?_
                      rintro e z10 ⟨rfl, hBz⟩
                      have HX := Lib.hid (HX.out.trans (hBz.mono HX.out.size))
                      clear hBz
                      go_wp2_with fail
                      refine hK.out _ _ (HL.out _ HX.out) (fun hHeld => ?_)
                      clear hK K
                      try simp only [Act.put, List.setIfInBounds_toArray, List.set_cons_zero, List.set_cons_succ]
                      refine wpAnyH_take (i := 11) (v := ?_) (by simp only [List.getElem?_toArray, List.getElem?_cons_succ, List.getElem?_cons_zero]; exact rfl) (by kernel_rfl) (by kernel_rfl) (by kernel_rfl) (fun _ _ _ h => h) (Or.inl ⟨by rfl, ?_⟩) (by assumption) ?_
                      rotate_left 1
                      · (intro w hSw; (try dsimp only at hSw); go_simp; try with_reducible rfl)
                      try simp only [Act.put, List.setIfInBounds_toArray, List.set_cons_zero, List.set_cons_succ]
                      refine wpAnyH_take (i := 12) (v := ?_) (by simp only [List.getElem?_toArray, List.getElem?_cons_succ, List.getElem?_cons_zero]; exact rfl) (by kernel_rfl) (by kernel_rfl) (by kernel_rfl) (fun _ _ _ h => h) (Or.inl ⟨by rfl, ?_⟩) (by assumption) ?_
                      rotate_left 1
                      · (intro w hSw; (try dsimp only at hSw); go_simp; try with_reducible rfl)
                      try simp only [Act.put, List.setIfInBounds_toArray, List.set_cons_zero, List.set_cons_succ]
                      refine wpAnyH_take (i := 13) (v := ?_) (by simp only [List.getElem?_toArray, List.getElem?_cons_succ, List.getElem?_cons_zero]; exact rfl) (by kernel_rfl) (by kernel_rfl) (by kernel_rfl) (fun _ _ _ h => h) (Or.inl ⟨by rfl, ?_⟩) (by assumption) ?_
                      rotate_left 1
                      · (intro w hSw; (try dsimp only at hSw); go_simp; try with_reducible rfl)
                      try simp only [Act.put, List.setIfInBounds_toArray, List.set_cons_zero, List.set_cons_succ]
                      refine wpAnyH_done (by kernel_rfl) ?_ _
                      refine NoPanic.normal ?_
                      clear hHeld HREF HSA HP8
                      have HXZ := Lib.hid (HY9.out.trans (HX.out.mono HY9.out.size))
                      have HSF := Lib.hid ((HT0.out).on (HWY.out.trans (HXZ.out.mono HWY.out.size)))
                      obtain ⟨m, hm⟩ : ∃ m, E.length = m + 1 := ⟨E.length - 1, by omega⟩
                      obtain ⟨gb, hgb, hgl, hgs, hgf, hgc, hgw⟩ := own_set (HOY.out.of_below HXZ.out) m (by omega)
                      subst hgb
                      have hstz := HST.out.1
                      have hcz := HSHP.out.2.2
                      have hlen : E.length ≤ 9000 := hel
                      rw [show E.length - 1 = m by omega] at hstz
                      have HSTZ := Lib.hid hstz
                      have HGW := Lib.hid hgw
                      have HMM := Lib.hid hm
                      clear hstz hgw HL HST HSHP
                      obtain ⟨ev, hev⟩ : ∃ e, E.getD m 0#8 = e := ⟨_, rfl⟩
                      rw [hev] at hgc HSTZ
                      clear hev
                      have w1 : IntKind.i64.wrap ((m : Int) + 1 - 1) = (m : Int) := by rw [IntKind.wrap_i64]; omega
                      have w2 : IntKind.i64.wrap (m : Int) = (m : Int) := by rw [IntKind.wrap_i64]; omega
                      obtain ⟨yb, hyb, hy0⟩ : ∃ y : BitVec 8, B y = .int .u8 (max (bx : Int) 1) ∧ y ≠ 0#8 := by
                        refine ⟨BitVec.ofNat 8 (max bx 1), ?_, fun e => ?_⟩
                        · have h1 : (BitVec.ofNat 8 (max bx 1)).toNat = max bx 1 := by rw [BitVec.toNat_ofNat]; omega
                          have h2 : ((max bx 1 : Nat) : Int) = max (bx : Int) 1 := by omega
                          unfold B
                          rw [h1, h2]
                        · have h1 : (BitVec.ofNat 8 (max bx 1)).toNat = max bx 1 := by rw [BitVec.toNat_ofNat]; omega
                          rw [e] at h1
                          have : (0#8 : BitVec 8).toNat = 0 := rfl
                          omega
                      have hxor : binOp .xor 5 (B ev) (.int .u8 (max (bx : Int) 1)) = pure (B (ev ^^^ yb)) := by rw [← hyb]; exact bB_xor _ _ _
                      obtain ⟨zb, hzb⟩ : ∃ z, ev ^^^ yb = z := ⟨_, rfl⟩
                      have hzne : zb ≠ ev := fun e => hy0 (by
                        have h1 : ev ^^^ (ev ^^^ yb) = yb := by rw [← BitVec.xor_assoc, BitVec.xor_self, BitVec.zero_xor]
                        rw [← h1, hzb, e, BitVec.xor_self])
                      rw [hzb] at hxor
                      have hBz : B zb = .int .u8 (zb.toNat : Int) := by unfold B; rfl
                      have HBZ := Lib.hid hBz
                      rw [hBz] at hxor
                      clear hyb hy0 hzb hBz
                      have HPC := Lib.hid (HSTZ.out zb hzne)
                      obtain ⟨WF, hWF⟩ : ∃ W, (z10).setCell ⟨gb, m, none⟩ (.int .u8 (zb.toNat : Int)) = W := ⟨_, rfl⟩
                      have hgw := HGW.out zb
                      rw [HBZ.out] at hgw
                      rw [hWF] at hgw
                      have HBF := Lib.hid (show Below w.heap.size w WF from by
                        rw [← hWF]
                        exact (HWY.out.trans (HXZ.out.mono HWY.out.size)).setCell (show w.heap.size ≤ (⟨gb, m, none⟩ : Addr).block from Nat.le_trans HB1.out.size hgl) _)
                      have HPF := Lib.hid (parse10_any (E.set m zb) (some ⟨gb, 0, none⟩) (m + 1) cz WF (by rw [List.length_set]; exact HMM.out) hgw (fun e => by cases e) (by omega) (by omega) (HT0.out.on HBF.out))
                      rw [HPC.out] at HPF
                      clear hgw hzne HSTZ HGW HPC
                      go_wp2_with fail
                      clear hxor hgf hgc
                      try rw [hWF]
                      refine HPF.out.mono ?_
                      rintro e w11 ⟨R2, rfl, hB11, hP11⟩
                      have hst12 := storeNewP w11 w11.heap.size 33 (rcF rc0) R2 rfl
                      obtain ⟨V4, hV4⟩ : ∃ x, rcV R2 = x := ⟨_, rfl⟩
                      rw [hV4] at hst12 ⊢
                      clear hP11 hV4
                      have HFIN := Lib.hid (show Below w.heap.size w (w11.alloc (.cells (tab 54 (rcF R2)) 33)) from by
                        have h1 := HBF.out.trans (hB11.mono HBF.out.size)
                        exact h1.trans ((below_newR w11 _).mono h1.size))
                      clear hB11
                      go_wp2
                      go_ret
                      exact ⟨rfl, by rw [← hb0]; exact HFIN.out⟩
                    | false =>
                      rw [if_neg (by simp)] at HPA
                      go_wp2_with fail
                      try (rw [hy])
                      refine HPA.out.mono ?_
                      rintro e w8 ⟨R, rfl, hB8, hP8⟩
                      obtain ⟨W9, hW9⟩ : ∃ W, w8.alloc (.cells (tab 54 (rcF R)) 33) = W := ⟨_, rfl⟩
                      have hst9 := storeNewP w8 w8.heap.size 33 (rcF rc0) R rfl
                      rw [hW9] at hst9
                      have hB9 : Below w8.heap.size w8 W9 := by rw [← hW9]; exact below_newR _ _
                      have hR9 : Row W9 w8.heap.size 33 54 (rcF R) := by rw [← hW9]; exact Row.new _ _ 54 _
                      obtain ⟨b8, hb8⟩ : ∃ b, w8.heap.size = b := ⟨_, rfl⟩
                      rw [hb8] at hst9 hR9
                      have hBY9 := hB8.trans (hB9.mono hB8.size)
                      have hRK9 := HRK.out.of_below hBY9
                      have HY9 := Lib.hid hBY9
                      obtain ⟨V2, hV2⟩ : ∃ x, rcV rk = x := ⟨_, rfl⟩
                      obtain ⟨V3, hV3⟩ : ∃ x, rcV R = x := ⟨_, rfl⟩
                      have ld9 := loadRT rtM hRK9
                      have HP8 := Lib.hid (And.intro hP8 hB9)
                      rw [hV2] at ld9 HGD
                      rw [hV3] at hst9 ⊢
                      have HL := Lib.hid (fun (u : World) (hu : Below W9.heap.size W9 u) => (show (ldT 33 (.pointer (some ⟨b8, 0, none⟩))).run Tryd.prog u = .ok (.value V3) u ∧ (ldT 26 (.pointer (some ⟨b0, 0, none⟩))).run Tryd.prog u = .ok (.value V2) u ∧ Below W9.heap.size W9 u from ⟨by rw [← hV3]; exact loadRT rtP (hR9.of_below hu), by rw [← hV2]; exact loadRT rtM (hRK9.of_below hu), hu⟩))
                      have HV2 := Lib.hid hV2
                      have HV3 := Lib.hid hV3
                      clear hB8 hB9 hBY9 hRK9 hR9 hW9 hV2 hV3 hP8
                      go_wp2_with fail
                      clear hst9 hb8
                      refine (HGD.out _).mono ?_
                      rintro e w10 ⟨rfl, hB10⟩
                      have HX10 := Lib.hid (show Below W9.heap.size W9 w10 from hB10)
                      clear hB10 ld9
                      go_wp2_with fail
                      have HL10 := Lib.hid HX10.out.drew
                      clear HP8
                      refine wp_region_noPanic ?_
                      refine wp_region_held_drew (S := (fun u : World => (ldT 33 (.pointer (some ⟨b8, 0, none⟩))).run Tryd.prog u = .ok (.value V3) u ∧ (ldT 26 (.pointer (some ⟨b0, 0, none⟩))).run Tryd.prog u = .ok (.value V2) u ∧ Below W9.heap.size W9 u)) (by kernel_rfl) (HL.out _ HL10.out) (fun hHeld => ?_)
                      generalize w10.drew = x at hHeld HL10 ⊢
                      refine wpAnyH_take (i := 0) (v := ?_) (by simp only [List.getElem?_toArray, List.getElem?_cons_succ, List.getElem?_cons_zero]; exact rfl) (by kernel_rfl) (by kernel_rfl) (by kernel_rfl) (fun _ _ _ h => h) (Or.inl ⟨by rfl, ?_⟩) (by assumption) ?_
                      rotate_left 1
                      · (intro w hSw; (try dsimp only at hSw); go_simp; try with_reducible rfl)
                      try simp only [Act.put, List.setIfInBounds_toArray, List.set_cons_zero, List.set_cons_succ]
                      refine wpAnyH_take (i := 1) (v := ?_) (by simp only [List.getElem?_toArray, List.getElem?_cons_succ, List.getElem?_cons_zero]; exact rfl) (by kernel_rfl) (by kernel_rfl) (by kernel_rfl) (fun _ _ _ h => h) (Or.inl ⟨by rfl, ?_⟩) (by assumption) ?_
                      rotate_left 1
                      · (intro w hSw; (try dsimp only at hSw); go_simp; try with_reducible rfl)
                      try simp only [Act.put, List.setIfInBounds_toArray, List.set_cons_zero, List.set_cons_succ]
                      refine wpAnyH_take (i := 2) (v := ?_) (by simp only [List.getElem?_toArray, List.getElem?_cons_succ, List.getElem?_cons_zero]; exact rfl) (by kernel_rfl) (by kernel_rfl) (by kernel_rfl) (fun _ _ _ h => h) (Or.inl ⟨by rfl, ?_⟩) (by assumption) ?_
                      rotate_left 1
                      · (intro w hSw; (try dsimp only at hSw); go_simp; try with_reducible rfl)
                      try simp only [Act.put, List.setIfInBounds_toArray, List.set_cons_zero, List.set_cons_succ]
                      refine wpAnyH_take (i := 3) (v := ?_) (by simp only [List.getElem?_toArray, List.getElem?_cons_succ, List.getElem?_cons_zero]; exact rfl) (by kernel_rfl) (by kernel_rfl) (by kernel_rfl) (fun _ _ _ h => h) (Or.inl ⟨by rfl, ?_⟩) (by assumption) ?_
                      rotate_left 1
                      · (intro w hSw; (try dsimp only at hSw); go_simp; try with_reducible rfl)
                      try simp only [Act.put, List.setIfInBounds_toArray, List.set_cons_zero, List.set_cons_succ]
                      refine wpAnyH_take (i := 4) (v := ?_) (by simp only [List.getElem?_toArray, List.getElem?_cons_succ, List.getElem?_cons_zero]; exact rfl) (by kernel_rfl) (by kernel_rfl) (by kernel_rfl) (fun _ _ _ h => h) (Or.inl ⟨by rfl, ?_⟩) (by assumption) ?_
                      rotate_left 1
                      · (intro w hSw; (try dsimp only at hSw); go_simp; try with_reducible rfl)
                      try simp only [Act.put, List.setIfInBounds_toArray, List.set_cons_zero, List.set_cons_succ]
                      refine wpAnyH_take (i := 5) (v := ?_) (by simp only [List.getElem?_toArray, List.getElem?_cons_succ, List.getElem?_cons_zero]; exact rfl) (by kernel_rfl) (by kernel_rfl) (by kernel_rfl) (fun _ _ _ h => h) (Or.inl ⟨by rfl, ?_⟩) (by assumption) ?_
                      rotate_left 1
                      · (intro w hSw; (try dsimp only at hSw); go_simp; try with_reducible rfl)
                      try simp only [Act.put, List.setIfInBounds_toArray, List.set_cons_zero, List.set_cons_succ]
                      refine wpAnyH_take (i := 6) (v := ?_) (by simp only [List.getElem?_toArray, List.getElem?_cons_succ, List.getElem?_cons_zero]; exact rfl) (by kernel_rfl) (by kernel_rfl) (by kernel_rfl) (fun _ _ _ h => h) (Or.inl ⟨by rfl, ?_⟩) (by assumption) ?_
                      rotate_left 1
                      · (intro w hSw; (try dsimp only at hSw); go_simp; try with_reducible rfl)
                      try simp only [Act.put, List.setIfInBounds_toArray, List.set_cons_zero, List.set_cons_succ]
                      refine wpAnyH_take (i := 7) (v := undef) (by simp only [List.getElem?_toArray, List.getElem?_cons_succ, List.getElem?_cons_zero]; exact rfl) (by kernel_rfl) (by kernel_rfl) (by kernel_rfl) (fun _ _ _ h => h) (Or.inr ⟨by rfl, rfl⟩) (by assumption) ?_
                      try simp only [Act.put, List.setIfInBounds_toArray, List.set_cons_zero, List.set_cons_succ]
                      refine wpAnyH_take (i := 8) (v := undef) (by simp only [List.getElem?_toArray, List.getElem?_cons_succ, List.getElem?_cons_zero]; exact rfl) (by kernel_rfl) (by kernel_rfl) (by kernel_rfl) (fun _ _ _ h => h) (Or.inr ⟨by rfl, rfl⟩) (by assumption) ?_
                      try simp only [Act.put, List.setIfInBounds_toArray, List.set_cons_zero, List.set_cons_succ]
                      refine wpAnyH_take (i := 9) (v := undef) (by simp only [List.getElem?_toArray, List.getElem?_cons_succ, List.getElem?_cons_zero]; exact rfl) (by kernel_rfl) (by kernel_rfl) (by kernel_rfl) (fun _ _ _ h => h) (Or.inr ⟨by rfl, rfl⟩) (by assumption) ?_
                      try simp only [Act.put, List.setIfInBounds_toArray, List.set_cons_zero, List.set_cons_succ]
                      refine wpAnyH_take (i := 10) (v := undef) (by simp only [List.getElem?_toArray, List.getElem?_cons_succ, List.getElem?_cons_zero]; exact rfl) (by kernel_rfl) (by kernel_rfl) (by kernel_rfl) (fun _ _ _ h => h) (Or.inr ⟨by rfl, rfl⟩) (by assumption) ?_
                      try simp only [Act.put, List.setIfInBounds_toArray, List.set_cons_zero, List.set_cons_succ]
                      refine wpAnyH_take (i := 11) (v := undef) (by simp only [List.getElem?_toArray, List.getElem?_cons_succ, List.getElem?_cons_zero]; exact rfl) (by kernel_rfl) (by kernel_rfl) (by kernel_rfl) (fun _ _ _ h => h) (Or.inr ⟨by rfl, rfl⟩) (by assumption) ?_
                      try simp only [Act.put, List.setIfInBounds_toArray, List.set_cons_zero, List.set_cons_succ]
                      refine wpAnyH_take (i := 12) (v := ?_) (by simp only [List.getElem?_toArray, List.getElem?_cons_succ, List.getElem?_cons_zero]; exact rfl) (by kernel_rfl) (by kernel_rfl) (by kernel_rfl) (fun _ _ _ h => h) (Or.inl ⟨by rfl, ?_⟩) (by assumption) ?_
                      rotate_left 1
                      · (intro w hSw; (try dsimp only at hSw); go_simp; try with_reducible rfl)
                      try simp only [Act.put, List.setIfInBounds_toArray, List.set_cons_zero, List.set_cons_succ]
                      refine wpAnyH_take (i := 13) (v := ?_) (by simp only [List.getElem?_toArray, List.getElem?_cons_succ, List.getElem?_cons_zero]; exact rfl) (by kernel_rfl) (by kernel_rfl) (by kernel_rfl) (fun _ _ _ h => h) (Or.inl ⟨by rfl, ?_⟩) (by assumption) ?_
                      rotate_left 1
                      · (intro w hSw; (try dsimp only at hSw); go_simp; try with_reducible rfl)
                      try simp only [Act.put, List.setIfInBounds_toArray, List.set_cons_zero, List.set_cons_succ]
                      refine wpAnyH_done (by kernel_rfl) ?_ _
                      refine NoPanic.normal ?_
                      have HX := HL10
                      clear hHeld
                      have HXZ := Lib.hid (HY9.out.trans (HX.out.mono HY9.out.size))
                      have HSF := Lib.hid ((HT0.out).on (HWY.out.trans (HXZ.out.mono HWY.out.size)))
                      obtain ⟨m, hm⟩ : ∃ m, E.length = m + 1 := ⟨E.length - 1, by omega⟩
                      obtain ⟨gb, hgb, hgl, hgs, hgf, hgc, hgw⟩ := own_set (HOY.out.of_below HXZ.out) m (by omega)
                      subst hgb
                      have hstz := HST.out.1
                      have hcz := HSHP.out.2.2
                      have hlen : E.length ≤ 9000 := hel
                      rw [show E.length - 1 = m by omega] at hstz
                      have HSTZ := Lib.hid hstz
                      have HGW := Lib.hid hgw
                      have HMM := Lib.hid hm
                      clear hstz hgw HL HST HSHP
                      obtain ⟨ev, hev⟩ : ∃ e, E.getD m 0#8 = e := ⟨_, rfl⟩
                      rw [hev] at hgc HSTZ
                      clear hev
                      have w1 : IntKind.i64.wrap ((m : Int) + 1 - 1) = (m : Int) := by rw [IntKind.wrap_i64]; omega
                      have w2 : IntKind.i64.wrap (m : Int) = (m : Int) := by rw [IntKind.wrap_i64]; omega
                      obtain ⟨yb, hyb, hy0⟩ : ∃ y : BitVec 8, B y = .int .u8 (max (bx : Int) 1) ∧ y ≠ 0#8 := by
                        refine ⟨BitVec.ofNat 8 (max bx 1), ?_, fun e => ?_⟩
                        · have h1 : (BitVec.ofNat 8 (max bx 1)).toNat = max bx 1 := by rw [BitVec.toNat_ofNat]; omega
                          have h2 : ((max bx 1 : Nat) : Int) = max (bx : Int) 1 := by omega
                          unfold B
                          rw [h1, h2]
                        · have h1 : (BitVec.ofNat 8 (max bx 1)).toNat = max bx 1 := by rw [BitVec.toNat_ofNat]; omega
                          rw [e] at h1
                          have : (0#8 : BitVec 8).toNat = 0 := rfl
                          omega
                      have hxor : binOp .xor 5 (B ev) (.int .u8 (max (bx : Int) 1)) = pure (B (ev ^^^ yb)) := by rw [← hyb]; exact bB_xor _ _ _
                      obtain ⟨zb, hzb⟩ : ∃ z, ev ^^^ yb = z := ⟨_, rfl⟩
                      have hzne : zb ≠ ev := fun e => hy0 (by
                        have h1 : ev ^^^ (ev ^^^ yb) = yb := by rw [← BitVec.xor_assoc, BitVec.xor_self, BitVec.zero_xor]
                        rw [← h1, hzb, e, BitVec.xor_self])
                      rw [hzb] at hxor
                      have hBz : B zb = .int .u8 (zb.toNat : Int) := by unfold B; rfl
                      have HBZ := Lib.hid hBz
                      rw [hBz] at hxor
                      clear hyb hy0 hzb hBz
                      have HPC := Lib.hid (HSTZ.out zb hzne)
                      obtain ⟨WF, hWF⟩ : ∃ W, (x).setCell ⟨gb, m, none⟩ (.int .u8 (zb.toNat : Int)) = W := ⟨_, rfl⟩
                      have hgw := HGW.out zb
                      rw [HBZ.out] at hgw
                      rw [hWF] at hgw
                      have HBF := Lib.hid (show Below w.heap.size w WF from by
                        rw [← hWF]
                        exact (HWY.out.trans (HXZ.out.mono HWY.out.size)).setCell (show w.heap.size ≤ (⟨gb, m, none⟩ : Addr).block from Nat.le_trans HB1.out.size hgl) _)
                      have HPF := Lib.hid (parse10_any (E.set m zb) (some ⟨gb, 0, none⟩) (m + 1) cz WF (by rw [List.length_set]; exact HMM.out) hgw (fun e => by cases e) (by omega) (by omega) (HT0.out.on HBF.out))
                      rw [HPC.out] at HPF
                      clear hgw hzne HSTZ HGW HPC
                      go_wp2_with fail
                      clear hxor hgf hgc
                      try rw [hWF]
                      refine HPF.out.mono ?_
                      rintro e w11 ⟨R2, rfl, hB11, hP11⟩
                      have hst12 := storeNewP w11 w11.heap.size 33 (rcF rc0) R2 rfl
                      obtain ⟨V4, hV4⟩ : ∃ x, rcV R2 = x := ⟨_, rfl⟩
                      rw [hV4] at hst12 ⊢
                      clear hP11 hV4
                      have HFIN := Lib.hid (show Below w.heap.size w (w11.alloc (.cells (tab 54 (rcF R2)) 33)) from by
                        have h1 := HBF.out.trans (hB11.mono HBF.out.size)
                        exact h1.trans ((below_newR w11 _).mono h1.size))
                      clear hB11
                      go_wp2
                      go_ret
                      exact ⟨rfl, by rw [← hb0]; exact HFIN.out⟩
            · have z4 : c < 0 := by omega
              have d4 : decide (c < 0) = true := decide_eq_true z4
              clear hc
              go_wp2_with fail
              refine (HAW.out _).mono ?_
              rintro e w4 ⟨rfl, hB4⟩
              have HB4 := Lib.hid (HX3.out.trans (hB4.mono HX3.out.size))
              clear hB4
              go_wp2
              go_ret
              exact ⟨rfl, by rw [← hb0]; exact HB1.out.trans (HB4.out.mono HB1.out.size)⟩
          · have z3 : t < 0 := by omega
            have d3 : decide (t < 0) = true := decide_eq_true z3
            clear ht
            go_wp2_with fail
            refine (HAW.out _).mono ?_
            rintro e w4 ⟨rfl, hB4⟩
            have HB4 := Lib.hid (HX3.out.trans (hB4.mono HX3.out.size))
            clear hB4
            go_wp2
            go_ret
            exact ⟨rfl, by rw [← hb0]; exact HB1.out.trans (HB4.out.mono HB1.out.size)⟩
        · have z2 : s < 0 := by omega
          have d2 : decide (s < 0) = true := decide_eq_true z2
          clear hs
          go_wp2_with fail
          refine (HAW.out _).mono ?_
          rintro e w4 ⟨rfl, hB4⟩
          have HB4 := Lib.hid (HX3.out.trans (hB4.mono HX3.out.size))
          clear hB4
          go_wp2
          go_ret
          exact ⟨rfl, by rw [← hb0]; exact HB1.out.trans (HB4.out.mono HB1.out.size)⟩
      · have z1 : (64 : Int) < (n : Int) := by omega
        have d1 : decide ((64 : Int) < (n : Int)) = true := decide_eq_true z1
        clear hn
        go_wp2_with fail
        refine (HAW.out _).mono ?_
        rintro e w4 ⟨rfl, hB4⟩
        have HB4 := Lib.hid (HX3.out.trans (hB4.mono HX3.out.size))
        clear hB4
        go_wp2
        go_ret
        exact ⟨rfl, by rw [← hb0]; exact HB1.out.trans (HB4.out.mono HB1.out.size)⟩
    · have z0 : (100 : Int) < (p.length : Int) := by omega
      have d0 : decide ((100 : Int) < (p.length : Int)) = true := decide_eq_true z0
      clear hp
      go_wp2_with fail
      refine (HAW.out _).mono ?_
      rintro e w4 ⟨rfl, hB4⟩
      have HB4 := Lib.hid (HX3.out.trans (hB4.mono HX3.out.size))
      clear hB4
      go_wp2
      go_ret
      exact ⟨rfl, by rw [← hb0]; exact HB1.out.trans (HB4.out.mono HB1.out.size)⟩
end Go.Proofs.YtfemgkamgokjcaaDoor
set_option linter.unusedSimpArgs false
set_option maxRecDepth 100000
set_option linter.unusedVariables false
namespace Go.Proofs.YtfemgkamgokjcaaDoor.recordSums
open Go Go.ChangeShapes Go.WideShapes Go.ChangeAt Go.RowKit Go.Proofs.YtfemgkamgokjcaaDoor

set_option maxRecDepth 100000 in
theorem contract (H : Type) (enc : TypeId × Value → H) (W : World) (base : Nat) (args : Array Value) (ds gs : List (DataW H)) (before : List MemPlace)
    (hval0 : ∀ (j : Nat) t v, Tryd.f4.params[j]? = some t → args[j]? = some v → Value.okWide Tryd.prog W .any base t v)
    (hW : DataW.Whole enc Tryd.prog Tryd.f4.params.toList Rows.recordSumsSpec.vars false W args.toList ds gs before) (hP : Tb W) :
    Calls Tryd.prog 4 args W fun e W' => ∃ v, e = .returned v ∧ Rows.recordSumsSpec.post enc Tryd.prog Tryd.f4 false true false false W args v W' := by
  have hval := hval0
  have hW' := hW
  have hlt := fun p hp => hW.lt p hp
  obtain ⟨p, q, hA0, hV, rfl, hfz, hnd⟩ := hW
  have hA : DataW.TrodAll enc Tryd.prog W 0 (fun _ => true) true Tryd.f4.params.toList args.toList ds p := hA0
  rw [Tryd.params4] at hA hval
  obtain ⟨v0, vs0, d0, ds0, p0, q0, hargs, rfl, rfl, h0, r0⟩ := trodAll_cons hA
  obtain ⟨v1, vs1, d1, ds1, p1, q1, rfl, rfl, rfl, h1, r1⟩ := trodAll_cons r0
  obtain ⟨rfl, rfl, rfl⟩ := trodAll_nil r1
  obtain rfl : args = #[v0, v1] := by cases args; simp_all
  obtain ⟨rfl, rfl⟩ := trodVars_none hV
  obtain ⟨a0, g0, rfl, s0, n0⟩ := open_rec (hval 0 26 v0 rfl rfl) h0
  obtain ⟨a1, rfl, rfl, rfl, w1⟩ := open_int (show Tryd.prog.underlying 5 = some (.int .u8) by kernel_rfl) (hval 1 5 v1 rfl rfl) h1
  clear hA0 hval0
  have walk : Calls Tryd.prog 4 #[rcV a0, .int .u8 a1] W fun e w' => e = .returned (.bool true) ∧ Below W.heap.size W w' := by
    have r1 := bounds_u8 w1
    obtain ⟨x0, rfl⟩ := Int.eq_ofNat_of_zero_le (show 0 ≤ a1 by omega)
    exact sums10_any a0 g0 x0 W s0 n0 (by omega) hP
  refine walk.mono fun e W' ⟨he, hb⟩ => ?_
  subst he
  simp only [List.append_nil] at hW' hlt
  exact ⟨_, rfl, _, [], _, [], _, [], hW', trodAll_cons_mk (shut_bool (show Tryd.prog.underlying 4 = some .bool by kernel_rfl) _) trodAll_mk0, (trodAll_cons_mk (Below.trod laidOut (by kernel_rfl) (of_decide_eq_true (by kernel_rfl)) h0 hb (fun x hx => hlt x (by simp [hx]))) (trodAll_cons_mk (Below.trod laidOut (by kernel_rfl) (of_decide_eq_true (by kernel_rfl)) h1 hb (fun x hx => by cases hx)) trodAll_mk0)), rfl, hb.frame _, fun h => by cases h⟩
def putCellsS10 (cs : Array Value) : Obj → Obj
  | .cells _ t frozen => .cells cs t frozen
  | o => o
/-- A world for the witness: the settled one, the listed variables holding what their initialisers lay. -/
noncomputable def laidWorld (os : Os) : World := { World.holding Tryd.prog os ⟨#[], #[], []⟩ with heap := (((((World.holding Tryd.prog os ⟨#[], #[], []⟩).heap.modify 1 (putCellsS10 #[.int .u32 1116352408, .int .u32 1899447441, .int .u32 3049323471, .int .u32 3921009573, .int .u32 961987163, .int .u32 1508970993, .int .u32 2453635748, .int .u32 2870763221, .int .u32 3624381080, .int .u32 310598401, .int .u32 607225278, .int .u32 1426881987, .int .u32 1925078388, .int .u32 2162078206, .int .u32 2614888103, .int .u32 3248222580, .int .u32 3835390401, .int .u32 4022224774, .int .u32 264347078, .int .u32 604807628, .int .u32 770255983, .int .u32 1249150122, .int .u32 1555081692, .int .u32 1996064986, .int .u32 2554220882, .int .u32 2821834349, .int .u32 2952996808, .int .u32 3210313671, .int .u32 3336571891, .int .u32 3584528711, .int .u32 113926993, .int .u32 338241895, .int .u32 666307205, .int .u32 773529912, .int .u32 1294757372, .int .u32 1396182291, .int .u32 1695183700, .int .u32 1986661051, .int .u32 2177026350, .int .u32 2456956037, .int .u32 2730485921, .int .u32 2820302411, .int .u32 3259730800, .int .u32 3345764771, .int .u32 3516065817, .int .u32 3600352804, .int .u32 4094571909, .int .u32 275423344, .int .u32 430227734, .int .u32 506948616, .int .u32 659060556, .int .u32 883997877, .int .u32 958139571, .int .u32 1322822218, .int .u32 1537002063, .int .u32 1747873779, .int .u32 1955562222, .int .u32 2024104815, .int .u32 2227730452, .int .u32 2361852424, .int .u32 2428436474, .int .u32 2756734187, .int .u32 3204031479, .int .u32 3329325298])).modify 0 (putCellsS10 #[.int .u32 1779033703, .int .u32 3144134277, .int .u32 1013904242, .int .u32 2773480762, .int .u32 1359893119, .int .u32 2600822924, .int .u32 528734635, .int .u32 1541459225])).modify 4 (putCellsS10 #[.int .u8 128, .int .u8 191, .int .u8 160, .int .u8 191, .int .u8 128, .int .u8 159, .int .u8 144, .int .u8 191, .int .u8 128, .int .u8 143, .int .u8 0, .int .u8 0, .int .u8 0, .int .u8 0, .int .u8 0, .int .u8 0, .int .u8 0, .int .u8 0, .int .u8 0, .int .u8 0, .int .u8 0, .int .u8 0, .int .u8 0, .int .u8 0, .int .u8 0, .int .u8 0, .int .u8 0, .int .u8 0, .int .u8 0, .int .u8 0, .int .u8 0, .int .u8 0])).modify 3 (putCellsS10 (Go.Pinned.utf8FirstZ.map fun (n : Nat) => Value.int .u8 (n : Int)).toArray)) }
theorem laid_met (os : Os) : laidMet Tryd.prog Rows.recordSumsRow.laid ((laidWorld os).forCall (fun _ _ => 0) ⟨#[], #[zR10, .int .u8 0], []⟩).memory :=
  laidMet_of_run' 8 (by kernel_rfl) (by kernel_rfl)
theorem reads (os : Os) {H : Type} (enc : TypeId × Value → H) : ∃ places, DataW.whole enc Tryd.prog ((laidWorld os).forCall (fun _ _ => 0) ⟨#[], #[zR10, .int .u8 0], []⟩).memory Tryd.f4.params.toList Rows.recordSumsSpec.vars false (#[zR10, .int .u8 0] : Array Value).toList 8 = some ([lR10, .lit (.int .u8 0)], [], places) :=
  ⟨[], by kernel_rfl⟩
theorem tb_of {W : World} (hL : laidMet Tryd.prog Rows.recordSumsRow.laid W) : Tb W := by
  have hw : laidMet Tryd.prog (("darner/api.Words256", Go.Lib.tabData .u32 kz10) :: Rows.recordSumsRow.laid.drop 1) W := by
    have h := hL
    have e : Rows.recordSumsRow.laid.drop 0 = ("darner/api.Words256", Go.Lib.tabData .u32 kz10) :: Rows.recordSumsRow.laid.drop 1 := by kernel_rfl
    rw [← e]
    exact h
  have hf : laidMet Tryd.prog (("darner/api.First256", Go.Lib.tabData .u32 fz10) :: Rows.recordSumsRow.laid.drop 2) W := by
    have h := hL.tail
    have e : Rows.recordSumsRow.laid.drop 1 = ("darner/api.First256", Go.Lib.tabData .u32 fz10) :: Rows.recordSumsRow.laid.drop 2 := by kernel_rfl
    rw [← e]
    exact h
  exact tb_of_tabs (Lib.tabIs_of_head gK10 tK10 und64w und32w cells32w cells64w hw) (Lib.tabIs_of_head gF10 tF10 und8w und32w cells32w cells8w hf)
set_option maxRecDepth 100000 in
theorem lifted (os : Os) (started : os.Started) (H : Type) (enc : TypeId × Value → H) (F : Stop.Interp) :
    ReturnsInHanded {} Tryd.checked os 4 .any ((OpenSpec.ofChange Rows.recordSumsSpec).preRow enc Tryd.prog Tryd.f4 Rows.recordSumsRow.domain false Rows.recordSumsRow.laid) (((OpenSpec.ofChange Rows.recordSumsSpec).at F).post enc Tryd.prog Tryd.f4 false true false false) := by
  obtain ⟨places, hx⟩ := reads os enc
  refine returnsInHanded_of_row (C := Tryd.checked) (s := OpenSpec.ofChange Rows.recordSumsSpec) own started (by kernel_rfl) Tryd.func4
    (witness_row_at (enc := enc) (C := Tryd.checked) false (laidWorld os) #[zR10, .int .u8 0] rfl (by kernel_rfl) (by kernel_rfl) (by kernel_rfl)
      (OpenSpec.preRow_of_cond 8 hx (by kernel_rfl) (fun k hk => by cases hk) (by kernel_rfl) (laid_met os))) ?_
  intro W base args ds gs before hval hW _ _ _ hL _ _
  exact contract H enc W base args ds gs before hval hW (tb_of hL)
theorem said : Rows.RecordSumsSaid :=
  OpenClaim.holds_of_cond 4 Tryd.f4 rfl rfl rfl rfl rfl rfl rfl ⟨rfl, rfl, rfl, rfl, rfl⟩ rfl rfl rfl rfl rfl (by kernel_rfl) Tryd.func4 (by kernel_rfl)
    (of_decide_eq_true (by kernel_rfl)) (by unfold Func.isWrapper; first | (rw [if_pos (by decide +kernel)]; kernel_rfl) | (rw [if_neg (by decide +kernel)]; exact ⟨rfl, rfl⟩))
    (fun os started H enc _ F => by rw [OpenClaim.pre_eq_preRow]; exact lifted os started H enc F)
set_option maxRecDepth 100000 in
theorem plain (f : FuncId) (fn : Func) (hf : Tryd.pinned.checked.prog.funcNamed "darner/darnerlaw10.RecordSums" = some f) (hfn : Tryd.pinned.checked.prog.funcs[f]? = some fn) :
    true = Tryd.pinned.checked.prog.looks [] ∧ ∀ (j : Nat) t, fn.params[j]? = some t → Tryd.pinned.checked.prog.wantsStandIn t = false := by
  obtain rfl : f = 4 := Option.some.inj ((show Tryd.prog.funcNamed "darner/darnerlaw10.RecordSums" = some 4 by kernel_rfl).symm.trans hf) |>.symm
  obtain rfl : fn = Tryd.f4 := (Option.some.inj (Tryd.func4.symm.trans hfn)).symm
  refine ⟨by kernel_rfl, fun j t ht => ?_⟩
  rw [Tryd.params4] at ht
  have ht2 := Array.mem_of_getElem? ht
  simp at ht2
  rcases ht2 with rfl | rfl
  · exact (show Tryd.prog.wantsStandIn 26 = false by kernel_rfl)
  · exact (show Tryd.prog.wantsStandIn 5 = false by kernel_rfl)
end Go.Proofs.YtfemgkamgokjcaaDoor.recordSums
namespace Go.Proofs.YtfemgkamgokjcaaDoor
open Go Go.ChangeShapes Go.WideShapes Go.ChangeAt Go.RowKit
/-- The statement. -/
theorem recordSums_card : Rows.RecordSumsCardSaid :=
  Claim7.holds_tied_plain_at .later [] _ _ _ _ recordSums.said (fun _ h => by cases h) (by kernel_rfl) (fun _ h => by cases h) recordSums_row_tie rfl ⟨rfl, rfl⟩ (by kernel_rfl) rfl recordSums.plain (by kernel_rfl)
end Go.Proofs.YtfemgkamgokjcaaDoor
