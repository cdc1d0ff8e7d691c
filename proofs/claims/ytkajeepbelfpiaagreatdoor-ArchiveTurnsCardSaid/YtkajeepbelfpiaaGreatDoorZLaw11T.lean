/- ArchiveTurns: in whatever order records of unlike paths are set, the archive is the same. -/
import Derived.Test.YtkajeepbelfpiaaGreatDoorKT12
import Derived.Deep.RegionHeld3
set_option linter.unusedSimpArgs false
set_option maxRecDepth 100000
set_option linter.unusedVariables false
namespace Go.Proofs.YtkajeepbelfpiaaGreatDoor
open Go Go.RowKit

attribute [-go_sem] Sha.exec_store
attribute [local go_sem ↓] exec_allocM exec_storeM exec_loadM exec_bs
attribute [local go_sem] bsR1
theorem own_sl11 {w : World} {N : Nat} {v : Value} {l : By} (h : OwnB w N v l) : ∃ p c, v = .slice p l.length c ∧ Sl w p l ∧ (p = none → c = 0) := by
  obtain ⟨p, c, e, h1, h2, -⟩ := h.shape
  exact ⟨p, c, e, h1, h2⟩
set_option maxRecDepth 100000 in
set_option maxHeartbeats 8000000 in
theorem turns_go (w : World) (hC : CpA w) (hT : Tb w) (l : List Ent) (q : Option Addr) (n cap t : Nat) (h : RsAt w q l) (hl : l.length = n) (hin : ∀ e ∈ l, RcIn e.1) (hs : small11 l = true) (hn : 0 < n) (ht : t < 256) :
    Calls Tryz.prog 4 #[.slice q n cap, .int .u8 (t : Int)] w fun e w' => e = .returned (.bool true) ∧ Below w.heap.size w w' := by
  have hsm : (∀ e ∈ l, smallE e = true) ∧ l.length ≤ 20 := by
    unfold small11 at hs
    simp only [Bool.and_eq_true, List.all_eq_true, decide_eq_true_eq] at hs
    exact hs
  have HAW := Lib.hid (awake11 w hC hT)
  have HSM := Lib.hid (fun u (hu : Below w.heap.size w u) => small_any l q n cap u (h.of_below hu) hl (by omega) hin)
  rw [hs] at HSM
  have HRS := Lib.hid (fun u (hu : Below w.heap.size w u) => h.of_below hu)
  have HTB := Lib.hid (fun u (hu : Below w.heap.size w u) => hT.on hu)
  have HL := Lib.hid (And.intro hsm hin)
  have z0 : ¬ (n : Int) = 0 := by omega
  have z1 : decide ((n : Int) = 0) = false := decide_eq_false z0
  have z2 : ((n : Int) == 0) = false := by simp; omega
  have hn20 : n ≤ 20 := by omega
  have HLN := Lib.hid hl
  clear hC hT h hin hs hsm hl
  go_enter Tryz.func4, Tryz.ntmps4
  go_wp2_with fail
  refine HAW.out.mono ?_
  rintro e w1 ⟨rfl, hB1⟩
  have HB1 := Lib.hid hB1
  clear hB1
  go_wp2_with fail
  refine (HSM.out w1 HB1.out).mono ?_
  rintro e w2 ⟨rfl, hB2⟩
  have HB2 := Lib.hid (HB1.out.trans (hB2.mono HB1.out.size))
  clear hB2
  go_wp2
  obtain ⟨N, hN⟩ : ∃ N, N = w2.heap.size := ⟨_, rfl⟩
  have HN := Lib.hid hN
  go_loopw [5, 29] (fun v5 v29 wr => ∃ (i : Nat) (ml : List Ent), i ≤ n ∧ v29 = .int .i64 (i : Int) ∧ wr.ownsRow N ERr 54 v5 ml.length (rsC ml) ∧ (∀ e ∈ ml, e ∈ l ∧ goodR e.1 = true) ∧ (ml.map fun e => e.1.path).Nodup ∧ ml.length ≤ i ∧ Below N w2 wr) (fun v5 v29 _ => n - (intOf v29).toNat)
  case atStart => exact ⟨0, [], Nat.zero_le _, rfl, ⟨rfl, .inl ⟨rfl, rfl⟩⟩, (fun e he => by cases he), by simp, Nat.le_refl _, Below.refl _ _⟩
  case round =>
    rename World => wa
    obtain ⟨i, ml, hi, rfl, hO, hM, hND, hml, hB⟩ := hrel
    have HBw := Lib.hid hB
    have HMM := Lib.hid (And.intro hM hND)
    have HWw := Lib.hid (show Below w.heap.size w wa from HB2.out.trans (hB.mono (by rw [HN.out]; exact HB2.out.size)))
    have HO := Lib.hid hO
    obtain ⟨p5, k5, rfl, hl5, hp5, hk5, hb5⟩ := own_shape hO
    have HSH := Lib.hid (And.intro hl5 hb5)
    have HO2 := Lib.hid (fun u (hu : Below wa.heap.size wa u) => own_below HO.out hu)
    have HDG := Lib.hid (fun u (hu : Below w.heap.size w u) e (he : e ∈ ml) => (HRS.out u hu).dg e (hM e he).1)
    obtain ⟨m, hm⟩ : ∃ m, ml.length = m := ⟨_, rfl⟩
    rw [hm] at hml hk5 HO2
    rw [hm]
    have HMN := Lib.hid hm
    clear hO hM hND hB hl5 hb5
    by_cases hlt : i < n
    · have y1 : (i : Int) < (n : Int) := by omega
      have y2 : decide ((i : Int) < (n : Int)) = true := decide_eq_true y1
      obtain ⟨c, o, rfl, -⟩ := (HRS.out wa HWw.out).lie (i * 54) (by rw [rsC_len, HLN.out]; omega)
      have ld := (HRS.out wa HWw.out).load i (by rw [HLN.out]; exact hlt)
      obtain ⟨en, hen⟩ : ∃ r, l.getD i ent0 = r := ⟨_, rfl⟩
      have hmem : en ∈ l := by
        rw [← hen, List.getD_eq_getElem?_getD, List.getElem?_eq_getElem (by rw [HLN.out]; exact hlt)]; exact List.getElem_mem _
      rw [hen] at ld
      have hsme := HL.out.1.1 en hmem
      unfold smallE at hsme
      simp only [Bool.and_eq_true, decide_eq_true_eq] at hsme
      have hdg := (HRS.out wa HWw.out).dg en hmem
      have hst := storeNewRT rtM wa wa.heap.size 49 (rcF rc0) en.1 rfl
      have hb3 : Below wa.heap.size wa (wa.alloc (.cells (tab 54 (rcF en.1)) 49)) := below_newR _ _
      have hRow : Row (wa.alloc (.cells (tab 54 (rcF en.1)) 49)) wa.heap.size 49 54 (rcF en.1) := Row.new _ _ _ _
      obtain ⟨W3, hW3⟩ : ∃ W, wa.alloc (.cells (tab 54 (rcF en.1)) 49) = W := ⟨_, rfl⟩
      obtain ⟨b3, hb3e⟩ : ∃ b, wa.heap.size = b := ⟨_, rfl⟩
      rw [hW3] at hst hb3 hRow
      rw [hb3e] at hst hb3 hRow
      have ld2 := loadRT rtM hRow
      have HGD := Lib.hid (refGood10_any en.1 (by omega) hdg.whole W3)
      have HR3 := Lib.hid (fun u (hu : Below W3.heap.size W3 u) => hRow.of_below hu)
      have HB3 := Lib.hid (And.intro hb3 hb3e)
      have HEN := Lib.hid (And.intro hmem (And.intro hsme hdg.whole))
      have HW3 := Lib.hid (show W3.heap.size = b3 + 1 by rw [← hW3, ← hb3e]; simp)
      obtain ⟨V, hV⟩ : ∃ V, rcV en.1 = V := ⟨_, rfl⟩
      obtain ⟨gd, hgd⟩ : ∃ g, goodR en.1 = g := ⟨_, rfl⟩
      rw [hV] at ld hst ld2 HGD
      rw [hgd] at HGD
      have HV := Lib.hid (And.intro hV hgd)
      clear hmem hsme hdg hb3 hRow hV hgd hen
      go_wp2_with fail
      refine HGD.out.mono ?_
      rintro e w4 ⟨rfl, hB4⟩
      have HB4 := Lib.hid hB4
      clear hB4 HGD ld hst ld2 hW3 hb3e
      have HMV := Lib.hid (And.intro hlt (And.intro hi hml))
      clear hlt hi hml y1 y2
      go_wp2
      go_loopw [8, 37] (fun v8 v37 wr => ∃ (j : Nat) (f : Bool), j ≤ m ∧ v37 = .int .i64 (j : Int) ∧ v8 = .bool f ∧ (f = true → gd = true ∧ ∀ x, x < j → (ml.getD x ent0).1.path ≠ en.1.path) ∧ Below w4.heap.size w4 wr) (fun _ v37 _ => m - (intOf v37).toNat)
      case atStart => exact ⟨0, gd, Nat.zero_le _, rfl, rfl, (fun h => ⟨h, fun x hx => by omega⟩), Below.refl _ _⟩
      case round =>
        obtain ⟨j, f, hj, rfl, rfl, hf, hBj⟩ := hrel
        have HF := Lib.hid hf
        rename World => wc
        have hB43 : Below W3.heap.size W3 wc := HB4.out.trans (hBj.mono HB4.out.size)
        have hBa : Below wa.heap.size wa wc := (HB3.out.1.trans (hB43.mono (by rw [HW3.out]; omega))).mono (by rw [HB3.out.2]; omega)
        have HBj := Lib.hid hBj
        have HB43 := Lib.hid hB43
        have HBa := Lib.hid hBa
        have hR3 := HR3.out wc hB43
        have cp3 := rc_path hR3
        clear hf hBj
        by_cases hlt : j < m
        · have y1 : (j : Int) < (m : Int) := by omega
          have y2 : decide ((j : Int) < (m : Int)) = true := decide_eq_true y1
          have hm20 : m ≤ 20 := by have := HMV.out; omega
          have hw6 : IntKind.i64.wrap ((j : Int) + 1) = (j : Int) + 1 := by rw [IntKind.wrap_i64]; omega
          obtain ⟨g5, o5, rfl, -⟩ := HSH.out.1 (j * 54) (by rw [rsC_len, HMN.out]; omega)
          have ld := (show RsAt wc (some ⟨g5, o5, none⟩) ml from ⟨HSH.out.1.of_below hBa, fun e he => HDG.out wc (HWw.out.trans (hBa.mono HWw.out.size)) e he⟩).load j (by rw [HMN.out]; exact hlt)
          obtain ⟨xe, hxe⟩ : ∃ r, ml.getD j ent0 = r := ⟨_, rfl⟩
          rw [hxe] at ld
          have hst := storeNewRT rtM wc wc.heap.size 49 (rcF rc0) xe.1 rfl
          have hb5 : Below wc.heap.size wc (wc.alloc (.cells (tab 54 (rcF xe.1)) 49)) := below_newR _ _
          have hRow : Row (wc.alloc (.cells (tab 54 (rcF xe.1)) 49)) wc.heap.size 49 54 (rcF xe.1) := Row.new _ _ _ _
          obtain ⟨W5, hW5⟩ : ∃ W, wc.alloc (.cells (tab 54 (rcF xe.1)) 49) = W := ⟨_, rfl⟩
          rw [hW5] at hst hb5 hRow
          have cp5 := rc_path hRow
          have cp3' := rc_path (hR3.of_below hb5)
          have hB4' := HBj.out.trans (hb5.mono HBj.out.size)
          have HB5 := Lib.hid hB4'
          have HXE := Lib.hid hxe
          have hcmp : ((mkS xe.1.path).toList == (mkS en.1.path).toList) = decide (xe.1.path = en.1.path) := by
            rw [mkS_toList, mkS_toList]
            by_cases h : xe.1.path = en.1.path
            · simp [h]
            · simp [h]
          obtain ⟨eq5, heq5⟩ : ∃ b, decide (xe.1.path = en.1.path) = b := ⟨_, rfl⟩
          have HEQ := Lib.hid heq5
          rw [heq5] at hcmp
          obtain ⟨V5, hV5⟩ : ∃ V, rcV xe.1 = V := ⟨_, rfl⟩
          rw [hV5] at ld hst
          clear hb5 hRow hB43 hBa hR3 hxe heq5 hV5 hB4'
          generalize mkS xe.1.path = X at hcmp cp5
          generalize mkS en.1.path = Y at hcmp cp3 cp3'
          cases f with
          | true =>
            go_wp2
            refine ⟨⟨j + 1, !eq5, by omega, by go_num, rfl, fun h => ?_, HB5.out⟩, by simp [intOf]; omega⟩
            have h1 := HF.out rfl
            refine ⟨h1.1, fun x hx => ?_⟩
            rcases Nat.lt_succ_iff_lt_or_eq.1 hx with h2 | rfl
            · exact h1.2 x h2
            · rw [HXE.out]
              have h3 := HEQ.out
              intro e3
              rw [decide_eq_true e3] at h3
              rw [← h3] at h
              cases h
          | false =>
            go_wp2
            exact ⟨⟨j + 1, false, by omega, by go_num, rfl, (fun h => by cases h), HB5.out⟩, by simp [intOf]; omega⟩
        · have y1 : ¬ (j : Int) < (m : Int) := by omega
          have y2 : decide ((j : Int) < (m : Int)) = false := decide_eq_false y1
          have hjm : j = m := by omega
          have hi20 : i < 20 := by have := HMV.out.1; omega
          have hw6 : IntKind.i64.wrap ((i : Int) + 1) = (i : Int) + 1 := by rw [IntKind.wrap_i64]; omega
          cases f with
          | false =>
            have HOX := Lib.hid (HO2.out wc hBa)
            have HMX := Lib.hid HMV.out
            have HBX := Lib.hid (HBw.out.trans (hBa.mono (by rw [HN.out]; exact HBw.out.size)))
            clear hB43 hBa hR3 hjm
            go_wp2
            exact ⟨⟨i + 1, ml, by have := HMX.out.2.1; have := HMX.out.1; omega, by go_num, by rw [HMN.out]; exact HOX.out, HMM.out.1, HMM.out.2, by rw [HMN.out]; have := HMX.out.2.2; omega, HBX.out⟩, by have := HMX.out.1; simp [intOf]; omega⟩
          | true =>
            have ldr := loadRT rtM hR3
            rw [HV.out.1] at ldr
            have hb6 : Below wc.heap.size wc (wc.alloc (.cells (tab 54 (rcF en.1)) 49)) := below_newR _ _
            have hbs := bsR1 en.1 wc
            rw [HV.out.1] at hbs
            have hrow6 : Row (wc.alloc (.cells (tab 54 (rcF en.1)) 49)) wc.heap.size 49 54 (rcF en.1) := Row.new _ _ _ _
            obtain ⟨W6, hW6⟩ : ∃ W, wc.alloc (.cells (tab 54 (rcF en.1)) 49) = W := ⟨_, rfl⟩
            rw [hW6] at hb6 hbs hrow6
            have hBa6 := hBa.trans (hb6.mono hBa.size)
            have HOX := Lib.hid (HO2.out W6 hBa6)
            have HMX := Lib.hid HMV.out
            have HBX := Lib.hid (HBw.out.trans (hBa6.mono (by rw [HN.out]; exact HBw.out.size)))
            have HRX := Lib.hid hrow6
            have HFX := Lib.hid (show gd = true ∧ ∀ x ∈ ml, x.1.path ≠ en.1.path from ⟨(HF.out rfl).1, fun x hx => by
              obtain ⟨k, hk, rfl⟩ := List.getElem_of_mem hx
              have := (HF.out rfl).2 k (by rw [hjm, ← HMN.out]; exact hk)
              rw [List.getD_eq_getElem?_getD, List.getElem?_eq_getElem hk] at this
              exact this⟩)
            clear hB43 hBa hR3 hjm hb6 hrow6 hBa6 hW6
            go_wp2_with (first | (refine wpl_appendRr W6 rfl (.tmp 51) (.tmp 53) rfl N (.slice p5 m k5) ml en m HMN.out rfl HOX.out wc.heap.size rfl HRX.out (by have := HMX.out; have := HMN.out; omega) (by have := HBX.out.size; have := HN.out; omega) ?_; rintro v6 w6 hO6 hg6; have HO6 := Lib.hid hO6; have HG6 := Lib.hid (HBX.out.grown hg6 (by have := HBX.out.size; have := HN.out; omega) (fun k hk => (HOX.out.lt k hk).1)); clear hO6 hg6))
            exact ⟨⟨i + 1, ml ++ [en], by have := HMX.out.2.1; have := HMX.out.1; omega, by go_num, HO6.out, (fun e he => by
              rcases List.mem_append.1 he with h1 | h1
              · exact HMM.out.1 e h1
              · have : e = en := by simpa using h1
                rw [this]
                exact ⟨HEN.out.1, HV.out.2.trans HFX.out.1⟩), (by
              rw [List.map_append, List.nodup_append]
              refine ⟨HMM.out.2, by simp, fun a ha b hb => ?_⟩
              obtain ⟨x, hx, rfl⟩ := List.mem_map.1 ha
              have : b = en.1.path := by simpa using hb
              rw [this]
              exact HFX.out.2 x hx), (by rw [List.length_append, HMN.out]; have := HMX.out.2.2; simp; omega), HG6.out⟩, by have := HMX.out.1; simp [intOf]; omega⟩
    · have y1 : ¬ (i : Int) < (n : Int) := by omega
      have y2 : decide ((i : Int) < (n : Int)) = false := decide_eq_false y1
      have HANEW := Lib.hid (anew_any wa)
      have hm20 : m ≤ 20 := by omega
      clear hi hlt hml
      go_wp2_with fail
      clear y1 y2
      refine HANEW.out.mono ?_
      rintro e wx ⟨rfl, hAx, hBx⟩
      have HBNEW := Lib.hid (anew_any wx)
      have HAx := Lib.hid (And.intro hAx hBx)
      clear hAx hBx
      go_wp2_with fail
      refine HBNEW.out.mono ?_
      rintro e wy ⟨rfl, hAy, hBy⟩
      have HAy := Lib.hid (And.intro (HAx.out.1.of_below hBy) (And.intro hAy (HAx.out.2.trans (hBy.mono HAx.out.2.size))))
      clear hAy hBy HANEW HBNEW
      obtain ⟨ma, hma⟩ : ∃ x, wa.heap.size = x := ⟨_, rfl⟩
      obtain ⟨mb, hmb⟩ : ∃ x, wx.heap.size = x := ⟨_, rfl⟩
      rw [hma, hmb] at HAy
      rw [hma] at HAx
      have hab : ma ≠ mb := by have := HAx.out.1.lt; omega
      have hab2 : ma ≤ mb := by have := HAx.out.1.lt; omega
      have HMA := Lib.hid (And.intro hma (And.intro hab hab2))
      rw [hma, hmb]
      clear hma hmb hab hab2 HAx
      go_wp2
      go_loopw [60] (fun v60 wr => ∃ (i : Nat) (esA esB : List Ent), i ≤ m ∧ v60 = .int .i64 (i : Int) ∧ ArAt wr (ma + 1) ma 0 esA ∧ ArAt wr (mb + 1) mb 0 esB ∧ (esA.map nrmE).Perm ((ml.take i).map nrmE) ∧ (esB.map nrmE).Perm (((rotE ml (t % m)).take i).map nrmE) ∧ Below ma wa wr) (fun v60 _ => m - (intOf v60).toNat)
      case atStart => exact ⟨0, [], [], Nat.zero_le _, rfl, HAy.out.1, HAy.out.2.1, by simp, by simp, HAy.out.2.2⟩
      case round =>
        rename World => wc
        obtain ⟨i, esA, esB, hi, rfl, hA, hB, hpA, hpB, hK⟩ := hrel
        have hWc : Below w.heap.size w wc := HWw.out.trans (hK.mono (by have := HWw.out.size; have := HMA.out.1; omega))
        have hRs : ∀ u, Below wc.heap.size wc u → RsAt u p5 ml := fun u hu => ⟨HSH.out.1.of_below ((HMA.out.1 ▸ hK).trans (hu.mono (by have := hK.size; have := HMA.out.1; omega))), fun e he => HDG.out u (hWc.trans (hu.mono hWc.size)) e he⟩
        by_cases hlt : i < m
        · have y1 : (i : Int) < (m : Int) := by omega
          have y2 : decide ((i : Int) < (m : Int)) = true := decide_eq_true y1
          have hw6 : IntKind.i64.wrap ((i : Int) + 1) = (i : Int) + 1 := by rw [IntKind.wrap_i64]; omega
          have hw7 : IntKind.i64.wrap ((i : Int) + (t : Int)) = (i : Int) + (t : Int) := by rw [IntKind.wrap_i64]; omega
          have hm0 : ¬ (m : Int) = 0 := by omega
          obtain ⟨J, hJ⟩ : ∃ J, (i + t) % m = J := ⟨_, rfl⟩
          have hJm : J < m := by rw [← hJ]; exact Nat.mod_lt _ (by omega)
          have hq1 : ((i : Int) + (t : Int)) % (m : Int) = (J : Int) := by rw [← hJ]; simp
          have hq2 : Int.tmod ((i : Int) + (t : Int)) (m : Int) = (J : Int) := by rw [Int.tmod_eq_emod_of_nonneg (by omega)]; exact hq1
          have hJ0 : (0 : Int) ≤ (J : Int) := by omega
          have hJ1 : (J : Int) < (m : Int) := by omega
          obtain ⟨g5, o5, rfl, -⟩ := HSH.out.1 (i * 54) (by rw [rsC_len, HMN.out]; omega)
          have ld := (hRs wc (Below.refl _ _)).load i (by rw [HMN.out]; exact hlt)
          obtain ⟨e1, he1⟩ : ∃ r, ml.getD i ent0 = r := ⟨_, rfl⟩
          obtain ⟨e2, he2⟩ : ∃ r, ml.getD J ent0 = r := ⟨_, rfl⟩
          have hm1 : e1 ∈ ml := by
            rw [← he1, List.getD_eq_getElem?_getD, List.getElem?_eq_getElem (by rw [HMN.out]; exact hlt)]; exact List.getElem_mem _
          have hm2 : e2 ∈ ml := by
            rw [← he2, List.getD_eq_getElem?_getD, List.getElem?_eq_getElem (by rw [HMN.out]; exact hJm)]; exact List.getElem_mem _
          rw [he1] at ld
          have HSD := Lib.hid (show ∀ e ∈ ml, goodR e.1 = true ∧ e.1.path.length ≤ 200 ∧ e.1.n ≤ 100 ∧ RcIn e.1 from fun e he => by
            have h1 := HMM.out.1 e he
            have h2 := HL.out.1.1 e h1.1
            unfold smallE at h2
            simp only [Bool.and_eq_true, decide_eq_true_eq] at h2
            exact ⟨h1.2, h2.1, h2.2, HL.out.2 e h1.1⟩)
          have HRE := Lib.hid (real_any e1.1 e1.2 wc ((hRs wc (Below.refl _ _)).dg e1 hm1) (by have := ((hRs wc (Below.refl _ _)).dg e1 hm1).n; have := (HSD.out e1 hm1).2.2.1; omega))
          have HMS := Lib.hid (And.intro hm1 (And.intro hm2 (And.intro he1 (And.intro he2 hJ))))
          have HAB := Lib.hid (And.intro hA (And.intro hB (And.intro hpA hpB)))
          have HRs := Lib.hid hRs
          have HKc := Lib.hid hK
          obtain ⟨V1, hV1⟩ : ∃ V, rcV e1.1 = V := ⟨_, rfl⟩
          rw [hV1] at ld HRE
          clear hA hB hpA hpB hK hWc hRs hm1 hm2 he1 he2 hJ hV1
          go_wp2_with fail
          refine HRE.out.mono ?_
          rintro e w7 ⟨q7, c7, rfl, hB7, hD7⟩
          have HB7 := Lib.hid hB7
          have hA7 := HAB.out.1.of_below hB7
          have hlA : esA.length = i := by
            have h3 := HAB.out.2.2.1.length_eq
            rw [List.length_map, List.length_map, List.length_take, HMN.out] at h3
            omega
          have HD7 := Lib.hid hD7
          have HS1 := Lib.hid (set_any hA7 (e1.1.mov q7 c7) e1.2 hD7 (by have := (HSD.out e1 HMS.out.1).2.1; show e1.1.path.length < 100000; omega) (by have := hD7.n; have := (HSD.out e1 HMS.out.1).2.2.1; have h9 : (e1.1.mov q7 c7).n = e1.1.n := rfl; omega) ⟨(HSD.out e1 HMS.out.1).2.2.2.time.2, (HSD.out e1 HMS.out.1).2.2.2.chg.2⟩)
          have HNF := Lib.hid (show findA esA e1.1.path = none from find_new HAB.out.2.2.1 (by
            rw [← HMS.out.2.2.1]
            exact paths_ne HMM.out.2 (by rw [HMN.out]; exact hlt)))
          clear hB7 hA7 hD7 ld HRE
          go_wp2_with fail
          refine HS1.out.mono ?_
          intro e w8 hS
          unfold SetR at hS
          rw [if_neg (by rw [show goodR (e1.1.mov q7 c7) = goodR e1.1 from rfl, (HSD.out e1 HMS.out.1).1]; decide), if_neg (by rw [hlA]; omega)] at hS
          obtain ⟨rfl, q8, c8, hA8, hK8, -⟩ := hS
          have hB7 := HB7.out
          have hsB : (esA.map entA).length = esA.length := by simp
          have hA9 := set_new (e := (e1.1.mov q7 c7, e1.2)) HNF.out
          have hA8' : ArAt w8 (ma + 1) ma 0 ((e1.1.mov q8 c8, e1.2) :: esA) := by
            have h9 := set_new (es := esA) (e := ((e1.1.mov q7 c7).mov q8 c8, e1.2)) HNF.out
            rw [h9] at hA8
            exact hA8
          have hmap7 := (HAB.out.1.of_below hB7).map.is
          have hBb7 := HAB.out.2.1.of_below hB7
          have hBb8 := hBb7.apart hmap7 hK8 (fun e => HMA.out.2.1 e.symm)
          have hkc8 : Below ma wa w8 := (HKc.out.trans (hB7.mono (by have := HKc.out.size; have := HMA.out.1; omega))).trans (hK8.below (Nat.le_refl _) (by have := hB7.size; have := HKc.out.size; have := HMA.out.1; omega))
          have hWc8 : Below w.heap.size w w8 := HWw.out.trans (hkc8.mono (by have := HWw.out.size; have := HMA.out.1; omega))
          have hRs8 : RsAt w8 (some ⟨g5, o5, none⟩) ml := ⟨HSH.out.1.of_below (HMA.out.1 ▸ hkc8), fun e he => HDG.out w8 hWc8 e he⟩
          have ld := hRs8.load J (by rw [HMN.out]; exact hJm)
          rw [HMS.out.2.2.2.1] at ld
          have hdg2 := hRs8.dg e2 HMS.out.2.1
          have HRE := Lib.hid (real_any e2.1 e2.2 w8 hdg2 (by have := hdg2.n; have := (HSD.out e2 HMS.out.2.1).2.2.1; omega))
          have HPA := Lib.hid (take_perm (by rw [HMN.out]; exact hlt) (e1.1.mov q8 c8, e1.2) (by rw [HMS.out.2.2.1]; rfl) HAB.out.2.2.1)
          have HA8 := Lib.hid (And.intro hA8' (And.intro hBb8 hkc8))
          have HNFB := Lib.hid (show findA esB e2.1.path = none from find_new HAB.out.2.2.2 (by
            have hr : (rotE ml (t % m)).getD i ent0 = e2 := by
              rw [rot_get ml (t % m) i (by rw [HMN.out]; exact Nat.mod_lt _ (by omega)) (by rw [HMN.out]; exact hlt), HMN.out, ← HMS.out.2.2.2.1]
              congr 1
              rw [← HMS.out.2.2.2.2, Nat.add_mod, Nat.mod_mod, ← Nat.add_mod]
            rw [← hr]
            exact paths_ne (((rot_perm ml (t % m)).map _).nodup_iff.2 HMM.out.2) (by rw [rot_len, HMN.out]; exact hlt)))
          have HPB := Lib.hid (fun (x : Ent) (hx : nrmE x = nrmE e2) => take_perm (ml := rotE ml (t % m)) (i := i) (es := esB) (by rw [rot_len, HMN.out]; exact hlt) x (by
            have hr : (rotE ml (t % m)).getD i ent0 = e2 := by
              rw [rot_get ml (t % m) i (by rw [HMN.out]; exact Nat.mod_lt _ (by omega)) (by rw [HMN.out]; exact hlt), HMN.out, ← HMS.out.2.2.2.1]
              congr 1
              rw [← HMS.out.2.2.2.2, Nat.add_mod, Nat.mod_mod, ← Nat.add_mod]
            rw [hr]; exact hx) HAB.out.2.2.2)
          have hlB : esB.length = i := by
            have h3 := HAB.out.2.2.2.length_eq
            rw [List.length_map, List.length_map, List.length_take, rot_len, HMN.out] at h3
            omega
          obtain ⟨V2, hV2⟩ : ∃ V, rcV e2.1 = V := ⟨_, rfl⟩
          rw [hV2] at ld HRE
          clear hB7 hsB hA9 hA8' hmap7 hBb7 hBb8 hkc8 hWc8 hRs8 hdg2 hV2 hA8 hK8
          go_wp2_with fail
          refine HRE.out.mono ?_
          rintro e w9 ⟨q9, c9, rfl, hB9, hD9⟩
          have hB9b := HA8.out.2.1.of_below hB9
          have HB9 := Lib.hid (And.intro (HA8.out.1.of_below hB9) (And.intro hB9b (HA8.out.2.2.trans (hB9.mono (by have := HA8.out.2.2.size; have := HMA.out.1; omega)))))
          have HS2 := Lib.hid (set_any hB9b (e2.1.mov q9 c9) e2.2 hD9 (by have := (HSD.out e2 HMS.out.2.1).2.1; show e2.1.path.length < 100000; omega) (by have := hD9.n; have := (HSD.out e2 HMS.out.2.1).2.2.1; have h9 : (e2.1.mov q9 c9).n = e2.1.n := rfl; omega) ⟨(HSD.out e2 HMS.out.2.1).2.2.2.time.2, (HSD.out e2 HMS.out.2.1).2.2.2.chg.2⟩)
          clear hB9 hB9b hD9 ld HRE
          go_wp2_with fail
          refine HS2.out.mono ?_
          intro e wd hS
          unfold SetR at hS
          rw [if_neg (by rw [show goodR (e2.1.mov q9 c9) = goodR e2.1 from rfl, (HSD.out e2 HMS.out.2.1).1]; decide), if_neg (by rw [hlB]; omega)] at hS
          obtain ⟨rfl, q10, c10, hAd, hKd, -⟩ := hS
          have h9 := set_new (es := esB) (e := ((e2.1.mov q9 c9).mov q10 c10, e2.2)) HNFB.out
          rw [h9] at hAd
          have HZ := Lib.hid (And.intro (HB9.out.1.apart HB9.out.2.1.map.is hKd HMA.out.2.1) (And.intro hAd (HB9.out.2.2.trans (hKd.below HMA.out.2.2 (by have := HB9.out.2.2.size; have := HMA.out.1; omega)))))
          clear hAd hKd h9
          go_wp2
          exact ⟨⟨i + 1, _, _, by omega, by go_num, HZ.out.1, HZ.out.2.1, HPA.out, HPB.out _ rfl, HZ.out.2.2⟩, by simp [intOf]; omega⟩
        · have y1 : ¬ (i : Int) < (m : Int) := by omega
          have y2 : decide ((i : Int) < (m : Int)) = false := decide_eq_false y1
          have him : i = m := by omega
          rw [him, ← HMN.out, List.take_length] at hpA
          rw [him, List.take_of_length_le (by rw [rot_len, HMN.out]; exact Nat.le_refl _)] at hpB
          have HPP := Lib.hid (show (esA.map nrmE).Perm (esB.map nrmE) from hpA.trans (hpB.trans ((rot_perm ml _).map _)).symm)
          have hlA : esA.length = m := by
            have h3 := hpA.length_eq
            rw [List.length_map, List.length_map, HMN.out] at h3
            exact h3
          have hlB : esB.length = m := by
            have h3 := hpB.length_eq
            rw [List.length_map, List.length_map, rot_len, HMN.out] at h3
            exact h3
          have hkA : (esA.map fun e => e.1.path).Nodup := by
            have h3 := (hpA.map fun e : Ent => e.1.path).nodup_iff
            rw [List.map_map, List.map_map] at h3
            exact h3.2 HMM.out.2
          have henc := enc_same HPP.out hkA 0
          obtain ⟨E, hE⟩ : ∃ E, encAr 0 (sortA esB) = E := ⟨_, rfl⟩
          obtain ⟨sE, hsE⟩ : ∃ s, strOf E = s := ⟨_, rfl⟩
          have HBY := Lib.hid (show (∀ u, Below wc.heap.size wc u → Calls Tryz.prog 22 #[.pointer (some ⟨ma + 1, 0, none⟩)] u (GivesB u E)) ∧ (∀ u, Below wc.heap.size wc u → Calls Tryz.prog 22 #[.pointer (some ⟨mb + 1, 0, none⟩)] u (GivesB u E)) ∧
            (∀ u, Below wc.heap.size wc u → Calls Tryz.prog 23 #[.pointer (some ⟨ma + 1, 0, none⟩)] u fun e w' => e = .returned (.int .i64 (m : Int)) ∧ u = w') ∧ (∀ u, Below wc.heap.size wc u → Calls Tryz.prog 23 #[.pointer (some ⟨mb + 1, 0, none⟩)] u fun e w' => e = .returned (.int .i64 (m : Int)) ∧ u = w') from by
            refine ⟨fun u hu => ?_, fun u hu => ?_, fun u hu => ?_, fun u hu => ?_⟩
            · have h9 := bytesA_any (w := u) (b := ma + 1) (mb := ma) (es := esA) 0 (hA.of_below hu) (by decide) ((HTB.out wc hWc).on hu)
              rw [henc, hE] at h9
              exact h9
            · have h9 := bytesA_any (w := u) (b := mb + 1) (mb := mb) (es := esB) 0 (hB.of_below hu) (by decide) ((HTB.out wc hWc).on hu)
              rw [hE] at h9
              exact h9
            · have h9 := alen_any (hA.of_below hu)
              rw [hlA] at h9
              exact h9
            · have h9 := alen_any (hB.of_below hu)
              rw [hlB] at h9
              exact h9)
          have HBM := Lib.hid (fun u (hu : Below wc.heap.size wc u) => hWc.trans (hu.mono hWc.size))
          have Hx := Lib.hid (show Below wc.heap.size wc wc.drew from (Below.refl _ _).drew)
          clear hA hB hpA hpB hK hWc hRs him hlA hlB hkA henc hE
          go_wp2
          refine wp_region_noPanic ?_
          refine wp_region_any (by kernel_rfl) ?_
          try (change wpAny _ _ _ _ _ _ _ (World.drew _))
          generalize wc.drew = x at Hx ⊢
          refine wpAny_take (i := 0) (v := ?_) (by simp only [List.getElem?_toArray, List.getElem?_cons_succ, List.getElem?_cons_zero]; exact rfl) (by kernel_rfl) (by kernel_rfl) (by kernel_rfl) (fun _ _ _ h => h) (Or.inl ⟨by rfl, ?_⟩) ?_
          rotate_left 1
          · (intro w; go_simp; try with_reducible rfl)
          try simp only [Act.put, List.setIfInBounds_toArray, List.set_cons_zero, List.set_cons_succ]
          refine wpAny_take (i := 3) (v := ?_) (by simp only [List.getElem?_toArray, List.getElem?_cons_succ, List.getElem?_cons_zero]; exact rfl) (by kernel_rfl) (by kernel_rfl) (by kernel_rfl) (fun _ _ _ h => h) (Or.inl ⟨by rfl, ?_⟩) ?_
          rotate_left 1
          · (intro w; go_simp; try with_reducible rfl)
          try simp only [Act.put, List.setIfInBounds_toArray, List.set_cons_zero, List.set_cons_succ]
          refine wpAny_ready (rs := [1]) (by kernel_rfl) (by simp) ?_
          refine (AllReady.cons (by simp only [List.getElem?_toArray, List.getElem?_cons_succ, List.getElem?_cons_zero]; exact rfl) (fun K hK => ?_) AllReady.nil)
          go_simp
          refine (HBY.out.1 x Hx.out).mono ?_
          rintro e y1 ⟨va, rfl, hOa, hBa⟩
          obtain ⟨pa, ca, ea, hSa, hQa⟩ := own_sl11 hOa
          subst ea
          have HCa := Lib.hid (fun (u : World) (hu : Below y1.heap.size y1 u) => conv_str u pa E E.length ca (hSa.of_below hu) rfl hQa)
          rw [hsE] at HCa
          have Hy1 := Lib.hid (Hx.out.trans (hBa.mono Hx.out.size))

          clear hOa hBa hSa hQa
          have HKK := Lib.hid hK
          clear hK
          go_wp2_with fail
          refine HKK.out _ _ ?_
          clear HKK K
          try simp only [Act.put, List.setIfInBounds_toArray, List.set_cons_zero, List.set_cons_succ]
          refine wpAny_ready (rs := [2, 4]) (by kernel_rfl) (by simp) ?_
          refine (AllReady.cons (by simp only [List.getElem?_toArray, List.getElem?_cons_succ, List.getElem?_cons_zero]; exact rfl) (fun K hK => ?_) (AllReady.cons (by simp only [List.getElem?_toArray, List.getElem?_cons_succ, List.getElem?_cons_zero]; exact rfl) (fun K hK => ?_) AllReady.nil))
          · have hcv := HCa.out y1 (Below.refl _ _)
            go_simp
            refine hK _ _ ?_
            clear hK K hcv
            try simp only [Act.put, List.setIfInBounds_toArray, List.set_cons_zero, List.set_cons_succ]
            refine wpAny_ready (rs := [4]) (by kernel_rfl) (by simp) ?_
            refine (AllReady.cons (by simp only [List.getElem?_toArray, List.getElem?_cons_succ, List.getElem?_cons_zero]; exact rfl) (fun K hK => ?_) AllReady.nil)
            go_simp
            refine (HBY.out.2.1 y1 Hy1.out).mono ?_
            rintro e y2 ⟨vb, rfl, hOb, hBb⟩
            obtain ⟨pb, cb, eb, hSb, hQb⟩ := own_sl11 hOb
            subst eb
            have HCb := Lib.hid (fun (u : World) (hu : Below y2.heap.size y2 u) => conv_str u pb E E.length cb (hSb.of_below hu) rfl hQb)
            rw [hsE] at HCb
            have Hy2 := Lib.hid (Hy1.out.trans (hBb.mono Hy1.out.size))
            have HBK := Lib.hid hBb
            clear hOb hBb hSb hQb
            have HKK := Lib.hid hK
            clear hK
            go_wp2_with fail
            refine HKK.out _ _ ?_
            clear HKK K
            try simp only [Act.put, List.setIfInBounds_toArray, List.set_cons_zero, List.set_cons_succ]
            refine wpAny_ready (rs := [5]) (by kernel_rfl) (by simp) ?_
            refine (AllReady.cons (by simp only [List.getElem?_toArray, List.getElem?_cons_succ, List.getElem?_cons_zero]; exact rfl) (fun K hK => ?_) AllReady.nil)
            have hcv := HCb.out y2 (Below.refl _ _)
            go_simp
            refine hK _ _ ?_
            clear hK K hcv
            try simp only [Act.put, List.setIfInBounds_toArray, List.set_cons_zero, List.set_cons_succ]
            refine wpAny_take (i := 6) (v := ?_) (by simp only [List.getElem?_toArray, List.getElem?_cons_succ, List.getElem?_cons_zero]; exact rfl) (by kernel_rfl) (by kernel_rfl) (by kernel_rfl) (fun _ _ _ h => h) (Or.inl ⟨by rfl, ?_⟩) ?_
            rotate_left 1
            · (intro w; go_simp; try with_reducible rfl)
            try simp only [Act.put, List.setIfInBounds_toArray, List.set_cons_zero, List.set_cons_succ]
            refine wpAny_take (i := 7) (v := ?_) (by simp only [List.getElem?_toArray, List.getElem?_cons_succ, List.getElem?_cons_zero]; exact rfl) (by kernel_rfl) (by kernel_rfl) (by kernel_rfl) (fun _ _ _ h => h) (Or.inl ⟨by rfl, ?_⟩) ?_
            rotate_left 1
            · (intro w; go_simp; try with_reducible rfl)
            try simp only [Act.put, List.setIfInBounds_toArray, List.set_cons_zero, List.set_cons_succ]
            refine wpAny_take (i := 8) (v := ?_) (by simp only [List.getElem?_toArray, List.getElem?_cons_succ, List.getElem?_cons_zero]; exact rfl) (by kernel_rfl) (by kernel_rfl) (by kernel_rfl) (fun _ _ _ h => h) (Or.inl ⟨by rfl, ?_⟩) ?_
            rotate_left 1
            · (intro w; go_simp; try with_reducible rfl)
            try simp only [Act.put, List.setIfInBounds_toArray, List.set_cons_zero, List.set_cons_succ]
            refine wpAny_take (i := 10) (v := ?_) (by simp only [List.getElem?_toArray, List.getElem?_cons_succ, List.getElem?_cons_zero]; exact rfl) (by kernel_rfl) (by kernel_rfl) (by kernel_rfl) (fun _ _ _ h => h) (Or.inl ⟨by rfl, ?_⟩) ?_
            rotate_left 1
            · (intro w; go_simp; try with_reducible rfl)
            try simp only [Act.put, List.setIfInBounds_toArray, List.set_cons_zero, List.set_cons_succ]
            refine wpAny_ready (rs := [9, 11]) (by kernel_rfl) (by simp) ?_
            refine (AllReady.cons (by simp only [List.getElem?_toArray, List.getElem?_cons_succ, List.getElem?_cons_zero]; exact rfl) (fun K hK => ?_) (AllReady.cons (by simp only [List.getElem?_toArray, List.getElem?_cons_succ, List.getElem?_cons_zero]; exact rfl) (fun K hK => ?_) AllReady.nil))
            · go_simp
              refine (HBY.out.2.2.1 y2 Hy2.out).mono ?_
              rintro e wl ⟨rfl, rfl⟩
              have HKK := Lib.hid hK
              clear hK
              go_wp2_with fail
              refine HKK.out _ _ ?_
              clear HKK K
              try simp only [Act.put, List.setIfInBounds_toArray, List.set_cons_zero, List.set_cons_succ]
              refine wpAny_ready (rs := [11]) (by kernel_rfl) (by simp) ?_
              refine (AllReady.cons (by simp only [List.getElem?_toArray, List.getElem?_cons_succ, List.getElem?_cons_zero]; exact rfl) (fun K hK => ?_) AllReady.nil)
              go_simp
              refine hK _ _ ?_
              clear hK K
              try simp only [Act.put, List.setIfInBounds_toArray, List.set_cons_zero, List.set_cons_succ]
              refine wpAny_take (i := 12) (v := ?_) (by simp only [List.getElem?_toArray, List.getElem?_cons_succ, List.getElem?_cons_zero]; exact rfl) (by kernel_rfl) (by kernel_rfl) (by kernel_rfl) (fun _ _ _ h => h) (Or.inl ⟨by rfl, ?_⟩) ?_
              rotate_left 1
              · (intro w; go_simp; try with_reducible rfl)
              try simp only [Act.put, List.setIfInBounds_toArray, List.set_cons_zero, List.set_cons_succ]
              refine wpAny_take (i := 13) (v := ?_) (by simp only [List.getElem?_toArray, List.getElem?_cons_succ, List.getElem?_cons_zero]; exact rfl) (by kernel_rfl) (by kernel_rfl) (by kernel_rfl) (fun _ _ _ h => h) (Or.inl ⟨by rfl, ?_⟩) ?_
              rotate_left 1
              · (intro w; go_simp; try with_reducible rfl)
              try simp only [Act.put, List.setIfInBounds_toArray, List.set_cons_zero, List.set_cons_succ]
              refine wpAny_take (i := 14) (v := ?_) (by simp only [List.getElem?_toArray, List.getElem?_cons_succ, List.getElem?_cons_zero]; exact rfl) (by kernel_rfl) (by kernel_rfl) (by kernel_rfl) (fun _ _ _ h => h) (Or.inl ⟨by rfl, ?_⟩) ?_
              rotate_left 1
              · (intro w; go_simp; try with_reducible rfl)
              try simp only [Act.put, List.setIfInBounds_toArray, List.set_cons_zero, List.set_cons_succ]
              refine wpAny_take (i := 15) (v := ?_) (by simp only [List.getElem?_toArray, List.getElem?_cons_succ, List.getElem?_cons_zero]; exact rfl) (by kernel_rfl) (by kernel_rfl) (by kernel_rfl) (fun _ _ _ h => h) (Or.inl ⟨by rfl, ?_⟩) ?_
              rotate_left 1
              · (intro w; go_simp; try with_reducible rfl)
              try simp only [Act.put, List.setIfInBounds_toArray, List.set_cons_zero, List.set_cons_succ]
              refine wpAny_take (i := 17) (v := ?_) (by simp only [List.getElem?_toArray, List.getElem?_cons_succ, List.getElem?_cons_zero]; exact rfl) (by kernel_rfl) (by kernel_rfl) (by kernel_rfl) (fun _ _ _ h => h) (Or.inl ⟨by rfl, ?_⟩) ?_
              rotate_left 1
              · (intro w; go_simp; try with_reducible rfl)
              try simp only [Act.put, List.setIfInBounds_toArray, List.set_cons_zero, List.set_cons_succ]
              refine wpAny_ready (rs := [16, 18]) (by kernel_rfl) (by simp) ?_
              refine (AllReady.cons (by simp only [List.getElem?_toArray, List.getElem?_cons_succ, List.getElem?_cons_zero]; exact rfl) (fun K hK => ?_) (AllReady.cons (by simp only [List.getElem?_toArray, List.getElem?_cons_succ, List.getElem?_cons_zero]; exact rfl) (fun K hK => ?_) AllReady.nil))
              · go_simp
                refine (HBY.out.2.2.2 y2 Hy2.out).mono ?_
                rintro e wl ⟨rfl, rfl⟩
                have HKK := Lib.hid hK
                clear hK
                go_wp2_with fail
                refine HKK.out _ _ ?_
                clear HKK K
                try simp only [Act.put, List.setIfInBounds_toArray, List.set_cons_zero, List.set_cons_succ]
                refine wpAny_ready (rs := [18]) (by kernel_rfl) (by simp) ?_
                refine (AllReady.cons (by simp only [List.getElem?_toArray, List.getElem?_cons_succ, List.getElem?_cons_zero]; exact rfl) (fun K hK => ?_) AllReady.nil)
                go_simp
                refine hK _ _ ?_
                clear hK K
                try simp only [Act.put, List.setIfInBounds_toArray, List.set_cons_zero, List.set_cons_succ]
                refine wpAny_take (i := 19) (v := ?_) (by simp only [List.getElem?_toArray, List.getElem?_cons_succ, List.getElem?_cons_zero]; exact rfl) (by kernel_rfl) (by kernel_rfl) (by kernel_rfl) (fun _ _ _ h => h) (Or.inl ⟨by rfl, ?_⟩) ?_
                rotate_left 1
                · (intro w; go_simp; try with_reducible rfl)
                try simp only [Act.put, List.setIfInBounds_toArray, List.set_cons_zero, List.set_cons_succ]
                refine wpAny_take (i := 20) (v := ?_) (by simp only [List.getElem?_toArray, List.getElem?_cons_succ, List.getElem?_cons_zero]; exact rfl) (by kernel_rfl) (by kernel_rfl) (by kernel_rfl) (fun _ _ _ h => h) (Or.inl ⟨by rfl, ?_⟩) ?_
                rotate_left 1
                · (intro w; go_simp; try with_reducible rfl)
                try simp only [Act.put, List.setIfInBounds_toArray, List.set_cons_zero, List.set_cons_succ]
                refine wpAny_take (i := 21) (v := ?_) (by simp only [List.getElem?_toArray, List.getElem?_cons_succ, List.getElem?_cons_zero]; exact rfl) (by kernel_rfl) (by kernel_rfl) (by kernel_rfl) (fun _ _ _ h => h) (Or.inl ⟨by rfl, ?_⟩) ?_
                rotate_left 1
                · (intro w; go_simp; try with_reducible rfl)
                try simp only [Act.put, List.setIfInBounds_toArray, List.set_cons_zero, List.set_cons_succ]
                refine wpAny_done (by kernel_rfl) ?_ _
                refine NoPanic.normal ?_
                have HZZ := Lib.hid (HBM.out y2 Hy2.out)
                go_wp2
                go_ret
                exact ⟨rfl, HZZ.out⟩
              · go_simp
                refine hK _ _ ?_
                clear hK K
                try simp only [Act.put, List.setIfInBounds_toArray, List.set_cons_zero, List.set_cons_succ]
                refine wpAny_ready (rs := [16]) (by kernel_rfl) (by simp) ?_
                refine (AllReady.cons (by simp only [List.getElem?_toArray, List.getElem?_cons_succ, List.getElem?_cons_zero]; exact rfl) (fun K hK => ?_) AllReady.nil)
                go_simp
                refine (HBY.out.2.2.2 y2 Hy2.out).mono ?_
                rintro e wl ⟨rfl, rfl⟩
                have HKK := Lib.hid hK
                clear hK
                go_wp2_with fail
                refine HKK.out _ _ ?_
                clear HKK K
                try simp only [Act.put, List.setIfInBounds_toArray, List.set_cons_zero, List.set_cons_succ]
                refine wpAny_take (i := 19) (v := ?_) (by simp only [List.getElem?_toArray, List.getElem?_cons_succ, List.getElem?_cons_zero]; exact rfl) (by kernel_rfl) (by kernel_rfl) (by kernel_rfl) (fun _ _ _ h => h) (Or.inl ⟨by rfl, ?_⟩) ?_
                rotate_left 1
                · (intro w; go_simp; try with_reducible rfl)
                try simp only [Act.put, List.setIfInBounds_toArray, List.set_cons_zero, List.set_cons_succ]
                refine wpAny_take (i := 20) (v := ?_) (by simp only [List.getElem?_toArray, List.getElem?_cons_succ, List.getElem?_cons_zero]; exact rfl) (by kernel_rfl) (by kernel_rfl) (by kernel_rfl) (fun _ _ _ h => h) (Or.inl ⟨by rfl, ?_⟩) ?_
                rotate_left 1
                · (intro w; go_simp; try with_reducible rfl)
                try simp only [Act.put, List.setIfInBounds_toArray, List.set_cons_zero, List.set_cons_succ]
                refine wpAny_take (i := 21) (v := ?_) (by simp only [List.getElem?_toArray, List.getElem?_cons_succ, List.getElem?_cons_zero]; exact rfl) (by kernel_rfl) (by kernel_rfl) (by kernel_rfl) (fun _ _ _ h => h) (Or.inl ⟨by rfl, ?_⟩) ?_
                rotate_left 1
                · (intro w; go_simp; try with_reducible rfl)
                try simp only [Act.put, List.setIfInBounds_toArray, List.set_cons_zero, List.set_cons_succ]
                refine wpAny_done (by kernel_rfl) ?_ _
                refine NoPanic.normal ?_
                have HZZ := Lib.hid (HBM.out y2 Hy2.out)
                go_wp2
                go_ret
                exact ⟨rfl, HZZ.out⟩
            · go_simp
              refine hK _ _ ?_
              clear hK K
              try simp only [Act.put, List.setIfInBounds_toArray, List.set_cons_zero, List.set_cons_succ]
              refine wpAny_ready (rs := [9]) (by kernel_rfl) (by simp) ?_
              refine (AllReady.cons (by simp only [List.getElem?_toArray, List.getElem?_cons_succ, List.getElem?_cons_zero]; exact rfl) (fun K hK => ?_) AllReady.nil)
              go_simp
              refine (HBY.out.2.2.1 y2 Hy2.out).mono ?_
              rintro e wl ⟨rfl, rfl⟩
              have HKK := Lib.hid hK
              clear hK
              go_wp2_with fail
              refine HKK.out _ _ ?_
              clear HKK K
              try simp only [Act.put, List.setIfInBounds_toArray, List.set_cons_zero, List.set_cons_succ]
              refine wpAny_take (i := 12) (v := ?_) (by simp only [List.getElem?_toArray, List.getElem?_cons_succ, List.getElem?_cons_zero]; exact rfl) (by kernel_rfl) (by kernel_rfl) (by kernel_rfl) (fun _ _ _ h => h) (Or.inl ⟨by rfl, ?_⟩) ?_
              rotate_left 1
              · (intro w; go_simp; try with_reducible rfl)
              try simp only [Act.put, List.setIfInBounds_toArray, List.set_cons_zero, List.set_cons_succ]
              refine wpAny_take (i := 13) (v := ?_) (by simp only [List.getElem?_toArray, List.getElem?_cons_succ, List.getElem?_cons_zero]; exact rfl) (by kernel_rfl) (by kernel_rfl) (by kernel_rfl) (fun _ _ _ h => h) (Or.inl ⟨by rfl, ?_⟩) ?_
              rotate_left 1
              · (intro w; go_simp; try with_reducible rfl)
              try simp only [Act.put, List.setIfInBounds_toArray, List.set_cons_zero, List.set_cons_succ]
              refine wpAny_take (i := 14) (v := ?_) (by simp only [List.getElem?_toArray, List.getElem?_cons_succ, List.getElem?_cons_zero]; exact rfl) (by kernel_rfl) (by kernel_rfl) (by kernel_rfl) (fun _ _ _ h => h) (Or.inl ⟨by rfl, ?_⟩) ?_
              rotate_left 1
              · (intro w; go_simp; try with_reducible rfl)
              try simp only [Act.put, List.setIfInBounds_toArray, List.set_cons_zero, List.set_cons_succ]
              refine wpAny_take (i := 15) (v := ?_) (by simp only [List.getElem?_toArray, List.getElem?_cons_succ, List.getElem?_cons_zero]; exact rfl) (by kernel_rfl) (by kernel_rfl) (by kernel_rfl) (fun _ _ _ h => h) (Or.inl ⟨by rfl, ?_⟩) ?_
              rotate_left 1
              · (intro w; go_simp; try with_reducible rfl)
              try simp only [Act.put, List.setIfInBounds_toArray, List.set_cons_zero, List.set_cons_succ]
              refine wpAny_take (i := 17) (v := ?_) (by simp only [List.getElem?_toArray, List.getElem?_cons_succ, List.getElem?_cons_zero]; exact rfl) (by kernel_rfl) (by kernel_rfl) (by kernel_rfl) (fun _ _ _ h => h) (Or.inl ⟨by rfl, ?_⟩) ?_
              rotate_left 1
              · (intro w; go_simp; try with_reducible rfl)
              try simp only [Act.put, List.setIfInBounds_toArray, List.set_cons_zero, List.set_cons_succ]
              refine wpAny_ready (rs := [16, 18]) (by kernel_rfl) (by simp) ?_
              refine (AllReady.cons (by simp only [List.getElem?_toArray, List.getElem?_cons_succ, List.getElem?_cons_zero]; exact rfl) (fun K hK => ?_) (AllReady.cons (by simp only [List.getElem?_toArray, List.getElem?_cons_succ, List.getElem?_cons_zero]; exact rfl) (fun K hK => ?_) AllReady.nil))
              · go_simp
                refine (HBY.out.2.2.2 y2 Hy2.out).mono ?_
                rintro e wl ⟨rfl, rfl⟩
                have HKK := Lib.hid hK
                clear hK
                go_wp2_with fail
                refine HKK.out _ _ ?_
                clear HKK K
                try simp only [Act.put, List.setIfInBounds_toArray, List.set_cons_zero, List.set_cons_succ]
                refine wpAny_ready (rs := [18]) (by kernel_rfl) (by simp) ?_
                refine (AllReady.cons (by simp only [List.getElem?_toArray, List.getElem?_cons_succ, List.getElem?_cons_zero]; exact rfl) (fun K hK => ?_) AllReady.nil)
                go_simp
                refine hK _ _ ?_
                clear hK K
                try simp only [Act.put, List.setIfInBounds_toArray, List.set_cons_zero, List.set_cons_succ]
                refine wpAny_take (i := 19) (v := ?_) (by simp only [List.getElem?_toArray, List.getElem?_cons_succ, List.getElem?_cons_zero]; exact rfl) (by kernel_rfl) (by kernel_rfl) (by kernel_rfl) (fun _ _ _ h => h) (Or.inl ⟨by rfl, ?_⟩) ?_
                rotate_left 1
                · (intro w; go_simp; try with_reducible rfl)
                try simp only [Act.put, List.setIfInBounds_toArray, List.set_cons_zero, List.set_cons_succ]
                refine wpAny_take (i := 20) (v := ?_) (by simp only [List.getElem?_toArray, List.getElem?_cons_succ, List.getElem?_cons_zero]; exact rfl) (by kernel_rfl) (by kernel_rfl) (by kernel_rfl) (fun _ _ _ h => h) (Or.inl ⟨by rfl, ?_⟩) ?_
                rotate_left 1
                · (intro w; go_simp; try with_reducible rfl)
                try simp only [Act.put, List.setIfInBounds_toArray, List.set_cons_zero, List.set_cons_succ]
                refine wpAny_take (i := 21) (v := ?_) (by simp only [List.getElem?_toArray, List.getElem?_cons_succ, List.getElem?_cons_zero]; exact rfl) (by kernel_rfl) (by kernel_rfl) (by kernel_rfl) (fun _ _ _ h => h) (Or.inl ⟨by rfl, ?_⟩) ?_
                rotate_left 1
                · (intro w; go_simp; try with_reducible rfl)
                try simp only [Act.put, List.setIfInBounds_toArray, List.set_cons_zero, List.set_cons_succ]
                refine wpAny_done (by kernel_rfl) ?_ _
                refine NoPanic.normal ?_
                have HZZ := Lib.hid (HBM.out y2 Hy2.out)
                go_wp2
                go_ret
                exact ⟨rfl, HZZ.out⟩
              · go_simp
                refine hK _ _ ?_
                clear hK K
                try simp only [Act.put, List.setIfInBounds_toArray, List.set_cons_zero, List.set_cons_succ]
                refine wpAny_ready (rs := [16]) (by kernel_rfl) (by simp) ?_
                refine (AllReady.cons (by simp only [List.getElem?_toArray, List.getElem?_cons_succ, List.getElem?_cons_zero]; exact rfl) (fun K hK => ?_) AllReady.nil)
                go_simp
                refine (HBY.out.2.2.2 y2 Hy2.out).mono ?_
                rintro e wl ⟨rfl, rfl⟩
                have HKK := Lib.hid hK
                clear hK
                go_wp2_with fail
                refine HKK.out _ _ ?_
                clear HKK K
                try simp only [Act.put, List.setIfInBounds_toArray, List.set_cons_zero, List.set_cons_succ]
                refine wpAny_take (i := 19) (v := ?_) (by simp only [List.getElem?_toArray, List.getElem?_cons_succ, List.getElem?_cons_zero]; exact rfl) (by kernel_rfl) (by kernel_rfl) (by kernel_rfl) (fun _ _ _ h => h) (Or.inl ⟨by rfl, ?_⟩) ?_
                rotate_left 1
                · (intro w; go_simp; try with_reducible rfl)
                try simp only [Act.put, List.setIfInBounds_toArray, List.set_cons_zero, List.set_cons_succ]
                refine wpAny_take (i := 20) (v := ?_) (by simp only [List.getElem?_toArray, List.getElem?_cons_succ, List.getElem?_cons_zero]; exact rfl) (by kernel_rfl) (by kernel_rfl) (by kernel_rfl) (fun _ _ _ h => h) (Or.inl ⟨by rfl, ?_⟩) ?_
                rotate_left 1
                · (intro w; go_simp; try with_reducible rfl)
                try simp only [Act.put, List.setIfInBounds_toArray, List.set_cons_zero, List.set_cons_succ]
                refine wpAny_take (i := 21) (v := ?_) (by simp only [List.getElem?_toArray, List.getElem?_cons_succ, List.getElem?_cons_zero]; exact rfl) (by kernel_rfl) (by kernel_rfl) (by kernel_rfl) (fun _ _ _ h => h) (Or.inl ⟨by rfl, ?_⟩) ?_
                rotate_left 1
                · (intro w; go_simp; try with_reducible rfl)
                try simp only [Act.put, List.setIfInBounds_toArray, List.set_cons_zero, List.set_cons_succ]
                refine wpAny_done (by kernel_rfl) ?_ _
                refine NoPanic.normal ?_
                have HZZ := Lib.hid (HBM.out y2 Hy2.out)
                go_wp2
                go_ret
                exact ⟨rfl, HZZ.out⟩
          · go_simp
            refine (HBY.out.2.1 y1 Hy1.out).mono ?_
            rintro e y2 ⟨vb, rfl, hOb, hBb⟩
            obtain ⟨pb, cb, eb, hSb, hQb⟩ := own_sl11 hOb
            subst eb
            have HCb := Lib.hid (fun (u : World) (hu : Below y2.heap.size y2 u) => conv_str u pb E E.length cb (hSb.of_below hu) rfl hQb)
            rw [hsE] at HCb
            have Hy2 := Lib.hid (Hy1.out.trans (hBb.mono Hy1.out.size))
            have HBK := Lib.hid hBb
            clear hOb hBb hSb hQb
            have HKK := Lib.hid hK
            clear hK
            go_wp2_with fail
            refine HKK.out _ _ ?_
            clear HKK K
            try simp only [Act.put, List.setIfInBounds_toArray, List.set_cons_zero, List.set_cons_succ]
            refine wpAny_ready (rs := [2, 5]) (by kernel_rfl) (by simp) ?_
            refine (AllReady.cons (by simp only [List.getElem?_toArray, List.getElem?_cons_succ, List.getElem?_cons_zero]; exact rfl) (fun K hK => ?_) (AllReady.cons (by simp only [List.getElem?_toArray, List.getElem?_cons_succ, List.getElem?_cons_zero]; exact rfl) (fun K hK => ?_) AllReady.nil))
            · have hcv := HCa.out y2 HBK.out
              go_simp
              refine hK _ _ ?_
              clear hK K hcv
              try simp only [Act.put, List.setIfInBounds_toArray, List.set_cons_zero, List.set_cons_succ]
              refine wpAny_ready (rs := [5]) (by kernel_rfl) (by simp) ?_
              refine (AllReady.cons (by simp only [List.getElem?_toArray, List.getElem?_cons_succ, List.getElem?_cons_zero]; exact rfl) (fun K hK => ?_) AllReady.nil)
              have hcv := HCb.out y2 (Below.refl _ _)
              go_simp
              refine hK _ _ ?_
              clear hK K hcv
              try simp only [Act.put, List.setIfInBounds_toArray, List.set_cons_zero, List.set_cons_succ]
              refine wpAny_take (i := 6) (v := ?_) (by simp only [List.getElem?_toArray, List.getElem?_cons_succ, List.getElem?_cons_zero]; exact rfl) (by kernel_rfl) (by kernel_rfl) (by kernel_rfl) (fun _ _ _ h => h) (Or.inl ⟨by rfl, ?_⟩) ?_
              rotate_left 1
              · (intro w; go_simp; try with_reducible rfl)
              try simp only [Act.put, List.setIfInBounds_toArray, List.set_cons_zero, List.set_cons_succ]
              refine wpAny_take (i := 7) (v := ?_) (by simp only [List.getElem?_toArray, List.getElem?_cons_succ, List.getElem?_cons_zero]; exact rfl) (by kernel_rfl) (by kernel_rfl) (by kernel_rfl) (fun _ _ _ h => h) (Or.inl ⟨by rfl, ?_⟩) ?_
              rotate_left 1
              · (intro w; go_simp; try with_reducible rfl)
              try simp only [Act.put, List.setIfInBounds_toArray, List.set_cons_zero, List.set_cons_succ]
              refine wpAny_take (i := 8) (v := ?_) (by simp only [List.getElem?_toArray, List.getElem?_cons_succ, List.getElem?_cons_zero]; exact rfl) (by kernel_rfl) (by kernel_rfl) (by kernel_rfl) (fun _ _ _ h => h) (Or.inl ⟨by rfl, ?_⟩) ?_
              rotate_left 1
              · (intro w; go_simp; try with_reducible rfl)
              try simp only [Act.put, List.setIfInBounds_toArray, List.set_cons_zero, List.set_cons_succ]
              refine wpAny_take (i := 10) (v := ?_) (by simp only [List.getElem?_toArray, List.getElem?_cons_succ, List.getElem?_cons_zero]; exact rfl) (by kernel_rfl) (by kernel_rfl) (by kernel_rfl) (fun _ _ _ h => h) (Or.inl ⟨by rfl, ?_⟩) ?_
              rotate_left 1
              · (intro w; go_simp; try with_reducible rfl)
              try simp only [Act.put, List.setIfInBounds_toArray, List.set_cons_zero, List.set_cons_succ]
              refine wpAny_ready (rs := [9, 11]) (by kernel_rfl) (by simp) ?_
              refine (AllReady.cons (by simp only [List.getElem?_toArray, List.getElem?_cons_succ, List.getElem?_cons_zero]; exact rfl) (fun K hK => ?_) (AllReady.cons (by simp only [List.getElem?_toArray, List.getElem?_cons_succ, List.getElem?_cons_zero]; exact rfl) (fun K hK => ?_) AllReady.nil))
              · go_simp
                refine (HBY.out.2.2.1 y2 Hy2.out).mono ?_
                rintro e wl ⟨rfl, rfl⟩
                have HKK := Lib.hid hK
                clear hK
                go_wp2_with fail
                refine HKK.out _ _ ?_
                clear HKK K
                try simp only [Act.put, List.setIfInBounds_toArray, List.set_cons_zero, List.set_cons_succ]
                refine wpAny_ready (rs := [11]) (by kernel_rfl) (by simp) ?_
                refine (AllReady.cons (by simp only [List.getElem?_toArray, List.getElem?_cons_succ, List.getElem?_cons_zero]; exact rfl) (fun K hK => ?_) AllReady.nil)
                go_simp
                refine hK _ _ ?_
                clear hK K
                try simp only [Act.put, List.setIfInBounds_toArray, List.set_cons_zero, List.set_cons_succ]
                refine wpAny_take (i := 12) (v := ?_) (by simp only [List.getElem?_toArray, List.getElem?_cons_succ, List.getElem?_cons_zero]; exact rfl) (by kernel_rfl) (by kernel_rfl) (by kernel_rfl) (fun _ _ _ h => h) (Or.inl ⟨by rfl, ?_⟩) ?_
                rotate_left 1
                · (intro w; go_simp; try with_reducible rfl)
                try simp only [Act.put, List.setIfInBounds_toArray, List.set_cons_zero, List.set_cons_succ]
                refine wpAny_take (i := 13) (v := ?_) (by simp only [List.getElem?_toArray, List.getElem?_cons_succ, List.getElem?_cons_zero]; exact rfl) (by kernel_rfl) (by kernel_rfl) (by kernel_rfl) (fun _ _ _ h => h) (Or.inl ⟨by rfl, ?_⟩) ?_
                rotate_left 1
                · (intro w; go_simp; try with_reducible rfl)
                try simp only [Act.put, List.setIfInBounds_toArray, List.set_cons_zero, List.set_cons_succ]
                refine wpAny_take (i := 14) (v := ?_) (by simp only [List.getElem?_toArray, List.getElem?_cons_succ, List.getElem?_cons_zero]; exact rfl) (by kernel_rfl) (by kernel_rfl) (by kernel_rfl) (fun _ _ _ h => h) (Or.inl ⟨by rfl, ?_⟩) ?_
                rotate_left 1
                · (intro w; go_simp; try with_reducible rfl)
                try simp only [Act.put, List.setIfInBounds_toArray, List.set_cons_zero, List.set_cons_succ]
                refine wpAny_take (i := 15) (v := ?_) (by simp only [List.getElem?_toArray, List.getElem?_cons_succ, List.getElem?_cons_zero]; exact rfl) (by kernel_rfl) (by kernel_rfl) (by kernel_rfl) (fun _ _ _ h => h) (Or.inl ⟨by rfl, ?_⟩) ?_
                rotate_left 1
                · (intro w; go_simp; try with_reducible rfl)
                try simp only [Act.put, List.setIfInBounds_toArray, List.set_cons_zero, List.set_cons_succ]
                refine wpAny_take (i := 17) (v := ?_) (by simp only [List.getElem?_toArray, List.getElem?_cons_succ, List.getElem?_cons_zero]; exact rfl) (by kernel_rfl) (by kernel_rfl) (by kernel_rfl) (fun _ _ _ h => h) (Or.inl ⟨by rfl, ?_⟩) ?_
                rotate_left 1
                · (intro w; go_simp; try with_reducible rfl)
                try simp only [Act.put, List.setIfInBounds_toArray, List.set_cons_zero, List.set_cons_succ]
                refine wpAny_ready (rs := [16, 18]) (by kernel_rfl) (by simp) ?_
                refine (AllReady.cons (by simp only [List.getElem?_toArray, List.getElem?_cons_succ, List.getElem?_cons_zero]; exact rfl) (fun K hK => ?_) (AllReady.cons (by simp only [List.getElem?_toArray, List.getElem?_cons_succ, List.getElem?_cons_zero]; exact rfl) (fun K hK => ?_) AllReady.nil))
                · go_simp
                  refine (HBY.out.2.2.2 y2 Hy2.out).mono ?_
                  rintro e wl ⟨rfl, rfl⟩
                  have HKK := Lib.hid hK
                  clear hK
                  go_wp2_with fail
                  refine HKK.out _ _ ?_
                  clear HKK K
                  try simp only [Act.put, List.setIfInBounds_toArray, List.set_cons_zero, List.set_cons_succ]
                  refine wpAny_ready (rs := [18]) (by kernel_rfl) (by simp) ?_
                  refine (AllReady.cons (by simp only [List.getElem?_toArray, List.getElem?_cons_succ, List.getElem?_cons_zero]; exact rfl) (fun K hK => ?_) AllReady.nil)
                  go_simp
                  refine hK _ _ ?_
                  clear hK K
                  try simp only [Act.put, List.setIfInBounds_toArray, List.set_cons_zero, List.set_cons_succ]
                  refine wpAny_take (i := 19) (v := ?_) (by simp only [List.getElem?_toArray, List.getElem?_cons_succ, List.getElem?_cons_zero]; exact rfl) (by kernel_rfl) (by kernel_rfl) (by kernel_rfl) (fun _ _ _ h => h) (Or.inl ⟨by rfl, ?_⟩) ?_
                  rotate_left 1
                  · (intro w; go_simp; try with_reducible rfl)
                  try simp only [Act.put, List.setIfInBounds_toArray, List.set_cons_zero, List.set_cons_succ]
                  refine wpAny_take (i := 20) (v := ?_) (by simp only [List.getElem?_toArray, List.getElem?_cons_succ, List.getElem?_cons_zero]; exact rfl) (by kernel_rfl) (by kernel_rfl) (by kernel_rfl) (fun _ _ _ h => h) (Or.inl ⟨by rfl, ?_⟩) ?_
                  rotate_left 1
                  · (intro w; go_simp; try with_reducible rfl)
                  try simp only [Act.put, List.setIfInBounds_toArray, List.set_cons_zero, List.set_cons_succ]
                  refine wpAny_take (i := 21) (v := ?_) (by simp only [List.getElem?_toArray, List.getElem?_cons_succ, List.getElem?_cons_zero]; exact rfl) (by kernel_rfl) (by kernel_rfl) (by kernel_rfl) (fun _ _ _ h => h) (Or.inl ⟨by rfl, ?_⟩) ?_
                  rotate_left 1
                  · (intro w; go_simp; try with_reducible rfl)
                  try simp only [Act.put, List.setIfInBounds_toArray, List.set_cons_zero, List.set_cons_succ]
                  refine wpAny_done (by kernel_rfl) ?_ _
                  refine NoPanic.normal ?_
                  have HZZ := Lib.hid (HBM.out y2 Hy2.out)
                  go_wp2
                  go_ret
                  exact ⟨rfl, HZZ.out⟩
                · go_simp
                  refine hK _ _ ?_
                  clear hK K
                  try simp only [Act.put, List.setIfInBounds_toArray, List.set_cons_zero, List.set_cons_succ]
                  refine wpAny_ready (rs := [16]) (by kernel_rfl) (by simp) ?_
                  refine (AllReady.cons (by simp only [List.getElem?_toArray, List.getElem?_cons_succ, List.getElem?_cons_zero]; exact rfl) (fun K hK => ?_) AllReady.nil)
                  go_simp
                  refine (HBY.out.2.2.2 y2 Hy2.out).mono ?_
                  rintro e wl ⟨rfl, rfl⟩
                  have HKK := Lib.hid hK
                  clear hK
                  go_wp2_with fail
                  refine HKK.out _ _ ?_
                  clear HKK K
                  try simp only [Act.put, List.setIfInBounds_toArray, List.set_cons_zero, List.set_cons_succ]
                  refine wpAny_take (i := 19) (v := ?_) (by simp only [List.getElem?_toArray, List.getElem?_cons_succ, List.getElem?_cons_zero]; exact rfl) (by kernel_rfl) (by kernel_rfl) (by kernel_rfl) (fun _ _ _ h => h) (Or.inl ⟨by rfl, ?_⟩) ?_
                  rotate_left 1
                  · (intro w; go_simp; try with_reducible rfl)
                  try simp only [Act.put, List.setIfInBounds_toArray, List.set_cons_zero, List.set_cons_succ]
                  refine wpAny_take (i := 20) (v := ?_) (by simp only [List.getElem?_toArray, List.getElem?_cons_succ, List.getElem?_cons_zero]; exact rfl) (by kernel_rfl) (by kernel_rfl) (by kernel_rfl) (fun _ _ _ h => h) (Or.inl ⟨by rfl, ?_⟩) ?_
                  rotate_left 1
                  · (intro w; go_simp; try with_reducible rfl)
                  try simp only [Act.put, List.setIfInBounds_toArray, List.set_cons_zero, List.set_cons_succ]
                  refine wpAny_take (i := 21) (v := ?_) (by simp only [List.getElem?_toArray, List.getElem?_cons_succ, List.getElem?_cons_zero]; exact rfl) (by kernel_rfl) (by kernel_rfl) (by kernel_rfl) (fun _ _ _ h => h) (Or.inl ⟨by rfl, ?_⟩) ?_
                  rotate_left 1
                  · (intro w; go_simp; try with_reducible rfl)
                  try simp only [Act.put, List.setIfInBounds_toArray, List.set_cons_zero, List.set_cons_succ]
                  refine wpAny_done (by kernel_rfl) ?_ _
                  refine NoPanic.normal ?_
                  have HZZ := Lib.hid (HBM.out y2 Hy2.out)
                  go_wp2
                  go_ret
                  exact ⟨rfl, HZZ.out⟩
              · go_simp
                refine hK _ _ ?_
                clear hK K
                try simp only [Act.put, List.setIfInBounds_toArray, List.set_cons_zero, List.set_cons_succ]
                refine wpAny_ready (rs := [9]) (by kernel_rfl) (by simp) ?_
                refine (AllReady.cons (by simp only [List.getElem?_toArray, List.getElem?_cons_succ, List.getElem?_cons_zero]; exact rfl) (fun K hK => ?_) AllReady.nil)
                go_simp
                refine (HBY.out.2.2.1 y2 Hy2.out).mono ?_
                rintro e wl ⟨rfl, rfl⟩
                have HKK := Lib.hid hK
                clear hK
                go_wp2_with fail
                refine HKK.out _ _ ?_
                clear HKK K
                try simp only [Act.put, List.setIfInBounds_toArray, List.set_cons_zero, List.set_cons_succ]
                refine wpAny_take (i := 12) (v := ?_) (by simp only [List.getElem?_toArray, List.getElem?_cons_succ, List.getElem?_cons_zero]; exact rfl) (by kernel_rfl) (by kernel_rfl) (by kernel_rfl) (fun _ _ _ h => h) (Or.inl ⟨by rfl, ?_⟩) ?_
                rotate_left 1
                · (intro w; go_simp; try with_reducible rfl)
                try simp only [Act.put, List.setIfInBounds_toArray, List.set_cons_zero, List.set_cons_succ]
                refine wpAny_take (i := 13) (v := ?_) (by simp only [List.getElem?_toArray, List.getElem?_cons_succ, List.getElem?_cons_zero]; exact rfl) (by kernel_rfl) (by kernel_rfl) (by kernel_rfl) (fun _ _ _ h => h) (Or.inl ⟨by rfl, ?_⟩) ?_
                rotate_left 1
                · (intro w; go_simp; try with_reducible rfl)
                try simp only [Act.put, List.setIfInBounds_toArray, List.set_cons_zero, List.set_cons_succ]
                refine wpAny_take (i := 14) (v := ?_) (by simp only [List.getElem?_toArray, List.getElem?_cons_succ, List.getElem?_cons_zero]; exact rfl) (by kernel_rfl) (by kernel_rfl) (by kernel_rfl) (fun _ _ _ h => h) (Or.inl ⟨by rfl, ?_⟩) ?_
                rotate_left 1
                · (intro w; go_simp; try with_reducible rfl)
                try simp only [Act.put, List.setIfInBounds_toArray, List.set_cons_zero, List.set_cons_succ]
                refine wpAny_take (i := 15) (v := ?_) (by simp only [List.getElem?_toArray, List.getElem?_cons_succ, List.getElem?_cons_zero]; exact rfl) (by kernel_rfl) (by kernel_rfl) (by kernel_rfl) (fun _ _ _ h => h) (Or.inl ⟨by rfl, ?_⟩) ?_
                rotate_left 1
                · (intro w; go_simp; try with_reducible rfl)
                try simp only [Act.put, List.setIfInBounds_toArray, List.set_cons_zero, List.set_cons_succ]
                refine wpAny_take (i := 17) (v := ?_) (by simp only [List.getElem?_toArray, List.getElem?_cons_succ, List.getElem?_cons_zero]; exact rfl) (by kernel_rfl) (by kernel_rfl) (by kernel_rfl) (fun _ _ _ h => h) (Or.inl ⟨by rfl, ?_⟩) ?_
                rotate_left 1
                · (intro w; go_simp; try with_reducible rfl)
                try simp only [Act.put, List.setIfInBounds_toArray, List.set_cons_zero, List.set_cons_succ]
                refine wpAny_ready (rs := [16, 18]) (by kernel_rfl) (by simp) ?_
                refine (AllReady.cons (by simp only [List.getElem?_toArray, List.getElem?_cons_succ, List.getElem?_cons_zero]; exact rfl) (fun K hK => ?_) (AllReady.cons (by simp only [List.getElem?_toArray, List.getElem?_cons_succ, List.getElem?_cons_zero]; exact rfl) (fun K hK => ?_) AllReady.nil))
                · go_simp
                  refine (HBY.out.2.2.2 y2 Hy2.out).mono ?_
                  rintro e wl ⟨rfl, rfl⟩
                  have HKK := Lib.hid hK
                  clear hK
                  go_wp2_with fail
                  refine HKK.out _ _ ?_
                  clear HKK K
                  try simp only [Act.put, List.setIfInBounds_toArray, List.set_cons_zero, List.set_cons_succ]
                  refine wpAny_ready (rs := [18]) (by kernel_rfl) (by simp) ?_
                  refine (AllReady.cons (by simp only [List.getElem?_toArray, List.getElem?_cons_succ, List.getElem?_cons_zero]; exact rfl) (fun K hK => ?_) AllReady.nil)
                  go_simp
                  refine hK _ _ ?_
                  clear hK K
                  try simp only [Act.put, List.setIfInBounds_toArray, List.set_cons_zero, List.set_cons_succ]
                  refine wpAny_take (i := 19) (v := ?_) (by simp only [List.getElem?_toArray, List.getElem?_cons_succ, List.getElem?_cons_zero]; exact rfl) (by kernel_rfl) (by kernel_rfl) (by kernel_rfl) (fun _ _ _ h => h) (Or.inl ⟨by rfl, ?_⟩) ?_
                  rotate_left 1
                  · (intro w; go_simp; try with_reducible rfl)
                  try simp only [Act.put, List.setIfInBounds_toArray, List.set_cons_zero, List.set_cons_succ]
                  refine wpAny_take (i := 20) (v := ?_) (by simp only [List.getElem?_toArray, List.getElem?_cons_succ, List.getElem?_cons_zero]; exact rfl) (by kernel_rfl) (by kernel_rfl) (by kernel_rfl) (fun _ _ _ h => h) (Or.inl ⟨by rfl, ?_⟩) ?_
                  rotate_left 1
                  · (intro w; go_simp; try with_reducible rfl)
                  try simp only [Act.put, List.setIfInBounds_toArray, List.set_cons_zero, List.set_cons_succ]
                  refine wpAny_take (i := 21) (v := ?_) (by simp only [List.getElem?_toArray, List.getElem?_cons_succ, List.getElem?_cons_zero]; exact rfl) (by kernel_rfl) (by kernel_rfl) (by kernel_rfl) (fun _ _ _ h => h) (Or.inl ⟨by rfl, ?_⟩) ?_
                  rotate_left 1
                  · (intro w; go_simp; try with_reducible rfl)
                  try simp only [Act.put, List.setIfInBounds_toArray, List.set_cons_zero, List.set_cons_succ]
                  refine wpAny_done (by kernel_rfl) ?_ _
                  refine NoPanic.normal ?_
                  have HZZ := Lib.hid (HBM.out y2 Hy2.out)
                  go_wp2
                  go_ret
                  exact ⟨rfl, HZZ.out⟩
                · go_simp
                  refine hK _ _ ?_
                  clear hK K
                  try simp only [Act.put, List.setIfInBounds_toArray, List.set_cons_zero, List.set_cons_succ]
                  refine wpAny_ready (rs := [16]) (by kernel_rfl) (by simp) ?_
                  refine (AllReady.cons (by simp only [List.getElem?_toArray, List.getElem?_cons_succ, List.getElem?_cons_zero]; exact rfl) (fun K hK => ?_) AllReady.nil)
                  go_simp
                  refine (HBY.out.2.2.2 y2 Hy2.out).mono ?_
                  rintro e wl ⟨rfl, rfl⟩
                  have HKK := Lib.hid hK
                  clear hK
                  go_wp2_with fail
                  refine HKK.out _ _ ?_
                  clear HKK K
                  try simp only [Act.put, List.setIfInBounds_toArray, List.set_cons_zero, List.set_cons_succ]
                  refine wpAny_take (i := 19) (v := ?_) (by simp only [List.getElem?_toArray, List.getElem?_cons_succ, List.getElem?_cons_zero]; exact rfl) (by kernel_rfl) (by kernel_rfl) (by kernel_rfl) (fun _ _ _ h => h) (Or.inl ⟨by rfl, ?_⟩) ?_
                  rotate_left 1
                  · (intro w; go_simp; try with_reducible rfl)
                  try simp only [Act.put, List.setIfInBounds_toArray, List.set_cons_zero, List.set_cons_succ]
                  refine wpAny_take (i := 20) (v := ?_) (by simp only [List.getElem?_toArray, List.getElem?_cons_succ, List.getElem?_cons_zero]; exact rfl) (by kernel_rfl) (by kernel_rfl) (by kernel_rfl) (fun _ _ _ h => h) (Or.inl ⟨by rfl, ?_⟩) ?_
                  rotate_left 1
                  · (intro w; go_simp; try with_reducible rfl)
                  try simp only [Act.put, List.setIfInBounds_toArray, List.set_cons_zero, List.set_cons_succ]
                  refine wpAny_take (i := 21) (v := ?_) (by simp only [List.getElem?_toArray, List.getElem?_cons_succ, List.getElem?_cons_zero]; exact rfl) (by kernel_rfl) (by kernel_rfl) (by kernel_rfl) (fun _ _ _ h => h) (Or.inl ⟨by rfl, ?_⟩) ?_
                  rotate_left 1
                  · (intro w; go_simp; try with_reducible rfl)
                  try simp only [Act.put, List.setIfInBounds_toArray, List.set_cons_zero, List.set_cons_succ]
                  refine wpAny_done (by kernel_rfl) ?_ _
                  refine NoPanic.normal ?_
                  have HZZ := Lib.hid (HBM.out y2 Hy2.out)
                  go_wp2
                  go_ret
                  exact ⟨rfl, HZZ.out⟩
            · have hcv := HCb.out y2 (Below.refl _ _)
              go_simp
              refine hK _ _ ?_
              clear hK K hcv
              try simp only [Act.put, List.setIfInBounds_toArray, List.set_cons_zero, List.set_cons_succ]
              refine wpAny_ready (rs := [2]) (by kernel_rfl) (by simp) ?_
              refine (AllReady.cons (by simp only [List.getElem?_toArray, List.getElem?_cons_succ, List.getElem?_cons_zero]; exact rfl) (fun K hK => ?_) AllReady.nil)
              have hcv := HCa.out y2 HBK.out
              go_simp
              refine hK _ _ ?_
              clear hK K hcv
              try simp only [Act.put, List.setIfInBounds_toArray, List.set_cons_zero, List.set_cons_succ]
              refine wpAny_take (i := 6) (v := ?_) (by simp only [List.getElem?_toArray, List.getElem?_cons_succ, List.getElem?_cons_zero]; exact rfl) (by kernel_rfl) (by kernel_rfl) (by kernel_rfl) (fun _ _ _ h => h) (Or.inl ⟨by rfl, ?_⟩) ?_
              rotate_left 1
              · (intro w; go_simp; try with_reducible rfl)
              try simp only [Act.put, List.setIfInBounds_toArray, List.set_cons_zero, List.set_cons_succ]
              refine wpAny_take (i := 7) (v := ?_) (by simp only [List.getElem?_toArray, List.getElem?_cons_succ, List.getElem?_cons_zero]; exact rfl) (by kernel_rfl) (by kernel_rfl) (by kernel_rfl) (fun _ _ _ h => h) (Or.inl ⟨by rfl, ?_⟩) ?_
              rotate_left 1
              · (intro w; go_simp; try with_reducible rfl)
              try simp only [Act.put, List.setIfInBounds_toArray, List.set_cons_zero, List.set_cons_succ]
              refine wpAny_take (i := 8) (v := ?_) (by simp only [List.getElem?_toArray, List.getElem?_cons_succ, List.getElem?_cons_zero]; exact rfl) (by kernel_rfl) (by kernel_rfl) (by kernel_rfl) (fun _ _ _ h => h) (Or.inl ⟨by rfl, ?_⟩) ?_
              rotate_left 1
              · (intro w; go_simp; try with_reducible rfl)
              try simp only [Act.put, List.setIfInBounds_toArray, List.set_cons_zero, List.set_cons_succ]
              refine wpAny_take (i := 10) (v := ?_) (by simp only [List.getElem?_toArray, List.getElem?_cons_succ, List.getElem?_cons_zero]; exact rfl) (by kernel_rfl) (by kernel_rfl) (by kernel_rfl) (fun _ _ _ h => h) (Or.inl ⟨by rfl, ?_⟩) ?_
              rotate_left 1
              · (intro w; go_simp; try with_reducible rfl)
              try simp only [Act.put, List.setIfInBounds_toArray, List.set_cons_zero, List.set_cons_succ]
              refine wpAny_ready (rs := [9, 11]) (by kernel_rfl) (by simp) ?_
              refine (AllReady.cons (by simp only [List.getElem?_toArray, List.getElem?_cons_succ, List.getElem?_cons_zero]; exact rfl) (fun K hK => ?_) (AllReady.cons (by simp only [List.getElem?_toArray, List.getElem?_cons_succ, List.getElem?_cons_zero]; exact rfl) (fun K hK => ?_) AllReady.nil))
              · go_simp
                refine (HBY.out.2.2.1 y2 Hy2.out).mono ?_
                rintro e wl ⟨rfl, rfl⟩
                have HKK := Lib.hid hK
                clear hK
                go_wp2_with fail
                refine HKK.out _ _ ?_
                clear HKK K
                try simp only [Act.put, List.setIfInBounds_toArray, List.set_cons_zero, List.set_cons_succ]
                refine wpAny_ready (rs := [11]) (by kernel_rfl) (by simp) ?_
                refine (AllReady.cons (by simp only [List.getElem?_toArray, List.getElem?_cons_succ, List.getElem?_cons_zero]; exact rfl) (fun K hK => ?_) AllReady.nil)
                go_simp
                refine hK _ _ ?_
                clear hK K
                try simp only [Act.put, List.setIfInBounds_toArray, List.set_cons_zero, List.set_cons_succ]
                refine wpAny_take (i := 12) (v := ?_) (by simp only [List.getElem?_toArray, List.getElem?_cons_succ, List.getElem?_cons_zero]; exact rfl) (by kernel_rfl) (by kernel_rfl) (by kernel_rfl) (fun _ _ _ h => h) (Or.inl ⟨by rfl, ?_⟩) ?_
                rotate_left 1
                · (intro w; go_simp; try with_reducible rfl)
                try simp only [Act.put, List.setIfInBounds_toArray, List.set_cons_zero, List.set_cons_succ]
                refine wpAny_take (i := 13) (v := ?_) (by simp only [List.getElem?_toArray, List.getElem?_cons_succ, List.getElem?_cons_zero]; exact rfl) (by kernel_rfl) (by kernel_rfl) (by kernel_rfl) (fun _ _ _ h => h) (Or.inl ⟨by rfl, ?_⟩) ?_
                rotate_left 1
                · (intro w; go_simp; try with_reducible rfl)
                try simp only [Act.put, List.setIfInBounds_toArray, List.set_cons_zero, List.set_cons_succ]
                refine wpAny_take (i := 14) (v := ?_) (by simp only [List.getElem?_toArray, List.getElem?_cons_succ, List.getElem?_cons_zero]; exact rfl) (by kernel_rfl) (by kernel_rfl) (by kernel_rfl) (fun _ _ _ h => h) (Or.inl ⟨by rfl, ?_⟩) ?_
                rotate_left 1
                · (intro w; go_simp; try with_reducible rfl)
                try simp only [Act.put, List.setIfInBounds_toArray, List.set_cons_zero, List.set_cons_succ]
                refine wpAny_take (i := 15) (v := ?_) (by simp only [List.getElem?_toArray, List.getElem?_cons_succ, List.getElem?_cons_zero]; exact rfl) (by kernel_rfl) (by kernel_rfl) (by kernel_rfl) (fun _ _ _ h => h) (Or.inl ⟨by rfl, ?_⟩) ?_
                rotate_left 1
                · (intro w; go_simp; try with_reducible rfl)
                try simp only [Act.put, List.setIfInBounds_toArray, List.set_cons_zero, List.set_cons_succ]
                refine wpAny_take (i := 17) (v := ?_) (by simp only [List.getElem?_toArray, List.getElem?_cons_succ, List.getElem?_cons_zero]; exact rfl) (by kernel_rfl) (by kernel_rfl) (by kernel_rfl) (fun _ _ _ h => h) (Or.inl ⟨by rfl, ?_⟩) ?_
                rotate_left 1
                · (intro w; go_simp; try with_reducible rfl)
                try simp only [Act.put, List.setIfInBounds_toArray, List.set_cons_zero, List.set_cons_succ]
                refine wpAny_ready (rs := [16, 18]) (by kernel_rfl) (by simp) ?_
                refine (AllReady.cons (by simp only [List.getElem?_toArray, List.getElem?_cons_succ, List.getElem?_cons_zero]; exact rfl) (fun K hK => ?_) (AllReady.cons (by simp only [List.getElem?_toArray, List.getElem?_cons_succ, List.getElem?_cons_zero]; exact rfl) (fun K hK => ?_) AllReady.nil))
                · go_simp
                  refine (HBY.out.2.2.2 y2 Hy2.out).mono ?_
                  rintro e wl ⟨rfl, rfl⟩
                  have HKK := Lib.hid hK
                  clear hK
                  go_wp2_with fail
                  refine HKK.out _ _ ?_
                  clear HKK K
                  try simp only [Act.put, List.setIfInBounds_toArray, List.set_cons_zero, List.set_cons_succ]
                  refine wpAny_ready (rs := [18]) (by kernel_rfl) (by simp) ?_
                  refine (AllReady.cons (by simp only [List.getElem?_toArray, List.getElem?_cons_succ, List.getElem?_cons_zero]; exact rfl) (fun K hK => ?_) AllReady.nil)
                  go_simp
                  refine hK _ _ ?_
                  clear hK K
                  try simp only [Act.put, List.setIfInBounds_toArray, List.set_cons_zero, List.set_cons_succ]
                  refine wpAny_take (i := 19) (v := ?_) (by simp only [List.getElem?_toArray, List.getElem?_cons_succ, List.getElem?_cons_zero]; exact rfl) (by kernel_rfl) (by kernel_rfl) (by kernel_rfl) (fun _ _ _ h => h) (Or.inl ⟨by rfl, ?_⟩) ?_
                  rotate_left 1
                  · (intro w; go_simp; try with_reducible rfl)
                  try simp only [Act.put, List.setIfInBounds_toArray, List.set_cons_zero, List.set_cons_succ]
                  refine wpAny_take (i := 20) (v := ?_) (by simp only [List.getElem?_toArray, List.getElem?_cons_succ, List.getElem?_cons_zero]; exact rfl) (by kernel_rfl) (by kernel_rfl) (by kernel_rfl) (fun _ _ _ h => h) (Or.inl ⟨by rfl, ?_⟩) ?_
                  rotate_left 1
                  · (intro w; go_simp; try with_reducible rfl)
                  try simp only [Act.put, List.setIfInBounds_toArray, List.set_cons_zero, List.set_cons_succ]
                  refine wpAny_take (i := 21) (v := ?_) (by simp only [List.getElem?_toArray, List.getElem?_cons_succ, List.getElem?_cons_zero]; exact rfl) (by kernel_rfl) (by kernel_rfl) (by kernel_rfl) (fun _ _ _ h => h) (Or.inl ⟨by rfl, ?_⟩) ?_
                  rotate_left 1
                  · (intro w; go_simp; try with_reducible rfl)
                  try simp only [Act.put, List.setIfInBounds_toArray, List.set_cons_zero, List.set_cons_succ]
                  refine wpAny_done (by kernel_rfl) ?_ _
                  refine NoPanic.normal ?_
                  have HZZ := Lib.hid (HBM.out y2 Hy2.out)
                  go_wp2
                  go_ret
                  exact ⟨rfl, HZZ.out⟩
                · go_simp
                  refine hK _ _ ?_
                  clear hK K
                  try simp only [Act.put, List.setIfInBounds_toArray, List.set_cons_zero, List.set_cons_succ]
                  refine wpAny_ready (rs := [16]) (by kernel_rfl) (by simp) ?_
                  refine (AllReady.cons (by simp only [List.getElem?_toArray, List.getElem?_cons_succ, List.getElem?_cons_zero]; exact rfl) (fun K hK => ?_) AllReady.nil)
                  go_simp
                  refine (HBY.out.2.2.2 y2 Hy2.out).mono ?_
                  rintro e wl ⟨rfl, rfl⟩
                  have HKK := Lib.hid hK
                  clear hK
                  go_wp2_with fail
                  refine HKK.out _ _ ?_
                  clear HKK K
                  try simp only [Act.put, List.setIfInBounds_toArray, List.set_cons_zero, List.set_cons_succ]
                  refine wpAny_take (i := 19) (v := ?_) (by simp only [List.getElem?_toArray, List.getElem?_cons_succ, List.getElem?_cons_zero]; exact rfl) (by kernel_rfl) (by kernel_rfl) (by kernel_rfl) (fun _ _ _ h => h) (Or.inl ⟨by rfl, ?_⟩) ?_
                  rotate_left 1
                  · (intro w; go_simp; try with_reducible rfl)
                  try simp only [Act.put, List.setIfInBounds_toArray, List.set_cons_zero, List.set_cons_succ]
                  refine wpAny_take (i := 20) (v := ?_) (by simp only [List.getElem?_toArray, List.getElem?_cons_succ, List.getElem?_cons_zero]; exact rfl) (by kernel_rfl) (by kernel_rfl) (by kernel_rfl) (fun _ _ _ h => h) (Or.inl ⟨by rfl, ?_⟩) ?_
                  rotate_left 1
                  · (intro w; go_simp; try with_reducible rfl)
                  try simp only [Act.put, List.setIfInBounds_toArray, List.set_cons_zero, List.set_cons_succ]
                  refine wpAny_take (i := 21) (v := ?_) (by simp only [List.getElem?_toArray, List.getElem?_cons_succ, List.getElem?_cons_zero]; exact rfl) (by kernel_rfl) (by kernel_rfl) (by kernel_rfl) (fun _ _ _ h => h) (Or.inl ⟨by rfl, ?_⟩) ?_
                  rotate_left 1
                  · (intro w; go_simp; try with_reducible rfl)
                  try simp only [Act.put, List.setIfInBounds_toArray, List.set_cons_zero, List.set_cons_succ]
                  refine wpAny_done (by kernel_rfl) ?_ _
                  refine NoPanic.normal ?_
                  have HZZ := Lib.hid (HBM.out y2 Hy2.out)
                  go_wp2
                  go_ret
                  exact ⟨rfl, HZZ.out⟩
              · go_simp
                refine hK _ _ ?_
                clear hK K
                try simp only [Act.put, List.setIfInBounds_toArray, List.set_cons_zero, List.set_cons_succ]
                refine wpAny_ready (rs := [9]) (by kernel_rfl) (by simp) ?_
                refine (AllReady.cons (by simp only [List.getElem?_toArray, List.getElem?_cons_succ, List.getElem?_cons_zero]; exact rfl) (fun K hK => ?_) AllReady.nil)
                go_simp
                refine (HBY.out.2.2.1 y2 Hy2.out).mono ?_
                rintro e wl ⟨rfl, rfl⟩
                have HKK := Lib.hid hK
                clear hK
                go_wp2_with fail
                refine HKK.out _ _ ?_
                clear HKK K
                try simp only [Act.put, List.setIfInBounds_toArray, List.set_cons_zero, List.set_cons_succ]
                refine wpAny_take (i := 12) (v := ?_) (by simp only [List.getElem?_toArray, List.getElem?_cons_succ, List.getElem?_cons_zero]; exact rfl) (by kernel_rfl) (by kernel_rfl) (by kernel_rfl) (fun _ _ _ h => h) (Or.inl ⟨by rfl, ?_⟩) ?_
                rotate_left 1
                · (intro w; go_simp; try with_reducible rfl)
                try simp only [Act.put, List.setIfInBounds_toArray, List.set_cons_zero, List.set_cons_succ]
                refine wpAny_take (i := 13) (v := ?_) (by simp only [List.getElem?_toArray, List.getElem?_cons_succ, List.getElem?_cons_zero]; exact rfl) (by kernel_rfl) (by kernel_rfl) (by kernel_rfl) (fun _ _ _ h => h) (Or.inl ⟨by rfl, ?_⟩) ?_
                rotate_left 1
                · (intro w; go_simp; try with_reducible rfl)
                try simp only [Act.put, List.setIfInBounds_toArray, List.set_cons_zero, List.set_cons_succ]
                refine wpAny_take (i := 14) (v := ?_) (by simp only [List.getElem?_toArray, List.getElem?_cons_succ, List.getElem?_cons_zero]; exact rfl) (by kernel_rfl) (by kernel_rfl) (by kernel_rfl) (fun _ _ _ h => h) (Or.inl ⟨by rfl, ?_⟩) ?_
                rotate_left 1
                · (intro w; go_simp; try with_reducible rfl)
                try simp only [Act.put, List.setIfInBounds_toArray, List.set_cons_zero, List.set_cons_succ]
                refine wpAny_take (i := 15) (v := ?_) (by simp only [List.getElem?_toArray, List.getElem?_cons_succ, List.getElem?_cons_zero]; exact rfl) (by kernel_rfl) (by kernel_rfl) (by kernel_rfl) (fun _ _ _ h => h) (Or.inl ⟨by rfl, ?_⟩) ?_
                rotate_left 1
                · (intro w; go_simp; try with_reducible rfl)
                try simp only [Act.put, List.setIfInBounds_toArray, List.set_cons_zero, List.set_cons_succ]
                refine wpAny_take (i := 17) (v := ?_) (by simp only [List.getElem?_toArray, List.getElem?_cons_succ, List.getElem?_cons_zero]; exact rfl) (by kernel_rfl) (by kernel_rfl) (by kernel_rfl) (fun _ _ _ h => h) (Or.inl ⟨by rfl, ?_⟩) ?_
                rotate_left 1
                · (intro w; go_simp; try with_reducible rfl)
                try simp only [Act.put, List.setIfInBounds_toArray, List.set_cons_zero, List.set_cons_succ]
                refine wpAny_ready (rs := [16, 18]) (by kernel_rfl) (by simp) ?_
                refine (AllReady.cons (by simp only [List.getElem?_toArray, List.getElem?_cons_succ, List.getElem?_cons_zero]; exact rfl) (fun K hK => ?_) (AllReady.cons (by simp only [List.getElem?_toArray, List.getElem?_cons_succ, List.getElem?_cons_zero]; exact rfl) (fun K hK => ?_) AllReady.nil))
                · go_simp
                  refine (HBY.out.2.2.2 y2 Hy2.out).mono ?_
                  rintro e wl ⟨rfl, rfl⟩
                  have HKK := Lib.hid hK
                  clear hK
                  go_wp2_with fail
                  refine HKK.out _ _ ?_
                  clear HKK K
                  try simp only [Act.put, List.setIfInBounds_toArray, List.set_cons_zero, List.set_cons_succ]
                  refine wpAny_ready (rs := [18]) (by kernel_rfl) (by simp) ?_
                  refine (AllReady.cons (by simp only [List.getElem?_toArray, List.getElem?_cons_succ, List.getElem?_cons_zero]; exact rfl) (fun K hK => ?_) AllReady.nil)
                  go_simp
                  refine hK _ _ ?_
                  clear hK K
                  try simp only [Act.put, List.setIfInBounds_toArray, List.set_cons_zero, List.set_cons_succ]
                  refine wpAny_take (i := 19) (v := ?_) (by simp only [List.getElem?_toArray, List.getElem?_cons_succ, List.getElem?_cons_zero]; exact rfl) (by kernel_rfl) (by kernel_rfl) (by kernel_rfl) (fun _ _ _ h => h) (Or.inl ⟨by rfl, ?_⟩) ?_
                  rotate_left 1
                  · (intro w; go_simp; try with_reducible rfl)
                  try simp only [Act.put, List.setIfInBounds_toArray, List.set_cons_zero, List.set_cons_succ]
                  refine wpAny_take (i := 20) (v := ?_) (by simp only [List.getElem?_toArray, List.getElem?_cons_succ, List.getElem?_cons_zero]; exact rfl) (by kernel_rfl) (by kernel_rfl) (by kernel_rfl) (fun _ _ _ h => h) (Or.inl ⟨by rfl, ?_⟩) ?_
                  rotate_left 1
                  · (intro w; go_simp; try with_reducible rfl)
                  try simp only [Act.put, List.setIfInBounds_toArray, List.set_cons_zero, List.set_cons_succ]
                  refine wpAny_take (i := 21) (v := ?_) (by simp only [List.getElem?_toArray, List.getElem?_cons_succ, List.getElem?_cons_zero]; exact rfl) (by kernel_rfl) (by kernel_rfl) (by kernel_rfl) (fun _ _ _ h => h) (Or.inl ⟨by rfl, ?_⟩) ?_
                  rotate_left 1
                  · (intro w; go_simp; try with_reducible rfl)
                  try simp only [Act.put, List.setIfInBounds_toArray, List.set_cons_zero, List.set_cons_succ]
                  refine wpAny_done (by kernel_rfl) ?_ _
                  refine NoPanic.normal ?_
                  have HZZ := Lib.hid (HBM.out y2 Hy2.out)
                  go_wp2
                  go_ret
                  exact ⟨rfl, HZZ.out⟩
                · go_simp
                  refine hK _ _ ?_
                  clear hK K
                  try simp only [Act.put, List.setIfInBounds_toArray, List.set_cons_zero, List.set_cons_succ]
                  refine wpAny_ready (rs := [16]) (by kernel_rfl) (by simp) ?_
                  refine (AllReady.cons (by simp only [List.getElem?_toArray, List.getElem?_cons_succ, List.getElem?_cons_zero]; exact rfl) (fun K hK => ?_) AllReady.nil)
                  go_simp
                  refine (HBY.out.2.2.2 y2 Hy2.out).mono ?_
                  rintro e wl ⟨rfl, rfl⟩
                  have HKK := Lib.hid hK
                  clear hK
                  go_wp2_with fail
                  refine HKK.out _ _ ?_
                  clear HKK K
                  try simp only [Act.put, List.setIfInBounds_toArray, List.set_cons_zero, List.set_cons_succ]
                  refine wpAny_take (i := 19) (v := ?_) (by simp only [List.getElem?_toArray, List.getElem?_cons_succ, List.getElem?_cons_zero]; exact rfl) (by kernel_rfl) (by kernel_rfl) (by kernel_rfl) (fun _ _ _ h => h) (Or.inl ⟨by rfl, ?_⟩) ?_
                  rotate_left 1
                  · (intro w; go_simp; try with_reducible rfl)
                  try simp only [Act.put, List.setIfInBounds_toArray, List.set_cons_zero, List.set_cons_succ]
                  refine wpAny_take (i := 20) (v := ?_) (by simp only [List.getElem?_toArray, List.getElem?_cons_succ, List.getElem?_cons_zero]; exact rfl) (by kernel_rfl) (by kernel_rfl) (by kernel_rfl) (fun _ _ _ h => h) (Or.inl ⟨by rfl, ?_⟩) ?_
                  rotate_left 1
                  · (intro w; go_simp; try with_reducible rfl)
                  try simp only [Act.put, List.setIfInBounds_toArray, List.set_cons_zero, List.set_cons_succ]
                  refine wpAny_take (i := 21) (v := ?_) (by simp only [List.getElem?_toArray, List.getElem?_cons_succ, List.getElem?_cons_zero]; exact rfl) (by kernel_rfl) (by kernel_rfl) (by kernel_rfl) (fun _ _ _ h => h) (Or.inl ⟨by rfl, ?_⟩) ?_
                  rotate_left 1
                  · (intro w; go_simp; try with_reducible rfl)
                  try simp only [Act.put, List.setIfInBounds_toArray, List.set_cons_zero, List.set_cons_succ]
                  refine wpAny_done (by kernel_rfl) ?_ _
                  refine NoPanic.normal ?_
                  have HZZ := Lib.hid (HBM.out y2 Hy2.out)
                  go_wp2
                  go_ret
                  exact ⟨rfl, HZZ.out⟩
set_option maxRecDepth 100000 in
set_option maxHeartbeats 8000000 in
theorem turns_any (w : World) (hC : CpA w) (hT : Tb w) (l : List Ent) (q : Option Addr) (n cap t : Nat) (h : RsAt w q l) (hl : l.length = n) (hin : ∀ e ∈ l, RcIn e.1) (hn63 : n < 9223372036854775808) (ht : t < 256) :
    Calls Tryz.prog 4 #[.slice q n cap, .int .u8 (t : Int)] w fun e w' => e = .returned (.bool true) ∧ Below w.heap.size w w' := by
  by_cases hs : small11 l = true
  · by_cases hn : 0 < n
    · exact turns_go w hC hT l q n cap t h hl hin hs hn ht
    · have hn0 : n = 0 := by omega
      subst hn0
      have HAW := Lib.hid (fun u (hu : Below w.heap.size w u) => awake11 u (hC.on hu) (hT.on hu))
      have HSM := Lib.hid (fun u (hu : Below w.heap.size w u) => small_any l q 0 cap u (h.of_below hu) hl (by omega) hin)
      rw [hs] at HSM
      clear hC hT h hin hs hl
      go_enter Tryz.func4, Tryz.ntmps4
      go_wp2_with fail
      refine (HAW.out w (Below.refl _ _)).mono ?_
      rintro e w1 ⟨rfl, hB1⟩
      have HB1 := Lib.hid hB1
      clear hB1
      go_wp2_with fail
      refine (HSM.out w1 HB1.out).mono ?_
      rintro e w2 ⟨rfl, hB2⟩
      have HB2 := Lib.hid (HB1.out.trans (hB2.mono HB1.out.size))
      clear hB2
      go_wp2_with fail
      refine (HAW.out w2 HB2.out).mono ?_
      rintro e w3 ⟨rfl, hB3⟩
      have HB3 := Lib.hid (HB2.out.trans (hB3.mono HB2.out.size))
      clear hB3
      go_wp2
      go_ret
      exact ⟨rfl, HB3.out⟩
  · have hs' : small11 l = false := by simpa using hs
    have HAW := Lib.hid (fun u (hu : Below w.heap.size w u) => awake11 u (hC.on hu) (hT.on hu))
    have HSM := Lib.hid (fun u (hu : Below w.heap.size w u) => small_any l q n cap u (h.of_below hu) hl hn63 hin)
    rw [hs'] at HSM
    clear hC hT h hin hs hs' hl
    go_enter Tryz.func4, Tryz.ntmps4
    go_wp2_with fail
    refine (HAW.out w (Below.refl _ _)).mono ?_
    rintro e w1 ⟨rfl, hB1⟩
    have HB1 := Lib.hid hB1
    clear hB1
    go_wp2_with fail
    refine (HSM.out w1 HB1.out).mono ?_
    rintro e w2 ⟨rfl, hB2⟩
    have HB2 := Lib.hid (HB1.out.trans (hB2.mono HB1.out.size))
    clear hB2
    go_wp2_with fail
    refine (HAW.out w2 HB2.out).mono ?_
    rintro e w3 ⟨rfl, hB3⟩
    have HB3 := Lib.hid (HB2.out.trans (hB3.mono HB2.out.size))
    clear hB3
    go_wp2
    go_ret
    exact ⟨rfl, HB3.out⟩
end Go.Proofs.YtkajeepbelfpiaaGreatDoor
