/- Merged texts: It8, DoC0, DoC1. -/
import Derived.Test.YtjglgohchhdkkaaGreatDoorK7
set_option linter.unusedSimpArgs false
set_option linter.unusedVariables false
/- Is, where the program's disk and the reference's are alike in what is seen. -/
namespace Go.Proofs.YtjglgohchhdkkaaGreatDoor
open Go Go.RowKit

/-- Two disks that are alike in what is seen. -/
structure SameD (m1 m : Dk) : Prop where
  seen : m1.seen = m.seen
  body : ∀ f ∈ m.seen, bodyL m1 f = bodyL m f
  room : m1.room = m.room
  wait : m1.waits.length = m.waits.length
theorem SameD.used {m1 m : Dk} (h : SameD m1 m) : usedL m1 = usedL m := by
  unfold usedL
  rw [h.seen]
  congr 1
  exact List.map_congr_left fun f hf => by rw [h.body f hf]
set_option maxRecDepth 100000 in
set_option maxHeartbeats 8000000 in
theorem is8_two {w : World} {S G : Nat → Prop} {b : Nat} {m1 m : Dk} {h : Hd} (hsm : SameD m1 m) (hd : Dsk w S b m1) (hok1 : DkOk 250 m1) (hok : DkOk 250 m) (r : RfG G w m h) :
    Calls Tryz.prog 9 #[.pointer (some ⟨b, 0, none⟩), aggD m h] w fun e w' => e = .returned (.bool true) ∧ Below w.heap.size w w' := by
  obtain ⟨hc, hB0⟩ := boxD_start w m h
  obtain ⟨W, hW⟩ : ∃ W, w.alloc (boxD m h) = W := ⟨_, rfl⟩
  have HE := Lib.hid (show (w.alloc (.cells #[.int .i64 m.room, .int .i64 m.count, .slice h.bp h.bn h.bc, .slice h.sp h.sn h.sc, .slice h.fp h.fn h.fc, .slice h.wp h.wn h.wc] 31)) = W from hW)
  have hsz : W.heap.size = w.heap.size + 1 := by rw [← hW, World.size_alloc]
  rw [hW] at hc hB0
  have HB0 := Lib.hid hB0
  have HD := Lib.hid (hd.of_below hB0)
  have HR := Lib.hid (r.of_below hB0)
  have HOK := Lib.hid (hok.mono (by decide : 250 ≤ 300))
  have HC := Lib.hid (fun (u : World) (hu : Below W.heap.size W u) (j : Nat) => ((hu.cell (p := ⟨w.heap.size, j, none⟩) (by show w.heap.size < _; omega)).trans (hc j) : u.cell? ⟨w.heap.size, j, none⟩ = (lisD m h)[j]?))
  have HPT := Lib.hid (dpaths_any (hd.of_below hB0) (hok1.mono (by decide)))
  rw [hsm.seen] at HPT
  have HOK1 := Lib.hid (hok1.mono (by decide : 250 ≤ 300))
  have HSM := Lib.hid hsm
  have HSN := Lib.hid r.sn
  have HWN := Lib.hid r.wn
  clear hd hok hok1 hsm r hc hW hsz hB0
  unfold aggD
  go_enter Tryz.func9, Tryz.ntmps9
  go_wp2_with fail
  rw [HE.out]
  refine HPT.out.mono ?_
  rintro e w1 ⟨v, ls, rfl, hperm, hpw, hrow, hB1⟩
  obtain ⟨pq, pc, hv⟩ := own_slice hrow
  subst hv
  have hlen : ls.length = h.sn := by rw [hperm.length_eq, List.length_map, HSN.out]
  have HPM := Lib.hid hperm
  have HPW := Lib.hid hpw
  have HRW := Lib.hid hrow
  have HB1 := Lib.hid hB1
  have HB1d : Hid (Below w1.heap.size w1 w1.drew) := Lib.hid (Below.refl _ _).drew
  have HLN := Lib.hid hlen
  rw [hlen]
  have hS : ∀ u, Below w1.heap.size w1 u → u.cell? ⟨w.heap.size, 0, none⟩ = some (.int .i64 m.room) ∧ u.cell? ⟨w.heap.size, 1, none⟩ = some (.int .i64 m.count) ∧ u.cell? ⟨w.heap.size, 2, none⟩ = some (.slice h.bp h.bn h.bc) ∧ u.cell? ⟨w.heap.size, 3, none⟩ = some (.slice h.sp h.sn h.sc) ∧ u.cell? ⟨w.heap.size, 4, none⟩ = some (.slice h.fp h.fn h.fc) ∧ u.cell? ⟨w.heap.size, 5, none⟩ = some (.slice h.wp h.wn h.wc) ∧ Below w1.heap.size w1 u := fun u hu =>
    have hw := HB1.out.trans (hu.mono HB1.out.size)
    ⟨HC.out u hw 0, HC.out u hw 1, HC.out u hw 2, HC.out u hw 3, HC.out u hw 4, HC.out u hw 5, hu⟩
  have hS0 := hS w1.drew HB1d.out
  have hz0 := HB1d.out
  have HS := Lib.hid hS
  obtain ⟨ul, hul⟩ : ∃ ul, usedL m = ul := ⟨_, rfl⟩
  have HU1 := Lib.hid (fun (u : World) (hu : Below w1.heap.size w1 u) => dused_any (HD.out.of_below (HB1.out.trans (hu.mono HB1.out.size))) HOK1.out)
  have HU2 := Lib.hid (fun (u : World) (hu : Below w1.heap.size w1 u) => refUsed_any G m h (by have := HSN.out; have := HOK.out.seen; omega) HOK.out.inB HOK.out.shortB u (HR.out.of_below (HB1.out.trans (hu.mono HB1.out.size))))
  have HU3 := Lib.hid (fun (u : World) (hu : Below w1.heap.size w1 u) => droom_any (HD.out.of_below (HB1.out.trans (hu.mono HB1.out.size))))
  have HU4 := Lib.hid (fun (u : World) (hu : Below w1.heap.size w1 u) => dwaiting_any (HD.out.of_below (HB1.out.trans (hu.mono HB1.out.size))))
  rw [HSM.out.used] at HU1
  rw [HSM.out.room] at HU3
  rw [HSM.out.wait] at HU4
  rw [hul] at HU1 HU2
  rw [HWN.out] at HU4
  unfold aggD at HU2
  clear hS hperm hpw hrow hB1 hlen hul
  go_wp2_with fail
  go_region_held3 (fun u : World => u.cell? ⟨w.heap.size, 0, none⟩ = some (.int .i64 m.room) ∧ u.cell? ⟨w.heap.size, 1, none⟩ = some (.int .i64 m.count) ∧ u.cell? ⟨w.heap.size, 2, none⟩ = some (.slice h.bp h.bn h.bc) ∧ u.cell? ⟨w.heap.size, 3, none⟩ = some (.slice h.sp h.sn h.sc) ∧ u.cell? ⟨w.heap.size, 4, none⟩ = some (.slice h.fp h.fn h.fc) ∧ u.cell? ⟨w.heap.size, 5, none⟩ = some (.slice h.wp h.wn h.wc) ∧ Below w1.heap.size w1 u) (first | with_reducible exact hS0 | with_reducible exact HS.out _ hz) ((first
    | (go_at_call 26; with_reducible refine (HU1.out _ (by assumption)).mono ?_; rintro e w2 ⟨rfl, hB2⟩; have hz := Below.trans (by assumption) (hB2.mono (Below.size (by assumption))); clear hB2)
    | (go_at_call 27; with_reducible refine (HU2.out _ (by assumption)).mono ?_; rintro e w2 ⟨rfl, hB2⟩; have hz := Below.trans (by assumption) (hB2.mono (Below.size (by assumption))); clear hB2)
    | (go_at_call 28; with_reducible refine (HU3.out _ (by assumption)).mono ?_; rintro e w2 ⟨rfl, rfl⟩)
    | (go_at_call 29; with_reducible refine (HU4.out _ (by assumption)).mono ?_; rintro e w2 ⟨rfl, rfl⟩)))
  rename_i hh
  have HBF := Lib.hid hh.2.2.2.2.2.2
  clear hh hS0 hz0
  try clear hz
  go_wp2
  go_loopw [46] (fun i wr => ∃ k : Nat, k ≤ h.sn ∧ i = .int .i64 k ∧ Below w1.heap.size w1 wr) (fun i _ => h.sn - (intOf i).toNat)
  case atStart => exact ⟨0, Nat.zero_le _, rfl, HBF.out⟩
  case round =>
    clear HBF
    obtain ⟨k, hk, rfl, hB⟩ := hrel
    have HB := Lib.hid hB
    by_cases hlt : k < h.sn
    · have hkl : k < ls.length := by rw [HLN.out]; exact hlt
      have hro := own_below HRW.out hB
      obtain ⟨g, cap, hv, _, hgl, hnc, hcs, hfr⟩ := own_full8 hro (by omega)
      injection hv with e1 e2 e3
      subst e1 e3
      have hcell : ∀ j (hj : j < ls.length), wr.cell? ⟨g, j, none⟩ = some (.string (mkS ls[j])) := fun j hj => by
        rw [hcs j (by rw [List.length_map]; exact hj), List.getElem?_map, List.getElem?_eq_getElem hj]
        rfl
      have HCE := Lib.hid hcell
      have x1 := hcell k hkl
      have hpk : ls[k] ∈ m.seen.map Fl.p := HPM.out.mem_iff.1 (List.getElem_mem hkl)
      obtain ⟨f0, hf0, hf0p⟩ := List.mem_map.1 hpk
      obtain ⟨fi, hfi⟩ : ∃ fi, findL m.seen ls[k] = some fi := by
        cases hf : findL m.seen ls[k] with
        | some fi => exact ⟨fi, rfl⟩
        | none =>
          unfold findL at hf
          rw [List.findIdx?_eq_none_iff] at hf
          have := hf f0 hf0
          rw [hf0p] at this
          simp at this
      have hPW : ∀ j (hj : j < k), decide (ls[k] ≤ ls[j]) = false := fun j hj => List.pairwise_iff_getElem.1 HPW.out j k (by omega) hkl hj
      have HPK := Lib.hid hPW
      obtain ⟨p, hp⟩ : ∃ p, ls[k] = p := ⟨_, rfl⟩
      rw [hp] at x1 hfi
      have HP := Lib.hid hp
      have hw := HB1.out.trans (hB.mono HB1.out.size)
      obtain ⟨s0, s1, s2, s3, s4, s5, -⟩ := HS.out wr hB
      obtain ⟨f, hf⟩ : ∃ f, m.seen.getD fi fl0 = f := ⟨_, rfl⟩
      have hfm : f ∈ m.seen := by rw [← hf]; exact findL_in hfi
      have hfil := findL_lt hfi
      have hfb : f.body < m.bodies.length := HOK.out.inS f hfm
      obtain ⟨bd, hbd⟩ : ∃ bd, bodyL m f = bd := ⟨_, rfl⟩
      have HRD := Lib.hid (fun (u : World) (hu : Below w1.heap.size w1 u) => dread_any (HD.out.of_below (HB1.out.trans (hu.mono HB1.out.size))) HOK1.out p)
      have HSA := Lib.hid (fun (u : World) (hu : Below w1.heap.size w1 u) => dstat_any (HD.out.of_below (HB1.out.trans (hu.mono HB1.out.size))) p)
      rw [show readN m1 p = 0 by unfold readN readL; rw [HSM.out.seen, hfi]; rfl, show readL m1 p = some bd by unfold readL; rw [HSM.out.seen, hfi, ← hbd, ← HSM.out.body f hfm, ← hf]; rfl] at HRD
      rw [show stampV (fileL m1 p) = .tuple #[.agg #[.int .i64 f.size, .int .i64 f.time, .int .i64 f.chg], .int .i64 0] by unfold fileL; rw [HSM.out.seen, hfi, ← hf]; rfl] at HSA
      have hrr := HR.out.of_below hw
      obtain ⟨c0, o0, hsp, hc0, y0⟩ := hrr.seen.at_.cell (j := fi * 5 + 0) ((flat_get encF 5 encF_len m.seen fi 0 hfil (by decide)).trans rfl)
      have hFC := fun j u (hu : (encF m.seen[fi])[j]? = some u) (hj : j < 5) => (by
        obtain ⟨c1, o1, e1, _, h1⟩ := hrr.seen.at_.cell (j := fi * 5 + j) ((flat_get encF 5 encF_len m.seen fi j hfil hj).trans hu)
        rw [hsp] at e1
        injection e1 with e1
        injection e1 with e1 e2
        subst e1 e2
        rw [← Nat.add_assoc] at h1
        exact h1 : wr.cell? ⟨c0, o0 + fi * 5 + j, none⟩ = some u)
      have hfe : m.seen[fi] = f := by rw [← hf, List.getD_eq_getElem?_getD, List.getElem?_eq_getElem hfil]; rfl
      rw [hfe] at hFC
      have v0 : wr.cell? ⟨c0, o0 + fi * 5, none⟩ = some (.string (mkS f.p)) := hFC 0 _ rfl (by decide)
      have v1 := hFC 1 _ rfl (by decide)
      have v2 := hFC 2 _ rfl (by decide)
      have v3 := hFC 3 _ rfl (by decide)
      have v4 := hFC 4 _ rfl (by decide)
      obtain ⟨ba, bo, bq, bc, hbp, hba, y1, y2⟩ := hrr.bodies.head (i := f.body) (by rw [← hrr.bodies.len]; exact hfb)
      rw [show m.bodies.getD f.body [] = bd from hbd] at y1 y2
      have HBW := Lib.hid (World.block_lt_of_cell? wr _ y1)
      have HY1 := Lib.hid y1
      have HY2 := Lib.hid y2
      have HBN := Lib.hid hrr.bodies.len
      have HFB := Lib.hid hfb
      have HSP := Lib.hid hsp
      have HBP := Lib.hid hbp
      have hfs : (fi : Int) < (h.sn : Int) := by have := HSN.out; omega
      have hfs2 : fi < h.sn := by have := HSN.out; omega
      have hbi : (f.body : Int) < (h.bn : Int) := by have := hrr.bodies.len; omega
      have hbi2 : f.body < h.bn := by have := hrr.bodies.len; omega
      rw [hsp] at s3
      rw [hbp] at s2
      have HFI := Lib.hid (refFind_any m.seen h.sp h.sn h.sc p (by have := HSN.out; have := HOK.out.seen; omega) wr (HR.out.of_below hw).seen.files)
      rw [findI_some hfi] at HFI
      have HFX := Lib.hid hfi
      have z1 : (k : Int) < (h.sn : Int) := by omega
      have z2 : decide ((k : Int) < (h.sn : Int)) = true := decide_eq_true z1
      have hw64 := i64s k (by have := HSN.out; have := HOK.out.seen; omega)
      have hge : decide ((fi : Int) < 0) = false := decide_eq_false (by omega)
      have HWR := Lib.hid hB
      rw [hsp] at HFI
      clear hro hgl hnc hcs hfr hcell hpk hf0 hf0p hfi hPW hp hw hB hf hfm hfil hfb hbd hrr hFC hfe y0 y1 y2 hsp hbp hc0 hba
      go_wp2_with fail
      refine HFI.out.mono ?_
      rintro e w' ⟨rfl, rfl⟩
      rcases Nat.eq_zero_or_pos k with hk0 | hk0
      · subst hk0
        go_wp2_with fail
        have hbf := (Below.refl wr.heap.size wr).alloc (Nat.le_refl _) (.cells #[.string (mkS f.p), .int .i64 (f.body : Int), .int .i64 f.size, .int .i64 f.time, .int .i64 f.chg] 71)
        have HBF := Lib.hid (HWR.out.trans (hbf.mono HWR.out.size))
        have HF5 := Lib.hid (five_cells wr (.string (mkS f.p)) (.int .i64 (f.body : Int)) (.int .i64 f.size) (.int .i64 f.time) (.int .i64 f.chg) 71)
        obtain ⟨WF, hWF⟩ : ∃ WF, wr.alloc (.cells #[.string (mkS f.p), .int .i64 (f.body : Int), .int .i64 f.size, .int .i64 f.time, .int .i64 f.chg] 71) = WF := ⟨_, rfl⟩
        have HZF : Hid (wr.heap.size < WF.heap.size) := Lib.hid (by rw [← hWF, World.size_alloc]; exact Nat.lt_succ_self _)
        rw [hWF] at hbf HBF HF5
        have HWF := Lib.hid hbf
        have HEF := Lib.hid hWF
        rw [hWF]
        clear hbf hWF x1 s0 s1 s2 s3 s4 s5 v0 v1 v2 v3 v4
        refine (HRD.out WF HBF.out).mono ?_
        rintro e w2 ⟨v, rfl, hO, hB2⟩
        replace hO : w2.ownsRow WF.heap.size 5 1 v bd.length (bytC bd) := hO
        obtain ⟨q1, c1, hv⟩ := own_slice hO
        subst hv
        have HO := Lib.hid hO
        have HB2 := Lib.hid hB2
        have HB2w := Lib.hid (HBF.out.trans (hB2.mono HBF.out.size))
        clear hO hB2
        go_wp2_with fail
        refine (HSA.out w2 HB2w.out).mono ?_
        rintro e w3 ⟨rfl, hB3⟩
        have hbs := (Below.refl w3.heap.size w3).alloc (Nat.le_refl _) (.cells #[.int .i64 f.size, .int .i64 f.time, .int .i64 f.chg] 62)
        have HB3w := Lib.hid (HB2w.out.trans (hB3.mono HB2w.out.size))
        have HB4w := Lib.hid (HB3w.out.trans (hbs.mono HB3w.out.size))
        have HBF4 : Hid (Below WF.heap.size WF (w3.alloc (.cells #[.int .i64 f.size, .int .i64 f.time, .int .i64 f.chg] 62))) := Lib.hid ((HB2.out.trans (hB3.mono HB2.out.size)).trans (hbs.mono (Nat.le_trans HB2.out.size hB3.size)))
        have HO4 := Lib.hid (own_below (own_below HO.out hB3) hbs)
        have HST := Lib.hid (stamp_cells w3 (.int .i64 f.size) (.int .i64 f.time) (.int .i64 f.chg))
        obtain ⟨W4, hW4⟩ : ∃ W4, w3.alloc (.cells #[.int .i64 f.size, .int .i64 f.time, .int .i64 f.chg] 62) = W4 := ⟨_, rfl⟩
        have HZ4 : Hid (w3.heap.size < W4.heap.size) := Lib.hid (by rw [← hW4, World.size_alloc]; exact Nat.lt_succ_self _)
        have HE4 := Lib.hid hW4
        rw [hW4] at HB4w HBF4 HO4 HST
        clear hB3 hbs hW4
        go_wp2_with fail
        rw [HE4.out]
        have hS0 : W4.drew.cell? ⟨w.heap.size, 2, none⟩ = some (.slice (some ⟨ba, bo, none⟩) h.bn h.bc) ∧ W4.drew.cell? ⟨wr.heap.size, 1, none⟩ = some (.int .i64 (f.body : Int)) ∧ W4.drew.cell? ⟨wr.heap.size, 2, none⟩ = some (.int .i64 f.size) ∧ W4.drew.cell? ⟨wr.heap.size, 3, none⟩ = some (.int .i64 f.time) ∧ W4.drew.cell? ⟨wr.heap.size, 4, none⟩ = some (.int .i64 f.chg) ∧ W4.drew.cell? ⟨w3.heap.size, 0, none⟩ = some (.int .i64 f.size) ∧ W4.drew.cell? ⟨w3.heap.size, 1, none⟩ = some (.int .i64 f.time) ∧ W4.drew.cell? ⟨w3.heap.size, 2, none⟩ = some (.int .i64 f.chg) ∧ W4.drew.cell? ⟨ba, bo + f.body, none⟩ = some (.slice bq bd.length bc) ∧ (convert 32 9 (.slice q1 bd.length c1)).run Tryz.prog W4.drew = .ok (.string (mkS bd)) W4.drew ∧ (convert 32 9 (.slice bq bd.length bc)).run Tryz.prog W4.drew = .ok (.string (mkS bd)) W4.drew := by
          have hBd : Below W4.heap.size W4 W4.drew := (Below.refl _ _).drew
          have hbw := HB4w.out.trans (hBd.mono HB4w.out.size)
          obtain ⟨-, -, t2, -⟩ := HS.out W4.drew hbw
          have hbf := HBF4.out.trans (hBd.mono HBF4.out.size)
          have hff : ∀ j, W4.drew.cell? ⟨wr.heap.size, j, none⟩ = _ := fun j => (hbf.cell (p := ⟨wr.heap.size, j, none⟩) HZF.out).trans (HF5.out j)
          have hbwr : Below wr.heap.size wr W4.drew := HWF.out.trans (hbf.mono HWF.out.size)
          obtain ⟨u0, u1, u2⟩ := HST.out
          have hO5 := own_below HO4.out hBd
          obtain ⟨q9, c9, e9, hcv⟩ := own_conv hO5 rfl
          injection e9 with e1 _ e3
          subst e1 e3
          have hy2 := HY2.out.of_below hbwr
          exact ⟨by rw [HBP.out] at t2; exact t2, hff 1, hff 2, hff 3, hff 4, (hBd.cell (p := ⟨w3.heap.size, 0, none⟩) HZ4.out).trans u0, (hBd.cell (p := ⟨w3.heap.size, 1, none⟩) HZ4.out).trans u1, (hBd.cell (p := ⟨w3.heap.size, 2, none⟩) HZ4.out).trans u2, (hbwr.cell (p := ⟨ba, bo + f.body, none⟩) HBW.out).trans HY1.out, hcv, conv8 _ _ _ _ _ hy2.at_ rfl hy2.nil⟩
        have hns := neqStamp
        go_region_held3 (fun u : World => u.cell? ⟨w.heap.size, 2, none⟩ = some (.slice (some ⟨ba, bo, none⟩) h.bn h.bc) ∧ u.cell? ⟨wr.heap.size, 1, none⟩ = some (.int .i64 (f.body : Int)) ∧ u.cell? ⟨wr.heap.size, 2, none⟩ = some (.int .i64 f.size) ∧ u.cell? ⟨wr.heap.size, 3, none⟩ = some (.int .i64 f.time) ∧ u.cell? ⟨wr.heap.size, 4, none⟩ = some (.int .i64 f.chg) ∧ u.cell? ⟨w3.heap.size, 0, none⟩ = some (.int .i64 f.size) ∧ u.cell? ⟨w3.heap.size, 1, none⟩ = some (.int .i64 f.time) ∧ u.cell? ⟨w3.heap.size, 2, none⟩ = some (.int .i64 f.chg) ∧ u.cell? ⟨ba, bo + f.body, none⟩ = some (.slice bq bd.length bc) ∧ (convert 32 9 (.slice q1 bd.length c1)).run Tryz.prog u = .ok (.string (mkS bd)) u ∧ (convert 32 9 (.slice bq bd.length bc)).run Tryz.prog u = .ok (.string (mkS bd)) u) (first | with_reducible exact hS0) (fail)
        all_goals
          clear hS0 hns
          go_wp2
          go_roundw
          case rel => exact ⟨0 + 1, by omega, by go_num, HB4w.out.drew⟩
          case measure => simp [intOf]; omega
      · obtain ⟨k2, rfl⟩ : ∃ k2, k = k2 + 1 := ⟨k - 1, by omega⟩
        have hk3 : k2 ≤ 1000 := by clear hw64; have := HSN.out; have := HOK.out.seen; omega
        have x0 := HCE.out k2 (by omega)
        obtain ⟨p0, hp0⟩ : ∃ p0, ls[k2] = p0 := ⟨_, rfl⟩
        rw [hp0] at x0
        have hpos : decide ((0 : Int) < ((k2 + 1 : Nat) : Int)) = true := decide_eq_true (by omega)
        have hpos2 : (0 : Int) < ((k2 + 1 : Nat) : Int) := by omega
        have hkb : (k2 : Int) < (h.sn : Int) := by omega
        have hkb2 : k2 < h.sn := by omega
        have hwm : wrap64 (k2 : Int) = (k2 : Int) := w64a k2 hk3
        have HWM2 := Lib.hid (w64b k2 hk3)
        have hgq := geq_no (by have := HPK.out k2 (by omega); rw [hp0, HP.out] at this; exact this : decide (p ≤ p0) = false)
        go_wp2_with fail
        have hbf := (Below.refl wr.heap.size wr).alloc (Nat.le_refl _) (.cells #[.string (mkS f.p), .int .i64 (f.body : Int), .int .i64 f.size, .int .i64 f.time, .int .i64 f.chg] 71)
        have HBF := Lib.hid (HWR.out.trans (hbf.mono HWR.out.size))
        have HF5 := Lib.hid (five_cells wr (.string (mkS f.p)) (.int .i64 (f.body : Int)) (.int .i64 f.size) (.int .i64 f.time) (.int .i64 f.chg) 71)
        obtain ⟨WF, hWF⟩ : ∃ WF, wr.alloc (.cells #[.string (mkS f.p), .int .i64 (f.body : Int), .int .i64 f.size, .int .i64 f.time, .int .i64 f.chg] 71) = WF := ⟨_, rfl⟩
        have HZF : Hid (wr.heap.size < WF.heap.size) := Lib.hid (by rw [← hWF, World.size_alloc]; exact Nat.lt_succ_self _)
        rw [hWF] at hbf HBF HF5
        have HWF := Lib.hid hbf
        have HEF := Lib.hid hWF
        rw [hWF]
        clear hbf hWF x1 s0 s1 s2 s3 s4 s5 v0 v1 v2 v3 v4
        refine (HRD.out WF HBF.out).mono ?_
        rintro e w2 ⟨v, rfl, hO, hB2⟩
        replace hO : w2.ownsRow WF.heap.size 5 1 v bd.length (bytC bd) := hO
        obtain ⟨q1, c1, hv⟩ := own_slice hO
        subst hv
        have HO := Lib.hid hO
        have HB2 := Lib.hid hB2
        have HB2w := Lib.hid (HBF.out.trans (hB2.mono HBF.out.size))
        clear hO hB2
        go_wp2_with fail
        refine (HSA.out w2 HB2w.out).mono ?_
        rintro e w3 ⟨rfl, hB3⟩
        have hbs := (Below.refl w3.heap.size w3).alloc (Nat.le_refl _) (.cells #[.int .i64 f.size, .int .i64 f.time, .int .i64 f.chg] 62)
        have HB3w := Lib.hid (HB2w.out.trans (hB3.mono HB2w.out.size))
        have HB4w := Lib.hid (HB3w.out.trans (hbs.mono HB3w.out.size))
        have HBF4 : Hid (Below WF.heap.size WF (w3.alloc (.cells #[.int .i64 f.size, .int .i64 f.time, .int .i64 f.chg] 62))) := Lib.hid ((HB2.out.trans (hB3.mono HB2.out.size)).trans (hbs.mono (Nat.le_trans HB2.out.size hB3.size)))
        have HO4 := Lib.hid (own_below (own_below HO.out hB3) hbs)
        have HST := Lib.hid (stamp_cells w3 (.int .i64 f.size) (.int .i64 f.time) (.int .i64 f.chg))
        obtain ⟨W4, hW4⟩ : ∃ W4, w3.alloc (.cells #[.int .i64 f.size, .int .i64 f.time, .int .i64 f.chg] 62) = W4 := ⟨_, rfl⟩
        have HZ4 : Hid (w3.heap.size < W4.heap.size) := Lib.hid (by rw [← hW4, World.size_alloc]; exact Nat.lt_succ_self _)
        have HE4 := Lib.hid hW4
        rw [hW4] at HB4w HBF4 HO4 HST
        clear hB3 hbs hW4
        go_wp2_with fail
        rw [HE4.out]
        have hS0 : W4.drew.cell? ⟨w.heap.size, 2, none⟩ = some (.slice (some ⟨ba, bo, none⟩) h.bn h.bc) ∧ W4.drew.cell? ⟨wr.heap.size, 1, none⟩ = some (.int .i64 (f.body : Int)) ∧ W4.drew.cell? ⟨wr.heap.size, 2, none⟩ = some (.int .i64 f.size) ∧ W4.drew.cell? ⟨wr.heap.size, 3, none⟩ = some (.int .i64 f.time) ∧ W4.drew.cell? ⟨wr.heap.size, 4, none⟩ = some (.int .i64 f.chg) ∧ W4.drew.cell? ⟨w3.heap.size, 0, none⟩ = some (.int .i64 f.size) ∧ W4.drew.cell? ⟨w3.heap.size, 1, none⟩ = some (.int .i64 f.time) ∧ W4.drew.cell? ⟨w3.heap.size, 2, none⟩ = some (.int .i64 f.chg) ∧ W4.drew.cell? ⟨ba, bo + f.body, none⟩ = some (.slice bq bd.length bc) ∧ (convert 32 9 (.slice q1 bd.length c1)).run Tryz.prog W4.drew = .ok (.string (mkS bd)) W4.drew ∧ (convert 32 9 (.slice bq bd.length bc)).run Tryz.prog W4.drew = .ok (.string (mkS bd)) W4.drew := by
          have hBd : Below W4.heap.size W4 W4.drew := (Below.refl _ _).drew
          have hbw := HB4w.out.trans (hBd.mono HB4w.out.size)
          obtain ⟨-, -, t2, -⟩ := HS.out W4.drew hbw
          have hbf := HBF4.out.trans (hBd.mono HBF4.out.size)
          have hff : ∀ j, W4.drew.cell? ⟨wr.heap.size, j, none⟩ = _ := fun j => (hbf.cell (p := ⟨wr.heap.size, j, none⟩) HZF.out).trans (HF5.out j)
          have hbwr : Below wr.heap.size wr W4.drew := HWF.out.trans (hbf.mono HWF.out.size)
          obtain ⟨u0, u1, u2⟩ := HST.out
          have hO5 := own_below HO4.out hBd
          obtain ⟨q9, c9, e9, hcv⟩ := own_conv hO5 rfl
          injection e9 with e1 _ e3
          subst e1 e3
          have hy2 := HY2.out.of_below hbwr
          exact ⟨by rw [HBP.out] at t2; exact t2, hff 1, hff 2, hff 3, hff 4, (hBd.cell (p := ⟨w3.heap.size, 0, none⟩) HZ4.out).trans u0, (hBd.cell (p := ⟨w3.heap.size, 1, none⟩) HZ4.out).trans u1, (hBd.cell (p := ⟨w3.heap.size, 2, none⟩) HZ4.out).trans u2, (hbwr.cell (p := ⟨ba, bo + f.body, none⟩) HBW.out).trans HY1.out, hcv, conv8 _ _ _ _ _ hy2.at_ rfl hy2.nil⟩
        have hns := neqStamp
        go_region_held3 (fun u : World => u.cell? ⟨w.heap.size, 2, none⟩ = some (.slice (some ⟨ba, bo, none⟩) h.bn h.bc) ∧ u.cell? ⟨wr.heap.size, 1, none⟩ = some (.int .i64 (f.body : Int)) ∧ u.cell? ⟨wr.heap.size, 2, none⟩ = some (.int .i64 f.size) ∧ u.cell? ⟨wr.heap.size, 3, none⟩ = some (.int .i64 f.time) ∧ u.cell? ⟨wr.heap.size, 4, none⟩ = some (.int .i64 f.chg) ∧ u.cell? ⟨w3.heap.size, 0, none⟩ = some (.int .i64 f.size) ∧ u.cell? ⟨w3.heap.size, 1, none⟩ = some (.int .i64 f.time) ∧ u.cell? ⟨w3.heap.size, 2, none⟩ = some (.int .i64 f.chg) ∧ u.cell? ⟨ba, bo + f.body, none⟩ = some (.slice bq bd.length bc) ∧ (convert 32 9 (.slice q1 bd.length c1)).run Tryz.prog u = .ok (.string (mkS bd)) u ∧ (convert 32 9 (.slice bq bd.length bc)).run Tryz.prog u = .ok (.string (mkS bd)) u) (first | with_reducible exact hS0) (fail)
        all_goals
          clear hS0 hns
          clear hp0 hw64 hwm hgq hkb hkb2 hpos hpos2 x0
          have hwm2 := HWM2.out
          go_wp2
          clear hwm2
          go_roundw
          case rel => exact ⟨(k2 + 1) + 1, by omega, by go_num, HB4w.out.drew⟩
          case measure => simp [intOf]; omega
    · have z1 : ¬ (k : Int) < (h.sn : Int) := by omega
      have z2 : decide ((k : Int) < (h.sn : Int)) = false := decide_eq_false z1
      clear hB
      go_wp2
      go_ret
      exact ⟨rfl, HB0.out.trans ((HB1.out.trans (HB.out.mono HB1.out.size)).mono HB0.out.size)⟩
end Go.Proofs.YtjglgohchhdkkaaGreatDoor
/- Do: a file is written. -/
namespace Go.Proofs.YtjglgohchhdkkaaGreatDoor
open Go Go.RowKit

set_option maxRecDepth 100000 in
set_option maxHeartbeats 8000000 in
theorem do_0 {w : World} {S G : Nat → Prop} {b : Nat} {m : Dk} {h : Hd} {x : Ac × AcH} (hi : DoIn w S G b m h x) (h7 : x.1.kind % 7 = 0) :
    Calls Tryz.prog 8 #[.pointer (some ⟨b, 0, none⟩), aggD m h, actV x] w fun e w' => DoPost S G b w (stepL m x.1) e w' := by
  obtain ⟨hst, hB0⟩ := bx3_start w m h x
  obtain ⟨W, hW⟩ : ∃ W, (((w.alloc (boxD m h)).alloc (boxAct x)).alloc (.cells zerD.toArray 31)) = W := ⟨_, rfl⟩
  have HE := Lib.hid (show (((w.alloc (.cells #[.int .i64 m.room, .int .i64 m.count, .slice h.bp h.bn h.bc, .slice h.sp h.sn h.sc, .slice h.fp h.fn h.fc, .slice h.wp h.wn h.wc] 31)).alloc (.cells #[.int .u8 (x.1.kind : Int), .string (mkS x.1.path), .string (mkS x.1.to_), .slice x.2.bq x.1.b.length x.2.bc, .int .i64 x.1.n, .slice x.2.kp x.1.ks.length x.2.kc] 35)).alloc (.cells #[.int .i64 0, .int .i64 0, .slice none 0 0, .slice none 0 0, .slice none 0 0, .slice none 0 0] 31)) = W from hW)
  rw [hW] at hst hB0
  have HI := Lib.hid hi
  have HST := Lib.hid hst
  have HB0 := Lib.hid hB0
  have hst7 : stepL m x.1 = (writeL m x.1.path x.1.b x.1.n).1 := by unfold stepL; rw [h7]; rfl
  have HS7 := Lib.hid hst7
  have d0 : W.cell? ⟨w.heap.size, 0, none⟩ = some (.int .i64 m.room) := hst.dsk 0
  have d1 : W.cell? ⟨w.heap.size, 1, none⟩ = some (.int .i64 m.count) := hst.dsk 1
  have d2 : W.cell? ⟨w.heap.size, 2, none⟩ = some (.slice h.bp h.bn h.bc) := hst.dsk 2
  have d3 : W.cell? ⟨w.heap.size, 3, none⟩ = some (.slice h.sp h.sn h.sc) := hst.dsk 3
  have d4 : W.cell? ⟨w.heap.size, 4, none⟩ = some (.slice h.fp h.fn h.fc) := hst.dsk 4
  have d5 : W.cell? ⟨w.heap.size, 5, none⟩ = some (.slice h.wp h.wn h.wc) := hst.dsk 5
  have a0 : W.cell? ⟨w.heap.size + 1, 0, none⟩ = some (.int .u8 (x.1.kind : Int)) := hst.act 0
  have a1 : W.cell? ⟨w.heap.size + 1, 1, none⟩ = some (.string (mkS x.1.path)) := hst.act 1
  have a2 : W.cell? ⟨w.heap.size + 1, 2, none⟩ = some (.string (mkS x.1.to_)) := hst.act 2
  have a3 : W.cell? ⟨w.heap.size + 1, 3, none⟩ = some (.slice x.2.bq x.1.b.length x.2.bc) := hst.act 3
  have a4 : W.cell? ⟨w.heap.size + 1, 4, none⟩ = some (.int .i64 x.1.n) := hst.act 4
  have a5 : W.cell? ⟨w.heap.size + 1, 5, none⟩ = some (.slice x.2.kp x.1.ks.length x.2.kc) := hst.act 5
  have q7 : ((x.1.kind : Int).tmod 7) = 0 := by have := hi.kind; rw [Int.tmod_eq_emod_of_nonneg (by omega)]; omega
  clear hst hB0 hW hi h7 hst7
  obtain ⟨m2, hm2⟩ : ∃ m2, (writeL m x.1.path x.1.b x.1.n).1 = m2 := ⟨_, rfl⟩
  obtain ⟨cd, hcd⟩ : ∃ cd, (writeL m x.1.path x.1.b x.1.n).2 = cd := ⟨_, rfl⟩
  obtain ⟨bl, hbl⟩ : ∃ bl, x.1.b.length = bl := ⟨_, rfl⟩
  have HBL := Lib.hid hbl
  have HRF : Hid (∀ V g, Below W.heap.size W V → w.heap.size ≤ g → g < V.heap.size → Calls Tryz.prog 15 #[aggD m h, .string (mkS x.1.path), .slice x.2.bq bl x.2.bc, .int .i64 x.1.n] V fun e w' => ∃ h', e = .returned (.tuple #[aggD m2 h', .int .i64 (cd : Int)]) ∧ RfG (G1 G S w.heap.size g) w' m2 h' ∧ Below V.heap.size V w') := Lib.hid (fun V g hBV hg0 hg1 => by
    have hBw := HB0.out.trans (hBV.mono HB0.out.size)
    have hr := HI.out.into hBw hg0
    have hsn := hr.sn
    have hwn := hr.wn
    have hbn := hr.bodies.len
    have o1 := HI.out.ok.seen
    have o2 := HI.out.ok.both
    have o3 := HI.out.ok.bod
    have o4 := HI.out.path
    have o5 := HI.out.byt
    have o6 := HI.out.room0
    have o7 := HI.out.room1
    have o8 := HI.out.ok.cnt0
    have o9 := HI.out.ok.cnt1
    rw [← hm2, ← hcd, ← hbl]
    exact refWrite_any _ m h x.1.path x.1.b x.2.bq x.2.bc x.1.n (by omega) (by omega) HI.out.ok.shS (by omega) (by omega) (by omega) HI.out.ok.inB HI.out.ok.shortB (by omega) (by omega) o8 (by omega) V (HI.out.g1 (Nat.le_trans HST.out.size hBV.size) hg1) ((HI.out.lb.wider (fun _ _ _ => trivial)).of_below hBw) hr)
  have HPR : Hid (∀ V q c, Below w.heap.size w V → LsG (fun k => ¬ S k) V q bl c 1 (bytC x.1.b) → Calls Tryz.prog 13 #[.pointer (some ⟨b, 0, none⟩), .string (mkS x.1.path), .slice q bl c, .int .i64 x.1.n] V fun e w' => e = .returned (.int .i64 (cd : Int)) ∧ Nxt S b V m2 w') := Lib.hid (fun V q c hV hl => by
    have hd := HI.out.disk.of_below hV
    have o4 := HI.out.path
    have o5 := HI.out.byt
    rw [← hm2, ← hcd, ← hbl]
    rw [← hbl] at hl
    exact dwrite_any hd (HI.out.ok.mono (by decide)) HI.out.few HI.out.room0 HI.out.room1 x.1.path x.1.b q c x.1.n (by omega) (by omega) hl)
  rw [hm2] at HS7
  have hWs : W.heap.size = w.heap.size + 1 + 1 + 1 := by rw [← HE.out]; simp
  have HWS := Lib.hid hWs
  have HLB := Lib.hid (HI.out.lb.of_below HB0.out)
  have hbb : bl ≤ 300000 := by rw [← hbl]; exact HI.out.byt
  have HOX : Hid (((((w.alloc (.cells #[.int .i64 m.room, .int .i64 m.count, .slice h.bp h.bn h.bc, .slice h.sp h.sn h.sc, .slice h.fp h.fn h.fc, .slice h.wp h.wn h.wc] 31)).alloc (.cells #[.int .u8 (x.1.kind : Int), .string (mkS x.1.path), .string (mkS x.1.to_), .slice x.2.bq x.1.b.length x.2.bc, .int .i64 x.1.n, .slice x.2.kp x.1.ks.length x.2.kc] 35)).alloc (.cells #[.int .i64 0, .int .i64 0, .slice none 0 0, .slice none 0 0, .slice none 0 0, .slice none 0 0] 31)).alloc (.cells #[] 5)).ownsRow W.heap.size 5 1 (.slice (some ⟨w.heap.size + 1 + 1 + 1, 0, none⟩) 0 0) 0 []) := Lib.hid (by
    have h0 := own_empty (E := 5) (k := 1) W W.heap.size (Nat.le_refl _)
    have e : (Value.slice (some ⟨W.heap.size, 0, none⟩) 0 0) = .slice (some ⟨w.heap.size + 1 + 1 + 1, 0, none⟩) 0 0 := by rw [HWS.out]
    rw [e] at h0
    rw [HE.out]
    exact h0)
  have HBX : Hid (Below W.heap.size W ((((w.alloc (.cells #[.int .i64 m.room, .int .i64 m.count, .slice h.bp h.bn h.bc, .slice h.sp h.sn h.sc, .slice h.fp h.fn h.fc, .slice h.wp h.wn h.wc] 31)).alloc (.cells #[.int .u8 (x.1.kind : Int), .string (mkS x.1.path), .string (mkS x.1.to_), .slice x.2.bq x.1.b.length x.2.bc, .int .i64 x.1.n, .slice x.2.kp x.1.ks.length x.2.kc] 35)).alloc (.cells #[.int .i64 0, .int .i64 0, .slice none 0 0, .slice none 0 0, .slice none 0 0, .slice none 0 0] 31)).alloc (.cells #[] 5))) := Lib.hid (by rw [HE.out]; exact (Below.refl _ _).alloc (Nat.le_refl _) _)
  have HLX : Hid (LsC ((((w.alloc (.cells #[.int .i64 m.room, .int .i64 m.count, .slice h.bp h.bn h.bc, .slice h.sp h.sn h.sc, .slice h.fp h.fn h.fc, .slice h.wp h.wn h.wc] 31)).alloc (.cells #[.int .u8 (x.1.kind : Int), .string (mkS x.1.path), .string (mkS x.1.to_), .slice x.2.bq x.1.b.length x.2.bc, .int .i64 x.1.n, .slice x.2.kp x.1.ks.length x.2.kc] 35)).alloc (.cells #[.int .i64 0, .int .i64 0, .slice none 0 0, .slice none 0 0, .slice none 0 0, .slice none 0 0] 31)).alloc (.cells #[] 5)) x.2.bq (bytC x.1.b)) := Lib.hid (HLB.out.at_.of_below HBX.out)
  have HNL := Lib.hid (show (bytC x.1.b).length = bl * 1 by rw [bytC_len, hbl, Nat.mul_one])
  have HNP : Hid (x.2.bq = none → x.2.bc = 0 ∧ bl = 0) := Lib.hid (fun e => by have := HI.out.lb.nilp (by decide) e; rw [hbl] at this; exact this)
  have HXS : Hid (W.heap.size ≤ ((((w.alloc (.cells #[.int .i64 m.room, .int .i64 m.count, .slice h.bp h.bn h.bc, .slice h.sp h.sn h.sc, .slice h.fp h.fn h.fc, .slice h.wp h.wn h.wc] 31)).alloc (.cells #[.int .u8 (x.1.kind : Int), .string (mkS x.1.path), .string (mkS x.1.to_), .slice x.2.bq x.1.b.length x.2.bc, .int .i64 x.1.n, .slice x.2.kp x.1.ks.length x.2.kc] 35)).alloc (.cells #[.int .i64 0, .int .i64 0, .slice none 0 0, .slice none 0 0, .slice none 0 0, .slice none 0 0] 31)).alloc (.cells #[] 5)).heap.size) := Lib.hid HBX.out.size
  rw [hbl] at a3 HE HOX HBX HLX HXS
  unfold actV
  rw [hbl]
  clear hm2 hcd hWs hbl
  unfold aggD at HRF
  unfold aggD
  clear d0 d1 d2 d3 d4 d5 a0 a1 a2 a3 a4 a5
  go_enter Tryz.func8, Tryz.ntmps8
  go_wp2_with (first
    | (refine wpl_appendK (v := .slice (some ⟨w.heap.size + 1 + 1 + 1, 0, none⟩) 0 0) (n := 0) elB _ rfl (.tmp 71) (.tmp 73) rfl W.heap.size rfl HOX.out x.2.bq bl x.2.bc (bytC x.1.b) HNL.out rfl HLX.out HNP.out (bytC_one _) (by omega) HXS.out ?_
       rintro v1 w1 hO1 hg1 _
       rw [Nat.zero_add, List.nil_append] at hO1
       obtain ⟨q1, c1, hv1⟩ := own_slice hO1
       subst hv1
       have HO1 := Lib.hid hO1
       have HB1 : Hid (Below W.heap.size W w1) := Lib.hid (HBX.out.grown hg1 HXS.out (fun k hk => by have : w.heap.size + 1 + 1 + 1 = k := (by simpa [Value.ownBlock] using hk); have := HWS.out; omega))
       have hst1 := HST.out.next HB1.out
       have d0 : w1.cell? ⟨w.heap.size, 0, none⟩ = some (.int .i64 m.room) := hst1.dsk 0
       have d1 : w1.cell? ⟨w.heap.size, 1, none⟩ = some (.int .i64 m.count) := hst1.dsk 1
       have d2 : w1.cell? ⟨w.heap.size, 2, none⟩ = some (.slice h.bp h.bn h.bc) := hst1.dsk 2
       have d3 : w1.cell? ⟨w.heap.size, 3, none⟩ = some (.slice h.sp h.sn h.sc) := hst1.dsk 3
       have d4 : w1.cell? ⟨w.heap.size, 4, none⟩ = some (.slice h.fp h.fn h.fc) := hst1.dsk 4
       have d5 : w1.cell? ⟨w.heap.size, 5, none⟩ = some (.slice h.wp h.wn h.wc) := hst1.dsk 5
       have a0 : w1.cell? ⟨w.heap.size + 1, 0, none⟩ = some (.int .u8 (x.1.kind : Int)) := hst1.act 0
       have a1 : w1.cell? ⟨w.heap.size + 1, 1, none⟩ = some (.string (mkS x.1.path)) := hst1.act 1
       have a2 : w1.cell? ⟨w.heap.size + 1, 2, none⟩ = some (.string (mkS x.1.to_)) := hst1.act 2
       have a3 : w1.cell? ⟨w.heap.size + 1, 3, none⟩ = some (.slice x.2.bq bl x.2.bc) := by rw [← HBL.out]; exact hst1.act 3
       have a4 : w1.cell? ⟨w.heap.size + 1, 4, none⟩ = some (.int .i64 x.1.n) := hst1.act 4
       have a5 : w1.cell? ⟨w.heap.size + 1, 5, none⟩ = some (.slice x.2.kp x.1.ks.length x.2.kc) := hst1.act 5
       have HST1 := Lib.hid hst1
       clear hO1 hg1 hst1)
    | fail)
  obtain ⟨g, hg0, hg1, hgq⟩ : ∃ g, w.heap.size ≤ g ∧ g < w1.heap.size ∧ (0 < bl → q1 = some ⟨g, 0, none⟩ ∧ w.heap.size + 3 ≤ g ∧ (∀ k, S k → k ≠ g)) := by
    rcases Nat.eq_zero_or_pos bl with e | e
    · exact ⟨w.heap.size, Nat.le_refl _, by have := HST1.out.size; omega, fun h => by omega⟩
    · obtain ⟨g, cap, hv, h1, h2, _⟩ := own_full8 HO1.out e
      injection hv with hv _ _
      have := HST.out.size
      exact ⟨g, by omega, h2, fun _ => ⟨hv, by omega, fun k hk => by have := HI.out.disk.low k hk; omega⟩⟩
  have HGQ := Lib.hid (And.intro hg0 (And.intro hg1 hgq))
  refine (HRF.out w1 g HB1.out hg0 hg1).mono ?_
  rintro e w2 ⟨h2, rfl, hr2, hB2⟩
  have hst2 := HST1.out.next hB2
  clear d0 d1 d2 d3 d4 d5 a0 a1 a2 a3 a4 a5 hg0 hg1 hgq
  have d0 : w2.cell? ⟨w.heap.size, 0, none⟩ = some (.int .i64 m.room) := hst2.dsk 0
  have d1 : w2.cell? ⟨w.heap.size, 1, none⟩ = some (.int .i64 m.count) := hst2.dsk 1
  have d2 : w2.cell? ⟨w.heap.size, 2, none⟩ = some (.slice h.bp h.bn h.bc) := hst2.dsk 2
  have d3 : w2.cell? ⟨w.heap.size, 3, none⟩ = some (.slice h.sp h.sn h.sc) := hst2.dsk 3
  have d4 : w2.cell? ⟨w.heap.size, 4, none⟩ = some (.slice h.fp h.fn h.fc) := hst2.dsk 4
  have d5 : w2.cell? ⟨w.heap.size, 5, none⟩ = some (.slice h.wp h.wn h.wc) := hst2.dsk 5
  have f0 := hst2.free 0
  have f1 := hst2.free 1
  have f2 := hst2.free 2
  have f3 := hst2.free 3
  have f4 := hst2.free 4
  have f5 := hst2.free 5
  have a0 : w2.cell? ⟨w.heap.size + 1, 0, none⟩ = some (.int .u8 (x.1.kind : Int)) := hst2.act 0
  have a1 : w2.cell? ⟨w.heap.size + 1, 1, none⟩ = some (.string (mkS x.1.path)) := hst2.act 1
  have a2 : w2.cell? ⟨w.heap.size + 1, 2, none⟩ = some (.string (mkS x.1.to_)) := hst2.act 2
  have a3 : w2.cell? ⟨w.heap.size + 1, 3, none⟩ = some (.slice x.2.bq bl x.2.bc) := by rw [← HBL.out]; exact hst2.act 3
  have a4 : w2.cell? ⟨w.heap.size + 1, 4, none⟩ = some (.int .i64 x.1.n) := hst2.act 4
  have a5 : w2.cell? ⟨w.heap.size + 1, 5, none⟩ = some (.slice x.2.kp x.1.ks.length x.2.kc) := hst2.act 5
  have hst3 := hst2.putD rfl (.int .i64 m2.room) (.int .i64 m2.count) (.slice h2.bp h2.bn h2.bc) (.slice h2.sp h2.sn h2.sc) (.slice h2.fp h2.fn h2.fc) (.slice h2.wp h2.wn h2.wc)
  have HB01 : Hid (Below w.heap.size w w1) := Lib.hid (HB0.out.trans (HB1.out.mono HB0.out.size))
  have HBV : Hid (Below w.heap.size w (put6 w2 w.heap.size (.int .i64 m2.room) (.int .i64 m2.count) (.slice h2.bp h2.bn h2.bc) (.slice h2.sp h2.sn h2.sc) (.slice h2.fp h2.fn h2.fc) (.slice h2.wp h2.wn h2.wc))) := Lib.hid (put6_below _ _ _ _ _ _ (HB01.out.trans (hB2.mono HB01.out.size)) (Nat.le_refl _))
  have hz2 := hst2.size
  have HND := Lib.hid (fun (w4 w5 : World) (hn : Nxt S b (put6 w2 w.heap.size (.int .i64 m2.room) (.int .i64 m2.count) (.slice h2.bp h2.bn h2.bc) (.slice h2.sp h2.sn h2.sc) (.slice h2.fp h2.fn h2.fc) (.slice h2.wp h2.wn h2.wc)) m2 w4) (hk : Kp g w4 w5) => do_end (g := g) HI.out.disk.low HB01.out HST1.out.size hB2 hr2 (.int .i64 m2.room) (.int .i64 m2.count) (.slice h2.bp h2.bn h2.bc) (.slice h2.sp h2.sn h2.sc) (.slice h2.fp h2.fn h2.fc) (.slice h2.wp h2.wn h2.wc) hn HGQ.out.1 (Nat.lt_of_lt_of_le HGQ.out.2.1 hB2.size) hk (.int .i64 m2.room) (.int .i64 m2.count) (.slice h2.bp h2.bn h2.bc) (.slice h2.sp h2.sn h2.sc) (.slice h2.fp h2.fn h2.fc) (.slice h2.wp h2.wn h2.wc))
  have HS2 := Lib.hid hst2.size
  have hO2 := own_below HO1.out hB2
  have HBP : Hid (Kq8 (fun k => k = w.heap.size) w2 (put6 w2 w.heap.size (.int .i64 m2.room) (.int .i64 m2.count) (.slice h2.bp h2.bn h2.bc) (.slice h2.sp h2.sn h2.sc) (.slice h2.fp h2.fn h2.fc) (.slice h2.wp h2.wn h2.wc))) := Lib.hid (kq_put _ _ _ _ _ _ _ _ rfl)
  obtain ⟨V, hV⟩ : ∃ V, put6 w2 w.heap.size (.int .i64 m2.room) (.int .i64 m2.count) (.slice h2.bp h2.bn h2.bc) (.slice h2.sp h2.sn h2.sc) (.slice h2.fp h2.fn h2.fc) (.slice h2.wp h2.wn h2.wc) = V := ⟨_, rfl⟩
  have HEV := Lib.hid (show ((((((w2.setCell ⟨w.heap.size, 0, none⟩ (.int .i64 m2.room)).setCell ⟨w.heap.size, 1, none⟩ (.int .i64 m2.count)).setCell ⟨w.heap.size, 2, none⟩ (.slice h2.bp h2.bn h2.bc)).setCell ⟨w.heap.size, 3, none⟩ (.slice h2.sp h2.sn h2.sc)).setCell ⟨w.heap.size, 4, none⟩ (.slice h2.fp h2.fn h2.fc)).setCell ⟨w.heap.size, 5, none⟩ (.slice h2.wp h2.wn h2.wc)) = V from hV)
  have HVS : Hid (V.heap.size = w2.heap.size) := Lib.hid (by rw [← hV, put6_sz])
  rw [hV] at hst3 HBV HND HBP
  have hO3 : V.ownsRow W.heap.size 5 1 (.slice q1 bl c1) bl (bytC x.1.b) := own_kq hO2 HBP.out (fun k hk => by have := HST.out.size; omega)
  have HO3 := Lib.hid hO3
  have HLV : Hid (LsG (fun k => ¬ S k) V q1 bl c1 1 (bytC x.1.b)) := Lib.hid (by
    obtain ⟨p, cap, e, hl⟩ := LsG.own (G := fun k => ¬ S k) hO3 (fun c hc hS => by have := HI.out.disk.low c hS; have := HB0.out.size; omega)
    injection e with e1 _ e3
    rw [e1, e3]
    exact hl)
  have HST3 := Lib.hid hst3
  have g0 : V.cell? ⟨w.heap.size + 1, 0, none⟩ = some (.int .u8 (x.1.kind : Int)) := hst3.act 0
  have g1 : V.cell? ⟨w.heap.size + 1, 1, none⟩ = some (.string (mkS x.1.path)) := hst3.act 1
  have g2 : V.cell? ⟨w.heap.size + 1, 2, none⟩ = some (.string (mkS x.1.to_)) := hst3.act 2
  have g3 : V.cell? ⟨w.heap.size + 1, 3, none⟩ = some (.slice x.2.bq bl x.2.bc) := by rw [← HBL.out]; exact hst3.act 3
  have g4 : V.cell? ⟨w.heap.size + 1, 4, none⟩ = some (.int .i64 x.1.n) := hst3.act 4
  have g5 : V.cell? ⟨w.heap.size + 1, 5, none⟩ = some (.slice x.2.kp x.1.ks.length x.2.kc) := hst3.act 5
  clear hst2 hst3 hr2 hB2 hV hz2 hO2 hO3
  go_wp2_with fail
  rw [HEV.out]
  refine (HPR.out V q1 c1 HBV.out HLV.out).mono ?_
  rintro e w4 ⟨rfl, hn⟩
  have hst4 := HST3.out.kq hn.2 (fun k hk => .inl (HI.out.disk.low k hk))
  have hO4 := own_kq HO3.out hn.2 (fun k hk => Nat.lt_of_lt_of_le (HI.out.disk.low k hk) HB0.out.size)
  have HST4 := Lib.hid hst4
  have HO4 := Lib.hid hO4
  have HN := Lib.hid hn
  clear d0 d1 d2 d3 d4 d5 a0 a1 a2 a3 a4 a5 f0 f1 f2 f3 f4 f5 g0 g1 g2 g3 g4 g5 hst4 hO4 hn
  go_wp2
  go_loopw [95] (fun i wr => ∃ k : Nat, k ≤ bl ∧ i = .int .i64 k ∧ ∃ bs : S8, bs.length = bl ∧ wr.ownsRow W.heap.size 5 1 (.slice q1 bl c1) bl (bytC bs) ∧ Kp g w4 wr ∧ Bx3 w.heap.size (lisD m2 h2) (encA x) zerD wr) (fun i _ => bl - (intOf i).toNat)
  case atStart => exact ⟨0, Nat.zero_le _, rfl, x.1.b, HBL.out, HO4.out, Kp.refl _ _, HST4.out⟩
  case round =>
    obtain ⟨k, hk, rfl, bs, hbs, hO, hKp, hst⟩ := hrel
    have HKP := Lib.hid hKp
    have HSTR := Lib.hid hst
    by_cases hlt : k < bl
    · obtain ⟨hq1, hg3, hgS⟩ := HGQ.out.2.2 (by omega)
      obtain ⟨g9, cap9, hv9, _, hgl, hnc, hcs, hfr⟩ := own_full8 hO (by omega)
      rw [hq1] at hv9
      injection hv9 with e1 e2 e3
      injection e1 with e1
      injection e1 with e1 _
      subst e1 e3
      have x1 := hcs k (by rw [bytC_len]; omega)
      rw [bytC_get bs k (by omega)] at x1
      have hch : (chr bs k : Int) = ((bs.getD k 0).toNat : Int) := by unfold chr; rfl
      rw [hch] at x1
      have x2 := hfr k
      obtain ⟨yy, hyy⟩ : ∃ y, bs.getD k 0 = y := ⟨_, rfl⟩
      rw [hyy] at x1
      have hbits := xor_bits yy 255
      obtain ⟨rr, hrr⟩ : ∃ r, yy ^^^ 255 = r := ⟨_, rfl⟩
      rw [hrr] at hbits
      have hbits2 : bits .xor .u8 (yy.toNat : Int) 255 = (rr.toNat : Int) := hbits
      rw [hq1] at hO
      have hO5 := (hO.stored k (.int .u8 (rr.toNat : Int))).1
      have e5 : (bytC bs).set k (.int .u8 (rr.toNat : Int)) = bytC (bs.set k rr) := by unfold bytC; rw [List.map_set]
      rw [e5] at hO5
      have HO5 := Lib.hid hO5
      have HBS := Lib.hid (show (bs.set k rr).length = bl by rw [List.length_set]; exact hbs)
      have HK5 := Lib.hid (hKp.setCell k (.int .u8 (rr.toNat : Int)))
      have HS5 : Hid (Bx3 w.heap.size (lisD m2 h2) (encA x) zerD (wr.setCell ⟨g, k, none⟩ (.int .u8 (rr.toNat : Int)))) := Lib.hid (hst.keep (fun i _ hi => Below.heap_setCell _ _ _ _ (by show i ≠ g; omega)) (by simp))
      have hd0 : decide ((k : Int) < (bl : Int)) = true := decide_eq_true (by omega)
      have hl0 : (k : Int) < (bl : Int) := by omega
      have HGG := Lib.hid hg3
      rw [hq1]
      clear hO hKp hst hbits hrr hyy hch hcs hfr hO5 e5 hgS hbs hnc hgl
      go_wp2
      go_roundw
      case rel => exact ⟨k + 1, by omega, by go_num, _, HBS.out, HO5.out, HK5.out, HS5.out⟩
      case measure => simp [intOf]; omega
    · have hd0 : decide ((k : Int) < (bl : Int)) = false := decide_eq_false (by omega)
      have HFIN := Lib.hid (HND.out w4 wr HN.out hKp)
      have HC6 := Lib.hid (put6_cell (.int .i64 m2.room) (.int .i64 m2.count) (.slice h2.bp h2.bn h2.bc) (.slice h2.sp h2.sn h2.sc) (.slice h2.fp h2.fn h2.fc) (.slice h2.wp h2.wn h2.wc) hst.res)
      have d0 : wr.cell? ⟨w.heap.size, 0, none⟩ = some (.int .i64 m2.room) := hst.dsk 0
      have d1 : wr.cell? ⟨w.heap.size, 1, none⟩ = some (.int .i64 m2.count) := hst.dsk 1
      have d2 : wr.cell? ⟨w.heap.size, 2, none⟩ = some (.slice h2.bp h2.bn h2.bc) := hst.dsk 2
      have d3 : wr.cell? ⟨w.heap.size, 3, none⟩ = some (.slice h2.sp h2.sn h2.sc) := hst.dsk 3
      have d4 : wr.cell? ⟨w.heap.size, 4, none⟩ = some (.slice h2.fp h2.fn h2.fc) := hst.dsk 4
      have d5 : wr.cell? ⟨w.heap.size, 5, none⟩ = some (.slice h2.wp h2.wn h2.wc) := hst.dsk 5
      have r0 : wr.cell? ⟨w.heap.size + 1 + 1, 0, none⟩ = some (.int .i64 0) := hst.res 0
      have r1 : wr.cell? ⟨w.heap.size + 1 + 1, 1, none⟩ = some (.int .i64 0) := hst.res 1
      have r2 : wr.cell? ⟨w.heap.size + 1 + 1, 2, none⟩ = some (.slice none 0 0) := hst.res 2
      have r3 : wr.cell? ⟨w.heap.size + 1 + 1, 3, none⟩ = some (.slice none 0 0) := hst.res 3
      have r4 : wr.cell? ⟨w.heap.size + 1 + 1, 4, none⟩ = some (.slice none 0 0) := hst.res 4
      have r5 : wr.cell? ⟨w.heap.size + 1 + 1, 5, none⟩ = some (.slice none 0 0) := hst.res 5
      have z0 := hst.rfree 0
      have z1 := hst.rfree 1
      have z2 := hst.rfree 2
      have z3 := hst.rfree 3
      have z4 := hst.rfree 4
      have z5 := hst.rfree 5
      clear hst hKp hO
      go_wp2
      refine bodyPost_ret (v := .tuple #[aggD m2 h2, .bool true]) ?_ rfl ?_
      · have e := HC6.out
        unfold put6 at e
        obtain ⟨e0, e1, e2, e3, e4, e5⟩ := e
        simp [results, Tryz.f8, go_sem, e0, e1, e2, e3, e4, e5, aggD]
      · rw [HS7.out]
        exact HFIN.out
end Go.Proofs.YtjglgohchhdkkaaGreatDoor
/- Do: a file is renamed. -/
namespace Go.Proofs.YtjglgohchhdkkaaGreatDoor
open Go Go.RowKit

set_option maxRecDepth 100000 in
set_option maxHeartbeats 8000000 in
theorem do_1 {w : World} {S G : Nat → Prop} {b : Nat} {m : Dk} {h : Hd} {x : Ac × AcH} (hi : DoIn w S G b m h x) (h7 : x.1.kind % 7 = 1) :
    Calls Tryz.prog 8 #[.pointer (some ⟨b, 0, none⟩), aggD m h, actV x] w fun e w' => DoPost S G b w (stepL m x.1) e w' := by
  obtain ⟨hst, hB0⟩ := bx3_start w m h x
  obtain ⟨W, hW⟩ : ∃ W, (((w.alloc (boxD m h)).alloc (boxAct x)).alloc (.cells zerD.toArray 31)) = W := ⟨_, rfl⟩
  have HE := Lib.hid (show (((w.alloc (.cells #[.int .i64 m.room, .int .i64 m.count, .slice h.bp h.bn h.bc, .slice h.sp h.sn h.sc, .slice h.fp h.fn h.fc, .slice h.wp h.wn h.wc] 31)).alloc (.cells #[.int .u8 (x.1.kind : Int), .string (mkS x.1.path), .string (mkS x.1.to_), .slice x.2.bq x.1.b.length x.2.bc, .int .i64 x.1.n, .slice x.2.kp x.1.ks.length x.2.kc] 35)).alloc (.cells #[.int .i64 0, .int .i64 0, .slice none 0 0, .slice none 0 0, .slice none 0 0, .slice none 0 0] 31)) = W from hW)
  rw [hW] at hst hB0
  have HI := Lib.hid hi
  have HST := Lib.hid hst
  have HB0 := Lib.hid hB0
  have hst7 : stepL m x.1 = (renameL m x.1.path x.1.to_).1 := by unfold stepL; rw [h7]; rfl
  have HS7 := Lib.hid hst7
  have d0 : W.cell? ⟨w.heap.size, 0, none⟩ = some (.int .i64 m.room) := hst.dsk 0
  have d1 : W.cell? ⟨w.heap.size, 1, none⟩ = some (.int .i64 m.count) := hst.dsk 1
  have d2 : W.cell? ⟨w.heap.size, 2, none⟩ = some (.slice h.bp h.bn h.bc) := hst.dsk 2
  have d3 : W.cell? ⟨w.heap.size, 3, none⟩ = some (.slice h.sp h.sn h.sc) := hst.dsk 3
  have d4 : W.cell? ⟨w.heap.size, 4, none⟩ = some (.slice h.fp h.fn h.fc) := hst.dsk 4
  have d5 : W.cell? ⟨w.heap.size, 5, none⟩ = some (.slice h.wp h.wn h.wc) := hst.dsk 5
  have a0 : W.cell? ⟨w.heap.size + 1, 0, none⟩ = some (.int .u8 (x.1.kind : Int)) := hst.act 0
  have a1 : W.cell? ⟨w.heap.size + 1, 1, none⟩ = some (.string (mkS x.1.path)) := hst.act 1
  have a2 : W.cell? ⟨w.heap.size + 1, 2, none⟩ = some (.string (mkS x.1.to_)) := hst.act 2
  have a3 : W.cell? ⟨w.heap.size + 1, 3, none⟩ = some (.slice x.2.bq x.1.b.length x.2.bc) := hst.act 3
  have a4 : W.cell? ⟨w.heap.size + 1, 4, none⟩ = some (.int .i64 x.1.n) := hst.act 4
  have a5 : W.cell? ⟨w.heap.size + 1, 5, none⟩ = some (.slice x.2.kp x.1.ks.length x.2.kc) := hst.act 5
  have q7 : ((x.1.kind : Int).tmod 7) = 1 := by have := hi.kind; rw [Int.tmod_eq_emod_of_nonneg (by omega)]; omega
  clear hst hB0 hW hi h7 hst7
  obtain ⟨m2, hm2⟩ : ∃ m2, (renameL m x.1.path x.1.to_).1 = m2 := ⟨_, rfl⟩
  obtain ⟨cd, hcd⟩ : ∃ cd, (renameL m x.1.path x.1.to_).2 = cd := ⟨_, rfl⟩
  have HRF : Hid (Calls Tryz.prog 16 #[aggD m h, .string (mkS x.1.path), .string (mkS x.1.to_)] W fun e w' => ∃ h', e = .returned (.tuple #[aggD m2 h', .int .i64 (cd : Int)]) ∧ RfG (G1 G S w.heap.size (w.heap.size + 1 + 1)) w' m2 h' ∧ Below W.heap.size W w') := Lib.hid (by
    have hr := HI.out.into HB0.out (g := w.heap.size + 1 + 1) (by omega)
    have hsn := hr.sn
    have hwn := hr.wn
    have hfn := hr.fn
    have hbn := hr.bodies.len
    have o1 := HI.out.ok.seen
    have o2 := HI.out.ok.both
    have o3 := HI.out.ok.bod
    have o4 := HI.out.path
    have o5 := HI.out.to_
    have o6 := HI.out.kep
    rw [← hm2, ← hcd]
    exact refRename_any _ m h x.1.path x.1.to_ (by omega) (by omega) HI.out.ok.shS (by omega) (by omega) W (HI.out.g1 HST.out.size (by have := HST.out.size; omega)) hr)
  have HPR : Hid (∀ V, Below w.heap.size w V → Calls Tryz.prog 17 #[.pointer (some ⟨b, 0, none⟩), .string (mkS x.1.path), .string (mkS x.1.to_)] V fun e w' => e = .returned (.int .i64 (cd : Int)) ∧ Nxt S b V m2 w') := Lib.hid (fun V hV => by
    have hd := HI.out.disk.of_below hV
    have o4 := HI.out.path
    have o5 := HI.out.to_
    have o6 := HI.out.kep
    rw [← hm2, ← hcd]
    exact drename_any hd (HI.out.ok.mono (by decide)) x.1.path x.1.to_ (by omega) (by omega))
  rw [hm2] at HS7
  clear hm2 hcd
  unfold aggD at HRF
  unfold aggD actV
  go_enter Tryz.func8, Tryz.ntmps8
  go_wp2_with fail
  rw [HE.out]
  refine HRF.out.mono ?_
  rintro e w2 ⟨h2, rfl, hr2, hB2⟩
  have hst2 := HST.out.next hB2
  clear d0 d1 d2 d3 d4 d5 a0 a1 a2 a3 a4 a5
  have d0 : w2.cell? ⟨w.heap.size, 0, none⟩ = some (.int .i64 m.room) := hst2.dsk 0
  have d1 : w2.cell? ⟨w.heap.size, 1, none⟩ = some (.int .i64 m.count) := hst2.dsk 1
  have d2 : w2.cell? ⟨w.heap.size, 2, none⟩ = some (.slice h.bp h.bn h.bc) := hst2.dsk 2
  have d3 : w2.cell? ⟨w.heap.size, 3, none⟩ = some (.slice h.sp h.sn h.sc) := hst2.dsk 3
  have d4 : w2.cell? ⟨w.heap.size, 4, none⟩ = some (.slice h.fp h.fn h.fc) := hst2.dsk 4
  have d5 : w2.cell? ⟨w.heap.size, 5, none⟩ = some (.slice h.wp h.wn h.wc) := hst2.dsk 5
  have f0 := hst2.free 0
  have f1 := hst2.free 1
  have f2 := hst2.free 2
  have f3 := hst2.free 3
  have f4 := hst2.free 4
  have f5 := hst2.free 5
  have a0 : w2.cell? ⟨w.heap.size + 1, 0, none⟩ = some (.int .u8 (x.1.kind : Int)) := hst2.act 0
  have a1 : w2.cell? ⟨w.heap.size + 1, 1, none⟩ = some (.string (mkS x.1.path)) := hst2.act 1
  have a2 : w2.cell? ⟨w.heap.size + 1, 2, none⟩ = some (.string (mkS x.1.to_)) := hst2.act 2
  have a3 : w2.cell? ⟨w.heap.size + 1, 3, none⟩ = some (.slice x.2.bq x.1.b.length x.2.bc) := hst2.act 3
  have a4 : w2.cell? ⟨w.heap.size + 1, 4, none⟩ = some (.int .i64 x.1.n) := hst2.act 4
  have a5 : w2.cell? ⟨w.heap.size + 1, 5, none⟩ = some (.slice x.2.kp x.1.ks.length x.2.kc) := hst2.act 5
  have hst3 := hst2.putD rfl (.int .i64 m2.room) (.int .i64 m2.count) (.slice h2.bp h2.bn h2.bc) (.slice h2.sp h2.sn h2.sc) (.slice h2.fp h2.fn h2.fc) (.slice h2.wp h2.wn h2.wc)
  have HBV : Hid (Below w.heap.size w (put6 w2 w.heap.size (.int .i64 m2.room) (.int .i64 m2.count) (.slice h2.bp h2.bn h2.bc) (.slice h2.sp h2.sn h2.sc) (.slice h2.fp h2.fn h2.fc) (.slice h2.wp h2.wn h2.wc))) := Lib.hid (put6_below _ _ _ _ _ _ (HB0.out.trans (hB2.mono HB0.out.size)) (Nat.le_refl _))
  have hz2 := hst2.size
  have HND := Lib.hid (fun (w4 : World) (hn : Nxt S b (put6 w2 w.heap.size (.int .i64 m2.room) (.int .i64 m2.count) (.slice h2.bp h2.bn h2.bc) (.slice h2.sp h2.sn h2.sc) (.slice h2.fp h2.fn h2.fc) (.slice h2.wp h2.wn h2.wc)) m2 w4) => do_end (g := w.heap.size + 1 + 1) HI.out.disk.low HB0.out HST.out.size hB2 hr2 (.int .i64 m2.room) (.int .i64 m2.count) (.slice h2.bp h2.bn h2.bc) (.slice h2.sp h2.sn h2.sc) (.slice h2.fp h2.fn h2.fc) (.slice h2.wp h2.wn h2.wc) hn (by omega) (by omega) (Kp.refl _ _) (.int .i64 m2.room) (.int .i64 m2.count) (.slice h2.bp h2.bn h2.bc) (.slice h2.sp h2.sn h2.sc) (.slice h2.fp h2.fn h2.fc) (.slice h2.wp h2.wn h2.wc))
  have HS2 := Lib.hid hst2.size
  obtain ⟨V, hV⟩ : ∃ V, put6 w2 w.heap.size (.int .i64 m2.room) (.int .i64 m2.count) (.slice h2.bp h2.bn h2.bc) (.slice h2.sp h2.sn h2.sc) (.slice h2.fp h2.fn h2.fc) (.slice h2.wp h2.wn h2.wc) = V := ⟨_, rfl⟩
  have HEV := Lib.hid (show ((((((w2.setCell ⟨w.heap.size, 0, none⟩ (.int .i64 m2.room)).setCell ⟨w.heap.size, 1, none⟩ (.int .i64 m2.count)).setCell ⟨w.heap.size, 2, none⟩ (.slice h2.bp h2.bn h2.bc)).setCell ⟨w.heap.size, 3, none⟩ (.slice h2.sp h2.sn h2.sc)).setCell ⟨w.heap.size, 4, none⟩ (.slice h2.fp h2.fn h2.fc)).setCell ⟨w.heap.size, 5, none⟩ (.slice h2.wp h2.wn h2.wc)) = V from hV)
  have HVS : Hid (V.heap.size = w2.heap.size) := Lib.hid (by rw [← hV, put6_sz])
  rw [hV] at hst3 HBV HND
  have HST3 := Lib.hid hst3
  have g0 : V.cell? ⟨w.heap.size + 1, 0, none⟩ = some (.int .u8 (x.1.kind : Int)) := hst3.act 0
  have g1 : V.cell? ⟨w.heap.size + 1, 1, none⟩ = some (.string (mkS x.1.path)) := hst3.act 1
  have g2 : V.cell? ⟨w.heap.size + 1, 2, none⟩ = some (.string (mkS x.1.to_)) := hst3.act 2
  have g3 : V.cell? ⟨w.heap.size + 1, 3, none⟩ = some (.slice x.2.bq x.1.b.length x.2.bc) := hst3.act 3
  have g4 : V.cell? ⟨w.heap.size + 1, 4, none⟩ = some (.int .i64 x.1.n) := hst3.act 4
  have g5 : V.cell? ⟨w.heap.size + 1, 5, none⟩ = some (.slice x.2.kp x.1.ks.length x.2.kc) := hst3.act 5
  clear hst2 hst3 hr2 hB2 hV hz2
  go_wp2_with fail
  rw [HEV.out]
  refine (HPR.out V HBV.out).mono ?_
  rintro e w4 ⟨rfl, hn⟩
  have hst4 := HST3.out.kq hn.2 (fun k hk => .inl (HI.out.disk.low k hk))
  clear d0 d1 d2 d3 d4 d5 a0 a1 a2 a3 a4 a5 f0 f1 f2 f3 f4 f5 g0 g1 g2 g3 g4 g5
  have d0 : w4.cell? ⟨w.heap.size, 0, none⟩ = some (.int .i64 m2.room) := hst4.dsk 0
  have d1 : w4.cell? ⟨w.heap.size, 1, none⟩ = some (.int .i64 m2.count) := hst4.dsk 1
  have d2 : w4.cell? ⟨w.heap.size, 2, none⟩ = some (.slice h2.bp h2.bn h2.bc) := hst4.dsk 2
  have d3 : w4.cell? ⟨w.heap.size, 3, none⟩ = some (.slice h2.sp h2.sn h2.sc) := hst4.dsk 3
  have d4 : w4.cell? ⟨w.heap.size, 4, none⟩ = some (.slice h2.fp h2.fn h2.fc) := hst4.dsk 4
  have d5 : w4.cell? ⟨w.heap.size, 5, none⟩ = some (.slice h2.wp h2.wn h2.wc) := hst4.dsk 5
  have r0 : w4.cell? ⟨w.heap.size + 1 + 1, 0, none⟩ = some (.int .i64 0) := hst4.res 0
  have r1 : w4.cell? ⟨w.heap.size + 1 + 1, 1, none⟩ = some (.int .i64 0) := hst4.res 1
  have r2 : w4.cell? ⟨w.heap.size + 1 + 1, 2, none⟩ = some (.slice none 0 0) := hst4.res 2
  have r3 : w4.cell? ⟨w.heap.size + 1 + 1, 3, none⟩ = some (.slice none 0 0) := hst4.res 3
  have r4 : w4.cell? ⟨w.heap.size + 1 + 1, 4, none⟩ = some (.slice none 0 0) := hst4.res 4
  have r5 : w4.cell? ⟨w.heap.size + 1 + 1, 5, none⟩ = some (.slice none 0 0) := hst4.res 5
  have z0 := hst4.rfree 0
  have z1 := hst4.rfree 1
  have z2 := hst4.rfree 2
  have z3 := hst4.rfree 3
  have z4 := hst4.rfree 4
  have z5 := hst4.rfree 5
  have HFIN := Lib.hid (HND.out w4 hn)
  have HC6 := Lib.hid (put6_cell (.int .i64 m2.room) (.int .i64 m2.count) (.slice h2.bp h2.bn h2.bc) (.slice h2.sp h2.sn h2.sc) (.slice h2.fp h2.fn h2.fc) (.slice h2.wp h2.wn h2.wc) hst4.res)
  clear hn hst4
  go_wp2
  refine bodyPost_ret (v := .tuple #[aggD m2 h2, .bool true]) ?_ rfl ?_
  · have e := HC6.out
    unfold put6 at e
    obtain ⟨e0, e1, e2, e3, e4, e5⟩ := e
    simp [results, Tryz.f8, go_sem, e0, e1, e2, e3, e4, e5, aggD]
  · rw [HS7.out]
    exact HFIN.out
end Go.Proofs.YtjglgohchhdkkaaGreatDoor
