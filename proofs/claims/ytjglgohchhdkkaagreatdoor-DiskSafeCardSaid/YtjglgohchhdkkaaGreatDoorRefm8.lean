/- The reference's Rot. -/
import Derived.Test.YtjglgohchhdkkaaGreatDoorRefk8
import Derived.BigRegion
set_option linter.unusedSimpArgs false
set_option linter.unusedVariables false
namespace Go.Proofs.YtjglgohchhdkkaaGreatDoor
open Go Go.RowKit

theorem xorU (t : TypeId) (a b : UInt8) : binOp .xor t (.int .u8 (a.toNat : Int)) (.int .u8 (b.toNat : Int)) = pure (.int .u8 ((a ^^^ b).toNat : Int)) := by
  have h : bits .xor .u8 (a.toNat : Int) (b.toNat : Int) = ((a ^^^ b).toNat : Int) := by
    rw [u8_xor_nat _ _ (UInt8.toNat_lt a) (UInt8.toNat_lt b), UInt8.toNat_xor]
  simp only [binOp_xor, intBits_xor, h]
theorem own_full {w : World} {E : TypeId} {k base n : Nat} {v : Value} {cs : List Value} (h : w.ownsRow base E k v n cs) (hn : 0 < n) :
    ∃ g cap, v = .slice (some ⟨g, 0, none⟩) n cap ∧ base ≤ g ∧ g < w.heap.size ∧ n ≤ cap ∧ (∀ j, j < cs.length → w.cell? ⟨g, j, none⟩ = cs[j]?) ∧ ∀ j, w.frozen? ⟨g, j, none⟩ = false := by
  obtain ⟨p, cap, e, hls, hnil, hle, hb⟩ := own_shape h
  have h0 := h
  rcases h.2 with ⟨_, hn0⟩ | ⟨g, cap2, cur, hv, hb2, hg, hle2, _, hsz, ht⟩
  · omega
  · rw [hv] at e
    injection e with e1 e2 e3
    refine ⟨g, cap2, hv, hb2, (hb g 0 e1.symm).2, hle2, fun j hj => ?_, fun j => ?_⟩
    · obtain ⟨c, o, ec, hc⟩ := hls j hj
      rw [← e1] at ec
      injection ec with ec
      injection ec with ec1 ec2
      rw [← ec1, ← ec2, Nat.zero_add] at hc
      exact hc
    · unfold World.frozen?
      simp [hg]
theorem set_cells {w : World} {g i : Nat} {cs : List Value} (v : Value) (h : ∀ j, j < cs.length → w.cell? ⟨g, j, none⟩ = cs[j]?) (hi : i < cs.length) : ∀ j, j < (cs.set i v).length → (w.setCell ⟨g, i, none⟩ v).cell? ⟨g, j, none⟩ = (cs.set i v)[j]? := by
  intro j hj
  rw [List.length_set] at hj
  by_cases e : j = i
  · subst e
    rw [World.cell?_setCell_same' _ _ _ (by rw [h j hj, List.getElem?_eq_getElem hj]; rfl), List.getElem?_set_self hj]
  · rw [World.cell?_setCell_other _ _ _ _ (by intro ee; injection ee with _ e2; exact e e2.symm), h j hj, List.getElem?_set_ne (fun ee => e ee.symm)]
theorem BsG.one {G : Nat → Prop} {w : World} {p : Option Addr} {n cap : Nat} {l : List S8} {cs : List Value} (hl : l.length = n) (h1 : LsG G w p n cap 1 cs) (h2 : ∀ i, i < l.length → ∃ q c, cs[i]? = some (.slice q (l.getD i []).length c) ∧ LsG G w q (l.getD i []).length c 1 (bytC (l.getD i []))) : ∀ u ∈ cs, u.oneCell' = true := by
  intro u hu
  obtain ⟨j, hj, rfl⟩ := List.getElem_of_mem hu
  have := h1.len
  obtain ⟨q, c, e, _⟩ := h2 j (by omega)
  rw [List.getElem?_eq_getElem hj] at e
  injection e with e
  rw [e]
  rfl
theorem bytC_flip (b : S8) (a : Nat) (mask : UInt8) : bytC (flipL b a mask) = (bytC b).set a (.int .u8 ((b.getD a 0 ^^^ mask).toNat : Int)) := by
  unfold bytC flipL
  rw [List.map_set]
/-- Headers copied, one of them replaced. -/
theorem BsG.rot {G : Nat → Prop} {w u : World} {p : Option Addr} {n cap : Nat} {l : List S8} {cs : List Value} (hl : l.length = n) (h1 : LsG G w p n cap 1 cs) (h2 : ∀ i, i < l.length → ∃ q c, cs[i]? = some (.slice q (l.getD i []).length c) ∧ LsG G w q (l.getD i []).length c 1 (bytC (l.getD i [])))
    (hB : Below w.heap.size w u) (fb a : Nat) (mask : UInt8) (hfb : fb < n) (g g2 cap1 cap2 : Nat) (hle1 : n ≤ cap1) (hle2 : (l.getD fb []).length ≤ cap2) (hg : g < u.heap.size) (hg2 : g2 < u.heap.size) (hGg : G g) (hGg2 : G g2)
    (hc1 : ∀ j, j < (cs.set fb (.slice (some ⟨g2, 0, none⟩) (l.getD fb []).length cap2)).length → u.cell? ⟨g, j, none⟩ = (cs.set fb (.slice (some ⟨g2, 0, none⟩) (l.getD fb []).length cap2))[j]?)
    (hc2 : ∀ j, j < ((bytC (l.getD fb [])).set a (.int .u8 (((l.getD fb []).getD a 0 ^^^ mask).toNat : Int))).length → u.cell? ⟨g2, j, none⟩ = ((bytC (l.getD fb [])).set a (.int .u8 (((l.getD fb []).getD a 0 ^^^ mask).toNat : Int)))[j]?) :
    BsG G u (some ⟨g, 0, none⟩) n cap1 (l.set fb (flipL (l.getD fb []) a mask)) := by
  have hcl := h1.len
  refine ⟨by rw [List.length_set]; exact hl, _, ⟨fun j hj => ⟨g, 0, rfl, by rw [Nat.zero_add]; exact hc1 j hj⟩, by rw [List.length_set]; exact h1.len, fun c o e _ => by injection e with e; injection e with e1 _; subst e1; exact ⟨hGg, hg⟩, (fun e => by cases e), hle1⟩, fun i hi => ?_⟩
  rw [List.length_set] at hi
  by_cases e : i = fb
  · subst e
    have e1 : (l.set i (flipL (l.getD i []) a mask)).getD i [] = flipL (l.getD i []) a mask := by rw [List.getD_eq_getElem?_getD, List.getElem?_set_self hi]; rfl
    rw [e1, flip_len, bytC_flip]
    refine ⟨_, cap2, List.getElem?_set_self (by omega), ⟨fun j hj => ⟨g2, 0, rfl, by rw [Nat.zero_add]; exact hc2 j hj⟩, by rw [List.length_set, bytC_len]; omega, fun c o e _ => by injection e with e; injection e with e1 _; subst e1; exact ⟨hGg2, hg2⟩, (fun e => by cases e), hle2⟩⟩
  · have e1 : (l.set fb (flipL (l.getD fb []) a mask)).getD i [] = l.getD i [] := by rw [List.getD_eq_getElem?_getD, List.getElem?_set_ne (fun x => e x.symm), ← List.getD_eq_getElem?_getD]
    rw [e1]
    obtain ⟨q, c, h3, h4⟩ := h2 i hi
    exact ⟨q, c, by rw [List.getElem?_set_ne (fun x => e x.symm)]; exact h3, h4.of_below hB⟩
attribute [local go_sem ↓] xorU
set_option maxRecDepth 100000 in
set_option maxHeartbeats 4000000 in
theorem refRot_any (G : Nat → Prop) (m : Dk) (h : Hd) (p : S8) (at_ : Int) (mask : UInt8) (hn : h.sn < 90000) (hbn : h.bn < 90000) (hin : InB m) (hsb : ShortB m) (w : World) (hG : ∀ k, w.heap.size ≤ k → G k) (r : RfG G w m h) :
    Calls Tryz.prog 21 #[aggD m h, .string (mkS p), .int .i64 at_, .int .u8 (mask.toNat : Int)] w fun e w' => DkPost G w (rotL m p at_ mask) e w' := by
  have hst := st2_start w m h
  have R2 := Lib.hid (r.into2 hst)
  have HFD := Lib.hid (refFind_any m.seen h.sp h.sn h.sc p (by omega) _ (r.into2 hst).seen.files)
  obtain ⟨W, hW⟩ : ∃ W, ((w.alloc (boxD m h)).alloc (.cells zerD.toArray 31)) = W := ⟨_, rfl⟩
  have HE := Lib.hid (show ((w.alloc (.cells #[.int .i64 m.room, .int .i64 m.count, .slice h.bp h.bn h.bc, .slice h.sp h.sn h.sc, .slice h.fp h.fn h.fc, .slice h.wp h.wn h.wc] 31)).alloc (.cells #[.int .i64 0, .int .i64 0, .slice none 0 0, .slice none 0 0, .slice none 0 0, .slice none 0 0] 31)) = W from hW)
  rw [hW] at hst R2 HFD
  have HST := Lib.hid hst
  have HG := Lib.hid hG
  have hsz : W.heap.size = w.heap.size + 1 + 1 := by rw [← hW]; simp [World.size_alloc]
  have HSZ := Lib.hid hsz
  have d0 : W.cell? ⟨w.heap.size, 0, none⟩ = some (.int .i64 m.room) := hst.dsk 0
  have d1 : W.cell? ⟨w.heap.size, 1, none⟩ = some (.int .i64 m.count) := hst.dsk 1
  have d2 : W.cell? ⟨w.heap.size, 2, none⟩ = some (.slice h.bp h.bn h.bc) := hst.dsk 2
  have d3 : W.cell? ⟨w.heap.size, 3, none⟩ = some (.slice h.sp h.sn h.sc) := hst.dsk 3
  have d4 : W.cell? ⟨w.heap.size, 4, none⟩ = some (.slice h.fp h.fn h.fc) := hst.dsk 4
  have d5 : W.cell? ⟨w.heap.size, 5, none⟩ = some (.slice h.wp h.wn h.wc) := hst.dsk 5
  clear hG r hW
  cases hf : findL m.seen p with
  | none =>
    rw [findI_none hf] at HFD
    rw [show rotL m p at_ mask = (m, 8) from by unfold rotL; rw [hf]]
    have HC6 := Lib.hid (put6_cell (.int .i64 m.room) (.int .i64 m.count) (.slice h.bp h.bn h.bc) (.slice h.sp h.sn h.sc) (.slice h.fp h.fn h.fc) (.slice h.wp h.wn h.wc) hst.res)
    have HB6 := Lib.hid (put6_below (b := w.heap.size + 1) (.int .i64 m.room) (.int .i64 m.count) (.slice h.bp h.bn h.bc) (.slice h.sp h.sn h.sc) (.slice h.fp h.fn h.fc) (.slice h.wp h.wn h.wc) hst.bel (by omega))
    have r0 : W.cell? ⟨w.heap.size + 1, 0, none⟩ = some (.int .i64 0) := hst.res 0
    have r1 : W.cell? ⟨w.heap.size + 1, 1, none⟩ = some (.int .i64 0) := hst.res 1
    have r2 : W.cell? ⟨w.heap.size + 1, 2, none⟩ = some (.slice none 0 0) := hst.res 2
    have r3 : W.cell? ⟨w.heap.size + 1, 3, none⟩ = some (.slice none 0 0) := hst.res 3
    have r4 : W.cell? ⟨w.heap.size + 1, 4, none⟩ = some (.slice none 0 0) := hst.res 4
    have r5 : W.cell? ⟨w.heap.size + 1, 5, none⟩ = some (.slice none 0 0) := hst.res 5
    have zf0 := hst.rfree 0
    have zf1 := hst.rfree 1
    have zf2 := hst.rfree 2
    have zf3 := hst.rfree 3
    have zf4 := hst.rfree 4
    have zf5 := hst.rfree 5
    clear hf hst hsz
    unfold aggD
    go_enter Tryz.func21, Tryz.ntmps21
    go_wp2_with fail
    rw [HE.out]
    refine HFD.out.mono ?_
    rintro e w' ⟨rfl, rfl⟩
    go_wp2
    refine bodyPost_ret (v := .tuple #[.agg #[.int .i64 m.room, .int .i64 m.count, .slice h.bp h.bn h.bc, .slice h.sp h.sn h.sc, .slice h.fp h.fn h.fc, .slice h.wp h.wn h.wc], .int .i64 8]) ?_ rfl ?_
    · have e := HC6.out
      unfold put6 at e
      obtain ⟨e0, e1, e2, e3, e4, e5⟩ := e
      simp [results, Tryz.f21, go_sem, e0, e1, e2, e3, e4, e5]
    · exact ⟨h, rfl, R2.out.out6 _ _ _ _ _ _, HB6.out⟩
  | some i =>
    rw [findI_some hf] at HFD
    have zi1 : ¬ ((i : Int) < 0) := by omega
    have zi2 : decide ((i : Int) < 0) = false := decide_eq_false zi1
    have hil := findL_lt hf
    have his : i < h.sn := by rw [← R2.out.sn]; exact hil
    have zi3 : (0 : Int) ≤ (i : Int) := by omega
    have zi4 : (i : Int) < (h.sn : Int) := by omega
    obtain ⟨f, hfe⟩ : ∃ f, m.seen.getD i fl0 = f := ⟨_, rfl⟩
    have hrt : rotL m p at_ mask = if at_ < 0 ∨ ((bodyL m f).length : Int) ≤ at_ then (m, 1) else ({ m with bodies := m.bodies.set f.body (flipL (bodyL m f) at_.toNat mask) }, 0) := by unfold rotL; rw [hf, ← hfe]
    obtain ⟨c0, o0, hpe, hc0, hx⟩ := R2.out.seen.files.cell (i := i) (j := 1) his (u := .int .i64 (f.body : Int)) (by rw [hfe]; rfl)
    rw [← Nat.add_assoc] at hx
    have hfb : f.body < h.bn := by rw [← R2.out.bodies.len, ← hfe]; exact hin i hil
    have zb1 : (0 : Int) ≤ (f.body : Int) := by omega
    have zb2 : (f.body : Int) < (h.bn : Int) := by omega
    obtain ⟨cs, hrow1, hrow2⟩ := R2.out.bodies.row
    obtain ⟨q, cq, hhd, hqs⟩ := hrow2 f.body (by rw [R2.out.bodies.len]; exact hfb)
    obtain ⟨c4, o4, hpe2, hc4, hy⟩ := hrow1.at_.cell hhd
    have hbl : (m.bodies.getD f.body []).length ≤ 300000 := hsb _
    have HBB := Lib.hid (show bodyL m f = m.bodies.getD f.body [] from rfl)
    rw [hpe] at d3
    rw [hpe2] at d2
    rw [HBB.out] at hrt
    obtain ⟨b, hb⟩ : ∃ b, m.bodies.getD f.body [] = b := ⟨_, rfl⟩
    rw [hb] at hrt hbl hhd hqs hy
    obtain ⟨fb, hfbe⟩ : ∃ fb, f.body = fb := ⟨_, rfl⟩
    rw [hfbe] at hrt hx hfb zb1 zb2 hy hb hhd
    have HRT := Lib.hid hrt
    have HX := Lib.hid hb
    clear hfe hf hin hsb hfbe hb hil
    have HH : Hid (h = ⟨some ⟨c4, o4, none⟩, h.bn, h.bc, some ⟨c0, o0, none⟩, h.sn, h.sc, h.fp, h.fn, h.fc, h.wp, h.wn, h.wc⟩) := Lib.hid (by rw [← hpe, ← hpe2])
    by_cases h0 : at_ < 0
    · have y2 : decide (at_ < 0) = true := decide_eq_true h0
      replace hrt : rotL m p at_ mask = (m, 1) := by rw [hrt, if_pos (.inl h0)]
      rw [hrt]
      have HC6 := Lib.hid (put6_cell (.int .i64 m.room) (.int .i64 m.count) (.slice (some ⟨c4, o4, none⟩) h.bn h.bc) (.slice (some ⟨c0, o0, none⟩) h.sn h.sc) (.slice h.fp h.fn h.fc) (.slice h.wp h.wn h.wc) hst.res)
      have HB6 := Lib.hid (put6_below (b := w.heap.size + 1) (.int .i64 m.room) (.int .i64 m.count) (.slice (some ⟨c4, o4, none⟩) h.bn h.bc) (.slice (some ⟨c0, o0, none⟩) h.sn h.sc) (.slice h.fp h.fn h.fc) (.slice h.wp h.wn h.wc) hst.bel (by omega))
      have r0 : W.cell? ⟨w.heap.size + 1, 0, none⟩ = some (.int .i64 0) := hst.res 0
      have r1 : W.cell? ⟨w.heap.size + 1, 1, none⟩ = some (.int .i64 0) := hst.res 1
      have r2 : W.cell? ⟨w.heap.size + 1, 2, none⟩ = some (.slice none 0 0) := hst.res 2
      have r3 : W.cell? ⟨w.heap.size + 1, 3, none⟩ = some (.slice none 0 0) := hst.res 3
      have r4 : W.cell? ⟨w.heap.size + 1, 4, none⟩ = some (.slice none 0 0) := hst.res 4
      have r5 : W.cell? ⟨w.heap.size + 1, 5, none⟩ = some (.slice none 0 0) := hst.res 5
      have zf0 := hst.rfree 0
      have zf1 := hst.rfree 1
      have zf2 := hst.rfree 2
      have zf3 := hst.rfree 3
      have zf4 := hst.rfree 4
      have zf5 := hst.rfree 5
      rw [hpe] at HFD
      rw [hpe, hpe2] at HE
      have HPE := Lib.hid hpe
      have HPE2 := Lib.hid hpe2
      unfold aggD
      rw [hpe, hpe2]
      clear hst hsz hrt HRT hqs hhd hrow1 hrow2 hpe hpe2
      go_enter Tryz.func21, Tryz.ntmps21
      go_wp2_with fail
      rw [HE.out]
      refine HFD.out.mono ?_
      rintro e w' ⟨rfl, rfl⟩
      go_wp2
      refine bodyPost_ret (v := .tuple #[.agg #[.int .i64 m.room, .int .i64 m.count, .slice (some ⟨c4, o4, none⟩) h.bn h.bc, .slice (some ⟨c0, o0, none⟩) h.sn h.sc, .slice h.fp h.fn h.fc, .slice h.wp h.wn h.wc], .int .i64 1]) ?_ rfl ?_
      · have e := HC6.out
        unfold put6 at e
        obtain ⟨e0, e1, e2, e3, e4, e5⟩ := e
        simp [results, Tryz.f21, go_sem, e0, e1, e2, e3, e4, e5]
      · refine ⟨h, by unfold aggD; rw [HPE.out, HPE2.out]; rfl, R2.out.out6 _ _ _ _ _ _, HB6.out⟩
    · have y2 : decide (at_ < 0) = false := decide_eq_false h0
      have y0 : (0 : Int) ≤ at_ := by omega
      by_cases h1 : (b.length : Int) ≤ at_
      · have y3 : decide ((b.length : Int) ≤ at_) = true := decide_eq_true h1
        replace hrt : rotL m p at_ mask = (m, 1) := by rw [hrt, if_pos (.inr h1)]
        rw [hrt]
        have HC6 := Lib.hid (put6_cell (.int .i64 m.room) (.int .i64 m.count) (.slice (some ⟨c4, o4, none⟩) h.bn h.bc) (.slice (some ⟨c0, o0, none⟩) h.sn h.sc) (.slice h.fp h.fn h.fc) (.slice h.wp h.wn h.wc) hst.res)
        have HB6 := Lib.hid (put6_below (b := w.heap.size + 1) (.int .i64 m.room) (.int .i64 m.count) (.slice (some ⟨c4, o4, none⟩) h.bn h.bc) (.slice (some ⟨c0, o0, none⟩) h.sn h.sc) (.slice h.fp h.fn h.fc) (.slice h.wp h.wn h.wc) hst.bel (by omega))
        have r0 : W.cell? ⟨w.heap.size + 1, 0, none⟩ = some (.int .i64 0) := hst.res 0
        have r1 : W.cell? ⟨w.heap.size + 1, 1, none⟩ = some (.int .i64 0) := hst.res 1
        have r2 : W.cell? ⟨w.heap.size + 1, 2, none⟩ = some (.slice none 0 0) := hst.res 2
        have r3 : W.cell? ⟨w.heap.size + 1, 3, none⟩ = some (.slice none 0 0) := hst.res 3
        have r4 : W.cell? ⟨w.heap.size + 1, 4, none⟩ = some (.slice none 0 0) := hst.res 4
        have r5 : W.cell? ⟨w.heap.size + 1, 5, none⟩ = some (.slice none 0 0) := hst.res 5
        have zf0 := hst.rfree 0
        have zf1 := hst.rfree 1
        have zf2 := hst.rfree 2
        have zf3 := hst.rfree 3
        have zf4 := hst.rfree 4
        have zf5 := hst.rfree 5
        rw [hpe] at HFD
        rw [hpe, hpe2] at HE
        have HPE := Lib.hid hpe
        have HPE2 := Lib.hid hpe2
        unfold aggD
        rw [hpe, hpe2]
        clear hst hsz hrt HRT hqs hhd hrow1 hrow2 hpe hpe2
        go_enter Tryz.func21, Tryz.ntmps21
        go_wp2_with fail
        rw [HE.out]
        refine HFD.out.mono ?_
        rintro e w' ⟨rfl, rfl⟩
        go_wp2
        refine bodyPost_ret (v := .tuple #[.agg #[.int .i64 m.room, .int .i64 m.count, .slice (some ⟨c4, o4, none⟩) h.bn h.bc, .slice (some ⟨c0, o0, none⟩) h.sn h.sc, .slice h.fp h.fn h.fc, .slice h.wp h.wn h.wc], .int .i64 1]) ?_ rfl ?_
        · have e := HC6.out
          unfold put6 at e
          obtain ⟨e0, e1, e2, e3, e4, e5⟩ := e
          simp [results, Tryz.f21, go_sem, e0, e1, e2, e3, e4, e5]
        · refine ⟨h, by unfold aggD; rw [HPE.out, HPE2.out]; rfl, R2.out.out6 _ _ _ _ _ _, HB6.out⟩
      · have y3 : decide ((b.length : Int) ≤ at_) = false := decide_eq_false h1
        replace hrt : rotL m p at_ mask = ({ m with bodies := m.bodies.set fb (flipL b at_.toNat mask) }, 0) := by rw [hrt, if_neg (by rintro (x | x); exact h0 x; exact h1 x)]
        rw [hrt]
        obtain ⟨a, rfl⟩ : ∃ a : Nat, at_ = (a : Int) := ⟨at_.toNat, by omega⟩
        have ya : (a : Int) < (b.length : Int) := by omega
        have ya0 : (0 : Int) ≤ (a : Int) := by omega
        have yan : a < b.length := by omega
        rw [Int.toNat_natCast]
        rw [hpe] at HFD
        rw [hpe, hpe2] at HE
        have HPE := Lib.hid hpe
        have HPE2 := Lib.hid hpe2
        unfold aggD
        rw [hpe, hpe2]
        have HB0 := Lib.hid (show Below W.heap.size W (W.alloc (.cells #[] 32)) from (Below.refl _ _).alloc (Nat.le_refl _) _)
        have HO0 := Lib.hid (show (W.alloc (.cells #[] 32)).ownsRow W.heap.size 32 1 (.slice (some ⟨W.heap.size, 0, none⟩) 0 0) 0 [] from own_empty W W.heap.size (Nat.le_refl _))
        have HROW1 := Lib.hid hrow1
        have HROW2 := Lib.hid hrow2
        have HONE := Lib.hid (BsG.one R2.out.bodies.len hrow1 hrow2)
        have HCL := Lib.hid (show cs.length = h.bn from by have := hrow1.len; omega)
        have HHD := Lib.hid hhd
        have HQS := Lib.hid hqs
        have HBN := Lib.hid hbn
        obtain ⟨v0, hv0⟩ : ∃ v0, b.getD a 0 = v0 := ⟨_, rfl⟩
        have HV0 := Lib.hid hv0
        have HBY := Lib.hid (show (bytC b)[a]? = some (.int .u8 (v0.toNat : Int)) from by unfold bytC; rw [List.getElem?_map, List.getElem?_eq_getElem yan, ← hv0, List.getD_eq_getElem?_getD, List.getElem?_eq_getElem yan]; rfl)
        have hbn0 : 0 < h.bn := by omega
        have yn3 : decide (b.length ≤ a) = false := decide_eq_false (by omega)
        have d2' : ∀ o, (W.alloc o).cell? ⟨w.heap.size, 2, none⟩ = some (.slice (some ⟨c4, o4, none⟩) h.bn h.bc) := fun o => by rw [← hpe2]; exact (hst.alloc o).dsk 2
        clear hst hsz hrt hqs hhd hrow1 hrow2 hpe hpe2 hv0
        go_enter Tryz.func21, Tryz.ntmps21
        go_wp2_with fail
        rw [HE.out]
        refine HFD.out.mono ?_
        rintro e w' ⟨rfl, rfl⟩
        go_wp2_with (first
          | (refine wpl_appendK elR _ rfl (.tmp 39) (.tmp 41) rfl W.heap.size rfl HO0.out (some ⟨c4, o4, none⟩) h.bn h.bc cs (by have := HCL.out; omega) rfl ((HPE2.out ▸ HROW1.out.at_).of_below HB0.out) (fun e => by cases e) HONE.out (by omega) HB0.out.size ?_
             rintro v4 w4 hO4 hg4 _
             rw [Nat.zero_add, List.nil_append] at hO4
             have hB4 := HB0.out.grown hg4 HB0.out.size (fun g hg => (HO0.out.lt g hg).1)
             obtain ⟨g, cap1, e4, hgb, hgl, hle1, hcell1, hfr1⟩ := own_full hO4 hbn0
             subst e4
             have hs4 := HST.out.next hB4
             have HB4 := Lib.hid hB4
             have HHD4 := Lib.hid (show w4.cell? ⟨g, fb, none⟩ = some (.slice q b.length cq) from by rw [hcell1 fb (by rw [HCL.out]; exact hfb)]; exact HHD.out)
             have HGL := Lib.hid hgl
             have HGB := Lib.hid hgb
             have HLE1 := Lib.hid hle1
             have HCE1 := Lib.hid hcell1
             have HFR1 := Lib.hid hfr1
             have HST4 := Lib.hid hs4
             have c4h : ∀ o, (w4.alloc o).cell? ⟨g, fb, none⟩ = some (.slice q b.length cq) := fun o => by rw [World.cell?_alloc_old _ _ _ (by show g ≠ _; have := HGL.out; omega)]; exact HHD4.out
             have HB5 := Lib.hid (show Below w4.heap.size w4 (w4.alloc (.cells #[] 5)) from (Below.refl _ _).alloc (Nat.le_refl _) _)
             have HO5 := Lib.hid (show (w4.alloc (.cells #[] 5)).ownsRow w4.heap.size 5 1 (.slice (some ⟨w4.heap.size, 0, none⟩) 0 0) 0 [] from own_empty w4 w4.heap.size (Nat.le_refl _))
             clear hO4 hg4 hB4 hs4 hgl hgb hle1 hcell1 hfr1)
          | (refine wpl_appendK elB _ rfl (.tmp 45) (.tmp 49) rfl w4.heap.size rfl HO5.out q b.length cq (bytC b) (by rw [bytC_len]; omega) rfl ((HQS.out.at_.of_below HB4.out).of_below HB5.out) (HQS.out.nilp (by decide)) (bytC_one b) (by omega) HB5.out.size ?_
             rintro v5 w5 hO5 hg5 _
             rw [Nat.zero_add, List.nil_append] at hO5
             have hB5 := HB5.out.grown hg5 HB5.out.size (fun g hg => (HO5.out.lt g hg).1)
             obtain ⟨g2, cap2, e5, hgb2, hgl2, hle2, hcell2, hfr2⟩ := own_full hO5 (by omega)
             subst e5
             have k5 : w5.cell? ⟨g, fb, none⟩ = some (.slice q b.length cq) := by rw [hB5.cell (p := ⟨g, fb, none⟩) HGL.out]; exact HHD4.out
             have k5f : w5.frozen? ⟨g, fb, none⟩ = false := by rw [hB5.frozen (p := ⟨g, fb, none⟩) HGL.out]; exact HFR1.out fb
             have HB5' := Lib.hid hB5
             have HG2 := Lib.hid (And.intro hgb2 hgl2)
             have HLE2 := Lib.hid hle2
             have HCE2 := Lib.hid hcell2
             have HFR2 := Lib.hid hfr2
             clear hO5 hg5 hB5 hgb2 hgl2 hle2 hcell2 hfr2))
        have hst5 := (HST4.out.next HB5'.out)
        have hne : g2 ≠ g := by have := HG2.out.1; have := HGL.out; omega
        have HNE := Lib.hid hne
        have e6 : (w5.setCell ⟨g, fb, none⟩ (.slice (some ⟨g2, 0, none⟩) b.length cap2)).cell? ⟨g, fb, none⟩ = some (.slice (some ⟨g2, 0, none⟩) b.length cap2) := World.cell?_setCell_same' _ _ _ (by rw [k5]; rfl)
        have o6 : ∀ j v, (w5.setCell ⟨g, fb, none⟩ v).cell? ⟨g2, j, none⟩ = w5.cell? ⟨g2, j, none⟩ := fun j v => World.cell?_setCell_other _ _ _ _ (by intro ee; injection ee with e1 _; omega)
        have e6b : (w5.setCell ⟨g, fb, none⟩ (.slice (some ⟨g2, 0, none⟩) b.length cap2)).cell? ⟨g2, a, none⟩ = some (.int .u8 (v0.toNat : Int)) := by rw [o6, HCE2.out a (by rw [bytC_len]; exact yan)]; exact HBY.out
        have e6f : (w5.setCell ⟨g, fb, none⟩ (.slice (some ⟨g2, 0, none⟩) b.length cap2)).frozen? ⟨g2, a, none⟩ = false := by rw [World.frozen?_setCell]; exact HFR2.out a
        have HC6a := Lib.hid (set_cells (.slice (some ⟨g2, 0, none⟩) b.length cap2) (fun j hj => show w5.cell? ⟨g, j, none⟩ = cs[j]? from by rw [HB5'.out.cell (p := ⟨g, j, none⟩) HGL.out]; exact HCE1.out j hj) (i := fb) (by rw [HCL.out]; exact hfb))
        have HC6b := Lib.hid (fun j (hj : j < (bytC b).length) => show (w5.setCell ⟨g, fb, none⟩ (.slice (some ⟨g2, 0, none⟩) b.length cap2)).cell? ⟨g2, j, none⟩ = (bytC b)[j]? from by rw [o6]; exact HCE2.out j hj)
        have HB6 := Lib.hid (show Below W.heap.size W (w5.setCell ⟨g, fb, none⟩ (.slice (some ⟨g2, 0, none⟩) b.length cap2)) from (HB4.out.trans (HB5'.out.mono HB4.out.size)).setCell (p := ⟨g, fb, none⟩) HGB.out _)
        have HS6 := Lib.hid (KeepsOthers.setCell w5 ⟨g, fb, none⟩ (.slice (some ⟨g2, 0, none⟩) b.length cap2)).size
        obtain ⟨W6, hW6⟩ : ∃ W6, w5.setCell ⟨g, fb, none⟩ (.slice (some ⟨g2, 0, none⟩) b.length cap2) = W6 := ⟨_, rfl⟩
        rw [hW6] at e6 e6b e6f HC6a HC6b HB6 HS6
        rw [hW6]
        clear o6 hW6 k5 k5f hst5 hne d2'
        go_region
        rw [show bits BinOp.xor IntKind.u8 (v0.toNat : Int) (mask.toNat : Int) = ((v0 ^^^ mask).toNat : Int) from by rw [u8_xor_nat _ _ (UInt8.toNat_lt v0) (UInt8.toNat_lt mask), UInt8.toNat_xor]]
        have hB7 : Below W.heap.size W (W6.setCell ⟨g2, a, none⟩ (.int .u8 ((v0 ^^^ mask).toNat : Int))).drew := (HB6.out.setCell (p := ⟨g2, a, none⟩) (Nat.le_trans HB4.out.size HG2.out.1) _).drew
        have c7a : ∀ j, j < (cs.set fb (.slice (some ⟨g2, 0, none⟩) b.length cap2)).length → (W6.setCell ⟨g2, a, none⟩ (.int .u8 ((v0 ^^^ mask).toNat : Int))).drew.cell? ⟨g, j, none⟩ = (cs.set fb (.slice (some ⟨g2, 0, none⟩) b.length cap2))[j]? := fun j hj => by
          show (W6.setCell ⟨g2, a, none⟩ (.int .u8 ((v0 ^^^ mask).toNat : Int))).cell? ⟨g, j, none⟩ = _
          rw [World.cell?_setCell_other _ _ _ _ (by intro ee; injection ee with e1 _; exact HNE.out e1)]
          exact HC6a.out j hj
        have c7b : ∀ j, j < ((bytC b).set a (.int .u8 ((b.getD a 0 ^^^ mask).toNat : Int))).length → (W6.setCell ⟨g2, a, none⟩ (.int .u8 ((v0 ^^^ mask).toNat : Int))).drew.cell? ⟨g2, j, none⟩ = ((bytC b).set a (.int .u8 ((b.getD a 0 ^^^ mask).toNat : Int)))[j]? := by
          rw [HV0.out]
          exact set_cells (.int .u8 ((v0 ^^^ mask).toNat : Int)) HC6b.out (by rw [bytC_len]; exact yan)
        have hs7 := HST.out.next hB7
        have hz6 := (KeepsOthers.setCell W6 ⟨g2, a, none⟩ (.int .u8 ((v0 ^^^ mask).toNat : Int))).size
        have hG2' : ∀ k, W.heap.size ≤ k → G2 G w.heap.size k := fun k hk => by have := HSZ.out; exact ⟨HG.out k (by omega), by omega, by omega⟩
        have hrot := BsG.rot (G := G2 G w.heap.size) R2.out.bodies.len HROW1.out HROW2.out hB7 fb a mask hfb g g2 cap1 cap2 HLE1.out (by rw [HX.out]; exact HLE2.out) (Nat.lt_of_lt_of_le (Nat.lt_of_lt_of_le HGL.out HB5'.out.size) (Nat.le_trans HS6.out hz6)) (Nat.lt_of_lt_of_le HG2.out.2 (Nat.le_trans HS6.out hz6)) (hG2' g HGB.out) (hG2' g2 (Nat.le_trans HB4.out.size HG2.out.1)) (by rw [HX.out]; exact c7a) (by rw [HX.out]; exact c7b)
        rw [HX.out] at hrot
        clear c7a c7b hz6 hG2' e6 e6b e6f
        obtain ⟨W7, hW7⟩ : ∃ W7, (W6.setCell ⟨g2, a, none⟩ (.int .u8 ((v0 ^^^ mask).toNat : Int))).drew = W7 := ⟨_, rfl⟩
        rw [hW7] at hrot hB7 hs7
        rw [hW7]
        clear hW7
        have k0 : W7.cell? ⟨w.heap.size, 0, none⟩ = some (.int .i64 m.room) := hs7.dsk 0
        have k1 : W7.cell? ⟨w.heap.size, 1, none⟩ = some (.int .i64 m.count) := hs7.dsk 1
        have k2 : W7.cell? ⟨w.heap.size, 2, none⟩ = some (.slice (some ⟨c4, o4, none⟩) h.bn h.bc) := by rw [← HPE2.out]; exact hs7.dsk 2
        have k3 : W7.cell? ⟨w.heap.size, 3, none⟩ = some (.slice (some ⟨c0, o0, none⟩) h.sn h.sc) := by rw [← HPE.out]; exact hs7.dsk 3
        have k4 : W7.cell? ⟨w.heap.size, 4, none⟩ = some (.slice h.fp h.fn h.fc) := hs7.dsk 4
        have k5 : W7.cell? ⟨w.heap.size, 5, none⟩ = some (.slice h.wp h.wn h.wc) := hs7.dsk 5
        have kf2 := hs7.free 2
        have r0 : W7.cell? ⟨w.heap.size + 1, 0, none⟩ = some (.int .i64 0) := hs7.res 0
        have r1 : W7.cell? ⟨w.heap.size + 1, 1, none⟩ = some (.int .i64 0) := hs7.res 1
        have r2 : W7.cell? ⟨w.heap.size + 1, 2, none⟩ = some (.slice none 0 0) := hs7.res 2
        have r3 : W7.cell? ⟨w.heap.size + 1, 3, none⟩ = some (.slice none 0 0) := hs7.res 3
        have r4 : W7.cell? ⟨w.heap.size + 1, 4, none⟩ = some (.slice none 0 0) := hs7.res 4
        have r5 : W7.cell? ⟨w.heap.size + 1, 5, none⟩ = some (.slice none 0 0) := hs7.res 5
        have zf0 := hs7.rfree 0
        have zf1 := hs7.rfree 1
        have zf2 := hs7.rfree 2
        have zf3 := hs7.rfree 3
        have zf4 := hs7.rfree 4
        have zf5 := hs7.rfree 5
        have hs8 := hs7.set 2 (by show 2 < 6; decide) (.slice (some ⟨g, 0, none⟩) h.bn cap1)
        have HC6 := Lib.hid (put6_cell (.int .i64 m.room) (.int .i64 m.count) (.slice (some ⟨g, 0, none⟩) h.bn cap1) (.slice (some ⟨c0, o0, none⟩) h.sn h.sc) (.slice h.fp h.fn h.fc) (.slice h.wp h.wn h.wc) hs8.res)
        have HB6 := Lib.hid (put6_below (b := w.heap.size + 1) (.int .i64 m.room) (.int .i64 m.count) (.slice (some ⟨g, 0, none⟩) h.bn cap1) (.slice (some ⟨c0, o0, none⟩) h.sn h.sc) (.slice h.fp h.fn h.fc) (.slice h.wp h.wn h.wc) hs8.bel (by omega))
        have HR := Lib.hid (RfG.set (j := 2) (v := .slice (some ⟨g, 0, none⟩) h.bn cap1) (show RfG (G2 G w.heap.size) W7 { m with bodies := m.bodies.set fb (flipL b a mask) } ⟨some ⟨g, 0, none⟩, h.bn, cap1, h.sp, h.sn, h.sc, h.fp, h.fn, h.fc, h.wp, h.wn, h.wc⟩ from ⟨hrot, (R2.out.of_below hB7).seen, (R2.out.of_below hB7).safe, (R2.out.of_below hB7).waits⟩))
        clear hs7 hs8 hB7 hrot
        go_wp2
        refine bodyPost_ret (v := .tuple #[.agg #[.int .i64 m.room, .int .i64 m.count, .slice (some ⟨g, 0, none⟩) h.bn cap1, .slice (some ⟨c0, o0, none⟩) h.sn h.sc, .slice h.fp h.fn h.fc, .slice h.wp h.wn h.wc], .int .i64 0]) ?_ rfl ?_
        · have e := HC6.out
          unfold put6 at e
          obtain ⟨e0, e1, e2, e3, e4, e5⟩ := e
          simp [results, Tryz.f21, go_sem, e0, e1, e2, e3, e4, e5]
        · refine ⟨⟨some ⟨g, 0, none⟩, h.bn, cap1, h.sp, h.sn, h.sc, h.fp, h.fn, h.fc, h.wp, h.wn, h.wc⟩, by unfold aggD; dsimp only; rw [HPE.out]; rfl, HR.out.out6 _ _ _ _ _ _, HB6.out⟩
end Go.Proofs.YtjglgohchhdkkaaGreatDoor
