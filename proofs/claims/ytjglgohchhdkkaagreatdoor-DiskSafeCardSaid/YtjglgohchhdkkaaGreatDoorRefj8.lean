/- The reference's Rename. -/
import Derived.Test.YtjglgohchhdkkaaGreatDoorRefH7
import Derived.Test.YtjglgohchhdkkaaGreatDoorRefi8
set_option linter.unusedSimpArgs false
set_option linter.unusedVariables false
namespace Go.Proofs.YtjglgohchhdkkaaGreatDoor
open Go Go.RowKit

set_option maxRecDepth 100000 in
set_option maxHeartbeats 4000000 in
theorem refRename_any (G : Nat → Prop) (m : Dk) (h : Hd) (p q : S8) (hp : p.length < 100000) (hq : q.length < 100000) (hsh : ShortF m.seen) (hn : h.sn < 90000) (hwn : h.wn < 90000) (w : World) (hG : ∀ k, w.heap.size ≤ k → G k) (r : RfG G w m h) :
    Calls Tryz.prog 16 #[aggD m h, .string (mkS p), .string (mkS q)] w fun e w' => DkPost G w (renameL m p q) e w' := by
  have hst := st2_start w m h
  have R2 := Lib.hid (r.into2 hst)
  have HFD := Lib.hid (refFind_any m.seen h.sp h.sn h.sc p (by omega) _ (r.into2 hst).seen.files)
  have HGD := Lib.hid (refGood_any q (by omega) ((w.alloc (boxD m h)).alloc (.cells zerD.toArray 31)))
  have HCL := Lib.hid (refClashes_any m.seen h.sp h.sn h.sc q p (by omega) hq hsh _ (r.into2 hst).seen.files)
  have hrm : (renameL m p q) = if (findL m.seen p).isNone then (m, 8) else if !goodL q then (m, 7) else if clashesL m.seen q p then (m, 9) else (changeL m ⟨2, p, { fl0 with p := q }⟩, 0) := rfl
  have HCH := Lib.hid (fun (hq : q.length ≤ 100) (u : World) (hs : w.heap.size + 2 ≤ u.heap.size) (ru : RfG (G2 G w.heap.size) u m h) => refChange_any (G2 G w.heap.size) m h ⟨2, p, { fl0 with p := q }⟩ ⟨.inr (.inl rfl), hq, hp⟩ hsh hn hwn u (fun k hk => ⟨hG k (by omega), by omega, by omega⟩) ru)
  obtain ⟨W, hW⟩ : ∃ W, ((w.alloc (boxD m h)).alloc (.cells zerD.toArray 31)) = W := ⟨_, rfl⟩
  have HE := Lib.hid (show ((w.alloc (.cells #[.int .i64 m.room, .int .i64 m.count, .slice h.bp h.bn h.bc, .slice h.sp h.sn h.sc, .slice h.fp h.fn h.fc, .slice h.wp h.wn h.wc] 31)).alloc (.cells #[.int .i64 0, .int .i64 0, .slice none 0 0, .slice none 0 0, .slice none 0 0, .slice none 0 0] 31)) = W from hW)
  rw [hW] at hst R2 HFD HCL HGD
  have d0 : W.cell? ⟨w.heap.size, 0, none⟩ = some (.int .i64 m.room) := hst.dsk 0
  have d1 : W.cell? ⟨w.heap.size, 1, none⟩ = some (.int .i64 m.count) := hst.dsk 1
  have d2 : W.cell? ⟨w.heap.size, 2, none⟩ = some (.slice h.bp h.bn h.bc) := hst.dsk 2
  have d3 : W.cell? ⟨w.heap.size, 3, none⟩ = some (.slice h.sp h.sn h.sc) := hst.dsk 3
  have d4 : W.cell? ⟨w.heap.size, 4, none⟩ = some (.slice h.fp h.fn h.fc) := hst.dsk 4
  have d5 : W.cell? ⟨w.heap.size, 5, none⟩ = some (.slice h.wp h.wn h.wc) := hst.dsk 5
  clear hsh hG r hW
  cases hf : findL m.seen p with
  | none =>
    rw [findI_none hf] at HFD
    rw [hf] at hrm
    rw [show renameL m p q = (m, 8) from hrm]
    have HC6 := Lib.hid (put6_cell (.int .i64 m.room) (.int .i64 m.count) (.slice h.bp h.bn h.bc) (.slice h.sp h.sn h.sc) (.slice h.fp h.fn h.fc) (.slice h.wp h.wn h.wc) hst.res)
    have HB6 := Lib.hid (put6_below (b := w.heap.size + 1) (.int .i64 m.room) (.int .i64 m.count) (.slice h.bp h.bn h.bc) (.slice h.sp h.sn h.sc) (.slice h.fp h.fn h.fc) (.slice h.wp h.wn h.wc) hst.bel (by omega))
    have r0 : W.cell? ⟨w.heap.size + 1, 0, none⟩ = some (.int .i64 0) := hst.res 0
    have r1 : W.cell? ⟨w.heap.size + 1, 1, none⟩ = some (.int .i64 0) := hst.res 1
    have r2 : W.cell? ⟨w.heap.size + 1, 2, none⟩ = some (.slice none 0 0) := hst.res 2
    have r3 : W.cell? ⟨w.heap.size + 1, 3, none⟩ = some (.slice none 0 0) := hst.res 3
    have r4 : W.cell? ⟨w.heap.size + 1, 4, none⟩ = some (.slice none 0 0) := hst.res 4
    have r5 : W.cell? ⟨w.heap.size + 1, 5, none⟩ = some (.slice none 0 0) := hst.res 5
    have zf0 := hst.rfree 0
    have zf1 := hst.rfree 1
    have zf2 := hst.rfree 2
    have zf3 := hst.rfree 3
    have zf4 := hst.rfree 4
    have zf5 := hst.rfree 5
    clear hf hrm hst HCH HGD HCL
    unfold aggD
    go_enter Tryz.func16, Tryz.ntmps16
    go_wp2_with fail
    rw [HE.out]
    refine HFD.out.mono ?_
    rintro e w' ⟨rfl, rfl⟩
    go_wp2
    refine bodyPost_ret (v := .tuple #[.agg #[.int .i64 m.room, .int .i64 m.count, .slice h.bp h.bn h.bc, .slice h.sp h.sn h.sc, .slice h.fp h.fn h.fc, .slice h.wp h.wn h.wc], .int .i64 8]) ?_ rfl ?_
    · have e := HC6.out
      unfold put6 at e
      obtain ⟨e0, e1, e2, e3, e4, e5⟩ := e
      simp [results, Tryz.f16, go_sem, e0, e1, e2, e3, e4, e5]
    · exact ⟨h, rfl, R2.out.out6 _ _ _ _ _ _, HB6.out⟩
  | some i =>
    rw [findI_some hf] at HFD
    rw [hf] at hrm
    replace hrm : renameL m p q = if !goodL q then (m, 7) else if clashesL m.seen q p then (m, 9) else (changeL m ⟨2, p, { fl0 with p := q }⟩, 0) := hrm
    have zi1 : ¬ ((i : Int) < 0) := by omega
    have zi2 : decide ((i : Int) < 0) = false := decide_eq_false zi1
    clear hf
    cases hgd : goodL q with
    | false =>
      rw [hgd] at hrm HGD
      rw [show renameL m p q = (m, 7) from hrm]
      have HC6 := Lib.hid (put6_cell (.int .i64 m.room) (.int .i64 m.count) (.slice h.bp h.bn h.bc) (.slice h.sp h.sn h.sc) (.slice h.fp h.fn h.fc) (.slice h.wp h.wn h.wc) hst.res)
      have HB6 := Lib.hid (put6_below (b := w.heap.size + 1) (.int .i64 m.room) (.int .i64 m.count) (.slice h.bp h.bn h.bc) (.slice h.sp h.sn h.sc) (.slice h.fp h.fn h.fc) (.slice h.wp h.wn h.wc) hst.bel (by omega))
      have r0 : W.cell? ⟨w.heap.size + 1, 0, none⟩ = some (.int .i64 0) := hst.res 0
      have r1 : W.cell? ⟨w.heap.size + 1, 1, none⟩ = some (.int .i64 0) := hst.res 1
      have r2 : W.cell? ⟨w.heap.size + 1, 2, none⟩ = some (.slice none 0 0) := hst.res 2
      have r3 : W.cell? ⟨w.heap.size + 1, 3, none⟩ = some (.slice none 0 0) := hst.res 3
      have r4 : W.cell? ⟨w.heap.size + 1, 4, none⟩ = some (.slice none 0 0) := hst.res 4
      have r5 : W.cell? ⟨w.heap.size + 1, 5, none⟩ = some (.slice none 0 0) := hst.res 5
      have zf0 := hst.rfree 0
      have zf1 := hst.rfree 1
      have zf2 := hst.rfree 2
      have zf3 := hst.rfree 3
      have zf4 := hst.rfree 4
      have zf5 := hst.rfree 5
      clear hgd hrm hst HCH HCL
      unfold aggD
      go_enter Tryz.func16, Tryz.ntmps16
      go_wp2_with fail
      rw [HE.out]
      refine HFD.out.mono ?_
      rintro e w' ⟨rfl, rfl⟩
      go_wp2_with fail
      refine HGD.out.mono ?_
      rintro e w' ⟨rfl, rfl⟩
      go_wp2
      refine bodyPost_ret (v := .tuple #[.agg #[.int .i64 m.room, .int .i64 m.count, .slice h.bp h.bn h.bc, .slice h.sp h.sn h.sc, .slice h.fp h.fn h.fc, .slice h.wp h.wn h.wc], .int .i64 7]) ?_ rfl ?_
      · have e := HC6.out
        unfold put6 at e
        obtain ⟨e0, e1, e2, e3, e4, e5⟩ := e
        simp [results, Tryz.f16, go_sem, e0, e1, e2, e3, e4, e5]
      · exact ⟨h, rfl, R2.out.out6 _ _ _ _ _ _, HB6.out⟩
    | true =>
      rw [hgd] at hrm HGD
      replace hrm : renameL m p q = if clashesL m.seen q p then (m, 9) else (changeL m ⟨2, p, { fl0 with p := q }⟩, 0) := hrm
      replace HCH := HCH.out (goodL_len hgd)
      clear hgd
      cases hcl : clashesL m.seen q p with
      | true =>
        rw [hcl] at hrm HCL
        rw [show renameL m p q = (m, 9) from hrm]
        have HC6 := Lib.hid (put6_cell (.int .i64 m.room) (.int .i64 m.count) (.slice h.bp h.bn h.bc) (.slice h.sp h.sn h.sc) (.slice h.fp h.fn h.fc) (.slice h.wp h.wn h.wc) hst.res)
        have HB6 := Lib.hid (put6_below (b := w.heap.size + 1) (.int .i64 m.room) (.int .i64 m.count) (.slice h.bp h.bn h.bc) (.slice h.sp h.sn h.sc) (.slice h.fp h.fn h.fc) (.slice h.wp h.wn h.wc) hst.bel (by omega))
        have r0 : W.cell? ⟨w.heap.size + 1, 0, none⟩ = some (.int .i64 0) := hst.res 0
        have r1 : W.cell? ⟨w.heap.size + 1, 1, none⟩ = some (.int .i64 0) := hst.res 1
        have r2 : W.cell? ⟨w.heap.size + 1, 2, none⟩ = some (.slice none 0 0) := hst.res 2
        have r3 : W.cell? ⟨w.heap.size + 1, 3, none⟩ = some (.slice none 0 0) := hst.res 3
        have r4 : W.cell? ⟨w.heap.size + 1, 4, none⟩ = some (.slice none 0 0) := hst.res 4
        have r5 : W.cell? ⟨w.heap.size + 1, 5, none⟩ = some (.slice none 0 0) := hst.res 5
        have zf0 := hst.rfree 0
        have zf1 := hst.rfree 1
        have zf2 := hst.rfree 2
        have zf3 := hst.rfree 3
        have zf4 := hst.rfree 4
        have zf5 := hst.rfree 5
        clear hcl hrm hst HCH
        unfold aggD
        go_enter Tryz.func16, Tryz.ntmps16
        go_wp2_with fail
        rw [HE.out]
        refine HFD.out.mono ?_
        rintro e w' ⟨rfl, rfl⟩
        go_wp2_with fail
        refine HGD.out.mono ?_
        rintro e w' ⟨rfl, rfl⟩
        go_wp2_with fail
        refine HCL.out.mono ?_
        rintro e w' ⟨rfl, rfl⟩
        go_wp2
        refine bodyPost_ret (v := .tuple #[.agg #[.int .i64 m.room, .int .i64 m.count, .slice h.bp h.bn h.bc, .slice h.sp h.sn h.sc, .slice h.fp h.fn h.fc, .slice h.wp h.wn h.wc], .int .i64 9]) ?_ rfl ?_
        · have e := HC6.out
          unfold put6 at e
          obtain ⟨e0, e1, e2, e3, e4, e5⟩ := e
          simp [results, Tryz.f16, go_sem, e0, e1, e2, e3, e4, e5]
        · exact ⟨h, rfl, R2.out.out6 _ _ _ _ _ _, HB6.out⟩
      | false =>
        rw [hcl] at hrm HCL
        rw [show renameL m p q = (changeL m ⟨2, p, { fl0 with p := q }⟩, 0) from hrm]
        have HC := Lib.hid (HCH W hst.size R2.out)
        generalize changeL m ⟨2, p, { fl0 with p := q }⟩ = m2 at *
        have HST := Lib.hid hst
        unfold aggD aggC fl0 at HC
        dsimp only at HC
        rw [show ((2 : Nat) : Int) = 2 from rfl, show ((0 : Nat) : Int) = 0 from rfl] at HC
        clear hcl hrm hst HCH
        unfold aggD
        go_enter Tryz.func16, Tryz.ntmps16
        go_wp2_with fail
        rw [HE.out]
        refine HFD.out.mono ?_
        rintro e w' ⟨rfl, rfl⟩
        go_wp2_with fail
        refine HGD.out.mono ?_
        rintro e w' ⟨rfl, rfl⟩
        go_wp2_with fail
        refine HCL.out.mono ?_
        rintro e w' ⟨rfl, rfl⟩
        go_wp2_with fail
        with_reducible refine HC.out.mono ?_
        rintro e w' ⟨h', rfl, hR, hB⟩
        obtain ⟨s0, s1, s2, s3, s4, s5⟩ := m2
        obtain ⟨b1, b2, b3, b4, b5, b6, b7, b8, b9, b10, b11, b12⟩ := h'
        have hst := HST.out.next hB
        have HR := Lib.hid hR
        dsimp only
        have HC6 := Lib.hid (put6_cell (.int .i64 s0) (.int .i64 s1) (.slice b1 b2 b3) (.slice b4 b5 b6) (.slice b7 b8 b9) (.slice b10 b11 b12) hst.res)
        have HB6 := Lib.hid (put6_below (b := w.heap.size + 1) (.int .i64 s0) (.int .i64 s1) (.slice b1 b2 b3) (.slice b4 b5 b6) (.slice b7 b8 b9) (.slice b10 b11 b12) hst.bel (by omega))
        have r0 : w'.cell? ⟨w.heap.size + 1, 0, none⟩ = some (.int .i64 0) := hst.res 0
        have r1 : w'.cell? ⟨w.heap.size + 1, 1, none⟩ = some (.int .i64 0) := hst.res 1
        have r2 : w'.cell? ⟨w.heap.size + 1, 2, none⟩ = some (.slice none 0 0) := hst.res 2
        have r3 : w'.cell? ⟨w.heap.size + 1, 3, none⟩ = some (.slice none 0 0) := hst.res 3
        have r4 : w'.cell? ⟨w.heap.size + 1, 4, none⟩ = some (.slice none 0 0) := hst.res 4
        have r5 : w'.cell? ⟨w.heap.size + 1, 5, none⟩ = some (.slice none 0 0) := hst.res 5
        have zf0 := hst.rfree 0
        have zf1 := hst.rfree 1
        have zf2 := hst.rfree 2
        have zf3 := hst.rfree 3
        have zf4 := hst.rfree 4
        have zf5 := hst.rfree 5
        clear hR hB hst
        go_wp2
        refine bodyPost_ret (v := .tuple #[.agg #[.int .i64 s0, .int .i64 s1, .slice b1 b2 b3, .slice b4 b5 b6, .slice b7 b8 b9, .slice b10 b11 b12], .int .i64 0]) ?_ rfl ?_
        · have e := HC6.out
          unfold put6 at e
          obtain ⟨e0, e1, e2, e3, e4, e5⟩ := e
          simp [results, Tryz.f16, go_sem, e0, e1, e2, e3, e4, e5]
        · exact ⟨⟨b1, b2, b3, b4, b5, b6, b7, b8, b9, b10, b11, b12⟩, rfl, HR.out.out6 _ _ _ _ _ _, HB6.out⟩
end Go.Proofs.YtjglgohchhdkkaaGreatDoor
