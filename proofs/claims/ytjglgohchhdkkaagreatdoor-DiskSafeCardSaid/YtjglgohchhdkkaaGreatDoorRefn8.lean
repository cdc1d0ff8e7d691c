/- The reference's Write. -/
import Derived.Test.YtjglgohchhdkkaaGreatDoorRefj8
import Derived.Test.YtjglgohchhdkkaaGreatDoorRefm8
set_option linter.unusedSimpArgs false
set_option linter.unusedVariables false
namespace Go.Proofs.YtjglgohchhdkkaaGreatDoor
open Go Go.RowKit

/-- Headers copied, and one more. -/
theorem BsG.push {G : Nat → Prop} {w u : World} {p : Option Addr} {n cap : Nat} {l : List S8} {cs : List Value} (hl : l.length = n) (h1 : LsG G w p n cap 1 cs) (h2 : ∀ i, i < l.length → ∃ q c, cs[i]? = some (.slice q (l.getD i []).length c) ∧ LsG G w q (l.getD i []).length c 1 (bytC (l.getD i [])))
    (hB : Below w.heap.size w u) (b : S8) {p5 p8 : Option Addr} {c5 c8 : Nat} (hb : LsG G u p5 b.length c5 1 (bytC b)) (ho : LsG G u p8 (n + 1) c8 1 (cs ++ [.slice p5 b.length c5])) : BsG G u p8 (n + 1) c8 (l ++ [b]) := by
  have hcl := h1.len
  refine ⟨by rw [List.length_append, hl]; rfl, _, ho, fun i hi => ?_⟩
  rw [List.length_append] at hi
  by_cases e : i < l.length
  · have e1 : (l ++ [b]).getD i [] = l.getD i [] := by rw [List.getD_eq_getElem?_getD, List.getElem?_append_left e, ← List.getD_eq_getElem?_getD]
    rw [e1]
    obtain ⟨q, c, h3, h4⟩ := h2 i e
    exact ⟨q, c, by rw [List.getElem?_append_left (by omega)]; exact h3, h4.of_below hB⟩
  · have e2 : i = l.length := by simp at hi; omega
    subst e2
    have e1 : (l ++ [b]).getD l.length [] = b := by rw [List.getD_eq_getElem?_getD, List.getElem?_append_right (Nat.le_refl _)]; simp
    rw [e1]
    exact ⟨p5, c5, by rw [List.getElem?_append_right (by omega)]; simp [show l.length - cs.length = 0 by omega], hb⟩
set_option maxRecDepth 100000 in
set_option maxHeartbeats 8000000 in
theorem refWrite_any (G : Nat → Prop) (m : Dk) (h : Hd) (p b : S8) (bq : Option Addr) (bc : Nat) (time : Int) (hp : p.length < 100000) (hbl : b.length < 1000000) (hsh : ShortF m.seen) (hn : h.sn < 90000) (hwn : h.wn < 90000) (hbn : h.bn < 90000) (hin : InB m) (hsb : ShortB m) (hr0 : -1000000000000 ≤ m.room) (hr1 : m.room ≤ 1000000000000) (hct0 : 0 ≤ m.count) (hct1 : m.count < 1000000000000)
    (w : World) (hG : ∀ k, w.heap.size ≤ k → G k) (hby : LsG (fun _ => True) w bq b.length bc 1 (bytC b)) (r : RfG G w m h) :
    Calls Tryz.prog 15 #[aggD m h, .string (mkS p), .slice bq b.length bc, .int .i64 time] w fun e w' => DkPost G w (writeL m p b time) e w' := by
  have hst := st2_start w m h
  have R2 := Lib.hid (r.into2 hst)
  have HFD := Lib.hid (refFind_any m.seen h.sp h.sn h.sc p (by omega) _ (r.into2 hst).seen.files)
  have HUS := Lib.hid (refUsed_any (G2 G w.heap.size) m h hn hin hsb ((w.alloc (boxD m h)).alloc (.cells zerD.toArray 31)).drew ((r.into2 hst).of_below (show Below _ _ _ from (Below.refl _ _).drew)))
  obtain ⟨W, hW⟩ : ∃ W, ((w.alloc (boxD m h)).alloc (.cells zerD.toArray 31)) = W := ⟨_, rfl⟩
  have HE := Lib.hid (show ((w.alloc (.cells #[.int .i64 m.room, .int .i64 m.count, .slice h.bp h.bn h.bc, .slice h.sp h.sn h.sc, .slice h.fp h.fn h.fc, .slice h.wp h.wn h.wc] 31)).alloc (.cells #[.int .i64 0, .int .i64 0, .slice none 0 0, .slice none 0 0, .slice none 0 0, .slice none 0 0] 31)) = W from hW)
  rw [hW] at hst R2 HFD HUS
  have HST := Lib.hid hst
  have HG := Lib.hid hG
  have HBY := Lib.hid hby
  have HSH := Lib.hid hsh
  have HIN := Lib.hid hin
  have HSB := Lib.hid hsb
  have HPL := Lib.hid hp
  have hul := usedL_le hsb r.sn
  have HNN := Lib.hid (And.intro hn (And.intro hwn hbn))
  obtain ⟨ul, hue⟩ : ∃ ul, usedL m = ul := ⟨_, rfl⟩
  rw [hue] at hul HUS
  have HUE := Lib.hid hue
  have hws : IntKind.i64.wrap (m.room - (ul : Int)) = m.room - (ul : Int) := by rw [IntKind.wrap_i64]; omega
  obtain ⟨fi, hfi⟩ : ∃ fi, findI m.seen p = fi := ⟨_, rfl⟩
  rw [hfi] at HFD
  have HFI := Lib.hid hfi
  have d0 : W.cell? ⟨w.heap.size, 0, none⟩ = some (.int .i64 m.room) := hst.dsk 0
  have d1 : W.cell? ⟨w.heap.size, 1, none⟩ = some (.int .i64 m.count) := hst.dsk 1
  have d2 : W.cell? ⟨w.heap.size, 2, none⟩ = some (.slice h.bp h.bn h.bc) := hst.dsk 2
  have d3 : W.cell? ⟨w.heap.size, 3, none⟩ = some (.slice h.sp h.sn h.sc) := hst.dsk 3
  have d4 : W.cell? ⟨w.heap.size, 4, none⟩ = some (.slice h.fp h.fn h.fc) := hst.dsk 4
  have d5 : W.cell? ⟨w.heap.size, 5, none⟩ = some (.slice h.wp h.wn h.wc) := hst.dsk 5
  clear hG r hW hst hsh hin hsb hp hue hfi hby hn hwn hbn
  unfold aggD at HUS
  unfold aggD
  go_enter Tryz.func15, Tryz.ntmps15
  go_wp2_with fail
  rw [HE.out]
  refine HFD.out.mono ?_
  rintro e w' ⟨rfl, rfl⟩
  go_wp2
  rename_i Q' K hK
  have HK1 : ∀ (t12 t13 t14 t15 t16 t17 t18 t19 t20 : Value) (u : World), St2 w (lisD m h) u → Below W.heap.size W u → K { tmps := #[.agg #[.int .i64 m.room, .int .i64 m.count, .slice h.bp h.bn h.bc, .slice h.sp h.sn h.sc, .slice h.fp h.fn h.fc, .slice h.wp h.wn h.wc], .string (mkS p), .slice bq b.length bc, .int .i64 time, .pointer (some ⟨w.heap.size, 0, none⟩), undef, undef, undef, .pointer (some ⟨w.heap.size + 1, 0, none⟩), .int .i64 0, .int .i64 fi, .int .i64 (m.room - (ul : Int)), t12, t13, t14, t15, t16, t17, t18, t19, t20, undef, undef, undef, undef, undef, undef, undef, undef, undef, undef, undef, undef, undef, undef, undef, undef, undef, undef, undef, undef, undef, undef, undef, undef, undef, undef, undef, undef, undef, undef, undef, undef, undef, undef, undef, undef, undef, undef, undef, undef, undef, undef, undef, undef, undef, undef, undef, undef, undef, undef, undef, undef, undef, undef, undef, undef, undef, undef, undef, undef, undef, undef, undef, undef, undef, undef, undef, undef, undef, undef, undef, undef, undef, undef, undef, undef], defers := [] } u := by
    intro t12 t13 t14 t15 t16 t17 t18 t19 t20 u hs hBu
    refine hK _ _ ?_
    refine wp_seq_k fun K2 hK2 => ?_
    have HK2 : ∀ (t12 t13 t14 t15 t16 t17 t18 t19 t20 t21 t22 t23 t24 t25 t26 t27 t28 t29 t30 t31 t32 t33 t34 t35 : Value) (L : Int) (u : World), leftL m p = L → St2 w (lisD m h) u → Below W.heap.size W u → K2 { tmps := #[.agg #[.int .i64 m.room, .int .i64 m.count, .slice h.bp h.bn h.bc, .slice h.sp h.sn h.sc, .slice h.fp h.fn h.fc, .slice h.wp h.wn h.wc], .string (mkS p), .slice bq b.length bc, .int .i64 time, .pointer (some ⟨w.heap.size, 0, none⟩), undef, undef, undef, .pointer (some ⟨w.heap.size + 1, 0, none⟩), .int .i64 0, .int .i64 fi, .int .i64 L, t12, t13, t14, t15, t16, t17, t18, t19, t20, t21, t22, t23, t24, t25, t26, t27, t28, t29, t30, t31, t32, t33, t34, t35, undef, undef, undef, undef, undef, undef, undef, undef, undef, undef, undef, undef, undef, undef, undef, undef, undef, undef, undef, undef, undef, undef, undef, undef, undef, undef, undef, undef, undef, undef, undef, undef, undef, undef, undef, undef, undef, undef, undef, undef, undef, undef, undef, undef, undef, undef, undef, undef, undef, undef, undef, undef, undef, undef, undef, undef, undef, undef, undef, undef, undef], defers := [] } u := by
      intro t12 t13 t14 t15 t16 t17 t18 t19 t20 t21 t22 t23 t24 t25 t26 t27 t28 t29 t30 t31 t32 t33 t34 t35 L u hle hs hBu
      refine hK2 _ _ ?_
      have HSU := Lib.hid hs
      have HBU := Lib.hid hBu
      have RU := Lib.hid (R2.out.of_below hBu)
      clear hs hBu d0 d1 d2 d3 d4 d5 hws hul
      have k0 : u.cell? ⟨w.heap.size, 0, none⟩ = some (.int .i64 m.room) := HSU.out.dsk 0
      have k1 : u.cell? ⟨w.heap.size, 1, none⟩ = some (.int .i64 m.count) := HSU.out.dsk 1
      have k2 : u.cell? ⟨w.heap.size, 2, none⟩ = some (.slice h.bp h.bn h.bc) := HSU.out.dsk 2
      have k3 : u.cell? ⟨w.heap.size, 3, none⟩ = some (.slice h.sp h.sn h.sc) := HSU.out.dsk 3
      have k4 : u.cell? ⟨w.heap.size, 4, none⟩ = some (.slice h.fp h.fn h.fc) := HSU.out.dsk 4
      have k5 : u.cell? ⟨w.heap.size, 5, none⟩ = some (.slice h.wp h.wn h.wc) := HSU.out.dsk 5
      have r0 : u.cell? ⟨w.heap.size + 1, 0, none⟩ = some (.int .i64 0) := HSU.out.res 0
      have r1 : u.cell? ⟨w.heap.size + 1, 1, none⟩ = some (.int .i64 0) := HSU.out.res 1
      have r2 : u.cell? ⟨w.heap.size + 1, 2, none⟩ = some (.slice none 0 0) := HSU.out.res 2
      have r3 : u.cell? ⟨w.heap.size + 1, 3, none⟩ = some (.slice none 0 0) := HSU.out.res 3
      have r4 : u.cell? ⟨w.heap.size + 1, 4, none⟩ = some (.slice none 0 0) := HSU.out.res 4
      have r5 : u.cell? ⟨w.heap.size + 1, 5, none⟩ = some (.slice none 0 0) := HSU.out.res 5
      have zf0 := HSU.out.rfree 0
      have zf1 := HSU.out.rfree 1
      have zf2 := HSU.out.rfree 2
      have zf3 := HSU.out.rfree 3
      have zf4 := HSU.out.rfree 4
      have zf5 := HSU.out.rfree 5
      have hwr : writeL m p b time = if !goodL p then (m, 7) else if 262144 < b.length then (m, 1) else if clashesL m.seen p p then (m, 9) else if (findL m.seen p).isNone && decide (64 ≤ m.seen.length) then (m, 14) else if leftL m p < (b.length : Int) then (m, 10) else (changeL { m with count := m.count + 1, bodies := m.bodies ++ [b] } ⟨1, [], ⟨p, m.bodies.length, b.length, time, m.count + 1⟩⟩, 0) := rfl
      rw [hle, RU.out.sn] at hwr
      have HGD := Lib.hid (refGood_any p (by have := HPL.out; omega) u)
      have HCL := Lib.hid (refClashes_any m.seen h.sp h.sn h.sc p p (by have := HNN.out.1; omega) HPL.out HSH.out _ RU.out.seen.files)
      cases hgd : goodL p with
      | false =>
        rw [hgd] at hwr HGD
        have HC6 := Lib.hid (put6_cell (.int .i64 m.room) (.int .i64 m.count) (.slice h.bp h.bn h.bc) (.slice h.sp h.sn h.sc) (.slice h.fp h.fn h.fc) (.slice h.wp h.wn h.wc) HSU.out.res)
        have HB6 := Lib.hid (put6_below (b := w.heap.size + 1) (.int .i64 m.room) (.int .i64 m.count) (.slice h.bp h.bn h.bc) (.slice h.sp h.sn h.sc) (.slice h.fp h.fn h.fc) (.slice h.wp h.wn h.wc) HSU.out.bel (by omega))
        have HWR := Lib.hid (show writeL m p b time = (m, 7) from hwr)
        clear hwr
        go_wp2_with fail
        refine HGD.out.mono ?_
        rintro e w' ⟨rfl, rfl⟩
        go_wp2
        refine bodyPost_ret (v := .tuple #[.agg #[.int .i64 m.room, .int .i64 m.count, .slice h.bp h.bn h.bc, .slice h.sp h.sn h.sc, .slice h.fp h.fn h.fc, .slice h.wp h.wn h.wc], .int .i64 7]) ?_ rfl ?_
        · have e := HC6.out
          unfold put6 at e
          obtain ⟨e0, e1, e2, e3, e4, e5⟩ := e
          simp [results, Tryz.f15, go_sem, e0, e1, e2, e3, e4, e5]
        · show DkPost G w (writeL m p b time) _ _
          rw [HWR.out]
          exact ⟨h, rfl, RU.out.out6 _ _ _ _ _ _, HB6.out⟩
      | true =>
        have hp100 := goodL_len hgd
        rw [hgd] at hwr HGD
        replace hwr : writeL m p b time = if 262144 < b.length then (m, 1) else if clashesL m.seen p p then (m, 9) else if (findL m.seen p).isNone && decide (64 ≤ h.sn) then (m, 14) else if L < (b.length : Int) then (m, 10) else (changeL { m with count := m.count + 1, bodies := m.bodies ++ [b] } ⟨1, [], ⟨p, m.bodies.length, b.length, time, m.count + 1⟩⟩, 0) := hwr
        by_cases hl : 262144 < b.length
        · have yl : (262144 : Int) < (b.length : Int) := by omega
          have yl2 : decide ((262144 : Int) < (b.length : Int)) = true := decide_eq_true yl
          have yl3 : decide (262144 < b.length) = true := decide_eq_true hl
          rw [if_pos hl] at hwr
          have HC6 := Lib.hid (put6_cell (.int .i64 m.room) (.int .i64 m.count) (.slice h.bp h.bn h.bc) (.slice h.sp h.sn h.sc) (.slice h.fp h.fn h.fc) (.slice h.wp h.wn h.wc) HSU.out.res)
          have HB6 := Lib.hid (put6_below (b := w.heap.size + 1) (.int .i64 m.room) (.int .i64 m.count) (.slice h.bp h.bn h.bc) (.slice h.sp h.sn h.sc) (.slice h.fp h.fn h.fc) (.slice h.wp h.wn h.wc) HSU.out.bel (by omega))
          have HWR := Lib.hid (show writeL m p b time = (m, 1) from hwr)
          clear hwr
          go_wp2_with fail
          refine HGD.out.mono ?_
          rintro e w' ⟨rfl, rfl⟩
          go_wp2
          refine bodyPost_ret (v := .tuple #[.agg #[.int .i64 m.room, .int .i64 m.count, .slice h.bp h.bn h.bc, .slice h.sp h.sn h.sc, .slice h.fp h.fn h.fc, .slice h.wp h.wn h.wc], .int .i64 1]) ?_ rfl ?_
          · have e := HC6.out
            unfold put6 at e
            obtain ⟨e0, e1, e2, e3, e4, e5⟩ := e
            simp [results, Tryz.f15, go_sem, e0, e1, e2, e3, e4, e5]
          · show DkPost G w (writeL m p b time) _ _
            rw [HWR.out]
            exact ⟨h, rfl, RU.out.out6 _ _ _ _ _ _, HB6.out⟩
        · have yl : ¬ (262144 : Int) < (b.length : Int) := by omega
          have yl2 : decide ((262144 : Int) < (b.length : Int)) = false := decide_eq_false yl
          have yl3 : decide (262144 < b.length) = false := decide_eq_false hl
          rw [if_neg hl] at hwr
          cases hcl : clashesL m.seen p p with
          | true =>
            rw [hcl] at hwr HCL
            have HC6 := Lib.hid (put6_cell (.int .i64 m.room) (.int .i64 m.count) (.slice h.bp h.bn h.bc) (.slice h.sp h.sn h.sc) (.slice h.fp h.fn h.fc) (.slice h.wp h.wn h.wc) HSU.out.res)
            have HB6 := Lib.hid (put6_below (b := w.heap.size + 1) (.int .i64 m.room) (.int .i64 m.count) (.slice h.bp h.bn h.bc) (.slice h.sp h.sn h.sc) (.slice h.fp h.fn h.fc) (.slice h.wp h.wn h.wc) HSU.out.bel (by omega))
            have HWR := Lib.hid (show writeL m p b time = (m, 9) from hwr)
            clear hwr
            go_wp2_with fail
            refine HGD.out.mono ?_
            rintro e w' ⟨rfl, rfl⟩
            go_wp2_with fail
            refine HCL.out.mono ?_
            rintro e w' ⟨rfl, rfl⟩
            go_wp2
            refine bodyPost_ret (v := .tuple #[.agg #[.int .i64 m.room, .int .i64 m.count, .slice h.bp h.bn h.bc, .slice h.sp h.sn h.sc, .slice h.fp h.fn h.fc, .slice h.wp h.wn h.wc], .int .i64 9]) ?_ rfl ?_
            · have e := HC6.out
              unfold put6 at e
              obtain ⟨e0, e1, e2, e3, e4, e5⟩ := e
              simp [results, Tryz.f15, go_sem, e0, e1, e2, e3, e4, e5]
            · show DkPost G w (writeL m p b time) _ _
              rw [HWR.out]
              exact ⟨h, rfl, RU.out.out6 _ _ _ _ _ _, HB6.out⟩
          | false =>
            rw [hcl] at hwr HCL
            replace hwr : writeL m p b time = if (findL m.seen p).isNone && decide (64 ≤ h.sn) then (m, 14) else if L < (b.length : Int) then (m, 10) else (changeL { m with count := m.count + 1, bodies := m.bodies ++ [b] } ⟨1, [], ⟨p, m.bodies.length, b.length, time, m.count + 1⟩⟩, 0) := hwr
            by_cases hf0 : fi < 0
            · have yf : decide (fi < 0) = true := decide_eq_true hf0
              have hnn : (findL m.seen p).isNone = true := by
                rcases hff : findL m.seen p with _ | i
                · rfl
                · have := findI_some hff
                  rw [HFI.out] at this
                  omega
              rw [hnn] at hwr
              by_cases h64 : 64 ≤ h.sn
              · have y64 : (64 : Int) ≤ (h.sn : Int) := by omega
                have y642 : decide ((64 : Int) ≤ (h.sn : Int)) = true := decide_eq_true y64
                have y643 : decide (64 ≤ h.sn) = true := decide_eq_true h64
                rw [if_pos (by rw [y643]; rfl)] at hwr
                have HC6 := Lib.hid (put6_cell (.int .i64 m.room) (.int .i64 m.count) (.slice h.bp h.bn h.bc) (.slice h.sp h.sn h.sc) (.slice h.fp h.fn h.fc) (.slice h.wp h.wn h.wc) HSU.out.res)
                have HB6 := Lib.hid (put6_below (b := w.heap.size + 1) (.int .i64 m.room) (.int .i64 m.count) (.slice h.bp h.bn h.bc) (.slice h.sp h.sn h.sc) (.slice h.fp h.fn h.fc) (.slice h.wp h.wn h.wc) HSU.out.bel (by omega))
                have HWR := Lib.hid (show writeL m p b time = (m, 14) from hwr)
                clear hwr
                go_wp2_with fail
                refine HGD.out.mono ?_
                rintro e w' ⟨rfl, rfl⟩
                go_wp2_with fail
                refine HCL.out.mono ?_
                rintro e w' ⟨rfl, rfl⟩
                go_wp2
                refine bodyPost_ret (v := .tuple #[.agg #[.int .i64 m.room, .int .i64 m.count, .slice h.bp h.bn h.bc, .slice h.sp h.sn h.sc, .slice h.fp h.fn h.fc, .slice h.wp h.wn h.wc], .int .i64 14]) ?_ rfl ?_
                · have e := HC6.out
                  unfold put6 at e
                  obtain ⟨e0, e1, e2, e3, e4, e5⟩ := e
                  simp [results, Tryz.f15, go_sem, e0, e1, e2, e3, e4, e5]
                · show DkPost G w (writeL m p b time) _ _
                  rw [HWR.out]
                  exact ⟨h, rfl, RU.out.out6 _ _ _ _ _ _, HB6.out⟩
              · have y64 : ¬ (64 : Int) ≤ (h.sn : Int) := by omega
                have y642 : decide ((64 : Int) ≤ (h.sn : Int)) = false := decide_eq_false y64
                have y643 : decide (64 ≤ h.sn) = false := decide_eq_false h64
                rw [if_neg (by rw [y643]; decide)] at hwr
                by_cases hlt : L < (b.length : Int)
                · have ylt : decide (L < (b.length : Int)) = true := decide_eq_true hlt
                  rw [if_pos hlt] at hwr
                  have HC6 := Lib.hid (put6_cell (.int .i64 m.room) (.int .i64 m.count) (.slice h.bp h.bn h.bc) (.slice h.sp h.sn h.sc) (.slice h.fp h.fn h.fc) (.slice h.wp h.wn h.wc) HSU.out.res)
                  have HB6 := Lib.hid (put6_below (b := w.heap.size + 1) (.int .i64 m.room) (.int .i64 m.count) (.slice h.bp h.bn h.bc) (.slice h.sp h.sn h.sc) (.slice h.fp h.fn h.fc) (.slice h.wp h.wn h.wc) HSU.out.bel (by omega))
                  have HWR := Lib.hid (show writeL m p b time = (m, 10) from hwr)
                  clear hwr
                  go_wp2_with fail
                  refine HGD.out.mono ?_
                  rintro e w' ⟨rfl, rfl⟩
                  go_wp2_with fail
                  refine HCL.out.mono ?_
                  rintro e w' ⟨rfl, rfl⟩
                  go_wp2
                  refine bodyPost_ret (v := .tuple #[.agg #[.int .i64 m.room, .int .i64 m.count, .slice h.bp h.bn h.bc, .slice h.sp h.sn h.sc, .slice h.fp h.fn h.fc, .slice h.wp h.wn h.wc], .int .i64 10]) ?_ rfl ?_
                  · have e := HC6.out
                    unfold put6 at e
                    obtain ⟨e0, e1, e2, e3, e4, e5⟩ := e
                    simp [results, Tryz.f15, go_sem, e0, e1, e2, e3, e4, e5]
                  · show DkPost G w (writeL m p b time) _ _
                    rw [HWR.out]
                    exact ⟨h, rfl, RU.out.out6 _ _ _ _ _ _, HB6.out⟩
                · have ylt : decide (L < (b.length : Int)) = false := decide_eq_false hlt
                  rw [if_neg hlt] at hwr
                  have HWR := Lib.hid hwr
                  clear hwr
                  go_wp2_with fail
                  refine HGD.out.mono ?_
                  rintro e w' ⟨rfl, rfl⟩
                  go_wp2_with fail
                  refine HCL.out.mono ?_
                  rintro e w' ⟨rfl, rfl⟩
                  have hwc : IntKind.i64.wrap (m.count + 1) = m.count + 1 := by rw [IntKind.wrap_i64]; omega
                  have kf1 := HSU.out.free 1
                  have hs1 : St2 w ((lisD m h).set 1 (.int .i64 (m.count + 1))) (u.setCell ⟨w.heap.size, 1, none⟩ (.int .i64 (m.count + 1))) := HSU.out.set 1 (by show 1 < 6; decide) _
                  have ru1 : RfG (G2 G w.heap.size) (u.setCell ⟨w.heap.size, 1, none⟩ (.int .i64 (m.count + 1))) m h := RU.out.set 1 _
                  have hz1 : (u.setCell ⟨w.heap.size, 1, none⟩ (.int .i64 (m.count + 1))).heap.size = u.heap.size := World.size_setCell ..
                  have q2' : ∀ o, ((u.setCell ⟨w.heap.size, 1, none⟩ (.int .i64 (m.count + 1))).alloc o).cell? ⟨w.heap.size, 2, none⟩ = some (.slice h.bp h.bn h.bc) := fun o => (hs1.alloc o).dsk 2
                  have hblen := RU.out.bodies.len
                  have HCH := Lib.hid (fun (U : World) (p8 : Option Addr) (c8 : Nat) (hsz : w.heap.size + 2 ≤ U.heap.size) (ru : RfG (G2 G w.heap.size) U { m with count := m.count + 1, bodies := m.bodies ++ [b] } ⟨p8, h.bn + 1, c8, h.sp, h.sn, h.sc, h.fp, h.fn, h.fc, h.wp, h.wn, h.wc⟩) => refChange_any (G2 G w.heap.size) { m with count := m.count + 1, bodies := m.bodies ++ [b] } ⟨p8, h.bn + 1, c8, h.sp, h.sn, h.sc, h.fp, h.fn, h.fc, h.wp, h.wn, h.wc⟩ ⟨1, [], ⟨p, m.bodies.length, b.length, time, m.count + 1⟩⟩ ⟨.inl rfl, hp100, by exact Nat.zero_lt_succ _⟩ HSH.out HNN.out.1 HNN.out.2.1 U (fun k hk => ⟨HG.out k (by omega), by omega, by omega⟩) ru)
                  obtain ⟨m2, hm2⟩ : ∃ m2, changeL { m with count := m.count + 1, bodies := m.bodies ++ [b] } ⟨1, [], ⟨p, m.bodies.length, b.length, time, m.count + 1⟩⟩ = m2 := ⟨_, rfl⟩
                  rw [hm2] at HCH HWR
                  unfold aggD aggC at HCH
                  dsimp only at HCH
                  rw [mk0, hblen, show ((1 : Nat) : Int) = 1 from rfl] at HCH
                  obtain ⟨cs, hrow1, hrow2⟩ := ru1.bodies.row
                  have HROW1 := Lib.hid hrow1
                  have HROW2 := Lib.hid hrow2
                  have HONE := Lib.hid (BsG.one ru1.bodies.len hrow1 hrow2)
                  have HCL2 := Lib.hid (show cs.length = h.bn from by have := hrow1.len; omega)
                  have HHP := Lib.hid hp100
                  obtain ⟨U1, hU1⟩ : ∃ U1, u.setCell ⟨w.heap.size, 1, none⟩ (.int .i64 (m.count + 1)) = U1 := ⟨_, rfl⟩
                  rw [hU1] at hs1 ru1 hz1 HROW1 HROW2
                  have HU1 := Lib.hid hU1
                  have HST1 := Lib.hid hs1
                  have RU1 := Lib.hid ru1
                  have HO1 := Lib.hid (show (U1.alloc (.cells #[] 32)).ownsRow U1.heap.size 32 1 (.slice (some ⟨u.heap.size, 0, none⟩) 0 0) 0 [] from by have := own_empty (E := 32) (k := 1) U1 U1.heap.size (Nat.le_refl _); rw [hz1] at this ⊢; exact this)
                  have HB1 := Lib.hid (show Below U1.heap.size U1 (U1.alloc (.cells #[] 32)) from (Below.refl _ _).alloc (Nat.le_refl _) _)
                  clear hs1 ru1 hz1 hblen hm2 hrow1 hrow2 hp100 hU1
                  go_wp2_with (first
                    | (rw [HU1.out]
                       refine wpl_appendK elR _ rfl (.tmp 73) (.tmp 75) rfl U1.heap.size rfl HO1.out h.bp h.bn h.bc cs (by have := HCL2.out; omega) rfl (HROW1.out.at_.of_below HB1.out) (HROW1.out.nilp (by decide)) HONE.out (by have := HNN.out.2.2; omega) HB1.out.size ?_
                       rintro v1 w1 hO1 hg1 _
                       rw [Nat.zero_add, List.nil_append] at hO1
                       have hB1 := HB1.out.grown hg1 HB1.out.size (fun g hg => (HO1.out.lt g hg).1)
                       obtain ⟨p1, c1, e1, -, -, -⟩ := own_shape hO1
                       subst e1
                       have HO1b := Lib.hid hO1
                       have HB1b := Lib.hid hB1
                       have HO2 := Lib.hid (show (w1.alloc (.cells #[] 5)).ownsRow w1.heap.size 5 1 (.slice (some ⟨w1.heap.size, 0, none⟩) 0 0) 0 [] from own_empty w1 w1.heap.size (Nat.le_refl _))
                       have HB2 := Lib.hid (show Below w1.heap.size w1 (w1.alloc (.cells #[] 5)) from (Below.refl _ _).alloc (Nat.le_refl _) _)
                       have HBY1 := Lib.hid (HBY.out.at_.of_below (((HST1.out.next hB1).next HB2.out).bel))
                       clear hO1 hg1 hB1)
                    | (refine wpl_appendK elB _ rfl (.tmp 77) (.tmp 78) rfl w1.heap.size rfl HO2.out bq b.length bc (bytC b) (by rw [bytC_len]; omega) rfl HBY1.out (HBY.out.nilp (by decide)) (bytC_one b) (by omega) HB2.out.size ?_
                       rintro v2 w2 hO2 hg2 _
                       rw [Nat.zero_add, List.nil_append] at hO2
                       have hB2 := HB2.out.grown hg2 HB2.out.size (fun g hg => (HO2.out.lt g hg).1)
                       obtain ⟨p5, c5, e2, -, -, -⟩ := own_shape hO2
                       subst e2
                       have HO2b := Lib.hid hO2
                       have ha2 : Below w2.heap.size w2 (w2.alloc (.cells #[.slice p5 b.length c5] 32)) := (Below.refl _ _).alloc (Nat.le_refl _) _
                       have HA2 := Lib.hid ha2
                       have HB3 := Lib.hid (show Below w1.heap.size w1 (w2.alloc (.cells #[.slice p5 b.length c5] 32)) from hB2.trans (ha2.mono hB2.size))
                       have HO3 := Lib.hid (own_below (own_below HO1b.out hB2) ha2)
                       have HM3 := Lib.hid (show LsC (w2.alloc (.cells #[.slice p5 b.length c5] 32)) (some ⟨w2.heap.size, 0, none⟩) [.slice p5 b.length c5] from LsC.made w2 [.slice p5 b.length c5] 32)
                       clear hO2 hg2 hB2 ha2)
                    | (refine wpl_appendK elR _ rfl (.tmp 76) (.tmp 80) rfl U1.heap.size rfl HO3.out (some ⟨w2.heap.size, 0, none⟩) 1 1 [.slice p5 b.length c5] rfl rfl HM3.out (fun e => by cases e) (by intro x hx; simp at hx; subst hx; rfl) (by have := HNN.out.2.2; omega) (Nat.le_trans HB1b.out.size HB3.out.size) ?_
                       rintro v3 w3 hO4 hg4 _
                       have hB4 : Below U1.heap.size U1 w3 := (HB1b.out.trans (HB3.out.mono HB1b.out.size)).grown hg4 (Nat.le_trans HB1b.out.size HB3.out.size) (fun g hg => (HO3.out.lt g hg).1)
                       obtain ⟨p8, c8, e3, -, -, -⟩ := own_shape hO4
                       subst e3
                       have hs3 := HST1.out.next hB4
                       have hG1 : ∀ k, U1.heap.size ≤ k → G2 G w.heap.size k := fun k hk => by have := HST1.out.size; exact ⟨HG.out k (by omega), by omega, by omega⟩
                       have hbs : LsG (G2 G w.heap.size) w3 p5 b.length c5 1 (bytC b) := by
                         have h0 := LsG.fresh (G := fun k => w1.heap.size ≤ k) HO2b.out (fun k hk => hk)
                         have h1 := h0.of_below HA2.out
                         have h2 := h1.keep (w' := w3) (fun c hc hl => hg4.block c hl (fun e => by have := (HO1b.out.lt c e.symm).2; omega)) hg4.size
                         exact h2.wider fun c hc _ => hG1 c (Nat.le_trans HB1b.out.size hc)
                       have hbp : BsG (G2 G w.heap.size) w3 p8 (h.bn + 1) c8 (m.bodies ++ [b]) := BsG.push RU1.out.bodies.len HROW1.out HROW2.out hB4 b hbs (LsG.fresh hO4 hG1)
                       have hrf : RfG (G2 G w.heap.size) w3 { m with count := m.count + 1, bodies := m.bodies ++ [b] } ⟨p8, h.bn + 1, c8, h.sp, h.sn, h.sc, h.fp, h.fn, h.fc, h.wp, h.wn, h.wc⟩ := ⟨hbp, (RU1.out.of_below hB4).seen, (RU1.out.of_below hB4).safe, (RU1.out.of_below hB4).waits⟩
                       have j0 : w3.cell? ⟨w.heap.size, 0, none⟩ = some (.int .i64 m.room) := hs3.dsk 0
                       have j1 : w3.cell? ⟨w.heap.size, 1, none⟩ = some (.int .i64 (m.count + 1)) := hs3.dsk 1
                       have j2 : w3.cell? ⟨w.heap.size, 2, none⟩ = some (.slice h.bp h.bn h.bc) := hs3.dsk 2
                       have j3 : w3.cell? ⟨w.heap.size, 3, none⟩ = some (.slice h.sp h.sn h.sc) := hs3.dsk 3
                       have j4 : w3.cell? ⟨w.heap.size, 4, none⟩ = some (.slice h.fp h.fn h.fc) := hs3.dsk 4
                       have j5 : w3.cell? ⟨w.heap.size, 5, none⟩ = some (.slice h.wp h.wn h.wc) := hs3.dsk 5
                       have jf2 := hs3.free 2
                       have hs4 := hs3.set 2 (by show 2 < 6; decide) (.slice p8 (h.bn + 1) c8)
                       have HS4 := Lib.hid hs4
                       have HC := Lib.hid (HCH.out _ p8 c8 hs4.size (hrf.set 2 (.slice p8 (h.bn + 1) c8)))
                       clear hO4 hg4 hB4 hs3 hG1 hbs hbp hrf hs4))
                  rw [show wrap64 (h.bn : Int) = (h.bn : Int) from by have := HNN.out.2.2; unfold wrap64; omega]
                  with_reducible refine HC.out.mono ?_
                  rintro e w' ⟨h', rfl, hR, hB⟩
                  obtain ⟨s0, s1, s2, s3, s4, s5⟩ := m2
                  obtain ⟨b1, b2, b3, b4, b5, b6, b7, b8, b9, b10, b11, b12⟩ := h'
                  have hst := HS4.out.next hB
                  have HR := Lib.hid hR
                  dsimp only
                  clear r0 r1 r2 r3 r4 r5 zf0 zf1 zf2 zf3 zf4 zf5
                  have HC6 := Lib.hid (put6_cell (.int .i64 s0) (.int .i64 s1) (.slice b1 b2 b3) (.slice b4 b5 b6) (.slice b7 b8 b9) (.slice b10 b11 b12) hst.res)
                  have HB6 := Lib.hid (put6_below (b := w.heap.size + 1) (.int .i64 s0) (.int .i64 s1) (.slice b1 b2 b3) (.slice b4 b5 b6) (.slice b7 b8 b9) (.slice b10 b11 b12) hst.bel (by omega))
                  have r0 : w'.cell? ⟨w.heap.size + 1, 0, none⟩ = some (.int .i64 0) := hst.res 0
                  have r1 : w'.cell? ⟨w.heap.size + 1, 1, none⟩ = some (.int .i64 0) := hst.res 1
                  have r2 : w'.cell? ⟨w.heap.size + 1, 2, none⟩ = some (.slice none 0 0) := hst.res 2
                  have r3 : w'.cell? ⟨w.heap.size + 1, 3, none⟩ = some (.slice none 0 0) := hst.res 3
                  have r4 : w'.cell? ⟨w.heap.size + 1, 4, none⟩ = some (.slice none 0 0) := hst.res 4
                  have r5 : w'.cell? ⟨w.heap.size + 1, 5, none⟩ = some (.slice none 0 0) := hst.res 5
                  have zf0 := hst.rfree 0
                  have zf1 := hst.rfree 1
                  have zf2 := hst.rfree 2
                  have zf3 := hst.rfree 3
                  have zf4 := hst.rfree 4
                  have zf5 := hst.rfree 5
                  clear hR hB hst
                  go_wp2
                  refine bodyPost_ret (v := .tuple #[.agg #[.int .i64 s0, .int .i64 s1, .slice b1 b2 b3, .slice b4 b5 b6, .slice b7 b8 b9, .slice b10 b11 b12], .int .i64 0]) ?_ rfl ?_
                  · have e := HC6.out
                    unfold put6 at e
                    obtain ⟨e0, e1, e2, e3, e4, e5⟩ := e
                    simp [results, Tryz.f15, go_sem, e0, e1, e2, e3, e4, e5]
                  · show DkPost G w (writeL m p b time) _ _
                    rw [HWR.out]
                    exact ⟨⟨b1, b2, b3, b4, b5, b6, b7, b8, b9, b10, b11, b12⟩, rfl, HR.out.out6 _ _ _ _ _ _, HB6.out⟩
            · have yf : decide (fi < 0) = false := decide_eq_false hf0
              have hnn : (findL m.seen p).isNone = false := by
                rcases hff : findL m.seen p with _ | i
                · have := findI_none hff
                  rw [HFI.out] at this
                  omega
                · rfl
              rw [hnn] at hwr
              rw [if_neg (by rw [Bool.false_and]; decide)] at hwr
              by_cases hlt : L < (b.length : Int)
              · have ylt : decide (L < (b.length : Int)) = true := decide_eq_true hlt
                rw [if_pos hlt] at hwr
                have HC6 := Lib.hid (put6_cell (.int .i64 m.room) (.int .i64 m.count) (.slice h.bp h.bn h.bc) (.slice h.sp h.sn h.sc) (.slice h.fp h.fn h.fc) (.slice h.wp h.wn h.wc) HSU.out.res)
                have HB6 := Lib.hid (put6_below (b := w.heap.size + 1) (.int .i64 m.room) (.int .i64 m.count) (.slice h.bp h.bn h.bc) (.slice h.sp h.sn h.sc) (.slice h.fp h.fn h.fc) (.slice h.wp h.wn h.wc) HSU.out.bel (by omega))
                have HWR := Lib.hid (show writeL m p b time = (m, 10) from hwr)
                clear hwr
                go_wp2_with fail
                refine HGD.out.mono ?_
                rintro e w' ⟨rfl, rfl⟩
                go_wp2_with fail
                refine HCL.out.mono ?_
                rintro e w' ⟨rfl, rfl⟩
                go_wp2
                refine bodyPost_ret (v := .tuple #[.agg #[.int .i64 m.room, .int .i64 m.count, .slice h.bp h.bn h.bc, .slice h.sp h.sn h.sc, .slice h.fp h.fn h.fc, .slice h.wp h.wn h.wc], .int .i64 10]) ?_ rfl ?_
                · have e := HC6.out
                  unfold put6 at e
                  obtain ⟨e0, e1, e2, e3, e4, e5⟩ := e
                  simp [results, Tryz.f15, go_sem, e0, e1, e2, e3, e4, e5]
                · show DkPost G w (writeL m p b time) _ _
                  rw [HWR.out]
                  exact ⟨h, rfl, RU.out.out6 _ _ _ _ _ _, HB6.out⟩
              · have ylt : decide (L < (b.length : Int)) = false := decide_eq_false hlt
                rw [if_neg hlt] at hwr
                have HWR := Lib.hid hwr
                clear hwr
                go_wp2_with fail
                refine HGD.out.mono ?_
                rintro e w' ⟨rfl, rfl⟩
                go_wp2_with fail
                refine HCL.out.mono ?_
                rintro e w' ⟨rfl, rfl⟩
                have hwc : IntKind.i64.wrap (m.count + 1) = m.count + 1 := by rw [IntKind.wrap_i64]; omega
                have kf1 := HSU.out.free 1
                have hs1 : St2 w ((lisD m h).set 1 (.int .i64 (m.count + 1))) (u.setCell ⟨w.heap.size, 1, none⟩ (.int .i64 (m.count + 1))) := HSU.out.set 1 (by show 1 < 6; decide) _
                have ru1 : RfG (G2 G w.heap.size) (u.setCell ⟨w.heap.size, 1, none⟩ (.int .i64 (m.count + 1))) m h := RU.out.set 1 _
                have hz1 : (u.setCell ⟨w.heap.size, 1, none⟩ (.int .i64 (m.count + 1))).heap.size = u.heap.size := World.size_setCell ..
                have q2' : ∀ o, ((u.setCell ⟨w.heap.size, 1, none⟩ (.int .i64 (m.count + 1))).alloc o).cell? ⟨w.heap.size, 2, none⟩ = some (.slice h.bp h.bn h.bc) := fun o => (hs1.alloc o).dsk 2
                have hblen := RU.out.bodies.len
                have HCH := Lib.hid (fun (U : World) (p8 : Option Addr) (c8 : Nat) (hsz : w.heap.size + 2 ≤ U.heap.size) (ru : RfG (G2 G w.heap.size) U { m with count := m.count + 1, bodies := m.bodies ++ [b] } ⟨p8, h.bn + 1, c8, h.sp, h.sn, h.sc, h.fp, h.fn, h.fc, h.wp, h.wn, h.wc⟩) => refChange_any (G2 G w.heap.size) { m with count := m.count + 1, bodies := m.bodies ++ [b] } ⟨p8, h.bn + 1, c8, h.sp, h.sn, h.sc, h.fp, h.fn, h.fc, h.wp, h.wn, h.wc⟩ ⟨1, [], ⟨p, m.bodies.length, b.length, time, m.count + 1⟩⟩ ⟨.inl rfl, hp100, by exact Nat.zero_lt_succ _⟩ HSH.out HNN.out.1 HNN.out.2.1 U (fun k hk => ⟨HG.out k (by omega), by omega, by omega⟩) ru)
                obtain ⟨m2, hm2⟩ : ∃ m2, changeL { m with count := m.count + 1, bodies := m.bodies ++ [b] } ⟨1, [], ⟨p, m.bodies.length, b.length, time, m.count + 1⟩⟩ = m2 := ⟨_, rfl⟩
                rw [hm2] at HCH HWR
                unfold aggD aggC at HCH
                dsimp only at HCH
                rw [mk0, hblen, show ((1 : Nat) : Int) = 1 from rfl] at HCH
                obtain ⟨cs, hrow1, hrow2⟩ := ru1.bodies.row
                have HROW1 := Lib.hid hrow1
                have HROW2 := Lib.hid hrow2
                have HONE := Lib.hid (BsG.one ru1.bodies.len hrow1 hrow2)
                have HCL2 := Lib.hid (show cs.length = h.bn from by have := hrow1.len; omega)
                have HHP := Lib.hid hp100
                obtain ⟨U1, hU1⟩ : ∃ U1, u.setCell ⟨w.heap.size, 1, none⟩ (.int .i64 (m.count + 1)) = U1 := ⟨_, rfl⟩
                rw [hU1] at hs1 ru1 hz1 HROW1 HROW2
                have HU1 := Lib.hid hU1
                have HST1 := Lib.hid hs1
                have RU1 := Lib.hid ru1
                have HO1 := Lib.hid (show (U1.alloc (.cells #[] 32)).ownsRow U1.heap.size 32 1 (.slice (some ⟨u.heap.size, 0, none⟩) 0 0) 0 [] from by have := own_empty (E := 32) (k := 1) U1 U1.heap.size (Nat.le_refl _); rw [hz1] at this ⊢; exact this)
                have HB1 := Lib.hid (show Below U1.heap.size U1 (U1.alloc (.cells #[] 32)) from (Below.refl _ _).alloc (Nat.le_refl _) _)
                clear hs1 ru1 hz1 hblen hm2 hrow1 hrow2 hp100 hU1
                go_wp2_with (first
                  | (rw [HU1.out]
                     refine wpl_appendK elR _ rfl (.tmp 73) (.tmp 75) rfl U1.heap.size rfl HO1.out h.bp h.bn h.bc cs (by have := HCL2.out; omega) rfl (HROW1.out.at_.of_below HB1.out) (HROW1.out.nilp (by decide)) HONE.out (by have := HNN.out.2.2; omega) HB1.out.size ?_
                     rintro v1 w1 hO1 hg1 _
                     rw [Nat.zero_add, List.nil_append] at hO1
                     have hB1 := HB1.out.grown hg1 HB1.out.size (fun g hg => (HO1.out.lt g hg).1)
                     obtain ⟨p1, c1, e1, -, -, -⟩ := own_shape hO1
                     subst e1
                     have HO1b := Lib.hid hO1
                     have HB1b := Lib.hid hB1
                     have HO2 := Lib.hid (show (w1.alloc (.cells #[] 5)).ownsRow w1.heap.size 5 1 (.slice (some ⟨w1.heap.size, 0, none⟩) 0 0) 0 [] from own_empty w1 w1.heap.size (Nat.le_refl _))
                     have HB2 := Lib.hid (show Below w1.heap.size w1 (w1.alloc (.cells #[] 5)) from (Below.refl _ _).alloc (Nat.le_refl _) _)
                     have HBY1 := Lib.hid (HBY.out.at_.of_below (((HST1.out.next hB1).next HB2.out).bel))
                     clear hO1 hg1 hB1)
                  | (refine wpl_appendK elB _ rfl (.tmp 77) (.tmp 78) rfl w1.heap.size rfl HO2.out bq b.length bc (bytC b) (by rw [bytC_len]; omega) rfl HBY1.out (HBY.out.nilp (by decide)) (bytC_one b) (by omega) HB2.out.size ?_
                     rintro v2 w2 hO2 hg2 _
                     rw [Nat.zero_add, List.nil_append] at hO2
                     have hB2 := HB2.out.grown hg2 HB2.out.size (fun g hg => (HO2.out.lt g hg).1)
                     obtain ⟨p5, c5, e2, -, -, -⟩ := own_shape hO2
                     subst e2
                     have HO2b := Lib.hid hO2
                     have ha2 : Below w2.heap.size w2 (w2.alloc (.cells #[.slice p5 b.length c5] 32)) := (Below.refl _ _).alloc (Nat.le_refl _) _
                     have HA2 := Lib.hid ha2
                     have HB3 := Lib.hid (show Below w1.heap.size w1 (w2.alloc (.cells #[.slice p5 b.length c5] 32)) from hB2.trans (ha2.mono hB2.size))
                     have HO3 := Lib.hid (own_below (own_below HO1b.out hB2) ha2)
                     have HM3 := Lib.hid (show LsC (w2.alloc (.cells #[.slice p5 b.length c5] 32)) (some ⟨w2.heap.size, 0, none⟩) [.slice p5 b.length c5] from LsC.made w2 [.slice p5 b.length c5] 32)
                     clear hO2 hg2 hB2 ha2)
                  | (refine wpl_appendK elR _ rfl (.tmp 76) (.tmp 80) rfl U1.heap.size rfl HO3.out (some ⟨w2.heap.size, 0, none⟩) 1 1 [.slice p5 b.length c5] rfl rfl HM3.out (fun e => by cases e) (by intro x hx; simp at hx; subst hx; rfl) (by have := HNN.out.2.2; omega) (Nat.le_trans HB1b.out.size HB3.out.size) ?_
                     rintro v3 w3 hO4 hg4 _
                     have hB4 : Below U1.heap.size U1 w3 := (HB1b.out.trans (HB3.out.mono HB1b.out.size)).grown hg4 (Nat.le_trans HB1b.out.size HB3.out.size) (fun g hg => (HO3.out.lt g hg).1)
                     obtain ⟨p8, c8, e3, -, -, -⟩ := own_shape hO4
                     subst e3
                     have hs3 := HST1.out.next hB4
                     have hG1 : ∀ k, U1.heap.size ≤ k → G2 G w.heap.size k := fun k hk => by have := HST1.out.size; exact ⟨HG.out k (by omega), by omega, by omega⟩
                     have hbs : LsG (G2 G w.heap.size) w3 p5 b.length c5 1 (bytC b) := by
                       have h0 := LsG.fresh (G := fun k => w1.heap.size ≤ k) HO2b.out (fun k hk => hk)
                       have h1 := h0.of_below HA2.out
                       have h2 := h1.keep (w' := w3) (fun c hc hl => hg4.block c hl (fun e => by have := (HO1b.out.lt c e.symm).2; omega)) hg4.size
                       exact h2.wider fun c hc _ => hG1 c (Nat.le_trans HB1b.out.size hc)
                     have hbp : BsG (G2 G w.heap.size) w3 p8 (h.bn + 1) c8 (m.bodies ++ [b]) := BsG.push RU1.out.bodies.len HROW1.out HROW2.out hB4 b hbs (LsG.fresh hO4 hG1)
                     have hrf : RfG (G2 G w.heap.size) w3 { m with count := m.count + 1, bodies := m.bodies ++ [b] } ⟨p8, h.bn + 1, c8, h.sp, h.sn, h.sc, h.fp, h.fn, h.fc, h.wp, h.wn, h.wc⟩ := ⟨hbp, (RU1.out.of_below hB4).seen, (RU1.out.of_below hB4).safe, (RU1.out.of_below hB4).waits⟩
                     have j0 : w3.cell? ⟨w.heap.size, 0, none⟩ = some (.int .i64 m.room) := hs3.dsk 0
                     have j1 : w3.cell? ⟨w.heap.size, 1, none⟩ = some (.int .i64 (m.count + 1)) := hs3.dsk 1
                     have j2 : w3.cell? ⟨w.heap.size, 2, none⟩ = some (.slice h.bp h.bn h.bc) := hs3.dsk 2
                     have j3 : w3.cell? ⟨w.heap.size, 3, none⟩ = some (.slice h.sp h.sn h.sc) := hs3.dsk 3
                     have j4 : w3.cell? ⟨w.heap.size, 4, none⟩ = some (.slice h.fp h.fn h.fc) := hs3.dsk 4
                     have j5 : w3.cell? ⟨w.heap.size, 5, none⟩ = some (.slice h.wp h.wn h.wc) := hs3.dsk 5
                     have jf2 := hs3.free 2
                     have hs4 := hs3.set 2 (by show 2 < 6; decide) (.slice p8 (h.bn + 1) c8)
                     have HS4 := Lib.hid hs4
                     have HC := Lib.hid (HCH.out _ p8 c8 hs4.size (hrf.set 2 (.slice p8 (h.bn + 1) c8)))
                     clear hO4 hg4 hB4 hs3 hG1 hbs hbp hrf hs4))
                rw [show wrap64 (h.bn : Int) = (h.bn : Int) from by have := HNN.out.2.2; unfold wrap64; omega]
                with_reducible refine HC.out.mono ?_
                rintro e w' ⟨h', rfl, hR, hB⟩
                obtain ⟨s0, s1, s2, s3, s4, s5⟩ := m2
                obtain ⟨b1, b2, b3, b4, b5, b6, b7, b8, b9, b10, b11, b12⟩ := h'
                have hst := HS4.out.next hB
                have HR := Lib.hid hR
                dsimp only
                clear r0 r1 r2 r3 r4 r5 zf0 zf1 zf2 zf3 zf4 zf5
                have HC6 := Lib.hid (put6_cell (.int .i64 s0) (.int .i64 s1) (.slice b1 b2 b3) (.slice b4 b5 b6) (.slice b7 b8 b9) (.slice b10 b11 b12) hst.res)
                have HB6 := Lib.hid (put6_below (b := w.heap.size + 1) (.int .i64 s0) (.int .i64 s1) (.slice b1 b2 b3) (.slice b4 b5 b6) (.slice b7 b8 b9) (.slice b10 b11 b12) hst.bel (by omega))
                have r0 : w'.cell? ⟨w.heap.size + 1, 0, none⟩ = some (.int .i64 0) := hst.res 0
                have r1 : w'.cell? ⟨w.heap.size + 1, 1, none⟩ = some (.int .i64 0) := hst.res 1
                have r2 : w'.cell? ⟨w.heap.size + 1, 2, none⟩ = some (.slice none 0 0) := hst.res 2
                have r3 : w'.cell? ⟨w.heap.size + 1, 3, none⟩ = some (.slice none 0 0) := hst.res 3
                have r4 : w'.cell? ⟨w.heap.size + 1, 4, none⟩ = some (.slice none 0 0) := hst.res 4
                have r5 : w'.cell? ⟨w.heap.size + 1, 5, none⟩ = some (.slice none 0 0) := hst.res 5
                have zf0 := hst.rfree 0
                have zf1 := hst.rfree 1
                have zf2 := hst.rfree 2
                have zf3 := hst.rfree 3
                have zf4 := hst.rfree 4
                have zf5 := hst.rfree 5
                clear hR hB hst
                go_wp2
                refine bodyPost_ret (v := .tuple #[.agg #[.int .i64 s0, .int .i64 s1, .slice b1 b2 b3, .slice b4 b5 b6, .slice b7 b8 b9, .slice b10 b11 b12], .int .i64 0]) ?_ rfl ?_
                · have e := HC6.out
                  unfold put6 at e
                  obtain ⟨e0, e1, e2, e3, e4, e5⟩ := e
                  simp [results, Tryz.f15, go_sem, e0, e1, e2, e3, e4, e5]
                · show DkPost G w (writeL m p b time) _ _
                  rw [HWR.out]
                  exact ⟨⟨b1, b2, b3, b4, b5, b6, b7, b8, b9, b10, b11, b12⟩, rfl, HR.out.out6 _ _ _ _ _ _, HB6.out⟩
    cases hf : findL m.seen p with
    | none =>
      have e1 : fi = -1 := by rw [← HFI.out]; exact findI_none hf
      subst e1
      have hle : leftL m p = m.room - (ul : Int) := by rw [leftL_none hf, HUE.out]
      go_wp2
      exact HK2 _ _ _ _ _ _ _ _ _ _ _ _ _ _ _ _ _ _ _ _ _ _ _ _ _ _ hle hs hBu
    | some i =>
      have e1 : fi = (i : Int) := by rw [← HFI.out]; exact findI_some hf
      subst e1
      have zi1 : ¬ ((i : Int) < 0) := by omega
      have zi2 : decide ((i : Int) < 0) = false := decide_eq_false zi1
      have zi3 : (0 : Int) ≤ (i : Int) := by omega
      have zi5 : decide ((0 : Int) ≤ (i : Int)) = true := decide_eq_true zi3
      have hil := findL_lt hf
      have his : i < h.sn := by rw [← R2.out.sn]; exact hil
      have zi4 : (i : Int) < (h.sn : Int) := by omega
      have ru := R2.out.of_below hBu
      obtain ⟨f, hfe⟩ : ∃ f, m.seen.getD i fl0 = f := ⟨_, rfl⟩
      have hle := leftL_some hf
      rw [hfe, HUE.out, show bodyL m f = m.bodies.getD f.body [] from rfl] at hle
      obtain ⟨c0, o0, hpe, hc0, hx⟩ := ru.seen.files.cell (i := i) (j := 1) his (u := .int .i64 (f.body : Int)) (by rw [hfe]; rfl)
      rw [← Nat.add_assoc] at hx
      have hfb : f.body < h.bn := by rw [← R2.out.bodies.len, ← hfe]; exact HIN.out i hil
      have zb1 : (0 : Int) ≤ (f.body : Int) := by omega
      have zb2 : (f.body : Int) < (h.bn : Int) := by omega
      obtain ⟨c4, o4, q, cq, hpe2, hc4, hy, _⟩ := ru.bodies.head hfb
      have hbb : (m.bodies.getD f.body []).length ≤ 300000 := HSB.out _
      obtain ⟨bl, hble⟩ : ∃ bl, (m.bodies.getD f.body []).length = bl := ⟨_, rfl⟩
      rw [hble] at hle hy hbb
      have hws2 : IntKind.i64.wrap (m.room - (ul : Int) + (bl : Int)) = m.room - (ul : Int) + (bl : Int) := by rw [IntKind.wrap_i64]; have := HNN.out.1; omega
      have k2 : u.cell? ⟨w.heap.size, 2, none⟩ = some (.slice (some ⟨c4, o4, none⟩) h.bn h.bc) := by rw [← hpe2]; exact hs.dsk 2
      have k3 : u.cell? ⟨w.heap.size, 3, none⟩ = some (.slice (some ⟨c0, o0, none⟩) h.sn h.sc) := by rw [← hpe]; exact hs.dsk 3
      clear hfe hil hc0 hc4 hble hfb hbb hws hul ru hpe hpe2
      go_wp2
      go_quiet (fail)
      have hs2 := hs.next (u' := u.drewN nq) (((Dr.refl u).drewN nq).below _)
      have hB2 : Below W.heap.size W (u.drewN nq) := hBu.trans (((Dr.refl u).drewN nq).below _)
      exact HK2 _ _ _ _ _ _ _ _ _ _ _ _ _ _ _ _ _ _ _ _ _ _ _ _ _ _ hle hs2 hB2
  go_region_law (first
    | (go_simp; go_at_call 27
       with_reducible refine HUS.out.mono ?_
       rintro e w2 ⟨rfl, hB2⟩
       have hB3 : Below W.heap.size W w2 := ((Below.refl _ _).drew).trans hB2
       have hs2 := HST.out.next hB3
       have k0 : w2.cell? ⟨w.heap.size, 0, none⟩ = some (.int .i64 m.room) := hs2.dsk 0
       have HS2 := Lib.hid hs2
       have HB3 := Lib.hid hB3
       clear hs2 hB2 hB3))
  all_goals exact HK1 _ _ _ _ _ _ _ _ _ _ HS2.out HB3.out
end Go.Proofs.YtjglgohchhdkkaaGreatDoor
