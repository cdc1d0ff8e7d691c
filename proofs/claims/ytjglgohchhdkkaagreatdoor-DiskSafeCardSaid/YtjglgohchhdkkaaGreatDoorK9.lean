/- Merged texts: DoC2, DoC3, DoC4, DoC5. -/
import Derived.Test.YtjglgohchhdkkaaGreatDoorK7
set_option linter.unusedSimpArgs false
set_option linter.unusedVariables false
/- Do: a file is removed. -/
namespace Go.Proofs.YtjglgohchhdkkaaGreatDoor
open Go Go.RowKit

set_option maxRecDepth 100000 in
set_option maxHeartbeats 8000000 in
theorem do_2 {w : World} {S G : Nat → Prop} {b : Nat} {m : Dk} {h : Hd} {x : Ac × AcH} (hi : DoIn w S G b m h x) (h7 : x.1.kind % 7 = 2) :
    Calls Tryz.prog 8 #[.pointer (some ⟨b, 0, none⟩), aggD m h, actV x] w fun e w' => DoPost S G b w (stepL m x.1) e w' := by
  obtain ⟨hst, hB0⟩ := bx3_start w m h x
  obtain ⟨W, hW⟩ : ∃ W, (((w.alloc (boxD m h)).alloc (boxAct x)).alloc (.cells zerD.toArray 31)) = W := ⟨_, rfl⟩
  have HE := Lib.hid (show (((w.alloc (.cells #[.int .i64 m.room, .int .i64 m.count, .slice h.bp h.bn h.bc, .slice h.sp h.sn h.sc, .slice h.fp h.fn h.fc, .slice h.wp h.wn h.wc] 31)).alloc (.cells #[.int .u8 (x.1.kind : Int), .string (mkS x.1.path), .string (mkS x.1.to_), .slice x.2.bq x.1.b.length x.2.bc, .int .i64 x.1.n, .slice x.2.kp x.1.ks.length x.2.kc] 35)).alloc (.cells #[.int .i64 0, .int .i64 0, .slice none 0 0, .slice none 0 0, .slice none 0 0, .slice none 0 0] 31)) = W from hW)
  rw [hW] at hst hB0
  have HI := Lib.hid hi
  have HST := Lib.hid hst
  have HB0 := Lib.hid hB0
  have hst7 : stepL m x.1 = (removeL m x.1.path).1 := by unfold stepL; rw [h7]; rfl
  have HS7 := Lib.hid hst7
  have d0 : W.cell? ⟨w.heap.size, 0, none⟩ = some (.int .i64 m.room) := hst.dsk 0
  have d1 : W.cell? ⟨w.heap.size, 1, none⟩ = some (.int .i64 m.count) := hst.dsk 1
  have d2 : W.cell? ⟨w.heap.size, 2, none⟩ = some (.slice h.bp h.bn h.bc) := hst.dsk 2
  have d3 : W.cell? ⟨w.heap.size, 3, none⟩ = some (.slice h.sp h.sn h.sc) := hst.dsk 3
  have d4 : W.cell? ⟨w.heap.size, 4, none⟩ = some (.slice h.fp h.fn h.fc) := hst.dsk 4
  have d5 : W.cell? ⟨w.heap.size, 5, none⟩ = some (.slice h.wp h.wn h.wc) := hst.dsk 5
  have a0 : W.cell? ⟨w.heap.size + 1, 0, none⟩ = some (.int .u8 (x.1.kind : Int)) := hst.act 0
  have a1 : W.cell? ⟨w.heap.size + 1, 1, none⟩ = some (.string (mkS x.1.path)) := hst.act 1
  have a2 : W.cell? ⟨w.heap.size + 1, 2, none⟩ = some (.string (mkS x.1.to_)) := hst.act 2
  have a3 : W.cell? ⟨w.heap.size + 1, 3, none⟩ = some (.slice x.2.bq x.1.b.length x.2.bc) := hst.act 3
  have a4 : W.cell? ⟨w.heap.size + 1, 4, none⟩ = some (.int .i64 x.1.n) := hst.act 4
  have a5 : W.cell? ⟨w.heap.size + 1, 5, none⟩ = some (.slice x.2.kp x.1.ks.length x.2.kc) := hst.act 5
  have q7 : ((x.1.kind : Int).tmod 7) = 2 := by have := hi.kind; rw [Int.tmod_eq_emod_of_nonneg (by omega)]; omega
  clear hst hB0 hW hi h7 hst7
  obtain ⟨m2, hm2⟩ : ∃ m2, (removeL m x.1.path).1 = m2 := ⟨_, rfl⟩
  obtain ⟨cd, hcd⟩ : ∃ cd, (removeL m x.1.path).2 = cd := ⟨_, rfl⟩
  have HRF : Hid (Calls Tryz.prog 18 #[aggD m h, .string (mkS x.1.path)] W fun e w' => ∃ h', e = .returned (.tuple #[aggD m2 h', .int .i64 (cd : Int)]) ∧ RfG (G1 G S w.heap.size (w.heap.size + 1 + 1)) w' m2 h' ∧ Below W.heap.size W w') := Lib.hid (by
    have hr := HI.out.into HB0.out (g := w.heap.size + 1 + 1) (by omega)
    have hsn := hr.sn
    have hwn := hr.wn
    have hfn := hr.fn
    have hbn := hr.bodies.len
    have o1 := HI.out.ok.seen
    have o2 := HI.out.ok.both
    have o3 := HI.out.ok.bod
    have o4 := HI.out.path
    have o5 := HI.out.to_
    have o6 := HI.out.kep
    rw [← hm2, ← hcd]
    exact refRemove_any _ m h x.1.path (by omega) HI.out.ok.shS (by omega) (by omega) W (HI.out.g1 HST.out.size (by have := HST.out.size; omega)) hr)
  have HPR : Hid (∀ V, Below w.heap.size w V → Calls Tryz.prog 19 #[.pointer (some ⟨b, 0, none⟩), .string (mkS x.1.path)] V fun e w' => e = .returned (.int .i64 (cd : Int)) ∧ Nxt S b V m2 w') := Lib.hid (fun V hV => by
    have hd := HI.out.disk.of_below hV
    have o4 := HI.out.path
    have o5 := HI.out.to_
    have o6 := HI.out.kep
    rw [← hm2, ← hcd]
    exact dremove_any hd (HI.out.ok.mono (by decide)) x.1.path (by omega))
  rw [hm2] at HS7
  clear hm2 hcd
  unfold aggD at HRF
  unfold aggD actV
  go_enter Tryz.func8, Tryz.ntmps8
  go_wp2_with fail
  rw [HE.out]
  refine HRF.out.mono ?_
  rintro e w2 ⟨h2, rfl, hr2, hB2⟩
  have hst2 := HST.out.next hB2
  clear d0 d1 d2 d3 d4 d5 a0 a1 a2 a3 a4 a5
  have d0 : w2.cell? ⟨w.heap.size, 0, none⟩ = some (.int .i64 m.room) := hst2.dsk 0
  have d1 : w2.cell? ⟨w.heap.size, 1, none⟩ = some (.int .i64 m.count) := hst2.dsk 1
  have d2 : w2.cell? ⟨w.heap.size, 2, none⟩ = some (.slice h.bp h.bn h.bc) := hst2.dsk 2
  have d3 : w2.cell? ⟨w.heap.size, 3, none⟩ = some (.slice h.sp h.sn h.sc) := hst2.dsk 3
  have d4 : w2.cell? ⟨w.heap.size, 4, none⟩ = some (.slice h.fp h.fn h.fc) := hst2.dsk 4
  have d5 : w2.cell? ⟨w.heap.size, 5, none⟩ = some (.slice h.wp h.wn h.wc) := hst2.dsk 5
  have f0 := hst2.free 0
  have f1 := hst2.free 1
  have f2 := hst2.free 2
  have f3 := hst2.free 3
  have f4 := hst2.free 4
  have f5 := hst2.free 5
  have a0 : w2.cell? ⟨w.heap.size + 1, 0, none⟩ = some (.int .u8 (x.1.kind : Int)) := hst2.act 0
  have a1 : w2.cell? ⟨w.heap.size + 1, 1, none⟩ = some (.string (mkS x.1.path)) := hst2.act 1
  have a2 : w2.cell? ⟨w.heap.size + 1, 2, none⟩ = some (.string (mkS x.1.to_)) := hst2.act 2
  have a3 : w2.cell? ⟨w.heap.size + 1, 3, none⟩ = some (.slice x.2.bq x.1.b.length x.2.bc) := hst2.act 3
  have a4 : w2.cell? ⟨w.heap.size + 1, 4, none⟩ = some (.int .i64 x.1.n) := hst2.act 4
  have a5 : w2.cell? ⟨w.heap.size + 1, 5, none⟩ = some (.slice x.2.kp x.1.ks.length x.2.kc) := hst2.act 5
  have hst3 := hst2.putD rfl (.int .i64 m2.room) (.int .i64 m2.count) (.slice h2.bp h2.bn h2.bc) (.slice h2.sp h2.sn h2.sc) (.slice h2.fp h2.fn h2.fc) (.slice h2.wp h2.wn h2.wc)
  have HBV : Hid (Below w.heap.size w (put6 w2 w.heap.size (.int .i64 m2.room) (.int .i64 m2.count) (.slice h2.bp h2.bn h2.bc) (.slice h2.sp h2.sn h2.sc) (.slice h2.fp h2.fn h2.fc) (.slice h2.wp h2.wn h2.wc))) := Lib.hid (put6_below _ _ _ _ _ _ (HB0.out.trans (hB2.mono HB0.out.size)) (Nat.le_refl _))
  have hz2 := hst2.size
  have HND := Lib.hid (fun (w4 : World) (hn : Nxt S b (put6 w2 w.heap.size (.int .i64 m2.room) (.int .i64 m2.count) (.slice h2.bp h2.bn h2.bc) (.slice h2.sp h2.sn h2.sc) (.slice h2.fp h2.fn h2.fc) (.slice h2.wp h2.wn h2.wc)) m2 w4) => do_end (g := w.heap.size + 1 + 1) HI.out.disk.low HB0.out HST.out.size hB2 hr2 (.int .i64 m2.room) (.int .i64 m2.count) (.slice h2.bp h2.bn h2.bc) (.slice h2.sp h2.sn h2.sc) (.slice h2.fp h2.fn h2.fc) (.slice h2.wp h2.wn h2.wc) hn (by omega) (by omega) (Kp.refl _ _) (.int .i64 m2.room) (.int .i64 m2.count) (.slice h2.bp h2.bn h2.bc) (.slice h2.sp h2.sn h2.sc) (.slice h2.fp h2.fn h2.fc) (.slice h2.wp h2.wn h2.wc))
  have HS2 := Lib.hid hst2.size
  obtain ⟨V, hV⟩ : ∃ V, put6 w2 w.heap.size (.int .i64 m2.room) (.int .i64 m2.count) (.slice h2.bp h2.bn h2.bc) (.slice h2.sp h2.sn h2.sc) (.slice h2.fp h2.fn h2.fc) (.slice h2.wp h2.wn h2.wc) = V := ⟨_, rfl⟩
  have HEV := Lib.hid (show ((((((w2.setCell ⟨w.heap.size, 0, none⟩ (.int .i64 m2.room)).setCell ⟨w.heap.size, 1, none⟩ (.int .i64 m2.count)).setCell ⟨w.heap.size, 2, none⟩ (.slice h2.bp h2.bn h2.bc)).setCell ⟨w.heap.size, 3, none⟩ (.slice h2.sp h2.sn h2.sc)).setCell ⟨w.heap.size, 4, none⟩ (.slice h2.fp h2.fn h2.fc)).setCell ⟨w.heap.size, 5, none⟩ (.slice h2.wp h2.wn h2.wc)) = V from hV)
  have HVS : Hid (V.heap.size = w2.heap.size) := Lib.hid (by rw [← hV, put6_sz])
  rw [hV] at hst3 HBV HND
  have HST3 := Lib.hid hst3
  have g0 : V.cell? ⟨w.heap.size + 1, 0, none⟩ = some (.int .u8 (x.1.kind : Int)) := hst3.act 0
  have g1 : V.cell? ⟨w.heap.size + 1, 1, none⟩ = some (.string (mkS x.1.path)) := hst3.act 1
  have g2 : V.cell? ⟨w.heap.size + 1, 2, none⟩ = some (.string (mkS x.1.to_)) := hst3.act 2
  have g3 : V.cell? ⟨w.heap.size + 1, 3, none⟩ = some (.slice x.2.bq x.1.b.length x.2.bc) := hst3.act 3
  have g4 : V.cell? ⟨w.heap.size + 1, 4, none⟩ = some (.int .i64 x.1.n) := hst3.act 4
  have g5 : V.cell? ⟨w.heap.size + 1, 5, none⟩ = some (.slice x.2.kp x.1.ks.length x.2.kc) := hst3.act 5
  clear hst2 hst3 hr2 hB2 hV hz2
  go_wp2_with fail
  rw [HEV.out]
  refine (HPR.out V HBV.out).mono ?_
  rintro e w4 ⟨rfl, hn⟩
  have hst4 := HST3.out.kq hn.2 (fun k hk => .inl (HI.out.disk.low k hk))
  clear d0 d1 d2 d3 d4 d5 a0 a1 a2 a3 a4 a5 f0 f1 f2 f3 f4 f5 g0 g1 g2 g3 g4 g5
  have d0 : w4.cell? ⟨w.heap.size, 0, none⟩ = some (.int .i64 m2.room) := hst4.dsk 0
  have d1 : w4.cell? ⟨w.heap.size, 1, none⟩ = some (.int .i64 m2.count) := hst4.dsk 1
  have d2 : w4.cell? ⟨w.heap.size, 2, none⟩ = some (.slice h2.bp h2.bn h2.bc) := hst4.dsk 2
  have d3 : w4.cell? ⟨w.heap.size, 3, none⟩ = some (.slice h2.sp h2.sn h2.sc) := hst4.dsk 3
  have d4 : w4.cell? ⟨w.heap.size, 4, none⟩ = some (.slice h2.fp h2.fn h2.fc) := hst4.dsk 4
  have d5 : w4.cell? ⟨w.heap.size, 5, none⟩ = some (.slice h2.wp h2.wn h2.wc) := hst4.dsk 5
  have r0 : w4.cell? ⟨w.heap.size + 1 + 1, 0, none⟩ = some (.int .i64 0) := hst4.res 0
  have r1 : w4.cell? ⟨w.heap.size + 1 + 1, 1, none⟩ = some (.int .i64 0) := hst4.res 1
  have r2 : w4.cell? ⟨w.heap.size + 1 + 1, 2, none⟩ = some (.slice none 0 0) := hst4.res 2
  have r3 : w4.cell? ⟨w.heap.size + 1 + 1, 3, none⟩ = some (.slice none 0 0) := hst4.res 3
  have r4 : w4.cell? ⟨w.heap.size + 1 + 1, 4, none⟩ = some (.slice none 0 0) := hst4.res 4
  have r5 : w4.cell? ⟨w.heap.size + 1 + 1, 5, none⟩ = some (.slice none 0 0) := hst4.res 5
  have z0 := hst4.rfree 0
  have z1 := hst4.rfree 1
  have z2 := hst4.rfree 2
  have z3 := hst4.rfree 3
  have z4 := hst4.rfree 4
  have z5 := hst4.rfree 5
  have HFIN := Lib.hid (HND.out w4 hn)
  have HC6 := Lib.hid (put6_cell (.int .i64 m2.room) (.int .i64 m2.count) (.slice h2.bp h2.bn h2.bc) (.slice h2.sp h2.sn h2.sc) (.slice h2.fp h2.fn h2.fc) (.slice h2.wp h2.wn h2.wc) hst4.res)
  clear hn hst4
  go_wp2
  refine bodyPost_ret (v := .tuple #[aggD m2 h2, .bool true]) ?_ rfl ?_
  · have e := HC6.out
    unfold put6 at e
    obtain ⟨e0, e1, e2, e3, e4, e5⟩ := e
    simp [results, Tryz.f8, go_sem, e0, e1, e2, e3, e4, e5, aggD]
  · rw [HS7.out]
    exact HFIN.out
end Go.Proofs.YtjglgohchhdkkaaGreatDoor
/- Do: a disk is synced. -/
namespace Go.Proofs.YtjglgohchhdkkaaGreatDoor
open Go Go.RowKit

set_option maxRecDepth 100000 in
set_option maxHeartbeats 8000000 in
theorem do_3 {w : World} {S G : Nat → Prop} {b : Nat} {m : Dk} {h : Hd} {x : Ac × AcH} (hi : DoIn w S G b m h x) (h7 : x.1.kind % 7 = 3) :
    Calls Tryz.prog 8 #[.pointer (some ⟨b, 0, none⟩), aggD m h, actV x] w fun e w' => DoPost S G b w (stepL m x.1) e w' := by
  obtain ⟨hst, hB0⟩ := bx3_start w m h x
  obtain ⟨W, hW⟩ : ∃ W, (((w.alloc (boxD m h)).alloc (boxAct x)).alloc (.cells zerD.toArray 31)) = W := ⟨_, rfl⟩
  have HE := Lib.hid (show (((w.alloc (.cells #[.int .i64 m.room, .int .i64 m.count, .slice h.bp h.bn h.bc, .slice h.sp h.sn h.sc, .slice h.fp h.fn h.fc, .slice h.wp h.wn h.wc] 31)).alloc (.cells #[.int .u8 (x.1.kind : Int), .string (mkS x.1.path), .string (mkS x.1.to_), .slice x.2.bq x.1.b.length x.2.bc, .int .i64 x.1.n, .slice x.2.kp x.1.ks.length x.2.kc] 35)).alloc (.cells #[.int .i64 0, .int .i64 0, .slice none 0 0, .slice none 0 0, .slice none 0 0, .slice none 0 0] 31)) = W from hW)
  rw [hW] at hst hB0
  have HI := Lib.hid hi
  have HST := Lib.hid hst
  have HB0 := Lib.hid hB0
  have hst7 : stepL m x.1 = syncL m := by unfold stepL; rw [h7]; rfl
  have HS7 := Lib.hid hst7
  have d0 : W.cell? ⟨w.heap.size, 0, none⟩ = some (.int .i64 m.room) := hst.dsk 0
  have d1 : W.cell? ⟨w.heap.size, 1, none⟩ = some (.int .i64 m.count) := hst.dsk 1
  have d2 : W.cell? ⟨w.heap.size, 2, none⟩ = some (.slice h.bp h.bn h.bc) := hst.dsk 2
  have d3 : W.cell? ⟨w.heap.size, 3, none⟩ = some (.slice h.sp h.sn h.sc) := hst.dsk 3
  have d4 : W.cell? ⟨w.heap.size, 4, none⟩ = some (.slice h.fp h.fn h.fc) := hst.dsk 4
  have d5 : W.cell? ⟨w.heap.size, 5, none⟩ = some (.slice h.wp h.wn h.wc) := hst.dsk 5
  have a0 : W.cell? ⟨w.heap.size + 1, 0, none⟩ = some (.int .u8 (x.1.kind : Int)) := hst.act 0
  have a1 : W.cell? ⟨w.heap.size + 1, 1, none⟩ = some (.string (mkS x.1.path)) := hst.act 1
  have a2 : W.cell? ⟨w.heap.size + 1, 2, none⟩ = some (.string (mkS x.1.to_)) := hst.act 2
  have a3 : W.cell? ⟨w.heap.size + 1, 3, none⟩ = some (.slice x.2.bq x.1.b.length x.2.bc) := hst.act 3
  have a4 : W.cell? ⟨w.heap.size + 1, 4, none⟩ = some (.int .i64 x.1.n) := hst.act 4
  have a5 : W.cell? ⟨w.heap.size + 1, 5, none⟩ = some (.slice x.2.kp x.1.ks.length x.2.kc) := hst.act 5
  have q7 : ((x.1.kind : Int).tmod 7) = 3 := by have := hi.kind; rw [Int.tmod_eq_emod_of_nonneg (by omega)]; omega
  clear hst hB0 hW hi h7 hst7
  obtain ⟨m2, hm2⟩ : ∃ m2, syncL m = m2 := ⟨_, rfl⟩
  have HRF : Hid (Calls Tryz.prog 11 #[aggD m h] W fun e w' => ∃ h', e = .returned (aggD m2 h') ∧ RfG (G1 G S w.heap.size (w.heap.size + 1 + 1)) w' m2 h' ∧ Below W.heap.size W w') := Lib.hid (by
    have hr := HI.out.into HB0.out (g := w.heap.size + 1 + 1) (by omega)
    have hsn := hr.sn
    have hwn := hr.wn
    have hfn := hr.fn
    have hbn := hr.bodies.len
    have o1 := HI.out.ok.seen
    have o2 := HI.out.ok.both
    have o3 := HI.out.ok.bod
    have o4 := HI.out.path
    have o5 := HI.out.to_
    have o6 := HI.out.kep
    rw [← hm2]
    exact refSync_any _ m h (by omega) W (HI.out.g1 HST.out.size (by have := HST.out.size; omega)) hr)
  have HPR : Hid (∀ V, Below w.heap.size w V → Calls Tryz.prog 10 #[.pointer (some ⟨b, 0, none⟩)] V fun e w' => e = .returned (.tuple #[]) ∧ Nxt S b V m2 w') := Lib.hid (fun V hV => by
    have hd := HI.out.disk.of_below hV
    have o4 := HI.out.path
    have o5 := HI.out.to_
    have o6 := HI.out.kep
    rw [← hm2]
    exact dsync_any hd)
  rw [hm2] at HS7
  clear hm2
  unfold aggD at HRF
  unfold aggD actV
  go_enter Tryz.func8, Tryz.ntmps8
  go_wp2_with fail
  rw [HE.out]
  refine HRF.out.mono ?_
  rintro e w2 ⟨h2, rfl, hr2, hB2⟩
  have hst2 := HST.out.next hB2
  clear d0 d1 d2 d3 d4 d5 a0 a1 a2 a3 a4 a5
  have d0 : w2.cell? ⟨w.heap.size, 0, none⟩ = some (.int .i64 m.room) := hst2.dsk 0
  have d1 : w2.cell? ⟨w.heap.size, 1, none⟩ = some (.int .i64 m.count) := hst2.dsk 1
  have d2 : w2.cell? ⟨w.heap.size, 2, none⟩ = some (.slice h.bp h.bn h.bc) := hst2.dsk 2
  have d3 : w2.cell? ⟨w.heap.size, 3, none⟩ = some (.slice h.sp h.sn h.sc) := hst2.dsk 3
  have d4 : w2.cell? ⟨w.heap.size, 4, none⟩ = some (.slice h.fp h.fn h.fc) := hst2.dsk 4
  have d5 : w2.cell? ⟨w.heap.size, 5, none⟩ = some (.slice h.wp h.wn h.wc) := hst2.dsk 5
  have f0 := hst2.free 0
  have f1 := hst2.free 1
  have f2 := hst2.free 2
  have f3 := hst2.free 3
  have f4 := hst2.free 4
  have f5 := hst2.free 5
  have a0 : w2.cell? ⟨w.heap.size + 1, 0, none⟩ = some (.int .u8 (x.1.kind : Int)) := hst2.act 0
  have a1 : w2.cell? ⟨w.heap.size + 1, 1, none⟩ = some (.string (mkS x.1.path)) := hst2.act 1
  have a2 : w2.cell? ⟨w.heap.size + 1, 2, none⟩ = some (.string (mkS x.1.to_)) := hst2.act 2
  have a3 : w2.cell? ⟨w.heap.size + 1, 3, none⟩ = some (.slice x.2.bq x.1.b.length x.2.bc) := hst2.act 3
  have a4 : w2.cell? ⟨w.heap.size + 1, 4, none⟩ = some (.int .i64 x.1.n) := hst2.act 4
  have a5 : w2.cell? ⟨w.heap.size + 1, 5, none⟩ = some (.slice x.2.kp x.1.ks.length x.2.kc) := hst2.act 5
  have hst3 := hst2.putD rfl (.int .i64 m2.room) (.int .i64 m2.count) (.slice h2.bp h2.bn h2.bc) (.slice h2.sp h2.sn h2.sc) (.slice h2.fp h2.fn h2.fc) (.slice h2.wp h2.wn h2.wc)
  have HBV : Hid (Below w.heap.size w (put6 w2 w.heap.size (.int .i64 m2.room) (.int .i64 m2.count) (.slice h2.bp h2.bn h2.bc) (.slice h2.sp h2.sn h2.sc) (.slice h2.fp h2.fn h2.fc) (.slice h2.wp h2.wn h2.wc))) := Lib.hid (put6_below _ _ _ _ _ _ (HB0.out.trans (hB2.mono HB0.out.size)) (Nat.le_refl _))
  have hz2 := hst2.size
  have HND := Lib.hid (fun (w4 : World) (hn : Nxt S b (put6 w2 w.heap.size (.int .i64 m2.room) (.int .i64 m2.count) (.slice h2.bp h2.bn h2.bc) (.slice h2.sp h2.sn h2.sc) (.slice h2.fp h2.fn h2.fc) (.slice h2.wp h2.wn h2.wc)) m2 w4) => do_end (g := w.heap.size + 1 + 1) HI.out.disk.low HB0.out HST.out.size hB2 hr2 (.int .i64 m2.room) (.int .i64 m2.count) (.slice h2.bp h2.bn h2.bc) (.slice h2.sp h2.sn h2.sc) (.slice h2.fp h2.fn h2.fc) (.slice h2.wp h2.wn h2.wc) hn (by omega) (by omega) (Kp.refl _ _) (.int .i64 m2.room) (.int .i64 m2.count) (.slice h2.bp h2.bn h2.bc) (.slice h2.sp h2.sn h2.sc) (.slice h2.fp h2.fn h2.fc) (.slice h2.wp h2.wn h2.wc))
  have HS2 := Lib.hid hst2.size
  obtain ⟨V, hV⟩ : ∃ V, put6 w2 w.heap.size (.int .i64 m2.room) (.int .i64 m2.count) (.slice h2.bp h2.bn h2.bc) (.slice h2.sp h2.sn h2.sc) (.slice h2.fp h2.fn h2.fc) (.slice h2.wp h2.wn h2.wc) = V := ⟨_, rfl⟩
  have HEV := Lib.hid (show ((((((w2.setCell ⟨w.heap.size, 0, none⟩ (.int .i64 m2.room)).setCell ⟨w.heap.size, 1, none⟩ (.int .i64 m2.count)).setCell ⟨w.heap.size, 2, none⟩ (.slice h2.bp h2.bn h2.bc)).setCell ⟨w.heap.size, 3, none⟩ (.slice h2.sp h2.sn h2.sc)).setCell ⟨w.heap.size, 4, none⟩ (.slice h2.fp h2.fn h2.fc)).setCell ⟨w.heap.size, 5, none⟩ (.slice h2.wp h2.wn h2.wc)) = V from hV)
  have HVS : Hid (V.heap.size = w2.heap.size) := Lib.hid (by rw [← hV, put6_sz])
  rw [hV] at hst3 HBV HND
  have HST3 := Lib.hid hst3
  have g0 : V.cell? ⟨w.heap.size + 1, 0, none⟩ = some (.int .u8 (x.1.kind : Int)) := hst3.act 0
  have g1 : V.cell? ⟨w.heap.size + 1, 1, none⟩ = some (.string (mkS x.1.path)) := hst3.act 1
  have g2 : V.cell? ⟨w.heap.size + 1, 2, none⟩ = some (.string (mkS x.1.to_)) := hst3.act 2
  have g3 : V.cell? ⟨w.heap.size + 1, 3, none⟩ = some (.slice x.2.bq x.1.b.length x.2.bc) := hst3.act 3
  have g4 : V.cell? ⟨w.heap.size + 1, 4, none⟩ = some (.int .i64 x.1.n) := hst3.act 4
  have g5 : V.cell? ⟨w.heap.size + 1, 5, none⟩ = some (.slice x.2.kp x.1.ks.length x.2.kc) := hst3.act 5
  clear hst2 hst3 hr2 hB2 hV hz2
  go_wp2_with fail
  rw [HEV.out]
  refine (HPR.out V HBV.out).mono ?_
  rintro e w4 ⟨rfl, hn⟩
  have hst4 := HST3.out.kq hn.2 (fun k hk => .inl (HI.out.disk.low k hk))
  clear d0 d1 d2 d3 d4 d5 a0 a1 a2 a3 a4 a5 f0 f1 f2 f3 f4 f5 g0 g1 g2 g3 g4 g5
  have d0 : w4.cell? ⟨w.heap.size, 0, none⟩ = some (.int .i64 m2.room) := hst4.dsk 0
  have d1 : w4.cell? ⟨w.heap.size, 1, none⟩ = some (.int .i64 m2.count) := hst4.dsk 1
  have d2 : w4.cell? ⟨w.heap.size, 2, none⟩ = some (.slice h2.bp h2.bn h2.bc) := hst4.dsk 2
  have d3 : w4.cell? ⟨w.heap.size, 3, none⟩ = some (.slice h2.sp h2.sn h2.sc) := hst4.dsk 3
  have d4 : w4.cell? ⟨w.heap.size, 4, none⟩ = some (.slice h2.fp h2.fn h2.fc) := hst4.dsk 4
  have d5 : w4.cell? ⟨w.heap.size, 5, none⟩ = some (.slice h2.wp h2.wn h2.wc) := hst4.dsk 5
  have r0 : w4.cell? ⟨w.heap.size + 1 + 1, 0, none⟩ = some (.int .i64 0) := hst4.res 0
  have r1 : w4.cell? ⟨w.heap.size + 1 + 1, 1, none⟩ = some (.int .i64 0) := hst4.res 1
  have r2 : w4.cell? ⟨w.heap.size + 1 + 1, 2, none⟩ = some (.slice none 0 0) := hst4.res 2
  have r3 : w4.cell? ⟨w.heap.size + 1 + 1, 3, none⟩ = some (.slice none 0 0) := hst4.res 3
  have r4 : w4.cell? ⟨w.heap.size + 1 + 1, 4, none⟩ = some (.slice none 0 0) := hst4.res 4
  have r5 : w4.cell? ⟨w.heap.size + 1 + 1, 5, none⟩ = some (.slice none 0 0) := hst4.res 5
  have z0 := hst4.rfree 0
  have z1 := hst4.rfree 1
  have z2 := hst4.rfree 2
  have z3 := hst4.rfree 3
  have z4 := hst4.rfree 4
  have z5 := hst4.rfree 5
  have HFIN := Lib.hid (HND.out w4 hn)
  have HC6 := Lib.hid (put6_cell (.int .i64 m2.room) (.int .i64 m2.count) (.slice h2.bp h2.bn h2.bc) (.slice h2.sp h2.sn h2.sc) (.slice h2.fp h2.fn h2.fc) (.slice h2.wp h2.wn h2.wc) hst4.res)
  clear hn hst4
  go_wp2
  refine bodyPost_ret (v := .tuple #[aggD m2 h2, .bool true]) ?_ rfl ?_
  · have e := HC6.out
    unfold put6 at e
    obtain ⟨e0, e1, e2, e3, e4, e5⟩ := e
    simp [results, Tryz.f8, go_sem, e0, e1, e2, e3, e4, e5, aggD]
  · rw [HS7.out]
    exact HFIN.out
end Go.Proofs.YtjglgohchhdkkaaGreatDoor
/- Do: a disk crashes. -/
namespace Go.Proofs.YtjglgohchhdkkaaGreatDoor
open Go Go.RowKit

set_option maxRecDepth 100000 in
set_option maxHeartbeats 8000000 in
theorem do_4 {w : World} {S G : Nat → Prop} {b : Nat} {m : Dk} {h : Hd} {x : Ac × AcH} (hi : DoIn w S G b m h x) (h7 : x.1.kind % 7 = 4) :
    Calls Tryz.prog 8 #[.pointer (some ⟨b, 0, none⟩), aggD m h, actV x] w fun e w' => DoPost S G b w (stepL m x.1) e w' := by
  obtain ⟨hst, hB0⟩ := bx3_start w m h x
  obtain ⟨W, hW⟩ : ∃ W, (((w.alloc (boxD m h)).alloc (boxAct x)).alloc (.cells zerD.toArray 31)) = W := ⟨_, rfl⟩
  have HE := Lib.hid (show (((w.alloc (.cells #[.int .i64 m.room, .int .i64 m.count, .slice h.bp h.bn h.bc, .slice h.sp h.sn h.sc, .slice h.fp h.fn h.fc, .slice h.wp h.wn h.wc] 31)).alloc (.cells #[.int .u8 (x.1.kind : Int), .string (mkS x.1.path), .string (mkS x.1.to_), .slice x.2.bq x.1.b.length x.2.bc, .int .i64 x.1.n, .slice x.2.kp x.1.ks.length x.2.kc] 35)).alloc (.cells #[.int .i64 0, .int .i64 0, .slice none 0 0, .slice none 0 0, .slice none 0 0, .slice none 0 0] 31)) = W from hW)
  rw [hW] at hst hB0
  have HI := Lib.hid hi
  have HST := Lib.hid hst
  have HB0 := Lib.hid hB0
  have hst7 : stepL m x.1 = crashL m x.1.ks := by unfold stepL; rw [h7]; rfl
  have HS7 := Lib.hid hst7
  have d0 : W.cell? ⟨w.heap.size, 0, none⟩ = some (.int .i64 m.room) := hst.dsk 0
  have d1 : W.cell? ⟨w.heap.size, 1, none⟩ = some (.int .i64 m.count) := hst.dsk 1
  have d2 : W.cell? ⟨w.heap.size, 2, none⟩ = some (.slice h.bp h.bn h.bc) := hst.dsk 2
  have d3 : W.cell? ⟨w.heap.size, 3, none⟩ = some (.slice h.sp h.sn h.sc) := hst.dsk 3
  have d4 : W.cell? ⟨w.heap.size, 4, none⟩ = some (.slice h.fp h.fn h.fc) := hst.dsk 4
  have d5 : W.cell? ⟨w.heap.size, 5, none⟩ = some (.slice h.wp h.wn h.wc) := hst.dsk 5
  have a0 : W.cell? ⟨w.heap.size + 1, 0, none⟩ = some (.int .u8 (x.1.kind : Int)) := hst.act 0
  have a1 : W.cell? ⟨w.heap.size + 1, 1, none⟩ = some (.string (mkS x.1.path)) := hst.act 1
  have a2 : W.cell? ⟨w.heap.size + 1, 2, none⟩ = some (.string (mkS x.1.to_)) := hst.act 2
  have a3 : W.cell? ⟨w.heap.size + 1, 3, none⟩ = some (.slice x.2.bq x.1.b.length x.2.bc) := hst.act 3
  have a4 : W.cell? ⟨w.heap.size + 1, 4, none⟩ = some (.int .i64 x.1.n) := hst.act 4
  have a5 : W.cell? ⟨w.heap.size + 1, 5, none⟩ = some (.slice x.2.kp x.1.ks.length x.2.kc) := hst.act 5
  have q7 : ((x.1.kind : Int).tmod 7) = 4 := by have := hi.kind; rw [Int.tmod_eq_emod_of_nonneg (by omega)]; omega
  clear hst hB0 hW hi h7 hst7
  obtain ⟨m2, hm2⟩ : ∃ m2, crashL m x.1.ks = m2 := ⟨_, rfl⟩
  have HRF : Hid (Calls Tryz.prog 20 #[aggD m h, .slice x.2.kp x.1.ks.length x.2.kc] W fun e w' => ∃ h', e = .returned (aggD m2 h') ∧ RfG (G1 G S w.heap.size (w.heap.size + 1 + 1)) w' m2 h' ∧ Below W.heap.size W w') := Lib.hid (by
    have hr := HI.out.into HB0.out (g := w.heap.size + 1 + 1) (by omega)
    have hsn := hr.sn
    have hwn := hr.wn
    have hfn := hr.fn
    have hbn := hr.bodies.len
    have o1 := HI.out.ok.seen
    have o2 := HI.out.ok.both
    have o3 := HI.out.ok.bod
    have o4 := HI.out.path
    have o5 := HI.out.to_
    have o6 := HI.out.kep
    rw [← hm2]
    exact refCrash_any _ m h x.1.ks x.2.kp x.2.kc HI.out.ok.chk HI.out.ok.shF (by omega) W (by omega) (fun i hi2 => by have hl := HI.out.lk.at_.of_below HB0.out; exact hl.cell (u := .bool x.1.ks[i]) (by rw [List.getElem?_map, List.getElem?_eq_getElem hi2]; rfl)) (HI.out.g1 HST.out.size (by have := HST.out.size; omega)) hr)
  have HPR : Hid (∀ V, Below w.heap.size w V → Calls Tryz.prog 12 #[.pointer (some ⟨b, 0, none⟩), .slice x.2.kp x.1.ks.length x.2.kc] V fun e w' => e = .returned (.tuple #[]) ∧ Nxt S b V m2 w') := Lib.hid (fun V hV => by
    have hd := HI.out.disk.of_below hV
    have o4 := HI.out.path
    have o5 := HI.out.to_
    have o6 := HI.out.kep
    rw [← hm2]
    exact dcrash_any hd (HI.out.ok.mono (by decide)) x.1.ks x.2.kp x.2.kc (by omega) (HI.out.lk.keep (fun c _ hc => hV.block c hc) hV.size))
  rw [hm2] at HS7
  clear hm2
  unfold aggD at HRF
  unfold aggD actV
  go_enter Tryz.func8, Tryz.ntmps8
  go_wp2_with fail
  rw [HE.out]
  refine HRF.out.mono ?_
  rintro e w2 ⟨h2, rfl, hr2, hB2⟩
  have hst2 := HST.out.next hB2
  clear d0 d1 d2 d3 d4 d5 a0 a1 a2 a3 a4 a5
  have d0 : w2.cell? ⟨w.heap.size, 0, none⟩ = some (.int .i64 m.room) := hst2.dsk 0
  have d1 : w2.cell? ⟨w.heap.size, 1, none⟩ = some (.int .i64 m.count) := hst2.dsk 1
  have d2 : w2.cell? ⟨w.heap.size, 2, none⟩ = some (.slice h.bp h.bn h.bc) := hst2.dsk 2
  have d3 : w2.cell? ⟨w.heap.size, 3, none⟩ = some (.slice h.sp h.sn h.sc) := hst2.dsk 3
  have d4 : w2.cell? ⟨w.heap.size, 4, none⟩ = some (.slice h.fp h.fn h.fc) := hst2.dsk 4
  have d5 : w2.cell? ⟨w.heap.size, 5, none⟩ = some (.slice h.wp h.wn h.wc) := hst2.dsk 5
  have f0 := hst2.free 0
  have f1 := hst2.free 1
  have f2 := hst2.free 2
  have f3 := hst2.free 3
  have f4 := hst2.free 4
  have f5 := hst2.free 5
  have a0 : w2.cell? ⟨w.heap.size + 1, 0, none⟩ = some (.int .u8 (x.1.kind : Int)) := hst2.act 0
  have a1 : w2.cell? ⟨w.heap.size + 1, 1, none⟩ = some (.string (mkS x.1.path)) := hst2.act 1
  have a2 : w2.cell? ⟨w.heap.size + 1, 2, none⟩ = some (.string (mkS x.1.to_)) := hst2.act 2
  have a3 : w2.cell? ⟨w.heap.size + 1, 3, none⟩ = some (.slice x.2.bq x.1.b.length x.2.bc) := hst2.act 3
  have a4 : w2.cell? ⟨w.heap.size + 1, 4, none⟩ = some (.int .i64 x.1.n) := hst2.act 4
  have a5 : w2.cell? ⟨w.heap.size + 1, 5, none⟩ = some (.slice x.2.kp x.1.ks.length x.2.kc) := hst2.act 5
  have hst3 := hst2.putD rfl (.int .i64 m2.room) (.int .i64 m2.count) (.slice h2.bp h2.bn h2.bc) (.slice h2.sp h2.sn h2.sc) (.slice h2.fp h2.fn h2.fc) (.slice h2.wp h2.wn h2.wc)
  have HBV : Hid (Below w.heap.size w (put6 w2 w.heap.size (.int .i64 m2.room) (.int .i64 m2.count) (.slice h2.bp h2.bn h2.bc) (.slice h2.sp h2.sn h2.sc) (.slice h2.fp h2.fn h2.fc) (.slice h2.wp h2.wn h2.wc))) := Lib.hid (put6_below _ _ _ _ _ _ (HB0.out.trans (hB2.mono HB0.out.size)) (Nat.le_refl _))
  have hz2 := hst2.size
  have HND := Lib.hid (fun (w4 : World) (hn : Nxt S b (put6 w2 w.heap.size (.int .i64 m2.room) (.int .i64 m2.count) (.slice h2.bp h2.bn h2.bc) (.slice h2.sp h2.sn h2.sc) (.slice h2.fp h2.fn h2.fc) (.slice h2.wp h2.wn h2.wc)) m2 w4) => do_end (g := w.heap.size + 1 + 1) HI.out.disk.low HB0.out HST.out.size hB2 hr2 (.int .i64 m2.room) (.int .i64 m2.count) (.slice h2.bp h2.bn h2.bc) (.slice h2.sp h2.sn h2.sc) (.slice h2.fp h2.fn h2.fc) (.slice h2.wp h2.wn h2.wc) hn (by omega) (by omega) (Kp.refl _ _) (.int .i64 m2.room) (.int .i64 m2.count) (.slice h2.bp h2.bn h2.bc) (.slice h2.sp h2.sn h2.sc) (.slice h2.fp h2.fn h2.fc) (.slice h2.wp h2.wn h2.wc))
  have HS2 := Lib.hid hst2.size
  obtain ⟨V, hV⟩ : ∃ V, put6 w2 w.heap.size (.int .i64 m2.room) (.int .i64 m2.count) (.slice h2.bp h2.bn h2.bc) (.slice h2.sp h2.sn h2.sc) (.slice h2.fp h2.fn h2.fc) (.slice h2.wp h2.wn h2.wc) = V := ⟨_, rfl⟩
  have HEV := Lib.hid (show ((((((w2.setCell ⟨w.heap.size, 0, none⟩ (.int .i64 m2.room)).setCell ⟨w.heap.size, 1, none⟩ (.int .i64 m2.count)).setCell ⟨w.heap.size, 2, none⟩ (.slice h2.bp h2.bn h2.bc)).setCell ⟨w.heap.size, 3, none⟩ (.slice h2.sp h2.sn h2.sc)).setCell ⟨w.heap.size, 4, none⟩ (.slice h2.fp h2.fn h2.fc)).setCell ⟨w.heap.size, 5, none⟩ (.slice h2.wp h2.wn h2.wc)) = V from hV)
  have HVS : Hid (V.heap.size = w2.heap.size) := Lib.hid (by rw [← hV, put6_sz])
  rw [hV] at hst3 HBV HND
  have HST3 := Lib.hid hst3
  have g0 : V.cell? ⟨w.heap.size + 1, 0, none⟩ = some (.int .u8 (x.1.kind : Int)) := hst3.act 0
  have g1 : V.cell? ⟨w.heap.size + 1, 1, none⟩ = some (.string (mkS x.1.path)) := hst3.act 1
  have g2 : V.cell? ⟨w.heap.size + 1, 2, none⟩ = some (.string (mkS x.1.to_)) := hst3.act 2
  have g3 : V.cell? ⟨w.heap.size + 1, 3, none⟩ = some (.slice x.2.bq x.1.b.length x.2.bc) := hst3.act 3
  have g4 : V.cell? ⟨w.heap.size + 1, 4, none⟩ = some (.int .i64 x.1.n) := hst3.act 4
  have g5 : V.cell? ⟨w.heap.size + 1, 5, none⟩ = some (.slice x.2.kp x.1.ks.length x.2.kc) := hst3.act 5
  clear hst2 hst3 hr2 hB2 hV hz2
  go_wp2_with fail
  rw [HEV.out]
  refine (HPR.out V HBV.out).mono ?_
  rintro e w4 ⟨rfl, hn⟩
  have hst4 := HST3.out.kq hn.2 (fun k hk => .inl (HI.out.disk.low k hk))
  clear d0 d1 d2 d3 d4 d5 a0 a1 a2 a3 a4 a5 f0 f1 f2 f3 f4 f5 g0 g1 g2 g3 g4 g5
  have d0 : w4.cell? ⟨w.heap.size, 0, none⟩ = some (.int .i64 m2.room) := hst4.dsk 0
  have d1 : w4.cell? ⟨w.heap.size, 1, none⟩ = some (.int .i64 m2.count) := hst4.dsk 1
  have d2 : w4.cell? ⟨w.heap.size, 2, none⟩ = some (.slice h2.bp h2.bn h2.bc) := hst4.dsk 2
  have d3 : w4.cell? ⟨w.heap.size, 3, none⟩ = some (.slice h2.sp h2.sn h2.sc) := hst4.dsk 3
  have d4 : w4.cell? ⟨w.heap.size, 4, none⟩ = some (.slice h2.fp h2.fn h2.fc) := hst4.dsk 4
  have d5 : w4.cell? ⟨w.heap.size, 5, none⟩ = some (.slice h2.wp h2.wn h2.wc) := hst4.dsk 5
  have r0 : w4.cell? ⟨w.heap.size + 1 + 1, 0, none⟩ = some (.int .i64 0) := hst4.res 0
  have r1 : w4.cell? ⟨w.heap.size + 1 + 1, 1, none⟩ = some (.int .i64 0) := hst4.res 1
  have r2 : w4.cell? ⟨w.heap.size + 1 + 1, 2, none⟩ = some (.slice none 0 0) := hst4.res 2
  have r3 : w4.cell? ⟨w.heap.size + 1 + 1, 3, none⟩ = some (.slice none 0 0) := hst4.res 3
  have r4 : w4.cell? ⟨w.heap.size + 1 + 1, 4, none⟩ = some (.slice none 0 0) := hst4.res 4
  have r5 : w4.cell? ⟨w.heap.size + 1 + 1, 5, none⟩ = some (.slice none 0 0) := hst4.res 5
  have z0 := hst4.rfree 0
  have z1 := hst4.rfree 1
  have z2 := hst4.rfree 2
  have z3 := hst4.rfree 3
  have z4 := hst4.rfree 4
  have z5 := hst4.rfree 5
  have HFIN := Lib.hid (HND.out w4 hn)
  have HC6 := Lib.hid (put6_cell (.int .i64 m2.room) (.int .i64 m2.count) (.slice h2.bp h2.bn h2.bc) (.slice h2.sp h2.sn h2.sc) (.slice h2.fp h2.fn h2.fc) (.slice h2.wp h2.wn h2.wc) hst4.res)
  clear hn hst4
  go_wp2
  refine bodyPost_ret (v := .tuple #[aggD m2 h2, .bool true]) ?_ rfl ?_
  · have e := HC6.out
    unfold put6 at e
    obtain ⟨e0, e1, e2, e3, e4, e5⟩ := e
    simp [results, Tryz.f8, go_sem, e0, e1, e2, e3, e4, e5, aggD]
  · rw [HS7.out]
    exact HFIN.out
end Go.Proofs.YtjglgohchhdkkaaGreatDoor
/- Do: a file rots. -/
namespace Go.Proofs.YtjglgohchhdkkaaGreatDoor
open Go Go.RowKit

set_option maxRecDepth 100000 in
set_option maxHeartbeats 8000000 in
theorem do_5 {w : World} {S G : Nat → Prop} {b : Nat} {m : Dk} {h : Hd} {x : Ac × AcH} (hi : DoIn w S G b m h x) (h7 : x.1.kind % 7 = 5) :
    Calls Tryz.prog 8 #[.pointer (some ⟨b, 0, none⟩), aggD m h, actV x] w fun e w' => DoPost S G b w (stepL m x.1) e w' := by
  obtain ⟨hst, hB0⟩ := bx3_start w m h x
  obtain ⟨W, hW⟩ : ∃ W, (((w.alloc (boxD m h)).alloc (boxAct x)).alloc (.cells zerD.toArray 31)) = W := ⟨_, rfl⟩
  have HE := Lib.hid (show (((w.alloc (.cells #[.int .i64 m.room, .int .i64 m.count, .slice h.bp h.bn h.bc, .slice h.sp h.sn h.sc, .slice h.fp h.fn h.fc, .slice h.wp h.wn h.wc] 31)).alloc (.cells #[.int .u8 (x.1.kind : Int), .string (mkS x.1.path), .string (mkS x.1.to_), .slice x.2.bq x.1.b.length x.2.bc, .int .i64 x.1.n, .slice x.2.kp x.1.ks.length x.2.kc] 35)).alloc (.cells #[.int .i64 0, .int .i64 0, .slice none 0 0, .slice none 0 0, .slice none 0 0, .slice none 0 0] 31)) = W from hW)
  rw [hW] at hst hB0
  have HI := Lib.hid hi
  have HST := Lib.hid hst
  have HB0 := Lib.hid hB0
  have hst7 : stepL m x.1 = (rotL m x.1.path x.1.n (UInt8.ofNat x.1.to_.length)).1 := by unfold stepL; rw [h7]; rfl
  have HS7 := Lib.hid hst7
  have d0 : W.cell? ⟨w.heap.size, 0, none⟩ = some (.int .i64 m.room) := hst.dsk 0
  have d1 : W.cell? ⟨w.heap.size, 1, none⟩ = some (.int .i64 m.count) := hst.dsk 1
  have d2 : W.cell? ⟨w.heap.size, 2, none⟩ = some (.slice h.bp h.bn h.bc) := hst.dsk 2
  have d3 : W.cell? ⟨w.heap.size, 3, none⟩ = some (.slice h.sp h.sn h.sc) := hst.dsk 3
  have d4 : W.cell? ⟨w.heap.size, 4, none⟩ = some (.slice h.fp h.fn h.fc) := hst.dsk 4
  have d5 : W.cell? ⟨w.heap.size, 5, none⟩ = some (.slice h.wp h.wn h.wc) := hst.dsk 5
  have a0 : W.cell? ⟨w.heap.size + 1, 0, none⟩ = some (.int .u8 (x.1.kind : Int)) := hst.act 0
  have a1 : W.cell? ⟨w.heap.size + 1, 1, none⟩ = some (.string (mkS x.1.path)) := hst.act 1
  have a2 : W.cell? ⟨w.heap.size + 1, 2, none⟩ = some (.string (mkS x.1.to_)) := hst.act 2
  have a3 : W.cell? ⟨w.heap.size + 1, 3, none⟩ = some (.slice x.2.bq x.1.b.length x.2.bc) := hst.act 3
  have a4 : W.cell? ⟨w.heap.size + 1, 4, none⟩ = some (.int .i64 x.1.n) := hst.act 4
  have a5 : W.cell? ⟨w.heap.size + 1, 5, none⟩ = some (.slice x.2.kp x.1.ks.length x.2.kc) := hst.act 5
  have q7 : ((x.1.kind : Int).tmod 7) = 5 := by have := hi.kind; rw [Int.tmod_eq_emod_of_nonneg (by omega)]; omega
  clear hst hB0 hW hi h7 hst7
  obtain ⟨mk, hmk⟩ : ∃ mk : UInt8, UInt8.ofNat x.1.to_.length = mk := ⟨_, rfl⟩
  rw [hmk] at HS7
  have hcv : ∀ u, (convert 3 5 (.int .i64 (x.1.to_.length : Int))).run Tryz.prog u = .ok (.int .u8 (mk.toNat : Int)) u := fun u => conv_mask hmk u
  clear hmk
  obtain ⟨m2, hm2⟩ : ∃ m2, (rotL m x.1.path x.1.n mk).1 = m2 := ⟨_, rfl⟩
  obtain ⟨cd, hcd⟩ : ∃ cd, (rotL m x.1.path x.1.n mk).2 = cd := ⟨_, rfl⟩
  have HRF : Hid (Calls Tryz.prog 21 #[aggD m h, .string (mkS x.1.path), .int .i64 x.1.n, .int .u8 (mk.toNat : Int)] W fun e w' => ∃ h', e = .returned (.tuple #[aggD m2 h', .int .i64 (cd : Int)]) ∧ RfG (G1 G S w.heap.size (w.heap.size + 1 + 1)) w' m2 h' ∧ Below W.heap.size W w') := Lib.hid (by
    have hr := HI.out.into HB0.out (g := w.heap.size + 1 + 1) (by omega)
    have hsn := hr.sn
    have hwn := hr.wn
    have hfn := hr.fn
    have hbn := hr.bodies.len
    have o1 := HI.out.ok.seen
    have o2 := HI.out.ok.both
    have o3 := HI.out.ok.bod
    have o4 := HI.out.path
    have o5 := HI.out.to_
    have o6 := HI.out.kep
    rw [← hm2, ← hcd]
    exact refRot_any _ m h x.1.path x.1.n mk (by omega) (by omega) HI.out.ok.inB HI.out.ok.shortB W (HI.out.g1 HST.out.size (by have := HST.out.size; omega)) hr)
  have HPR : Hid (∀ V, Below w.heap.size w V → Calls Tryz.prog 22 #[.pointer (some ⟨b, 0, none⟩), .string (mkS x.1.path), .int .i64 x.1.n, .int .u8 (mk.toNat : Int)] V fun e w' => e = .returned (.int .i64 (cd : Int)) ∧ Nxt S b V m2 w') := Lib.hid (fun V hV => by
    have hd := HI.out.disk.of_below hV
    have o4 := HI.out.path
    have o5 := HI.out.to_
    have o6 := HI.out.kep
    rw [← hm2, ← hcd]
    exact drot_any hd (HI.out.ok.mono (by decide)) x.1.path x.1.n mk)
  rw [hm2] at HS7
  clear hm2 hcd
  unfold aggD at HRF
  unfold aggD actV
  go_enter Tryz.func8, Tryz.ntmps8
  go_wp2_with fail
  rw [HE.out]
  refine HRF.out.mono ?_
  rintro e w2 ⟨h2, rfl, hr2, hB2⟩
  have hst2 := HST.out.next hB2
  clear d0 d1 d2 d3 d4 d5 a0 a1 a2 a3 a4 a5
  have d0 : w2.cell? ⟨w.heap.size, 0, none⟩ = some (.int .i64 m.room) := hst2.dsk 0
  have d1 : w2.cell? ⟨w.heap.size, 1, none⟩ = some (.int .i64 m.count) := hst2.dsk 1
  have d2 : w2.cell? ⟨w.heap.size, 2, none⟩ = some (.slice h.bp h.bn h.bc) := hst2.dsk 2
  have d3 : w2.cell? ⟨w.heap.size, 3, none⟩ = some (.slice h.sp h.sn h.sc) := hst2.dsk 3
  have d4 : w2.cell? ⟨w.heap.size, 4, none⟩ = some (.slice h.fp h.fn h.fc) := hst2.dsk 4
  have d5 : w2.cell? ⟨w.heap.size, 5, none⟩ = some (.slice h.wp h.wn h.wc) := hst2.dsk 5
  have f0 := hst2.free 0
  have f1 := hst2.free 1
  have f2 := hst2.free 2
  have f3 := hst2.free 3
  have f4 := hst2.free 4
  have f5 := hst2.free 5
  have a0 : w2.cell? ⟨w.heap.size + 1, 0, none⟩ = some (.int .u8 (x.1.kind : Int)) := hst2.act 0
  have a1 : w2.cell? ⟨w.heap.size + 1, 1, none⟩ = some (.string (mkS x.1.path)) := hst2.act 1
  have a2 : w2.cell? ⟨w.heap.size + 1, 2, none⟩ = some (.string (mkS x.1.to_)) := hst2.act 2
  have a3 : w2.cell? ⟨w.heap.size + 1, 3, none⟩ = some (.slice x.2.bq x.1.b.length x.2.bc) := hst2.act 3
  have a4 : w2.cell? ⟨w.heap.size + 1, 4, none⟩ = some (.int .i64 x.1.n) := hst2.act 4
  have a5 : w2.cell? ⟨w.heap.size + 1, 5, none⟩ = some (.slice x.2.kp x.1.ks.length x.2.kc) := hst2.act 5
  have hst3 := hst2.putD rfl (.int .i64 m2.room) (.int .i64 m2.count) (.slice h2.bp h2.bn h2.bc) (.slice h2.sp h2.sn h2.sc) (.slice h2.fp h2.fn h2.fc) (.slice h2.wp h2.wn h2.wc)
  have HBV : Hid (Below w.heap.size w (put6 w2 w.heap.size (.int .i64 m2.room) (.int .i64 m2.count) (.slice h2.bp h2.bn h2.bc) (.slice h2.sp h2.sn h2.sc) (.slice h2.fp h2.fn h2.fc) (.slice h2.wp h2.wn h2.wc))) := Lib.hid (put6_below _ _ _ _ _ _ (HB0.out.trans (hB2.mono HB0.out.size)) (Nat.le_refl _))
  have hz2 := hst2.size
  have HND := Lib.hid (fun (w4 : World) (hn : Nxt S b (put6 w2 w.heap.size (.int .i64 m2.room) (.int .i64 m2.count) (.slice h2.bp h2.bn h2.bc) (.slice h2.sp h2.sn h2.sc) (.slice h2.fp h2.fn h2.fc) (.slice h2.wp h2.wn h2.wc)) m2 w4) => do_end (g := w.heap.size + 1 + 1) HI.out.disk.low HB0.out HST.out.size hB2 hr2 (.int .i64 m2.room) (.int .i64 m2.count) (.slice h2.bp h2.bn h2.bc) (.slice h2.sp h2.sn h2.sc) (.slice h2.fp h2.fn h2.fc) (.slice h2.wp h2.wn h2.wc) hn (by omega) (by omega) (Kp.refl _ _) (.int .i64 m2.room) (.int .i64 m2.count) (.slice h2.bp h2.bn h2.bc) (.slice h2.sp h2.sn h2.sc) (.slice h2.fp h2.fn h2.fc) (.slice h2.wp h2.wn h2.wc))
  have HS2 := Lib.hid hst2.size
  obtain ⟨V, hV⟩ : ∃ V, put6 w2 w.heap.size (.int .i64 m2.room) (.int .i64 m2.count) (.slice h2.bp h2.bn h2.bc) (.slice h2.sp h2.sn h2.sc) (.slice h2.fp h2.fn h2.fc) (.slice h2.wp h2.wn h2.wc) = V := ⟨_, rfl⟩
  have HEV := Lib.hid (show ((((((w2.setCell ⟨w.heap.size, 0, none⟩ (.int .i64 m2.room)).setCell ⟨w.heap.size, 1, none⟩ (.int .i64 m2.count)).setCell ⟨w.heap.size, 2, none⟩ (.slice h2.bp h2.bn h2.bc)).setCell ⟨w.heap.size, 3, none⟩ (.slice h2.sp h2.sn h2.sc)).setCell ⟨w.heap.size, 4, none⟩ (.slice h2.fp h2.fn h2.fc)).setCell ⟨w.heap.size, 5, none⟩ (.slice h2.wp h2.wn h2.wc)) = V from hV)
  have HVS : Hid (V.heap.size = w2.heap.size) := Lib.hid (by rw [← hV, put6_sz])
  rw [hV] at hst3 HBV HND
  have HST3 := Lib.hid hst3
  have g0 : V.cell? ⟨w.heap.size + 1, 0, none⟩ = some (.int .u8 (x.1.kind : Int)) := hst3.act 0
  have g1 : V.cell? ⟨w.heap.size + 1, 1, none⟩ = some (.string (mkS x.1.path)) := hst3.act 1
  have g2 : V.cell? ⟨w.heap.size + 1, 2, none⟩ = some (.string (mkS x.1.to_)) := hst3.act 2
  have g3 : V.cell? ⟨w.heap.size + 1, 3, none⟩ = some (.slice x.2.bq x.1.b.length x.2.bc) := hst3.act 3
  have g4 : V.cell? ⟨w.heap.size + 1, 4, none⟩ = some (.int .i64 x.1.n) := hst3.act 4
  have g5 : V.cell? ⟨w.heap.size + 1, 5, none⟩ = some (.slice x.2.kp x.1.ks.length x.2.kc) := hst3.act 5
  clear hst2 hst3 hr2 hB2 hV hz2
  go_wp2_with fail
  rw [HEV.out]
  refine (HPR.out V HBV.out).mono ?_
  rintro e w4 ⟨rfl, hn⟩
  have hst4 := HST3.out.kq hn.2 (fun k hk => .inl (HI.out.disk.low k hk))
  clear d0 d1 d2 d3 d4 d5 a0 a1 a2 a3 a4 a5 f0 f1 f2 f3 f4 f5 g0 g1 g2 g3 g4 g5
  have d0 : w4.cell? ⟨w.heap.size, 0, none⟩ = some (.int .i64 m2.room) := hst4.dsk 0
  have d1 : w4.cell? ⟨w.heap.size, 1, none⟩ = some (.int .i64 m2.count) := hst4.dsk 1
  have d2 : w4.cell? ⟨w.heap.size, 2, none⟩ = some (.slice h2.bp h2.bn h2.bc) := hst4.dsk 2
  have d3 : w4.cell? ⟨w.heap.size, 3, none⟩ = some (.slice h2.sp h2.sn h2.sc) := hst4.dsk 3
  have d4 : w4.cell? ⟨w.heap.size, 4, none⟩ = some (.slice h2.fp h2.fn h2.fc) := hst4.dsk 4
  have d5 : w4.cell? ⟨w.heap.size, 5, none⟩ = some (.slice h2.wp h2.wn h2.wc) := hst4.dsk 5
  have r0 : w4.cell? ⟨w.heap.size + 1 + 1, 0, none⟩ = some (.int .i64 0) := hst4.res 0
  have r1 : w4.cell? ⟨w.heap.size + 1 + 1, 1, none⟩ = some (.int .i64 0) := hst4.res 1
  have r2 : w4.cell? ⟨w.heap.size + 1 + 1, 2, none⟩ = some (.slice none 0 0) := hst4.res 2
  have r3 : w4.cell? ⟨w.heap.size + 1 + 1, 3, none⟩ = some (.slice none 0 0) := hst4.res 3
  have r4 : w4.cell? ⟨w.heap.size + 1 + 1, 4, none⟩ = some (.slice none 0 0) := hst4.res 4
  have r5 : w4.cell? ⟨w.heap.size + 1 + 1, 5, none⟩ = some (.slice none 0 0) := hst4.res 5
  have z0 := hst4.rfree 0
  have z1 := hst4.rfree 1
  have z2 := hst4.rfree 2
  have z3 := hst4.rfree 3
  have z4 := hst4.rfree 4
  have z5 := hst4.rfree 5
  have HFIN := Lib.hid (HND.out w4 hn)
  have HC6 := Lib.hid (put6_cell (.int .i64 m2.room) (.int .i64 m2.count) (.slice h2.bp h2.bn h2.bc) (.slice h2.sp h2.sn h2.sc) (.slice h2.fp h2.fn h2.fc) (.slice h2.wp h2.wn h2.wc) hst4.res)
  clear hn hst4
  go_wp2
  refine bodyPost_ret (v := .tuple #[aggD m2 h2, .bool true]) ?_ rfl ?_
  · have e := HC6.out
    unfold put6 at e
    obtain ⟨e0, e1, e2, e3, e4, e5⟩ := e
    simp [results, Tryz.f8, go_sem, e0, e1, e2, e3, e4, e5, aggD]
  · rw [HS7.out]
    exact HFIN.out
end Go.Proofs.YtjglgohchhdkkaaGreatDoor
