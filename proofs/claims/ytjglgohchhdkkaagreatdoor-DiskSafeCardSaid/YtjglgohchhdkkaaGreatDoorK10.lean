/- Merged texts: DoC6, DoA8, Two8, Saf8, Roo8, Lift, LiftS8. -/
import Derived.BigRegion
import Derived.Test.YtjglgohchhdkkaaGreatDoorK7
import Derived.Test.YtjglgohchhdkkaaGreatDoorK8
import Derived.Test.YtjglgohchhdkkaaGreatDoorK9
import Derived.Test.YtjglgohchhdkkaaGreatDoorK2
import Derived.Test.YtjglgohchhdkkaaGreatDoorDkp8
import Derived.Test.YtjglgohchhdkkaaGreatDoorRows
import Derived.ProofKit
import Derived.OpenShut
import Derived.Deep.DeepHandedRow
import Derived.Test.YtjglgohchhdkkaaGreatDoorBase
import Derived.Test.YtjglgohchhdkkaaGreatDoorStr7
set_option linter.unusedSimpArgs false
set_option linter.unusedVariables false
/- Do: a file is read. -/
namespace Go.Proofs.YtjglgohchhdkkaaGreatDoor
open Go Go.RowKit

set_option maxRecDepth 100000 in
set_option maxHeartbeats 8000000 in
theorem do_6n {w : World} {S G : Nat → Prop} {b : Nat} {m : Dk} {h : Hd} {x : Ac × AcH} (hi : DoIn w S G b m h x) (h7 : x.1.kind % 7 = 6) (hf : findL m.seen x.1.path = none) :
    Calls Tryz.prog 8 #[.pointer (some ⟨b, 0, none⟩), aggD m h, actV x] w fun e w' => DoPost S G b w (stepL m x.1) e w' := by
  obtain ⟨hst, hB0⟩ := bx3_start w m h x
  obtain ⟨W, hW⟩ : ∃ W, (((w.alloc (boxD m h)).alloc (boxAct x)).alloc (.cells zerD.toArray 31)) = W := ⟨_, rfl⟩
  have HE := Lib.hid (show (((w.alloc (.cells #[.int .i64 m.room, .int .i64 m.count, .slice h.bp h.bn h.bc, .slice h.sp h.sn h.sc, .slice h.fp h.fn h.fc, .slice h.wp h.wn h.wc] 31)).alloc (.cells #[.int .u8 (x.1.kind : Int), .string (mkS x.1.path), .string (mkS x.1.to_), .slice x.2.bq x.1.b.length x.2.bc, .int .i64 x.1.n, .slice x.2.kp x.1.ks.length x.2.kc] 35)).alloc (.cells #[.int .i64 0, .int .i64 0, .slice none 0 0, .slice none 0 0, .slice none 0 0, .slice none 0 0] 31)) = W from hW)
  rw [hW] at hst hB0
  have HI := Lib.hid hi
  have HST := Lib.hid hst
  have HB0 := Lib.hid hB0
  have hst7 : stepL m x.1 = m := by unfold stepL; rw [h7]; rfl
  have HS7 := Lib.hid hst7
  have d0 : W.cell? ⟨w.heap.size, 0, none⟩ = some (.int .i64 m.room) := hst.dsk 0
  have d1 : W.cell? ⟨w.heap.size, 1, none⟩ = some (.int .i64 m.count) := hst.dsk 1
  have d2 : W.cell? ⟨w.heap.size, 2, none⟩ = some (.slice h.bp h.bn h.bc) := hst.dsk 2
  have d3 : W.cell? ⟨w.heap.size, 3, none⟩ = some (.slice h.sp h.sn h.sc) := hst.dsk 3
  have d4 : W.cell? ⟨w.heap.size, 4, none⟩ = some (.slice h.fp h.fn h.fc) := hst.dsk 4
  have d5 : W.cell? ⟨w.heap.size, 5, none⟩ = some (.slice h.wp h.wn h.wc) := hst.dsk 5
  have a0 : W.cell? ⟨w.heap.size + 1, 0, none⟩ = some (.int .u8 (x.1.kind : Int)) := hst.act 0
  have a1 : W.cell? ⟨w.heap.size + 1, 1, none⟩ = some (.string (mkS x.1.path)) := hst.act 1
  have a2 : W.cell? ⟨w.heap.size + 1, 2, none⟩ = some (.string (mkS x.1.to_)) := hst.act 2
  have a3 : W.cell? ⟨w.heap.size + 1, 3, none⟩ = some (.slice x.2.bq x.1.b.length x.2.bc) := hst.act 3
  have a4 : W.cell? ⟨w.heap.size + 1, 4, none⟩ = some (.int .i64 x.1.n) := hst.act 4
  have a5 : W.cell? ⟨w.heap.size + 1, 5, none⟩ = some (.slice x.2.kp x.1.ks.length x.2.kc) := hst.act 5
  have q7 : ((x.1.kind : Int).tmod 7) = 6 := by have := hi.kind; rw [Int.tmod_eq_emod_of_nonneg (by omega)]; omega
  clear hst hB0 hW hi h7 hst7
  have HRD := Lib.hid (dread_any (HI.out.disk.of_below HB0.out) (HI.out.ok.mono (by decide)) x.1.path)
  have HSA := Lib.hid (fun (u : World) (hu : Below W.heap.size W u) => dstat_any (HI.out.disk.of_below (HB0.out.trans (hu.mono HB0.out.size))) x.1.path)
  have hr := HI.out.ref.of_below HB0.out
  have hsn := hr.sn
  have hos := HI.out.ok.seen
  have HFI := Lib.hid (fun (u : World) (hu : Below W.heap.size W u) => refFind_any m.seen h.sp h.sn h.sc x.1.path (by omega) u (hr.of_below hu).seen.files)
  clear hr hsn hos
  rw [show readN m x.1.path = 8 by unfold readN readL; rw [hf]; rfl, show readL m x.1.path = none by unfold readL; rw [hf]; rfl] at HRD
  rw [show stampV (fileL m x.1.path) = .tuple #[.agg #[.int .i64 0, .int .i64 0, .int .i64 0], .int .i64 8] by unfold fileL; rw [hf]; rfl] at HSA
  rw [findI_none hf] at HFI
  unfold aggD actV
  clear hf
  go_enter Tryz.func8, Tryz.ntmps8
  go_wp2_with fail
  rw [HE.out]
  refine HRD.out.mono ?_
  rintro e w2 ⟨v, rfl, hO, hB2⟩
  obtain ⟨q1, c1, hv⟩ := own_slice hO
  replace hv : v = .slice q1 0 c1 := hv
  subst hv
  have hst2 := HST.out.next hB2
  clear d0 d1 d2 d3 d4 d5 a0 a1 a2 a3 a4 a5 hO
  have HB2 := Lib.hid hB2
  have HST2 := Lib.hid hst2
  have a0 : w2.cell? ⟨w.heap.size + 1, 0, none⟩ = some (.int .u8 (x.1.kind : Int)) := hst2.act 0
  have a1 : w2.cell? ⟨w.heap.size + 1, 1, none⟩ = some (.string (mkS x.1.path)) := hst2.act 1
  have a2 : w2.cell? ⟨w.heap.size + 1, 2, none⟩ = some (.string (mkS x.1.to_)) := hst2.act 2
  have a3 : w2.cell? ⟨w.heap.size + 1, 3, none⟩ = some (.slice x.2.bq x.1.b.length x.2.bc) := hst2.act 3
  have a4 : w2.cell? ⟨w.heap.size + 1, 4, none⟩ = some (.int .i64 x.1.n) := hst2.act 4
  have a5 : w2.cell? ⟨w.heap.size + 1, 5, none⟩ = some (.slice x.2.kp x.1.ks.length x.2.kc) := hst2.act 5
  clear hst2 hB2
  go_wp2_with fail
  refine (HSA.out w2 HB2.out).mono ?_
  rintro e w3 ⟨rfl, hB3⟩
  have hst3 := HST2.out.next hB3
  have HB3 := Lib.hid (HB2.out.trans (hB3.mono HB2.out.size))
  have hst4 := hst3.next ((Below.refl w3.heap.size w3).alloc (Nat.le_refl _) (.cells #[.int .i64 0, .int .i64 0, .int .i64 0] 62))
  have HB4 := Lib.hid (HB3.out.trans (((Below.refl w3.heap.size w3).alloc (Nat.le_refl _) (.cells #[.int .i64 0, .int .i64 0, .int .i64 0] 62)).mono HB3.out.size))
  have b0 : (w3.alloc (.cells #[.int .i64 0, .int .i64 0, .int .i64 0] 62)).cell? ⟨w.heap.size + 1, 0, none⟩ = some (.int .u8 (x.1.kind : Int)) := hst4.act 0
  have b1 : (w3.alloc (.cells #[.int .i64 0, .int .i64 0, .int .i64 0] 62)).cell? ⟨w.heap.size + 1, 1, none⟩ = some (.string (mkS x.1.path)) := hst4.act 1
  have b2 : (w3.alloc (.cells #[.int .i64 0, .int .i64 0, .int .i64 0] 62)).cell? ⟨w.heap.size + 1, 2, none⟩ = some (.string (mkS x.1.to_)) := hst4.act 2
  have b3 : (w3.alloc (.cells #[.int .i64 0, .int .i64 0, .int .i64 0] 62)).cell? ⟨w.heap.size + 1, 3, none⟩ = some (.slice x.2.bq x.1.b.length x.2.bc) := hst4.act 3
  have b4 : (w3.alloc (.cells #[.int .i64 0, .int .i64 0, .int .i64 0] 62)).cell? ⟨w.heap.size + 1, 4, none⟩ = some (.int .i64 x.1.n) := hst4.act 4
  have b5 : (w3.alloc (.cells #[.int .i64 0, .int .i64 0, .int .i64 0] 62)).cell? ⟨w.heap.size + 1, 5, none⟩ = some (.slice x.2.kp x.1.ks.length x.2.kc) := hst4.act 5
  have e0 : (w3.alloc (.cells #[.int .i64 0, .int .i64 0, .int .i64 0] 62)).cell? ⟨w.heap.size, 0, none⟩ = some (.int .i64 m.room) := hst4.dsk 0
  have e1 : (w3.alloc (.cells #[.int .i64 0, .int .i64 0, .int .i64 0] 62)).cell? ⟨w.heap.size, 1, none⟩ = some (.int .i64 m.count) := hst4.dsk 1
  have e2 : (w3.alloc (.cells #[.int .i64 0, .int .i64 0, .int .i64 0] 62)).cell? ⟨w.heap.size, 2, none⟩ = some (.slice h.bp h.bn h.bc) := hst4.dsk 2
  have e3 : (w3.alloc (.cells #[.int .i64 0, .int .i64 0, .int .i64 0] 62)).cell? ⟨w.heap.size, 3, none⟩ = some (.slice h.sp h.sn h.sc) := hst4.dsk 3
  have e4 : (w3.alloc (.cells #[.int .i64 0, .int .i64 0, .int .i64 0] 62)).cell? ⟨w.heap.size, 4, none⟩ = some (.slice h.fp h.fn h.fc) := hst4.dsk 4
  have e5 : (w3.alloc (.cells #[.int .i64 0, .int .i64 0, .int .i64 0] 62)).cell? ⟨w.heap.size, 5, none⟩ = some (.slice h.wp h.wn h.wc) := hst4.dsk 5
  have hsc := stamp_cells w3 (.int .i64 0) (.int .i64 0) (.int .i64 0)
  obtain ⟨W4, hW4⟩ : ∃ W4, w3.alloc (.cells #[.int .i64 0, .int .i64 0, .int .i64 0] 62) = W4 := ⟨_, rfl⟩
  have HW4 := Lib.hid hW4
  rw [hW4] at hst4 HB4 hsc
  have HST4 := Lib.hid hst4
  obtain ⟨s0, s1, s2⟩ := hsc
  clear a0 a1 a2 a3 a4 a5 hB3 hW4
  have d0 : W4.cell? ⟨w.heap.size, 0, none⟩ = some (.int .i64 m.room) := hst4.dsk 0
  have d1 : W4.cell? ⟨w.heap.size, 1, none⟩ = some (.int .i64 m.count) := hst4.dsk 1
  have d2 : W4.cell? ⟨w.heap.size, 2, none⟩ = some (.slice h.bp h.bn h.bc) := hst4.dsk 2
  have d3 : W4.cell? ⟨w.heap.size, 3, none⟩ = some (.slice h.sp h.sn h.sc) := hst4.dsk 3
  have d4 : W4.cell? ⟨w.heap.size, 4, none⟩ = some (.slice h.fp h.fn h.fc) := hst4.dsk 4
  have d5 : W4.cell? ⟨w.heap.size, 5, none⟩ = some (.slice h.wp h.wn h.wc) := hst4.dsk 5
  have a0 : W4.cell? ⟨w.heap.size + 1, 0, none⟩ = some (.int .u8 (x.1.kind : Int)) := hst4.act 0
  have a1 : W4.cell? ⟨w.heap.size + 1, 1, none⟩ = some (.string (mkS x.1.path)) := hst4.act 1
  have a2 : W4.cell? ⟨w.heap.size + 1, 2, none⟩ = some (.string (mkS x.1.to_)) := hst4.act 2
  have a3 : W4.cell? ⟨w.heap.size + 1, 3, none⟩ = some (.slice x.2.bq x.1.b.length x.2.bc) := hst4.act 3
  have a4 : W4.cell? ⟨w.heap.size + 1, 4, none⟩ = some (.int .i64 x.1.n) := hst4.act 4
  have a5 : W4.cell? ⟨w.heap.size + 1, 5, none⟩ = some (.slice x.2.kp x.1.ks.length x.2.kc) := hst4.act 5
  have r0 : W4.cell? ⟨w.heap.size + 1 + 1, 0, none⟩ = some (.int .i64 0) := hst4.res 0
  have r1 : W4.cell? ⟨w.heap.size + 1 + 1, 1, none⟩ = some (.int .i64 0) := hst4.res 1
  have r2 : W4.cell? ⟨w.heap.size + 1 + 1, 2, none⟩ = some (.slice none 0 0) := hst4.res 2
  have r3 : W4.cell? ⟨w.heap.size + 1 + 1, 3, none⟩ = some (.slice none 0 0) := hst4.res 3
  have r4 : W4.cell? ⟨w.heap.size + 1 + 1, 4, none⟩ = some (.slice none 0 0) := hst4.res 4
  have r5 : W4.cell? ⟨w.heap.size + 1 + 1, 5, none⟩ = some (.slice none 0 0) := hst4.res 5
  have z0 := hst4.rfree 0
  have z1 := hst4.rfree 1
  have z2 := hst4.rfree 2
  have z3 := hst4.rfree 3
  have z4 := hst4.rfree 4
  have z5 := hst4.rfree 5
  clear hst4
  clear hst3
  go_wp2_with fail
  rw [HW4.out]
  refine (HFI.out W4 HB4.out).mono ?_
  rintro e w' ⟨rfl, rfl⟩
  clear b0 b1 b2 b3 b4 b5 e0 e1 e2 e3 e4 e5
  have HN3 := Lib.hid (show w3.heap.size ≠ w.heap.size + 1 + 1 by have := HB3.out.size; have := HST.out.size; omega)
  have hes := eqStamp0
  have HC6 := Lib.hid (put6_cell (.int .i64 m.room) (.int .i64 m.count) (.slice h.bp h.bn h.bc) (.slice h.sp h.sn h.sc) (.slice h.fp h.fn h.fc) (.slice h.wp h.wn h.wc) HST4.out.res)
  have hDR : ∀ (u : World), Below W4.heap.size W4 u → u.cell? ⟨w.heap.size, 0, none⟩ = some (.int .i64 m.room) ∧ u.cell? ⟨w.heap.size, 1, none⟩ = some (.int .i64 m.count) ∧ u.cell? ⟨w.heap.size, 2, none⟩ = some (.slice h.bp h.bn h.bc) ∧ u.cell? ⟨w.heap.size, 3, none⟩ = some (.slice h.sp h.sn h.sc) ∧ u.cell? ⟨w.heap.size, 4, none⟩ = some (.slice h.fp h.fn h.fc) ∧ u.cell? ⟨w.heap.size, 5, none⟩ = some (.slice h.wp h.wn h.wc) ∧ u.cell? ⟨w3.heap.size, 0, none⟩ = some (.int .i64 0) ∧ u.cell? ⟨w3.heap.size, 1, none⟩ = some (.int .i64 0) ∧ u.cell? ⟨w3.heap.size, 2, none⟩ = some (.int .i64 0) := fun u hu => by
    have hs := HST4.out.next hu
    have hk := three_kept ⟨s0, s1, s2⟩ (hu.block w3.heap.size (by rw [← HW4.out, World.size_alloc]; omega))
    exact ⟨hs.dsk 0, hs.dsk 1, hs.dsk 2, hs.dsk 3, hs.dsk 4, hs.dsk 5, hk.1, hk.2.1, hk.2.2⟩
  have hS0 := hDR W4.drew (Below.refl _ _).drew
  have HDR := Lib.hid hDR
  clear hDR
  go_wp2_with fail
  have hS1 : (put6 W4 (w.heap.size + 1 + 1) (.int .i64 m.room) (.int .i64 m.count) (.slice h.bp h.bn h.bc) (.slice h.sp h.sn h.sc) (.slice h.fp h.fn h.fc) (.slice h.wp h.wn h.wc)).drew.cell? ⟨w.heap.size, 0, none⟩ = some (.int .i64 m.room) ∧ (put6 W4 (w.heap.size + 1 + 1) (.int .i64 m.room) (.int .i64 m.count) (.slice h.bp h.bn h.bc) (.slice h.sp h.sn h.sc) (.slice h.fp h.fn h.fc) (.slice h.wp h.wn h.wc)).drew.cell? ⟨w.heap.size, 1, none⟩ = some (.int .i64 m.count) ∧ (put6 W4 (w.heap.size + 1 + 1) (.int .i64 m.room) (.int .i64 m.count) (.slice h.bp h.bn h.bc) (.slice h.sp h.sn h.sc) (.slice h.fp h.fn h.fc) (.slice h.wp h.wn h.wc)).drew.cell? ⟨w.heap.size, 2, none⟩ = some (.slice h.bp h.bn h.bc) ∧ (put6 W4 (w.heap.size + 1 + 1) (.int .i64 m.room) (.int .i64 m.count) (.slice h.bp h.bn h.bc) (.slice h.sp h.sn h.sc) (.slice h.fp h.fn h.fc) (.slice h.wp h.wn h.wc)).drew.cell? ⟨w.heap.size, 3, none⟩ = some (.slice h.sp h.sn h.sc) ∧ (put6 W4 (w.heap.size + 1 + 1) (.int .i64 m.room) (.int .i64 m.count) (.slice h.bp h.bn h.bc) (.slice h.sp h.sn h.sc) (.slice h.fp h.fn h.fc) (.slice h.wp h.wn h.wc)).drew.cell? ⟨w.heap.size, 4, none⟩ = some (.slice h.fp h.fn h.fc) ∧ (put6 W4 (w.heap.size + 1 + 1) (.int .i64 m.room) (.int .i64 m.count) (.slice h.bp h.bn h.bc) (.slice h.sp h.sn h.sc) (.slice h.fp h.fn h.fc) (.slice h.wp h.wn h.wc)).drew.cell? ⟨w.heap.size, 5, none⟩ = some (.slice h.wp h.wn h.wc) ∧ (put6 W4 (w.heap.size + 1 + 1) (.int .i64 m.room) (.int .i64 m.count) (.slice h.bp h.bn h.bc) (.slice h.sp h.sn h.sc) (.slice h.fp h.fn h.fc) (.slice h.wp h.wn h.wc)).drew.cell? ⟨w3.heap.size, 0, none⟩ = some (.int .i64 0) ∧ (put6 W4 (w.heap.size + 1 + 1) (.int .i64 m.room) (.int .i64 m.count) (.slice h.bp h.bn h.bc) (.slice h.sp h.sn h.sc) (.slice h.fp h.fn h.fc) (.slice h.wp h.wn h.wc)).drew.cell? ⟨w3.heap.size, 1, none⟩ = some (.int .i64 0) ∧ (put6 W4 (w.heap.size + 1 + 1) (.int .i64 m.room) (.int .i64 m.count) (.slice h.bp h.bn h.bc) (.slice h.sp h.sn h.sc) (.slice h.fp h.fn h.fc) (.slice h.wp h.wn h.wc)).drew.cell? ⟨w3.heap.size, 2, none⟩ = some (.int .i64 0) := by
    have hk : ∀ k, k ≠ w.heap.size + 1 + 1 → (put6 W4 (w.heap.size + 1 + 1) (.int .i64 m.room) (.int .i64 m.count) (.slice h.bp h.bn h.bc) (.slice h.sp h.sn h.sc) (.slice h.fp h.fn h.fc) (.slice h.wp h.wn h.wc)).drew.heap[k]? = W4.drew.heap[k]? := fun k hk => put6_drew W4 _ _ _ _ _ _ _ hk
    have q0 := hk w.heap.size (by omega)
    have q1 := hk w3.heap.size HN3.out
    obtain ⟨v0, v1, v2, v3, v4, v5, v6, v7, v8⟩ := hS0
    exact ⟨cell_kept q0 0 v0, cell_kept q0 1 v1, cell_kept q0 2 v2, cell_kept q0 3 v3, cell_kept q0 4 v4, cell_kept q0 5 v5, cell_kept q1 0 v6, cell_kept q1 1 v7, cell_kept q1 2 v8⟩
  unfold put6 at hS1
  clear d0 d1 d2 d3 d4 d5 a0 a1 a2 a3 a4 a5 s0 s1 s2
  go_region_held3 (fun u : World => u.cell? ⟨w.heap.size, 0, none⟩ = some (.int .i64 m.room) ∧ u.cell? ⟨w.heap.size, 1, none⟩ = some (.int .i64 m.count) ∧ u.cell? ⟨w.heap.size, 2, none⟩ = some (.slice h.bp h.bn h.bc) ∧ u.cell? ⟨w.heap.size, 3, none⟩ = some (.slice h.sp h.sn h.sc) ∧ u.cell? ⟨w.heap.size, 4, none⟩ = some (.slice h.fp h.fn h.fc) ∧ u.cell? ⟨w.heap.size, 5, none⟩ = some (.slice h.wp h.wn h.wc) ∧ u.cell? ⟨w3.heap.size, 0, none⟩ = some (.int .i64 0) ∧ u.cell? ⟨w3.heap.size, 1, none⟩ = some (.int .i64 0) ∧ u.cell? ⟨w3.heap.size, 2, none⟩ = some (.int .i64 0)) (first | with_reducible exact hS0 | with_reducible exact hS1) (fail)
  have HFIN := Lib.hid (DoPost.drew (do_end6 HI.out (HB0.out.trans (HB4.out.mono HB0.out.size)) (.int .i64 m.room) (.int .i64 m.count) (.slice h.bp h.bn h.bc) (.slice h.sp h.sn h.sc) (.slice h.fp h.fn h.fc) (.slice h.wp h.wn h.wc)))
  clear hS0 hS1 hes r0 r1 r2 r3 r4 r5 z0 z1 z2 z3 z4 z5
  go_wp2
  refine bodyPost_ret (v := .tuple #[aggD m h, .bool true]) ?_ rfl ?_
  · have e := HC6.out
    unfold put6 at e
    obtain ⟨e0, e1, e2, e3, e4, e5⟩ := e
    simp [results, Tryz.f8, go_sem, e0, e1, e2, e3, e4, e5, aggD]
  · rw [HS7.out]
    exact HFIN.out
set_option maxRecDepth 100000 in
set_option maxHeartbeats 8000000 in
theorem do_6s {w : World} {S G : Nat → Prop} {b : Nat} {m : Dk} {h : Hd} {x : Ac × AcH} (hi : DoIn w S G b m h x) (h7 : x.1.kind % 7 = 6) {fi : Nat} (hf : findL m.seen x.1.path = some fi) :
    Calls Tryz.prog 8 #[.pointer (some ⟨b, 0, none⟩), aggD m h, actV x] w fun e w' => DoPost S G b w (stepL m x.1) e w' := by
  obtain ⟨hst, hB0⟩ := bx3_start w m h x
  obtain ⟨W, hW⟩ : ∃ W, (((w.alloc (boxD m h)).alloc (boxAct x)).alloc (.cells zerD.toArray 31)) = W := ⟨_, rfl⟩
  have HE := Lib.hid (show (((w.alloc (.cells #[.int .i64 m.room, .int .i64 m.count, .slice h.bp h.bn h.bc, .slice h.sp h.sn h.sc, .slice h.fp h.fn h.fc, .slice h.wp h.wn h.wc] 31)).alloc (.cells #[.int .u8 (x.1.kind : Int), .string (mkS x.1.path), .string (mkS x.1.to_), .slice x.2.bq x.1.b.length x.2.bc, .int .i64 x.1.n, .slice x.2.kp x.1.ks.length x.2.kc] 35)).alloc (.cells #[.int .i64 0, .int .i64 0, .slice none 0 0, .slice none 0 0, .slice none 0 0, .slice none 0 0] 31)) = W from hW)
  rw [hW] at hst hB0
  have HI := Lib.hid hi
  have HST := Lib.hid hst
  have HB0 := Lib.hid hB0
  have hst7 : stepL m x.1 = m := by unfold stepL; rw [h7]; rfl
  have HS7 := Lib.hid hst7
  have d0 : W.cell? ⟨w.heap.size, 0, none⟩ = some (.int .i64 m.room) := hst.dsk 0
  have d1 : W.cell? ⟨w.heap.size, 1, none⟩ = some (.int .i64 m.count) := hst.dsk 1
  have d2 : W.cell? ⟨w.heap.size, 2, none⟩ = some (.slice h.bp h.bn h.bc) := hst.dsk 2
  have d3 : W.cell? ⟨w.heap.size, 3, none⟩ = some (.slice h.sp h.sn h.sc) := hst.dsk 3
  have d4 : W.cell? ⟨w.heap.size, 4, none⟩ = some (.slice h.fp h.fn h.fc) := hst.dsk 4
  have d5 : W.cell? ⟨w.heap.size, 5, none⟩ = some (.slice h.wp h.wn h.wc) := hst.dsk 5
  have a0 : W.cell? ⟨w.heap.size + 1, 0, none⟩ = some (.int .u8 (x.1.kind : Int)) := hst.act 0
  have a1 : W.cell? ⟨w.heap.size + 1, 1, none⟩ = some (.string (mkS x.1.path)) := hst.act 1
  have a2 : W.cell? ⟨w.heap.size + 1, 2, none⟩ = some (.string (mkS x.1.to_)) := hst.act 2
  have a3 : W.cell? ⟨w.heap.size + 1, 3, none⟩ = some (.slice x.2.bq x.1.b.length x.2.bc) := hst.act 3
  have a4 : W.cell? ⟨w.heap.size + 1, 4, none⟩ = some (.int .i64 x.1.n) := hst.act 4
  have a5 : W.cell? ⟨w.heap.size + 1, 5, none⟩ = some (.slice x.2.kp x.1.ks.length x.2.kc) := hst.act 5
  have q7 : ((x.1.kind : Int).tmod 7) = 6 := by have := hi.kind; rw [Int.tmod_eq_emod_of_nonneg (by omega)]; omega
  clear hst hB0 hW hi h7 hst7
  have HRD := Lib.hid (dread_any (HI.out.disk.of_below HB0.out) (HI.out.ok.mono (by decide)) x.1.path)
  have HSA := Lib.hid (fun (u : World) (hu : Below W.heap.size W u) => dstat_any (HI.out.disk.of_below (HB0.out.trans (hu.mono HB0.out.size))) x.1.path)
  have hr := HI.out.ref.of_below HB0.out
  have hsn := hr.sn
  have hos := HI.out.ok.seen
  have HFI := Lib.hid (fun (u : World) (hu : Below W.heap.size W u) => refFind_any m.seen h.sp h.sn h.sc x.1.path (by omega) u (hr.of_below hu).seen.files)
  clear hr hsn hos
  obtain ⟨y, hy⟩ : ∃ y, m.seen.getD fi fl0 = y := ⟨_, rfl⟩
  obtain ⟨bd, hbd⟩ : ∃ bd, bodyL m y = bd := ⟨_, rfl⟩
  obtain ⟨bl, hbl⟩ : ∃ bl, bd.length = bl := ⟨_, rfl⟩
  have hbb : bl ≤ 300000 := by rw [← hbl, ← hbd]; exact HI.out.ok.shortB _
  rw [show readN m x.1.path = 0 by unfold readN readL; rw [hf]; rfl, show readL m x.1.path = some bd by unfold readL; rw [hf, ← hbd, ← hy]; rfl] at HRD
  rw [show stampV (fileL m x.1.path) = .tuple #[.agg #[.int .i64 y.size, .int .i64 y.time, .int .i64 y.chg], .int .i64 0] by unfold fileL; rw [hf, ← hy]; rfl] at HSA
  rw [findI_some hf] at HFI
  have HBL := Lib.hid hbl
  unfold aggD actV
  clear hf hy hbd hbl
  go_enter Tryz.func8, Tryz.ntmps8
  go_wp2_with fail
  rw [HE.out]
  refine HRD.out.mono ?_
  rintro e w2 ⟨v, rfl, hO, hB2⟩
  replace hO : w2.ownsRow W.heap.size 5 1 v bd.length (bytC bd) := hO
  rw [HBL.out] at hO
  obtain ⟨q1, c1, hv⟩ := own_slice hO
  subst hv
  have hst2 := HST.out.next hB2
  clear d0 d1 d2 d3 d4 d5 a0 a1 a2 a3 a4 a5
  have HO2 := Lib.hid hO
  have HB2 := Lib.hid hB2
  have HST2 := Lib.hid hst2
  have a0 : w2.cell? ⟨w.heap.size + 1, 0, none⟩ = some (.int .u8 (x.1.kind : Int)) := hst2.act 0
  have a1 : w2.cell? ⟨w.heap.size + 1, 1, none⟩ = some (.string (mkS x.1.path)) := hst2.act 1
  have a2 : w2.cell? ⟨w.heap.size + 1, 2, none⟩ = some (.string (mkS x.1.to_)) := hst2.act 2
  have a3 : w2.cell? ⟨w.heap.size + 1, 3, none⟩ = some (.slice x.2.bq x.1.b.length x.2.bc) := hst2.act 3
  have a4 : w2.cell? ⟨w.heap.size + 1, 4, none⟩ = some (.int .i64 x.1.n) := hst2.act 4
  have a5 : w2.cell? ⟨w.heap.size + 1, 5, none⟩ = some (.slice x.2.kp x.1.ks.length x.2.kc) := hst2.act 5
  clear hst2 hB2 hO
  go_wp2_with fail
  refine (HSA.out w2 HB2.out).mono ?_
  rintro e w3 ⟨rfl, hB3⟩
  have hst3 := HST2.out.next hB3
  have hbs := (Below.refl w3.heap.size w3).alloc (Nat.le_refl _) (.cells #[.int .i64 y.size, .int .i64 y.time, .int .i64 y.chg] 62)
  have HB3 := Lib.hid (HB2.out.trans (hB3.mono HB2.out.size))
  have hst4 := hst3.next hbs
  have HB4 := Lib.hid (HB3.out.trans (hbs.mono HB3.out.size))
  have HO4 := Lib.hid (own_below (own_below HO2.out hB3) hbs)
  have b0 : (w3.alloc (.cells #[.int .i64 y.size, .int .i64 y.time, .int .i64 y.chg] 62)).cell? ⟨w.heap.size + 1, 0, none⟩ = some (.int .u8 (x.1.kind : Int)) := hst4.act 0
  have b1 : (w3.alloc (.cells #[.int .i64 y.size, .int .i64 y.time, .int .i64 y.chg] 62)).cell? ⟨w.heap.size + 1, 1, none⟩ = some (.string (mkS x.1.path)) := hst4.act 1
  have b2 : (w3.alloc (.cells #[.int .i64 y.size, .int .i64 y.time, .int .i64 y.chg] 62)).cell? ⟨w.heap.size + 1, 2, none⟩ = some (.string (mkS x.1.to_)) := hst4.act 2
  have b3 : (w3.alloc (.cells #[.int .i64 y.size, .int .i64 y.time, .int .i64 y.chg] 62)).cell? ⟨w.heap.size + 1, 3, none⟩ = some (.slice x.2.bq x.1.b.length x.2.bc) := hst4.act 3
  have b4 : (w3.alloc (.cells #[.int .i64 y.size, .int .i64 y.time, .int .i64 y.chg] 62)).cell? ⟨w.heap.size + 1, 4, none⟩ = some (.int .i64 x.1.n) := hst4.act 4
  have b5 : (w3.alloc (.cells #[.int .i64 y.size, .int .i64 y.time, .int .i64 y.chg] 62)).cell? ⟨w.heap.size + 1, 5, none⟩ = some (.slice x.2.kp x.1.ks.length x.2.kc) := hst4.act 5
  have e0 : (w3.alloc (.cells #[.int .i64 y.size, .int .i64 y.time, .int .i64 y.chg] 62)).cell? ⟨w.heap.size, 0, none⟩ = some (.int .i64 m.room) := hst4.dsk 0
  have e1 : (w3.alloc (.cells #[.int .i64 y.size, .int .i64 y.time, .int .i64 y.chg] 62)).cell? ⟨w.heap.size, 1, none⟩ = some (.int .i64 m.count) := hst4.dsk 1
  have e2 : (w3.alloc (.cells #[.int .i64 y.size, .int .i64 y.time, .int .i64 y.chg] 62)).cell? ⟨w.heap.size, 2, none⟩ = some (.slice h.bp h.bn h.bc) := hst4.dsk 2
  have e3 : (w3.alloc (.cells #[.int .i64 y.size, .int .i64 y.time, .int .i64 y.chg] 62)).cell? ⟨w.heap.size, 3, none⟩ = some (.slice h.sp h.sn h.sc) := hst4.dsk 3
  have e4 : (w3.alloc (.cells #[.int .i64 y.size, .int .i64 y.time, .int .i64 y.chg] 62)).cell? ⟨w.heap.size, 4, none⟩ = some (.slice h.fp h.fn h.fc) := hst4.dsk 4
  have e5 : (w3.alloc (.cells #[.int .i64 y.size, .int .i64 y.time, .int .i64 y.chg] 62)).cell? ⟨w.heap.size, 5, none⟩ = some (.slice h.wp h.wn h.wc) := hst4.dsk 5
  obtain ⟨W4, hW4⟩ : ∃ W4, (w3.alloc (.cells #[.int .i64 y.size, .int .i64 y.time, .int .i64 y.chg] 62)) = W4 := ⟨_, rfl⟩
  have HW4 := Lib.hid hW4
  rw [hW4] at hst4 HB4 HO4
  have HST4 := Lib.hid hst4
  clear a0 a1 a2 a3 a4 a5 hB3 hW4 hst4 hst3 hbs
  go_wp2_with fail
  rw [HW4.out]
  refine (HFI.out W4 HB4.out).mono ?_
  rintro e w' ⟨rfl, rfl⟩
  clear b0 b1 b2 b3 b4 b5 e0 e1 e2 e3 e4 e5
  have hge : decide ((fi : Int) < 0) = false := decide_eq_false (by omega)
  have hge2 : ¬ (fi : Int) < 0 := by omega
  go_wp2
  go_loopw [59] (fun i wr => ∃ k : Nat, k ≤ bl ∧ i = .int .i64 k ∧ ∃ bs : S8, bs.length = bl ∧ wr.ownsRow W.heap.size 5 1 (.slice q1 bl c1) bl (bytC bs) ∧ Below w.heap.size w wr ∧ Bx3 w.heap.size (lisD m h) (encA x) zerD wr) (fun i _ => bl - (intOf i).toNat)
  case atStart => exact ⟨0, Nat.zero_le _, rfl, bd, HBL.out, HO4.out, HB0.out.trans (HB4.out.mono HB0.out.size), HST4.out⟩
  case round =>
    obtain ⟨k, hk, rfl, bs, hbs, hO, hB, hst⟩ := hrel
    by_cases hlt : k < bl
    · obtain ⟨g, cap9, hv9, hg3, hgl, hnc, hcs, hfr⟩ := own_full8 hO (by omega)
      injection hv9 with e1 e2 e3
      subst e1 e3
      have x1 := hcs k (by rw [bytC_len]; omega)
      rw [bytC_get bs k (by omega)] at x1
      have hch : (chr bs k : Int) = ((bs.getD k 0).toNat : Int) := by unfold chr; rfl
      rw [hch] at x1
      have x2 := hfr k
      obtain ⟨yy, hyy⟩ : ∃ y, bs.getD k 0 = y := ⟨_, rfl⟩
      rw [hyy] at x1
      have hbits := xor_bits yy 255
      obtain ⟨rr, hrr⟩ : ∃ r, yy ^^^ 255 = r := ⟨_, rfl⟩
      rw [hrr] at hbits
      have hbits2 : bits .xor .u8 (yy.toNat : Int) 255 = (rr.toNat : Int) := hbits
      have hO5 := (hO.stored k (.int .u8 (rr.toNat : Int))).1
      have e5 : (bytC bs).set k (.int .u8 (rr.toNat : Int)) = bytC (bs.set k rr) := by unfold bytC; rw [List.map_set]
      rw [e5] at hO5
      have HO5 := Lib.hid hO5
      have HBS := Lib.hid (show (bs.set k rr).length = bl by rw [List.length_set]; exact hbs)
      have hgw : w.heap.size + 3 ≤ g := Nat.le_trans HST.out.size hg3
      have HB5 := Lib.hid (hB.setCell (p := ⟨g, k, none⟩) (by show w.heap.size ≤ g; omega) (.int .u8 (rr.toNat : Int)))
      have HS5 : Hid (Bx3 w.heap.size (lisD m h) (encA x) zerD (wr.setCell ⟨g, k, none⟩ (.int .u8 (rr.toNat : Int)))) := Lib.hid (hst.keep (fun i _ hi => Below.heap_setCell _ _ _ _ (by show i ≠ g; omega)) (by simp))
      have hd0 : decide ((k : Int) < (bl : Int)) = true := decide_eq_true (by omega)
      have hl0 : (k : Int) < (bl : Int) := by omega
      clear hO hB hst hbits hrr hyy hch hcs hfr hO5 e5 hbs hnc hgl hg3 hgw
      go_wp2
      go_roundw
      case rel => exact ⟨k + 1, by omega, by go_num, _, HBS.out, HO5.out, HB5.out, HS5.out⟩
      case measure => simp [intOf]; omega
    · have hd0 : decide ((k : Int) < (bl : Int)) = false := decide_eq_false (by omega)
      have HFIN := Lib.hid (do_end6 HI.out hB (.int .i64 m.room) (.int .i64 m.count) (.slice h.bp h.bn h.bc) (.slice h.sp h.sn h.sc) (.slice h.fp h.fn h.fc) (.slice h.wp h.wn h.wc))
      have HC6 := Lib.hid (put6_cell (.int .i64 m.room) (.int .i64 m.count) (.slice h.bp h.bn h.bc) (.slice h.sp h.sn h.sc) (.slice h.fp h.fn h.fc) (.slice h.wp h.wn h.wc) hst.res)
      have d0 : wr.cell? ⟨w.heap.size, 0, none⟩ = some (.int .i64 m.room) := hst.dsk 0
      have d1 : wr.cell? ⟨w.heap.size, 1, none⟩ = some (.int .i64 m.count) := hst.dsk 1
      have d2 : wr.cell? ⟨w.heap.size, 2, none⟩ = some (.slice h.bp h.bn h.bc) := hst.dsk 2
      have d3 : wr.cell? ⟨w.heap.size, 3, none⟩ = some (.slice h.sp h.sn h.sc) := hst.dsk 3
      have d4 : wr.cell? ⟨w.heap.size, 4, none⟩ = some (.slice h.fp h.fn h.fc) := hst.dsk 4
      have d5 : wr.cell? ⟨w.heap.size, 5, none⟩ = some (.slice h.wp h.wn h.wc) := hst.dsk 5
      have r0 : wr.cell? ⟨w.heap.size + 1 + 1, 0, none⟩ = some (.int .i64 0) := hst.res 0
      have r1 : wr.cell? ⟨w.heap.size + 1 + 1, 1, none⟩ = some (.int .i64 0) := hst.res 1
      have r2 : wr.cell? ⟨w.heap.size + 1 + 1, 2, none⟩ = some (.slice none 0 0) := hst.res 2
      have r3 : wr.cell? ⟨w.heap.size + 1 + 1, 3, none⟩ = some (.slice none 0 0) := hst.res 3
      have r4 : wr.cell? ⟨w.heap.size + 1 + 1, 4, none⟩ = some (.slice none 0 0) := hst.res 4
      have r5 : wr.cell? ⟨w.heap.size + 1 + 1, 5, none⟩ = some (.slice none 0 0) := hst.res 5
      have z0 := hst.rfree 0
      have z1 := hst.rfree 1
      have z2 := hst.rfree 2
      have z3 := hst.rfree 3
      have z4 := hst.rfree 4
      have z5 := hst.rfree 5
      clear hst hB hO
      go_wp2
      refine bodyPost_ret (v := .tuple #[aggD m h, .bool true]) ?_ rfl ?_
      · have e := HC6.out
        unfold put6 at e
        obtain ⟨e0, e1, e2, e3, e4, e5⟩ := e
        simp [results, Tryz.f8, go_sem, e0, e1, e2, e3, e4, e5, aggD]
      · rw [HS7.out]
        exact HFIN.out
set_option maxHeartbeats 1000000 in
theorem do_6 {w : World} {S G : Nat → Prop} {b : Nat} {m : Dk} {h : Hd} {x : Ac × AcH} (hi : DoIn w S G b m h x) (h7 : x.1.kind % 7 = 6) :
    Calls Tryz.prog 8 #[.pointer (some ⟨b, 0, none⟩), aggD m h, actV x] w fun e w' => DoPost S G b w (stepL m x.1) e w' := by
  cases hf : findL m.seen x.1.path with
  | none => exact do_6n hi h7 hf
  | some fi => exact do_6s hi h7 hf
end Go.Proofs.YtjglgohchhdkkaaGreatDoor
/- Do, whatever the act. -/
namespace Go.Proofs.YtjglgohchhdkkaaGreatDoor
open Go Go.RowKit

theorem do8_any {w : World} {S G : Nat → Prop} {b : Nat} {m : Dk} {h : Hd} {x : Ac × AcH} (hi : DoIn w S G b m h x) :
    Calls Tryz.prog 8 #[.pointer (some ⟨b, 0, none⟩), aggD m h, actV x] w fun e w' => DoPost S G b w (stepL m x.1) e w' := by
  have h7 : x.1.kind % 7 < 7 := Nat.mod_lt _ (by decide)
  rcases (show x.1.kind % 7 = 0 ∨ x.1.kind % 7 = 1 ∨ x.1.kind % 7 = 2 ∨ x.1.kind % 7 = 3 ∨ x.1.kind % 7 = 4 ∨ x.1.kind % 7 = 5 ∨ x.1.kind % 7 = 6 by omega) with e | e | e | e | e | e | e
  · exact do_0 hi e
  · exact do_1 hi e
  · exact do_2 hi e
  · exact do_3 hi e
  · exact do_4 hi e
  · exact do_5 hi e
  · exact do_6 hi e
/-- What holds of a disk behind an act. -/
theorem step_ok {n : Nat} {m : Dk} (x : Ac) (h : DkOk n m) (hp : x.path.length < 100000) : DkOk (n + 1) (stepL m x) := by
  unfold stepL
  split
  · exact h.write _ _ _
  · exact h.rename _ _ hp
  · exact h.remove _ hp
  · exact h.sync.more
  · exact (h.crash _).more
  · exact (h.rot _ _ _).more
  · exact h.more
theorem step_room (m : Dk) (x : Ac) : (stepL m x).room = m.room := by
  unfold stepL
  split
  · exact writeL_room _ _ _ _
  · exact renameL_room _ _ _
  · exact removeL_room _ _
  · rfl
  · rfl
  · exact rotL_room _ _ _ _
  · rfl
end Go.Proofs.YtjglgohchhdkkaaGreatDoor
/- Two disks and one reference, carried over acts. -/
namespace Go.Proofs.YtjglgohchhdkkaaGreatDoor
open Go Go.RowKit

theorem boxD_free (w : World) (m : Dk) (h : Hd) : ∀ j, (w.alloc (boxD m h)).frozen? ⟨w.heap.size, j, none⟩ = false := by
  intro j
  have hh := World.alloc_heap_new w (boxD m h)
  unfold World.frozen?
  rw [hh]
  simp [boxD]
/-- The program's disks x and y, the reference's in box B; its lists do not lie where E holds. -/
structure Pl2 (N : Nat) (w : World) (Sx Sy E : Nat → Prop) (x y B : Nat) (mx my m : Dk) (h : Hd) : Prop where
  dx : Dsk w Sx x mx
  dy : Dsk w Sy y my
  two : ∀ k, Sx k → ¬ Sy k
  ref : RfG (fun k => ¬ Sx k ∧ ¬ Sy k ∧ ¬ E k) w m h
  eB : E B
  elow : ∀ k, E k → k < w.heap.size
  cell : ∀ j, w.cell? ⟨B, j, none⟩ = (lisD m h)[j]?
  free : ∀ j, w.frozen? ⟨B, j, none⟩ = false
  lt : B < w.heap.size
  nx : ¬ Sx B
  ny : ¬ Sy B
  fx : ∀ k, Sx k → N ≤ k
  fy : ∀ k, Sy k → N ≤ k
/-- The blocks that may be changed. -/
def In3 (Sx Sy : Nat → Prop) (B : Nat) (k : Nat) : Prop := Sx k ∨ Sy k ∨ k = B
section
variable {N : Nat} {w w' : World} {Sx Sy E : Nat → Prop} {x y B : Nat} {mx my m : Dk} {h : Hd}
theorem Pl2.next (H : Pl2 N w Sx Sy E x y B mx my m h) (hB : Below w.heap.size w w') : Pl2 N w' Sx Sy E x y B mx my m h :=
  ⟨H.dx.of_below hB, H.dy.of_below hB, H.two, H.ref.of_below hB, H.eB, fun k hk => Nat.lt_of_lt_of_le (H.elow k hk) hB.size, fun j => (hB.cell (p := ⟨B, j, none⟩) H.lt).trans (H.cell j), fun j => (hB.frozen (p := ⟨B, j, none⟩) H.lt).trans (H.free j), Nat.lt_of_lt_of_le H.lt hB.size, H.nx, H.ny, H.fx, H.fy⟩
theorem Pl2.swap (H : Pl2 N w Sx Sy E x y B mx my m h) : Pl2 N w Sy Sx E y x B my mx m h :=
  ⟨H.dy, H.dx, fun k hy hx => H.two k hx hy, H.ref.wider fun c hc _ => ⟨hc.2.1, hc.1, hc.2.2⟩, H.eB, H.elow, H.cell, H.free, H.lt, H.ny, H.nx, H.fy, H.fx⟩
/-- Disk x is changed by a call. -/
theorem Pl2.callx {Sx2 : Nat → Prop} {mx2 : Dk} (H : Pl2 N w Sx Sy E x y B mx my m h) (hd : Dsk w' Sx2 x mx2) (hk : Kq8 Sx w w') (hg : GrewTo w.heap.size Sx Sx2) (hN : N ≤ w.heap.size) : Pl2 N w' Sx2 Sy E x y B mx2 my m h := by
  have hlow := H.dy.low
  have hlt := H.lt
  refine ⟨hd, H.dy.apart hk (fun k hy hx => H.two k hx hy), fun k hx hy => ?_, ?_, H.eB, fun k he => Nat.lt_of_lt_of_le (H.elow k he) hk.size, fun j => ?_, fun j => ?_, Nat.lt_of_lt_of_le H.lt hk.size, fun hx => ?_, H.ny, fun k hx => ?_, H.fy⟩
  · rcases hg k hx with z | z
    · exact H.two k z hy
    · have := hlow k hy; omega
  · have r1 := H.ref.wider (G' := fun k => ¬ Sx k ∧ ¬ Sx2 k ∧ ¬ Sy k ∧ ¬ E k) fun c hc hl => ⟨hc.1, fun hx => by
      rcases hg c hx with z | z
      · exact hc.1 z
      · omega, hc.2.1, hc.2.2⟩
    exact (r1.keep (fun c hc hl => hk.block c hl hc.1) hk.size).wider fun c hc _ => hc.2
  · exact (World.cell?_of_block (w := w) (w' := w') (a := ⟨B, j, none⟩) (hk.block B H.lt H.nx)).trans (H.cell j)
  · exact (World.frozen?_of_block (w := w) (w' := w') (a := ⟨B, j, none⟩) (hk.block B H.lt H.nx)).trans (H.free j)
  · rcases hg B hx with z | z
    · exact H.nx z
    · omega
  · rcases hg k hx with z | z
    · exact H.fx k z
    · omega
/-- What the first call gave is there behind the second. -/
theorem Pl2.kept {w0 w4 W4 w5 : World} {Sx2 Sy2 : Nat → Prop} {m2 : Dk} {h2 : Hd} (H : Pl2 N w0 Sx Sy E x y B mx my m h) (hr2 : RfG (fun k => ((¬ Sx k ∧ ¬ Sy k ∧ ¬ E k) ∨ w0.heap.size ≤ k) ∧ ¬ Sx2 k) w4 m2 h2) (hs : w0.heap.size ≤ w4.heap.size) (hB : Below w4.heap.size w4 W4) (hk3 : Kq8 Sy W4 w5) (hg3 : GrewTo W4.heap.size Sy Sy2) : RfG (fun k => ¬ Sx2 k ∧ ¬ Sy2 k ∧ ¬ E k) w5 m2 h2 := by
  have hlow := H.dy.low
  have hlt := H.lt
  have hz := hB.size
  have r1 := hr2.wider (G' := fun k => ¬ Sy k ∧ ¬ Sx2 k ∧ ¬ Sy2 k ∧ ¬ E k) fun c hc hl => by
    have hy : ¬ Sy c := fun q => by
      rcases hc.1 with z | z
      · exact z.2.1 q
      · have := hlow c q; omega
    refine ⟨hy, hc.2, fun q => ?_, fun e => ?_⟩
    · rcases hg3 c q with z | z
      · exact hy z
      · omega
    · rcases hc.1 with z | z
      · exact z.2.2 e
      · have := H.elow c e; omega
  exact ((r1.of_below hB).keep (fun c hc hl => hk3.block c hl hc.1) hk3.size).wider fun c hc _ => hc.2
/-- The reference's disk stored into its box. -/
theorem Pl2.put {m2 : Dk} {h2 : Hd} (H : Pl2 N w Sx Sy E x y B mx my m h) (hr : RfG (fun k => ¬ Sx k ∧ ¬ Sy k ∧ ¬ E k) w m2 h2) (v0 v1 v2 v3 v4 v5 : Value) (hv : [v0, v1, v2, v3, v4, v5] = lisD m2 h2) : Pl2 N (put6 w B v0 v1 v2 v3 v4 v5) Sx Sy E x y B mx my m2 h2 := by
  have hz := put6_sz w B v0 v1 v2 v3 v4 v5
  have hq := kq_put (S := fun k => k = B) w B v0 v1 v2 v3 v4 v5 rfl
  have hlt := H.lt
  refine ⟨H.dx.apart hq fun k hx e => ?_, H.dy.apart hq fun k hy e => ?_, H.two, hr.keep (fun c hc _ => put6_heap _ _ _ _ _ _ _ _ (fun e => hc.2.2 (e ▸ H.eB))) (Nat.le_of_eq hz.symm), H.eB, fun k he => by rw [hz]; exact H.elow k he, fun j => ?_, fun j => ?_, by rw [hz]; exact hlt, H.nx, H.ny, H.fx, H.fy⟩
  · exact H.nx (e ▸ hx)
  · exact H.ny (e ▸ hy)
  · rw [put6_at v0 v1 v2 v3 v4 v5 (dv := lisD m h) rfl H.cell j, hv]
  · rw [put6_frozen]
    exact H.free j
theorem kq3_put (v0 v1 v2 v3 v4 v5 : Value) : Kq8 (In3 Sx Sy B) w (put6 w B v0 v1 v2 v3 v4 v5) := kq_put _ _ _ _ _ _ _ _ (.inr (.inr rfl))
theorem kq3_x (h : Kq8 Sx w w') : Kq8 (In3 Sx Sy B) w w' := ⟨h.os, h.tape, h.output, h.size, fun k hk hn => h.block k hk fun z => hn (.inl z)⟩
theorem kq3_y (h : Kq8 Sy w w') : Kq8 (In3 Sx Sy B) w w' := ⟨h.os, h.tape, h.output, h.size, fun k hk hn => h.block k hk fun z => hn (.inr (.inl z))⟩
theorem grew3 {Sx2 Sy2 : Nat → Prop} {n : Nat} (hx : GrewTo n Sx Sx2) (hy : GrewTo n Sy Sy2) : GrewTo n (In3 Sx Sy B) (In3 Sx2 Sy2 B) := fun k hk => by
  rcases hk with z | z | z
  · exact (hx k z).imp .inl id
  · exact (hy k z).imp (fun q => .inr (.inl q)) id
  · exact .inl (.inr (.inr z))
theorem grew_refl (n : Nat) (S : Nat → Prop) : GrewTo n S S := fun _ h => .inl h
theorem GrewTo.mono {n n' : Nat} {S S' : Nat → Prop} (h : GrewTo n S S') (hn : n' ≤ n) : GrewTo n' S S' := fun k hk => (h k hk).imp id fun z => Nat.le_trans hn z
theorem grew_SN (S : Nat → Prop) (n k : Nat) : GrewTo n S (SN S n k) := fun i hi => by
  rcases hi with z | z
  · exact .inl z
  · exact .inr z.1
/-- A whole act by both disks: w the world ahead, w4 behind x's call, W4 ahead of y's, w5 behind it, w6 ahead of the store. -/
theorem Pl2.act {w4 W4 w5 w6 : World} {Sx2 Sy2 : Nat → Prop} {m2 : Dk} {h2 : Hd} (H : Pl2 N w Sx Sy E x y B m m m h) (hN : N ≤ w.heap.size) (hd2 : Dsk w4 Sx2 x m2) (hr2 : RfG (fun k => ((¬ Sx k ∧ ¬ Sy k ∧ ¬ E k) ∨ w.heap.size ≤ k) ∧ ¬ Sx2 k) w4 m2 h2) (hk2 : Kq8 Sx w w4) (hg2 : GrewTo w.heap.size Sx Sx2) (hB4 : Below w4.heap.size w4 W4) (hd3 : Dsk w5 Sy2 y m2) (hk3 : Kq8 Sy W4 w5) (hg3 : GrewTo W4.heap.size Sy Sy2) (hB6 : Below w5.heap.size w5 w6)
    (v0 v1 v2 v3 v4 v5 : Value) (hv : [v0, v1, v2, v3, v4, v5] = lisD m2 h2) : Pl2 N (put6 w6 B v0 v1 v2 v3 v4 v5) Sx2 Sy2 E x y B m2 m2 m2 h2 ∧ Kq8 (In3 Sx Sy B) w (put6 w6 B v0 v1 v2 v3 v4 v5) ∧ GrewTo w.heap.size Sx Sx2 ∧ GrewTo w.heap.size Sy Sy2 := by
  have z1 := hk2.size
  have z2 := hB4.size
  have H2 := (H.callx hd2 hk2 hg2 hN).next hB4
  have H3 := (H2.swap.callx hd3 hk3 hg3 (by omega)).swap
  have r3 := H.kept hr2 z1 hB4 hk3 hg3
  have H4 := (H3.next hB6).put (r3.of_below hB6) v0 v1 v2 v3 v4 v5 hv
  refine ⟨H4, ?_, hg2, hg3.mono (by omega)⟩
  have k1 : Kq8 (In3 Sx Sy B) w W4 := Kq8.comp (kq3_x hk2) (Kq8.of_below hB4)
  exact Kq8.comp k1 (Kq8.comp (kq3_y hk3) (Kq8.comp (Kq8.of_below hB6) (kq3_put _ _ _ _ _ _)))
end
end Go.Proofs.YtjglgohchhdkkaaGreatDoor
/- What a crash leaves when nothing, or all, is kept, in plain words. -/
namespace Go.Proofs.YtjglgohchhdkkaaGreatDoor
open Go Go.RowKit

theorem kept_none (l : List Fl) (ws : List Ch) : keptL l ws [] = l := by
  induction ws generalizing l with
  | nil => rfl
  | cons c r ih => exact ih l
theorem kept_all_app (l : List Fl) (ws : List Ch) (c : Ch) : keptL l (ws ++ [c]) (List.replicate (ws ++ [c]).length true) = doL (keptL l ws (List.replicate ws.length true)) c := by
  induction ws generalizing l with
  | nil => rfl
  | cons d r ih => exact ih (doL l d)
/-- All that was done since it was synced gives what is seen. -/
def AllK (m : Dk) : Prop := keptL m.safe m.waits (List.replicate m.waits.length true) = m.seen
theorem AllK.sync (m : Dk) : AllK (syncL m) := rfl
theorem AllK.change {m : Dk} (h : AllK m) (c : Ch) : AllK (changeL m c) := by
  unfold AllK changeL
  show keptL m.safe (m.waits ++ [c]) (List.replicate (m.waits ++ [c]).length true) = doL m.seen c
  rw [kept_all_app, h]
/-- From one disk to a later one, nothing synced between: what is safe stays, bodies are only added. -/
structure Later (m m' : Dk) : Prop where
  all : AllK m'
  safe : m'.safe = m.safe
  room : m'.room = m.room
  bods : ∃ r, m'.bodies = m.bodies ++ r
theorem Later.change {m m' : Dk} (h : Later m m') (c : Ch) : Later m (changeL m' c) := ⟨h.all.change c, h.safe, h.room, h.bods⟩
theorem Later.write {m m' : Dk} (h : Later m m') (p b : S8) (t : Int) : Later m (writeL m' p b t).1 := by
  unfold writeL
  split
  · exact h
  split
  · exact h
  split
  · exact h
  split
  · exact h
  split
  · exact h
  obtain ⟨r, hr⟩ := h.bods
  have h2 : Later m { m' with count := m'.count + 1, bodies := m'.bodies ++ [b] } := ⟨h.all, h.safe, h.room, ⟨r ++ [b], by show m'.bodies ++ [b] = _; rw [hr, List.append_assoc]⟩⟩
  exact h2.change _
theorem Later.rename {m m' : Dk} (h : Later m m') (p q : S8) : Later m (renameL m' p q).1 := by
  unfold renameL
  split
  · exact h
  split
  · exact h
  split
  · exact h
  exact h.change _
theorem Later.remove {m m' : Dk} (h : Later m m') (p : S8) : Later m (removeL m' p).1 := by
  unfold removeL
  split
  · exact h
  exact h.change _
theorem Later.seen_all {m m' : Dk} (h : Later m m') : (crashL m' (List.replicate m'.waits.length true)).seen = m'.seen := h.all
theorem Later.seen_none {m m' : Dk} (h : Later m m') : (crashL m' []).seen = m.safe := by
  show keptL m'.safe m'.waits [] = _
  rw [kept_none, h.safe]
theorem Later.body {m m' : Dk} (h : Later m m') (f : Fl) (hf : f.body < m.bodies.length) : bodyL m' f = bodyL m f := by
  obtain ⟨r, hr⟩ := h.bods
  unfold bodyL
  rw [hr, List.getD_eq_getElem?_getD, List.getD_eq_getElem?_getD, List.getElem?_append_left hf]
end Go.Proofs.YtjglgohchhdkkaaGreatDoor
/- What never happens on a disk without crashes: too much used, too many files, two that clash: in plain words. -/
namespace Go.Proofs.YtjglgohchhdkkaaGreatDoor
open Go Go.RowKit

/-- No more used than there is room for; paths are good, and none clash. -/
structure RmOk (m : Dk) : Prop where
  used : (usedL m : Int) ≤ m.room
  good : ∀ f ∈ m.seen, goodL f.p = true
  apart : ∀ f ∈ m.seen, ∀ g ∈ m.seen, f.p ≠ g.p → clashL f.p g.p = false
theorem clash_symm (a b : S8) : clashL a b = clashL b a := by unfold clashL; exact Bool.or_comm _ _
theorem sum_filter_le {α : Type} (P : α → Bool) (g : α → Nat) (l : List α) : ((l.filter P).map g).sum ≤ (l.map g).sum := by
  induction l with
  | nil => simp
  | cons x r ih =>
    rw [List.filter_cons]
    split
    · simp only [List.map_cons, List.sum_cons]; omega
    · simp only [List.map_cons, List.sum_cons]; omega
theorem sum_filter_less {α : Type} (P : α → Bool) (g : α → Nat) (l : List α) (i : Nat) (hi : i < l.length) (hP : P l[i] = false) : ((l.filter P).map g).sum + g l[i] ≤ (l.map g).sum := by
  induction l generalizing i with
  | nil => exact absurd hi (by simp)
  | cons x r ih =>
    rw [List.filter_cons]
    cases i with
    | zero =>
      have hx : P x = false := hP
      rw [hx]
      have := sum_filter_le P g r
      simp only [List.map_cons, List.sum_cons, List.getElem_cons_zero, Bool.false_eq_true, if_false]
      omega
    | succ i =>
      have := ih i (by simpa using hi) hP
      simp only [List.getElem_cons_succ] at this ⊢
      split
      · simp only [List.map_cons, List.sum_cons]; omega
      · simp only [List.map_cons, List.sum_cons]; omega
theorem findL_at {l : List Fl} {p : S8} {i : Nat} (h : findL l p = some i) : ∃ hi : i < l.length, (l[i]).p = p := by
  have hi := findL_lt h
  refine ⟨hi, ?_⟩
  unfold findL at h
  rw [List.findIdx?_eq_some_iff_getElem] at h
  obtain ⟨_, h2, _⟩ := h
  simpa using h2
theorem getD_at {l : List Fl} {i : Nat} (hi : i < l.length) : l.getD i fl0 = l[i] := by rw [List.getD_eq_getElem?_getD, List.getElem?_eq_getElem hi]; rfl
theorem without_not {l : List Fl} {p : S8} {f : Fl} (hf : f ∈ withoutL l p true) : f.p ≠ p ∧ clashL f.p p = false := by
  unfold withoutL at hf
  have := (List.mem_filter.1 hf).2
  simp at this
  exact this
/-- A file put where nothing is in its way. -/
theorem apart_put {l : List Fl} {p : S8} {f : Fl} (hp : f.p = p) (h : ∀ f ∈ l, ∀ g ∈ l, f.p ≠ g.p → clashL f.p g.p = false) : ∀ x ∈ withoutL l p true ++ [f], ∀ g ∈ withoutL l p true ++ [f], x.p ≠ g.p → clashL x.p g.p = false := by
  intro x hx g hg hne
  rcases List.mem_append.1 hx with x1 | x1
  · rcases List.mem_append.1 hg with g1 | g1
    · exact h x (without_mem x1) g (without_mem g1) hne
    · rw [List.mem_singleton.1 g1, hp]
      exact (without_not x1).2
  · have ex := List.mem_singleton.1 x1
    rcases List.mem_append.1 hg with g1 | g1
    · rw [ex, hp, clash_symm]
      exact (without_not g1).2
    · rw [ex, List.mem_singleton.1 g1] at hne
      exact absurd rfl hne
theorem good_put {l : List Fl} {p : S8} {f : Fl} (hp : f.p = p) (hg : goodL p = true) (h : ∀ f ∈ l, goodL f.p = true) : ∀ x ∈ withoutL l p true ++ [f], goodL x.p = true := by
  intro x hx
  rcases List.mem_append.1 hx with hx | hx
  · exact h x (without_mem hx)
  · simp at hx
    subst hx
    rw [hp, hg]
theorem body_app {m : Dk} {b : S8} (f : Fl) (hf : f.body < m.bodies.length) : ((m.bodies ++ [b]).getD f.body []).length = (bodyL m f).length := by
  unfold bodyL
  rw [List.getD_eq_getElem?_getD, List.getD_eq_getElem?_getD, List.getElem?_append_left hf]
theorem RmOk.write {n : Nat} {m : Dk} (h : RmOk m) (hok : DkOk n m) (p b : S8) (t : Int) : RmOk (writeL m p b t).1 := by
  unfold writeL
  split
  · exact h
  rename_i h1
  split
  · exact h
  rename_i h2
  split
  · exact h
  split
  · exact h
  split
  · exact h
  rename_i h5
  have hgp : goodL p = true := by simpa using h1
  refine ⟨?_, good_put rfl hgp h.good, apart_put rfl h.apart⟩
  have hle : (b.length : Int) ≤ leftL m p := by omega
  have e : usedL (changeL { m with count := m.count + 1, bodies := m.bodies ++ [b] } ⟨1, [], ⟨p, m.bodies.length, b.length, t, m.count + 1⟩⟩) = ((withoutL m.seen p true).map fun f => (bodyL m f).length).sum + b.length := by
    show ((withoutL m.seen p true ++ [_]).map fun f : Fl => ((m.bodies ++ [b]).getD f.body []).length).sum = _
    rw [List.map_append, List.sum_append]
    congr 1
    · congr 1
      exact List.map_congr_left fun f hf => body_app f (hok.inS f (without_mem hf))
    · simp
  rw [e]
  show _ ≤ m.room
  cases hf : findL m.seen p with
  | none =>
    rw [leftL_none hf] at hle
    have := sum_filter_le (fun f => f.p != p && !(true && clashL f.p p)) (fun f => (bodyL m f).length) m.seen
    unfold withoutL
    unfold usedL at hle
    omega
  | some i =>
    rw [leftL_some hf] at hle
    obtain ⟨hi, hpi⟩ := findL_at hf
    rw [getD_at hi] at hle
    have := sum_filter_less (fun f => f.p != p && !(true && clashL f.p p)) (fun f => (bodyL m f).length) m.seen i hi (by simp [hpi])
    unfold withoutL
    unfold usedL at hle
    omega
theorem RmOk.rename {m : Dk} (h : RmOk m) (p q : S8) : RmOk (renameL m p q).1 := by
  unfold renameL
  split
  · exact h
  rename_i h1
  split
  · exact h
  rename_i h2
  split
  · exact h
  have hgq : goodL q = true := by simpa using h2
  cases hf : findL m.seen p with
  | none => rw [hf] at h1; exact absurd rfl h1
  | some i =>
    obtain ⟨hi, hpi⟩ := findL_at hf
    have e : doL m.seen ⟨2, p, { fl0 with p := q }⟩ = withoutL (withoutL m.seen p false) q true ++ [{ m.seen.getD i fl0 with p := q }] := by
      show (match findL m.seen p with | none => m.seen | some i => withoutL (withoutL m.seen p false) q true ++ [{ m.seen.getD i fl0 with p := q }]) = _
      rw [hf]
    have hs : (changeL m ⟨2, p, { fl0 with p := q }⟩).seen = withoutL (withoutL m.seen p false) q true ++ [{ m.seen.getD i fl0 with p := q }] := e
    refine ⟨?_, ?_, ?_⟩
    · have hu := h.used
      have e2 : usedL (changeL m ⟨2, p, { fl0 with p := q }⟩) = ((withoutL (withoutL m.seen p false) q true).map fun f => (bodyL m f).length).sum + (bodyL m m.seen[i]).length := by
        unfold usedL
        rw [hs, List.map_append, List.sum_append, getD_at hi]
        congr 1
      rw [e2]
      show _ ≤ m.room
      have g1 := sum_filter_less (fun f => f.p != p && !(false && clashL f.p p)) (fun f => (bodyL m f).length) m.seen i hi (by simp [hpi])
      have g2 := sum_filter_le (fun f => f.p != q && !(true && clashL f.p q)) (fun f => (bodyL m f).length) (withoutL m.seen p false)
      unfold usedL at hu
      unfold withoutL at g2 ⊢
      omega
    · rw [hs]
      exact good_put rfl hgq fun f hf => h.good f (without_mem hf)
    · rw [hs]
      exact apart_put rfl fun f hf g hg => h.apart f (without_mem hf) g (without_mem hg)
theorem RmOk.remove {m : Dk} (h : RmOk m) (p : S8) : RmOk (removeL m p).1 := by
  unfold removeL
  split
  · exact h
  have hs : (changeL m ⟨3, p, fl0⟩).seen = withoutL m.seen p false := rfl
  refine ⟨?_, ?_, ?_⟩
  · have hu := h.used
    have g1 := sum_filter_le (fun f => f.p != p && !(false && clashL f.p p)) (fun f => (bodyL m f).length) m.seen
    show (((withoutL m.seen p false).map fun f => (bodyL m f).length).sum : Int) ≤ m.room
    unfold usedL at hu
    unfold withoutL
    omega
  · rw [hs]; exact fun f hf => h.good f (without_mem hf)
  · rw [hs]; exact fun f hf g hg => h.apart f (without_mem hf) g (without_mem hg)
theorem RmOk.sync {m : Dk} (h : RmOk m) : RmOk (syncL m) := ⟨h.used, h.good, h.apart⟩
theorem set_lenR (l : List S8) (i j : Nat) (b : S8) (h : b.length = (l.getD i []).length) : ((l.set i b).getD j []).length = (l.getD j []).length := by
  by_cases e : i = j
  · subst e
    by_cases hl : i < l.length
    · rw [List.getD_eq_getElem?_getD, List.getElem?_set_self hl]
      exact h
    · rw [List.set_eq_of_length_le (by omega)]
  · rw [List.getD_eq_getElem?_getD, List.getElem?_set_ne e, ← List.getD_eq_getElem?_getD]
theorem RmOk.rot {m : Dk} (h : RmOk m) (p : S8) (a : Int) (k : UInt8) : RmOk (rotL m p a k).1 := by
  unfold rotL
  split
  · exact h
  rename_i i hf
  dsimp only
  split
  · exact h
  refine ⟨?_, h.good, h.apart⟩
  have hu := h.used
  have e : usedL { m with bodies := m.bodies.set (m.seen.getD i fl0).body (flipL (bodyL m (m.seen.getD i fl0)) a.toNat k) } = usedL m := by
    unfold usedL
    congr 1
    refine List.map_congr_left fun f _ => ?_
    exact set_lenR _ _ _ _ (flip_len _ _ _)
  rw [e]
  exact hu
/-- Where nothing crashes there are never more than 64 files. -/
theorem seen64_write {m : Dk} (h : m.seen.length ≤ 64) (p b : S8) (t : Int) : (writeL m p b t).1.seen.length ≤ 64 := by
  unfold writeL
  split
  · exact h
  split
  · exact h
  split
  · exact h
  split
  · exact h
  rename_i h4
  split
  · exact h
  show (withoutL m.seen p true ++ [_]).length ≤ 64
  rw [List.length_append]
  show (withoutL m.seen p true).length + 1 ≤ 64
  cases hf : findL m.seen p with
  | none =>
    rw [hf] at h4
    have := without_len m.seen p true
    simp at h4
    omega
  | some i =>
    obtain ⟨hi, hpi⟩ := findL_at hf
    have := sum_filter_less (fun f => f.p != p && !(true && clashL f.p p)) (fun _ => 1) m.seen i hi (by simp [hpi])
    unfold withoutL
    simp only [List.map_const', List.sum_replicate_nat, Nat.mul_one] at this
    omega
theorem seen64_rename {m : Dk} (h : m.seen.length ≤ 64) (p q : S8) : (renameL m p q).1.seen.length ≤ 64 := by
  unfold renameL
  split
  · exact h
  rename_i h1
  split
  · exact h
  split
  · exact h
  cases hf : findL m.seen p with
  | none => rw [hf] at h1; exact absurd rfl h1
  | some i =>
    obtain ⟨hi, hpi⟩ := findL_at hf
    have e : doL m.seen ⟨2, p, { fl0 with p := q }⟩ = withoutL (withoutL m.seen p false) q true ++ [{ m.seen.getD i fl0 with p := q }] := by
      show (match findL m.seen p with | none => m.seen | some i => withoutL (withoutL m.seen p false) q true ++ [{ m.seen.getD i fl0 with p := q }]) = _
      rw [hf]
    show (doL m.seen ⟨2, p, { fl0 with p := q }⟩).length ≤ 64
    rw [e, List.length_append]
    show (withoutL (withoutL m.seen p false) q true).length + 1 ≤ 64
    have g := sum_filter_less (fun f => f.p != p && !(false && clashL f.p p)) (fun _ => 1) m.seen i hi (by simp [hpi])
    simp only [List.map_const', List.sum_replicate_nat, Nat.mul_one] at g
    have g2 := without_len (withoutL m.seen p false) q true
    have g3 : withoutL m.seen p false = m.seen.filter (fun f => f.p != p && !(false && clashL f.p p)) := rfl
    rw [g3] at g2 ⊢
    omega
theorem seen64_remove {m : Dk} (h : m.seen.length ≤ 64) (p : S8) : (removeL m p).1.seen.length ≤ 64 := by
  unfold removeL
  split
  · exact h
  exact Nat.le_trans (without_len m.seen p false) h
end Go.Proofs.YtjglgohchhdkkaaGreatDoor
/- What the statements' arguments read as, in the walks' words. -/
namespace Go.Proofs.YtjglgohchhdkkaaGreatDoor
open Go Go.ChangeShapes Go.WideShapes Go.ChangeAt Go.RowKit

theorem own : ownKnob Tryz.prog.godebug = none := by kernel_rfl
theorem laidOut : laidOutB Tryz.prog = true := by kernel_rfl
theorem cellsByte : Tryz.prog.cellsOf 5 = 1 := by kernel_rfl
theorem undByte : Tryz.prog.underlying 5 = some (.int .u8) := by kernel_rfl
theorem undBytes : Tryz.prog.underlying 32 = some (.slice 5) := by kernel_rfl
/-- The bytes of a slice of numbers. -/
def bytesOf (zs : List Int) : List (BitVec 8) := zs.map fun z => BitVec.ofInt 8 z
theorem B_ofInt {z : Int} (h : (Lit.int .u8 z).wf = true) : B (BitVec.ofInt 8 z) = .int .u8 z := by
  have := bounds_u8 h
  rw [B_eq']
  congr 1
  rw [BitVec.toNat_ofInt]
  omega
theorem Sl_of_ints {W : World} {a : Addr} {len : Nat} {zs : List Int} (hz : len ≤ zs.length) (hc : ∀ i, i < zs.length → W.cell? (a.add i) = some (.int .u8 (zs.getD i 0))) (hw : ∀ n ∈ zs, (Lit.int .u8 n).wf = true) :
    Sl W (some a) (bytesOf (zs.take len)) := fun j hj => by
  have hj' : j < len := by simp [bytesOf] at hj; omega
  have h0 := hc 0 (by omega)
  rw [Addr.add_zero'] at h0
  have hs : a.spot = none := by
    cases h : a.spot with
    | none => rfl
    | some s =>
      unfold World.cell? at h0
      split at h0
      · simp [h] at h0
      · cases h0
  obtain ⟨c, o, sp⟩ := a
  obtain rfl : sp = none := hs
  refine ⟨c, o, rfl, ?_⟩
  have hj2 := hc j (by omega)
  rw [Addr.add_mid] at hj2
  rw [hj2]
  have hjz : j < zs.length := by omega
  have e : (bytesOf (zs.take len)).getD j 0#8 = BitVec.ofInt 8 zs[j] := by
    simp [bytesOf, List.getD_eq_getElem?_getD, hj', hjz]
  rw [e, B_ofInt (hw _ (List.getElem_mem hjz))]
  simp [List.getD_eq_getElem?_getD, hjz]
theorem bytesOf_length (zs : List Int) : (bytesOf zs).length = zs.length := by simp [bytesOf]
/-- An argument that is a slice of bytes. -/
theorem open_bytes {H : Type} {enc : TypeId × Value → H} {W : World} {a0 : Option Addr} {len cap : Nat} {d : DataW H} {ps : List MemPlace}
    (h : DataW.Trod enc Tryz.prog W 0 (fun _ => true) true 32 (.slice a0 len cap) d ps) : ∃ l : List (BitVec 8), Sl W a0 l ∧ l.length = len ∧ (a0 = none → cap = 0) := by
  obtain ⟨fuel, hfu⟩ := h
  rcases open_ints undBytes undByte cellsByte hfu with ⟨hcs, _⟩ | ⟨a, len', cap', zs, hcs, _, hl, hm, hz, hx, hcell, hwz⟩
  · simp [Value.cells] at hcs
    obtain ⟨rfl, rfl, rfl⟩ := hcs
    exact ⟨[], fun j hj => absurd hj (by simp), rfl, fun _ => rfl⟩
  · simp [Value.cells] at hcs
    obtain ⟨rfl, rfl, rfl⟩ := hcs
    have hzl : len ≤ zs.length := by rw [hz]; split <;> omega
    have hln : (bytesOf (zs.take len)).length = len := by rw [bytesOf_length, List.length_take]; omega
    exact ⟨bytesOf (zs.take len), Sl_of_ints hzl hcell hwz, hln, fun h => by cases h⟩
end Go.Proofs.YtjglgohchhdkkaaGreatDoor
/- A string as an argument. -/
namespace Go.Proofs.YtjglgohchhdkkaaGreatDoor
open Go Go.ChangeShapes Go.WideShapes Go.ChangeAt Go.RowKit
end Go.Proofs.YtjglgohchhdkkaaGreatDoor
