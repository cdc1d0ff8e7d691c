/- Merged texts: DoC6, DoA8, Lift, LiftS8, LiftA8. -/
import Derived.BigRegion
import Derived.Test.YtbijgbjlljaolaaGreatDoorK11
import Derived.Test.YtbijgbjlljaolaaGreatDoorK12
import Derived.Test.YtbijgbjlljaolaaGreatDoorRows
import Derived.ProofKit
import Derived.OpenShut
import Derived.Deep.DeepHandedRow
import Derived.Test.YtbijgbjlljaolaaGreatDoorK1
import Derived.Deep.Slices
import Derived.Deep.Grids
import Derived.Test.YtbijgbjlljaolaaGreatDoorK10
set_option linter.unusedSimpArgs false
set_option linter.unusedVariables false
/- Do: a file is read. -/
namespace Go.Proofs.YtbijgbjlljaolaaGreatDoor
open Go Go.RowKit

set_option maxRecDepth 100000 in
set_option maxHeartbeats 8000000 in
theorem do_6n {w : World} {S G : Nat → Prop} {b : Nat} {m : Dk} {h : Hd} {x : Ac × AcH} (hi : DoIn w S G b m h x) (h7 : x.1.kind % 7 = 6) (hf : findL m.seen x.1.path = none) :
    Calls Tryz.prog 8 #[.pointer (some ⟨b, 0, none⟩), aggD m h, actV x] w fun e w' => DoPost S G b w (stepL m x.1) e w' := by
  obtain ⟨hst, hB0⟩ := bx3_start w m h x
  obtain ⟨W, hW⟩ : ∃ W, (((w.alloc (boxD m h)).alloc (boxAct x)).alloc (.cells zerD.toArray 31)) = W := ⟨_, rfl⟩
  have HE := Lib.hid (show (((w.alloc (.cells #[.int .i64 m.room, .int .i64 m.count, .slice h.bp h.bn h.bc, .slice h.sp h.sn h.sc, .slice h.fp h.fn h.fc, .slice h.wp h.wn h.wc] 31)).alloc (.cells #[.int .u8 (x.1.kind : Int), .string (mkS x.1.path), .string (mkS x.1.to_), .slice x.2.bq x.1.b.length x.2.bc, .int .i64 x.1.n, .slice x.2.kp x.1.ks.length x.2.kc] 35)).alloc (.cells #[.int .i64 0, .int .i64 0, .slice none 0 0, .slice none 0 0, .slice none 0 0, .slice none 0 0] 31)) = W from hW)
  rw [hW] at hst hB0
  have HI := Lib.hid hi
  have HST := Lib.hid hst
  have HB0 := Lib.hid hB0
  have hst7 : stepL m x.1 = m := by unfold stepL; rw [h7]; rfl
  have HS7 := Lib.hid hst7
  have d0 : W.cell? ⟨w.heap.size, 0, none⟩ = some (.int .i64 m.room) := hst.dsk 0
  have d1 : W.cell? ⟨w.heap.size, 1, none⟩ = some (.int .i64 m.count) := hst.dsk 1
  have d2 : W.cell? ⟨w.heap.size, 2, none⟩ = some (.slice h.bp h.bn h.bc) := hst.dsk 2
  have d3 : W.cell? ⟨w.heap.size, 3, none⟩ = some (.slice h.sp h.sn h.sc) := hst.dsk 3
  have d4 : W.cell? ⟨w.heap.size, 4, none⟩ = some (.slice h.fp h.fn h.fc) := hst.dsk 4
  have d5 : W.cell? ⟨w.heap.size, 5, none⟩ = some (.slice h.wp h.wn h.wc) := hst.dsk 5
  have a0 : W.cell? ⟨w.heap.size + 1, 0, none⟩ = some (.int .u8 (x.1.kind : Int)) := hst.act 0
  have a1 : W.cell? ⟨w.heap.size + 1, 1, none⟩ = some (.string (mkS x.1.path)) := hst.act 1
  have a2 : W.cell? ⟨w.heap.size + 1, 2, none⟩ = some (.string (mkS x.1.to_)) := hst.act 2
  have a3 : W.cell? ⟨w.heap.size + 1, 3, none⟩ = some (.slice x.2.bq x.1.b.length x.2.bc) := hst.act 3
  have a4 : W.cell? ⟨w.heap.size + 1, 4, none⟩ = some (.int .i64 x.1.n) := hst.act 4
  have a5 : W.cell? ⟨w.heap.size + 1, 5, none⟩ = some (.slice x.2.kp x.1.ks.length x.2.kc) := hst.act 5
  have q7 : ((x.1.kind : Int).tmod 7) = 6 := by have := hi.kind; rw [Int.tmod_eq_emod_of_nonneg (by omega)]; omega
  clear hst hB0 hW hi h7 hst7
  have HRD := Lib.hid (dread_any (HI.out.disk.of_below HB0.out) (HI.out.ok.mono (by decide)) x.1.path)
  have HSA := Lib.hid (fun (u : World) (hu : Below W.heap.size W u) => dstat_any (HI.out.disk.of_below (HB0.out.trans (hu.mono HB0.out.size))) x.1.path)
  have hr := HI.out.ref.of_below HB0.out
  have hsn := hr.sn
  have hos := HI.out.ok.seen
  have HFI := Lib.hid (fun (u : World) (hu : Below W.heap.size W u) => refFind_any m.seen h.sp h.sn h.sc x.1.path (by omega) u (hr.of_below hu).seen.files)
  clear hr hsn hos
  rw [show readN m x.1.path = 8 by unfold readN readL; rw [hf]; rfl, show readL m x.1.path = none by unfold readL; rw [hf]; rfl] at HRD
  rw [show stampV (fileL m x.1.path) = .tuple #[.agg #[.int .i64 0, .int .i64 0, .int .i64 0], .int .i64 8] by unfold fileL; rw [hf]; rfl] at HSA
  rw [findI_none hf] at HFI
  unfold aggD actV
  clear hf
  go_enter Tryz.func8, Tryz.ntmps8
  go_wp2_with fail
  rw [HE.out]
  refine HRD.out.mono ?_
  rintro e w2 ⟨v, rfl, hO, hB2⟩
  obtain ⟨q1, c1, hv⟩ := own_slice hO
  replace hv : v = .slice q1 0 c1 := hv
  subst hv
  have hst2 := HST.out.next hB2
  clear d0 d1 d2 d3 d4 d5 a0 a1 a2 a3 a4 a5 hO
  have HB2 := Lib.hid hB2
  have HST2 := Lib.hid hst2
  have a0 : w2.cell? ⟨w.heap.size + 1, 0, none⟩ = some (.int .u8 (x.1.kind : Int)) := hst2.act 0
  have a1 : w2.cell? ⟨w.heap.size + 1, 1, none⟩ = some (.string (mkS x.1.path)) := hst2.act 1
  have a2 : w2.cell? ⟨w.heap.size + 1, 2, none⟩ = some (.string (mkS x.1.to_)) := hst2.act 2
  have a3 : w2.cell? ⟨w.heap.size + 1, 3, none⟩ = some (.slice x.2.bq x.1.b.length x.2.bc) := hst2.act 3
  have a4 : w2.cell? ⟨w.heap.size + 1, 4, none⟩ = some (.int .i64 x.1.n) := hst2.act 4
  have a5 : w2.cell? ⟨w.heap.size + 1, 5, none⟩ = some (.slice x.2.kp x.1.ks.length x.2.kc) := hst2.act 5
  clear hst2 hB2
  go_wp2_with fail
  refine (HSA.out w2 HB2.out).mono ?_
  rintro e w3 ⟨rfl, hB3⟩
  have hst3 := HST2.out.next hB3
  have HB3 := Lib.hid (HB2.out.trans (hB3.mono HB2.out.size))
  have hst4 := hst3.next ((Below.refl w3.heap.size w3).alloc (Nat.le_refl _) (.cells #[.int .i64 0, .int .i64 0, .int .i64 0] 62))
  have HB4 := Lib.hid (HB3.out.trans (((Below.refl w3.heap.size w3).alloc (Nat.le_refl _) (.cells #[.int .i64 0, .int .i64 0, .int .i64 0] 62)).mono HB3.out.size))
  have b0 : (w3.alloc (.cells #[.int .i64 0, .int .i64 0, .int .i64 0] 62)).cell? ⟨w.heap.size + 1, 0, none⟩ = some (.int .u8 (x.1.kind : Int)) := hst4.act 0
  have b1 : (w3.alloc (.cells #[.int .i64 0, .int .i64 0, .int .i64 0] 62)).cell? ⟨w.heap.size + 1, 1, none⟩ = some (.string (mkS x.1.path)) := hst4.act 1
  have b2 : (w3.alloc (.cells #[.int .i64 0, .int .i64 0, .int .i64 0] 62)).cell? ⟨w.heap.size + 1, 2, none⟩ = some (.string (mkS x.1.to_)) := hst4.act 2
  have b3 : (w3.alloc (.cells #[.int .i64 0, .int .i64 0, .int .i64 0] 62)).cell? ⟨w.heap.size + 1, 3, none⟩ = some (.slice x.2.bq x.1.b.length x.2.bc) := hst4.act 3
  have b4 : (w3.alloc (.cells #[.int .i64 0, .int .i64 0, .int .i64 0] 62)).cell? ⟨w.heap.size + 1, 4, none⟩ = some (.int .i64 x.1.n) := hst4.act 4
  have b5 : (w3.alloc (.cells #[.int .i64 0, .int .i64 0, .int .i64 0] 62)).cell? ⟨w.heap.size + 1, 5, none⟩ = some (.slice x.2.kp x.1.ks.length x.2.kc) := hst4.act 5
  have e0 : (w3.alloc (.cells #[.int .i64 0, .int .i64 0, .int .i64 0] 62)).cell? ⟨w.heap.size, 0, none⟩ = some (.int .i64 m.room) := hst4.dsk 0
  have e1 : (w3.alloc (.cells #[.int .i64 0, .int .i64 0, .int .i64 0] 62)).cell? ⟨w.heap.size, 1, none⟩ = some (.int .i64 m.count) := hst4.dsk 1
  have e2 : (w3.alloc (.cells #[.int .i64 0, .int .i64 0, .int .i64 0] 62)).cell? ⟨w.heap.size, 2, none⟩ = some (.slice h.bp h.bn h.bc) := hst4.dsk 2
  have e3 : (w3.alloc (.cells #[.int .i64 0, .int .i64 0, .int .i64 0] 62)).cell? ⟨w.heap.size, 3, none⟩ = some (.slice h.sp h.sn h.sc) := hst4.dsk 3
  have e4 : (w3.alloc (.cells #[.int .i64 0, .int .i64 0, .int .i64 0] 62)).cell? ⟨w.heap.size, 4, none⟩ = some (.slice h.fp h.fn h.fc) := hst4.dsk 4
  have e5 : (w3.alloc (.cells #[.int .i64 0, .int .i64 0, .int .i64 0] 62)).cell? ⟨w.heap.size, 5, none⟩ = some (.slice h.wp h.wn h.wc) := hst4.dsk 5
  have hsc := stamp_cells w3 (.int .i64 0) (.int .i64 0) (.int .i64 0)
  obtain ⟨W4, hW4⟩ : ∃ W4, w3.alloc (.cells #[.int .i64 0, .int .i64 0, .int .i64 0] 62) = W4 := ⟨_, rfl⟩
  have HW4 := Lib.hid hW4
  rw [hW4] at hst4 HB4 hsc
  have HST4 := Lib.hid hst4
  obtain ⟨s0, s1, s2⟩ := hsc
  clear a0 a1 a2 a3 a4 a5 hB3 hW4
  have d0 : W4.cell? ⟨w.heap.size, 0, none⟩ = some (.int .i64 m.room) := hst4.dsk 0
  have d1 : W4.cell? ⟨w.heap.size, 1, none⟩ = some (.int .i64 m.count) := hst4.dsk 1
  have d2 : W4.cell? ⟨w.heap.size, 2, none⟩ = some (.slice h.bp h.bn h.bc) := hst4.dsk 2
  have d3 : W4.cell? ⟨w.heap.size, 3, none⟩ = some (.slice h.sp h.sn h.sc) := hst4.dsk 3
  have d4 : W4.cell? ⟨w.heap.size, 4, none⟩ = some (.slice h.fp h.fn h.fc) := hst4.dsk 4
  have d5 : W4.cell? ⟨w.heap.size, 5, none⟩ = some (.slice h.wp h.wn h.wc) := hst4.dsk 5
  have a0 : W4.cell? ⟨w.heap.size + 1, 0, none⟩ = some (.int .u8 (x.1.kind : Int)) := hst4.act 0
  have a1 : W4.cell? ⟨w.heap.size + 1, 1, none⟩ = some (.string (mkS x.1.path)) := hst4.act 1
  have a2 : W4.cell? ⟨w.heap.size + 1, 2, none⟩ = some (.string (mkS x.1.to_)) := hst4.act 2
  have a3 : W4.cell? ⟨w.heap.size + 1, 3, none⟩ = some (.slice x.2.bq x.1.b.length x.2.bc) := hst4.act 3
  have a4 : W4.cell? ⟨w.heap.size + 1, 4, none⟩ = some (.int .i64 x.1.n) := hst4.act 4
  have a5 : W4.cell? ⟨w.heap.size + 1, 5, none⟩ = some (.slice x.2.kp x.1.ks.length x.2.kc) := hst4.act 5
  have r0 : W4.cell? ⟨w.heap.size + 1 + 1, 0, none⟩ = some (.int .i64 0) := hst4.res 0
  have r1 : W4.cell? ⟨w.heap.size + 1 + 1, 1, none⟩ = some (.int .i64 0) := hst4.res 1
  have r2 : W4.cell? ⟨w.heap.size + 1 + 1, 2, none⟩ = some (.slice none 0 0) := hst4.res 2
  have r3 : W4.cell? ⟨w.heap.size + 1 + 1, 3, none⟩ = some (.slice none 0 0) := hst4.res 3
  have r4 : W4.cell? ⟨w.heap.size + 1 + 1, 4, none⟩ = some (.slice none 0 0) := hst4.res 4
  have r5 : W4.cell? ⟨w.heap.size + 1 + 1, 5, none⟩ = some (.slice none 0 0) := hst4.res 5
  have z0 := hst4.rfree 0
  have z1 := hst4.rfree 1
  have z2 := hst4.rfree 2
  have z3 := hst4.rfree 3
  have z4 := hst4.rfree 4
  have z5 := hst4.rfree 5
  clear hst4
  clear hst3
  go_wp2_with fail
  rw [HW4.out]
  refine (HFI.out W4 HB4.out).mono ?_
  rintro e w' ⟨rfl, rfl⟩
  clear b0 b1 b2 b3 b4 b5 e0 e1 e2 e3 e4 e5
  have HN3 := Lib.hid (show w3.heap.size ≠ w.heap.size + 1 + 1 by have := HB3.out.size; have := HST.out.size; omega)
  have hes := eqStamp0
  have HC6 := Lib.hid (put6_cell (.int .i64 m.room) (.int .i64 m.count) (.slice h.bp h.bn h.bc) (.slice h.sp h.sn h.sc) (.slice h.fp h.fn h.fc) (.slice h.wp h.wn h.wc) HST4.out.res)
  have hDR : ∀ (u : World), Below W4.heap.size W4 u → u.cell? ⟨w.heap.size, 0, none⟩ = some (.int .i64 m.room) ∧ u.cell? ⟨w.heap.size, 1, none⟩ = some (.int .i64 m.count) ∧ u.cell? ⟨w.heap.size, 2, none⟩ = some (.slice h.bp h.bn h.bc) ∧ u.cell? ⟨w.heap.size, 3, none⟩ = some (.slice h.sp h.sn h.sc) ∧ u.cell? ⟨w.heap.size, 4, none⟩ = some (.slice h.fp h.fn h.fc) ∧ u.cell? ⟨w.heap.size, 5, none⟩ = some (.slice h.wp h.wn h.wc) ∧ u.cell? ⟨w3.heap.size, 0, none⟩ = some (.int .i64 0) ∧ u.cell? ⟨w3.heap.size, 1, none⟩ = some (.int .i64 0) ∧ u.cell? ⟨w3.heap.size, 2, none⟩ = some (.int .i64 0) := fun u hu => by
    have hs := HST4.out.next hu
    have hk := three_kept ⟨s0, s1, s2⟩ (hu.block w3.heap.size (by rw [← HW4.out, World.size_alloc]; omega))
    exact ⟨hs.dsk 0, hs.dsk 1, hs.dsk 2, hs.dsk 3, hs.dsk 4, hs.dsk 5, hk.1, hk.2.1, hk.2.2⟩
  have hS0 := hDR W4.drew (Below.refl _ _).drew
  have HDR := Lib.hid hDR
  clear hDR
  go_wp2_with fail
  have hS1 : (put6 W4 (w.heap.size + 1 + 1) (.int .i64 m.room) (.int .i64 m.count) (.slice h.bp h.bn h.bc) (.slice h.sp h.sn h.sc) (.slice h.fp h.fn h.fc) (.slice h.wp h.wn h.wc)).drew.cell? ⟨w.heap.size, 0, none⟩ = some (.int .i64 m.room) ∧ (put6 W4 (w.heap.size + 1 + 1) (.int .i64 m.room) (.int .i64 m.count) (.slice h.bp h.bn h.bc) (.slice h.sp h.sn h.sc) (.slice h.fp h.fn h.fc) (.slice h.wp h.wn h.wc)).drew.cell? ⟨w.heap.size, 1, none⟩ = some (.int .i64 m.count) ∧ (put6 W4 (w.heap.size + 1 + 1) (.int .i64 m.room) (.int .i64 m.count) (.slice h.bp h.bn h.bc) (.slice h.sp h.sn h.sc) (.slice h.fp h.fn h.fc) (.slice h.wp h.wn h.wc)).drew.cell? ⟨w.heap.size, 2, none⟩ = some (.slice h.bp h.bn h.bc) ∧ (put6 W4 (w.heap.size + 1 + 1) (.int .i64 m.room) (.int .i64 m.count) (.slice h.bp h.bn h.bc) (.slice h.sp h.sn h.sc) (.slice h.fp h.fn h.fc) (.slice h.wp h.wn h.wc)).drew.cell? ⟨w.heap.size, 3, none⟩ = some (.slice h.sp h.sn h.sc) ∧ (put6 W4 (w.heap.size + 1 + 1) (.int .i64 m.room) (.int .i64 m.count) (.slice h.bp h.bn h.bc) (.slice h.sp h.sn h.sc) (.slice h.fp h.fn h.fc) (.slice h.wp h.wn h.wc)).drew.cell? ⟨w.heap.size, 4, none⟩ = some (.slice h.fp h.fn h.fc) ∧ (put6 W4 (w.heap.size + 1 + 1) (.int .i64 m.room) (.int .i64 m.count) (.slice h.bp h.bn h.bc) (.slice h.sp h.sn h.sc) (.slice h.fp h.fn h.fc) (.slice h.wp h.wn h.wc)).drew.cell? ⟨w.heap.size, 5, none⟩ = some (.slice h.wp h.wn h.wc) ∧ (put6 W4 (w.heap.size + 1 + 1) (.int .i64 m.room) (.int .i64 m.count) (.slice h.bp h.bn h.bc) (.slice h.sp h.sn h.sc) (.slice h.fp h.fn h.fc) (.slice h.wp h.wn h.wc)).drew.cell? ⟨w3.heap.size, 0, none⟩ = some (.int .i64 0) ∧ (put6 W4 (w.heap.size + 1 + 1) (.int .i64 m.room) (.int .i64 m.count) (.slice h.bp h.bn h.bc) (.slice h.sp h.sn h.sc) (.slice h.fp h.fn h.fc) (.slice h.wp h.wn h.wc)).drew.cell? ⟨w3.heap.size, 1, none⟩ = some (.int .i64 0) ∧ (put6 W4 (w.heap.size + 1 + 1) (.int .i64 m.room) (.int .i64 m.count) (.slice h.bp h.bn h.bc) (.slice h.sp h.sn h.sc) (.slice h.fp h.fn h.fc) (.slice h.wp h.wn h.wc)).drew.cell? ⟨w3.heap.size, 2, none⟩ = some (.int .i64 0) := by
    have hk : ∀ k, k ≠ w.heap.size + 1 + 1 → (put6 W4 (w.heap.size + 1 + 1) (.int .i64 m.room) (.int .i64 m.count) (.slice h.bp h.bn h.bc) (.slice h.sp h.sn h.sc) (.slice h.fp h.fn h.fc) (.slice h.wp h.wn h.wc)).drew.heap[k]? = W4.drew.heap[k]? := fun k hk => put6_drew W4 _ _ _ _ _ _ _ hk
    have q0 := hk w.heap.size (by omega)
    have q1 := hk w3.heap.size HN3.out
    obtain ⟨v0, v1, v2, v3, v4, v5, v6, v7, v8⟩ := hS0
    exact ⟨cell_kept q0 0 v0, cell_kept q0 1 v1, cell_kept q0 2 v2, cell_kept q0 3 v3, cell_kept q0 4 v4, cell_kept q0 5 v5, cell_kept q1 0 v6, cell_kept q1 1 v7, cell_kept q1 2 v8⟩
  unfold put6 at hS1
  clear d0 d1 d2 d3 d4 d5 a0 a1 a2 a3 a4 a5 s0 s1 s2
  go_region_held3 (fun u : World => u.cell? ⟨w.heap.size, 0, none⟩ = some (.int .i64 m.room) ∧ u.cell? ⟨w.heap.size, 1, none⟩ = some (.int .i64 m.count) ∧ u.cell? ⟨w.heap.size, 2, none⟩ = some (.slice h.bp h.bn h.bc) ∧ u.cell? ⟨w.heap.size, 3, none⟩ = some (.slice h.sp h.sn h.sc) ∧ u.cell? ⟨w.heap.size, 4, none⟩ = some (.slice h.fp h.fn h.fc) ∧ u.cell? ⟨w.heap.size, 5, none⟩ = some (.slice h.wp h.wn h.wc) ∧ u.cell? ⟨w3.heap.size, 0, none⟩ = some (.int .i64 0) ∧ u.cell? ⟨w3.heap.size, 1, none⟩ = some (.int .i64 0) ∧ u.cell? ⟨w3.heap.size, 2, none⟩ = some (.int .i64 0)) (first | with_reducible exact hS0 | with_reducible exact hS1) (fail)
  have HFIN := Lib.hid (DoPost.drew (do_end6 HI.out (HB0.out.trans (HB4.out.mono HB0.out.size)) (.int .i64 m.room) (.int .i64 m.count) (.slice h.bp h.bn h.bc) (.slice h.sp h.sn h.sc) (.slice h.fp h.fn h.fc) (.slice h.wp h.wn h.wc)))
  clear hS0 hS1 hes r0 r1 r2 r3 r4 r5 z0 z1 z2 z3 z4 z5
  go_wp2
  refine bodyPost_ret (v := .tuple #[aggD m h, .bool true]) ?_ rfl ?_
  · have e := HC6.out
    unfold put6 at e
    obtain ⟨e0, e1, e2, e3, e4, e5⟩ := e
    simp [results, Tryz.f8, go_sem, e0, e1, e2, e3, e4, e5, aggD]
  · rw [HS7.out]
    exact HFIN.out
set_option maxRecDepth 100000 in
set_option maxHeartbeats 8000000 in
theorem do_6s {w : World} {S G : Nat → Prop} {b : Nat} {m : Dk} {h : Hd} {x : Ac × AcH} (hi : DoIn w S G b m h x) (h7 : x.1.kind % 7 = 6) {fi : Nat} (hf : findL m.seen x.1.path = some fi) :
    Calls Tryz.prog 8 #[.pointer (some ⟨b, 0, none⟩), aggD m h, actV x] w fun e w' => DoPost S G b w (stepL m x.1) e w' := by
  obtain ⟨hst, hB0⟩ := bx3_start w m h x
  obtain ⟨W, hW⟩ : ∃ W, (((w.alloc (boxD m h)).alloc (boxAct x)).alloc (.cells zerD.toArray 31)) = W := ⟨_, rfl⟩
  have HE := Lib.hid (show (((w.alloc (.cells #[.int .i64 m.room, .int .i64 m.count, .slice h.bp h.bn h.bc, .slice h.sp h.sn h.sc, .slice h.fp h.fn h.fc, .slice h.wp h.wn h.wc] 31)).alloc (.cells #[.int .u8 (x.1.kind : Int), .string (mkS x.1.path), .string (mkS x.1.to_), .slice x.2.bq x.1.b.length x.2.bc, .int .i64 x.1.n, .slice x.2.kp x.1.ks.length x.2.kc] 35)).alloc (.cells #[.int .i64 0, .int .i64 0, .slice none 0 0, .slice none 0 0, .slice none 0 0, .slice none 0 0] 31)) = W from hW)
  rw [hW] at hst hB0
  have HI := Lib.hid hi
  have HST := Lib.hid hst
  have HB0 := Lib.hid hB0
  have hst7 : stepL m x.1 = m := by unfold stepL; rw [h7]; rfl
  have HS7 := Lib.hid hst7
  have d0 : W.cell? ⟨w.heap.size, 0, none⟩ = some (.int .i64 m.room) := hst.dsk 0
  have d1 : W.cell? ⟨w.heap.size, 1, none⟩ = some (.int .i64 m.count) := hst.dsk 1
  have d2 : W.cell? ⟨w.heap.size, 2, none⟩ = some (.slice h.bp h.bn h.bc) := hst.dsk 2
  have d3 : W.cell? ⟨w.heap.size, 3, none⟩ = some (.slice h.sp h.sn h.sc) := hst.dsk 3
  have d4 : W.cell? ⟨w.heap.size, 4, none⟩ = some (.slice h.fp h.fn h.fc) := hst.dsk 4
  have d5 : W.cell? ⟨w.heap.size, 5, none⟩ = some (.slice h.wp h.wn h.wc) := hst.dsk 5
  have a0 : W.cell? ⟨w.heap.size + 1, 0, none⟩ = some (.int .u8 (x.1.kind : Int)) := hst.act 0
  have a1 : W.cell? ⟨w.heap.size + 1, 1, none⟩ = some (.string (mkS x.1.path)) := hst.act 1
  have a2 : W.cell? ⟨w.heap.size + 1, 2, none⟩ = some (.string (mkS x.1.to_)) := hst.act 2
  have a3 : W.cell? ⟨w.heap.size + 1, 3, none⟩ = some (.slice x.2.bq x.1.b.length x.2.bc) := hst.act 3
  have a4 : W.cell? ⟨w.heap.size + 1, 4, none⟩ = some (.int .i64 x.1.n) := hst.act 4
  have a5 : W.cell? ⟨w.heap.size + 1, 5, none⟩ = some (.slice x.2.kp x.1.ks.length x.2.kc) := hst.act 5
  have q7 : ((x.1.kind : Int).tmod 7) = 6 := by have := hi.kind; rw [Int.tmod_eq_emod_of_nonneg (by omega)]; omega
  clear hst hB0 hW hi h7 hst7
  have HRD := Lib.hid (dread_any (HI.out.disk.of_below HB0.out) (HI.out.ok.mono (by decide)) x.1.path)
  have HSA := Lib.hid (fun (u : World) (hu : Below W.heap.size W u) => dstat_any (HI.out.disk.of_below (HB0.out.trans (hu.mono HB0.out.size))) x.1.path)
  have hr := HI.out.ref.of_below HB0.out
  have hsn := hr.sn
  have hos := HI.out.ok.seen
  have HFI := Lib.hid (fun (u : World) (hu : Below W.heap.size W u) => refFind_any m.seen h.sp h.sn h.sc x.1.path (by omega) u (hr.of_below hu).seen.files)
  clear hr hsn hos
  obtain ⟨y, hy⟩ : ∃ y, m.seen.getD fi fl0 = y := ⟨_, rfl⟩
  obtain ⟨bd, hbd⟩ : ∃ bd, bodyL m y = bd := ⟨_, rfl⟩
  obtain ⟨bl, hbl⟩ : ∃ bl, bd.length = bl := ⟨_, rfl⟩
  have hbb : bl ≤ 300000 := by rw [← hbl, ← hbd]; exact HI.out.ok.shortB _
  rw [show readN m x.1.path = 0 by unfold readN readL; rw [hf]; rfl, show readL m x.1.path = some bd by unfold readL; rw [hf, ← hbd, ← hy]; rfl] at HRD
  rw [show stampV (fileL m x.1.path) = .tuple #[.agg #[.int .i64 y.size, .int .i64 y.time, .int .i64 y.chg], .int .i64 0] by unfold fileL; rw [hf, ← hy]; rfl] at HSA
  rw [findI_some hf] at HFI
  have HBL := Lib.hid hbl
  unfold aggD actV
  clear hf hy hbd hbl
  go_enter Tryz.func8, Tryz.ntmps8
  go_wp2_with fail
  rw [HE.out]
  refine HRD.out.mono ?_
  rintro e w2 ⟨v, rfl, hO, hB2⟩
  replace hO : w2.ownsRow W.heap.size 5 1 v bd.length (bytC bd) := hO
  rw [HBL.out] at hO
  obtain ⟨q1, c1, hv⟩ := own_slice hO
  subst hv
  have hst2 := HST.out.next hB2
  clear d0 d1 d2 d3 d4 d5 a0 a1 a2 a3 a4 a5
  have HO2 := Lib.hid hO
  have HB2 := Lib.hid hB2
  have HST2 := Lib.hid hst2
  have a0 : w2.cell? ⟨w.heap.size + 1, 0, none⟩ = some (.int .u8 (x.1.kind : Int)) := hst2.act 0
  have a1 : w2.cell? ⟨w.heap.size + 1, 1, none⟩ = some (.string (mkS x.1.path)) := hst2.act 1
  have a2 : w2.cell? ⟨w.heap.size + 1, 2, none⟩ = some (.string (mkS x.1.to_)) := hst2.act 2
  have a3 : w2.cell? ⟨w.heap.size + 1, 3, none⟩ = some (.slice x.2.bq x.1.b.length x.2.bc) := hst2.act 3
  have a4 : w2.cell? ⟨w.heap.size + 1, 4, none⟩ = some (.int .i64 x.1.n) := hst2.act 4
  have a5 : w2.cell? ⟨w.heap.size + 1, 5, none⟩ = some (.slice x.2.kp x.1.ks.length x.2.kc) := hst2.act 5
  clear hst2 hB2 hO
  go_wp2_with fail
  refine (HSA.out w2 HB2.out).mono ?_
  rintro e w3 ⟨rfl, hB3⟩
  have hst3 := HST2.out.next hB3
  have hbs := (Below.refl w3.heap.size w3).alloc (Nat.le_refl _) (.cells #[.int .i64 y.size, .int .i64 y.time, .int .i64 y.chg] 62)
  have HB3 := Lib.hid (HB2.out.trans (hB3.mono HB2.out.size))
  have hst4 := hst3.next hbs
  have HB4 := Lib.hid (HB3.out.trans (hbs.mono HB3.out.size))
  have HO4 := Lib.hid (own_below (own_below HO2.out hB3) hbs)
  have b0 : (w3.alloc (.cells #[.int .i64 y.size, .int .i64 y.time, .int .i64 y.chg] 62)).cell? ⟨w.heap.size + 1, 0, none⟩ = some (.int .u8 (x.1.kind : Int)) := hst4.act 0
  have b1 : (w3.alloc (.cells #[.int .i64 y.size, .int .i64 y.time, .int .i64 y.chg] 62)).cell? ⟨w.heap.size + 1, 1, none⟩ = some (.string (mkS x.1.path)) := hst4.act 1
  have b2 : (w3.alloc (.cells #[.int .i64 y.size, .int .i64 y.time, .int .i64 y.chg] 62)).cell? ⟨w.heap.size + 1, 2, none⟩ = some (.string (mkS x.1.to_)) := hst4.act 2
  have b3 : (w3.alloc (.cells #[.int .i64 y.size, .int .i64 y.time, .int .i64 y.chg] 62)).cell? ⟨w.heap.size + 1, 3, none⟩ = some (.slice x.2.bq x.1.b.length x.2.bc) := hst4.act 3
  have b4 : (w3.alloc (.cells #[.int .i64 y.size, .int .i64 y.time, .int .i64 y.chg] 62)).cell? ⟨w.heap.size + 1, 4, none⟩ = some (.int .i64 x.1.n) := hst4.act 4
  have b5 : (w3.alloc (.cells #[.int .i64 y.size, .int .i64 y.time, .int .i64 y.chg] 62)).cell? ⟨w.heap.size + 1, 5, none⟩ = some (.slice x.2.kp x.1.ks.length x.2.kc) := hst4.act 5
  have e0 : (w3.alloc (.cells #[.int .i64 y.size, .int .i64 y.time, .int .i64 y.chg] 62)).cell? ⟨w.heap.size, 0, none⟩ = some (.int .i64 m.room) := hst4.dsk 0
  have e1 : (w3.alloc (.cells #[.int .i64 y.size, .int .i64 y.time, .int .i64 y.chg] 62)).cell? ⟨w.heap.size, 1, none⟩ = some (.int .i64 m.count) := hst4.dsk 1
  have e2 : (w3.alloc (.cells #[.int .i64 y.size, .int .i64 y.time, .int .i64 y.chg] 62)).cell? ⟨w.heap.size, 2, none⟩ = some (.slice h.bp h.bn h.bc) := hst4.dsk 2
  have e3 : (w3.alloc (.cells #[.int .i64 y.size, .int .i64 y.time, .int .i64 y.chg] 62)).cell? ⟨w.heap.size, 3, none⟩ = some (.slice h.sp h.sn h.sc) := hst4.dsk 3
  have e4 : (w3.alloc (.cells #[.int .i64 y.size, .int .i64 y.time, .int .i64 y.chg] 62)).cell? ⟨w.heap.size, 4, none⟩ = some (.slice h.fp h.fn h.fc) := hst4.dsk 4
  have e5 : (w3.alloc (.cells #[.int .i64 y.size, .int .i64 y.time, .int .i64 y.chg] 62)).cell? ⟨w.heap.size, 5, none⟩ = some (.slice h.wp h.wn h.wc) := hst4.dsk 5
  obtain ⟨W4, hW4⟩ : ∃ W4, (w3.alloc (.cells #[.int .i64 y.size, .int .i64 y.time, .int .i64 y.chg] 62)) = W4 := ⟨_, rfl⟩
  have HW4 := Lib.hid hW4
  rw [hW4] at hst4 HB4 HO4
  have HST4 := Lib.hid hst4
  clear a0 a1 a2 a3 a4 a5 hB3 hW4 hst4 hst3 hbs
  go_wp2_with fail
  rw [HW4.out]
  refine (HFI.out W4 HB4.out).mono ?_
  rintro e w' ⟨rfl, rfl⟩
  clear b0 b1 b2 b3 b4 b5 e0 e1 e2 e3 e4 e5
  have hge : decide ((fi : Int) < 0) = false := decide_eq_false (by omega)
  have hge2 : ¬ (fi : Int) < 0 := by omega
  go_wp2
  go_loopw [59] (fun i wr => ∃ k : Nat, k ≤ bl ∧ i = .int .i64 k ∧ ∃ bs : S8, bs.length = bl ∧ wr.ownsRow W.heap.size 5 1 (.slice q1 bl c1) bl (bytC bs) ∧ Below w.heap.size w wr ∧ Bx3 w.heap.size (lisD m h) (encA x) zerD wr) (fun i _ => bl - (intOf i).toNat)
  case atStart => exact ⟨0, Nat.zero_le _, rfl, bd, HBL.out, HO4.out, HB0.out.trans (HB4.out.mono HB0.out.size), HST4.out⟩
  case round =>
    obtain ⟨k, hk, rfl, bs, hbs, hO, hB, hst⟩ := hrel
    by_cases hlt : k < bl
    · obtain ⟨g, cap9, hv9, hg3, hgl, hnc, hcs, hfr⟩ := own_full8 hO (by omega)
      injection hv9 with e1 e2 e3
      subst e1 e3
      have x1 := hcs k (by rw [bytC_len]; omega)
      rw [bytC_get bs k (by omega)] at x1
      have hch : (chr bs k : Int) = ((bs.getD k 0).toNat : Int) := by unfold chr; rfl
      rw [hch] at x1
      have x2 := hfr k
      obtain ⟨yy, hyy⟩ : ∃ y, bs.getD k 0 = y := ⟨_, rfl⟩
      rw [hyy] at x1
      have hbits := xor_bits yy 255
      obtain ⟨rr, hrr⟩ : ∃ r, yy ^^^ 255 = r := ⟨_, rfl⟩
      rw [hrr] at hbits
      have hbits2 : bits .xor .u8 (yy.toNat : Int) 255 = (rr.toNat : Int) := hbits
      have hO5 := (hO.stored k (.int .u8 (rr.toNat : Int))).1
      have e5 : (bytC bs).set k (.int .u8 (rr.toNat : Int)) = bytC (bs.set k rr) := by unfold bytC; rw [List.map_set]
      rw [e5] at hO5
      have HO5 := Lib.hid hO5
      have HBS := Lib.hid (show (bs.set k rr).length = bl by rw [List.length_set]; exact hbs)
      have hgw : w.heap.size + 3 ≤ g := Nat.le_trans HST.out.size hg3
      have HB5 := Lib.hid (hB.setCell (p := ⟨g, k, none⟩) (by show w.heap.size ≤ g; omega) (.int .u8 (rr.toNat : Int)))
      have HS5 : Hid (Bx3 w.heap.size (lisD m h) (encA x) zerD (wr.setCell ⟨g, k, none⟩ (.int .u8 (rr.toNat : Int)))) := Lib.hid (hst.keep (fun i _ hi => Below.heap_setCell _ _ _ _ (by show i ≠ g; omega)) (by simp))
      have hd0 : decide ((k : Int) < (bl : Int)) = true := decide_eq_true (by omega)
      have hl0 : (k : Int) < (bl : Int) := by omega
      clear hO hB hst hbits hrr hyy hch hcs hfr hO5 e5 hbs hnc hgl hg3 hgw
      go_wp2
      go_roundw
      case rel => exact ⟨k + 1, by omega, by go_num, _, HBS.out, HO5.out, HB5.out, HS5.out⟩
      case measure => simp [intOf]; omega
    · have hd0 : decide ((k : Int) < (bl : Int)) = false := decide_eq_false (by omega)
      have HFIN := Lib.hid (do_end6 HI.out hB (.int .i64 m.room) (.int .i64 m.count) (.slice h.bp h.bn h.bc) (.slice h.sp h.sn h.sc) (.slice h.fp h.fn h.fc) (.slice h.wp h.wn h.wc))
      have HC6 := Lib.hid (put6_cell (.int .i64 m.room) (.int .i64 m.count) (.slice h.bp h.bn h.bc) (.slice h.sp h.sn h.sc) (.slice h.fp h.fn h.fc) (.slice h.wp h.wn h.wc) hst.res)
      have d0 : wr.cell? ⟨w.heap.size, 0, none⟩ = some (.int .i64 m.room) := hst.dsk 0
      have d1 : wr.cell? ⟨w.heap.size, 1, none⟩ = some (.int .i64 m.count) := hst.dsk 1
      have d2 : wr.cell? ⟨w.heap.size, 2, none⟩ = some (.slice h.bp h.bn h.bc) := hst.dsk 2
      have d3 : wr.cell? ⟨w.heap.size, 3, none⟩ = some (.slice h.sp h.sn h.sc) := hst.dsk 3
      have d4 : wr.cell? ⟨w.heap.size, 4, none⟩ = some (.slice h.fp h.fn h.fc) := hst.dsk 4
      have d5 : wr.cell? ⟨w.heap.size, 5, none⟩ = some (.slice h.wp h.wn h.wc) := hst.dsk 5
      have r0 : wr.cell? ⟨w.heap.size + 1 + 1, 0, none⟩ = some (.int .i64 0) := hst.res 0
      have r1 : wr.cell? ⟨w.heap.size + 1 + 1, 1, none⟩ = some (.int .i64 0) := hst.res 1
      have r2 : wr.cell? ⟨w.heap.size + 1 + 1, 2, none⟩ = some (.slice none 0 0) := hst.res 2
      have r3 : wr.cell? ⟨w.heap.size + 1 + 1, 3, none⟩ = some (.slice none 0 0) := hst.res 3
      have r4 : wr.cell? ⟨w.heap.size + 1 + 1, 4, none⟩ = some (.slice none 0 0) := hst.res 4
      have r5 : wr.cell? ⟨w.heap.size + 1 + 1, 5, none⟩ = some (.slice none 0 0) := hst.res 5
      have z0 := hst.rfree 0
      have z1 := hst.rfree 1
      have z2 := hst.rfree 2
      have z3 := hst.rfree 3
      have z4 := hst.rfree 4
      have z5 := hst.rfree 5
      clear hst hB hO
      go_wp2
      refine bodyPost_ret (v := .tuple #[aggD m h, .bool true]) ?_ rfl ?_
      · have e := HC6.out
        unfold put6 at e
        obtain ⟨e0, e1, e2, e3, e4, e5⟩ := e
        simp [results, Tryz.f8, go_sem, e0, e1, e2, e3, e4, e5, aggD]
      · rw [HS7.out]
        exact HFIN.out
set_option maxHeartbeats 1000000 in
theorem do_6 {w : World} {S G : Nat → Prop} {b : Nat} {m : Dk} {h : Hd} {x : Ac × AcH} (hi : DoIn w S G b m h x) (h7 : x.1.kind % 7 = 6) :
    Calls Tryz.prog 8 #[.pointer (some ⟨b, 0, none⟩), aggD m h, actV x] w fun e w' => DoPost S G b w (stepL m x.1) e w' := by
  cases hf : findL m.seen x.1.path with
  | none => exact do_6n hi h7 hf
  | some fi => exact do_6s hi h7 hf
end Go.Proofs.YtbijgbjlljaolaaGreatDoor
/- Do, whatever the act. -/
namespace Go.Proofs.YtbijgbjlljaolaaGreatDoor
open Go Go.RowKit

theorem do8_any {w : World} {S G : Nat → Prop} {b : Nat} {m : Dk} {h : Hd} {x : Ac × AcH} (hi : DoIn w S G b m h x) :
    Calls Tryz.prog 8 #[.pointer (some ⟨b, 0, none⟩), aggD m h, actV x] w fun e w' => DoPost S G b w (stepL m x.1) e w' := by
  have h7 : x.1.kind % 7 < 7 := Nat.mod_lt _ (by decide)
  rcases (show x.1.kind % 7 = 0 ∨ x.1.kind % 7 = 1 ∨ x.1.kind % 7 = 2 ∨ x.1.kind % 7 = 3 ∨ x.1.kind % 7 = 4 ∨ x.1.kind % 7 = 5 ∨ x.1.kind % 7 = 6 by omega) with e | e | e | e | e | e | e
  · exact do_0 hi e
  · exact do_1 hi e
  · exact do_2 hi e
  · exact do_3 hi e
  · exact do_4 hi e
  · exact do_5 hi e
  · exact do_6 hi e
/-- What holds of a disk behind an act. -/
theorem step_ok {n : Nat} {m : Dk} (x : Ac) (h : DkOk n m) (hp : x.path.length < 100000) : DkOk (n + 1) (stepL m x) := by
  unfold stepL
  split
  · exact h.write _ _ _
  · exact h.rename _ _ hp
  · exact h.remove _ hp
  · exact h.sync.more
  · exact (h.crash _).more
  · exact (h.rot _ _ _).more
  · exact h.more
theorem step_room (m : Dk) (x : Ac) : (stepL m x).room = m.room := by
  unfold stepL
  split
  · exact writeL_room _ _ _ _
  · exact renameL_room _ _ _
  · exact removeL_room _ _
  · rfl
  · rfl
  · exact rotL_room _ _ _ _
  · rfl
end Go.Proofs.YtbijgbjlljaolaaGreatDoor
/- What the statements' arguments read as, in the walks' words. -/
namespace Go.Proofs.YtbijgbjlljaolaaGreatDoor
open Go Go.ChangeShapes Go.WideShapes Go.ChangeAt Go.RowKit

theorem own : ownKnob Tryz.prog.godebug = none := by kernel_rfl
theorem laidOut : laidOutB Tryz.prog = true := by kernel_rfl
theorem cellsByte : Tryz.prog.cellsOf 5 = 1 := by kernel_rfl
theorem undByte : Tryz.prog.underlying 5 = some (.int .u8) := by kernel_rfl
theorem undBytes : Tryz.prog.underlying 32 = some (.slice 5) := by kernel_rfl
/-- The bytes of a slice of numbers. -/
def bytesOf (zs : List Int) : List (BitVec 8) := zs.map fun z => BitVec.ofInt 8 z
theorem B_ofInt {z : Int} (h : (Lit.int .u8 z).wf = true) : B (BitVec.ofInt 8 z) = .int .u8 z := by
  have := bounds_u8 h
  rw [B_eq']
  congr 1
  rw [BitVec.toNat_ofInt]
  omega
theorem Sl_of_ints {W : World} {a : Addr} {len : Nat} {zs : List Int} (hz : len ≤ zs.length) (hc : ∀ i, i < zs.length → W.cell? (a.add i) = some (.int .u8 (zs.getD i 0))) (hw : ∀ n ∈ zs, (Lit.int .u8 n).wf = true) :
    Sl W (some a) (bytesOf (zs.take len)) := fun j hj => by
  have hj' : j < len := by simp [bytesOf] at hj; omega
  have h0 := hc 0 (by omega)
  rw [Addr.add_zero'] at h0
  have hs : a.spot = none := by
    cases h : a.spot with
    | none => rfl
    | some s =>
      unfold World.cell? at h0
      split at h0
      · simp [h] at h0
      · cases h0
  obtain ⟨c, o, sp⟩ := a
  obtain rfl : sp = none := hs
  refine ⟨c, o, rfl, ?_⟩
  have hj2 := hc j (by omega)
  rw [Addr.add_mid] at hj2
  rw [hj2]
  have hjz : j < zs.length := by omega
  have e : (bytesOf (zs.take len)).getD j 0#8 = BitVec.ofInt 8 zs[j] := by
    simp [bytesOf, List.getD_eq_getElem?_getD, hj', hjz]
  rw [e, B_ofInt (hw _ (List.getElem_mem hjz))]
  simp [List.getD_eq_getElem?_getD, hjz]
theorem bytesOf_length (zs : List Int) : (bytesOf zs).length = zs.length := by simp [bytesOf]
/-- An argument that is a slice of bytes. -/
theorem open_bytes {H : Type} {enc : TypeId × Value → H} {W : World} {a0 : Option Addr} {len cap : Nat} {d : DataW H} {ps : List MemPlace}
    (h : DataW.Trod enc Tryz.prog W 0 (fun _ => true) true 32 (.slice a0 len cap) d ps) : ∃ l : List (BitVec 8), Sl W a0 l ∧ l.length = len ∧ (a0 = none → cap = 0) := by
  obtain ⟨fuel, hfu⟩ := h
  rcases open_ints undBytes undByte cellsByte hfu with ⟨hcs, _⟩ | ⟨a, len', cap', zs, hcs, _, hl, hm, hz, hx, hcell, hwz⟩
  · simp [Value.cells] at hcs
    obtain ⟨rfl, rfl, rfl⟩ := hcs
    exact ⟨[], fun j hj => absurd hj (by simp), rfl, fun _ => rfl⟩
  · simp [Value.cells] at hcs
    obtain ⟨rfl, rfl, rfl⟩ := hcs
    have hzl : len ≤ zs.length := by rw [hz]; split <;> omega
    have hln : (bytesOf (zs.take len)).length = len := by rw [bytesOf_length, List.length_take]; omega
    exact ⟨bytesOf (zs.take len), Sl_of_ints hzl hcell hwz, hln, fun h => by cases h⟩
end Go.Proofs.YtbijgbjlljaolaaGreatDoor
/- A string as an argument. -/
namespace Go.Proofs.YtbijgbjlljaolaaGreatDoor
open Go Go.ChangeShapes Go.WideShapes Go.ChangeAt Go.RowKit
end Go.Proofs.YtbijgbjlljaolaaGreatDoor
/- Arguments that are slices of acts, in the walks' words. -/
namespace Go.Proofs.YtbijgbjlljaolaaGreatDoor
open Go Go.ChangeShapes Go.WideShapes Go.ChangeAt Go.RowKit

theorem undAct : ∃ fs : Array Field, Tryz.prog.underlying 35 = some (.struct fs) ∧ fs.size = 6 ∧ (fs[0]?).map (fun f => (f.offset, f.type)) = some (0, 5) ∧ (fs[1]?).map (fun f => (f.offset, f.type)) = some (1, 9) ∧ (fs[2]?).map (fun f => (f.offset, f.type)) = some (2, 9) ∧ (fs[3]?).map (fun f => (f.offset, f.type)) = some (3, 32) ∧ (fs[4]?).map (fun f => (f.offset, f.type)) = some (4, 3) ∧ (fs[5]?).map (fun f => (f.offset, f.type)) = some (5, 33) := by
  have h : (match Tryz.prog.underlying 35 with
    | some (.struct fs) => some (fs.size, (fs[0]?).map (fun f => (f.offset, f.type)), (fs[1]?).map (fun f => (f.offset, f.type)), (fs[2]?).map (fun f => (f.offset, f.type)), (fs[3]?).map (fun f => (f.offset, f.type)), (fs[4]?).map (fun f => (f.offset, f.type)), (fs[5]?).map (fun f => (f.offset, f.type)))
    | _ => none) = some (6, some (0, 5), some (1, 9), some (2, 9), some (3, 32), some (4, 3), some (5, 33)) := by kernel_rfl
  split at h
  · rename_i fs e
    simp only [Option.some.injEq, Prod.mk.injEq] at h
    exact ⟨fs, e, h.1, h.2.1, h.2.2.1, h.2.2.2.1, h.2.2.2.2.1, h.2.2.2.2.2.1, h.2.2.2.2.2.2⟩
  · cases h
theorem cellsAct : Tryz.prog.cellsOf 35 = 6 := by kernel_rfl
theorem undActs : Tryz.prog.underlying 22 = some (.slice 35) := by kernel_rfl
theorem undInt8 : Tryz.prog.underlying 3 = some (.int .i64) := by kernel_rfl
theorem cellsInt8 : Tryz.prog.cellsOf 3 = 1 := by kernel_rfl
theorem cellsB8 : Tryz.prog.cellsOf 32 = 1 := by kernel_rfl
theorem cellsS8 : Tryz.prog.cellsOf 9 = 1 := by kernel_rfl
theorem cellsK8 : Tryz.prog.cellsOf 33 = 1 := by kernel_rfl
theorem undK8 : Tryz.prog.underlying 33 = some (.slice 4) := by kernel_rfl
theorem undBool8 : Tryz.prog.underlying 4 = some .bool := by kernel_rfl
theorem cellsBool8 : Tryz.prog.cellsOf 4 = 1 := by kernel_rfl
theorem field_of8 {fs : Array Field} {i off : Nat} {t : TypeId} (h : (fs[i]?).map (fun f => (f.offset, f.type)) = some (off, t)) : ∃ f, fs[i]? = some f ∧ f.offset = off ∧ f.type = t := by
  cases e : fs[i]? with
  | none => rw [e] at h; cases h
  | some f => rw [e] at h; simp at h; exact ⟨f, rfl, h.1, h.2⟩
/-- Cells that lie from an address on. -/
theorem lsg_of {W : World} (a : Addr) (n cap N : Nat) (f : Nat → Value) (hn : n ≤ N) (hc : n ≤ cap) (h : ∀ i, i < N → W.cell? (a.add i) = some (f i)) : LsG (fun _ => True) W (some a) n cap 1 ((List.range n).map f) := by
  have key : 0 < n → a.spot = none ∧ a.block < W.heap.size := fun h0 => by
    have h1 := h 0 (by omega)
    rw [Addr.add_zero'] at h1
    refine ⟨?_, ?_⟩
    · cases e : a.spot with
      | none => rfl
      | some s =>
        unfold World.cell? at h1
        split at h1
        · simp [e] at h1
        · cases h1
    · exact World.block_lt_of_cell? W _ h1
  obtain ⟨c, o, sp⟩ := a
  refine ⟨fun j hj => ?_, by simp, fun c2 o2 e hl => ?_, (fun e => by cases e), hc⟩
  · have hj' : j < n := by simpa using hj
    obtain ⟨hs, _⟩ := key (by omega)
    obtain rfl : sp = none := hs
    refine ⟨c, o, rfl, ?_⟩
    have h1 := h j (by omega)
    rw [Addr.add_mid] at h1
    rw [h1]
    simp [hj']
  · injection e with e
    injection e with e1 e2 e3
    have hl' : 0 < n := by simpa using hl
    exact ⟨trivial, by rw [← e1]; exact (key hl').2⟩
theorem lsg_nil (W : World) : LsG (fun _ => True) W none 0 0 1 [] := ⟨LsC.nil _ _, by simp, (fun c o e _ => by cases e), fun _ => rfl, Nat.le_refl _⟩
theorem open_b8 {H : Type} {enc : TypeId × Value → H} {W : World} {n : Nat} {v : Value} {x : DataW H × List MemPlace}
    (h : DataW.trod enc Tryz.prog W 0 (fun _ => true) true n 32 [v] = some x) : ∃ (l : S8) (q : Option Addr) (c : Nat), v = .slice q l.length c ∧ LsG (fun _ => True) W q l.length c 1 (bytC l) ∧ l.length < 9223372036854775808 := by
  rcases open_ints undBytes undByte cellsByte h with ⟨hcs, _⟩ | ⟨a, len, cap, zs, hcs, _, hl, hm, hz, _, hcl, hwz⟩
  · injection hcs with hcs
    subst hcs
    exact ⟨[], none, 0, rfl, lsg_nil W, by simp⟩
  · injection hcs with hcs
    subst hcs
    simp only [if_true] at hz
    have hw : ∀ i, i < zs.length → 0 ≤ zs.getD i 0 ∧ zs.getD i 0 < 256 := fun i hi => by
      have hm : zs.getD i 0 ∈ zs := by rw [List.getD_eq_getElem?_getD, List.getElem?_eq_getElem hi]; exact List.getElem_mem hi
      have := bounds_u8 (hwz _ hm)
      omega
    have g := lsg_of a len cap zs.length (fun i => .int .u8 (zs.getD i 0)) (by omega) hl hcl
    have el : ((List.range len).map fun i => UInt8.ofNat (zs.getD i 0).toNat).length = len := by simp
    have eb : bytC ((List.range len).map fun i => UInt8.ofNat (zs.getD i 0).toNat) = (List.range len).map fun i => .int .u8 (zs.getD i 0) := by
      unfold bytC
      rw [List.map_map]
      refine List.map_congr_left fun i hi => ?_
      have hi' : i < len := by simpa using hi
      have := hw i (by omega)
      show Value.int .u8 ((UInt8.ofNat (zs.getD i 0).toNat).toNat : Int) = _
      congr 1
      rw [UInt8.toNat_ofNat']
      omega
    refine ⟨(List.range len).map fun i => UInt8.ofNat (zs.getD i 0).toNat, some a, cap, by rw [el], by rw [el, eb]; exact g, ?_⟩
    rw [el]
    simp only [maxLen] at hm
    omega
theorem open_k8 {H : Type} {enc : TypeId × Value → H} {W : World} {n : Nat} {v : Value} {x : DataW H × List MemPlace}
    (h : DataW.trod enc Tryz.prog W 0 (fun _ => true) true n 33 [v] = some x) : ∃ (l : List Bool) (q : Option Addr) (c : Nat), v = .slice q l.length c ∧ LsG (fun _ => True) W q l.length c 1 (l.map Value.bool) ∧ l.length < 9223372036854775808 := by
  rcases Go.Deep.open_bools undK8 undBool8 cellsBool8 h with ⟨hcs, _⟩ | ⟨a, len, cap, B, hcs, _, hl, hm, _, hcl⟩
  · injection hcs with hcs
    subst hcs
    exact ⟨[], none, 0, rfl, lsg_nil W, by simp⟩
  · injection hcs with hcs
    subst hcs
    have g := lsg_of a len cap cap (fun i => .bool (B i)) hl hl hcl
    have el : ((List.range len).map fun i => B i).length = len := by simp
    have eb : ((List.range len).map fun i => B i).map Value.bool = (List.range len).map fun i => .bool (B i) := by
      rw [List.map_map]; rfl
    refine ⟨(List.range len).map fun i => B i, some a, cap, by rw [el], by rw [el, eb]; exact g, ?_⟩
    rw [el]
    simp only [maxLen] at hm
    omega
theorem undStr8 : Tryz.prog.underlying 9 = some .string := by kernel_rfl
theorem undU8 : Tryz.prog.underlying 5 = some (.int .u8) := by kernel_rfl
theorem cellsU8 : Tryz.prog.cellsOf 5 = 1 := by kernel_rfl
theorem six_of {α : Type} {l : List α} (h : l.length = 6) : ∃ a b c d e f, l = [a, b, c, d, e, f] := by
  obtain ⟨a, l, rfl⟩ := List.exists_cons_of_length_eq_add_one h
  obtain ⟨b, l, rfl⟩ := List.exists_cons_of_length_eq_add_one (n := 4) (by simpa using h)
  obtain ⟨c, l, rfl⟩ := List.exists_cons_of_length_eq_add_one (n := 3) (by simpa using h)
  obtain ⟨d, l, rfl⟩ := List.exists_cons_of_length_eq_add_one (n := 2) (by simpa using h)
  obtain ⟨e, l, rfl⟩ := List.exists_cons_of_length_eq_add_one (n := 1) (by simpa using h)
  obtain ⟨f, l, rfl⟩ := List.exists_cons_of_length_eq_add_one (n := 0) (by simpa using h)
  obtain rfl : l = [] := List.eq_nil_of_length_eq_zero (by simpa using h)
  exact ⟨a, b, c, d, e, f, rfl⟩
def ac0 : Ac × AcH := (⟨0, [], [], [], 0, []⟩, ⟨none, 0, none, 0⟩)
/-- What one act reads as. -/
def ActOk (W : World) (y : Ac × AcH) : Prop :=
  LsG (fun _ => True) W y.2.bq y.1.b.length y.2.bc 1 (bytC y.1.b) ∧ LsG (fun _ => True) W y.2.kp y.1.ks.length y.2.kc 1 (y.1.ks.map Value.bool) ∧ (y.1.path.length < 9223372036854775808 ∧ y.1.to_.length < 9223372036854775808 ∧ y.1.b.length < 9223372036854775808 ∧ y.1.ks.length < 9223372036854775808) ∧ y.1.kind < 256
theorem str8 {s : ByteArray} (h : s.size ≤ maxLen) : Value.string s = .string (mkS s.data.toList) ∧ s.data.toList.length < 9223372036854775808 := by
  refine ⟨by rw [mkS_of], ?_⟩
  have : s.data.toList.length = s.size := by rw [Array.length_toList]; rfl
  rw [this]
  simp only [maxLen] at h
  omega
/-- An argument that is a slice of acts. -/
theorem open_acts {H : Type} {enc : TypeId × Value → H} {W : World} {a0 : Option Addr} {len cap : Nat} {d : DataW H} {ps : List MemPlace}
    (h : DataW.Trod enc Tryz.prog W 0 (fun _ => true) true 22 (.slice a0 len cap) d ps) : ∃ xs : List (Ac × AcH), AcsL W a0 len cap xs ∧ len < 9223372036854775808 ∧ (∀ x ∈ xs, x.1.path.length < 9223372036854775808 ∧ x.1.to_.length < 9223372036854775808 ∧ x.1.b.length < 9223372036854775808 ∧ x.1.ks.length < 9223372036854775808) ∧ ∀ x ∈ xs, x.1.kind < 256 := by
  obtain ⟨fuel, hfu⟩ := h
  rcases Go.Deep.open_slice undActs hfu with ⟨hcs, _⟩ | ⟨a, len', cap', m, n, D, Pl, hcs, _, hl, hmx, hm, _, hx⟩
  · simp [Value.cells] at hcs
    obtain ⟨rfl, rfl, rfl⟩ := hcs
    exact ⟨[], ⟨LsC.nil _ _, rfl, (fun x hx => by cases hx), (fun x hx => by cases hx)⟩, by omega, (fun x hx => by cases hx), (fun x hx => by cases hx)⟩
  · simp [Value.cells] at hcs
    obtain ⟨rfl, rfl, rfl⟩ := hcs
    simp only [if_true] at hm
    have each : ∀ i, i < len → ∃ y : Ac × AcH, (∀ j, j < 6 → W.cell? (a.add (i * 6 + j)) = (encA y)[j]?) ∧ ActOk W y := by
      intro i hi
      obtain ⟨cs', h1, h2⟩ := hx i (by omega)
      rw [cellsAct] at h1
      obtain ⟨_, hlen, hcell⟩ := World.cells?_some h1
      obtain ⟨fs, undF, hfs, F0, F1, F2, F3, F4, F5⟩ := undAct
      obtain ⟨xs, k, hk, hxy, _, hxl, hf⟩ := DataW.trod_struct undF h2
      obtain ⟨f0, g0, o0, t0⟩ := field_of8 F0
      obtain ⟨f1, g1, o1, t1⟩ := field_of8 F1
      obtain ⟨f2, g2, o2, t2⟩ := field_of8 F2
      obtain ⟨f3, g3, o3, t3⟩ := field_of8 F3
      obtain ⟨f4, g4, o4, t4⟩ := field_of8 F4
      obtain ⟨f5, g5, o5, t5⟩ := field_of8 F5
      have e0 := hf 0 f0 g0
      have e1 := hf 1 f1 g1
      have e2 := hf 2 f2 g2
      have e3 := hf 3 f3 g3
      have e4 := hf 4 f4 g4
      have e5 := hf 5 f5 g5
      rw [o0, t0, cellsU8] at e0
      rw [o1, t1, cellsS8] at e1
      rw [o2, t2, cellsS8] at e2
      rw [o3, t3, cellsB8] at e3
      rw [o4, t4, cellsInt8] at e4
      rw [o5, t5, cellsK8] at e5
      have hx6 : xs.length = 6 := by rw [hxl, hfs]
      obtain ⟨y0, y1, y2, y3, y4, y5, rfl⟩ := six_of hx6
      obtain ⟨v0, v1, v2, v3, v4, v5, rfl⟩ := six_of hlen
      have c0 := hcell 0 (by omega)
      have c1 := hcell 1 (by omega)
      have c2 := hcell 2 (by omega)
      have c3 := hcell 3 (by omega)
      have c4 := hcell 4 (by omega)
      have c5 := hcell 5 (by omega)
      rw [Go.Deep.add_add] at c0 c1 c2 c3 c4 c5
      simp at e0 e1 e2 e3 e4 e5 c0 c1 c2 c3 c4 c5
      obtain ⟨k0, hv0, -, hw0⟩ := DataW.trod_int undU8 e0
      obtain ⟨s1, hv1, -, hs1⟩ := DataW.trod_string undStr8 e1
      obtain ⟨s2, hv2, -, hs2⟩ := DataW.trod_string undStr8 e2
      obtain ⟨lb, qb, cb, hv3, gb, hb⟩ := open_b8 e3
      obtain ⟨n0, hv4, -, -⟩ := DataW.trod_int undInt8 e4
      obtain ⟨lk, qk, ck, hv5, gk, hk5⟩ := open_k8 e5
      injection hv0 with hv0
      injection hv1 with hv1
      injection hv2 with hv2
      injection hv4 with hv4
      have bk := bounds_u8 hw0
      obtain ⟨kk, rfl⟩ := Int.eq_ofNat_of_zero_le (show 0 ≤ k0 by omega)
      refine ⟨(⟨kk, s1.data.toList, s2.data.toList, lb, n0, lk⟩, ⟨qb, cb, qk, ck⟩), ?_, gb, gk, ⟨(str8 hs1).2, (str8 hs2).2, hb, hk5⟩, ?_⟩
      · intro j hj
        match j, hj with
        | 0, _ => rw [show i * 6 + 0 = i * 6 from rfl, c0, hv0]; rfl
        | 1, _ => rw [c1, hv1, (str8 hs1).1]; rfl
        | 2, _ => rw [c2, hv2, (str8 hs2).1]; rfl
        | 3, _ => rw [c3, hv3]; rfl
        | 4, _ => rw [c4, hv4]; rfl
        | 5, _ => rw [c5, hv5]; rfl
      · show kk < 256
        omega
    haveI : Inhabited (Ac × AcH) := ⟨ac0⟩
    obtain ⟨y, hy⟩ := Go.Deep.choose_lt each
    refine ⟨(List.range len).map y, ⟨fun i hi => ?_, by simp, fun x hx => ?_, fun x hx => ?_⟩, by simp only [maxLen] at hmx; omega, fun x hx => ?_, fun x hx => ?_⟩
    · have el : (((List.range len).map y).flatMap encA).length = len * 6 := by
        rw [flat_len encA 6 encA_len]
        simp
      rw [el] at hi
      have hi' : i / 6 < len := by omega
      have hj : i % 6 < 6 := Nat.mod_lt _ (by omega)
      have hc := (hy (i / 6) hi').1 (i % 6) hj
      have e6 : i / 6 * 6 + i % 6 = i := by omega
      have hg := flat_get encA 6 encA_len ((List.range len).map y) (i / 6) (i % 6) (by simpa using hi') hj
      rw [e6] at hc hg
      have ey : ((List.range len).map y)[i / 6]'(by simpa using hi') = y (i / 6) := by simp
      rw [ey] at hg
      have hs : a.spot = none := by
        have h0 := (hy 0 (by omega)).1 0 (by omega)
        rw [show 0 * 6 + 0 = 0 from rfl, Addr.add_zero'] at h0
        cases h : a.spot with
        | none => rfl
        | some s =>
          unfold World.cell? at h0
          split at h0
          · simp [h, encA] at h0
          · cases h0
      obtain ⟨c, o, sp⟩ := a
      obtain rfl : sp = none := hs
      refine ⟨c, o, rfl, ?_⟩
      rw [Addr.add_mid] at hc
      rw [hc, ← hg]
    all_goals
      obtain ⟨i, hi, rfl⟩ := List.mem_map.1 hx
      have := (hy i (by simpa using hi)).2
    · exact this.1
    · exact this.2.1
    · exact this.2.2.1
    · exact this.2.2.2
end Go.Proofs.YtbijgbjlljaolaaGreatDoor
