/- The reference's Sync. -/
import Derived.Test.YtjglgohchhdkkaaGreatDoorRefi8
set_option linter.unusedSimpArgs false
set_option linter.unusedVariables false
namespace Go.Proofs.YtjglgohchhdkkaaGreatDoor
open Go Go.RowKit

section
variable {G : Nat → Prop} {w u u' : World} {m : Dk} {h : Hd} {dv : List Value}
theorem RfG.set {s : Nat} (r : RfG (G2 G s) u m h) (j : Nat) (v : Value) : RfG (G2 G s) (u.setCell ⟨s, j, none⟩ v) m h :=
  r.keep (fun c hc _ => Below.heap_setCell u _ v c (by show c ≠ s; exact hc.2.1)) (KeepsOthers.setCell u ⟨s, j, none⟩ v).size
end
theorem LsG.void (G : Nat → Prop) (w : World) (k : Nat) : LsG G w none 0 0 k [] := ⟨LsC.nil _ _, by simp, fun c o e _ => by (exfalso; cases e), fun _ => rfl, Nat.le_refl _⟩
set_option maxRecDepth 100000 in
set_option maxHeartbeats 4000000 in
theorem refSync_any (G : Nat → Prop) (m : Dk) (h : Hd) (hn : h.sn < 90000) (w : World) (hG : ∀ k, w.heap.size ≤ k → G k) (r : RfG G w m h) :
    Calls Tryz.prog 11 #[aggD m h] w fun e w' => ∃ h', e = .returned (aggD (syncL m) h') ∧ RfG G w' (syncL m) h' ∧ Below w.heap.size w w' := by
  have hst := st2_start w m h
  have R2 := Lib.hid (r.into2 hst)
  obtain ⟨W, hW⟩ : ∃ W, ((w.alloc (boxD m h)).alloc (.cells zerD.toArray 31)) = W := ⟨_, rfl⟩
  have HE := Lib.hid (show ((w.alloc (.cells #[.int .i64 m.room, .int .i64 m.count, .slice h.bp h.bn h.bc, .slice h.sp h.sn h.sc, .slice h.fp h.fn h.fc, .slice h.wp h.wn h.wc] 31)).alloc (.cells #[.int .i64 0, .int .i64 0, .slice none 0 0, .slice none 0 0, .slice none 0 0, .slice none 0 0] 31)) = W from hW)
  rw [hW] at hst R2
  have hsz : W.heap.size = w.heap.size + 1 + 1 := by rw [← hW]; simp [World.size_alloc]
  have HB0 := Lib.hid (show Below W.heap.size W (W.alloc (.cells #[] 71)) from (Below.refl _ _).alloc (Nat.le_refl _) _)
  have HO0 := Lib.hid (show (W.alloc (.cells #[] 71)).ownsRow W.heap.size 71 5 (.slice (some ⟨w.heap.size + 1 + 1, 0, none⟩) 0 0) 0 [] from by have := own_empty (E := 71) (k := 5) W W.heap.size (Nat.le_refl _); rw [hsz] at this ⊢; exact this)
  have HST := Lib.hid hst
  have HG := Lib.hid hG
  have HSZ := Lib.hid hsz
  have HN := Lib.hid hn
  have d0 : W.cell? ⟨w.heap.size, 0, none⟩ = some (.int .i64 m.room) := hst.dsk 0
  have d1 : W.cell? ⟨w.heap.size, 1, none⟩ = some (.int .i64 m.count) := hst.dsk 1
  have d2 : W.cell? ⟨w.heap.size, 2, none⟩ = some (.slice h.bp h.bn h.bc) := hst.dsk 2
  have d3 : W.cell? ⟨w.heap.size, 3, none⟩ = some (.slice h.sp h.sn h.sc) := hst.dsk 3
  have d4 : W.cell? ⟨w.heap.size, 4, none⟩ = some (.slice h.fp h.fn h.fc) := hst.dsk 4
  have d5 : W.cell? ⟨w.heap.size, 5, none⟩ = some (.slice h.wp h.wn h.wc) := hst.dsk 5
  clear hG r hW hst hsz hn
  unfold aggD
  go_enter Tryz.func11, Tryz.ntmps11
  go_wp2_with (first
    | (rw [HE.out]
       refine wpl_appendK elF _ rfl (.tmp 3) (.tmp 5) rfl W.heap.size rfl HO0.out h.sp h.sn h.sc (m.seen.flatMap encF) (R2.out.seen.len) rfl (R2.out.seen.at_.of_below HB0.out) (R2.out.seen.nilp (by decide)) (flat_one encF encF_one m.seen) (by have := HN.out; omega) HB0.out.size ?_
       rintro v4 w4 hO4 hg4 _
       rw [Nat.zero_add, List.nil_append] at hO4
       have hB4 := HB0.out.grown hg4 HB0.out.size (fun g hg => (HO0.out.lt g hg).1)
       have hs4 := HST.out.next hB4
       obtain ⟨p4, c4, e4, -, -, -⟩ := own_shape hO4
       subst e4
       have k0 : w4.cell? ⟨w.heap.size, 0, none⟩ = some (.int .i64 m.room) := hs4.dsk 0
       have k1 : w4.cell? ⟨w.heap.size, 1, none⟩ = some (.int .i64 m.count) := hs4.dsk 1
       have k2 : w4.cell? ⟨w.heap.size, 2, none⟩ = some (.slice h.bp h.bn h.bc) := hs4.dsk 2
       have k3 : w4.cell? ⟨w.heap.size, 3, none⟩ = some (.slice h.sp h.sn h.sc) := hs4.dsk 3
       have k4 : w4.cell? ⟨w.heap.size, 4, none⟩ = some (.slice h.fp h.fn h.fc) := hs4.dsk 4
       have k5 : w4.cell? ⟨w.heap.size, 5, none⟩ = some (.slice h.wp h.wn h.wc) := hs4.dsk 5
       have kf4 := hs4.free 4
       have kf5 := hs4.free 5
       have r0 : w4.cell? ⟨w.heap.size + 1, 0, none⟩ = some (.int .i64 0) := hs4.res 0
       have r1 : w4.cell? ⟨w.heap.size + 1, 1, none⟩ = some (.int .i64 0) := hs4.res 1
       have r2 : w4.cell? ⟨w.heap.size + 1, 2, none⟩ = some (.slice none 0 0) := hs4.res 2
       have r3 : w4.cell? ⟨w.heap.size + 1, 3, none⟩ = some (.slice none 0 0) := hs4.res 3
       have r4 : w4.cell? ⟨w.heap.size + 1, 4, none⟩ = some (.slice none 0 0) := hs4.res 4
       have r5 : w4.cell? ⟨w.heap.size + 1, 5, none⟩ = some (.slice none 0 0) := hs4.res 5
       have zf0 := hs4.rfree 0
       have zf1 := hs4.rfree 1
       have zf2 := hs4.rfree 2
       have zf3 := hs4.rfree 3
       have zf4 := hs4.rfree 4
       have zf5 := hs4.rfree 5
       have hs5 := (hs4.set 4 (by show 4 < 6; decide) (.slice p4 h.sn c4)).set 5 (by show 5 < 6; decide) (.slice none 0 0)
       have HC6 := Lib.hid (put6_cell (.int .i64 m.room) (.int .i64 m.count) (.slice h.bp h.bn h.bc) (.slice h.sp h.sn h.sc) (.slice p4 h.sn c4) (.slice none 0 0) hs5.res)
       have HB6 := Lib.hid (put6_below (b := w.heap.size + 1) (.int .i64 m.room) (.int .i64 m.count) (.slice h.bp h.bn h.bc) (.slice h.sp h.sn h.sc) (.slice p4 h.sn c4) (.slice none 0 0) hs5.bel (by omega))
       have HR := Lib.hid ((RfG.set (j := 4) (v := .slice p4 h.sn c4) (show RfG (G2 G w.heap.size) w4 (syncL m) ⟨h.bp, h.bn, h.bc, h.sp, h.sn, h.sc, p4, h.sn, c4, none, 0, 0⟩ from ⟨(R2.out.of_below hB4).bodies, (R2.out.of_below hB4).seen, LsG.fresh hO4 (fun c hc => by have := HSZ.out; exact ⟨HG.out c (by omega), by omega, by omega⟩), LsG.void _ _ _⟩)).set 5 (.slice none 0 0))
       clear hO4 hg4 hB4 hs4 hs5))
  refine bodyPost_ret (v := .agg #[.int .i64 m.room, .int .i64 m.count, .slice h.bp h.bn h.bc, .slice h.sp h.sn h.sc, .slice p4 h.sn c4, .slice none 0 0]) ?_ rfl ?_
  · have e := HC6.out
    unfold put6 at e
    obtain ⟨e0, e1, e2, e3, e4, e5⟩ := e
    simp [results, Tryz.f11, go_sem, e0, e1, e2, e3, e4, e5]
  · exact ⟨⟨h.bp, h.bn, h.bc, h.sp, h.sn, h.sc, p4, h.sn, c4, none, 0, 0⟩, rfl, HR.out.out6 _ _ _ _ _ _, HB6.out⟩
end Go.Proofs.YtjglgohchhdkkaaGreatDoor
