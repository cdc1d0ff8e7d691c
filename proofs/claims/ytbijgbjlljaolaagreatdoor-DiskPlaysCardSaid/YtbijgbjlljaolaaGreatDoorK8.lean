/- Merged texts: Refi8, Refk8, Refl8, RefH7, Refj8. -/
import Derived.Test.YtbijgbjlljaolaaGreatDoorK7
import Derived.Test.YtbijgbjlljaolaaGreatDoorK6
set_option linter.unusedSimpArgs false
set_option linter.unusedVariables false
/- The reference's Remove, Sync. -/
namespace Go.Proofs.YtbijgbjlljaolaaGreatDoor
open Go Go.RowKit

/-- Two boxes behind w: a disk's cells, and a result's. -/
structure St2 (w : World) (dv : List Value) (u : World) : Prop where
  bel : Below w.heap.size w u
  size : w.heap.size + 2 ≤ u.heap.size
  dsk : ∀ j, u.cell? ⟨w.heap.size, j, none⟩ = dv[j]?
  free : ∀ j, u.frozen? ⟨w.heap.size, j, none⟩ = false
  res : ∀ j, u.cell? ⟨w.heap.size + 1, j, none⟩ = zerD[j]?
  rfree : ∀ j, u.frozen? ⟨w.heap.size + 1, j, none⟩ = false
section
variable {w u u' : World} {dv : List Value}
theorem St2.next (h : St2 w dv u) (hB : Below u.heap.size u u') : St2 w dv u' := by
  have hs := h.size
  have lt0 : ∀ j, (⟨w.heap.size, j, none⟩ : Addr).block < u.heap.size := fun j => by show w.heap.size < _; omega
  have lt1 : ∀ j, (⟨w.heap.size + 1, j, none⟩ : Addr).block < u.heap.size := fun j => by show w.heap.size + 1 < _; omega
  exact ⟨h.bel.trans (hB.mono h.bel.size), Nat.le_trans hs hB.size, fun j => by rw [hB.cell (lt0 j)]; exact h.dsk j, fun j => by rw [hB.frozen (lt0 j)]; exact h.free j, fun j => by rw [hB.cell (lt1 j)]; exact h.res j, fun j => by rw [hB.frozen (lt1 j)]; exact h.rfree j⟩
theorem St2.alloc (h : St2 w dv u) (o : Obj) : St2 w dv (u.alloc o) := h.next ((Below.refl _ _).alloc (Nat.le_refl _) _)
theorem St2.drew (h : St2 w dv u) : St2 w dv u.drew := ⟨h.bel.drew, h.size, h.dsk, h.free, h.res, h.rfree⟩
theorem St2.set (h : St2 w dv u) (j : Nat) (hj : j < dv.length) (v : Value) : St2 w (dv.set j v) (u.setCell ⟨w.heap.size, j, none⟩ v) := by
  refine ⟨h.bel.setCell (p := ⟨w.heap.size, j, none⟩) (by simp) v, ?_, fun i => ?_, fun i => ?_, fun i => ?_, fun i => ?_⟩
  · exact Nat.le_trans h.size (KeepsOthers.setCell u ⟨w.heap.size, j, none⟩ v).size
  · by_cases e : i = j
    · subst e
      rw [World.cell?_setCell_same' _ _ _ (by rw [h.dsk i, List.getElem?_eq_getElem hj]; rfl), List.getElem?_set_self hj]
    · rw [World.cell?_setCell_other _ _ _ _ (by intro ee; injection ee with _ e2; exact e e2.symm), h.dsk i, List.getElem?_set_ne (fun ee => e ee.symm)]
  · rw [World.frozen?_setCell]; exact h.free i
  · rw [World.cell?_setCell_other _ _ _ _ (by intro ee; injection ee with e1 _; omega)]; exact h.res i
  · rw [World.frozen?_setCell]; exact h.rfree i
end
theorem st2_start (w : World) (m : Dk) (h : Hd) : St2 w (lisD m h) ((w.alloc (boxD m h)).alloc (.cells zerD.toArray 31)) := by
  have b1 : Below w.heap.size w (w.alloc (boxD m h)) := (Below.refl _ _).alloc (Nat.le_refl _) _
  have k0 := fun j => boxD_cell w m h j
  have hh := World.alloc_heap_new w (boxD m h)
  have hh2 := World.alloc_heap_new (w.alloc (boxD m h)) (.cells zerD.toArray 31)
  have B1 : Below (w.alloc (boxD m h)).heap.size (w.alloc (boxD m h)) ((w.alloc (boxD m h)).alloc (.cells zerD.toArray 31)) := (Below.refl _ _).alloc (Nat.le_refl _) _
  simp only [World.size_alloc] at hh2 B1
  have frz : ∀ (W : World) (b j : Nat) (cs : Array Value) (t : TypeId), W.heap[b]? = some (.cells cs t (0, 0)) → W.frozen? ⟨b, j, none⟩ = false := fun W b j cs t e => by
    unfold World.frozen?
    simp [e]
  refine ⟨b1.trans (B1.mono (by omega)), by simp, fun j => ?_, fun j => ?_, fun j => ?_, fun j => ?_⟩
  · rw [B1.cell (p := ⟨w.heap.size, j, none⟩) (by show w.heap.size < _; omega)]
    exact k0 j
  · rw [B1.frozen (p := ⟨w.heap.size, j, none⟩) (by show w.heap.size < _; omega)]
    exact frz _ _ _ _ _ hh
  · rw [cell_of_row _ (w.heap.size + 1) j _ _ (0, 0) hh2]
    simp
  · exact frz _ _ _ _ _ hh2
/-- Blocks that are neither box. -/
def G2 (G : Nat → Prop) (s : Nat) (k : Nat) : Prop := G k ∧ k ≠ s ∧ k ≠ s + 1
theorem put6_size (u : World) (b : Nat) (v0 v1 v2 v3 v4 v5 : Value) : u.heap.size ≤ (put6 u b v0 v1 v2 v3 v4 v5).heap.size := by
  have k := fun (W : World) (j : Nat) (v : Value) => (KeepsOthers.setCell W ⟨b, j, none⟩ v).size
  unfold put6
  exact Nat.le_trans (k _ 0 v0) (Nat.le_trans (k _ 1 v1) (Nat.le_trans (k _ 2 v2) (Nat.le_trans (k _ 3 v3) (Nat.le_trans (k _ 4 v4) (k _ 5 v5)))))
section
variable {G : Nat → Prop} {w u u' : World} {m : Dk} {h : Hd} {dv : List Value}
theorem RfG.into2 (r : RfG G w m h) (s : St2 w dv u) : RfG (G2 G w.heap.size) u m h :=
  (r.wider (G' := G2 G w.heap.size) fun c hc hl => ⟨hc, by omega, by omega⟩).of_below s.bel
/-- A disk that a call gave, in the result's box. -/
theorem RfG.out6 (r : RfG (G2 G w.heap.size) u m h) (v0 v1 v2 v3 v4 v5 : Value) : RfG G (put6 u (w.heap.size + 1) v0 v1 v2 v3 v4 v5) m h :=
  (r.keep (w' := put6 u (w.heap.size + 1) v0 v1 v2 v3 v4 v5) (fun c hc _ => put6_heap _ _ _ _ _ _ _ _ hc.2.2) (put6_size _ _ _ _ _ _ _ _)).wider fun c hc _ => hc.1
end
theorem findI_none {l : List Fl} {p : S8} (h : findL l p = none) : findI l p = -1 := by unfold findI; rw [h]
theorem findI_some {l : List Fl} {p : S8} {i : Nat} (h : findL l p = some i) : findI l p = (i : Int) := by unfold findI; rw [h]
theorem mk0 : mkS [] = ⟨#[]⟩ := (mkS_lit []).symm
/-- What a call that gives a disk and a number has done. -/
def DkPost (G : Nat → Prop) (w : World) (x : Dk × Nat) (e : Ending) (w' : World) : Prop :=
  ∃ h', e = .returned (.tuple #[aggD x.1 h', .int .i64 (x.2 : Int)]) ∧ RfG G w' x.1 h' ∧ Below w.heap.size w w'
set_option maxRecDepth 100000 in
set_option maxHeartbeats 4000000 in
theorem refRemove_any (G : Nat → Prop) (m : Dk) (h : Hd) (p : S8) (hp : p.length < 100000) (hsh : ShortF m.seen) (hn : h.sn < 90000) (hwn : h.wn < 90000) (w : World) (hG : ∀ k, w.heap.size ≤ k → G k) (r : RfG G w m h) :
    Calls Tryz.prog 18 #[aggD m h, .string (mkS p)] w fun e w' => DkPost G w (removeL m p) e w' := by
  have hst := st2_start w m h
  have R2 := Lib.hid (r.into2 hst)
  have HFD := Lib.hid (refFind_any m.seen h.sp h.sn h.sc p (by omega) _ (r.into2 hst).seen.files)
  have HCH := Lib.hid (fun (u : World) (hs : w.heap.size + 2 ≤ u.heap.size) (ru : RfG (G2 G w.heap.size) u m h) => refChange_any (G2 G w.heap.size) m h ⟨3, p, fl0⟩ ⟨.inr (.inr rfl), Nat.zero_le _, hp⟩ hsh hn hwn u (fun k hk => ⟨hG k (by omega), by omega, by omega⟩) ru)
  have hrm : (removeL m p) = if (findL m.seen p).isNone then (m, 8) else (changeL m ⟨3, p, fl0⟩, 0) := rfl
  obtain ⟨W, hW⟩ : ∃ W, ((w.alloc (boxD m h)).alloc (.cells zerD.toArray 31)) = W := ⟨_, rfl⟩
  have HE := Lib.hid (show ((w.alloc (.cells #[.int .i64 m.room, .int .i64 m.count, .slice h.bp h.bn h.bc, .slice h.sp h.sn h.sc, .slice h.fp h.fn h.fc, .slice h.wp h.wn h.wc] 31)).alloc (.cells #[.int .i64 0, .int .i64 0, .slice none 0 0, .slice none 0 0, .slice none 0 0, .slice none 0 0] 31)) = W from hW)
  rw [hW] at hst R2 HFD
  have d0 : W.cell? ⟨w.heap.size, 0, none⟩ = some (.int .i64 m.room) := hst.dsk 0
  have d1 : W.cell? ⟨w.heap.size, 1, none⟩ = some (.int .i64 m.count) := hst.dsk 1
  have d2 : W.cell? ⟨w.heap.size, 2, none⟩ = some (.slice h.bp h.bn h.bc) := hst.dsk 2
  have d3 : W.cell? ⟨w.heap.size, 3, none⟩ = some (.slice h.sp h.sn h.sc) := hst.dsk 3
  have d4 : W.cell? ⟨w.heap.size, 4, none⟩ = some (.slice h.fp h.fn h.fc) := hst.dsk 4
  have d5 : W.cell? ⟨w.heap.size, 5, none⟩ = some (.slice h.wp h.wn h.wc) := hst.dsk 5
  cases hf : findL m.seen p with
  | none =>
    rw [findI_none hf] at HFD
    rw [hf] at hrm
    rw [show removeL m p = (m, 8) from hrm]
    have HC6 := Lib.hid (put6_cell (.int .i64 m.room) (.int .i64 m.count) (.slice h.bp h.bn h.bc) (.slice h.sp h.sn h.sc) (.slice h.fp h.fn h.fc) (.slice h.wp h.wn h.wc) hst.res)
    have HB6 := Lib.hid (put6_below (b := w.heap.size + 1) (.int .i64 m.room) (.int .i64 m.count) (.slice h.bp h.bn h.bc) (.slice h.sp h.sn h.sc) (.slice h.fp h.fn h.fc) (.slice h.wp h.wn h.wc) hst.bel (by omega))
    have r0 : W.cell? ⟨w.heap.size + 1, 0, none⟩ = some (.int .i64 0) := hst.res 0
    have r1 : W.cell? ⟨w.heap.size + 1, 1, none⟩ = some (.int .i64 0) := hst.res 1
    have r2 : W.cell? ⟨w.heap.size + 1, 2, none⟩ = some (.slice none 0 0) := hst.res 2
    have r3 : W.cell? ⟨w.heap.size + 1, 3, none⟩ = some (.slice none 0 0) := hst.res 3
    have r4 : W.cell? ⟨w.heap.size + 1, 4, none⟩ = some (.slice none 0 0) := hst.res 4
    have r5 : W.cell? ⟨w.heap.size + 1, 5, none⟩ = some (.slice none 0 0) := hst.res 5
    have z0 := hst.rfree 0
    have z1 := hst.rfree 1
    have z2 := hst.rfree 2
    have z3 := hst.rfree 3
    have z4 := hst.rfree 4
    have z5 := hst.rfree 5
    unfold aggD
    clear hf hrm hsh hG hW r hst HCH
    go_enter Tryz.func18, Tryz.ntmps18
    go_wp2_with fail
    rw [HE.out]
    refine HFD.out.mono ?_
    rintro e w' ⟨rfl, rfl⟩
    go_wp2
    refine bodyPost_ret (v := .tuple #[.agg #[.int .i64 m.room, .int .i64 m.count, .slice h.bp h.bn h.bc, .slice h.sp h.sn h.sc, .slice h.fp h.fn h.fc, .slice h.wp h.wn h.wc], .int .i64 8]) ?_ rfl ?_
    · have e := HC6.out
      unfold put6 at e
      obtain ⟨e0, e1, e2, e3, e4, e5⟩ := e
      simp [results, Tryz.f18, go_sem, e0, e1, e2, e3, e4, e5]
    · exact ⟨h, rfl, R2.out.out6 _ _ _ _ _ _, HB6.out⟩
  | some i =>
    rw [findI_some hf] at HFD
    rw [hf] at hrm
    rw [show removeL m p = (changeL m ⟨3, p, fl0⟩, 0) from hrm]
    have HC := Lib.hid (HCH.out W hst.size R2.out)
    generalize changeL m ⟨3, p, fl0⟩ = m2 at *
    have HST := Lib.hid hst
    unfold aggD aggC fl0 at HC
    dsimp only at HC
    rw [mk0, show ((3 : Nat) : Int) = 3 from rfl, show ((0 : Nat) : Int) = 0 from rfl] at HC
    have z1 : ¬ ((i : Int) < 0) := by omega
    have z2 : decide ((i : Int) < 0) = false := decide_eq_false z1
    unfold aggD
    clear hf hrm hsh hG hW r hst HCH
    go_enter Tryz.func18, Tryz.ntmps18
    go_wp2_with fail
    rw [HE.out]
    refine HFD.out.mono ?_
    rintro e w' ⟨rfl, rfl⟩
    go_wp2_with fail
    with_reducible refine HC.out.mono ?_
    rintro e w' ⟨h', rfl, hR, hB⟩
    obtain ⟨s0, s1, s2, s3, s4, s5⟩ := m2
    obtain ⟨b1, b2, b3, b4, b5, b6, b7, b8, b9, b10, b11, b12⟩ := h'
    have hst := HST.out.next hB
    have HR := Lib.hid hR
    dsimp only
    have HC6 := Lib.hid (put6_cell (.int .i64 s0) (.int .i64 s1) (.slice b1 b2 b3) (.slice b4 b5 b6) (.slice b7 b8 b9) (.slice b10 b11 b12) hst.res)
    have HB6 := Lib.hid (put6_below (b := w.heap.size + 1) (.int .i64 s0) (.int .i64 s1) (.slice b1 b2 b3) (.slice b4 b5 b6) (.slice b7 b8 b9) (.slice b10 b11 b12) hst.bel (by omega))
    have r0 : w'.cell? ⟨w.heap.size + 1, 0, none⟩ = some (.int .i64 0) := hst.res 0
    have r1 : w'.cell? ⟨w.heap.size + 1, 1, none⟩ = some (.int .i64 0) := hst.res 1
    have r2 : w'.cell? ⟨w.heap.size + 1, 2, none⟩ = some (.slice none 0 0) := hst.res 2
    have r3 : w'.cell? ⟨w.heap.size + 1, 3, none⟩ = some (.slice none 0 0) := hst.res 3
    have r4 : w'.cell? ⟨w.heap.size + 1, 4, none⟩ = some (.slice none 0 0) := hst.res 4
    have r5 : w'.cell? ⟨w.heap.size + 1, 5, none⟩ = some (.slice none 0 0) := hst.res 5
    have z0 := hst.rfree 0
    have z1 := hst.rfree 1
    have z2 := hst.rfree 2
    have z3 := hst.rfree 3
    have z4 := hst.rfree 4
    have z5 := hst.rfree 5
    clear hR hB hst
    go_wp2
    refine bodyPost_ret (v := .tuple #[.agg #[.int .i64 s0, .int .i64 s1, .slice b1 b2 b3, .slice b4 b5 b6, .slice b7 b8 b9, .slice b10 b11 b12], .int .i64 0]) ?_ rfl ?_
    · have e := HC6.out
      unfold put6 at e
      obtain ⟨e0, e1, e2, e3, e4, e5⟩ := e
      simp [results, Tryz.f18, go_sem, e0, e1, e2, e3, e4, e5]
    · exact ⟨⟨b1, b2, b3, b4, b5, b6, b7, b8, b9, b10, b11, b12⟩, rfl, HR.out.out6 _ _ _ _ _ _, HB6.out⟩
end Go.Proofs.YtbijgbjlljaolaaGreatDoor
/- The reference's Sync. -/
namespace Go.Proofs.YtbijgbjlljaolaaGreatDoor
open Go Go.RowKit

section
variable {G : Nat → Prop} {w u u' : World} {m : Dk} {h : Hd} {dv : List Value}
theorem RfG.set {s : Nat} (r : RfG (G2 G s) u m h) (j : Nat) (v : Value) : RfG (G2 G s) (u.setCell ⟨s, j, none⟩ v) m h :=
  r.keep (fun c hc _ => Below.heap_setCell u _ v c (by show c ≠ s; exact hc.2.1)) (KeepsOthers.setCell u ⟨s, j, none⟩ v).size
end
theorem LsG.void (G : Nat → Prop) (w : World) (k : Nat) : LsG G w none 0 0 k [] := ⟨LsC.nil _ _, by simp, fun c o e _ => by (exfalso; cases e), fun _ => rfl, Nat.le_refl _⟩
set_option maxRecDepth 100000 in
set_option maxHeartbeats 4000000 in
theorem refSync_any (G : Nat → Prop) (m : Dk) (h : Hd) (hn : h.sn < 90000) (w : World) (hG : ∀ k, w.heap.size ≤ k → G k) (r : RfG G w m h) :
    Calls Tryz.prog 11 #[aggD m h] w fun e w' => ∃ h', e = .returned (aggD (syncL m) h') ∧ RfG G w' (syncL m) h' ∧ Below w.heap.size w w' := by
  have hst := st2_start w m h
  have R2 := Lib.hid (r.into2 hst)
  obtain ⟨W, hW⟩ : ∃ W, ((w.alloc (boxD m h)).alloc (.cells zerD.toArray 31)) = W := ⟨_, rfl⟩
  have HE := Lib.hid (show ((w.alloc (.cells #[.int .i64 m.room, .int .i64 m.count, .slice h.bp h.bn h.bc, .slice h.sp h.sn h.sc, .slice h.fp h.fn h.fc, .slice h.wp h.wn h.wc] 31)).alloc (.cells #[.int .i64 0, .int .i64 0, .slice none 0 0, .slice none 0 0, .slice none 0 0, .slice none 0 0] 31)) = W from hW)
  rw [hW] at hst R2
  have hsz : W.heap.size = w.heap.size + 1 + 1 := by rw [← hW]; simp [World.size_alloc]
  have HB0 := Lib.hid (show Below W.heap.size W (W.alloc (.cells #[] 71)) from (Below.refl _ _).alloc (Nat.le_refl _) _)
  have HO0 := Lib.hid (show (W.alloc (.cells #[] 71)).ownsRow W.heap.size 71 5 (.slice (some ⟨w.heap.size + 1 + 1, 0, none⟩) 0 0) 0 [] from by have := own_empty (E := 71) (k := 5) W W.heap.size (Nat.le_refl _); rw [hsz] at this ⊢; exact this)
  have HST := Lib.hid hst
  have HG := Lib.hid hG
  have HSZ := Lib.hid hsz
  have HN := Lib.hid hn
  have d0 : W.cell? ⟨w.heap.size, 0, none⟩ = some (.int .i64 m.room) := hst.dsk 0
  have d1 : W.cell? ⟨w.heap.size, 1, none⟩ = some (.int .i64 m.count) := hst.dsk 1
  have d2 : W.cell? ⟨w.heap.size, 2, none⟩ = some (.slice h.bp h.bn h.bc) := hst.dsk 2
  have d3 : W.cell? ⟨w.heap.size, 3, none⟩ = some (.slice h.sp h.sn h.sc) := hst.dsk 3
  have d4 : W.cell? ⟨w.heap.size, 4, none⟩ = some (.slice h.fp h.fn h.fc) := hst.dsk 4
  have d5 : W.cell? ⟨w.heap.size, 5, none⟩ = some (.slice h.wp h.wn h.wc) := hst.dsk 5
  clear hG r hW hst hsz hn
  unfold aggD
  go_enter Tryz.func11, Tryz.ntmps11
  go_wp2_with (first
    | (rw [HE.out]
       refine wpl_appendK elF _ rfl (.tmp 3) (.tmp 5) rfl W.heap.size rfl HO0.out h.sp h.sn h.sc (m.seen.flatMap encF) (R2.out.seen.len) rfl (R2.out.seen.at_.of_below HB0.out) (R2.out.seen.nilp (by decide)) (flat_one encF encF_one m.seen) (by have := HN.out; omega) HB0.out.size ?_
       rintro v4 w4 hO4 hg4 _
       rw [Nat.zero_add, List.nil_append] at hO4
       have hB4 := HB0.out.grown hg4 HB0.out.size (fun g hg => (HO0.out.lt g hg).1)
       have hs4 := HST.out.next hB4
       obtain ⟨p4, c4, e4, -, -, -⟩ := own_shape hO4
       subst e4
       have k0 : w4.cell? ⟨w.heap.size, 0, none⟩ = some (.int .i64 m.room) := hs4.dsk 0
       have k1 : w4.cell? ⟨w.heap.size, 1, none⟩ = some (.int .i64 m.count) := hs4.dsk 1
       have k2 : w4.cell? ⟨w.heap.size, 2, none⟩ = some (.slice h.bp h.bn h.bc) := hs4.dsk 2
       have k3 : w4.cell? ⟨w.heap.size, 3, none⟩ = some (.slice h.sp h.sn h.sc) := hs4.dsk 3
       have k4 : w4.cell? ⟨w.heap.size, 4, none⟩ = some (.slice h.fp h.fn h.fc) := hs4.dsk 4
       have k5 : w4.cell? ⟨w.heap.size, 5, none⟩ = some (.slice h.wp h.wn h.wc) := hs4.dsk 5
       have kf4 := hs4.free 4
       have kf5 := hs4.free 5
       have r0 : w4.cell? ⟨w.heap.size + 1, 0, none⟩ = some (.int .i64 0) := hs4.res 0
       have r1 : w4.cell? ⟨w.heap.size + 1, 1, none⟩ = some (.int .i64 0) := hs4.res 1
       have r2 : w4.cell? ⟨w.heap.size + 1, 2, none⟩ = some (.slice none 0 0) := hs4.res 2
       have r3 : w4.cell? ⟨w.heap.size + 1, 3, none⟩ = some (.slice none 0 0) := hs4.res 3
       have r4 : w4.cell? ⟨w.heap.size + 1, 4, none⟩ = some (.slice none 0 0) := hs4.res 4
       have r5 : w4.cell? ⟨w.heap.size + 1, 5, none⟩ = some (.slice none 0 0) := hs4.res 5
       have zf0 := hs4.rfree 0
       have zf1 := hs4.rfree 1
       have zf2 := hs4.rfree 2
       have zf3 := hs4.rfree 3
       have zf4 := hs4.rfree 4
       have zf5 := hs4.rfree 5
       have hs5 := (hs4.set 4 (by show 4 < 6; decide) (.slice p4 h.sn c4)).set 5 (by show 5 < 6; decide) (.slice none 0 0)
       have HC6 := Lib.hid (put6_cell (.int .i64 m.room) (.int .i64 m.count) (.slice h.bp h.bn h.bc) (.slice h.sp h.sn h.sc) (.slice p4 h.sn c4) (.slice none 0 0) hs5.res)
       have HB6 := Lib.hid (put6_below (b := w.heap.size + 1) (.int .i64 m.room) (.int .i64 m.count) (.slice h.bp h.bn h.bc) (.slice h.sp h.sn h.sc) (.slice p4 h.sn c4) (.slice none 0 0) hs5.bel (by omega))
       have HR := Lib.hid ((RfG.set (j := 4) (v := .slice p4 h.sn c4) (show RfG (G2 G w.heap.size) w4 (syncL m) ⟨h.bp, h.bn, h.bc, h.sp, h.sn, h.sc, p4, h.sn, c4, none, 0, 0⟩ from ⟨(R2.out.of_below hB4).bodies, (R2.out.of_below hB4).seen, LsG.fresh hO4 (fun c hc => by have := HSZ.out; exact ⟨HG.out c (by omega), by omega, by omega⟩), LsG.void _ _ _⟩)).set 5 (.slice none 0 0))
       clear hO4 hg4 hB4 hs4 hs5))
  refine bodyPost_ret (v := .agg #[.int .i64 m.room, .int .i64 m.count, .slice h.bp h.bn h.bc, .slice h.sp h.sn h.sc, .slice p4 h.sn c4, .slice none 0 0]) ?_ rfl ?_
  · have e := HC6.out
    unfold put6 at e
    obtain ⟨e0, e1, e2, e3, e4, e5⟩ := e
    simp [results, Tryz.f11, go_sem, e0, e1, e2, e3, e4, e5]
  · exact ⟨⟨h.bp, h.bn, h.bc, h.sp, h.sn, h.sc, p4, h.sn, c4, none, 0, 0⟩, rfl, HR.out.out6 _ _ _ _ _ _, HB6.out⟩
end Go.Proofs.YtbijgbjlljaolaaGreatDoor
/- The reference's Crash. -/
namespace Go.Proofs.YtbijgbjlljaolaaGreatDoor
open Go Go.RowKit

/-- The cells of change number i. -/
theorem LsG.change {G : Nat → Prop} {w : World} {p : Option Addr} {n cap : Nat} {l : List Ch} (h : LsG G w p n cap 7 (l.flatMap encC)) {i j : Nat} (hi : i < l.length) {u : Value} (hu : (encC l[i])[j]? = some u) : ∃ c o, p = some ⟨c, o, none⟩ ∧ c < w.heap.size ∧ w.cell? ⟨c, o + (i * 7 + j), none⟩ = some u := by
  have hj : j < 7 := by rw [List.getElem?_eq_some_iff] at hu; exact hu.1
  have hg := flat_get encC 7 encC_len l i j hi hj
  exact h.at_.cell (hg.trans hu)
/-- The disk while changes are kept. -/
structure CrR (G : Nat → Prop) (w : World) (m : Dk) (h : Hd) (ks : List Bool) (k : Nat) (S : List Fl) (ps : Option Addr) (cs : Nat) (wr : World) : Prop where
  st : St2 w (lisD m { h with fp := ps, fn := S.length, fc := cs }) wr
  rf : RfG (G2 G w.heap.size) wr { m with safe := S } { h with fp := ps, fn := S.length, fc := cs }
  eq : keptL S (m.waits.drop k) (ks.drop k) = keptL m.safe m.waits ks
  short : ShortF S
  len : S.length ≤ m.safe.length + k
section
variable {G : Nat → Prop} {w : World} {m : Dk} {h : Hd} {ks : List Bool} {k : Nat} {S : List Fl} {ps : Option Addr} {cs : Nat} {wr : World}
theorem CrR.skip (c : CrR G w m h ks k S ps cs wr) (hk : k < m.waits.length) (hs : ks.getD k false = false) : CrR G w m h ks (k + 1) S ps cs wr :=
  ⟨c.st, c.rf, by rw [← c.eq, keptL_step S _ ks k hk, if_neg (by rw [hs]; decide)], c.short, by have := c.len; omega⟩
theorem CrR.take (c : CrR G w m h ks k S ps cs wr) (hk : k < m.waits.length) (hs : ks.getD k false = true) (x : Ch) (hx : m.waits[k] = x) (hch : ChOk x) (hG : ∀ k, w.heap.size ≤ k → G k) (w3 : World) (hB : Below wr.heap.size wr w3) (p3 : Option Addr) (c3 : Nat) (own : OwnF w3 (w.heap.size + 2) (.slice p3 (doL S x).length c3) (doL S x)) :
    CrR G w m h ks (k + 1) (doL S x) p3 c3 (w3.setCell ⟨w.heap.size, 4, none⟩ (.slice p3 (doL S x).length c3)) :=
  ⟨(c.st.next hB).set 4 (by show 4 < 6; decide) (.slice p3 (doL S x).length c3),
   RfG.set (j := 4) (v := .slice p3 (doL S x).length c3) (show RfG (G2 G w.heap.size) w3 { m with safe := doL S x } { h with fp := p3, fn := (doL S x).length, fc := c3 } from ⟨(c.rf.of_below hB).bodies, (c.rf.of_below hB).seen, LsG.fresh own (fun q hq => ⟨hG q (by omega), by omega, by omega⟩), (c.rf.of_below hB).waits⟩),
   by rw [← c.eq, keptL_step S _ ks k hk, if_pos hs, hx], doL_short hch c.short, by have := c.len; have := doL_len S x; omega⟩
theorem CrR.last (c : CrR G w m h ks k S ps cs wr) (hk : m.waits.length = k) : keptL m.safe m.waits ks = S := by
  rw [← c.eq, List.drop_of_length_le (by omega)]
  rfl
end
set_option maxRecDepth 100000 in
set_option maxHeartbeats 4000000 in
theorem refCrash_any (G : Nat → Prop) (m : Dk) (h : Hd) (ks : List Bool) (kp : Option Addr) (kc : Nat) (hch : ∀ c ∈ m.waits, ChOk c) (hsh : ShortF m.safe) (hn : h.fn + h.wn < 90000) (w : World) (hkl : ks.length < 1000000) (hkp : ∀ i (hi : i < ks.length), ∃ c o, kp = some ⟨c, o, none⟩ ∧ c < w.heap.size ∧ w.cell? ⟨c, o + i, none⟩ = some (.bool ks[i])) (hG : ∀ k, w.heap.size ≤ k → G k) (r : RfG G w m h) :
    Calls Tryz.prog 20 #[aggD m h, .slice kp ks.length kc] w fun e w' => ∃ h', e = .returned (aggD (crashL m ks) h') ∧ RfG G w' (crashL m ks) h' ∧ Below w.heap.size w w' := by
  have hst := st2_start w m h
  have R2 := Lib.hid (r.into2 hst)
  obtain ⟨W, hW⟩ : ∃ W, ((w.alloc (boxD m h)).alloc (.cells zerD.toArray 31)) = W := ⟨_, rfl⟩
  have HE := Lib.hid (show ((w.alloc (.cells #[.int .i64 m.room, .int .i64 m.count, .slice h.bp h.bn h.bc, .slice h.sp h.sn h.sc, .slice h.fp h.fn h.fc, .slice h.wp h.wn h.wc] 31)).alloc (.cells #[.int .i64 0, .int .i64 0, .slice none 0 0, .slice none 0 0, .slice none 0 0, .slice none 0 0] 31)) = W from hW)
  rw [hW] at hst R2
  have HST := Lib.hid hst
  have HG := Lib.hid hG
  have HN := Lib.hid hn
  have HKP := Lib.hid hkp
  have HCH := Lib.hid hch
  have HWL := Lib.hid r.wn
  have HFL := Lib.hid r.fn
  obtain ⟨kn, hkn⟩ : ∃ kn, ks.length = kn := ⟨_, rfl⟩
  rw [hkn] at hkl
  have HKN := Lib.hid hkn
  have C0 := Lib.hid (show CrR G w m h ks 0 m.safe h.fp h.fc W from by
    have hh : ({ h with fp := h.fp, fn := m.safe.length, fc := h.fc } : Hd) = h := by rw [r.fn]
    exact ⟨by rw [hh]; exact hst, by rw [hh]; exact R2.out, rfl, hsh, by omega⟩)
  have d5 : W.cell? ⟨w.heap.size, 5, none⟩ = some (.slice h.wp h.wn h.wc) := hst.dsk 5
  have hwn : h.wn < 90000 := by omega
  rw [hkn]
  clear hG r hW hst hn hkp hch hsh hkn
  unfold aggD
  go_enter Tryz.func20, Tryz.ntmps20
  go_wp2
  rw [HE.out]
  go_loopw [5, 9] (fun v5 v9 wr => ∃ (k : Nat) (S : List Fl) (ps : Option Addr) (cs : Nat), k ≤ h.wn ∧ v9 = .int .i64 k ∧ CrR G w m h ks k S ps cs wr) (fun v5 v9 _ => h.wn - (intOf v9).toNat)
  case atStart => exact ⟨0, _, _, _, Nat.zero_le _, rfl, C0.out⟩
  case round =>
    obtain ⟨k, S, ps, cs, hk, rfl, hC⟩ := hrel
    have HC := Lib.hid hC
    by_cases hlt : k < h.wn
    · have z1 : (k : Int) < (h.wn : Int) := by omega
      have z2 : decide ((k : Int) < (h.wn : Int)) = true := decide_eq_true z1
      have hw := i64s k (by omega)
      have hkw : k < m.waits.length := by rw [HWL.out]; exact hlt
      by_cases hkk : k < kn
      · have y1 : (k : Int) < (kn : Int) := by omega
        have y2 : decide ((k : Int) < (kn : Int)) = true := decide_eq_true y1
        have y0 : (0 : Int) ≤ (k : Int) := by omega
        obtain ⟨ck, ok, ekp, hck, hcell⟩ := HKP.out k (by rw [HKN.out]; exact hkk)
        have hkc : wr.cell? ⟨ck, ok + k, none⟩ = some (.bool (ks[k]'(by rw [HKN.out]; exact hkk))) := by rw [hC.st.bel.cell (p := ⟨ck, ok + k, none⟩) hck]; exact hcell
        have hgd : ks.getD k false = ks[k]'(by rw [HKN.out]; exact hkk) := by rw [List.getD_eq_getElem?_getD, List.getElem?_eq_getElem (by rw [HKN.out]; exact hkk)]; rfl
        rw [← hgd] at hkc
        rw [ekp]
        clear hgd hcell ekp
        cases hkb : ks.getD k false with
        | false =>
          rw [hkb] at hkc
          have HC2 := Lib.hid (hC.skip hkw hkb)
          clear hkb hC
          go_wp2
          exact ⟨⟨k + 1, S, ps, cs, by omega, by go_num, HC2.out⟩, by simp [intOf]; omega⟩
        | true =>
          rw [hkb] at hkc
          obtain ⟨x, hx⟩ : ∃ x, m.waits[k] = x := ⟨_, rfl⟩
          have hcx : ChOk x := by rw [← hx]; exact HCH.out _ (List.getElem_mem hkw)
          have HTK := Lib.hid (fun (w3 : World) (hB : Below wr.heap.size wr w3) (p3 : Option Addr) (c3 : Nat) (own : OwnF w3 (w.heap.size + 2) (.slice p3 (doL S x).length c3) (doL S x)) => hC.take hkw hkb x hx hcx HG.out w3 hB p3 c3 own)
          have hSl : S.length < 90000 := by have := hC.len; have := HN.out; have := HFL.out; omega
          have HSL := Lib.hid hSl
          have HDO := Lib.hid (fun (u : World) (q : Option Addr) (cap : Nat) (own : OwnF u (w.heap.size + 2) (.slice q S.length cap) S) (hN : w.heap.size + 2 ≤ u.heap.size) => refDo_any x hcx S hC.short q S.length cap (w.heap.size + 2) u (by omega) own hN)
          obtain ⟨ck2, csrc, cf⟩ := x
          obtain ⟨cp, cb, cz, ct, cc⟩ := cf
          obtain ⟨c0, o0, hpe, hc0, hx0⟩ := hC.rf.waits.change (i := k) (j := 0) hkw (u := .int .i64 (ck2 : Int)) (by rw [hx]; rfl)
          have hF := fun j u (hu : (encC ⟨ck2, csrc, ⟨cp, cb, cz, ct, cc⟩⟩)[j]? = some u) => (by
            obtain ⟨c1, o1, e1, _, h1⟩ := hC.rf.waits.change (i := k) (j := j) hkw (by rw [hx]; exact hu)
            rw [hpe] at e1
            injection e1 with e1
            injection e1 with e1 e2
            subst e1 e2
            rw [← Nat.add_assoc] at h1
            exact h1 : wr.cell? ⟨c0, o0 + k * 7 + j, none⟩ = some u)
          have g0 : wr.cell? ⟨c0, o0 + k * 7, none⟩ = some (.int .i64 (ck2 : Int)) := hF 0 _ rfl
          have g1 : wr.cell? ⟨c0, o0 + k * 7 + 1, none⟩ = some (.string (mkS csrc)) := hF 1 _ rfl
          have g2 : wr.cell? ⟨c0, o0 + k * 7 + 2, none⟩ = some (.string (mkS cp)) := hF 2 _ rfl
          have g3 : wr.cell? ⟨c0, o0 + k * 7 + 3, none⟩ = some (.int .i64 (cb : Int)) := hF 3 _ rfl
          have g4 : wr.cell? ⟨c0, o0 + k * 7 + 4, none⟩ = some (.int .i64 cz) := hF 4 _ rfl
          have g5 : wr.cell? ⟨c0, o0 + k * 7 + 5, none⟩ = some (.int .i64 ct) := hF 5 _ rfl
          have g6 : wr.cell? ⟨c0, o0 + k * 7 + 6, none⟩ = some (.int .i64 cc) := hF 6 _ rfl
          have hal := fun (o : Obj) j (u : Value) (e : wr.cell? ⟨c0, o0 + k * 7 + j, none⟩ = some u) => (by rw [World.cell?_alloc_old _ _ _ (by show c0 ≠ _; omega)]; exact e : (wr.alloc o).cell? ⟨c0, o0 + k * 7 + j, none⟩ = some u)
          have g0' : ∀ o, (wr.alloc o).cell? ⟨c0, o0 + k * 7, none⟩ = some (.int .i64 (ck2 : Int)) := fun o => hal o 0 _ g0
          have g1' : ∀ o, (wr.alloc o).cell? ⟨c0, o0 + k * 7 + 1, none⟩ = some (.string (mkS csrc)) := fun o => hal o 1 _ g1
          have g2' : ∀ o, (wr.alloc o).cell? ⟨c0, o0 + k * 7 + 2, none⟩ = some (.string (mkS cp)) := fun o => hal o 2 _ g2
          have g3' : ∀ o, (wr.alloc o).cell? ⟨c0, o0 + k * 7 + 3, none⟩ = some (.int .i64 (cb : Int)) := fun o => hal o 3 _ g3
          have g4' : ∀ o, (wr.alloc o).cell? ⟨c0, o0 + k * 7 + 4, none⟩ = some (.int .i64 cz) := fun o => hal o 4 _ g4
          have g5' : ∀ o, (wr.alloc o).cell? ⟨c0, o0 + k * 7 + 5, none⟩ = some (.int .i64 ct) := fun o => hal o 5 _ g5
          have g6' : ∀ o, (wr.alloc o).cell? ⟨c0, o0 + k * 7 + 6, none⟩ = some (.int .i64 cc) := fun o => hal o 6 _ g6
          have a4 : wr.cell? ⟨w.heap.size, 4, none⟩ = some (.slice ps S.length cs) := hC.st.dsk 4
          have a4' : ∀ o, (wr.alloc o).cell? ⟨w.heap.size, 4, none⟩ = some (.slice ps S.length cs) := fun o => (hC.st.alloc o).dsk 4
          have a5 : wr.cell? ⟨w.heap.size, 5, none⟩ = some (.slice h.wp h.wn h.wc) := hC.st.dsk 5
          have a5' : ∀ o, (wr.alloc o).cell? ⟨w.heap.size, 5, none⟩ = some (.slice h.wp h.wn h.wc) := fun o => (hC.st.alloc o).dsk 5
          rw [hpe] at a5 a5'
          have y3 : (0 : Int) ≤ (k : Int) := by omega
          have HPE := Lib.hid hpe
          have HC0 := Lib.hid hc0
          have H0 := Lib.hid (show ((wr.alloc (.cells #[] 71)).drew).ownsRow wr.heap.size 71 5 (.slice (some ⟨wr.heap.size, 0, none⟩) 0 0) 0 [] from own_empty wr wr.heap.size (Nat.le_refl _))
          have HZ0 := Lib.hid (show Below wr.heap.size wr (wr.alloc (.cells #[] 71)).drew from ((Below.refl _ _).alloc (Nat.le_refl _) _).drew)
          have HST2 := Lib.hid hC.st
          have HLS := Lib.hid (show LsC (wr.alloc (.cells #[] 71)).drew ps (S.flatMap encF) from (hC.rf.safe.at_.of_below (show Below _ _ _ from ((Below.refl _ _).alloc (Nat.le_refl _) _).drew)))
          unfold aggC at HDO
          dsimp only at HDO
          clear hF hal hpe hc0 hx0 hx hcx hkb hC hkw hSl
          go_wp2
          go_region_law (first
            | (refine step_appendK elF _ rfl (.tmp 22) (.tmp 24) rfl wr.heap.size rfl H0.out ps S.length cs (S.flatMap encF) (HC.out.rf.safe.len) rfl HLS.out (HC.out.rf.safe.nilp (by decide)) (flat_one encF encF_one S) (by have := HSL.out; omega) HZ0.out.size ?_
               rintro v2 w2 hO2 hg2 _
               rw [Nat.zero_add, List.nil_append] at hO2
               have hB2 := HZ0.out.grown hg2 HZ0.out.size (fun g hg => (H0.out.lt g hg).1)
               have hs2 := HST2.out.next hB2
               replace hO2 := own_lower hO2 HST2.out.size
               have k0 : w2.cell? ⟨c0, o0 + k * 7, none⟩ = some (.int .i64 (ck2 : Int)) := by rw [hB2.cell (p := ⟨c0, o0 + k * 7, none⟩) HC0.out]; exact g0
               have k1 : w2.cell? ⟨c0, o0 + k * 7 + 1, none⟩ = some (.string (mkS csrc)) := by rw [hB2.cell (p := ⟨c0, o0 + k * 7 + 1, none⟩) HC0.out]; exact g1
               have k2 : w2.cell? ⟨c0, o0 + k * 7 + 2, none⟩ = some (.string (mkS cp)) := by rw [hB2.cell (p := ⟨c0, o0 + k * 7 + 2, none⟩) HC0.out]; exact g2
               have k3 : w2.cell? ⟨c0, o0 + k * 7 + 3, none⟩ = some (.int .i64 (cb : Int)) := by rw [hB2.cell (p := ⟨c0, o0 + k * 7 + 3, none⟩) HC0.out]; exact g3
               have k4 : w2.cell? ⟨c0, o0 + k * 7 + 4, none⟩ = some (.int .i64 cz) := by rw [hB2.cell (p := ⟨c0, o0 + k * 7 + 4, none⟩) HC0.out]; exact g4
               have k5 : w2.cell? ⟨c0, o0 + k * 7 + 5, none⟩ = some (.int .i64 ct) := by rw [hB2.cell (p := ⟨c0, o0 + k * 7 + 5, none⟩) HC0.out]; exact g5
               have k6 : w2.cell? ⟨c0, o0 + k * 7 + 6, none⟩ = some (.int .i64 cc) := by rw [hB2.cell (p := ⟨c0, o0 + k * 7 + 6, none⟩) HC0.out]; exact g6
               have k5h : w2.cell? ⟨w.heap.size, 5, none⟩ = some (.slice h.wp h.wn h.wc) := hs2.dsk 5
               rw [HPE.out] at k5h
               obtain ⟨p2, cap2, e2, -, -, -⟩ := own_shape hO2
               subst e2
               have HDC := Lib.hid (HDO.out w2 p2 cap2 hO2 hs2.size)
               have HS2 := Lib.hid hs2
               have HB2 := Lib.hid hB2
               clear hO2 hg2 hs2 hB2)
            | (go_simp; go_at_call 42
               with_reducible refine HDC.out.mono ?_
               rintro e w3 ⟨p3, c3, rfl, hO3, hB3⟩
               have hs3 := HS2.out.next hB3
               have b3 : w3.cell? ⟨w.heap.size, 4, none⟩ = some (.slice ps S.length cs) := hs3.dsk 4
               have b3f : w3.frozen? ⟨w.heap.size, 4, none⟩ = false := hs3.free 4
               have HT3 := Lib.hid (HTK.out w3 (HB2.out.trans (hB3.mono HB2.out.size)) p3 c3 hO3)
               clear hs3 hO3 hB3))
          all_goals
            go_wp2
            exact ⟨⟨k + 1, _, p3, c3, by omega, by go_num, HT3.out⟩, by simp [intOf]; omega⟩
      · have y1 : ¬ (k : Int) < (kn : Int) := by omega
        have y2 : decide ((k : Int) < (kn : Int)) = false := decide_eq_false y1
        have HC2 := Lib.hid (hC.skip hkw (by rw [List.getD_eq_getElem?_getD, List.getElem?_eq_none (by rw [HKN.out]; omega)]; rfl))
        clear hC
        go_wp2
        exact ⟨⟨k + 1, S, ps, cs, by omega, by go_num, HC2.out⟩, by simp [intOf]; omega⟩
    · obtain rfl : k = h.wn := by omega
      have z1 : ¬ (h.wn : Int) < (h.wn : Int) := by omega
      have z2 : decide ((h.wn : Int) < (h.wn : Int)) = false := decide_eq_false z1
      have hlast := hC.last HWL.out
      have HLA := Lib.hid (show crashL m ks = { m with safe := S, seen := S, waits := [] } from by unfold crashL; rw [hlast])
      have HSL := Lib.hid (show S.length < 90000 from by have := hC.len; have := HN.out; have := HFL.out; omega)
      have HB0 := Lib.hid (show Below wr.heap.size wr (wr.alloc (.cells #[] 71)) from (Below.refl _ _).alloc (Nat.le_refl _) _)
      have HO0 := Lib.hid (show (wr.alloc (.cells #[] 71)).ownsRow wr.heap.size 71 5 (.slice (some ⟨wr.heap.size, 0, none⟩) 0 0) 0 [] from own_empty wr wr.heap.size (Nat.le_refl _))
      have q0 : wr.cell? ⟨w.heap.size, 0, none⟩ = some (.int .i64 m.room) := hC.st.dsk 0
      have q0' : ∀ o, (wr.alloc o).cell? ⟨w.heap.size, 0, none⟩ = some (.int .i64 m.room) := fun o => (hC.st.alloc o).dsk 0
      have q1 : wr.cell? ⟨w.heap.size, 1, none⟩ = some (.int .i64 m.count) := hC.st.dsk 1
      have q1' : ∀ o, (wr.alloc o).cell? ⟨w.heap.size, 1, none⟩ = some (.int .i64 m.count) := fun o => (hC.st.alloc o).dsk 1
      have q2 : wr.cell? ⟨w.heap.size, 2, none⟩ = some (.slice h.bp h.bn h.bc) := hC.st.dsk 2
      have q2' : ∀ o, (wr.alloc o).cell? ⟨w.heap.size, 2, none⟩ = some (.slice h.bp h.bn h.bc) := fun o => (hC.st.alloc o).dsk 2
      have q3 : wr.cell? ⟨w.heap.size, 3, none⟩ = some (.slice h.sp h.sn h.sc) := hC.st.dsk 3
      have q3' : ∀ o, (wr.alloc o).cell? ⟨w.heap.size, 3, none⟩ = some (.slice h.sp h.sn h.sc) := fun o => (hC.st.alloc o).dsk 3
      have q4 : wr.cell? ⟨w.heap.size, 4, none⟩ = some (.slice ps S.length cs) := hC.st.dsk 4
      have q4' : ∀ o, (wr.alloc o).cell? ⟨w.heap.size, 4, none⟩ = some (.slice ps S.length cs) := fun o => (hC.st.alloc o).dsk 4
      have q5 : wr.cell? ⟨w.heap.size, 5, none⟩ = some (.slice h.wp h.wn h.wc) := hC.st.dsk 5
      have q5' : ∀ o, (wr.alloc o).cell? ⟨w.heap.size, 5, none⟩ = some (.slice h.wp h.wn h.wc) := fun o => (hC.st.alloc o).dsk 5
      clear hlast hC d5
      go_wp2_with (first
        | (refine wpl_appendK elF _ rfl (.tmp 34) (.tmp 36) rfl wr.heap.size rfl HO0.out ps S.length cs (S.flatMap encF) (HC.out.rf.safe.len) rfl (HC.out.rf.safe.at_.of_below HB0.out) (HC.out.rf.safe.nilp (by decide)) (flat_one encF encF_one S) (by have := HSL.out; omega) HB0.out.size ?_
           rintro v4 w4 hO4 hg4 _
           rw [Nat.zero_add, List.nil_append] at hO4
           have hB4 := HB0.out.grown hg4 HB0.out.size (fun g hg => (HO0.out.lt g hg).1)
           have hs4 := HC.out.st.next hB4
           obtain ⟨p4, c4, e4, -, -, -⟩ := own_shape hO4
           subst e4
           have k0 : w4.cell? ⟨w.heap.size, 0, none⟩ = some (.int .i64 m.room) := hs4.dsk 0
           have k1 : w4.cell? ⟨w.heap.size, 1, none⟩ = some (.int .i64 m.count) := hs4.dsk 1
           have k2 : w4.cell? ⟨w.heap.size, 2, none⟩ = some (.slice h.bp h.bn h.bc) := hs4.dsk 2
           have k3 : w4.cell? ⟨w.heap.size, 3, none⟩ = some (.slice h.sp h.sn h.sc) := hs4.dsk 3
           have k4 : w4.cell? ⟨w.heap.size, 4, none⟩ = some (.slice ps S.length cs) := hs4.dsk 4
           have k5 : w4.cell? ⟨w.heap.size, 5, none⟩ = some (.slice h.wp h.wn h.wc) := hs4.dsk 5
           have kf3 := hs4.free 3
           have kf5 := hs4.free 5
           have r0 : w4.cell? ⟨w.heap.size + 1, 0, none⟩ = some (.int .i64 0) := hs4.res 0
           have r1 : w4.cell? ⟨w.heap.size + 1, 1, none⟩ = some (.int .i64 0) := hs4.res 1
           have r2 : w4.cell? ⟨w.heap.size + 1, 2, none⟩ = some (.slice none 0 0) := hs4.res 2
           have r3 : w4.cell? ⟨w.heap.size + 1, 3, none⟩ = some (.slice none 0 0) := hs4.res 3
           have r4 : w4.cell? ⟨w.heap.size + 1, 4, none⟩ = some (.slice none 0 0) := hs4.res 4
           have r5 : w4.cell? ⟨w.heap.size + 1, 5, none⟩ = some (.slice none 0 0) := hs4.res 5
           have zf0 := hs4.rfree 0
           have zf1 := hs4.rfree 1
           have zf2 := hs4.rfree 2
           have zf3 := hs4.rfree 3
           have zf4 := hs4.rfree 4
           have zf5 := hs4.rfree 5
           have hs5 := (hs4.set 3 (by show 3 < 6; decide) (.slice p4 S.length c4)).set 5 (by show 5 < 6; decide) (.slice none 0 0)
           have HC6 := Lib.hid (put6_cell (.int .i64 m.room) (.int .i64 m.count) (.slice h.bp h.bn h.bc) (.slice p4 S.length c4) (.slice ps S.length cs) (.slice none 0 0) hs5.res)
           have HB6 := Lib.hid (put6_below (b := w.heap.size + 1) (.int .i64 m.room) (.int .i64 m.count) (.slice h.bp h.bn h.bc) (.slice p4 S.length c4) (.slice ps S.length cs) (.slice none 0 0) hs5.bel (by omega))
           have HR := Lib.hid ((RfG.set (j := 3) (v := .slice p4 S.length c4) (show RfG (G2 G w.heap.size) w4 { m with safe := S, seen := S, waits := [] } ⟨h.bp, h.bn, h.bc, p4, S.length, c4, ps, S.length, cs, none, 0, 0⟩ from ⟨(HC.out.rf.of_below hB4).bodies, LsG.fresh hO4 (fun c hc => by have := HC.out.st.size; exact ⟨HG.out c (by omega), by omega, by omega⟩), (HC.out.rf.of_below hB4).safe, LsG.void _ _ _⟩)).set 5 (.slice none 0 0))
           clear hO4 hg4 hB4 hs4 hs5))
      refine bodyPost_ret (v := .agg #[.int .i64 m.room, .int .i64 m.count, .slice h.bp h.bn h.bc, .slice p4 S.length c4, .slice ps S.length cs, .slice none 0 0]) ?_ rfl ?_
      · have e := HC6.out
        unfold put6 at e
        obtain ⟨e0, e1, e2, e3, e4, e5⟩ := e
        simp [results, Tryz.f20, go_sem, e0, e1, e2, e3, e4, e5]
      · have hL := HLA.out
        refine ⟨⟨h.bp, h.bn, h.bc, p4, S.length, c4, ps, S.length, cs, none, 0, 0⟩, by rw [hL], by rw [hL]; exact HR.out.out6 _ _ _ _ _ _, HB6.out⟩
end Go.Proofs.YtbijgbjlljaolaaGreatDoor
/- The reference's Good. -/
namespace Go.Proofs.YtbijgbjlljaolaaGreatDoor
open Go Go.RowKit

/-- What is known of a path when the bytes from place f to place i have been looked at, and all names ahead of f. -/
structure Gd7 (l : S8) (i f : Nat) : Prop where
  fi : f ≤ i
  il : i ≤ l.length
  all : allN l = allN (l.drop f)
  seg : ∀ j, f ≤ j → j < i → chr l j ≠ 47 ∧ signN (chr l j) = true
theorem Gd7.zero (l : S8) : Gd7 l 0 0 := ⟨Nat.le_refl _, Nat.zero_le _, by rw [List.drop_zero], fun j _ h => absurd h (by omega)⟩
section
variable {l : S8} {i f : Nat}
theorem mem_seg {x : UInt8} (hx : x ∈ (l.drop f).take (i - f)) (hi : i ≤ l.length) : ∃ j, f ≤ j ∧ j < i ∧ chr l j = x.toNat := by
  obtain ⟨k, hk, rfl⟩ := List.getElem_of_mem hx
  rw [List.length_take, List.length_drop] at hk
  refine ⟨f + k, by omega, by omega, ?_⟩
  rw [chr_eq (by omega)]
  simp [List.getElem_take, List.getElem_drop]
theorem Gd7.noSlash (h : Gd7 l i f) : ∀ c ∈ (l.drop f).take (i - f), c ≠ 47 := fun c hc e => by
  obtain ⟨j, h1, h2, h3⟩ := mem_seg hc h.il
  exact (h.seg j h1 h2).1 (by rw [h3, e]; rfl)
theorem Gd7.signs (h : Gd7 l i f) : ((l.drop f).take (i - f)).all signB = true := by
  rw [List.all_eq_true]
  intro c hc
  obtain ⟨j, h1, h2, h3⟩ := mem_seg hc h.il
  rw [signB_eq, ← h3]
  exact (h.seg j h1 h2).2
/-- A name of signs is told by its looks. -/
theorem okN_signs {n : S8} (h : n.all signB = true) : okN n = (n != [] && n != [46] && n != [46, 46]) := by unfold okN; rw [h, Bool.and_true]
theorem Gd7.step (h : Gd7 l i f) (hi : i < l.length) (h47 : chr l i ≠ 47) (hs : signN (chr l i) = true) : Gd7 l (i + 1) f :=
  ⟨Nat.le_succ_of_le h.fi, hi, h.all, fun j h1 h2 => by
    rcases Nat.lt_succ_iff_lt_or_eq.1 h2 with h3 | h3
    · exact h.seg j h1 h3
    · rw [h3]; exact ⟨h47, hs⟩⟩
theorem take_snoc (hi : i < l.length) (hf : f ≤ i) : (l.drop f).take (i + 1 - f) = (l.drop f).take (i - f) ++ [l[i]] := by
  rw [show i + 1 - f = (i - f) + 1 by omega, List.take_add_one]
  congr 1
  rw [List.getElem?_drop, show f + (i - f) = i by omega, List.getElem?_eq_getElem hi]
  rfl
theorem Gd7.bad (h : Gd7 l i f) (hi : i < l.length) (h47 : chr l i ≠ 47) (hs : signN (chr l i) = false) : allN l = false := by
  rw [h.all, ← List.take_append_drop (i + 1 - f) (l.drop f)]
  rw [take_snoc hi h.fi]
  refine allN_odd _ (fun c hc => ?_) l[i] (by simp) (by rw [signB_eq, ← chr_eq hi]; exact hs)
  rw [List.mem_append] at hc
  rcases hc with hc | hc
  · exact h.noSlash c hc
  · rw [List.mem_singleton] at hc
    subst hc
    intro e
    exact h47 (by rw [chr_eq hi, e]; rfl)
theorem Gd7.last (h : Gd7 l i f) (hi : i = l.length) : allN l = okN ((l.drop f).take (i - f)) := by
  have e : (l.drop f).take (i - f) = l.drop f := List.take_of_length_le (by rw [List.length_drop]; omega)
  have hn := h.noSlash
  rw [e] at hn ⊢
  rw [h.all, allN_end hn]
theorem Gd7.slash (h : Gd7 l i f) (hi : i < l.length) (h47 : chr l i = 47) : allN l = (okN ((l.drop f).take (i - f)) && allN (l.drop (i + 1))) := by
  have e : l.drop f = (l.drop f).take (i - f) ++ 47 :: l.drop (i + 1) := by
    have h1 := List.take_append_drop (i - f) (l.drop f)
    rw [List.drop_drop, show f + (i - f) = i by have := h.fi; omega, List.drop_eq_getElem_cons hi] at h1
    have h2 : l[i] = 47 := by
      rw [chr_eq hi] at h47
      exact UInt8.toNat_inj.1 h47
    rw [h2] at h1
    exact h1.symm
  rw [h.all, e, allN_more _ h.noSlash]
  rw [← e]
theorem Gd7.more (h : Gd7 l i f) (hi : i < l.length) (h47 : chr l i = 47) (ho : okN ((l.drop f).take (i - f)) = true) : Gd7 l (i + 1) (i + 1) :=
  ⟨Nat.le_refl _, hi, by rw [h.slash hi h47, ho, Bool.true_and], fun j h1 h2 => absurd h1 (by omega)⟩
end
set_option maxRecDepth 100000 in
set_option maxHeartbeats 2000000 in
theorem refGood_any (l : S8) (hl : l.length < 1000000) (w : World) : Calls Tryz.prog 35 #[.string (mkS l)] w fun e w' => e = .returned (.bool (goodL l)) ∧ w = w' := by
  by_cases h100 : 100 < l.length
  · have h1 : (100 : Int) < (l.length : Int) := by omega
    have h2 : decide ((100 : Int) < (l.length : Int)) = true := decide_eq_true h1
    have HS := Lib.hid (show goodL l = false from by unfold goodL; rw [decide_eq_false (by omega)]; rfl)
    go_enter Tryz.func35, Tryz.ntmps35
    go_wp2
    go_ret
    exact ⟨by rw [HS.out]; rfl, rfl⟩
  · have h1 : ¬ (100 : Int) < (l.length : Int) := by omega
    have h2 : decide ((100 : Int) < (l.length : Int)) = false := decide_eq_false h1
    have HG := Lib.hid (show goodL l = allN l from by unfold goodL; rw [decide_eq_true (by omega), Bool.true_and])
    have H100 := Lib.hid h100
    clear h100
    go_enter Tryz.func35, Tryz.ntmps35
    go_wp2
    go_loopw [3, 4, 5] (fun vf vi vo wr => ∃ i f : Nat, vi = .int .i64 i ∧ vf = .int .i64 f ∧ (Gd7 l i f ∨ (i = l.length + 1 ∧ allN l = true)) ∧ w = wr) (fun vf vi vo _ => l.length + 2 - (intOf vi).toNat)
    case atStart => exact ⟨0, 0, rfl, rfl, .inl (Gd7.zero l), rfl⟩
    case round =>
      obtain ⟨i, f, rfl, rfl, hD, rfl⟩ := hrel
      rcases hD with hD | ⟨hi, hT⟩
      · have hle : (i : Int) ≤ (l.length : Int) := by have := hD.il; omega
        have hld : decide ((i : Int) ≤ (l.length : Int)) = true := decide_eq_true hle
        have hw := i64s i (by omega)
        have hfi : (f : Int) ≤ (i : Int) := by have := hD.fi; omega
        have hfn := hD.fi
        have hin := hD.il
        have HD := Lib.hid hD
        obtain ⟨O, hO⟩ : ∃ O, (l.drop f).take (i - f) = O := ⟨_, rfl⟩
        have HSG := Lib.hid (okN_signs hD.signs)
        have hsl := fun w => sl_S l f i w hfn hin
        rw [hO] at HSG hsl
        clear hD
        by_cases hlt : i < l.length
        · have z1 : (i : Int) < (l.length : Int) := by omega
          have z2 : decide ((i : Int) < (l.length : Int)) = true := decide_eq_true z1
          obtain ⟨c, hc⟩ : ∃ c, chr l i = c := ⟨_, rfl⟩
          have hcl : c < 256 := by rw [← hc]; exact chr_lt l i
          by_cases h47 : c = 47
          · subst h47
            have HSL := Lib.hid (HD.out.slash hlt hc)
            have HMO := Lib.hid (HD.out.more hlt hc)
            rw [hO] at HSL HMO
            rcases (show O = [] ∨ O = [46] ∨ O = [46, 46] ∨ (O ≠ [] ∧ O ≠ [46] ∧ O ≠ [46, 46]) from by
              by_cases a : O = []
              · exact .inl a
              · by_cases b : O = [46]
                · exact .inr (.inl b)
                · by_cases d : O = [46, 46]
                  · exact .inr (.inr (.inl d))
                  · exact .inr (.inr (.inr ⟨a, b, d⟩))) with h | h | h | ⟨a, b, d⟩
            · subst h
              have HFA := Lib.hid (show allN l = false from by rw [HSL.out]; rfl)
              clear hO
              go_wp2
              go_ret
              exact ⟨by rw [HG.out, HFA.out]; rfl, rfl⟩
            · subst h
              have HFA := Lib.hid (show allN l = false from by rw [HSL.out]; rfl)
              clear hO
              go_wp2
              go_ret
              exact ⟨by rw [HG.out, HFA.out]; rfl, rfl⟩
            · subst h
              have HFA := Lib.hid (show allN l = false from by rw [HSL.out]; rfl)
              clear hO
              go_wp2
              go_ret
              exact ⟨by rw [HG.out, HFA.out]; rfl, rfl⟩
            · have a1 : (O == []) = false := beq_eq_false_iff_ne.2 a
              have b1 : (O == [46]) = false := beq_eq_false_iff_ne.2 b
              have d1 : (O == [46, 46]) = false := beq_eq_false_iff_ne.2 d
              have a2 : O.isEmpty = false := by cases O with | nil => exact absurd rfl a | cons _ _ => rfl
              have hok : okN O = true := by rw [HSG.out]; simp [a, b, d]
              have HM2 := Lib.hid (HMO.out hok)
              clear hO hok
              go_wp2
              exact ⟨⟨i + 1, i + 1, by go_num, by go_num, .inl HM2.out, trivial⟩, by simp [intOf]; omega⟩
          · have hz : ((c : Int) == 47) = false := by simp; omega
            have hz2 : ((c : Int) != 47) = true := by simp; omega
            have HSI := Lib.hid (refSign_any c hcl w)
            by_cases hs : signN c = true
            · have HST := Lib.hid (HD.out.step hlt (by rw [hc]; exact h47) (by rw [hc]; exact hs))
              rw [hs] at HSI
              clear hO hsl
              go_wp2_with fail
              refine HSI.out.mono ?_
              rintro e w' ⟨rfl, rfl⟩
              go_wp2
              exact ⟨⟨i + 1, f, by go_num, rfl, .inl HST.out, trivial⟩, by simp [intOf]; omega⟩
            · have hsf : signN c = false := by simpa using hs
              have HBA := Lib.hid (HD.out.bad hlt (by rw [hc]; exact h47) (by rw [hc]; exact hsf))
              rw [hsf] at HSI
              clear hO hsl
              go_wp2_with fail
              refine HSI.out.mono ?_
              rintro e w' ⟨rfl, rfl⟩
              go_wp2
              go_ret
              exact ⟨by rw [HG.out, HBA.out]; rfl, rfl⟩
        · obtain hie : i = l.length := by omega
          have z1 : ¬ (i : Int) < (l.length : Int) := by omega
          have z2 : decide ((i : Int) < (l.length : Int)) = false := decide_eq_false z1
          have HSL := Lib.hid (HD.out.last hie)
          rw [hO] at HSL
          have HIE := Lib.hid hie
          clear hie
          rcases (show O = [] ∨ O = [46] ∨ O = [46, 46] ∨ (O ≠ [] ∧ O ≠ [46] ∧ O ≠ [46, 46]) from by
            by_cases a : O = []
            · exact .inl a
            · by_cases b : O = [46]
              · exact .inr (.inl b)
              · by_cases d : O = [46, 46]
                · exact .inr (.inr (.inl d))
                · exact .inr (.inr (.inr ⟨a, b, d⟩))) with h | h | h | ⟨a, b, d⟩
          · subst h
            have HFA := Lib.hid (show allN l = false from by rw [HSL.out]; rfl)
            clear hO
            go_wp2
            go_ret
            exact ⟨by rw [HG.out, HFA.out]; rfl, rfl⟩
          · subst h
            have HFA := Lib.hid (show allN l = false from by rw [HSL.out]; rfl)
            clear hO
            go_wp2
            go_ret
            exact ⟨by rw [HG.out, HFA.out]; rfl, rfl⟩
          · subst h
            have HFA := Lib.hid (show allN l = false from by rw [HSL.out]; rfl)
            clear hO
            go_wp2
            go_ret
            exact ⟨by rw [HG.out, HFA.out]; rfl, rfl⟩
          · have a1 : (O == []) = false := beq_eq_false_iff_ne.2 a
            have b1 : (O == [46]) = false := beq_eq_false_iff_ne.2 b
            have d1 : (O == [46, 46]) = false := beq_eq_false_iff_ne.2 d
            have a2 : O.isEmpty = false := by cases O with | nil => exact absurd rfl a | cons _ _ => rfl
            have hok : okN O = true := by rw [HSG.out]; simp [a, b, d]
            have HT := Lib.hid (show allN l = true from by rw [HSL.out]; exact hok)
            clear hO hok
            go_wp2
            exact ⟨⟨i + 1, i + 1, by go_num, by go_num, .inr ⟨by rw [HIE.out], HT.out⟩, trivial⟩, by simp [intOf]; omega⟩
      · subst hi
        have z1 : ¬ ((l.length + 1 : Nat) : Int) ≤ (l.length : Int) := by omega
        have z2 : decide (((l.length + 1 : Nat) : Int) ≤ (l.length : Int)) = false := decide_eq_false z1
        have z3 : ¬ ((l.length : Int) + 1) ≤ (l.length : Int) := by omega
        have z4 : decide (((l.length : Int) + 1) ≤ (l.length : Int)) = false := decide_eq_false z3
        have HT := Lib.hid hT
        clear hT
        go_wp2
        go_ret
        exact ⟨by rw [HG.out, HT.out]; rfl, rfl⟩
end Go.Proofs.YtbijgbjlljaolaaGreatDoor
/- The reference's Rename. -/
namespace Go.Proofs.YtbijgbjlljaolaaGreatDoor
open Go Go.RowKit

set_option maxRecDepth 100000 in
set_option maxHeartbeats 4000000 in
theorem refRename_any (G : Nat → Prop) (m : Dk) (h : Hd) (p q : S8) (hp : p.length < 100000) (hq : q.length < 100000) (hsh : ShortF m.seen) (hn : h.sn < 90000) (hwn : h.wn < 90000) (w : World) (hG : ∀ k, w.heap.size ≤ k → G k) (r : RfG G w m h) :
    Calls Tryz.prog 16 #[aggD m h, .string (mkS p), .string (mkS q)] w fun e w' => DkPost G w (renameL m p q) e w' := by
  have hst := st2_start w m h
  have R2 := Lib.hid (r.into2 hst)
  have HFD := Lib.hid (refFind_any m.seen h.sp h.sn h.sc p (by omega) _ (r.into2 hst).seen.files)
  have HGD := Lib.hid (refGood_any q (by omega) ((w.alloc (boxD m h)).alloc (.cells zerD.toArray 31)))
  have HCL := Lib.hid (refClashes_any m.seen h.sp h.sn h.sc q p (by omega) hq hsh _ (r.into2 hst).seen.files)
  have hrm : (renameL m p q) = if (findL m.seen p).isNone then (m, 8) else if !goodL q then (m, 7) else if clashesL m.seen q p then (m, 9) else (changeL m ⟨2, p, { fl0 with p := q }⟩, 0) := rfl
  have HCH := Lib.hid (fun (hq : q.length ≤ 100) (u : World) (hs : w.heap.size + 2 ≤ u.heap.size) (ru : RfG (G2 G w.heap.size) u m h) => refChange_any (G2 G w.heap.size) m h ⟨2, p, { fl0 with p := q }⟩ ⟨.inr (.inl rfl), hq, hp⟩ hsh hn hwn u (fun k hk => ⟨hG k (by omega), by omega, by omega⟩) ru)
  obtain ⟨W, hW⟩ : ∃ W, ((w.alloc (boxD m h)).alloc (.cells zerD.toArray 31)) = W := ⟨_, rfl⟩
  have HE := Lib.hid (show ((w.alloc (.cells #[.int .i64 m.room, .int .i64 m.count, .slice h.bp h.bn h.bc, .slice h.sp h.sn h.sc, .slice h.fp h.fn h.fc, .slice h.wp h.wn h.wc] 31)).alloc (.cells #[.int .i64 0, .int .i64 0, .slice none 0 0, .slice none 0 0, .slice none 0 0, .slice none 0 0] 31)) = W from hW)
  rw [hW] at hst R2 HFD HCL HGD
  have d0 : W.cell? ⟨w.heap.size, 0, none⟩ = some (.int .i64 m.room) := hst.dsk 0
  have d1 : W.cell? ⟨w.heap.size, 1, none⟩ = some (.int .i64 m.count) := hst.dsk 1
  have d2 : W.cell? ⟨w.heap.size, 2, none⟩ = some (.slice h.bp h.bn h.bc) := hst.dsk 2
  have d3 : W.cell? ⟨w.heap.size, 3, none⟩ = some (.slice h.sp h.sn h.sc) := hst.dsk 3
  have d4 : W.cell? ⟨w.heap.size, 4, none⟩ = some (.slice h.fp h.fn h.fc) := hst.dsk 4
  have d5 : W.cell? ⟨w.heap.size, 5, none⟩ = some (.slice h.wp h.wn h.wc) := hst.dsk 5
  clear hsh hG r hW
  cases hf : findL m.seen p with
  | none =>
    rw [findI_none hf] at HFD
    rw [hf] at hrm
    rw [show renameL m p q = (m, 8) from hrm]
    have HC6 := Lib.hid (put6_cell (.int .i64 m.room) (.int .i64 m.count) (.slice h.bp h.bn h.bc) (.slice h.sp h.sn h.sc) (.slice h.fp h.fn h.fc) (.slice h.wp h.wn h.wc) hst.res)
    have HB6 := Lib.hid (put6_below (b := w.heap.size + 1) (.int .i64 m.room) (.int .i64 m.count) (.slice h.bp h.bn h.bc) (.slice h.sp h.sn h.sc) (.slice h.fp h.fn h.fc) (.slice h.wp h.wn h.wc) hst.bel (by omega))
    have r0 : W.cell? ⟨w.heap.size + 1, 0, none⟩ = some (.int .i64 0) := hst.res 0
    have r1 : W.cell? ⟨w.heap.size + 1, 1, none⟩ = some (.int .i64 0) := hst.res 1
    have r2 : W.cell? ⟨w.heap.size + 1, 2, none⟩ = some (.slice none 0 0) := hst.res 2
    have r3 : W.cell? ⟨w.heap.size + 1, 3, none⟩ = some (.slice none 0 0) := hst.res 3
    have r4 : W.cell? ⟨w.heap.size + 1, 4, none⟩ = some (.slice none 0 0) := hst.res 4
    have r5 : W.cell? ⟨w.heap.size + 1, 5, none⟩ = some (.slice none 0 0) := hst.res 5
    have zf0 := hst.rfree 0
    have zf1 := hst.rfree 1
    have zf2 := hst.rfree 2
    have zf3 := hst.rfree 3
    have zf4 := hst.rfree 4
    have zf5 := hst.rfree 5
    clear hf hrm hst HCH HGD HCL
    unfold aggD
    go_enter Tryz.func16, Tryz.ntmps16
    go_wp2_with fail
    rw [HE.out]
    refine HFD.out.mono ?_
    rintro e w' ⟨rfl, rfl⟩
    go_wp2
    refine bodyPost_ret (v := .tuple #[.agg #[.int .i64 m.room, .int .i64 m.count, .slice h.bp h.bn h.bc, .slice h.sp h.sn h.sc, .slice h.fp h.fn h.fc, .slice h.wp h.wn h.wc], .int .i64 8]) ?_ rfl ?_
    · have e := HC6.out
      unfold put6 at e
      obtain ⟨e0, e1, e2, e3, e4, e5⟩ := e
      simp [results, Tryz.f16, go_sem, e0, e1, e2, e3, e4, e5]
    · exact ⟨h, rfl, R2.out.out6 _ _ _ _ _ _, HB6.out⟩
  | some i =>
    rw [findI_some hf] at HFD
    rw [hf] at hrm
    replace hrm : renameL m p q = if !goodL q then (m, 7) else if clashesL m.seen q p then (m, 9) else (changeL m ⟨2, p, { fl0 with p := q }⟩, 0) := hrm
    have zi1 : ¬ ((i : Int) < 0) := by omega
    have zi2 : decide ((i : Int) < 0) = false := decide_eq_false zi1
    clear hf
    cases hgd : goodL q with
    | false =>
      rw [hgd] at hrm HGD
      rw [show renameL m p q = (m, 7) from hrm]
      have HC6 := Lib.hid (put6_cell (.int .i64 m.room) (.int .i64 m.count) (.slice h.bp h.bn h.bc) (.slice h.sp h.sn h.sc) (.slice h.fp h.fn h.fc) (.slice h.wp h.wn h.wc) hst.res)
      have HB6 := Lib.hid (put6_below (b := w.heap.size + 1) (.int .i64 m.room) (.int .i64 m.count) (.slice h.bp h.bn h.bc) (.slice h.sp h.sn h.sc) (.slice h.fp h.fn h.fc) (.slice h.wp h.wn h.wc) hst.bel (by omega))
      have r0 : W.cell? ⟨w.heap.size + 1, 0, none⟩ = some (.int .i64 0) := hst.res 0
      have r1 : W.cell? ⟨w.heap.size + 1, 1, none⟩ = some (.int .i64 0) := hst.res 1
      have r2 : W.cell? ⟨w.heap.size + 1, 2, none⟩ = some (.slice none 0 0) := hst.res 2
      have r3 : W.cell? ⟨w.heap.size + 1, 3, none⟩ = some (.slice none 0 0) := hst.res 3
      have r4 : W.cell? ⟨w.heap.size + 1, 4, none⟩ = some (.slice none 0 0) := hst.res 4
      have r5 : W.cell? ⟨w.heap.size + 1, 5, none⟩ = some (.slice none 0 0) := hst.res 5
      have zf0 := hst.rfree 0
      have zf1 := hst.rfree 1
      have zf2 := hst.rfree 2
      have zf3 := hst.rfree 3
      have zf4 := hst.rfree 4
      have zf5 := hst.rfree 5
      clear hgd hrm hst HCH HCL
      unfold aggD
      go_enter Tryz.func16, Tryz.ntmps16
      go_wp2_with fail
      rw [HE.out]
      refine HFD.out.mono ?_
      rintro e w' ⟨rfl, rfl⟩
      go_wp2_with fail
      refine HGD.out.mono ?_
      rintro e w' ⟨rfl, rfl⟩
      go_wp2
      refine bodyPost_ret (v := .tuple #[.agg #[.int .i64 m.room, .int .i64 m.count, .slice h.bp h.bn h.bc, .slice h.sp h.sn h.sc, .slice h.fp h.fn h.fc, .slice h.wp h.wn h.wc], .int .i64 7]) ?_ rfl ?_
      · have e := HC6.out
        unfold put6 at e
        obtain ⟨e0, e1, e2, e3, e4, e5⟩ := e
        simp [results, Tryz.f16, go_sem, e0, e1, e2, e3, e4, e5]
      · exact ⟨h, rfl, R2.out.out6 _ _ _ _ _ _, HB6.out⟩
    | true =>
      rw [hgd] at hrm HGD
      replace hrm : renameL m p q = if clashesL m.seen q p then (m, 9) else (changeL m ⟨2, p, { fl0 with p := q }⟩, 0) := hrm
      replace HCH := HCH.out (goodL_len hgd)
      clear hgd
      cases hcl : clashesL m.seen q p with
      | true =>
        rw [hcl] at hrm HCL
        rw [show renameL m p q = (m, 9) from hrm]
        have HC6 := Lib.hid (put6_cell (.int .i64 m.room) (.int .i64 m.count) (.slice h.bp h.bn h.bc) (.slice h.sp h.sn h.sc) (.slice h.fp h.fn h.fc) (.slice h.wp h.wn h.wc) hst.res)
        have HB6 := Lib.hid (put6_below (b := w.heap.size + 1) (.int .i64 m.room) (.int .i64 m.count) (.slice h.bp h.bn h.bc) (.slice h.sp h.sn h.sc) (.slice h.fp h.fn h.fc) (.slice h.wp h.wn h.wc) hst.bel (by omega))
        have r0 : W.cell? ⟨w.heap.size + 1, 0, none⟩ = some (.int .i64 0) := hst.res 0
        have r1 : W.cell? ⟨w.heap.size + 1, 1, none⟩ = some (.int .i64 0) := hst.res 1
        have r2 : W.cell? ⟨w.heap.size + 1, 2, none⟩ = some (.slice none 0 0) := hst.res 2
        have r3 : W.cell? ⟨w.heap.size + 1, 3, none⟩ = some (.slice none 0 0) := hst.res 3
        have r4 : W.cell? ⟨w.heap.size + 1, 4, none⟩ = some (.slice none 0 0) := hst.res 4
        have r5 : W.cell? ⟨w.heap.size + 1, 5, none⟩ = some (.slice none 0 0) := hst.res 5
        have zf0 := hst.rfree 0
        have zf1 := hst.rfree 1
        have zf2 := hst.rfree 2
        have zf3 := hst.rfree 3
        have zf4 := hst.rfree 4
        have zf5 := hst.rfree 5
        clear hcl hrm hst HCH
        unfold aggD
        go_enter Tryz.func16, Tryz.ntmps16
        go_wp2_with fail
        rw [HE.out]
        refine HFD.out.mono ?_
        rintro e w' ⟨rfl, rfl⟩
        go_wp2_with fail
        refine HGD.out.mono ?_
        rintro e w' ⟨rfl, rfl⟩
        go_wp2_with fail
        refine HCL.out.mono ?_
        rintro e w' ⟨rfl, rfl⟩
        go_wp2
        refine bodyPost_ret (v := .tuple #[.agg #[.int .i64 m.room, .int .i64 m.count, .slice h.bp h.bn h.bc, .slice h.sp h.sn h.sc, .slice h.fp h.fn h.fc, .slice h.wp h.wn h.wc], .int .i64 9]) ?_ rfl ?_
        · have e := HC6.out
          unfold put6 at e
          obtain ⟨e0, e1, e2, e3, e4, e5⟩ := e
          simp [results, Tryz.f16, go_sem, e0, e1, e2, e3, e4, e5]
        · exact ⟨h, rfl, R2.out.out6 _ _ _ _ _ _, HB6.out⟩
      | false =>
        rw [hcl] at hrm HCL
        rw [show renameL m p q = (changeL m ⟨2, p, { fl0 with p := q }⟩, 0) from hrm]
        have HC := Lib.hid (HCH W hst.size R2.out)
        generalize changeL m ⟨2, p, { fl0 with p := q }⟩ = m2 at *
        have HST := Lib.hid hst
        unfold aggD aggC fl0 at HC
        dsimp only at HC
        rw [show ((2 : Nat) : Int) = 2 from rfl, show ((0 : Nat) : Int) = 0 from rfl] at HC
        clear hcl hrm hst HCH
        unfold aggD
        go_enter Tryz.func16, Tryz.ntmps16
        go_wp2_with fail
        rw [HE.out]
        refine HFD.out.mono ?_
        rintro e w' ⟨rfl, rfl⟩
        go_wp2_with fail
        refine HGD.out.mono ?_
        rintro e w' ⟨rfl, rfl⟩
        go_wp2_with fail
        refine HCL.out.mono ?_
        rintro e w' ⟨rfl, rfl⟩
        go_wp2_with fail
        with_reducible refine HC.out.mono ?_
        rintro e w' ⟨h', rfl, hR, hB⟩
        obtain ⟨s0, s1, s2, s3, s4, s5⟩ := m2
        obtain ⟨b1, b2, b3, b4, b5, b6, b7, b8, b9, b10, b11, b12⟩ := h'
        have hst := HST.out.next hB
        have HR := Lib.hid hR
        dsimp only
        have HC6 := Lib.hid (put6_cell (.int .i64 s0) (.int .i64 s1) (.slice b1 b2 b3) (.slice b4 b5 b6) (.slice b7 b8 b9) (.slice b10 b11 b12) hst.res)
        have HB6 := Lib.hid (put6_below (b := w.heap.size + 1) (.int .i64 s0) (.int .i64 s1) (.slice b1 b2 b3) (.slice b4 b5 b6) (.slice b7 b8 b9) (.slice b10 b11 b12) hst.bel (by omega))
        have r0 : w'.cell? ⟨w.heap.size + 1, 0, none⟩ = some (.int .i64 0) := hst.res 0
        have r1 : w'.cell? ⟨w.heap.size + 1, 1, none⟩ = some (.int .i64 0) := hst.res 1
        have r2 : w'.cell? ⟨w.heap.size + 1, 2, none⟩ = some (.slice none 0 0) := hst.res 2
        have r3 : w'.cell? ⟨w.heap.size + 1, 3, none⟩ = some (.slice none 0 0) := hst.res 3
        have r4 : w'.cell? ⟨w.heap.size + 1, 4, none⟩ = some (.slice none 0 0) := hst.res 4
        have r5 : w'.cell? ⟨w.heap.size + 1, 5, none⟩ = some (.slice none 0 0) := hst.res 5
        have zf0 := hst.rfree 0
        have zf1 := hst.rfree 1
        have zf2 := hst.rfree 2
        have zf3 := hst.rfree 3
        have zf4 := hst.rfree 4
        have zf5 := hst.rfree 5
        clear hR hB hst
        go_wp2
        refine bodyPost_ret (v := .tuple #[.agg #[.int .i64 s0, .int .i64 s1, .slice b1 b2 b3, .slice b4 b5 b6, .slice b7 b8 b9, .slice b10 b11 b12], .int .i64 0]) ?_ rfl ?_
        · have e := HC6.out
          unfold put6 at e
          obtain ⟨e0, e1, e2, e3, e4, e5⟩ := e
          simp [results, Tryz.f16, go_sem, e0, e1, e2, e3, e4, e5]
        · exact ⟨⟨b1, b2, b3, b4, b5, b6, b7, b8, b9, b10, b11, b12⟩, rfl, HR.out.out6 _ _ _ _ _ _, HB6.out⟩
end Go.Proofs.YtbijgbjlljaolaaGreatDoor
