/- The reference's Remove, Sync. -/
import Derived.Test.YtjglgohchhdkkaaGreatDoorRefg8
import Derived.Test.YtjglgohchhdkkaaGreatDoorRefh8
set_option linter.unusedSimpArgs false
set_option linter.unusedVariables false
namespace Go.Proofs.YtjglgohchhdkkaaGreatDoor
open Go Go.RowKit

/-- Two boxes behind w: a disk's cells, and a result's. -/
structure St2 (w : World) (dv : List Value) (u : World) : Prop where
  bel : Below w.heap.size w u
  size : w.heap.size + 2 ≤ u.heap.size
  dsk : ∀ j, u.cell? ⟨w.heap.size, j, none⟩ = dv[j]?
  free : ∀ j, u.frozen? ⟨w.heap.size, j, none⟩ = false
  res : ∀ j, u.cell? ⟨w.heap.size + 1, j, none⟩ = zerD[j]?
  rfree : ∀ j, u.frozen? ⟨w.heap.size + 1, j, none⟩ = false
section
variable {w u u' : World} {dv : List Value}
theorem St2.next (h : St2 w dv u) (hB : Below u.heap.size u u') : St2 w dv u' := by
  have hs := h.size
  have lt0 : ∀ j, (⟨w.heap.size, j, none⟩ : Addr).block < u.heap.size := fun j => by show w.heap.size < _; omega
  have lt1 : ∀ j, (⟨w.heap.size + 1, j, none⟩ : Addr).block < u.heap.size := fun j => by show w.heap.size + 1 < _; omega
  exact ⟨h.bel.trans (hB.mono h.bel.size), Nat.le_trans hs hB.size, fun j => by rw [hB.cell (lt0 j)]; exact h.dsk j, fun j => by rw [hB.frozen (lt0 j)]; exact h.free j, fun j => by rw [hB.cell (lt1 j)]; exact h.res j, fun j => by rw [hB.frozen (lt1 j)]; exact h.rfree j⟩
theorem St2.alloc (h : St2 w dv u) (o : Obj) : St2 w dv (u.alloc o) := h.next ((Below.refl _ _).alloc (Nat.le_refl _) _)
theorem St2.drew (h : St2 w dv u) : St2 w dv u.drew := ⟨h.bel.drew, h.size, h.dsk, h.free, h.res, h.rfree⟩
theorem St2.set (h : St2 w dv u) (j : Nat) (hj : j < dv.length) (v : Value) : St2 w (dv.set j v) (u.setCell ⟨w.heap.size, j, none⟩ v) := by
  refine ⟨h.bel.setCell (p := ⟨w.heap.size, j, none⟩) (by simp) v, ?_, fun i => ?_, fun i => ?_, fun i => ?_, fun i => ?_⟩
  · exact Nat.le_trans h.size (KeepsOthers.setCell u ⟨w.heap.size, j, none⟩ v).size
  · by_cases e : i = j
    · subst e
      rw [World.cell?_setCell_same' _ _ _ (by rw [h.dsk i, List.getElem?_eq_getElem hj]; rfl), List.getElem?_set_self hj]
    · rw [World.cell?_setCell_other _ _ _ _ (by intro ee; injection ee with _ e2; exact e e2.symm), h.dsk i, List.getElem?_set_ne (fun ee => e ee.symm)]
  · rw [World.frozen?_setCell]; exact h.free i
  · rw [World.cell?_setCell_other _ _ _ _ (by intro ee; injection ee with e1 _; omega)]; exact h.res i
  · rw [World.frozen?_setCell]; exact h.rfree i
end
theorem st2_start (w : World) (m : Dk) (h : Hd) : St2 w (lisD m h) ((w.alloc (boxD m h)).alloc (.cells zerD.toArray 31)) := by
  have b1 : Below w.heap.size w (w.alloc (boxD m h)) := (Below.refl _ _).alloc (Nat.le_refl _) _
  have k0 := fun j => boxD_cell w m h j
  have hh := World.alloc_heap_new w (boxD m h)
  have hh2 := World.alloc_heap_new (w.alloc (boxD m h)) (.cells zerD.toArray 31)
  have B1 : Below (w.alloc (boxD m h)).heap.size (w.alloc (boxD m h)) ((w.alloc (boxD m h)).alloc (.cells zerD.toArray 31)) := (Below.refl _ _).alloc (Nat.le_refl _) _
  simp only [World.size_alloc] at hh2 B1
  have frz : ∀ (W : World) (b j : Nat) (cs : Array Value) (t : TypeId), W.heap[b]? = some (.cells cs t (0, 0)) → W.frozen? ⟨b, j, none⟩ = false := fun W b j cs t e => by
    unfold World.frozen?
    simp [e]
  refine ⟨b1.trans (B1.mono (by omega)), by simp, fun j => ?_, fun j => ?_, fun j => ?_, fun j => ?_⟩
  · rw [B1.cell (p := ⟨w.heap.size, j, none⟩) (by show w.heap.size < _; omega)]
    exact k0 j
  · rw [B1.frozen (p := ⟨w.heap.size, j, none⟩) (by show w.heap.size < _; omega)]
    exact frz _ _ _ _ _ hh
  · rw [cell_of_row _ (w.heap.size + 1) j _ _ (0, 0) hh2]
    simp
  · exact frz _ _ _ _ _ hh2
/-- Blocks that are neither box. -/
def G2 (G : Nat → Prop) (s : Nat) (k : Nat) : Prop := G k ∧ k ≠ s ∧ k ≠ s + 1
theorem put6_size (u : World) (b : Nat) (v0 v1 v2 v3 v4 v5 : Value) : u.heap.size ≤ (put6 u b v0 v1 v2 v3 v4 v5).heap.size := by
  have k := fun (W : World) (j : Nat) (v : Value) => (KeepsOthers.setCell W ⟨b, j, none⟩ v).size
  unfold put6
  exact Nat.le_trans (k _ 0 v0) (Nat.le_trans (k _ 1 v1) (Nat.le_trans (k _ 2 v2) (Nat.le_trans (k _ 3 v3) (Nat.le_trans (k _ 4 v4) (k _ 5 v5)))))
section
variable {G : Nat → Prop} {w u u' : World} {m : Dk} {h : Hd} {dv : List Value}
theorem RfG.into2 (r : RfG G w m h) (s : St2 w dv u) : RfG (G2 G w.heap.size) u m h :=
  (r.wider (G' := G2 G w.heap.size) fun c hc hl => ⟨hc, by omega, by omega⟩).of_below s.bel
/-- A disk that a call gave, in the result's box. -/
theorem RfG.out6 (r : RfG (G2 G w.heap.size) u m h) (v0 v1 v2 v3 v4 v5 : Value) : RfG G (put6 u (w.heap.size + 1) v0 v1 v2 v3 v4 v5) m h :=
  (r.keep (w' := put6 u (w.heap.size + 1) v0 v1 v2 v3 v4 v5) (fun c hc _ => put6_heap _ _ _ _ _ _ _ _ hc.2.2) (put6_size _ _ _ _ _ _ _ _)).wider fun c hc _ => hc.1
end
theorem findI_none {l : List Fl} {p : S8} (h : findL l p = none) : findI l p = -1 := by unfold findI; rw [h]
theorem findI_some {l : List Fl} {p : S8} {i : Nat} (h : findL l p = some i) : findI l p = (i : Int) := by unfold findI; rw [h]
theorem mk0 : mkS [] = ⟨#[]⟩ := (mkS_lit []).symm
/-- What a call that gives a disk and a number has done. -/
def DkPost (G : Nat → Prop) (w : World) (x : Dk × Nat) (e : Ending) (w' : World) : Prop :=
  ∃ h', e = .returned (.tuple #[aggD x.1 h', .int .i64 (x.2 : Int)]) ∧ RfG G w' x.1 h' ∧ Below w.heap.size w w'
set_option maxRecDepth 100000 in
set_option maxHeartbeats 4000000 in
theorem refRemove_any (G : Nat → Prop) (m : Dk) (h : Hd) (p : S8) (hp : p.length < 100000) (hsh : ShortF m.seen) (hn : h.sn < 90000) (hwn : h.wn < 90000) (w : World) (hG : ∀ k, w.heap.size ≤ k → G k) (r : RfG G w m h) :
    Calls Tryz.prog 18 #[aggD m h, .string (mkS p)] w fun e w' => DkPost G w (removeL m p) e w' := by
  have hst := st2_start w m h
  have R2 := Lib.hid (r.into2 hst)
  have HFD := Lib.hid (refFind_any m.seen h.sp h.sn h.sc p (by omega) _ (r.into2 hst).seen.files)
  have HCH := Lib.hid (fun (u : World) (hs : w.heap.size + 2 ≤ u.heap.size) (ru : RfG (G2 G w.heap.size) u m h) => refChange_any (G2 G w.heap.size) m h ⟨3, p, fl0⟩ ⟨.inr (.inr rfl), Nat.zero_le _, hp⟩ hsh hn hwn u (fun k hk => ⟨hG k (by omega), by omega, by omega⟩) ru)
  have hrm : (removeL m p) = if (findL m.seen p).isNone then (m, 8) else (changeL m ⟨3, p, fl0⟩, 0) := rfl
  obtain ⟨W, hW⟩ : ∃ W, ((w.alloc (boxD m h)).alloc (.cells zerD.toArray 31)) = W := ⟨_, rfl⟩
  have HE := Lib.hid (show ((w.alloc (.cells #[.int .i64 m.room, .int .i64 m.count, .slice h.bp h.bn h.bc, .slice h.sp h.sn h.sc, .slice h.fp h.fn h.fc, .slice h.wp h.wn h.wc] 31)).alloc (.cells #[.int .i64 0, .int .i64 0, .slice none 0 0, .slice none 0 0, .slice none 0 0, .slice none 0 0] 31)) = W from hW)
  rw [hW] at hst R2 HFD
  have d0 : W.cell? ⟨w.heap.size, 0, none⟩ = some (.int .i64 m.room) := hst.dsk 0
  have d1 : W.cell? ⟨w.heap.size, 1, none⟩ = some (.int .i64 m.count) := hst.dsk 1
  have d2 : W.cell? ⟨w.heap.size, 2, none⟩ = some (.slice h.bp h.bn h.bc) := hst.dsk 2
  have d3 : W.cell? ⟨w.heap.size, 3, none⟩ = some (.slice h.sp h.sn h.sc) := hst.dsk 3
  have d4 : W.cell? ⟨w.heap.size, 4, none⟩ = some (.slice h.fp h.fn h.fc) := hst.dsk 4
  have d5 : W.cell? ⟨w.heap.size, 5, none⟩ = some (.slice h.wp h.wn h.wc) := hst.dsk 5
  cases hf : findL m.seen p with
  | none =>
    rw [findI_none hf] at HFD
    rw [hf] at hrm
    rw [show removeL m p = (m, 8) from hrm]
    have HC6 := Lib.hid (put6_cell (.int .i64 m.room) (.int .i64 m.count) (.slice h.bp h.bn h.bc) (.slice h.sp h.sn h.sc) (.slice h.fp h.fn h.fc) (.slice h.wp h.wn h.wc) hst.res)
    have HB6 := Lib.hid (put6_below (b := w.heap.size + 1) (.int .i64 m.room) (.int .i64 m.count) (.slice h.bp h.bn h.bc) (.slice h.sp h.sn h.sc) (.slice h.fp h.fn h.fc) (.slice h.wp h.wn h.wc) hst.bel (by omega))
    have r0 : W.cell? ⟨w.heap.size + 1, 0, none⟩ = some (.int .i64 0) := hst.res 0
    have r1 : W.cell? ⟨w.heap.size + 1, 1, none⟩ = some (.int .i64 0) := hst.res 1
    have r2 : W.cell? ⟨w.heap.size + 1, 2, none⟩ = some (.slice none 0 0) := hst.res 2
    have r3 : W.cell? ⟨w.heap.size + 1, 3, none⟩ = some (.slice none 0 0) := hst.res 3
    have r4 : W.cell? ⟨w.heap.size + 1, 4, none⟩ = some (.slice none 0 0) := hst.res 4
    have r5 : W.cell? ⟨w.heap.size + 1, 5, none⟩ = some (.slice none 0 0) := hst.res 5
    have z0 := hst.rfree 0
    have z1 := hst.rfree 1
    have z2 := hst.rfree 2
    have z3 := hst.rfree 3
    have z4 := hst.rfree 4
    have z5 := hst.rfree 5
    unfold aggD
    clear hf hrm hsh hG hW r hst HCH
    go_enter Tryz.func18, Tryz.ntmps18
    go_wp2_with fail
    rw [HE.out]
    refine HFD.out.mono ?_
    rintro e w' ⟨rfl, rfl⟩
    go_wp2
    refine bodyPost_ret (v := .tuple #[.agg #[.int .i64 m.room, .int .i64 m.count, .slice h.bp h.bn h.bc, .slice h.sp h.sn h.sc, .slice h.fp h.fn h.fc, .slice h.wp h.wn h.wc], .int .i64 8]) ?_ rfl ?_
    · have e := HC6.out
      unfold put6 at e
      obtain ⟨e0, e1, e2, e3, e4, e5⟩ := e
      simp [results, Tryz.f18, go_sem, e0, e1, e2, e3, e4, e5]
    · exact ⟨h, rfl, R2.out.out6 _ _ _ _ _ _, HB6.out⟩
  | some i =>
    rw [findI_some hf] at HFD
    rw [hf] at hrm
    rw [show removeL m p = (changeL m ⟨3, p, fl0⟩, 0) from hrm]
    have HC := Lib.hid (HCH.out W hst.size R2.out)
    generalize changeL m ⟨3, p, fl0⟩ = m2 at *
    have HST := Lib.hid hst
    unfold aggD aggC fl0 at HC
    dsimp only at HC
    rw [mk0, show ((3 : Nat) : Int) = 3 from rfl, show ((0 : Nat) : Int) = 0 from rfl] at HC
    have z1 : ¬ ((i : Int) < 0) := by omega
    have z2 : decide ((i : Int) < 0) = false := decide_eq_false z1
    unfold aggD
    clear hf hrm hsh hG hW r hst HCH
    go_enter Tryz.func18, Tryz.ntmps18
    go_wp2_with fail
    rw [HE.out]
    refine HFD.out.mono ?_
    rintro e w' ⟨rfl, rfl⟩
    go_wp2_with fail
    with_reducible refine HC.out.mono ?_
    rintro e w' ⟨h', rfl, hR, hB⟩
    obtain ⟨s0, s1, s2, s3, s4, s5⟩ := m2
    obtain ⟨b1, b2, b3, b4, b5, b6, b7, b8, b9, b10, b11, b12⟩ := h'
    have hst := HST.out.next hB
    have HR := Lib.hid hR
    dsimp only
    have HC6 := Lib.hid (put6_cell (.int .i64 s0) (.int .i64 s1) (.slice b1 b2 b3) (.slice b4 b5 b6) (.slice b7 b8 b9) (.slice b10 b11 b12) hst.res)
    have HB6 := Lib.hid (put6_below (b := w.heap.size + 1) (.int .i64 s0) (.int .i64 s1) (.slice b1 b2 b3) (.slice b4 b5 b6) (.slice b7 b8 b9) (.slice b10 b11 b12) hst.bel (by omega))
    have r0 : w'.cell? ⟨w.heap.size + 1, 0, none⟩ = some (.int .i64 0) := hst.res 0
    have r1 : w'.cell? ⟨w.heap.size + 1, 1, none⟩ = some (.int .i64 0) := hst.res 1
    have r2 : w'.cell? ⟨w.heap.size + 1, 2, none⟩ = some (.slice none 0 0) := hst.res 2
    have r3 : w'.cell? ⟨w.heap.size + 1, 3, none⟩ = some (.slice none 0 0) := hst.res 3
    have r4 : w'.cell? ⟨w.heap.size + 1, 4, none⟩ = some (.slice none 0 0) := hst.res 4
    have r5 : w'.cell? ⟨w.heap.size + 1, 5, none⟩ = some (.slice none 0 0) := hst.res 5
    have z0 := hst.rfree 0
    have z1 := hst.rfree 1
    have z2 := hst.rfree 2
    have z3 := hst.rfree 3
    have z4 := hst.rfree 4
    have z5 := hst.rfree 5
    clear hR hB hst
    go_wp2
    refine bodyPost_ret (v := .tuple #[.agg #[.int .i64 s0, .int .i64 s1, .slice b1 b2 b3, .slice b4 b5 b6, .slice b7 b8 b9, .slice b10 b11 b12], .int .i64 0]) ?_ rfl ?_
    · have e := HC6.out
      unfold put6 at e
      obtain ⟨e0, e1, e2, e3, e4, e5⟩ := e
      simp [results, Tryz.f18, go_sem, e0, e1, e2, e3, e4, e5]
    · exact ⟨⟨b1, b2, b3, b4, b5, b6, b7, b8, b9, b10, b11, b12⟩, rfl, HR.out.out6 _ _ _ _ _ _, HB6.out⟩
end Go.Proofs.YtjglgohchhdkkaaGreatDoor
