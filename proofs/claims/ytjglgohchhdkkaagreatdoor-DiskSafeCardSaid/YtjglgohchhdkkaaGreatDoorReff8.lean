/- The reference's change: a change that is seen, and waits. -/
import Derived.Test.YtjglgohchhdkkaaGreatDoorRefe8
import Derived.RangeFuncOwn
set_option linter.unusedSimpArgs false
set_option linter.unusedVariables false
namespace Go.Proofs.YtjglgohchhdkkaaGreatDoor
open Go Go.RowKit

theorem boxD_cell (w : World) (m : Dk) (h : Hd) (j : Nat) : (w.alloc (boxD m h)).cell? ⟨w.heap.size, j, none⟩ = ([.int .i64 m.room, .int .i64 m.count, .slice h.bp h.bn h.bc, .slice h.sp h.sn h.sc, .slice h.fp h.fn h.fc, .slice h.wp h.wn h.wc] : List Value)[j]? := by
  have hh := World.alloc_heap_new w (boxD m h)
  unfold boxD at *
  rw [cell_of_row _ w.heap.size j _ _ (0, 0) hh]
  simp
def zerD : List Value := [.int .i64 0, .int .i64 0, .slice none 0 0, .slice none 0 0, .slice none 0 0, .slice none 0 0]
def lisD (m : Dk) (h : Hd) : List Value := [.int .i64 m.room, .int .i64 m.count, .slice h.bp h.bn h.bc, .slice h.sp h.sn h.sc, .slice h.fp h.fn h.fc, .slice h.wp h.wn h.wc]
/-- Three boxes behind w: a disk's cells, a change, a result's. -/
structure St9 (w : World) (dv : List Value) (c : Ch) (u : World) : Prop where
  bel : Below w.heap.size w u
  size : w.heap.size + 3 ≤ u.heap.size
  dsk : ∀ j, u.cell? ⟨w.heap.size, j, none⟩ = dv[j]?
  free : ∀ j, u.frozen? ⟨w.heap.size, j, none⟩ = false
  chg : ∀ j, u.cell? ⟨w.heap.size + 1, j, none⟩ = (encC c)[j]?
  res : ∀ j, u.cell? ⟨w.heap.size + 1 + 1, j, none⟩ = zerD[j]?
  rfree : ∀ j, u.frozen? ⟨w.heap.size + 1 + 1, j, none⟩ = false
section
variable {w u u' : World} {dv : List Value} {c : Ch}
theorem St9.next (h : St9 w dv c u) (hB : Below u.heap.size u u') : St9 w dv c u' := by
  have hs := h.size
  have lt0 : ∀ j, (⟨w.heap.size, j, none⟩ : Addr).block < u.heap.size := fun j => by show w.heap.size < _; omega
  have lt1 : ∀ j, (⟨w.heap.size + 1, j, none⟩ : Addr).block < u.heap.size := fun j => by show w.heap.size + 1 < _; omega
  have lt2 : ∀ j, (⟨w.heap.size + 1 + 1, j, none⟩ : Addr).block < u.heap.size := fun j => by show w.heap.size + 1 + 1 < _; omega
  exact ⟨h.bel.trans (hB.mono h.bel.size), Nat.le_trans hs hB.size, fun j => by rw [hB.cell (lt0 j)]; exact h.dsk j, fun j => by rw [hB.frozen (lt0 j)]; exact h.free j, fun j => by rw [hB.cell (lt1 j)]; exact h.chg j,
    fun j => by rw [hB.cell (lt2 j)]; exact h.res j, fun j => by rw [hB.frozen (lt2 j)]; exact h.rfree j⟩
theorem St9.alloc (h : St9 w dv c u) (o : Obj) : St9 w dv c (u.alloc o) := h.next ((Below.refl _ _).alloc (Nat.le_refl _) _)
theorem St9.drew (h : St9 w dv c u) : St9 w dv c u.drew := ⟨h.bel.drew, h.size, h.dsk, h.free, h.chg, h.res, h.rfree⟩
theorem St9.set (h : St9 w dv c u) (j : Nat) (hj : j < dv.length) (v : Value) : St9 w (dv.set j v) c (u.setCell ⟨w.heap.size, j, none⟩ v) := by
  refine ⟨h.bel.setCell (p := ⟨w.heap.size, j, none⟩) (by simp) v, ?_, fun i => ?_, fun i => ?_, fun i => ?_, fun i => ?_, fun i => ?_⟩
  · exact Nat.le_trans h.size (KeepsOthers.setCell u ⟨w.heap.size, j, none⟩ v).size
  · by_cases e : i = j
    · subst e
      rw [World.cell?_setCell_same' _ _ _ (by rw [h.dsk i, List.getElem?_eq_getElem hj]; rfl), List.getElem?_set_self hj]
    · rw [World.cell?_setCell_other _ _ _ _ (by intro ee; injection ee with _ e2; exact e e2.symm), h.dsk i, List.getElem?_set_ne (fun ee => e ee.symm)]
  · rw [World.frozen?_setCell]; exact h.free i
  · rw [World.cell?_setCell_other _ _ _ _ (by intro ee; injection ee with e1 _; omega)]; exact h.chg i
  · rw [World.cell?_setCell_other _ _ _ _ (by intro ee; injection ee with e1 _; omega)]; exact h.res i
  · rw [World.frozen?_setCell]; exact h.rfree i
end
theorem st9_start (w : World) (m : Dk) (h : Hd) (c : Ch) : St9 w (lisD m h) c (((w.alloc (boxD m h)).alloc (boxC c.kind c.src c.file)).alloc (.cells zerD.toArray 31)) := by
  have b1 : Below w.heap.size w (w.alloc (boxD m h)) := (Below.refl _ _).alloc (Nat.le_refl _) _
  have k0 := fun j => boxD_cell w m h j
  have hh := World.alloc_heap_new w (boxD m h)
  have k1 := fun j => boxC_cell (w.alloc (boxD m h)) c.kind c.src c.file j
  have hh1 := World.alloc_heap_new (w.alloc (boxD m h)) (boxC c.kind c.src c.file)
  have hh2 := World.alloc_heap_new ((w.alloc (boxD m h)).alloc (boxC c.kind c.src c.file)) (.cells zerD.toArray 31)
  have B1 : Below (w.alloc (boxD m h)).heap.size (w.alloc (boxD m h)) ((w.alloc (boxD m h)).alloc (boxC c.kind c.src c.file)) := (Below.refl _ _).alloc (Nat.le_refl _) _
  have B2 : Below ((w.alloc (boxD m h)).alloc (boxC c.kind c.src c.file)).heap.size ((w.alloc (boxD m h)).alloc (boxC c.kind c.src c.file)) (((w.alloc (boxD m h)).alloc (boxC c.kind c.src c.file)).alloc (.cells zerD.toArray 31)) := (Below.refl _ _).alloc (Nat.le_refl _) _
  simp only [World.size_alloc] at k1 hh1 hh2 B1 B2
  have frz : ∀ (W : World) (b j : Nat) (cs : Array Value) (t : TypeId), W.heap[b]? = some (.cells cs t (0, 0)) → W.frozen? ⟨b, j, none⟩ = false := fun W b j cs t e => by
    unfold World.frozen?
    simp [e]
  refine ⟨b1.trans ((B1.mono (by omega)).trans (B2.mono (by omega))), by simp, fun j => ?_, fun j => ?_, fun j => ?_, fun j => ?_, fun j => ?_⟩
  · rw [B2.cell (p := ⟨w.heap.size, j, none⟩) (by show w.heap.size < _; omega), B1.cell (p := ⟨w.heap.size, j, none⟩) (by show w.heap.size < _; omega)]
    exact k0 j
  · rw [B2.frozen (p := ⟨w.heap.size, j, none⟩) (by show w.heap.size < _; omega), B1.frozen (p := ⟨w.heap.size, j, none⟩) (by show w.heap.size < _; omega)]
    exact frz _ _ _ _ _ hh
  · rw [B2.cell (p := ⟨w.heap.size + 1, j, none⟩) (by show w.heap.size + 1 < _; omega)]
    exact k1 j
  · rw [cell_of_row _ (w.heap.size + 1 + 1) j _ _ (0, 0) hh2]
    simp
  · exact frz _ _ _ _ _ hh2
/-- A disk's six cells, stored one after another. -/
def put6 (u : World) (b : Nat) (v0 v1 v2 v3 v4 v5 : Value) : World := (((((u.setCell ⟨b, 0, none⟩ v0).setCell ⟨b, 1, none⟩ v1).setCell ⟨b, 2, none⟩ v2).setCell ⟨b, 3, none⟩ v3).setCell ⟨b, 4, none⟩ v4).setCell ⟨b, 5, none⟩ v5
theorem put6_heap (u : World) (b : Nat) (v0 v1 v2 v3 v4 v5 : Value) {k : Nat} (h : k ≠ b) : (put6 u b v0 v1 v2 v3 v4 v5).heap[k]? = u.heap[k]? := by
  unfold put6
  rw [Below.heap_setCell _ _ _ k h, Below.heap_setCell _ _ _ k h, Below.heap_setCell _ _ _ k h, Below.heap_setCell _ _ _ k h, Below.heap_setCell _ _ _ k h, Below.heap_setCell _ _ _ k h]
theorem put6_below {N : Nat} {w u : World} {b : Nat} (v0 v1 v2 v3 v4 v5 : Value) (h : Below N w u) (hb : N ≤ b) : Below N w (put6 u b v0 v1 v2 v3 v4 v5) :=
  (((((h.setCell (p := ⟨b, 0, none⟩) hb v0).setCell (p := ⟨b, 1, none⟩) hb v1).setCell (p := ⟨b, 2, none⟩) hb v2).setCell (p := ⟨b, 3, none⟩) hb v3).setCell (p := ⟨b, 4, none⟩) hb v4).setCell (p := ⟨b, 5, none⟩) hb v5
theorem put6_cell {u : World} {b : Nat} (v0 v1 v2 v3 v4 v5 : Value) (h : ∀ j, u.cell? ⟨b, j, none⟩ = zerD[j]?) :
    (put6 u b v0 v1 v2 v3 v4 v5).cell? ⟨b, 0, none⟩ = some v0 ∧ (put6 u b v0 v1 v2 v3 v4 v5).cell? ⟨b, 1, none⟩ = some v1 ∧ (put6 u b v0 v1 v2 v3 v4 v5).cell? ⟨b, 2, none⟩ = some v2 ∧ (put6 u b v0 v1 v2 v3 v4 v5).cell? ⟨b, 3, none⟩ = some v3 ∧ (put6 u b v0 v1 v2 v3 v4 v5).cell? ⟨b, 4, none⟩ = some v4 ∧ (put6 u b v0 v1 v2 v3 v4 v5).cell? ⟨b, 5, none⟩ = some v5 := by
  have o : ∀ (W : World) (i j : Nat) (v : Value), i ≠ j → (W.setCell ⟨b, j, none⟩ v).cell? ⟨b, i, none⟩ = W.cell? ⟨b, i, none⟩ := fun W i j v hne => World.cell?_setCell_other _ _ _ _ (by intro e; injection e with _ e2; first | exact hne e2 | exact hne e2.symm)
  have s : ∀ (W : World) (j : Nat) (v : Value), W.cell? ⟨b, j, none⟩ = zerD[j]? → j < 6 → (W.setCell ⟨b, j, none⟩ v).cell? ⟨b, j, none⟩ = some v := fun W j v e hj => World.cell?_setCell_same' _ _ _ (by rw [e, List.getElem?_eq_getElem (by show j < 6; exact hj)]; rfl)
  unfold put6
  refine ⟨?_, ?_, ?_, ?_, ?_, ?_⟩
  · rw [o _ 0 5 _ (by decide), o _ 0 4 _ (by decide), o _ 0 3 _ (by decide), o _ 0 2 _ (by decide), o _ 0 1 _ (by decide)]
    exact s _ 0 _ (h 0) (by decide)
  · rw [o _ 1 5 _ (by decide), o _ 1 4 _ (by decide), o _ 1 3 _ (by decide), o _ 1 2 _ (by decide)]
    exact s _ 1 _ (by rw [o _ 1 0 _ (by decide)]; exact h 1) (by decide)
  · rw [o _ 2 5 _ (by decide), o _ 2 4 _ (by decide), o _ 2 3 _ (by decide)]
    exact s _ 2 _ (by rw [o _ 2 1 _ (by decide), o _ 2 0 _ (by decide)]; exact h 2) (by decide)
  · rw [o _ 3 5 _ (by decide), o _ 3 4 _ (by decide)]
    exact s _ 3 _ (by rw [o _ 3 2 _ (by decide), o _ 3 1 _ (by decide), o _ 3 0 _ (by decide)]; exact h 3) (by decide)
  · rw [o _ 4 5 _ (by decide)]
    exact s _ 4 _ (by rw [o _ 4 3 _ (by decide), o _ 4 2 _ (by decide), o _ 4 1 _ (by decide), o _ 4 0 _ (by decide)]; exact h 4) (by decide)
  · exact s _ 5 _ (by rw [o _ 5 4 _ (by decide), o _ 5 3 _ (by decide), o _ 5 2 _ (by decide), o _ 5 1 _ (by decide), o _ 5 0 _ (by decide)]; exact h 5) (by decide)
end Go.Proofs.YtjglgohchhdkkaaGreatDoor
