/- The field stays, and nothing that was there changes. -/
import Derived.Test.YtfilicbbkaifcaaField
set_option linter.unusedSimpArgs false
set_option linter.unusedVariables false
namespace Go.Proofs.Ytfilicbbkaifcaa
open Go Go.RowKit

/-- Block b is a field; of what w0 held nothing has changed. -/
def Gd (w0 : World) (b : Nat) (w : World) : Prop := Fld w b ∧ Below w0.heap.size w0 w
section
variable {w0 w w' : World} {b : Nat}
theorem Gd.bel (h : Gd w0 b w) : Below w0.heap.size w0 w := h.2
theorem Gd.size (h : Gd w0 b w) : w0.heap.size ≤ w.heap.size := h.2.size
theorem Gd.step (h : Gd w0 b w) (k : Below w.heap.size w w') : Gd w0 b w' := ⟨h.1.of_below k, h.2.trans (k.mono h.size)⟩
theorem Gd.alloc (h : Gd w0 b w) (o : Obj) : Gd w0 b (w.alloc o) := h.step ((Below.refl _ _).alloc (Nat.le_refl _) _)
theorem Gd.dr (h : Gd w0 b w) (k : Dr w w') : Gd w0 b w' := ⟨h.1.dr k, h.2.trans (k.below _)⟩
theorem Gd.drew (h : Gd w0 b w) : Gd w0 b w.drew := h.dr ((Dr.refl _).drew)
theorem Gd.drewN (h : Gd w0 b w) (n : Nat) : Gd w0 b (w.drewN n) := h.dr ((Dr.refl _).drewN n)
end
theorem Sl_lit (w : World) (l : List (BitVec 8)) (cs : Array Value) (T : TypeId) (h : cs = (l.map B).toArray) : Sl (w.alloc (.cells cs T)) (some ⟨w.heap.size, 0, none⟩) l := fun j hj => by
  refine ⟨w.heap.size, 0, rfl, ?_⟩
  rw [Nat.zero_add, World.cell?_alloc_new, h]
  simp [List.getD_eq_getElem?_getD, hj]
end Go.Proofs.Ytfilicbbkaifcaa
