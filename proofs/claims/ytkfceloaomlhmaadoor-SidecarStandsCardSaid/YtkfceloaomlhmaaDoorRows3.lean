/- Rows of bytes: one of them, strings of bytes, equal rows; a slice of rows that is returned. -/
import Derived.Test.YtkfceloaomlhmaaDoorPrt
set_option linter.unusedSimpArgs false
set_option maxRecDepth 100000
set_option linter.unusedVariables false
namespace Go.Proofs.YtkfceloaomlhmaaDoor
open Go Go.RowKit

theorem Prt.at_ {w : World} {p : Option Addr} {ls : List (List (BitVec 8))} (h : Prt w p ls) (i : Nat) (hi : i < ls.length) :
    ∃ c o q cap, p = some ⟨c, o, none⟩ ∧ c < w.heap.size ∧ w.cell? ⟨c, o + i, none⟩ = some (.slice q (ls.getD i []).length cap) ∧ Sl w q (ls.getD i []) ∧ (q = none → cap = 0) ∧ (ls.getD i []).length ≤ cap := by
  obtain ⟨c, o, q, cap, h1, h2, h3⟩ := h i hi
  exact ⟨c, o, q, cap, h1, World.block_lt_of_cell? w _ h2, h2, h3⟩
theorem strOf_inj {l m : List (BitVec 8)} (h : strOf l = strOf m) : l = m := by
  unfold strOf at h
  injection h with h
  have h2 : l.map UInt8.ofBitVec = m.map UInt8.ofBitVec := by simpa using h
  exact List.map_inj_right (fun a b e => by injection e) |>.1 h2
theorem str_list (l : List (BitVec 8)) : (strOf l).toList = l.map UInt8.ofBitVec := by
  rw [ByteArray.toList_eq]; simp [strOf]
theorem str_ne (l m : List (BitVec 8)) (h : l ≠ m) : ((strOf l).toList == (strOf m).toList) = false := by
  rw [beq_eq_false_iff_ne, str_list, str_list]
  intro e
  exact h (List.map_inj_right (fun a b e => by injection e) |>.1 e)
def sameB (la lb : List (List (BitVec 8))) : Bool := decide (la = lb)
theorem rows_ext {la lb : List (List (BitVec 8))} (hl : la.length = lb.length) (h : ∀ i, i < la.length → la.getD i [] = lb.getD i []) : la = lb := by
  apply List.ext_getElem hl
  intro i h1 h2
  have := h i h1
  simpa [List.getD_eq_getElem?_getD, h1, h2] using this
/-- A slice of rows of the call's own is returned, and nothing that was there has changed. -/
def RetM (N : Nat) (w : World) (ls : List (List (BitVec 8))) (e : Ending) (w' : World) : Prop := ∃ v, e = .returned v ∧ OwnM w' N v ls ∧ Below N w w'
theorem OwnM.lt {w : World} {base : Nat} {v : Value} {ls : List (List (BitVec 8))} (h : OwnM w base v ls) : ∀ k, v.ownBlock = some k → base ≤ k ∧ k < w.heap.size := by
  obtain ⟨vs, _, h2, _⟩ := h
  exact World.ownsRow.lt h2
theorem bs0 (w : World) : (bsT 22 0 #[]).run Tryd.prog w = .ok (.value (.slice (some ⟨w.heap.size, 0, none⟩) 0 0)) (w.alloc (.cells #[] 5)) := by kernel_rfl
theorem bsR (q : Option Addr) (n c : Nat) (w : World) : (bsT 42 1 #[(0, .slice q n c)]).run Tryd.prog w = .ok (.value (.slice (some ⟨w.heap.size, 0, none⟩) 1 1)) (w.alloc (.cells #[.slice q n c] 22)) := by
  cases q <;> kernel_rfl
theorem range_snoc {α : Type} (f : Nat → α) (k : Nat) : (List.range (k + 1)).map f = (List.range k).map f ++ [f k] := by rw [List.range_succ, List.map_append]; rfl
end Go.Proofs.YtkfceloaomlhmaaDoor
