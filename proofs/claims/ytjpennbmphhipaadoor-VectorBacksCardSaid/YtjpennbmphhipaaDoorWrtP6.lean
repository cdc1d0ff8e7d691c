/- What the program's Writer is in memory; its numbers. -/
import Derived.Test.YtjpennbmphhipaaDoorAwake6
import Derived.Test.YtjpennbmphhipaaDoorAppL6
import Derived.Test.YtjpennbmphhipaaDoorCloneP
import Derived.Test.YtjpennbmphhipaaDoorTake6
import Derived.Test.YtjpennbmphhipaaDoorCuts6W
set_option linter.unusedSimpArgs false
set_option maxRecDepth 100000
set_option linter.unusedVariables false
namespace Go.Proofs.YtjpennbmphhipaaDoor
open Go Go.RowKit

/-- The writer at a has the bytes l. -/
def WrP (N : Nat) (w : World) (a : Addr) (g : Option Nat) (l : List (BitVec 8)) : Prop := ∃ (b : Nat) (v : Value), a = ⟨b, 0, none⟩ ∧ N ≤ b ∧ w.cell? ⟨b, 0, none⟩ = some v ∧ w.frozen? ⟨b, 0, none⟩ = false ∧ OwnB w N v l ∧ v.ownBlock = g ∧ g ≠ some b
theorem wrP_lie (N : Nat) (w : World) (a : Addr) (g : Option Nat) (l : List (BitVec 8)) (h : WrP N w a g l) : N ≤ a.block ∧ a.block < w.heap.size ∧ ∀ k, g = some k → N ≤ k ∧ k < w.heap.size ∧ k ≠ a.block := by
  obtain ⟨b, v, rfl, h1, h2, h3, h4, h5, h6⟩ := h
  refine ⟨h1, World.block_lt_of_cell? w _ h2, fun k hk => ?_⟩
  have := h4.lt k (by rw [h5]; exact hk)
  refine ⟨this.1, this.2, fun e => h6 ?_⟩
  rw [hk, e]
theorem wrP_stay (N : Nat) (w w' : World) (a : Addr) (g : Option Nat) (l : List (BitVec 8)) (h : WrP N w a g l) (hs : w.heap.size ≤ w'.heap.size) (hb : w'.heap[a.block]? = w.heap[a.block]?) (hg : ∀ k, g = some k → w'.heap[k]? = w.heap[k]?) : WrP N w' a g l := by
  obtain ⟨b, v, rfl, h1, h2, h3, h4, h5, h6⟩ := h
  exact ⟨b, v, rfl, h1, by rw [World.cell?_of_block (w := w) hb]; exact h2, by rw [World.frozen?_of_block (w := w) hb]; exact h3, h4.keep fun k hk => hg k (by rw [← h5]; exact hk), h5, h6⟩
theorem wrP_zero (N : Nat) (w : World) (hN : N ≤ w.heap.size) : WrP N (w.alloc (.cells zW 27)) ⟨w.heap.size, 0, none⟩ none [] :=
  ⟨w.heap.size, .slice none 0 0, rfl, hN, World.cell?_alloc_new _ _ _ _, by go_simp, OwnB.nil _ _, rfl, by simp⟩
theorem Kq.refl (b : Nat) (g : Option Nat) (w : World) : Kq b g w w := ⟨rfl, rfl, rfl, Nat.le_refl _, fun _ _ _ _ => rfl⟩
theorem Kq.trans {b : Nat} {g g' : Option Nat} {x y z : World} (h : Kq b g x y) (k : Kq b g' y z) (hg : ∀ i, g' = some i → g = some i ∨ x.heap.size ≤ i) : Kq b g x z :=
  ⟨k.os.trans h.os, k.tape.trans h.tape, k.output.trans h.output, Nat.le_trans h.size k.size, fun i h1 h2 h3 => (k.block i (Nat.lt_of_lt_of_le h1 h.size) h2 (fun e => by rcases hg i e with h4 | h4; exact h3 h4; omega)).trans (h.block i h1 h2 h3)⟩
theorem Kq.ofBelow {b : Nat} {g : Option Nat} {x y : World} (k : Below x.heap.size x y) : Kq b g x y := ⟨k.os, k.tape, k.output, k.size, fun i h _ _ => k.block i h⟩
/-- More bytes: appended to the writer's own, and stored. -/
theorem wr_put {N : Nat} {w y z : World} {b : Nat} {g : Option Nat} {l' : List (BitVec 8)} {v v' : Value} (hN : N ≤ b) (hblt : b < w.heap.size) (hB : Below w.heap.size w y) (hc : w.cell? ⟨b, 0, none⟩ = some v) (hf : w.frozen? ⟨b, 0, none⟩ = false) (hv : v.ownBlock = g) (hgb : g ≠ some b)
    (hO : OwnB z N v' l') (hG : y.grownBy z v.ownBlock) (hor : v'.ownBlock = v.ownBlock ∨ v'.ownBlock = some y.heap.size) :
    (z.cell? ⟨b, 0, none⟩ = some v ∧ z.frozen? ⟨b, 0, none⟩ = false) ∧ WrPost WrP N w ⟨b, 0, none⟩ g l' (z.setCell ⟨b, 0, none⟩ v') := by
  have hzb : z.heap[b]? = w.heap[b]? := by rw [hG.block b (Nat.lt_of_lt_of_le hblt hB.size) (by rw [hv]; exact Ne.symm hgb), hB.block b hblt]
  have hz : z.cell? ⟨b, 0, none⟩ = some v := by rw [World.cell?_of_block (w := w) hzb]; exact hc
  have hzf : z.frozen? ⟨b, 0, none⟩ = false := by rw [World.frozen?_of_block (w := w) hzb]; exact hf
  have hne : v'.ownBlock ≠ some b := by
    rcases hor with e | e
    · rw [e, hv]; exact hgb
    · rw [e]; intro h; injection h with h; have := hB.size; omega
  refine ⟨⟨hz, hzf⟩, v'.ownBlock, ⟨b, v', rfl, hN, World.cell?_setCell_same _ _ _ hz, by rw [World.frozen?_setCell]; exact hzf, hO.keep fun k hk => Below.heap_setCell _ _ _ _ (fun e => hne (by rw [hk]; exact congrArg some e)), rfl, hne⟩, fun k hk => ?_, ?_⟩
  · rcases hor with e | e
    · left; rw [← hv, ← e]; exact hk
    · right; rw [e] at hk; injection hk with hk; rw [← hk]; exact hB.size
  · exact ⟨hG.os.trans hB.os, hG.tape.trans hB.tape, hG.output.trans hB.output, Nat.le_trans hB.size (by simpa using hG.size), fun k h1 h2 h3 => by
      rw [Below.heap_setCell _ _ _ _ h2, hG.block k (Nat.lt_of_lt_of_le h1 hB.size) (by rw [hv]; exact fun e => h3 e.symm), hB.block k h1]⟩
/-- Two steps, one behind the other. -/
theorem WrPost.trans {N : Nat} {w y z : World} {a : Addr} {g g' : Option Nat} {l' : List (BitVec 8)} (hg' : ∀ k, g' = some k → g = some k ∨ w.heap.size ≤ k) (hK : Kq a.block g w y) (h : WrPost WrP N y a g' l' z) : WrPost WrP N w a g l' z := by
  obtain ⟨g2, h1, h2, h3⟩ := h
  refine ⟨g2, h1, fun k hk => ?_, hK.trans h3 hg'⟩
  rcases h2 k hk with h4 | h4
  · exact hg' k h4
  · right; have := hK.size; omega
end Go.Proofs.YtjpennbmphhipaaDoor
