/- The reference's items, read. -/
import Derived.Test.YtllpcllgliknpaaGreatDoorPut6
import Derived.Test.YtllpcllgliknpaaGreatDoorCuts
import Derived.Deep.AppendLies
set_option linter.unusedSimpArgs false
set_option maxRecDepth 100000
set_option linter.unusedVariables false
namespace Go.Proofs.YtllpcllgliknpaaGreatDoor
open Go Go.RowKit

/-- The item of a kind at the beginning of bytes, how many bytes it has, the error. -/
def nextI (l : List (BitVec 8)) (k : Nat) (most : Int) : It × Nat × Nat :=
  if k = 3 then (if l.length < 1 ∨ 1 < (l.getD 0 0#8).toNat then (⟨0, 0, []⟩, 0, 6) else (⟨3, (l.getD 0 0#8).toNat, []⟩, 1, 0))
  else if k = 4 then (if l.length < 32 then (⟨0, 0, []⟩, 0, 6) else (⟨4, 0, l.take 32⟩, 32, 0))
  else if (takeI l most).2.2 ≠ 0 then (⟨0, 0, []⟩, 0, (takeI l most).2.2)
  else if k ≠ 1 ∧ k ≠ 2 then (⟨k, (takeI l most).1, []⟩, (takeI l most).2.1, 0)
  else if l.length - (takeI l most).2.1 < (takeI l most).1 then (⟨0, 0, []⟩, 0, 6)
  else (⟨k, 0, (l.drop (takeI l most).2.1).take (takeI l most).1⟩, (takeI l most).2.1 + (takeI l most).1, 0)
/-- What Next tells. -/
def NextR (w : World) (x : It × Nat × Nat) (e : Ending) (w' : World) : Prop := ∃ q c, e = .returned (.tuple #[x.1.v q c, .int .i64 (x.2.1 : Int), .int .i64 (x.2.2 : Int)]) ∧ Sl w' q x.1.b ∧ (q = none → c = 0) ∧ x.1.b.length ≤ c ∧ (∀ k, (Value.slice q x.1.b.length c).ownBlock = some k → w.heap.size ≤ k) ∧ Below w.heap.size w w'
attribute [local go_sem ↓] exec_bs
attribute [local go_sem] convIB6 bsB0 bsB1 bsb1
theorem nextI_take {l : List (BitVec 8)} {k : Nat} {most : Int} (h3 : k ≠ 3) (h4 : k ≠ 4) : nextI l k most = if (takeI l most).2.2 ≠ 0 then (⟨0, 0, []⟩, 0, (takeI l most).2.2)
  else if k ≠ 1 ∧ k ≠ 2 then (⟨k, (takeI l most).1, []⟩, (takeI l most).2.1, 0)
  else if l.length - (takeI l most).2.1 < (takeI l most).1 then (⟨0, 0, []⟩, 0, 6)
  else (⟨k, 0, (l.drop (takeI l most).2.1).take (takeI l most).1⟩, (takeI l most).2.1 + (takeI l most).1, 0) := by
  unfold nextI
  rw [if_neg h3, if_neg h4]
attribute [local go_sem ↓] exec_slice
/-- Own bytes behind stores into another block. -/
theorem OwnB.set3 {w : World} {base g : Nat} {q : Option Addr} {n d : Nat} {l : List (BitVec 8)} (h : OwnB w base (.slice q n d) l) (hg : g < base) (a b c : Value) :
    Sl (((w.setCell ⟨g, 0, none⟩ a).setCell ⟨g, 1, none⟩ b).setCell ⟨g, 2, none⟩ c) q l ∧ (q = none → d = 0) ∧ l.length ≤ d := by
  have h2 : OwnB (((w.setCell ⟨g, 0, none⟩ a).setCell ⟨g, 1, none⟩ b).setCell ⟨g, 2, none⟩ c) base (.slice q n d) l := h.keep fun k hk => by
    have := (h.lt k hk).1
    rw [Below.heap_setCell _ _ _ _ (by show k ≠ g; omega), Below.heap_setCell _ _ _ _ (by show k ≠ g; omega), Below.heap_setCell _ _ _ _ (by show k ≠ g; omega)]
  obtain ⟨q', d', e, h3, h4, h5⟩ := h2.shape
  injection e with e1 e2 e3
  subst e1 e3
  exact ⟨h3, h4, h5⟩
theorem sl_32 (q : Option Addr) (n cap : Nat) (w : World) (hk : 32 ≤ cap) : (slT 53 (.slice q n cap) none (some (.int .i64 32)) none).run Tryz.prog w = .ok (.value (.slice q 32 cap)) w := sl_hi q n cap 32 w hk
attribute [local go_sem] sl_32
end Go.Proofs.YtllpcllgliknpaaGreatDoor
