/- The state of a hash as a block of memory; which blocks a call may change. -/
import Derived.Test.YtllpcllgliknpaaGreatDoorShSched
set_option linter.unusedSimpArgs false
set_option maxRecDepth 100000
set_option linter.unusedVariables false
namespace Go.Proofs.YtllpcllgliknpaaGreatDoor.Sha
open Go Go.RowKit

/-- Of the blocks that were there only block b may have changed. -/
structure Kp (b : Nat) (w w' : World) : Prop where
  os : w'.os = w.os
  tape : w'.tape = w.tape
  output : w'.output = w.output
  size : w.heap.size ≤ w'.heap.size
  block : ∀ k, k < w.heap.size → k ≠ b → w'.heap[k]? = w.heap[k]?
theorem Kp.refl (b : Nat) (w : World) : Kp b w w := ⟨rfl, rfl, rfl, Nat.le_refl _, fun _ _ _ => rfl⟩
theorem Kp.trans {b : Nat} {x y z : World} (h : Kp b x y) (k : Kp b y z) : Kp b x z :=
  ⟨k.os.trans h.os, k.tape.trans h.tape, k.output.trans h.output, Nat.le_trans h.size k.size, fun i hi hb => (k.block i (Nat.lt_of_lt_of_le hi h.size) hb).trans (h.block i hi hb)⟩
theorem Kp.of_below {b : Nat} {x y z : World} (h : Kp b x y) (k : Below y.heap.size y z) : Kp b x z :=
  h.trans ⟨k.os, k.tape, k.output, k.size, fun i hi _ => k.block i hi⟩
theorem Kp.drewN {b : Nat} {x y : World} (h : Kp b x y) (n : Nat) : Kp b x (y.drewN n) := h.trans ⟨rfl, rfl, rfl, Nat.le_refl _, fun _ _ _ => rfl⟩
theorem Kp.alloc {b : Nat} {x y : World} (h : Kp b x y) (o : Obj) : Kp b x (y.alloc o) := h.of_below ((Below.refl _ _).alloc (Nat.le_refl _) o)
theorem Kp.setCell {b : Nat} {x y : World} (h : Kp b x y) (i : Nat) (v : Value) : Kp b x (y.setCell ⟨b, i, none⟩ v) :=
  h.trans ⟨rfl, rfl, rfl, by simp, fun k _ hb => Below.heap_setCell _ _ _ _ hb⟩
/-- A store into a block that the call made. -/
theorem Kp.setNew {b : Nat} {x y : World} (h : Kp b x y) {a : Addr} (ha : x.heap.size ≤ a.block) (v : Value) : Kp b x (y.setCell a v) :=
  ⟨h.os, h.tape, h.output, by simpa using h.size, fun k hk hb => by rw [Below.heap_setCell _ _ _ _ (by omega)]; exact h.block k hk hb⟩
theorem Kp.cell {b : Nat} {x y : World} (h : Kp b x y) {p : Addr} (hp : p.block < x.heap.size) (hb : p.block ≠ b) : y.cell? p = x.cell? p := World.cell?_of_block (w := x) (h.block p.block hp hb)
theorem Kp.frozen {b : Nat} {x y : World} (h : Kp b x y) {p : Addr} (hp : p.block < x.heap.size) (hb : p.block ≠ b) : y.frozen? p = x.frozen? p := World.frozen?_of_block (w := x) (h.block p.block hp hb)
/-- Where b itself was made by the call, nothing that was there has changed. -/
theorem Kp.below {b : Nat} {x y : World} (h : Kp b x y) {N : Nat} (hN : N ≤ b) (hx : N ≤ x.heap.size) : Below N x y :=
  ⟨h.os, h.tape, h.output, h.size, fun k hk => h.block k (by omega) (by omega)⟩

/-- The cells of a hash's state. -/
def stF (H : Nat → BitVec 32) (m : Nat → BitVec 8) (n : Nat) (i : Nat) : Value := if i < 8 then U (H i) else if i < 72 then B (m (i - 8)) else .int .i64 n
/-- A block that is a hash's state. -/
def Blk (w : World) (b : Nat) (T : TypeId) (H : Nat → BitVec 32) (m : Nat → BitVec 8) (n : Nat) : Prop := w.heap[b]? = some (.cells (tab 73 (stF H m n)) T (0, 0))
section
variable {w : World} {b : Nat} {T : TypeId} {H : Nat → BitVec 32} {m : Nat → BitVec 8} {n : Nat}
theorem Blk.lt (h : Blk w b T H m n) : b < w.heap.size := by
  rcases Nat.lt_or_ge b w.heap.size with h' | h'
  · exact h'
  · unfold Blk at h; rw [Array.getElem?_eq_none h'] at h; cases h
theorem Blk.word (h : Blk w b T H m n) (i : Nat) (hi : i < 8) : w.cell? ⟨b, i, none⟩ = some (U (H i)) := by
  rw [cell_of_row w b i _ T (0, 0) h, tab_get _ _ _ (by omega), stF, if_pos hi]
theorem Blk.byte (h : Blk w b T H m n) (j : Nat) (hj : j < 64) : w.cell? ⟨b, 8 + j, none⟩ = some (B (m j)) := by
  rw [cell_of_row w b (8 + j) _ T (0, 0) h, tab_get _ _ _ (by omega), stF, if_neg (by omega), if_pos (by omega), Nat.add_sub_cancel_left]
theorem Blk.len (h : Blk w b T H m n) : w.cell? ⟨b, 72, none⟩ = some (.int .i64 n) := by
  rw [cell_of_row w b 72 _ T (0, 0) h, tab_get _ _ _ (by omega)]; rfl
theorem Blk.free (h : Blk w b T H m n) (i : Nat) : w.frozen? ⟨b, i, none⟩ = false := by
  unfold Blk at h
  simp only [World.frozen?, h]
  simp
theorem Blk.of_block {w' : World} (h : Blk w b T H m n) (e : w'.heap[b]? = w.heap[b]?) : Blk w' b T H m n := e.trans h
theorem Blk.of_below {w' : World} (h : Blk w b T H m n) (k : Below w.heap.size w w') : Blk w' b T H m n := h.of_block (k.block b h.lt)
theorem Blk.of_kp {w' : World} {c : Nat} (h : Blk w b T H m n) (k : Kp c w w') (hc : b ≠ c) : Blk w' b T H m n := h.of_block (k.block b h.lt hc)
theorem Blk.drewN (h : Blk w b T H m n) (k : Nat) : Blk (w.drewN k) b T H m n := h
theorem Blk.set (h : Blk w b T H m n) (i : Nat) (v : Value) {H' : Nat → BitVec 32} {m' : Nat → BitVec 8} {n' : Nat} (e : ∀ j, j < 73 → (if j = i then v else stF H m n j) = stF H' m' n' j) :
    Blk (w.setCell ⟨b, i, none⟩ v) b T H' m' n' := by
  unfold Blk at h ⊢
  simp only [World.setCell, Array.getElem?_modify, if_true, h, Option.map_some]
  simp only [Option.isSome_none, Bool.false_eq_true, if_false, tab_set]
  rw [tab_congr e]
theorem Blk.congr (h : Blk w b T H m n) {H' : Nat → BitVec 32} {m' : Nat → BitVec 8} (hH : ∀ i, i < 8 → H i = H' i) (hm : ∀ j, j < 64 → m j = m' j) : Blk w b T H' m' n := by
  unfold Blk at h ⊢
  rw [h, tab_congr (g := stF H' m' n)]
  intro i hi
  unfold stF
  by_cases h1 : i < 8
  · rw [if_pos h1, if_pos h1, hH i h1]
  · rw [if_neg h1, if_neg h1]
    by_cases h2 : i < 72
    · rw [if_pos h2, if_pos h2, hm _ (by omega)]
    · rw [if_neg h2, if_neg h2]
/-- One word. -/
theorem Blk.setWord (h : Blk w b T H m n) (i : Nat) (hi : i < 8) (x : BitVec 32) : Blk (w.setCell ⟨b, i, none⟩ (U x)) b T (fun j => if j = i then x else H j) m n :=
  h.set i (U x) fun j _ => by
    unfold stF
    by_cases e : j = i
    · subst e; simp [hi]
    · simp [e]
/-- One byte of the block. -/
theorem Blk.setByte (h : Blk w b T H m n) (i : Nat) (hi : i < 64) (x : BitVec 8) : Blk (w.setCell ⟨b, 8 + i, none⟩ (B x)) b T H (fun j => if j = i then x else m j) n :=
  h.set (8 + i) (B x) fun j _ => by
    unfold stF
    by_cases e : j = 8 + i
    · subst e
      rw [if_pos rfl, if_neg (by omega), if_pos (by omega)]
      simp
    · rw [if_neg e]
      by_cases h1 : j < 8
      · simp [h1]
      · rw [if_neg h1, if_neg h1]
        show _ = if j < 72 then B (if j - 8 = i then x else m (j - 8)) else .int .i64 n
        rw [if_neg (show ¬ j - 8 = i by omega)]
/-- The number of bytes. -/
theorem Blk.setLen (h : Blk w b T H m n) (k : Nat) : Blk (w.setCell ⟨b, 72, none⟩ (.int .i64 k)) b T H m k :=
  h.set 72 _ fun j hj => by
    unfold stF
    by_cases e : j = 72
    · subst e; simp
    · rw [if_neg e]
      by_cases h1 : j < 8
      · simp [h1]
      · rw [if_neg h1, if_neg h1, if_pos (by omega), if_pos (by omega)]
end
end Go.Proofs.YtllpcllgliknpaaGreatDoor.Sha
