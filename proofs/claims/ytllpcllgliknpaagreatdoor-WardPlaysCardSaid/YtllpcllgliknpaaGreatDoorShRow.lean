/- Rows of words and bytes in memory: what a call may read, change, load whole and store whole. -/
import Derived.Test.YtllpcllgliknpaaGreatDoorShHash
set_option linter.unusedSimpArgs false
set_option maxRecDepth 100000
set_option linter.unusedVariables false
namespace Go.Proofs.YtllpcllgliknpaaGreatDoor.Sha
open Go Go.RowKit

/-- Block b is a row of n values. -/
def Row (w : World) (b : Nat) (T : TypeId) (n : Nat) (g : Nat → Value) : Prop := w.heap[b]? = some (.cells (tab n g) T (0, 0))
section
variable {w : World} {b : Nat} {T : TypeId} {n : Nat} {g : Nat → Value}
theorem Row.lt (h : Row w b T n g) : b < w.heap.size := by
  rcases Nat.lt_or_ge b w.heap.size with h' | h'
  · exact h'
  · unfold Row at h; rw [Array.getElem?_eq_none h'] at h; cases h
theorem Row.cell (h : Row w b T n g) (i : Nat) (hi : i < n) : w.cell? ⟨b, i, none⟩ = some (g i) := by
  rw [cell_of_row w b i _ T (0, 0) h, tab_get _ _ _ hi]
theorem Row.free (h : Row w b T n g) (i : Nat) : w.frozen? ⟨b, i, none⟩ = false := by
  unfold Row at h
  simp only [World.frozen?, h]
  simp
theorem Row.of_block {w' : World} (h : Row w b T n g) (e : w'.heap[b]? = w.heap[b]?) : Row w' b T n g := e.trans h
theorem Row.of_below {w' : World} (h : Row w b T n g) (k : Below w.heap.size w w') : Row w' b T n g := h.of_block (k.block b h.lt)
theorem Row.of_kp {w' : World} {c : Nat} (h : Row w b T n g) (k : Kp c w w') (hc : b ≠ c) : Row w' b T n g := h.of_block (k.block b h.lt hc)
theorem Row.drewN (h : Row w b T n g) (k : Nat) : Row (w.drewN k) b T n g := h
theorem Row.drew (h : Row w b T n g) : Row w.drew b T n g := h
theorem Row.congr (h : Row w b T n g) {g' : Nat → Value} (e : ∀ i, i < n → g i = g' i) : Row w b T n g' := by
  unfold Row at h ⊢; rw [h, tab_congr e]
theorem Row.set (h : Row w b T n g) (i : Nat) (v : Value) : Row (w.setCell ⟨b, i, none⟩ v) b T n (fun j => if j = i then v else g j) := by
  unfold Row at h ⊢
  simp only [World.setCell, Array.getElem?_modify, if_true, h, Option.map_some]
  simp only [Option.isSome_none, Bool.false_eq_true, if_false, tab_set]
theorem Row.range (h : Row w b T n g) : w.rangeAt b 0 (tab n g).toList := by
  intro j v hv
  rw [Nat.zero_add, cell_of_row w b j _ T (0, 0) h]
  simpa using hv
theorem Row.there (h : Row w b T n g) : w.there b 0 n := by
  intro j hj
  rw [Nat.zero_add, h.cell j hj]
  exact ⟨rfl, h.free j⟩
theorem Row.new (w : World) (T : TypeId) (n : Nat) (g : Nat → Value) : Row (w.alloc (.cells (tab n g) T)) w.heap.size T n g := heap_alloc_last w _
/-- The whole row stored anew. -/
theorem Row.setRow (h : Row w b T n g) (g' : Nat → Value) : Row (w.setRow b (tab n g')) b T n g' := by
  unfold Row at h ⊢
  simp only [World.setRow, Array.getElem?_modify, if_true, h, Option.map_some]
theorem Kp.setRow {x y : World} {c : Nat} (h : Kp c x y) (cs : Array Value) : Kp c x (y.setRow c cs) :=
  h.trans ⟨rfl, rfl, rfl, by simp [World.setRow], fun k _ hb => by
    simp only [World.setRow, Array.getElem?_modify]
    rw [if_neg (by omega)]⟩
theorem Kp.setRowNew {x y : World} {c d : Nat} (h : Kp c x y) (hd : x.heap.size ≤ d) (cs : Array Value) : Kp c x (y.setRow d cs) :=
  ⟨h.os, h.tape, h.output, by simpa [World.setRow] using h.size, fun k hk hb => by
    simp only [World.setRow, Array.getElem?_modify]
    rw [if_neg (by omega)]
    exact h.block k hk hb⟩
end
/-- A store of a whole row. -/
theorem st_row {P : Program} (w : World) (b : Nat) (T t : TypeId) (n : Nat) (g : Nat → Value) (h : Row w b T n g) (cells : Array Value) (hn : cells.size = n) (hi : (P.info? t).map (·.size) = some n) (h1 : cells.all (·.oneCell') = true) :
    (stT t (.pointer (some ⟨b, 0, none⟩)) (.agg cells)).run P w = .ok .skip (w.setRow b cells) := by
  have := run_storeVar_row (P := P) w b T t (tab n g) cells h (by rw [hn]; exact hi) (by rw [hn, tab_size]) h1
  simp only [stT, Instr.storeAt, Instr.sureAddr, Sem.run_bind, Sem.run_pure, Result.andThen, this]
theorem setRow_drewN (w : World) (n b : Nat) (cs : Array Value) : (w.drewN n).setRow b cs = (w.setRow b cs).drewN n := rfl

/-- A call inside a region that only reads, whatever draws have gone before. -/
theorem quiet_same {P : Program} {f : FuncId} {args : Array Value} {W w : World} {v : Value} (h : Calls P f args W fun e w' => e = .returned v ∧ w' = W) (hW : ∃ m, W = w.drewN m) :
    Calls P f args W fun e w'' => e = .returned v ∧ ∃ m, w'' = w.drewN m :=
  h.mono fun _ _ ⟨he, hm⟩ => ⟨he, by obtain ⟨m, rfl⟩ := hW; exact ⟨m, hm⟩⟩
theorem draws (w : World) (n m : Nat) : ∃ k, w.drewN (n + m) = (w.drewN n).drewN k := ⟨m, (World.drewN_drewN ..).symm⟩

theorem turn_at (x : BitVec 32) (n : Int) (h0 : 0 ≤ n) (h1 : n ≤ 32) (w : World) : Calls Tryz.prog 68 #[U x, .int .i64 n] w fun e w' => e = .returned (U (R x n.toNat)) ∧ w' = w := by
  obtain ⟨k, rfl⟩ := Int.eq_ofNat_of_zero_le h0
  exact turn_any x k (by omega) w
theorem moved_at (x : BitVec 32) (n : Int) (h0 : 0 ≤ n) (h1 : n ≤ 32) (w : World) : Calls Tryz.prog 69 #[U x, .int .i64 n] w fun e w' => e = .returned (U (x >>> n.toNat)) ∧ w' = w := by
  obtain ⟨k, rfl⟩ := Int.eq_ofNat_of_zero_le h0
  exact moved_any x k (by omega) w
end Go.Proofs.YtllpcllgliknpaaGreatDoor.Sha
