/- What a matrix is; matrices that are returned. -/
import Derived.Test.YtkfceloaomlhmaaDoorRows3
import Derived.Test.YtkfceloaomlhmaaDoorMp
set_option linter.unusedSimpArgs false
set_option maxRecDepth 100000
set_option linter.unusedVariables false
namespace Go.Proofs.YtkfceloaomlhmaaDoor
open Go Go.RowKit

/-- A matrix: 1 to 64 rows, all of one length from 1 to 64. -/
def goodB (ls : List (List (BitVec 8))) : Bool := decide (1 ≤ ls.length ∧ ls.length ≤ 64 ∧ 1 ≤ (ls.getD 0 []).length ∧ (ls.getD 0 []).length ≤ 64 ∧ ∀ i, i < ls.length → (ls.getD i []).length = (ls.getD 0 []).length)
/-- A matrix of the call's own and OK are returned; nothing that was there has changed. -/
def RetOk (N : Nat) (w : World) (n m : Nat) (a : Mx) (e : Ending) (w' : World) : Prop :=
  ∃ G D, e = .returned (.tuple #[.slice (some ⟨G, 0, none⟩) n n, .int .i64 0]) ∧ Mp w' N G n n m D a ∧ Below N w w'
/-- Nothing and an error are returned. -/
def RetNo (N : Nat) (w : World) (t : Int) (e : Ending) (w' : World) : Prop := e = .returned (.tuple #[.slice none 0 0, .int .i64 t]) ∧ Below N w w'
theorem Prt.head {w : World} {p : Option Addr} {ls : List (List (BitVec 8))} (h : Prt w p ls) (h0 : 0 < ls.length) : ∃ c o q cap, p = some ⟨c, o, none⟩ ∧ c < w.heap.size ∧ w.cell? ⟨c, o, none⟩ = some (.slice q (ls.getD 0 []).length cap) := by
  obtain ⟨c, o, q, cap, h1, h2, h3, -, -⟩ := h.at_ 0 h0
  exact ⟨c, o, q, cap, h1, h2, by rwa [Nat.add_zero] at h3⟩
structure Good (ls : List (List (BitVec 8))) (n m : Nat) : Prop where
  len : ls.length = n
  lo : 1 ≤ n
  hi : n ≤ 64
  mlo : 1 ≤ m
  mhi : m ≤ 64
  rows : ∀ i, i < n → (ls.getD i []).length = m
theorem Good.of {ls : List (List (BitVec 8))} (h : goodB ls = true) : Good ls ls.length (ls.getD 0 []).length := by
  obtain ⟨h1, h2, h3, h4, h5⟩ := of_decide_eq_true h
  exact ⟨rfl, h1, h2, h3, h4, h5⟩
theorem Good.true_ {ls : List (List (BitVec 8))} {n m : Nat} (h : Good ls n m) : goodB ls = true := by
  obtain ⟨rfl, h1, h2, h3, h4, h5⟩ := h
  have h0 := h5 0 (by omega)
  exact decide_eq_true ⟨h1, h2, by omega, by omega, fun i hi => by rw [h5 i hi, h0]⟩
theorem Good.head {ls : List (List (BitVec 8))} {n m : Nat} (h : Good ls n m) : (ls.getD 0 []).length = m := h.rows 0 (by have := h.lo; omega)
theorem Good.mats {n m : Nat} (a : Mx) (h1 : 1 ≤ n) (h2 : n ≤ 64) (h3 : 1 ≤ m) (h4 : m ≤ 64) : Good (rowsL n m a) n m := ⟨rowsL_length _ _ _, h1, h2, h3, h4, fun i hi => rowsL_len _ _ _ _ hi⟩
end Go.Proofs.YtkfceloaomlhmaaDoor
