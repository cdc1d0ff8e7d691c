/- A matrix that the call makes: a block of headers, a block for each row. -/
import Derived.Test.YtkfceloaomlhmaaDoorPrt
import Derived.Test.YtkfceloaomlhmaaDoorDet
import Derived.Test.YtkfceloaomlhmaaDoorStores
import Derived.Test.YtkfceloaomlhmaaDoorUpto
set_option linter.unusedSimpArgs false
set_option maxRecDepth 100000
set_option linter.unusedVariables false
namespace Go.Proofs.YtkfceloaomlhmaaDoor
open Go Go.RowKit

/-- Headers: the first k rows are made, the others nil. -/
def hdr (k m : Nat) (D : Nat → Nat) (i : Nat) : Value := if i < k then .slice (some ⟨D i, 0, none⟩) m m else .slice none 0 0
/-- Block G holds the headers of n rows, of which k are made: row i lies in block D i and holds m numbers of a. -/
structure Mp (w : World) (N G n k m : Nat) (D : Nat → Nat) (a : Mx) : Prop where
  hds : Row w G 22 n (hdr k m D)
  row : ∀ i, i < k → Row w (D i) 5 m (fun j => B (a i j))
  inj : ∀ i j, i < k → j < k → i ≠ j → D i ≠ D j
  ne : ∀ i, i < k → D i ≠ G
  lo : ∀ i, i < k → N ≤ D i
  loG : N ≤ G
/-- A matrix as rows. -/
def rowL (m : Nat) (a : Mx) (i : Nat) : List (BitVec 8) := (List.range m).map (a i)
def rowsL (n m : Nat) (a : Mx) : List (List (BitVec 8)) := (List.range n).map (rowL m a)
theorem rowL_length (m : Nat) (a : Mx) (i : Nat) : (rowL m a i).length = m := by simp [rowL]
theorem rowL_get (m : Nat) (a : Mx) (i j : Nat) (h : j < m) : (rowL m a i).getD j 0#8 = a i j := by simp [rowL, List.getD_eq_getElem?_getD, h]
theorem rowsL_length (n m : Nat) (a : Mx) : (rowsL n m a).length = n := by simp [rowsL]
theorem rowsL_get (n m : Nat) (a : Mx) (i : Nat) (h : i < n) : (rowsL n m a).getD i [] = rowL m a i := by simp [rowsL, List.getD_eq_getElem?_getD, h]
theorem rowsL_mx (n m : Nat) (a : Mx) (i j : Nat) (h : i < n) (k : j < m) : mx (rowsL n m a) i j = a i j := by unfold mx; rw [rowsL_get _ _ _ _ h, rowL_get _ _ _ _ k]
theorem rowsL_len (n m : Nat) (a : Mx) (i : Nat) (h : i < n) : ((rowsL n m a).getD i []).length = m := by rw [rowsL_get _ _ _ _ h, rowL_length]
theorem rowL_congr {m : Nat} {a b : Mx} {i : Nat} (h : ∀ j, j < m → a i j = b i j) : rowL m a i = rowL m b i := by
  unfold rowL; apply List.map_congr_left; intro j hj; exact h j (by simpa using hj)
theorem rowsL_congr {n m : Nat} {a b : Mx} (h : ∀ i j, i < n → j < m → a i j = b i j) : rowsL n m a = rowsL n m b := by
  unfold rowsL; apply List.map_congr_left; intro i hi; exact rowL_congr fun j hj => h i j (by simpa using hi) hj
def setD (D : Nat → Nat) (i E : Nat) : Nat → Nat := fun j => if j = i then E else D j
section
variable {w w' : World} {N G n k m : Nat} {D : Nat → Nat} {a b : Mx}
theorem Mp.ltG (h : Mp w N G n k m D a) : G < w.heap.size := h.hds.lt
theorem Mp.lt (h : Mp w N G n k m D a) (i : Nat) (hi : i < k) : D i < w.heap.size := (h.row i hi).lt
theorem Mp.of_below (h : Mp w N G n k m D a) (g : Below w.heap.size w w') : Mp w' N G n k m D a :=
  ⟨h.hds.of_below g, fun i hi => (h.row i hi).of_below g, h.inj, h.ne, h.lo, h.loG⟩
theorem Mp.dr (h : Mp w N G n k m D a) (g : Dr w w') : Mp w' N G n k m D a := by
  obtain ⟨M, rfl⟩ := g
  exact ⟨h.hds, h.row, h.inj, h.ne, h.lo, h.loG⟩
theorem Mp.drewN (h : Mp w N G n k m D a) (q : Nat) : Mp (w.drewN q) N G n k m D a := h.dr ((Dr.refl _).drewN q)
theorem Mp.congr (h : Mp w N G n k m D a) (e : ∀ i j, i < k → j < m → a i j = b i j) : Mp w N G n k m D b :=
  ⟨h.hds, fun i hi => (h.row i hi).congr fun j hj => by rw [e i j hi hj], h.inj, h.ne, h.lo, h.loG⟩
theorem Mp.cellH (h : Mp w N G n k m D a) (i : Nat) (hi : i < k) (hn : i < n) : w.cell? ⟨G, i, none⟩ = some (.slice (some ⟨D i, 0, none⟩) m m) := by
  rw [h.hds.cell i hn, hdr, if_pos hi]
theorem Mp.free (h : Mp w N G n k m D a) (i : Nat) : w.frozen? ⟨G, i, none⟩ = false := h.hds.free i
theorem Mp.cell (h : Mp w N G n k m D a) (i j : Nat) (hi : i < k) (hj : j < m) : w.cell? ⟨D i, j, none⟩ = some (B (a i j)) := (h.row i hi).cell j hj
theorem Mp.sl (h : Mp w N G n k m D a) (i : Nat) (hi : i < k) : Sl w (some ⟨D i, 0, none⟩) (rowL m a i) :=
  Sl.row (h.row i hi) (by rw [rowL_length]; exact Nat.le_refl _) fun j hj => by rw [rowL_length] at hj; rw [rowL_get _ _ _ _ hj]
theorem Mp.prt (h : Mp w N G n n m D a) : Prt w (some ⟨G, 0, none⟩) (rowsL n m a) := fun i hi => by
  rw [rowsL_length] at hi
  rw [rowsL_get _ _ _ _ hi]
  refine ⟨G, 0, some ⟨D i, 0, none⟩, m, rfl, ?_, h.sl i hi, (fun e => by cases e), by rw [rowL_length]; exact Nat.le_refl _⟩
  rw [Nat.zero_add, h.cellH i hi hi, rowL_length]
/-- No row is made. -/
theorem Mp.zero (h : Row w G 22 n (fun _ => .slice none 0 0)) (hN : N ≤ G) : Mp w N G n 0 m D a :=
  ⟨h.congr fun i _ => by rw [hdr, if_neg (by omega)], fun i hi => by omega, fun i j hi => by omega, fun i hi => by omega, fun i hi => by omega, hN⟩
/-- Another header at i, of a row that lies in block E. -/
theorem Mp.put (h : Mp w N G n k m D a) (i E : Nat) (r : Nat → BitVec 8) (hr : Row w E 5 m (fun j => B (r j))) (k' : Nat) (hk' : k' = k ∧ i < k ∨ k' = k + 1 ∧ i = k) (hE : ∀ j, j < k → j ≠ i → D j ≠ E) (hG : E ≠ G) (hN : N ≤ E) :
    Mp (w.setCell ⟨G, i, none⟩ (.slice (some ⟨E, 0, none⟩) m m)) N G n k' m (setD D i E) (setr a i r) := by
  have keep : ∀ b, b ≠ G → (w.setCell ⟨G, i, none⟩ (.slice (some ⟨E, 0, none⟩) m m)).heap[b]? = w.heap[b]? := fun b hb => Below.heap_setCell _ _ _ _ hb
  refine ⟨(h.hds.set i _).congr fun j hj => ?_, fun j hj => ?_, fun p q hp hq hpq => ?_, fun j hj => ?_, fun j hj => ?_, h.loG⟩
  · unfold hdr setD
    by_cases e : j = i
    · subst e; rw [if_pos rfl, if_pos (by omega), if_pos rfl]
    · rw [if_neg e]
      by_cases e2 : j < k
      · rw [if_pos e2, if_pos (by omega), if_neg e]
      · rw [if_neg e2, if_neg (by omega)]
  · by_cases e : j = i
    · subst e
      have e1 : setD D j E j = E := if_pos rfl
      rw [e1]
      exact (hr.of_block (keep E hG)).congr fun x _ => by rw [setr, if_pos rfl]
    · have e1 : setD D i E j = D j := if_neg e
      rw [e1]
      exact ((h.row j (by omega)).of_block (keep _ (h.ne j (by omega)))).congr fun x _ => by rw [setr, if_neg e]
  · unfold setD
    by_cases e1 : p = i
    · rw [if_pos e1, if_neg (by omega)]; exact (hE q (by omega) (by omega)).symm
    · rw [if_neg e1]
      by_cases e2 : q = i
      · rw [if_pos e2]; exact hE p (by omega) e1
      · rw [if_neg e2]; exact h.inj p q (by omega) (by omega) hpq
  · unfold setD
    by_cases e : j = i
    · rw [if_pos e]; exact hG
    · rw [if_neg e]; exact h.ne j (by omega)
  · unfold setD
    by_cases e : j = i
    · rw [if_pos e]; exact hN
    · rw [if_neg e]; exact h.lo j (by omega)
/-- One row has other numbers. -/
theorem Mp.alter (h : Mp w N G n k m D a) (i : Nat) (hi : i < k) (r : Nat → BitVec 8) (hk : Kp (D i) w w') (hr : Row w' (D i) 5 m (fun j => B (r j))) : Mp w' N G n k m D (setr a i r) := by
  refine ⟨h.hds.of_kp hk (Ne.symm (h.ne i hi)), fun j hj => ?_, h.inj, h.ne, h.lo, h.loG⟩
  by_cases e : j = i
  · subst e
    exact hr.congr fun x _ => by rw [setr, if_pos rfl]
  · exact ((h.row j hj).of_kp hk (h.inj j i hj hi e)).congr fun x _ => by rw [setr, if_neg e]
/-- Two headers exchanged. -/
theorem Mp.swap (h : Mp w N G n k m D a) (p q : Nat) (hp : p < k) (hq : q < k) :
    Mp ((w.setCell ⟨G, p, none⟩ (.slice (some ⟨D q, 0, none⟩) m m)).setCell ⟨G, q, none⟩ (.slice (some ⟨D p, 0, none⟩) m m)) N G n k m (fun i => D (swp p q i)) (rswap p q a) := by
  have keep : ∀ b, b ≠ G → ((w.setCell ⟨G, p, none⟩ (.slice (some ⟨D q, 0, none⟩) m m)).setCell ⟨G, q, none⟩ (.slice (some ⟨D p, 0, none⟩) m m)).heap[b]? = w.heap[b]? := fun b hb => by
    rw [Below.heap_setCell _ _ _ _ hb, Below.heap_setCell _ _ _ _ hb]
  have hs : ∀ i, i < k → swp p q i < k := fun i hi => by unfold swp; split; exact hq; split; exact hp; exact hi
  refine ⟨((h.hds.set p _).set q _).congr fun j hj => ?_, fun j hj => ?_, fun x y hx hy hxy => ?_, fun j hj => h.ne _ (hs j hj), fun j hj => h.lo _ (hs j hj), h.loG⟩
  · unfold hdr swp
    by_cases e1 : j = p
    · subst e1
      by_cases e2 : j = q
      · subst e2; simp [hp]
      · simp [e2, hp]
    · by_cases e2 : j = q
      · subst e2; simp [e1, hq]
      · simp [e1, e2]
  · exact (h.row _ (hs j hj)).of_block (keep _ (h.ne _ (hs j hj)))
  · refine h.inj _ _ (hs x hx) (hs y hy) fun e => hxy ?_
    have := congrArg (swp p q) e
    rwa [swp_swp, swp_swp] at this
end
theorem run_make_rows (t : TypeId) (h : Tryd.prog.underlying t = some (.slice 22)) (n : Nat) (w : World) (hn : n < 100000000) : (mkT t (.int .i64 (n : Int)) (.int .i64 (n : Int))).run Tryd.prog w = .ok (.value (.slice (some ⟨w.heap.size, 0, none⟩) n n)) (w.alloc (.cells (tab n (fun _ => .slice none 0 0)) 22)) := by
  have hi := infoB
  cases hq : Tryd.prog.info? 22 with
  | none => simp [hq] at hi
  | some i =>
    rw [hq] at hi
    simp only [Option.map_some, Option.some.injEq, Prod.mk.injEq] at hi
    obtain ⟨h1, h2, h3⟩ := hi
    have := run_make (P := Tryd.prog) w t 22 i (.slice none 0 0) h hq h1 .i64 .i64 n n (by omega) (Int.le_refl _) (by rw [h3]; omega) (by omega)
    rw [h2] at this
    simp only [Int.toNat_natCast, Nat.mul_one] at this
    simp only [mkT, Sem.run_bind, this, Result.andThen_ok, Sem.run_pure]
    congr 2
    rw [tab_const]
    congr 1
    apply Array.ext_getElem?
    intro j
    by_cases hj : j < n <;> simp [madeCells, Value.cells, hj, Nat.mod_one]
theorem mkR (n : Nat) (w : World) (hn : n < 100000000) : (mkT 42 (.int .i64 (n : Int)) (.int .i64 (n : Int))).run Tryd.prog w = .ok (.value (.slice (some ⟨w.heap.size, 0, none⟩) n n)) (w.alloc (.cells (tab n (fun _ => .slice none 0 0)) 22)) :=
  run_make_rows _ undRows n w hn
theorem mkM (n : Nat) (w : World) (hn : n < 100000000) : (mkT 70 (.int .i64 (n : Int)) (.int .i64 (n : Int))).run Tryd.prog w = .ok (.value (.slice (some ⟨w.heap.size, 0, none⟩) n n)) (w.alloc (.cells (tab n (fun _ => .slice none 0 0)) 22)) :=
  run_make_rows _ (by kernel_rfl) n w hn
theorem st_H (a : Addr) (q : Option Addr) (n c : Nat) (w : World) (hcell : (w.cell? a).isSome = true) (hf : w.frozen? a = false) : (stT 22 (.pointer (some a)) (.slice q n c)).run Tryd.prog w = .ok .skip (w.setCell a (.slice q n c)) :=
  stT_one 22 a _ w rfl rfl (by kernel_rfl) hcell hf
end Go.Proofs.YtkfceloaomlhmaaDoor
