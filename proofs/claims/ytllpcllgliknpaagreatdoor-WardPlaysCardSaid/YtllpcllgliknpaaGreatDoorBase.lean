/- Bytes as values, rows of memory, and what a call may change: small laws that the walks want; nothing of the program but its types. -/
import Derived.WalkKit
import Derived.Deep.MidRow
import Derived.Deep.WholeRow
import Derived.WalkSmall
import Derived.Lib.Hide
set_option linter.unusedSimpArgs false
set_option maxRecDepth 100000
set_option linter.unusedVariables false
namespace Go.Proofs.YtllpcllgliknpaaGreatDoor
open Go Go.RowKit

/-- A byte as a value. -/
def B (x : BitVec 8) : Value := .int .u8 (x.toNat : Int)
theorem B_eq' (x : BitVec 8) : B x = .int .u8 (x.toNat : Int) := rfl
theorem B_inj {x y : BitVec 8} (h : B x = B y) : x = y := by
  simp only [B, Value.int.injEq, true_and] at h
  exact BitVec.eq_of_toNat_eq (by omega)
theorem B_ofNat (n : Nat) (h : n < 256) : B (BitVec.ofNat 8 n) = .int .u8 (n : Int) := by
  rw [B_eq', BitVec.toNat_ofNat, Nat.mod_eq_of_lt h]
theorem B_0 : B 0#8 = .int .u8 0 := rfl
theorem B_1 : B 1#8 = .int .u8 1 := rfl
section
variable (t : TypeId)
theorem wrap_u8_bv (n : Nat) : IntKind.u8.wrap (n : Int) = ((BitVec.ofNat 8 n).toNat : Int) := by
  rw [IntKind.wrap_u8']; simp
theorem bB_xor (x y : BitVec 8) : binOp .xor t (B x) (B y) = pure (B (x ^^^ y)) := by
  have h : bits .xor .u8 (x.toNat : Int) (y.toNat : Int) = ((x ^^^ y).toNat : Int) := by
    rw [u8_xor_nat _ _ x.isLt y.isLt, BitVec.toNat_xor]
  simp only [B, binOp_xor, intBits_xor, h]
theorem B_beq (x y : BitVec 8) : ((x.toNat : Int) == (y.toNat : Int)) = (x == y) := by
  rw [Bool.eq_iff_iff]; simp only [beq_iff_eq]
  constructor
  · intro h; exact BitVec.eq_of_toNat_eq (by omega)
  · rintro rfl; rfl
theorem bB_eql (x y : BitVec 8) : binOp .eql t (B x) (B y) = pure (.bool (x == y)) := by
  simp only [B, binOp_eql, B_beq]
theorem bB_neq (x y : BitVec 8) : binOp .neq t (B x) (B y) = pure (.bool (x != y)) := by
  have h : ((x.toNat : Int) != (y.toNat : Int)) = (x != y) := by
    show (!_) = (!_)
    rw [B_beq]
  simp only [B, binOp_neq, h]
theorem bB_eql0 (x : BitVec 8) : binOp .eql t (B x) (.int .u8 0) = pure (.bool (x == 0#8)) := bB_eql t x 0#8
theorem bB_eql1 (x : BitVec 8) : binOp .eql t (B x) (.int .u8 1) = pure (.bool (x == 1#8)) := bB_eql t x 1#8
theorem bB_eql29 (x : BitVec 8) : binOp .eql t (B x) (.int .u8 29) = pure (.bool (x == 29#8)) := bB_eql t x 29#8
theorem bB_neq0 (x : BitVec 8) : binOp .neq t (B x) (.int .u8 0) = pure (.bool (x != 0#8)) := bB_neq t x 0#8
theorem bB_neq1 (x : BitVec 8) : binOp .neq t (B x) (.int .u8 1) = pure (.bool (x != 1#8)) := bB_neq t x 1#8
theorem guard_B (op : BinOp) (p q : Operand) (x : BitVec 8) (v : Value) : eqGuard op t p q (B x) v = pure () := eqGuard_at_int ..
theorem one_B (x : BitVec 8) : (B x).oneCell' = true := rfl
theorem cells_B (x : BitVec 8) : (B x).cells = #[B x] := rfl
theorem asIntOf_B (x : BitVec 8) : asIntOf (B x) = pure (IntKind.u8, (x.toNat : Int)) := rfl
end
section
variable {P : Program} (w : World)
theorem run_convert_IB (src dst : TypeId) (n : Nat) (hs : (P.underlying src).isSome = true) (hd : P.underlying dst = some (.int .u8)) :
    (convert src dst (.int .i64 (n : Int))).run P w = .ok (B (BitVec.ofNat 8 n)) w := by
  have hk : P.intKind dst = .u8 := by simp [Program.intKind, hd]
  have := run_convert_int (P := P) (w := w) src dst .i64 (n : Int) hs (by rw [hk]; exact hd)
  rw [hk, wrap_u8_bv] at this
  exact this
theorem run_convert_BI (src dst : TypeId) (x : BitVec 8) (hs : (P.underlying src).isSome = true) (hd : P.underlying dst = some (.int .i64)) :
    (convert src dst (B x)).run P w = .ok (.int .i64 (x.toNat : Int)) w := by
  have hk : P.intKind dst = .i64 := by simp [Program.intKind, hd]
  have := run_convert_int (P := P) (w := w) src dst .u8 (x.toNat : Int) hs (by rw [hk]; exact hd)
  rw [hk, IntWalk.i64_in _ (by have := x.isLt; omega)] at this
  exact this
theorem run_store_B (a : Addr) (x : BitVec 8) (m : Mode) : (store a (B x) m).run P w = stored P w a (B x) m := run_store P w a _ m rfl
end
theorem i64_xor_nat (a b : Nat) (ha : a < 4294967296) (hb : b < 4294967296) : bits .xor .i64 (a : Int) (b : Int) = ((a ^^^ b : Nat) : Int) := by
  have hx : a ^^^ b < 2 ^ 32 := Nat.xor_lt_two_pow (by omega) (by omega)
  have e : ∀ c : Nat, c < 4294967296 → (BitVec.ofInt 64 (c : Int)).toNat = c := fun c hc => by
    rw [BitVec.ofInt_natCast, BitVec.toNat_ofNat]; exact Nat.mod_eq_of_lt (by omega)
  show IntKind.i64.wrap ((BitVec.ofInt 64 (a : Int) ^^^ BitVec.ofInt 64 (b : Int)).toNat : Int) = _
  rw [BitVec.toNat_xor, e a ha, e b hb]
  exact IntWalk.i64_in _ (by omega)
attribute [irreducible] B
attribute [go_sem] bB_xor bB_eql bB_neq bB_eql0 bB_eql1 bB_eql29 bB_neq0 bB_neq1 guard_B run_convert_BI run_store_B one_B asIntOf_B

/-- Rows. -/
def tab (n : Nat) (f : Nat → Value) : Array Value := ((List.range n).map f).toArray
theorem tab_size (n : Nat) (f : Nat → Value) : (tab n f).size = n := by simp [tab]
theorem tab_get (n : Nat) (f : Nat → Value) (i : Nat) (h : i < n) : (tab n f)[i]? = some (f i) := by simp [tab, h]
theorem tab_congr {n : Nat} {f g : Nat → Value} (h : ∀ i, i < n → f i = g i) : tab n f = tab n g := by
  unfold tab
  congr 1
  apply List.map_congr_left
  intro i hi
  exact h i (by simpa using hi)
theorem tab_set (n : Nat) (f : Nat → Value) (i : Nat) (v : Value) : (tab n f).setIfInBounds i v = tab n (fun j => if j = i then v else f j) := by
  apply Array.ext_getElem?
  intro j
  by_cases hj : j < n
  · rw [tab_get n _ j hj, Array.getElem?_setIfInBounds]
    by_cases e : i = j
    · subst e; simp [tab_size, hj]
    · rw [if_neg e, tab_get n _ j hj, if_neg (Ne.symm e)]
  · have h1 : n ≤ j := by omega
    rw [Array.getElem?_eq_none (by simpa [tab] using h1), Array.getElem?_eq_none (by simpa [tab] using h1)]
theorem tab_const (n : Nat) (v : Value) : tab n (fun _ => v) = Array.replicate n v := by
  apply Array.ext_getElem?
  intro j
  by_cases hj : j < n <;> simp [tab, hj]
/-- n zero bytes. -/
def zb (n : Nat) : Array Value := tab n (fun _ => B 0#8)
theorem zb_eq (n : Nat) : zb n = Array.replicate n (Value.int .u8 0) := by
  rw [zb, tab_const]; unfold B; rfl

/-- Of the blocks that were there only block b may have changed. -/
structure Kp (b : Nat) (w w' : World) : Prop where
  os : w'.os = w.os
  tape : w'.tape = w.tape
  output : w'.output = w.output
  size : w.heap.size ≤ w'.heap.size
  block : ∀ k, k < w.heap.size → k ≠ b → w'.heap[k]? = w.heap[k]?
theorem Kp.refl (b : Nat) (w : World) : Kp b w w := ⟨rfl, rfl, rfl, Nat.le_refl _, fun _ _ _ => rfl⟩
theorem Kp.trans {b : Nat} {x y z : World} (h : Kp b x y) (k : Kp b y z) : Kp b x z :=
  ⟨k.os.trans h.os, k.tape.trans h.tape, k.output.trans h.output, Nat.le_trans h.size k.size, fun i hi hb => (k.block i (Nat.lt_of_lt_of_le hi h.size) hb).trans (h.block i hi hb)⟩
theorem Kp.of_below {b : Nat} {x y z : World} (h : Kp b x y) (k : Below y.heap.size y z) : Kp b x z :=
  h.trans ⟨k.os, k.tape, k.output, k.size, fun i hi _ => k.block i hi⟩
theorem Kp.drewN {b : Nat} {x y : World} (h : Kp b x y) (n : Nat) : Kp b x (y.drewN n) := h.trans ⟨rfl, rfl, rfl, Nat.le_refl _, fun _ _ _ => rfl⟩
theorem Kp.alloc {b : Nat} {x y : World} (h : Kp b x y) (o : Obj) : Kp b x (y.alloc o) := h.of_below ((Below.refl _ _).alloc (Nat.le_refl _) o)
theorem Kp.setCell {b : Nat} {x y : World} (h : Kp b x y) (i : Nat) (v : Value) : Kp b x (y.setCell ⟨b, i, none⟩ v) :=
  h.trans ⟨rfl, rfl, rfl, by simp, fun k _ hb => Below.heap_setCell _ _ _ _ hb⟩
/-- A store into a block that the call made. -/
theorem Kp.setNew {b : Nat} {x y : World} (h : Kp b x y) {a : Addr} (ha : x.heap.size ≤ a.block) (v : Value) : Kp b x (y.setCell a v) :=
  ⟨h.os, h.tape, h.output, by simpa using h.size, fun k hk hb => by rw [Below.heap_setCell _ _ _ _ (by omega)]; exact h.block k hk hb⟩
theorem Kp.cell {b : Nat} {x y : World} (h : Kp b x y) {p : Addr} (hp : p.block < x.heap.size) (hb : p.block ≠ b) : y.cell? p = x.cell? p := World.cell?_of_block (w := x) (h.block p.block hp hb)
theorem Kp.frozen {b : Nat} {x y : World} (h : Kp b x y) {p : Addr} (hp : p.block < x.heap.size) (hb : p.block ≠ b) : y.frozen? p = x.frozen? p := World.frozen?_of_block (w := x) (h.block p.block hp hb)
/-- Where b itself was made by the call, nothing that was there has changed. -/
theorem Kp.below {b : Nat} {x y : World} (h : Kp b x y) {N : Nat} (hN : N ≤ b) (hx : N ≤ x.heap.size) : Below N x y :=
  ⟨h.os, h.tape, h.output, h.size, fun k hk => h.block k (by omega) (by omega)⟩

/-- Block b is a row of n values. -/
def Row (w : World) (b : Nat) (T : TypeId) (n : Nat) (g : Nat → Value) : Prop := w.heap[b]? = some (.cells (tab n g) T (0, 0))
section
variable {w : World} {b : Nat} {T : TypeId} {n : Nat} {g : Nat → Value}
theorem Row.lt (h : Row w b T n g) : b < w.heap.size := by
  rcases Nat.lt_or_ge b w.heap.size with h' | h'
  · exact h'
  · unfold Row at h; rw [Array.getElem?_eq_none h'] at h; cases h
theorem Row.cell (h : Row w b T n g) (i : Nat) (hi : i < n) : w.cell? ⟨b, i, none⟩ = some (g i) := by
  rw [cell_of_row w b i _ T (0, 0) h, tab_get _ _ _ hi]
theorem Row.free (h : Row w b T n g) (i : Nat) : w.frozen? ⟨b, i, none⟩ = false := by
  unfold Row at h
  simp only [World.frozen?, h]
  simp
theorem Row.of_block {w' : World} (h : Row w b T n g) (e : w'.heap[b]? = w.heap[b]?) : Row w' b T n g := e.trans h
theorem Row.of_below {w' : World} (h : Row w b T n g) (k : Below w.heap.size w w') : Row w' b T n g := h.of_block (k.block b h.lt)
theorem Row.below {w' : World} {N : Nat} (h : Row w b T n g) (k : Below N w w') (hb : b < N) : Row w' b T n g := h.of_block (k.block b hb)
theorem Row.of_kp {w' : World} {c : Nat} (h : Row w b T n g) (k : Kp c w w') (hc : b ≠ c) : Row w' b T n g := h.of_block (k.block b h.lt hc)
theorem Row.drewN (h : Row w b T n g) (k : Nat) : Row (w.drewN k) b T n g := h
theorem Row.drew (h : Row w b T n g) : Row w.drew b T n g := h
theorem Row.congr (h : Row w b T n g) {g' : Nat → Value} (e : ∀ i, i < n → g i = g' i) : Row w b T n g' := by
  unfold Row at h ⊢; rw [h, tab_congr e]
theorem Row.set (h : Row w b T n g) (i : Nat) (v : Value) : Row (w.setCell ⟨b, i, none⟩ v) b T n (fun j => if j = i then v else g j) := by
  unfold Row at h ⊢
  simp only [World.setCell, Array.getElem?_modify, if_true, h, Option.map_some]
  simp only [Option.isSome_none, Bool.false_eq_true, if_false, tab_set]
theorem Row.range (h : Row w b T n g) : w.rangeAt b 0 (tab n g).toList := by
  intro j v hv
  rw [Nat.zero_add, cell_of_row w b j _ T (0, 0) h]
  simpa using hv
theorem Row.new (w : World) (T : TypeId) (n : Nat) (g : Nat → Value) : Row (w.alloc (.cells (tab n g) T)) w.heap.size T n g := heap_alloc_last w _
end
/-- The same world but for draws. -/
def Dr (w w' : World) : Prop := ∃ N, w' = w.drewN N
theorem Dr.refl (w : World) : Dr w w := ⟨0, rfl⟩
theorem Dr.drewN {x y : World} (h : Dr x y) (n : Nat) : Dr x (y.drewN n) := by
  obtain ⟨N, rfl⟩ := h; exact ⟨N + n, by rw [World.drewN_drewN]⟩
theorem Dr.drew {x y : World} (h : Dr x y) : Dr x y.drew := h.drewN 1
theorem Dr.trans {x y z : World} (h : Dr x y) (k : Dr y z) : Dr x z := by
  obtain ⟨N, rfl⟩ := k; exact h.drewN N
theorem Dr.heap {x y : World} (h : Dr x y) : y.heap = x.heap := by obtain ⟨N, rfl⟩ := h; rfl
theorem Dr.cell {x y : World} (h : Dr x y) (a : Addr) : y.cell? a = x.cell? a := by obtain ⟨N, rfl⟩ := h; rfl
theorem Dr.frozen {x y : World} (h : Dr x y) (a : Addr) : y.frozen? a = x.frozen? a := by obtain ⟨N, rfl⟩ := h; rfl
theorem Dr.below {x y : World} (h : Dr x y) (B : Nat) : Below B x y := by obtain ⟨N, rfl⟩ := h; exact below_drewN (Below.refl _ _) N
theorem Row.dr {w w' : World} {b : Nat} {T : TypeId} {n : Nat} {g : Nat → Value} (h : Row w b T n g) (k : Dr w w') : Row w' b T n g := by obtain ⟨N, rfl⟩ := k; exact h
theorem setCell_drewN (w : World) (n : Nat) (a : Addr) (v : Value) : (w.drewN n).setCell a v = (w.setCell a v).drewN n := rfl
attribute [go_sem] setCell_drewN

/-- The bytes l lie where a slice of their length begins. -/
def Sl (w : World) (p : Option Addr) (l : List (BitVec 8)) : Prop := ∀ j, j < l.length → ∃ c o, p = some ⟨c, o, none⟩ ∧ w.cell? ⟨c, o + j, none⟩ = some (B (l.getD j 0#8))
theorem Sl.of_below {w w' : World} {p : Option Addr} {l : List (BitVec 8)} (h : Sl w p l) (k : Below w.heap.size w w') : Sl w' p l := fun j hj => by
  obtain ⟨c, o, e, hc⟩ := h j hj
  refine ⟨c, o, e, ?_⟩
  rw [k.cell (World.block_lt_of_cell? w _ hc)]
  exact hc
theorem Sl.dr {w w' : World} {p : Option Addr} {l : List (BitVec 8)} (h : Sl w p l) (k : Dr w w') : Sl w' p l := by obtain ⟨N, rfl⟩ := k; exact h
theorem Sl.nil (w : World) (p : Option Addr) : Sl w p [] := fun j hj => absurd hj (by simp)
theorem Sl.row {w : World} {b : Nat} {T : TypeId} {l : List (BitVec 8)} {n : Nat} {g : Nat → Value} (h : Row w b T n g) (hl : l.length ≤ n) (e : ∀ j, j < l.length → g j = B (l.getD j 0#8)) : Sl w (some ⟨b, 0, none⟩) l := fun j hj =>
  ⟨b, 0, rfl, by rw [Nat.zero_add, h.cell j (by omega), e j hj]⟩
theorem Sl.cells {w : World} {p : Option Addr} {l : List (BitVec 8)} (h : Sl w p l) (hl : 0 < l.length) : ∃ c o, p = some ⟨c, o, none⟩ ∧ c < w.heap.size ∧ ∀ j, j < l.length → w.cell? ⟨c, o + j, none⟩ = some (B (l.getD j 0#8)) := by
  obtain ⟨c, o, e, hc⟩ := h 0 hl
  refine ⟨c, o, e, World.block_lt_of_cell? w _ hc, fun j hj => ?_⟩
  obtain ⟨c', o', e', hc'⟩ := h j hj
  rw [e] at e'
  injection e' with e'
  injection e' with h1 h2
  subst h1 h2
  exact hc'
theorem take_getD {α : Type} (l : List α) (d : α) (k : Nat) (h : k < l.length) : l.take (k + 1) = l.take k ++ [l.getD k d] := by
  rw [List.take_succ_eq_append_getElem h]
  simp [List.getD_eq_getElem?_getD, h]

/-- A store, a build, a box, a make, an element's address: their operands reckoned first. -/
def stT (t : TypeId) (p v : Value) : Sem Next := do Instr.storeAt t p v; pure .skip
theorem exec_store (r : Operand → Value) (dst : Option Tmp) (t : TypeId) (p v : Operand) (ty : TypeId) (pos : String) (after : Array Edge) (guard : Option (Nat × Bool)) :
    execOp r ⟨dst, .store t p v, ty, pos, after, guard⟩ = stT t (r p) (r v) := rfl
theorem stT_one {P : Program} (t : TypeId) (a : Addr) (v : Value) (w : World) (hv : v.oneCell' = true) (hc : v.cells = #[v]) (hs : (P.info? t).map (·.size) = some 1)
    (hcell : (w.cell? a).isSome = true) (hf : w.frozen? a = false) : (stT t (.pointer (some a)) v).run P w = .ok .skip (w.setCell a v) := by
  obtain ⟨u, hu⟩ := Option.isSome_iff_exists.1 hcell
  cases hq : P.info? t with
  | none => simp [hq] at hs
  | some i =>
    have hi : i.size = 1 := by simpa [hq] using hs
    simp [stT, Instr.storeAt, Instr.sureAddr, storeVar, hc, sizeOf, typeInfo, hq, hi, storeCells, Addr.add_zero', run_store P w a v _ hv, stored, hu, hf]
def bdT (t : TypeId) (parts : Array (Nat × Value)) : Sem Next := do pure (.value (← Instr.build t parts))
theorem exec_build (r : Operand → Value) (dst : Option Tmp) (t : TypeId) (parts : Array (Nat × Operand)) (ty : TypeId) (pos : String) (after : Array Edge) (guard : Option (Nat × Bool)) :
    execOp r ⟨dst, .build t parts, ty, pos, after, guard⟩ = bdT t (parts.map fun x => (x.1, r x.2)) := rfl
def bxT (t : TypeId) (x : Value) : Sem Next := do pure (.value (← Instr.box t x))
theorem exec_box (r : Operand → Value) (dst : Option Tmp) (t : TypeId) (x : Operand) (ty : TypeId) (pos : String) (after : Array Edge) (guard : Option (Nat × Bool)) :
    execOp r ⟨dst, .box t x, ty, pos, after, guard⟩ = bxT t (r x) := rfl
def mkT (t : TypeId) (l c : Value) : Sem Next := do pure (.value (← Instr.makeSlice t l c))
theorem exec_make (r : Operand → Value) (dst : Option Tmp) (t : TypeId) (l c : Operand) (ty : TypeId) (pos : String) (after : Array Edge) (guard : Option (Nat × Bool)) :
    execOp r ⟨dst, .makeSlice t l c, ty, pos, after, guard⟩ = mkT t (r l) (r c) := rfl
def bsT (t : TypeId) (n : Nat) (parts : Array (Nat × Value)) : Sem Next := do pure (.value (← Instr.buildSlice t n parts))
theorem exec_bs (r : Operand → Value) (dst : Option Tmp) (t : TypeId) (n : Nat) (parts : Array (Nat × Operand)) (ty : TypeId) (pos : String) (after : Array Edge) (guard : Option (Nat × Bool)) :
    execOp r ⟨dst, .buildSlice t n parts, ty, pos, after, guard⟩ = bsT t n (parts.map fun x => (x.1, r x.2)) := rfl
theorem run_indexAt_B {P : Program} {w : World} (t e : TypeId) (n : Nat) (a : Addr) (x : BitVec 8) (h : P.underlying t = some (.array n e)) (hn : x.toNat < n) (hs : (P.info? e).map (·.size) = some 1) :
    (Instr.indexAt t (.pointer (some a)) (B x)).run P w = .ok (.pointer (some (a.add x.toNat))) w := by
  cases hq : P.info? e with
  | none => simp [hq] at hs
  | some i =>
    have hi : i.size = 1 := by simpa [hq] using hs
    have h0 : (0 : Int) ≤ (x.toNat : Int) ∧ (x.toNat : Int) < (n : Int) := by omega
    simp [Instr.indexAt, run_underlying h, Instr.sureAddr, asIntOf_B, sizeOf, typeInfo, hq, hi, h0, hn]
end Go.Proofs.YtllpcllgliknpaaGreatDoor
