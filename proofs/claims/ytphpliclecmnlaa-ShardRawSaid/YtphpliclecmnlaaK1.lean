/- Merged texts: Base, Gf, Ref, Mat, RefC. -/
import Derived.WalkKit
import Derived.Deep.MidRow
import Derived.Deep.WholeRow
import Derived.WalkSmall
import Derived.Lib.Hide
import Derived.Test.YtphpliclecmnlaaRows
import Derived.Deep.LoopGhost
set_option linter.unusedSimpArgs false
set_option linter.unusedVariables false
/- Bytes as values, rows of memory, and what a call may change: small laws that the walks want; nothing of the program but its types. -/
namespace Go.Proofs.Ytphpliclecmnlaa
open Go Go.RowKit

/-- A byte as a value. -/
def B (x : BitVec 8) : Value := .int .u8 (x.toNat : Int)
theorem B_eq' (x : BitVec 8) : B x = .int .u8 (x.toNat : Int) := rfl
theorem B_inj {x y : BitVec 8} (h : B x = B y) : x = y := by
  simp only [B, Value.int.injEq, true_and] at h
  exact BitVec.eq_of_toNat_eq (by omega)
theorem B_ofNat (n : Nat) (h : n < 256) : B (BitVec.ofNat 8 n) = .int .u8 (n : Int) := by
  rw [B_eq', BitVec.toNat_ofNat, Nat.mod_eq_of_lt h]
theorem B_0 : B 0#8 = .int .u8 0 := rfl
theorem B_1 : B 1#8 = .int .u8 1 := rfl
section
variable (t : TypeId)
theorem wrap_u8_bv (n : Nat) : IntKind.u8.wrap (n : Int) = ((BitVec.ofNat 8 n).toNat : Int) := by
  rw [IntKind.wrap_u8']; simp
theorem bB_xor (x y : BitVec 8) : binOp .xor t (B x) (B y) = pure (B (x ^^^ y)) := by
  have h : bits .xor .u8 (x.toNat : Int) (y.toNat : Int) = ((x ^^^ y).toNat : Int) := by
    rw [u8_xor_nat _ _ x.isLt y.isLt, BitVec.toNat_xor]
  simp only [B, binOp_xor, intBits_xor, h]
theorem B_beq (x y : BitVec 8) : ((x.toNat : Int) == (y.toNat : Int)) = (x == y) := by
  rw [Bool.eq_iff_iff]; simp only [beq_iff_eq]
  constructor
  · intro h; exact BitVec.eq_of_toNat_eq (by omega)
  · rintro rfl; rfl
theorem bB_eql (x y : BitVec 8) : binOp .eql t (B x) (B y) = pure (.bool (x == y)) := by
  simp only [B, binOp_eql, B_beq]
theorem bB_neq (x y : BitVec 8) : binOp .neq t (B x) (B y) = pure (.bool (x != y)) := by
  have h : ((x.toNat : Int) != (y.toNat : Int)) = (x != y) := by
    show (!_) = (!_)
    rw [B_beq]
  simp only [B, binOp_neq, h]
theorem bB_eql0 (x : BitVec 8) : binOp .eql t (B x) (.int .u8 0) = pure (.bool (x == 0#8)) := bB_eql t x 0#8
theorem bB_eql1 (x : BitVec 8) : binOp .eql t (B x) (.int .u8 1) = pure (.bool (x == 1#8)) := bB_eql t x 1#8
theorem bB_eql29 (x : BitVec 8) : binOp .eql t (B x) (.int .u8 29) = pure (.bool (x == 29#8)) := bB_eql t x 29#8
theorem bB_neq0 (x : BitVec 8) : binOp .neq t (B x) (.int .u8 0) = pure (.bool (x != 0#8)) := bB_neq t x 0#8
theorem bB_neq1 (x : BitVec 8) : binOp .neq t (B x) (.int .u8 1) = pure (.bool (x != 1#8)) := bB_neq t x 1#8
theorem guard_B (op : BinOp) (p q : Operand) (x : BitVec 8) (v : Value) : eqGuard op t p q (B x) v = pure () := eqGuard_at_int ..
theorem one_B (x : BitVec 8) : (B x).oneCell' = true := rfl
theorem cells_B (x : BitVec 8) : (B x).cells = #[B x] := rfl
theorem asIntOf_B (x : BitVec 8) : asIntOf (B x) = pure (IntKind.u8, (x.toNat : Int)) := rfl
end
section
variable {P : Program} (w : World)
theorem run_convert_IB (src dst : TypeId) (n : Nat) (hs : (P.underlying src).isSome = true) (hd : P.underlying dst = some (.int .u8)) :
    (convert src dst (.int .i64 (n : Int))).run P w = .ok (B (BitVec.ofNat 8 n)) w := by
  have hk : P.intKind dst = .u8 := by simp [Program.intKind, hd]
  have := run_convert_int (P := P) (w := w) src dst .i64 (n : Int) hs (by rw [hk]; exact hd)
  rw [hk, wrap_u8_bv] at this
  exact this
theorem run_convert_BI (src dst : TypeId) (x : BitVec 8) (hs : (P.underlying src).isSome = true) (hd : P.underlying dst = some (.int .i64)) :
    (convert src dst (B x)).run P w = .ok (.int .i64 (x.toNat : Int)) w := by
  have hk : P.intKind dst = .i64 := by simp [Program.intKind, hd]
  have := run_convert_int (P := P) (w := w) src dst .u8 (x.toNat : Int) hs (by rw [hk]; exact hd)
  rw [hk, IntWalk.i64_in _ (by have := x.isLt; omega)] at this
  exact this
theorem run_store_B (a : Addr) (x : BitVec 8) (m : Mode) : (store a (B x) m).run P w = stored P w a (B x) m := run_store P w a _ m rfl
end
theorem i64_xor_nat (a b : Nat) (ha : a < 4294967296) (hb : b < 4294967296) : bits .xor .i64 (a : Int) (b : Int) = ((a ^^^ b : Nat) : Int) := by
  have hx : a ^^^ b < 2 ^ 32 := Nat.xor_lt_two_pow (by omega) (by omega)
  have e : ∀ c : Nat, c < 4294967296 → (BitVec.ofInt 64 (c : Int)).toNat = c := fun c hc => by
    rw [BitVec.ofInt_natCast, BitVec.toNat_ofNat]; exact Nat.mod_eq_of_lt (by omega)
  show IntKind.i64.wrap ((BitVec.ofInt 64 (a : Int) ^^^ BitVec.ofInt 64 (b : Int)).toNat : Int) = _
  rw [BitVec.toNat_xor, e a ha, e b hb]
  exact IntWalk.i64_in _ (by omega)
attribute [irreducible] B
attribute [go_sem] bB_xor bB_eql bB_neq bB_eql0 bB_eql1 bB_eql29 bB_neq0 bB_neq1 guard_B run_convert_BI run_store_B one_B asIntOf_B

/-- Rows. -/
def tab (n : Nat) (f : Nat → Value) : Array Value := ((List.range n).map f).toArray
theorem tab_size (n : Nat) (f : Nat → Value) : (tab n f).size = n := by simp [tab]
theorem tab_get (n : Nat) (f : Nat → Value) (i : Nat) (h : i < n) : (tab n f)[i]? = some (f i) := by simp [tab, h]
theorem tab_congr {n : Nat} {f g : Nat → Value} (h : ∀ i, i < n → f i = g i) : tab n f = tab n g := by
  unfold tab
  congr 1
  apply List.map_congr_left
  intro i hi
  exact h i (by simpa using hi)
theorem tab_set (n : Nat) (f : Nat → Value) (i : Nat) (v : Value) : (tab n f).setIfInBounds i v = tab n (fun j => if j = i then v else f j) := by
  apply Array.ext_getElem?
  intro j
  by_cases hj : j < n
  · rw [tab_get n _ j hj, Array.getElem?_setIfInBounds]
    by_cases e : i = j
    · subst e; simp [tab_size, hj]
    · rw [if_neg e, tab_get n _ j hj, if_neg (Ne.symm e)]
  · have h1 : n ≤ j := by omega
    rw [Array.getElem?_eq_none (by simpa [tab] using h1), Array.getElem?_eq_none (by simpa [tab] using h1)]
theorem tab_const (n : Nat) (v : Value) : tab n (fun _ => v) = Array.replicate n v := by
  apply Array.ext_getElem?
  intro j
  by_cases hj : j < n <;> simp [tab, hj]
/-- n zero bytes. -/
def zb (n : Nat) : Array Value := tab n (fun _ => B 0#8)
theorem zb_eq (n : Nat) : zb n = Array.replicate n (Value.int .u8 0) := by
  rw [zb, tab_const]; unfold B; rfl

/-- Of the blocks that were there only block b may have changed. -/
structure Kp (b : Nat) (w w' : World) : Prop where
  os : w'.os = w.os
  tape : w'.tape = w.tape
  output : w'.output = w.output
  size : w.heap.size ≤ w'.heap.size
  block : ∀ k, k < w.heap.size → k ≠ b → w'.heap[k]? = w.heap[k]?
theorem Kp.refl (b : Nat) (w : World) : Kp b w w := ⟨rfl, rfl, rfl, Nat.le_refl _, fun _ _ _ => rfl⟩
theorem Kp.trans {b : Nat} {x y z : World} (h : Kp b x y) (k : Kp b y z) : Kp b x z :=
  ⟨k.os.trans h.os, k.tape.trans h.tape, k.output.trans h.output, Nat.le_trans h.size k.size, fun i hi hb => (k.block i (Nat.lt_of_lt_of_le hi h.size) hb).trans (h.block i hi hb)⟩
theorem Kp.of_below {b : Nat} {x y z : World} (h : Kp b x y) (k : Below y.heap.size y z) : Kp b x z :=
  h.trans ⟨k.os, k.tape, k.output, k.size, fun i hi _ => k.block i hi⟩
theorem Kp.drewN {b : Nat} {x y : World} (h : Kp b x y) (n : Nat) : Kp b x (y.drewN n) := h.trans ⟨rfl, rfl, rfl, Nat.le_refl _, fun _ _ _ => rfl⟩
theorem Kp.alloc {b : Nat} {x y : World} (h : Kp b x y) (o : Obj) : Kp b x (y.alloc o) := h.of_below ((Below.refl _ _).alloc (Nat.le_refl _) o)
theorem Kp.setCell {b : Nat} {x y : World} (h : Kp b x y) (i : Nat) (v : Value) : Kp b x (y.setCell ⟨b, i, none⟩ v) :=
  h.trans ⟨rfl, rfl, rfl, by simp, fun k _ hb => Below.heap_setCell _ _ _ _ hb⟩
/-- A store into a block that the call made. -/
theorem Kp.setNew {b : Nat} {x y : World} (h : Kp b x y) {a : Addr} (ha : x.heap.size ≤ a.block) (v : Value) : Kp b x (y.setCell a v) :=
  ⟨h.os, h.tape, h.output, by simpa using h.size, fun k hk hb => by rw [Below.heap_setCell _ _ _ _ (by omega)]; exact h.block k hk hb⟩
theorem Kp.cell {b : Nat} {x y : World} (h : Kp b x y) {p : Addr} (hp : p.block < x.heap.size) (hb : p.block ≠ b) : y.cell? p = x.cell? p := World.cell?_of_block (w := x) (h.block p.block hp hb)
theorem Kp.frozen {b : Nat} {x y : World} (h : Kp b x y) {p : Addr} (hp : p.block < x.heap.size) (hb : p.block ≠ b) : y.frozen? p = x.frozen? p := World.frozen?_of_block (w := x) (h.block p.block hp hb)
/-- Where b itself was made by the call, nothing that was there has changed. -/
theorem Kp.below {b : Nat} {x y : World} (h : Kp b x y) {N : Nat} (hN : N ≤ b) (hx : N ≤ x.heap.size) : Below N x y :=
  ⟨h.os, h.tape, h.output, h.size, fun k hk => h.block k (by omega) (by omega)⟩

/-- Block b is a row of n values. -/
def Row (w : World) (b : Nat) (T : TypeId) (n : Nat) (g : Nat → Value) : Prop := w.heap[b]? = some (.cells (tab n g) T (0, 0))
section
variable {w : World} {b : Nat} {T : TypeId} {n : Nat} {g : Nat → Value}
theorem Row.lt (h : Row w b T n g) : b < w.heap.size := by
  rcases Nat.lt_or_ge b w.heap.size with h' | h'
  · exact h'
  · unfold Row at h; rw [Array.getElem?_eq_none h'] at h; cases h
theorem Row.cell (h : Row w b T n g) (i : Nat) (hi : i < n) : w.cell? ⟨b, i, none⟩ = some (g i) := by
  rw [cell_of_row w b i _ T (0, 0) h, tab_get _ _ _ hi]
theorem Row.free (h : Row w b T n g) (i : Nat) : w.frozen? ⟨b, i, none⟩ = false := by
  unfold Row at h
  simp only [World.frozen?, h]
  simp
theorem Row.of_block {w' : World} (h : Row w b T n g) (e : w'.heap[b]? = w.heap[b]?) : Row w' b T n g := e.trans h
theorem Row.of_below {w' : World} (h : Row w b T n g) (k : Below w.heap.size w w') : Row w' b T n g := h.of_block (k.block b h.lt)
theorem Row.below {w' : World} {N : Nat} (h : Row w b T n g) (k : Below N w w') (hb : b < N) : Row w' b T n g := h.of_block (k.block b hb)
theorem Row.of_kp {w' : World} {c : Nat} (h : Row w b T n g) (k : Kp c w w') (hc : b ≠ c) : Row w' b T n g := h.of_block (k.block b h.lt hc)
theorem Row.drewN (h : Row w b T n g) (k : Nat) : Row (w.drewN k) b T n g := h
theorem Row.drew (h : Row w b T n g) : Row w.drew b T n g := h
theorem Row.congr (h : Row w b T n g) {g' : Nat → Value} (e : ∀ i, i < n → g i = g' i) : Row w b T n g' := by
  unfold Row at h ⊢; rw [h, tab_congr e]
theorem Row.set (h : Row w b T n g) (i : Nat) (v : Value) : Row (w.setCell ⟨b, i, none⟩ v) b T n (fun j => if j = i then v else g j) := by
  unfold Row at h ⊢
  simp only [World.setCell, Array.getElem?_modify, if_true, h, Option.map_some]
  simp only [Option.isSome_none, Bool.false_eq_true, if_false, tab_set]
theorem Row.range (h : Row w b T n g) : w.rangeAt b 0 (tab n g).toList := by
  intro j v hv
  rw [Nat.zero_add, cell_of_row w b j _ T (0, 0) h]
  simpa using hv
theorem Row.new (w : World) (T : TypeId) (n : Nat) (g : Nat → Value) : Row (w.alloc (.cells (tab n g) T)) w.heap.size T n g := heap_alloc_last w _
end
/-- The same world but for draws. -/
def Dr (w w' : World) : Prop := ∃ N, w' = w.drewN N
theorem Dr.refl (w : World) : Dr w w := ⟨0, rfl⟩
theorem Dr.drewN {x y : World} (h : Dr x y) (n : Nat) : Dr x (y.drewN n) := by
  obtain ⟨N, rfl⟩ := h; exact ⟨N + n, by rw [World.drewN_drewN]⟩
theorem Dr.drew {x y : World} (h : Dr x y) : Dr x y.drew := h.drewN 1
theorem Dr.trans {x y z : World} (h : Dr x y) (k : Dr y z) : Dr x z := by
  obtain ⟨N, rfl⟩ := k; exact h.drewN N
theorem Dr.heap {x y : World} (h : Dr x y) : y.heap = x.heap := by obtain ⟨N, rfl⟩ := h; rfl
theorem Dr.cell {x y : World} (h : Dr x y) (a : Addr) : y.cell? a = x.cell? a := by obtain ⟨N, rfl⟩ := h; rfl
theorem Dr.frozen {x y : World} (h : Dr x y) (a : Addr) : y.frozen? a = x.frozen? a := by obtain ⟨N, rfl⟩ := h; rfl
theorem Dr.below {x y : World} (h : Dr x y) (B : Nat) : Below B x y := by obtain ⟨N, rfl⟩ := h; exact below_drewN (Below.refl _ _) N
theorem Row.dr {w w' : World} {b : Nat} {T : TypeId} {n : Nat} {g : Nat → Value} (h : Row w b T n g) (k : Dr w w') : Row w' b T n g := by obtain ⟨N, rfl⟩ := k; exact h
theorem setCell_drewN (w : World) (n : Nat) (a : Addr) (v : Value) : (w.drewN n).setCell a v = (w.setCell a v).drewN n := rfl
attribute [go_sem] setCell_drewN

/-- The bytes l lie where a slice of their length begins. -/
def Sl (w : World) (p : Option Addr) (l : List (BitVec 8)) : Prop := ∀ j, j < l.length → ∃ c o, p = some ⟨c, o, none⟩ ∧ w.cell? ⟨c, o + j, none⟩ = some (B (l.getD j 0#8))
theorem Sl.of_below {w w' : World} {p : Option Addr} {l : List (BitVec 8)} (h : Sl w p l) (k : Below w.heap.size w w') : Sl w' p l := fun j hj => by
  obtain ⟨c, o, e, hc⟩ := h j hj
  refine ⟨c, o, e, ?_⟩
  rw [k.cell (World.block_lt_of_cell? w _ hc)]
  exact hc
theorem Sl.dr {w w' : World} {p : Option Addr} {l : List (BitVec 8)} (h : Sl w p l) (k : Dr w w') : Sl w' p l := by obtain ⟨N, rfl⟩ := k; exact h
theorem Sl.nil (w : World) (p : Option Addr) : Sl w p [] := fun j hj => absurd hj (by simp)
theorem Sl.row {w : World} {b : Nat} {T : TypeId} {l : List (BitVec 8)} {n : Nat} {g : Nat → Value} (h : Row w b T n g) (hl : l.length ≤ n) (e : ∀ j, j < l.length → g j = B (l.getD j 0#8)) : Sl w (some ⟨b, 0, none⟩) l := fun j hj =>
  ⟨b, 0, rfl, by rw [Nat.zero_add, h.cell j (by omega), e j hj]⟩
theorem Sl.cells {w : World} {p : Option Addr} {l : List (BitVec 8)} (h : Sl w p l) (hl : 0 < l.length) : ∃ c o, p = some ⟨c, o, none⟩ ∧ c < w.heap.size ∧ ∀ j, j < l.length → w.cell? ⟨c, o + j, none⟩ = some (B (l.getD j 0#8)) := by
  obtain ⟨c, o, e, hc⟩ := h 0 hl
  refine ⟨c, o, e, World.block_lt_of_cell? w _ hc, fun j hj => ?_⟩
  obtain ⟨c', o', e', hc'⟩ := h j hj
  rw [e] at e'
  injection e' with e'
  injection e' with h1 h2
  subst h1 h2
  exact hc'
theorem take_getD {α : Type} (l : List α) (d : α) (k : Nat) (h : k < l.length) : l.take (k + 1) = l.take k ++ [l.getD k d] := by
  rw [List.take_succ_eq_append_getElem h]
  simp [List.getD_eq_getElem?_getD, h]

/-- A store, a build, a box, a make, an element's address: their operands reckoned first. -/
def stT (t : TypeId) (p v : Value) : Sem Next := do Instr.storeAt t p v; pure .skip
theorem exec_store (r : Operand → Value) (dst : Option Tmp) (t : TypeId) (p v : Operand) (ty : TypeId) (pos : String) (after : Array Edge) (guard : Option (Nat × Bool)) :
    execOp r ⟨dst, .store t p v, ty, pos, after, guard⟩ = stT t (r p) (r v) := rfl
theorem stT_one {P : Program} (t : TypeId) (a : Addr) (v : Value) (w : World) (hv : v.oneCell' = true) (hc : v.cells = #[v]) (hs : (P.info? t).map (·.size) = some 1)
    (hcell : (w.cell? a).isSome = true) (hf : w.frozen? a = false) : (stT t (.pointer (some a)) v).run P w = .ok .skip (w.setCell a v) := by
  obtain ⟨u, hu⟩ := Option.isSome_iff_exists.1 hcell
  cases hq : P.info? t with
  | none => simp [hq] at hs
  | some i =>
    have hi : i.size = 1 := by simpa [hq] using hs
    simp [stT, Instr.storeAt, Instr.sureAddr, storeVar, hc, sizeOf, typeInfo, hq, hi, storeCells, Addr.add_zero', run_store P w a v _ hv, stored, hu, hf]
def bdT (t : TypeId) (parts : Array (Nat × Value)) : Sem Next := do pure (.value (← Instr.build t parts))
theorem exec_build (r : Operand → Value) (dst : Option Tmp) (t : TypeId) (parts : Array (Nat × Operand)) (ty : TypeId) (pos : String) (after : Array Edge) (guard : Option (Nat × Bool)) :
    execOp r ⟨dst, .build t parts, ty, pos, after, guard⟩ = bdT t (parts.map fun x => (x.1, r x.2)) := rfl
def bxT (t : TypeId) (x : Value) : Sem Next := do pure (.value (← Instr.box t x))
theorem exec_box (r : Operand → Value) (dst : Option Tmp) (t : TypeId) (x : Operand) (ty : TypeId) (pos : String) (after : Array Edge) (guard : Option (Nat × Bool)) :
    execOp r ⟨dst, .box t x, ty, pos, after, guard⟩ = bxT t (r x) := rfl
def mkT (t : TypeId) (l c : Value) : Sem Next := do pure (.value (← Instr.makeSlice t l c))
theorem exec_make (r : Operand → Value) (dst : Option Tmp) (t : TypeId) (l c : Operand) (ty : TypeId) (pos : String) (after : Array Edge) (guard : Option (Nat × Bool)) :
    execOp r ⟨dst, .makeSlice t l c, ty, pos, after, guard⟩ = mkT t (r l) (r c) := rfl
def bsT (t : TypeId) (n : Nat) (parts : Array (Nat × Value)) : Sem Next := do pure (.value (← Instr.buildSlice t n parts))
theorem exec_bs (r : Operand → Value) (dst : Option Tmp) (t : TypeId) (n : Nat) (parts : Array (Nat × Operand)) (ty : TypeId) (pos : String) (after : Array Edge) (guard : Option (Nat × Bool)) :
    execOp r ⟨dst, .buildSlice t n parts, ty, pos, after, guard⟩ = bsT t n (parts.map fun x => (x.1, r x.2)) := rfl
theorem run_indexAt_B {P : Program} {w : World} (t e : TypeId) (n : Nat) (a : Addr) (x : BitVec 8) (h : P.underlying t = some (.array n e)) (hn : x.toNat < n) (hs : (P.info? e).map (·.size) = some 1) :
    (Instr.indexAt t (.pointer (some a)) (B x)).run P w = .ok (.pointer (some (a.add x.toNat))) w := by
  cases hq : P.info? e with
  | none => simp [hq] at hs
  | some i =>
    have hi : i.size = 1 := by simpa [hq] using hs
    have h0 : (0 : Int) ≤ (x.toNat : Int) ∧ (x.toNat : Int) < (n : Int) := by omega
    simp [Instr.indexAt, run_underlying h, Instr.sureAddr, asIntOf_B, sizeOf, typeInfo, hq, hi, h0, hn]
end Go.Proofs.Ytphpliclecmnlaa
/- GF(2^8) on numbers of eight bits: products by powers and logarithms of the generator; nothing of the program. -/
namespace Go.Proofs.Ytphpliclecmnlaa

/-- A number times the generator. -/
def xt (x : BitVec 8) : BitVec 8 := (x <<< 1) ^^^ (if x.getLsbD 7 then 29#8 else 0#8)
/-- The powers of the generator. -/
def pw : Nat → BitVec 8
  | 0 => 1#8
  | n + 1 => xt (pw n)
def lgs : List Nat := [0, 0, 1, 25, 2, 50, 26, 198, 3, 223, 51, 238, 27, 104, 199, 75, 4, 100, 224, 14, 52, 141, 239, 129, 28, 193, 105, 248, 200, 8, 76, 113, 5, 138, 101, 47, 225, 36, 15, 33, 53, 147, 142, 218, 240, 18, 130, 69, 29, 181, 194, 125, 106, 39, 249, 185, 201, 154, 9, 120, 77, 228, 114, 166, 6, 191, 139, 98, 102, 221, 48, 253, 226, 152, 37, 179, 16, 145, 34, 136, 54, 208, 148, 206, 143, 150, 219, 189, 241, 210, 19, 92, 131, 56, 70, 64, 30, 66, 182, 163, 195, 72, 126, 110, 107, 58, 40, 84, 250, 133, 186, 61, 202, 94, 155, 159, 10, 21, 121, 43, 78, 212, 229, 172, 115, 243, 167, 87, 7, 112, 192, 247, 140, 128, 99, 13, 103, 74, 222, 237, 49, 197, 254, 24, 227, 165, 153, 119, 38, 184, 180, 124, 17, 68, 146, 217, 35, 32, 137, 46, 55, 63, 209, 91, 149, 188, 207, 205, 144, 135, 151, 178, 220, 252, 190, 97, 242, 86, 211, 171, 20, 42, 93, 158, 132, 60, 57, 83, 71, 109, 65, 162, 31, 45, 67, 216, 183, 123, 164, 118, 196, 23, 73, 236, 127, 12, 111, 246, 108, 161, 59, 82, 41, 157, 85, 170, 251, 96, 134, 177, 187, 204, 62, 90, 203, 89, 95, 176, 156, 169, 160, 81, 11, 245, 22, 235, 122, 117, 44, 215, 79, 174, 213, 233, 230, 231, 173, 232, 116, 214, 244, 234, 168, 80, 88, 175]
/-- The logarithm. -/
def lg (x : BitVec 8) : Nat := lgs.getD x.toNat 0
theorem pw_lg' : ∀ n : Nat, n < 256 → n ≠ 0 → pw (lgs.getD n 0) = BitVec.ofNat 8 n := by decide +kernel
theorem lg_lt' : ∀ n : Nat, n < 256 → lgs.getD n 0 < 255 := by decide +kernel
theorem lg_pw' : ∀ n : Nat, n < 255 → lg (pw n) = n := by decide +kernel
theorem pw_ne' : ∀ n : Nat, n < 255 → pw n ≠ 0#8 := by decide +kernel
theorem pw_255 : pw 255 = 1#8 := by decide +kernel
theorem xt_zero : xt 0#8 = 0#8 := by decide
theorem xt_xor (a b : BitVec 8) : xt (a ^^^ b) = xt a ^^^ xt b := by
  unfold xt
  rw [BitVec.getLsbD_xor, BitVec.shiftLeft_xor_distrib]
  have h : ∀ p q s : BitVec 8, p ^^^ q = p ^^^ s ^^^ (q ^^^ s) := fun p q s => by
    rw [show p ^^^ s ^^^ (q ^^^ s) = (p ^^^ q) ^^^ (s ^^^ s) by ac_rfl, BitVec.xor_self, BitVec.xor_zero]
  cases a.getLsbD 7 <;> cases b.getLsbD 7
  · simp
  · simp; ac_rfl
  · simp; ac_rfl
  · simpa using h _ _ _
theorem pw_lg (x : BitVec 8) (h : x ≠ 0#8) : pw (lg x) = x := by
  have := pw_lg' x.toNat x.isLt (fun e => h (BitVec.eq_of_toNat_eq (by simpa using e)))
  unfold lg
  rw [this, BitVec.ofNat_toNat, BitVec.setWidth_eq]
theorem lg_lt (x : BitVec 8) : lg x < 255 := lg_lt' x.toNat x.isLt
theorem pw_add (n : Nat) : pw (n + 255) = pw n := by
  induction n with
  | zero => exact pw_255
  | succ n ih =>
    show xt (pw (n + 255)) = xt (pw n)
    rw [ih]
theorem pw_mul (q r : Nat) : pw (255 * q + r) = pw r := by
  induction q with
  | zero => simp
  | succ q ih => rw [show 255 * (q + 1) + r = (255 * q + r) + 255 by omega, pw_add, ih]
theorem pw_mod (n : Nat) : pw (n % 255) = pw n := by
  have := pw_mul (n / 255) (n % 255)
  rw [Nat.div_add_mod] at this
  exact this.symm
theorem pw_congr {m n : Nat} (h : m % 255 = n % 255) : pw m = pw n := by rw [← pw_mod m, h, pw_mod]
theorem pw_ne (n : Nat) : pw n ≠ 0#8 := by rw [← pw_mod]; exact pw_ne' _ (Nat.mod_lt _ (by decide))
theorem lg_pw (n : Nat) : lg (pw n) = n % 255 := by rw [← pw_mod]; exact lg_pw' _ (Nat.mod_lt _ (by decide))

/-- The product. -/
def gm (a b : BitVec 8) : BitVec 8 := if a = 0#8 ∨ b = 0#8 then 0#8 else pw (lg a + lg b)
theorem gm_zl (b : BitVec 8) : gm 0#8 b = 0#8 := by simp [gm]
theorem gm_zr (a : BitVec 8) : gm a 0#8 = 0#8 := by simp [gm]
theorem gm_comm (a b : BitVec 8) : gm a b = gm b a := by
  unfold gm
  rw [Nat.add_comm (lg a)]
  by_cases h : a = 0#8 <;> by_cases k : b = 0#8 <;> simp [h, k]
theorem gm_pw (m n : Nat) : gm (pw m) (pw n) = pw (m + n) := by
  unfold gm
  rw [if_neg (by simp [pw_ne]), lg_pw, lg_pw]
  exact pw_congr (by omega)
theorem ex_pw (a : BitVec 8) (h : a ≠ 0#8) : ∃ n, n < 255 ∧ a = pw n := ⟨lg a, lg_lt a, (pw_lg a h).symm⟩
theorem gm_one (a : BitVec 8) : gm 1#8 a = a := by
  by_cases h : a = 0#8
  · rw [h, gm_zr]
  · obtain ⟨n, _, rfl⟩ := ex_pw a h
    rw [show (1#8 : BitVec 8) = pw 0 from rfl, gm_pw, Nat.zero_add]
theorem gm_one_r (a : BitVec 8) : gm a 1#8 = a := by rw [gm_comm, gm_one]
theorem gm_assoc (a b c : BitVec 8) : gm (gm a b) c = gm a (gm b c) := by
  by_cases ha : a = 0#8
  · simp [ha, gm_zl]
  by_cases hb : b = 0#8
  · simp [hb, gm_zl, gm_zr]
  by_cases hc : c = 0#8
  · simp [hc, gm_zr]
  obtain ⟨i, _, rfl⟩ := ex_pw a ha
  obtain ⟨j, _, rfl⟩ := ex_pw b hb
  obtain ⟨k, _, rfl⟩ := ex_pw c hc
  simp only [gm_pw, Nat.add_assoc]
theorem gm_ne (a b : BitVec 8) (ha : a ≠ 0#8) (hb : b ≠ 0#8) : gm a b ≠ 0#8 := by
  unfold gm
  rw [if_neg (by simp [ha, hb])]
  exact pw_ne _
theorem gm_xt (a b : BitVec 8) : gm a (xt b) = xt (gm a b) := by
  by_cases ha : a = 0#8
  · simp [ha, gm_zl, xt_zero]
  by_cases hb : b = 0#8
  · simp [hb, gm_zr, xt_zero]
  obtain ⟨i, _, rfl⟩ := ex_pw a ha
  obtain ⟨j, _, rfl⟩ := ex_pw b hb
  rw [show xt (pw j) = pw (j + 1) from rfl, gm_pw, gm_pw]
  rfl
theorem gm_xt_l (a b : BitVec 8) : gm (xt a) b = xt (gm a b) := by rw [gm_comm, gm_xt, gm_comm]
theorem gm_pw_xor (n : Nat) (b c : BitVec 8) : gm (pw n) (b ^^^ c) = gm (pw n) b ^^^ gm (pw n) c := by
  induction n with
  | zero => simp only [show pw 0 = 1#8 from rfl, gm_one]
  | succ n ih => rw [show pw (n + 1) = xt (pw n) from rfl, gm_xt_l, gm_xt_l, gm_xt_l, ih, xt_xor]
theorem gm_xor (a b c : BitVec 8) : gm a (b ^^^ c) = gm a b ^^^ gm a c := by
  by_cases ha : a = 0#8
  · simp [ha, gm_zl]
  · obtain ⟨i, _, rfl⟩ := ex_pw a ha
    exact gm_pw_xor i b c
theorem gm_xor_l (a b c : BitVec 8) : gm (a ^^^ b) c = gm a c ^^^ gm b c := by rw [gm_comm, gm_xor, gm_comm c, gm_comm c]

/-- The inverse. -/
def gi (a : BitVec 8) : BitVec 8 := pw (255 - lg a)
theorem gi_ne (a : BitVec 8) : gi a ≠ 0#8 := pw_ne _
theorem gm_gi (a : BitVec 8) (h : a ≠ 0#8) : gm a (gi a) = 1#8 := by
  have hl := lg_lt a
  obtain ⟨n, hn, e⟩ := ex_pw a h
  have : lg a = n := by rw [e, lg_pw, Nat.mod_eq_of_lt hn]
  unfold gi
  rw [this, e, gm_pw, show n + (255 - n) = 255 by omega, pw_255]
theorem gi_of (a b : BitVec 8) (h : a ≠ 0#8) (hb : gm a b = 1#8) : b = gi a := by
  have : gm (gi a) (gm a b) = gi a := by rw [hb, gm_one_r]
  rw [← gm_assoc, gm_comm (gi a), gm_gi a h, gm_one] at this
  exact this
/-- The quotient. -/
def gd (a b : BitVec 8) : BitVec 8 := gm a (gi b)
theorem gd_log (a b : BitVec 8) (ha : a ≠ 0#8) (hb : b ≠ 0#8) : gd a b = pw (lg a + 255 - lg b) := by
  have h1 := lg_lt b
  obtain ⟨n, hn, e⟩ := ex_pw a ha
  have : lg a = n := by rw [e, lg_pw, Nat.mod_eq_of_lt hn]
  unfold gd gi
  rw [this, e, gm_pw]
  congr 1; omega
theorem gd_mul (a b : BitVec 8) (hb : b ≠ 0#8) : gm (gd a b) b = a := by
  unfold gd
  rw [gm_assoc, gm_comm (gi b), gm_gi b hb, gm_one_r]
theorem gd_one (b : BitVec 8) : gd 1#8 b = gi b := by unfold gd; rw [gm_one]

/-- The power. -/
def gp (a : BitVec 8) : Nat → BitVec 8
  | 0 => 1#8
  | n + 1 => gm (gp a n) a
theorem gp_zero (n : Nat) (h : 0 < n) : gp 0#8 n = 0#8 := by
  obtain ⟨k, rfl⟩ := Nat.exists_eq_succ_of_ne_zero (Nat.pos_iff_ne_zero.1 h)
  show gm _ _ = _
  rw [gm_zr]
theorem gp_pw (m n : Nat) : gp (pw m) n = pw (m * n) := by
  induction n with
  | zero => rfl
  | succ n ih =>
    show gm (gp (pw m) n) (pw m) = _
    rw [ih, gm_pw, Nat.mul_succ]
theorem gp_log (a : BitVec 8) (h : a ≠ 0#8) (n : Nat) : gp a n = pw (lg a * (n % 255)) := by
  obtain ⟨m, hm, e⟩ := ex_pw a h
  have : lg a = m := by rw [e, lg_pw, Nat.mod_eq_of_lt hm]
  rw [this, e, gp_pw]
  exact pw_congr (by rw [Nat.mul_mod, Nat.mul_mod m (n % 255), Nat.mod_mod])
theorem gp_red (a : BitVec 8) (n : Nat) : gp a (n % 255 + 255 * min (n / 255) 1) = gp a n := by
  by_cases h : a = 0#8
  · subst h
    by_cases h0 : n = 0
    · subst h0; rfl
    · rw [gp_zero _ (by omega), gp_zero _ (by omega)]
  · rw [gp_log a h, gp_log a h]
    congr 2; omega
theorem gp_mul (a b : BitVec 8) (n : Nat) : gp (gm a b) n = gm (gp a n) (gp b n) := by
  induction n with
  | zero => exact (gm_one 1#8).symm
  | succ n ih =>
    show gm (gp (gm a b) n) (gm a b) = gm (gm (gp a n) a) (gm (gp b n) b)
    rw [ih, gm_assoc, gm_assoc, ← gm_assoc (gp b n), gm_comm (gp b n) a, gm_assoc]
theorem gp_one (n : Nat) : gp 1#8 n = 1#8 := by
  induction n with
  | zero => rfl
  | succ n ih => show gm (gp 1#8 n) 1#8 = _; rw [ih, gm_one]
theorem gp_inv (a : BitVec 8) (h : a ≠ 0#8) (n : Nat) : gm (gp a n) (gp (gi a) n) = 1#8 := by rw [← gp_mul, gm_gi a h, gp_one]
theorem gp_255 (a : BitVec 8) (h : a ≠ 0#8) : gp a 255 = 1#8 := by rw [gp_log a h]; rfl

/-- What is left of a number of 16 bits by 285. -/
def rd (n : Nat) : BitVec 8 := BitVec.ofNat 8 n ^^^ gm (pw 8) (BitVec.ofNat 8 (n >>> 8))
theorem rd_xor (m n : Nat) : rd (m ^^^ n) = rd m ^^^ rd n := by
  unfold rd
  rw [Nat.shiftRight_xor_distrib, BitVec.ofNat_xor, BitVec.ofNat_xor, gm_xor]
  ac_rfl
theorem rd_lo (n : Nat) (h : n < 256) : rd n = BitVec.ofNat 8 n := by
  unfold rd
  rw [Nat.shiftRight_eq_div_pow, Nat.div_eq_of_lt h, gm_zr, BitVec.xor_zero]
theorem xt_lo (x : Nat) (h : x < 128) : xt (BitVec.ofNat 8 x) = BitVec.ofNat 8 (2 * x) := by
  have : ∀ x : Nat, x < 128 → xt (BitVec.ofNat 8 x) = BitVec.ofNat 8 (2 * x) := by decide +kernel
  exact this x h
theorem xt_hi (x : Nat) (h : x < 256) : xt (BitVec.ofNat 8 x) = BitVec.ofNat 8 (2 * x) ^^^ gm (pw 8) (BitVec.ofNat 8 (x / 128)) := by
  have : ∀ x : Nat, x < 256 → xt (BitVec.ofNat 8 x) = BitVec.ofNat 8 (2 * x) ^^^ gm (pw 8) (BitVec.ofNat 8 (x / 128)) := by decide +kernel
  exact this x h
theorem xor_bit (h m : Nat) (hm : m < 2) : BitVec.ofNat 8 (2 * h + m) = BitVec.ofNat 8 (2 * h) ^^^ BitVec.ofNat 8 m := by
  rw [← BitVec.ofNat_xor]
  congr 1
  apply Nat.eq_of_testBit_eq
  intro i
  rw [Nat.testBit_xor]
  cases i with
  | zero =>
    have : m = 0 ∨ m = 1 := by omega
    rcases this with rfl | rfl <;> simp [Nat.testBit_zero, Nat.add_mod]
  | succ i =>
    simp only [Nat.testBit_succ]
    have e1 : (2 * h + m) / 2 = h := by omega
    have e2 : 2 * h / 2 = h := by omega
    have e3 : m / 2 = 0 := by omega
    simp [e1, e2, e3]
theorem rd_two (x : Nat) (h : x < 32768) : rd (2 * x) = xt (rd x) := by
  have hlo : BitVec.ofNat 8 x = BitVec.ofNat 8 (x % 256) := by apply BitVec.eq_of_toNat_eq; simp
  have hlo2 : BitVec.ofNat 8 (2 * x) = BitVec.ofNat 8 (2 * (x % 256)) := by apply BitVec.eq_of_toNat_eq; simp
  have hhi : (2 * x) >>> 8 = 2 * (x >>> 8) + x % 256 / 128 := by
    simp only [Nat.shiftRight_eq_div_pow]; omega
  have hh : x >>> 8 < 128 := by rw [Nat.shiftRight_eq_div_pow]; omega
  unfold rd
  rw [hhi, xor_bit _ _ (by omega), xt_xor, hlo, xt_hi _ (by omega), ← gm_xt, xt_lo _ hh, gm_xor, hlo2]
  ac_rfl
theorem rd_mod (k : Nat) (h : k < 8) : rd (285 * 2 ^ k) = 0#8 := by
  have : ∀ k : Nat, k < 8 → rd (285 * 2 ^ k) = 0#8 := by decide +kernel
  exact this k h
/-- One step down. -/
theorem red_lt (n k : Nat) (hk : k < 8) (hn : n < 2 ^ (k + 9)) (hb : n / 2 ^ (k + 8) % 2 = 1) : n ^^^ (285 * 2 ^ k) < 2 ^ (k + 8) := by
  apply Nat.lt_pow_two_of_testBit
  intro i hi
  rw [Nat.testBit_xor]
  rcases Nat.eq_or_lt_of_le hi with e | e
  · subst e
    have h1 : n.testBit (k + 8) = true := by
      rw [Nat.testBit_eq_decide_div_mod_eq, hb]; rfl
    have h2 : (285 * 2 ^ k).testBit (k + 8) = true := by
      have : ∀ k : Nat, k < 8 → (285 * 2 ^ k).testBit (k + 8) = true := by decide +kernel
      exact this k hk
    rw [h1, h2]; rfl
  · have e' : 2 ^ (k + 9) ≤ 2 ^ i := Nat.pow_le_pow_right (by decide) (by omega)
    have h3 : 285 * 2 ^ k < 2 ^ (k + 9) := by
      rw [Nat.pow_add, Nat.mul_comm]
      exact Nat.mul_lt_mul_of_pos_left (by decide) (Nat.pow_pos (by decide))
    rw [Nat.testBit_lt_two_pow (by omega), Nat.testBit_lt_two_pow (by omega)]; rfl
theorem red_even (n k : Nat) (hn : n < 2 ^ (k + 9)) (hb : n / 2 ^ (k + 8) % 2 ≠ 1) : n < 2 ^ (k + 8) := by
  rcases Nat.lt_or_ge n (2 ^ (k + 8)) with h | h
  · exact h
  · exfalso
    apply hb
    have e : 2 ^ (k + 9) = 2 ^ (k + 8) * 2 := rfl
    have : n / 2 ^ (k + 8) = 1 := by
      apply Nat.div_eq_of_lt_le <;> omega
    rw [this]
/-- One bit of the second factor. -/
theorem mul_odd (N X Y : Nat) (hX : X < 32768) (hY : Y < 256) (ho : Y % 2 = 1) : rd (N ^^^ X) ^^^ gm (rd (2 * X)) (BitVec.ofNat 8 (Y / 2)) = rd N ^^^ gm (rd X) (BitVec.ofNat 8 Y) := by
  have e : BitVec.ofNat 8 Y = xt (BitVec.ofNat 8 (Y / 2)) ^^^ 1#8 := by
    rw [xt_lo _ (by omega), show (1#8 : BitVec 8) = BitVec.ofNat 8 1 from rfl, ← xor_bit _ _ (by omega)]
    congr 1; omega
  rw [rd_xor, rd_two _ hX, gm_xt_l, ← gm_xt, e, gm_xor, gm_one_r]
  ac_rfl
theorem mul_even (N X Y : Nat) (hX : X < 32768) (hY : Y < 256) (ho : Y % 2 ≠ 1) : rd N ^^^ gm (rd (2 * X)) (BitVec.ofNat 8 (Y / 2)) = rd N ^^^ gm (rd X) (BitVec.ofNat 8 Y) := by
  have e : BitVec.ofNat 8 Y = xt (BitVec.ofNat 8 (Y / 2)) := by
    rw [xt_lo _ (by omega)]
    congr 1; omega
  rw [rd_two _ hX, gm_xt_l, ← gm_xt, e]
/-- The next power as an integer. -/
theorem pw_next (n : Nat) : (if 255 < 2 * (pw n).toNat then (2 * (pw n).toNat) ^^^ 285 else 2 * (pw n).toNat) = (pw (n + 1)).toNat := by
  have : ∀ x : Nat, x < 256 → (if 255 < 2 * x then (2 * x) ^^^ 285 else 2 * x) = (xt (BitVec.ofNat 8 x)).toNat := by decide +kernel
  have h := this (pw n).toNat (pw n).isLt
  rw [BitVec.ofNat_toNat, BitVec.setWidth_eq] at h
  exact h
end Go.Proofs.Ytphpliclecmnlaa
/- The reference's product and inverse. -/
namespace Go.Proofs.Ytphpliclecmnlaa
open Go Go.RowKit

theorem conv_BI (x : BitVec 8) (w : World) : (convert 5 3 (B x)).run Try.prog w = .ok (.int .i64 (x.toNat : Int)) w := run_convert_BI w _ _ x (by kernel_rfl) (by kernel_rfl)
attribute [local go_sem] conv_BI
theorem bit_le (j : Nat) (h : j ≤ 8) : 2 ^ (j + 7) ≤ 32768 := Nat.pow_le_pow_right (n := 2) (by decide) (show j + 7 ≤ 15 by omega)
theorem half_pos (Y k : Nat) (h : Y < 2 ^ (8 - k)) (hk : k ≤ 8) (h0 : 0 < Y) : k < 8 := by
  rcases Nat.lt_or_ge k 8 with h1 | h1
  · exact h1
  · have : 8 - k = 0 := by omega
    rw [this] at h
    omega
theorem half_lt (Y k : Nat) (h : Y < 2 ^ (8 - k)) (hk : k < 8) : Y / 2 < 2 ^ (8 - (k + 1)) := by
  have : 8 - k = (8 - (k + 1)) + 1 := by omega
  rw [this, Nat.pow_succ] at h
  omega
theorem two_pow_le (a k : Nat) (ha : a < 256) (hk : k < 8) : a * 2 ^ k < 32768 := by
  have : 2 ^ k ≤ 2 ^ 7 := Nat.pow_le_pow_right (by decide) (by omega)
  have h2 : a * 2 ^ k ≤ 255 * 2 ^ 7 := Nat.mul_le_mul (by omega) this
  omega
theorem lt_256 (Y k : Nat) (h : Y < 2 ^ (8 - k)) : Y < 256 := by
  have : 2 ^ (8 - k) ≤ 2 ^ 8 := Nat.pow_le_pow_right (by decide) (by omega)
  omega
set_option maxHeartbeats 2000000 in
theorem refMul_any (a b : BitVec 8) (w : World) :
    Calls Try.prog 27 #[B a, B b] w fun e w' => e = .returned (B (gm a b)) ∧ w = w' := by
  have ha := a.isLt
  have hb := b.isLt
  go_enter Try.func27, Try.ntmps27
  go_wp2
  go_loop [5, 6, 7] (fun n x y => ∃ N Y k : Nat, k ≤ 8 ∧ n = .int .i64 N ∧ x = .int .i64 ((a.toNat * 2 ^ k : Nat) : Int) ∧ y = .int .i64 Y ∧ Y < 2 ^ (8 - k) ∧ N < 65536 ∧
    rd N ^^^ gm (rd (a.toNat * 2 ^ k)) (BitVec.ofNat 8 Y) = gm a b) (fun _ _ y => (intOf y).toNat)
  case atStart =>
    refine ⟨0, b.toNat, 0, by decide, rfl, by simp, rfl, hb, by decide, ?_⟩
    rw [Nat.pow_zero, Nat.mul_one, rd_lo _ ha, rd_lo _ (by decide)]
    simp
  case round =>
    obtain ⟨N, Y, k, hk, rfl, rfl, rfl, hY, hN, hE⟩ := hrel
    have HE := Lib.hid hE
    clear hE
    by_cases h0 : 0 < Y
    · have hk8 := half_pos Y k hY hk h0
      have hX := two_pow_le a.toNat k ha hk8
      have hY2 := Lib.hid (half_lt Y k hY hk8)
      have hY256 := lt_256 Y k hY
      have hXX := Lib.hid (show 2 * (a.toNat * 2 ^ k) = a.toNat * 2 ^ (k + 1) by rw [Nat.pow_succ, Nat.mul_comm 2, Nat.mul_assoc])
      have hd0 : decide ((0 : Int) < (Y : Int)) = true := decide_eq_true (by omega)
      generalize hXe : a.toNat * 2 ^ k = X at *
      have HO := Lib.hid (mul_odd N X Y hX hY256)
      have HV := Lib.hid (mul_even N X Y hX hY256)
      have HX2 := Lib.hid (show (X : Int) * 2 = ((2 * X : Nat) : Int) by simp; omega)
      have HY2 := Lib.hid (show (Y : Int) / 2 = ((Y / 2 : Nat) : Int) by simp)
      have hNX : N ^^^ X < 65536 := Nat.xor_lt_two_pow (n := 16) (by omega) (by omega)
      clear hXe hY
      by_cases ho : Y % 2 = 1
      · have hd1 : ((Y : Int) % 2 == 1) = true := by simp; omega
        have hx : bits .xor .i64 (N : Int) (X : Int) = ((N ^^^ X : Nat) : Int) := i64_xor_nat _ _ (by omega) (by omega)
        have HOO := Lib.hid ho
        clear ho
        go_wp2
        go_round
        case rel =>
          refine ⟨N ^^^ X, Y / 2, k + 1, by omega, rfl, by rw [HX2.out, hXX.out], by rw [HY2.out], hY2.out, hNX, ?_⟩
          rw [← hXX.out, HO.out HOO.out, HE.out]
        case measure => simp [intOf]; omega
      · have hd1 : ((Y : Int) % 2 == 1) = false := by simp; omega
        have HOO := Lib.hid ho
        clear ho
        go_wp2
        go_round
        case rel =>
          refine ⟨N, Y / 2, k + 1, by omega, rfl, by rw [HX2.out, hXX.out], by rw [HY2.out], hY2.out, hN, ?_⟩
          rw [← hXX.out, HV.out HOO.out, HE.out]
        case measure => simp [intOf]; omega
    · obtain rfl : Y = 0 := by omega
      have hE2 : rd N = gm a b := by
        have := HE.out
        rwa [show BitVec.ofNat 8 0 = 0#8 from rfl, gm_zr, BitVec.xor_zero] at this
      have HE2 := Lib.hid hE2
      have hd0 : decide ((0 : Int) < ((0 : Nat) : Int)) = false := rfl
      clear hE2 HE h0 hk hY
      generalize a.toNat * 2 ^ k = X at *
      go_wp2
      go_loop [5, 8] (fun n p => ∃ M j : Nat, j ≤ 8 ∧ n = .int .i64 M ∧ p = .int .i64 ((2 ^ (j + 7) : Nat) : Int) ∧ M < 2 ^ (j + 8) ∧ rd M = gm a b) (fun _ p => (intOf p).toNat)
      case atStart => exact ⟨N, 8, by decide, rfl, rfl, hN, HE2.out⟩
      case round =>
        clear HE2 hN hd0
        obtain ⟨M, j, hj, rfl, rfl, hM, hE⟩ := hrel
        have HE := Lib.hid hE
        clear hE
        cases j with
        | zero =>
          have hd0 : decide ((256 : Int) ≤ ((2 ^ (0 + 7) : Nat) : Int)) = false := rfl
          have hd1 : decide ((256 : Int) ≤ 128) = false := rfl
          have hM2 : M < 256 := hM
          have hfin : Hid (Value.int .u8 (M : Int) = B (gm a b)) := by
            show Value.int .u8 (M : Int) = B (gm a b)
            rw [← HE.out, rd_lo M hM2, B_ofNat M hM2]
          clear hM HE
          simp only [show ((2 ^ (0 + 7) : Nat) : Int) = 128 from rfl]
          go_wp2
          go_ret
          exact ⟨by rw [← hfin.out]; rfl, rfl⟩
        | succ i =>
          have hP := bit_le (i + 1) hj
          have hP0 : 256 ≤ 2 ^ (i + 1 + 7) := Nat.pow_le_pow_right (n := 2) (by decide) (show 8 ≤ i + 1 + 7 by omega)
          have HPH := Lib.hid (show 2 ^ (i + 1 + 7) = 2 * 2 ^ (i + 7) by rw [show i + 1 + 7 = (i + 7) + 1 by omega, Nat.pow_succ, Nat.mul_comm])
          have HPB := Lib.hid (show 285 * (2 ^ (i + 1 + 7) / 256) = 285 * 2 ^ i by rw [show i + 1 + 7 = i + 8 by omega, Nat.pow_add, Nat.mul_div_cancel _ (by decide)])
          have HLT := Lib.hid (red_lt M i (by omega) hM)
          have HEV := Lib.hid (red_even M i hM)
          have HRD := Lib.hid (rd_mod i (by omega))
          have hM16 : M < 65536 := Nat.lt_of_lt_of_le hM (Nat.pow_le_pow_right (n := 2) (by decide) (show i + 1 + 8 ≤ 16 by omega))
          rw [show i + 8 = i + 1 + 7 by omega] at HLT HEV
          generalize hPe : 2 ^ (i + 1 + 7) = P at *
          generalize hQe : 2 ^ (i + 7) = Q at *
          generalize hRe : 285 * 2 ^ i = R at *
          have HPe := Lib.hid hPe
          have HQe := Lib.hid hQe
          clear hPe hQe hM hRe
          have hd0 : decide ((256 : Int) ≤ (P : Int)) = true := decide_eq_true (by omega)
          have hp0 : (0 : Int) < (P : Int) := by omega
          have hp1 : (P : Int) ≤ 32768 := by omega
          have HPQ : Hid ((P : Int) / 2 = (Q : Int)) := by
            have := HPH.out
            show (P : Int) / 2 = (Q : Int)
            omega
          have HQP : Hid (Q < P) := by
            have := HPH.out
            show Q < P
            omega
          have hq0 : (0 : Int) ≤ (M : Int) / (P : Int) := Int.ediv_nonneg (by omega) (by omega)
          have hq1 : (M : Int) / (P : Int) ≤ 65535 := by
            have h1 : M / P ≤ M := Nat.div_le_self M P
            rw [show (M : Int) / (P : Int) = ((M / P : Nat) : Int) by simp]
            omega
          by_cases ho : M / P % 2 = 1
          · have hd1 : ((M : Int) / (P : Int) % 2 == 1) = true := by
              rw [beq_iff_eq, show (M : Int) / (P : Int) = ((M / P : Nat) : Int) by simp]; omega
            have hR : 285 * (P / 256) = R := HPB.out
            have hx : bits .xor .i64 (M : Int) (285 * ((P : Int) / 256)) = ((M ^^^ R : Nat) : Int) := by
              rw [show (285 * ((P : Int) / 256)) = (R : Int) by omega]
              exact i64_xor_nat _ _ (by omega) (by omega)
            have hMR : Hid (M ^^^ R < P ∧ rd (M ^^^ R) = gm a b) := by
              refine ⟨HLT.out ho, ?_⟩
              rw [rd_xor, HRD.out, BitVec.xor_zero, HE.out]
            clear hR ho
            go_wp2
            go_round
            case rel => exact ⟨M ^^^ R, i, by omega, rfl, by rw [HPQ.out, HQe.out], by rw [show i + 8 = i + 1 + 7 by omega, HPe.out]; exact hMR.out.1, hMR.out.2⟩
            case measure => have := HPQ.out; have := HQP.out; simp [intOf]; omega
          · have hd1 : ((M : Int) / (P : Int) % 2 == 1) = false := by
              rw [beq_eq_false_iff_ne, show (M : Int) / (P : Int) = ((M / P : Nat) : Int) by simp]; omega
            have hMR : Hid (M < P) := HEV.out ho
            clear ho
            go_wp2
            go_round
            case rel => exact ⟨M, i, by omega, rfl, by rw [HPQ.out, HQe.out], by rw [show i + 8 = i + 1 + 7 by omega, HPe.out]; exact hMR.out, HE.out⟩
            case measure => have := HPQ.out; have := HQP.out; simp [intOf]; omega
set_option maxHeartbeats 2000000 in
theorem refInv_any (a : BitVec 8) (h : a ≠ 0#8) (w : World) :
    Calls Try.prog 45 #[B a] w fun e w' => e = .returned (B (gi a)) ∧ w = w' := by
  have hg := (gi a).isLt
  have hg0 : 1 ≤ (gi a).toNat := by
    have := gi_ne a
    rcases Nat.eq_zero_or_pos (gi a).toNat with h1 | h1
    · exact absurd (BitVec.eq_of_toNat_eq (by simpa using h1)) this
    · exact h1
  have H1 := Lib.hid (gm_gi a h)
  have H2 := Lib.hid (fun b => gi_of a b h)
  have HE := Lib.hid (show BitVec.ofNat 8 (gi a).toNat = gi a by rw [BitVec.ofNat_toNat, BitVec.setWidth_eq])
  clear h
  generalize hG : (gi a).toNat = G at *
  have HG := Lib.hid hG
  clear hG
  go_enter Try.func45, Try.ntmps45
  go_wp2
  go_loop [3] (fun b => ∃ k : Nat, 1 ≤ k ∧ k ≤ G ∧ b = .int .i64 k) (fun b => 256 - (intOf b).toNat)
  case atStart => exact ⟨1, by decide, hg0, rfl⟩
  case round =>
    obtain ⟨k, hk0, hk, rfl⟩ := hrel
    have hd0 : decide ((k : Int) < 256) = true := decide_eq_true (by omega)
    have hk8 : k < 256 := by omega
    have HB := Lib.hid (B_ofNat k hk8)
    by_cases he : k = G
    · have h1 : gm a (BitVec.ofNat 8 k) = 1#8 := by rw [he, HE.out]; exact H1.out
      have hb : (gm a (BitVec.ofNat 8 k) == 1#8) = true := by rw [h1]; rfl
      have hfin : Hid (Value.int .u8 (k : Int) = B (gi a)) := by
        show Value.int .u8 (k : Int) = B (gi a)
        rw [← HB.out, he, HE.out]
      clear h1 he
      go_wp2_with fail
      rw [← HB.out]
      refine (refMul_any a (BitVec.ofNat 8 k) w).mono ?_
      rintro e w' ⟨rfl, rfl⟩
      go_wp2
      go_ret
      exact ⟨by rw [← hfin.out]; rfl, rfl⟩
    · have hb : (gm a (BitVec.ofNat 8 k) == 1#8) = false := by
        rw [beq_eq_false_iff_ne]
        intro e
        have := H2.out _ e
        apply he
        rw [← HG.out, ← this, BitVec.toNat_ofNat]
        omega
      have hlt : k < G := by omega
      clear he
      go_wp2_with fail
      rw [← HB.out]
      refine (refMul_any a (BitVec.ofNat 8 k) w).mono ?_
      rintro e w' ⟨rfl, rfl⟩
      go_wp2
      go_round
      case rel => exact ⟨k + 1, by omega, by omega, by go_num⟩
      case measure => simp [intOf]; omega
end Go.Proofs.Ytphpliclecmnlaa
/- Matrices over GF(2^8) as functions: products, row steps, determinants, Cauchy matrices; nothing of the program. -/
namespace Go.Proofs.Ytphpliclecmnlaa

/-! Sums -/
def xs : Nat → (Nat → BitVec 8) → BitVec 8
  | 0, _ => 0#8
  | n + 1, f => xs n f ^^^ f n
theorem xs_congr {n : Nat} {f g : Nat → BitVec 8} (h : ∀ i, i < n → f i = g i) : xs n f = xs n g := by
  induction n with
  | zero => rfl
  | succ n ih => show xs n f ^^^ f n = xs n g ^^^ g n; rw [ih (fun i hi => h i (by omega)), h n (by omega)]
theorem xs_zero (n : Nat) : xs n (fun _ => 0#8) = 0#8 := by
  induction n with
  | zero => rfl
  | succ n ih => show xs n _ ^^^ 0#8 = 0#8; rw [ih]; rfl
theorem xs_zero' {n : Nat} {f : Nat → BitVec 8} (h : ∀ i, i < n → f i = 0#8) : xs n f = 0#8 := by rw [xs_congr h, xs_zero]
theorem xs_add (n : Nat) (f g : Nat → BitVec 8) : xs n (fun i => f i ^^^ g i) = xs n f ^^^ xs n g := by
  induction n with
  | zero => exact (BitVec.xor_zero (x := 0#8)).symm
  | succ n ih =>
    show xs n _ ^^^ (f n ^^^ g n) = xs n f ^^^ f n ^^^ (xs n g ^^^ g n)
    rw [ih]; ac_rfl
theorem xs_mul (n : Nat) (c : BitVec 8) (f : Nat → BitVec 8) : xs n (fun i => gm c (f i)) = gm c (xs n f) := by
  induction n with
  | zero => exact (gm_zr c).symm
  | succ n ih => show xs n _ ^^^ gm c (f n) = gm c (xs n f ^^^ f n); rw [ih, gm_xor]
theorem xs_mul_r (n : Nat) (c : BitVec 8) (f : Nat → BitVec 8) : xs n (fun i => gm (f i) c) = gm (xs n f) c := by
  rw [gm_comm, ← xs_mul]; exact xs_congr fun i _ => gm_comm _ _
theorem xs_swap (n m : Nat) (f : Nat → Nat → BitVec 8) : xs n (fun i => xs m (fun j => f i j)) = xs m (fun j => xs n (fun i => f i j)) := by
  induction n with
  | zero => exact (xs_zero m).symm
  | succ n ih =>
    show xs n _ ^^^ xs m (fun j => f n j) = xs m (fun j => xs n (fun i => f i j) ^^^ f n j)
    rw [ih, xs_add]
theorem xs_one (n k : Nat) (h : k < n) (f : Nat → BitVec 8) (h0 : ∀ i, i < n → i ≠ k → f i = 0#8) : xs n f = f k := by
  induction n with
  | zero => omega
  | succ n ih =>
    show xs n f ^^^ f n = f k
    by_cases e : k = n
    · subst e
      rw [xs_zero' fun i hi => h0 i (by omega) (by omega), BitVec.zero_xor]
    · rw [ih (by omega) (fun i hi => h0 i (by omega)), h0 n (by omega) (Ne.symm e), BitVec.xor_zero]
theorem xs_head (n : Nat) (f : Nat → BitVec 8) : xs (n + 1) f = f 0 ^^^ xs n (fun i => f (i + 1)) := by
  induction n with
  | zero => show 0#8 ^^^ f 0 = f 0 ^^^ 0#8; rw [BitVec.zero_xor, BitVec.xor_zero]
  | succ n ih =>
    show xs (n + 1) f ^^^ f (n + 1) = f 0 ^^^ (xs n (fun i => f (i + 1)) ^^^ f (n + 1))
    rw [ih, BitVec.xor_assoc]
theorem xor_self' (x : BitVec 8) : x ^^^ x = 0#8 := BitVec.xor_self
theorem xor_eq_zero (x y : BitVec 8) (h : x ^^^ y = 0#8) : x = y := by
  have : x ^^^ y ^^^ y = y := by rw [h, BitVec.zero_xor]
  rwa [BitVec.xor_assoc, BitVec.xor_self, BitVec.xor_zero] at this
theorem gm_eq_zero (a b : BitVec 8) (ha : a ≠ 0#8) (h : gm a b = 0#8) : b = 0#8 := by
  by_cases hb : b = 0#8
  · exact hb
  · exact absurd h (gm_ne a b ha hb)
/-- A symmetric double sum without its diagonal is nothing. -/
theorem xs_sym (n : Nat) (g : Nat → Nat → BitVec 8) (hs : ∀ i j, i < n → j < n → g i j = g j i) (hd : ∀ i, i < n → g i i = 0#8) : xs n (fun i => xs n (fun j => g i j)) = 0#8 := by
  induction n with
  | zero => rfl
  | succ n ih =>
    show xs n (fun i => xs n (fun j => g i j) ^^^ g i n) ^^^ (xs n (fun j => g n j) ^^^ g n n) = 0#8
    rw [xs_add, ih (fun i j hi hj => hs i j (by omega) (by omega)) (fun i hi => hd i (by omega)), hd n (by omega), BitVec.xor_zero, BitVec.zero_xor,
      xs_congr (fun j hj => hs n j (by omega) (by omega)), xor_self']

/-! Products -/
abbrev Mx := Nat → Nat → BitVec 8
def mm (n : Nat) (a b : Mx) : Mx := fun i k => xs n (fun j => gm (a i j) (b j k))
def id1 : Mx := fun i j => if i = j then 1#8 else 0#8
theorem mm_assoc (n : Nat) (a b c : Mx) (i k : Nat) : mm n (mm n a b) c i k = mm n a (mm n b c) i k := by
  unfold mm
  have e1 : ∀ j, gm (xs n fun l => gm (a i l) (b l j)) (c j k) = xs n (fun l => gm (gm (a i l) (b l j)) (c j k)) := fun j => (xs_mul_r n _ _).symm
  have e2 : ∀ l, gm (a i l) (xs n fun j => gm (b l j) (c j k)) = xs n (fun j => gm (gm (a i l) (b l j)) (c j k)) := fun l => by
    rw [← xs_mul]; exact xs_congr fun j _ => (gm_assoc _ _ _).symm
  rw [xs_congr fun j _ => e1 j, xs_congr fun l _ => e2 l, xs_swap]
theorem mm_id_l (n : Nat) (a : Mx) (i k : Nat) (h : i < n) : mm n id1 a i k = a i k := by
  unfold mm
  rw [xs_one n i h]
  · unfold id1; rw [if_pos rfl, gm_one]
  · intro j _ hj
    unfold id1; rw [if_neg (Ne.symm hj), gm_zl]
theorem mm_id_r (n : Nat) (a : Mx) (i k : Nat) (h : k < n) : mm n a id1 i k = a i k := by
  unfold mm
  rw [xs_one n k h]
  · unfold id1; rw [if_pos rfl, gm_one_r]
  · intro j _ hj
    unfold id1; rw [if_neg hj, gm_zr]
theorem mm_congr {n : Nat} {a a' b b' : Mx} {i k : Nat} (ha : ∀ j, j < n → a i j = a' i j) (hb : ∀ j, j < n → b j k = b' j k) : mm n a b i k = mm n a' b' i k :=
  xs_congr fun j hj => by rw [ha j hj, hb j hj]

/-! Row steps. A step and the one that takes it back, on the first n rows. -/
structure Rop (n : Nat) (T U : Mx → Mx) : Prop where
  left : ∀ (m : Nat) (X Y : Mx) i k, mm m (T X) Y i k = T (mm m X Y) i k
  left' : ∀ (m : Nat) (X Y : Mx) i k, mm m (U X) Y i k = U (mm m X Y) i k
  back : ∀ X i k, U (T X) i k = X i k
  back' : ∀ X i k, T (U X) i k = X i k
  congr : ∀ X Y : Mx, ∀ k, (∀ i, i < n → X i k = Y i k) → ∀ i, i < n → T X i k = T Y i k
  congr' : ∀ X Y : Mx, ∀ k, (∀ i, i < n → X i k = Y i k) → ∀ i, i < n → U X i k = U Y i k
theorem Rop.refl (n : Nat) : Rop n (fun X => X) (fun X => X) :=
  ⟨fun _ _ _ _ _ => rfl, fun _ _ _ _ _ => rfl, fun _ _ _ => rfl, fun _ _ _ => rfl, fun _ _ _ h => h, fun _ _ _ h => h⟩
theorem Rop.symm {n : Nat} {T U : Mx → Mx} (h : Rop n T U) : Rop n U T := ⟨h.left', h.left, h.back', h.back, h.congr', h.congr⟩
theorem funext2 {X Y : Mx} (h : ∀ i k, X i k = Y i k) : X = Y := funext fun i => funext fun k => h i k
theorem Rop.trans {n : Nat} {T U T' U' : Mx → Mx} (h : Rop n T U) (g : Rop n T' U') : Rop n (fun X => T' (T X)) (fun X => U (U' X)) where
  left m X Y i k := by rw [g.left, funext2 (h.left m X Y)]
  left' m X Y i k := by rw [h.left', funext2 (g.left' m X Y)]
  back X i k := by rw [funext2 (g.back (T X)), h.back]
  back' X i k := by rw [funext2 (h.back' (U' X)), g.back']
  congr X Y k e i hi := g.congr _ _ k (h.congr X Y k e) i hi
  congr' X Y k e i hi := h.congr' _ _ k (g.congr' X Y k e) i hi
def swp (p q i : Nat) : Nat := if i = p then q else if i = q then p else i
def rswap (p q : Nat) (a : Mx) : Mx := fun i k => a (swp p q i) k
def rscale (p : Nat) (c : BitVec 8) (a : Mx) : Mx := fun i k => if i = p then gm c (a i k) else a i k
def radd (p q : Nat) (c : BitVec 8) (a : Mx) : Mx := fun i k => if i = q then a q k ^^^ gm c (a p k) else a i k
theorem swp_swp (p q i : Nat) : swp p q (swp p q i) = i := by
  unfold swp; by_cases h1 : i = p <;> by_cases h2 : i = q <;> by_cases h3 : q = p <;> simp_all
theorem rop_swap (n p q : Nat) (hp : p < n) (hq : q < n) : Rop n (rswap p q) (rswap p q) where
  left m X Y i k := rfl
  left' m X Y i k := rfl
  back X i k := by show X (swp p q (swp p q i)) k = X i k; rw [swp_swp]
  back' X i k := by show X (swp p q (swp p q i)) k = X i k; rw [swp_swp]
  congr X Y k e i hi := e _ (by unfold swp; split; exact hq; split; exact hp; exact hi)
  congr' X Y k e i hi := e _ (by unfold swp; split; exact hq; split; exact hp; exact hi)
theorem scale_left (p : Nat) (c : BitVec 8) (m : Nat) (X Y : Mx) (i k : Nat) : mm m (rscale p c X) Y i k = rscale p c (mm m X Y) i k := by
  unfold rscale mm
  by_cases h : i = p
  · simp only [h, if_true, gm_assoc, xs_mul]
  · simp only [h, if_false]
theorem scale_back (p : Nat) (c : BitVec 8) (hc : c ≠ 0#8) (X : Mx) (i k : Nat) : rscale p (gi c) (rscale p c X) i k = X i k := by
  unfold rscale
  by_cases h : i = p
  · simp only [h, if_true, ← gm_assoc, gm_comm (gi c) c, gm_gi c hc, gm_one]
  · simp only [h, if_false]
theorem scale_back' (p : Nat) (c : BitVec 8) (hc : c ≠ 0#8) (X : Mx) (i k : Nat) : rscale p c (rscale p (gi c) X) i k = X i k := by
  unfold rscale
  by_cases h : i = p
  · simp only [h, if_true, ← gm_assoc, gm_gi c hc, gm_one]
  · simp only [h, if_false]
theorem rop_scale (n p : Nat) (c : BitVec 8) (hc : c ≠ 0#8) : Rop n (rscale p c) (rscale p (gi c)) where
  left := scale_left p c
  left' := scale_left p (gi c)
  back := scale_back p c hc
  back' := scale_back' p c hc
  congr X Y k e i hi := by unfold rscale; rw [e i hi]
  congr' X Y k e i hi := by unfold rscale; rw [e i hi]
theorem add_left (p q : Nat) (c : BitVec 8) (m : Nat) (X Y : Mx) (i k : Nat) : mm m (radd p q c X) Y i k = radd p q c (mm m X Y) i k := by
  unfold radd mm
  by_cases h : i = q
  · simp only [h, if_true, gm_xor_l, gm_assoc, xs_add, xs_mul]
  · simp only [h, if_false]
theorem add_back (p q : Nat) (c : BitVec 8) (hpq : p ≠ q) (X : Mx) (i k : Nat) : radd p q c (radd p q c X) i k = X i k := by
  unfold radd
  by_cases h : i = q
  · subst h; simp only [if_true, if_neg hpq, BitVec.xor_assoc, xor_self', BitVec.xor_zero]
  · simp only [h, if_false]
theorem rop_add (n p q : Nat) (c : BitVec 8) (hpq : p ≠ q) (hp : p < n) (hq : q < n) : Rop n (radd p q c) (radd p q c) where
  left := add_left p q c
  left' := add_left p q c
  back := add_back p q c hpq
  back' := add_back p q c hpq
  congr X Y k e i hi := by unfold radd; rw [e i hi, e q hq, e p hp]
  congr' X Y k e i hi := by unfold radd; rw [e i hi, e q hq, e p hp]
/-- Where steps turn a into the unit, they turn the unit into a's inverse, on either side. -/
theorem Rop.inverse {n : Nat} {T U : Mx → Mx} (h : Rop n T U) (a : Mx) (ha : ∀ i k, i < n → k < n → T a i k = id1 i k) :
    (∀ i k, i < n → k < n → mm n (T id1) a i k = id1 i k) ∧ (∀ i k, i < n → k < n → mm n a (T id1) i k = id1 i k) := by
  have h1 : ∀ i k, i < n → k < n → mm n (T id1) a i k = id1 i k := fun i k hi hk => by
    rw [h.left, h.congr _ a k (fun i hi => mm_id_l n a i k hi) i hi, ha i k hi hk]
  refine ⟨h1, fun i k hi hk => ?_⟩
  have h2 : ∀ j, j < n → a i j = U id1 i j := fun j hj => by
    have := h.congr' (T a) id1 j (fun i hi => ha i j hi hj) i hi
    rwa [h.back] at this
  rw [mm_congr h2 (fun j _ => rfl) (b' := T id1), h.left', h.congr' _ (T id1) k (fun i hi => mm_id_l n (T id1) i k hi) i hi, h.back]
end Go.Proofs.Ytphpliclecmnlaa
/- The reference's Cauchy numbers. -/
namespace Go.Proofs.Ytphpliclecmnlaa
open Go Go.RowKit

set_option maxHeartbeats 1000000 in
theorem refCauchy_any (k i j : Nat) (h1 : k + i < 256) (h2 : j < 256) (h3 : k + i ≠ j) (w : World) :
    Calls Try.prog 26 #[.int .i64 k, .int .i64 i, .int .i64 j] w fun e w' => e = .returned (B (gi (BitVec.ofNat 8 (k + i) ^^^ BitVec.ofNat 8 j))) ∧ w = w' := by
  have hne : BitVec.ofNat 8 (k + i) ^^^ BitVec.ofNat 8 j ≠ 0#8 := fun e => h3 (by
    have := congrArg BitVec.toNat (xor_eq_zero _ _ e)
    simp only [BitVec.toNat_ofNat] at this
    omega)
  have HNE := Lib.hid hne
  have b1 : Value.int .u8 ((k : Int) + (i : Int)) = B (BitVec.ofNat 8 (k + i)) := (B_ofNat (k + i) h1).symm
  have b2 : Value.int .u8 (j : Int) = B (BitVec.ofNat 8 j) := (B_ofNat j h2).symm
  have hx : bits .xor .u8 ((k : Int) + (i : Int)) (j : Int) = ((BitVec.ofNat 8 (k + i) ^^^ BitVec.ofNat 8 j).toNat : Int) := by
    rw [show (k : Int) + (i : Int) = ((k + i : Nat) : Int) from rfl, u8_xor_nat _ _ h1 h2, BitVec.toNat_xor, BitVec.toNat_ofNat, BitVec.toNat_ofNat, Nat.mod_eq_of_lt h1, Nat.mod_eq_of_lt h2]
  clear hne b1 b2 h3
  generalize BitVec.ofNat 8 (k + i) ^^^ BitVec.ofNat 8 j = z at *
  go_enter Try.func26, Try.ntmps26
  go_wp2_with fail
  rw [← B_eq']
  refine (refInv_any _ HNE.out w).mono ?_
  rintro e w' ⟨rfl, rfl⟩
  go_wp2
  go_ret
  exact ⟨rfl, rfl⟩
end Go.Proofs.Ytphpliclecmnlaa
