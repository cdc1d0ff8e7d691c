/- Merged texts: Pth7, Base, Str7, Map8, MapR8, Dsk8. -/
import Derived.Test.YtbijgbjlljaolaaDoorRows
import Derived.WalkKit
import Derived.Deep.MidRow
import Derived.Deep.WholeRow
import Derived.WalkSmall
import Derived.Lib.Hide
import Derived.Laws.Concat
import Derived.Laws.Strings3
import Derived.MapKept
import Derived.Maps.Range
import Derived.Maps.Keyed
import Derived.Maps.RangeWalk
import Derived.RangeFuncRecord
import Derived.Deep.QuietTactic
import Derived.ChangeMaps4
set_option linter.unusedSimpArgs false
set_option linter.unusedVariables false
/- Paths as rows of bytes: the document's terms, by definition. -/
namespace Go.Proofs.YtbijgbjlljaolaaDoor
open Go

abbrev S8 := List UInt8
/-- The byte at a place, as a number. -/
def chr (l : S8) (i : Nat) : Nat := (l.getD i 0).toNat
theorem chr_lt (l : S8) (i : Nat) : chr l i < 256 := (l.getD i 0).toNat_lt
theorem chr_eq {l : S8} {i : Nat} (h : i < l.length) : chr l i = (l[i]).toNat := by
  unfold chr; rw [List.getD_eq_getElem?_getD, List.getElem?_eq_getElem h]; rfl
attribute [irreducible] chr
/-- The bytes that a name may have. -/
def allS : S8 := [97, 98, 99, 100, 101, 102, 103, 104, 105, 106, 107, 108, 109, 110, 111, 112, 113, 114, 115, 116, 117, 118, 119, 120, 121, 122, 65, 66, 67, 68, 69, 70, 71, 72, 73, 74, 75, 76, 77, 78, 79, 80, 81, 82, 83, 84, 85, 86, 87, 88, 89, 90, 48, 49, 50, 51, 52, 53, 54, 55, 56, 57, 45, 95, 46, 126, 43]
def signB (c : UInt8) : Bool := allS.contains c
/-- The names between the "/". -/
def nm : S8 → List S8
  | [] => [[]]
  | c :: r => if c = 47 then [] :: nm r else
    match nm r with
    | [] => [[c]]
    | h :: t => (c :: h) :: t
theorem nm_ne (l : S8) : nm l ≠ [] := by
  cases l with
  | nil => simp [nm]
  | cons c r =>
    simp only [nm]
    split
    · simp
    · split <;> simp
theorem nm_end {a : S8} (h : ∀ c ∈ a, c ≠ 47) : nm a = [a] := by
  induction a with
  | nil => rfl
  | cons c r ih =>
    rw [nm, if_neg (h c (by simp)), ih (fun x hx => h x (by simp [hx]))]
theorem nm_more {a : S8} (r : S8) (h : ∀ c ∈ a, c ≠ 47) : nm (a ++ 47 :: r) = a :: nm r := by
  induction a with
  | nil => simp [nm]
  | cons c t ih =>
    rw [List.cons_append, nm, if_neg (h c (by simp)), ih (fun x hx => h x (by simp [hx]))]
/-- The first name begins with whatever comes ahead of the first "/". -/
theorem nm_head {a : S8} (r : S8) (h : ∀ c ∈ a, c ≠ 47) : ∃ b t, nm (a ++ r) = (a ++ b) :: t := by
  induction a with
  | nil =>
    cases hn : nm r with
    | nil => exact absurd hn (nm_ne r)
    | cons b t => exact ⟨b, t, by simpa using hn⟩
  | cons c u ih =>
    obtain ⟨b, t, e⟩ := ih (fun x hx => h x (by simp [hx]))
    exact ⟨b, t, by rw [List.cons_append, nm, if_neg (h c (by simp)), e]; rfl⟩
def okN (n : S8) : Bool := n != [] && n != [46] && n != [46, 46] && n.all signB
/-- All names are names. -/
def allN (l : S8) : Bool := (nm l).all okN
def goodL (l : S8) : Bool := decide (l.length ≤ 100) && allN l
theorem allN_end {a : S8} (h : ∀ c ∈ a, c ≠ 47) : allN a = okN a := by unfold allN; rw [nm_end h]; simp
theorem allN_more {a : S8} (r : S8) (h : ∀ c ∈ a, c ≠ 47) : allN (a ++ 47 :: r) = (okN a && allN r) := by unfold allN; rw [nm_more r h]; simp
theorem allN_odd {a : S8} (r : S8) (h : ∀ c ∈ a, c ≠ 47) (x : UInt8) (hx : x ∈ a) (hs : signB x = false) : allN (a ++ r) = false := by
  obtain ⟨b, t, e⟩ := nm_head r h
  unfold allN
  rw [e]
  have : okN (a ++ b) = false := by
    unfold okN
    have : (a ++ b).all signB = false := by
      rw [List.all_eq_false]
      exact ⟨x, by simp [hx], by simp [hs]⟩
    rw [this, Bool.and_false]
  simp [this]
/-- One more than the place of the last "/" ahead of place i; 0 if there is none. -/
def kTo (l : S8) : Nat → Nat
  | 0 => 0
  | i + 1 => if chr l i = 47 then i + 1 else kTo l i
def kL (l : S8) : Nat := kTo l l.length
theorem kTo_le (l : S8) (i : Nat) : kTo l i ≤ i := by
  induction i with
  | zero => exact Nat.le_refl _
  | succ i ih => rw [kTo]; split <;> omega
theorem kL_le (l : S8) : kL l ≤ l.length := kTo_le l _
def dirL (l : S8) : S8 := l.take (kL l - 1)
def baseL (l : S8) : S8 := l.drop (kL l)
def inL (s d : S8) : Bool := decide (d.length + 1 < s.length) && (s.take (d.length + 1) == d ++ [47])
def startsL (s t : S8) : Bool := decide (t.length ≤ s.length) && (s.take t.length == t)
def decL (n : Nat) : S8 := if h : n < 10 then [UInt8.ofNat (48 + n)] else decL (n / 10) ++ [UInt8.ofNat (48 + n % 10)]
def hexB (c : Nat) : Bool := (decide (48 ≤ c) && decide (c ≤ 57)) || (decide (97 ≤ c) && decide (c ≤ 102))
def confl : S8 := [99, 111, 110, 102, 108, 105, 99, 116, 126]
def okHome (size : Int) (sum : S8) : Bool := decide (0 ≤ size) && decide (size ≤ 16384) && decide (sum.length = 64) && sum.all (fun c => hexB c.toNat)
def homeOf (size : Int) (sum : S8) : S8 := confl ++ decL size.toNat ++ [126] ++ sum
def homeL (size : Int) (sum : S8) : S8 × Nat := if okHome size sum then (homeOf size sum, 0) else ([], 1)
def putL (l ahead : S8) : S8 := l.take (kL l) ++ ahead ++ l.drop (kL l)
def withL (l ahead : S8) : S8 × Nat := if goodL l && goodL (putL l ahead) then (putL l ahead, 0) else ([], 7)
def tmpS : S8 := [46, 116, 109, 112, 126]
def parS : S8 := [46, 112, 97, 114, 126]
def copyL (l : S8) (size : Int) (sum : S8) : S8 × Nat :=
  if goodL l then (if (homeL size sum).2 = 0 then (if goodL (l ++ [46] ++ (homeL size sum).1) then (l ++ [46] ++ (homeL size sum).1, 0) else ((homeL size sum).1, 0)) else ([], (homeL size sum).2)) else ([], 7)
def kindL (l : S8) : Nat := if goodL l then (if startsL (baseL l) tmpS then 1 else if startsL (baseL l) parS then 2 else 3) else 0
/-- Equal, or one in the other. -/
def hitL (a b : S8) : Bool := (a == b) || inL a b || inL b a
/-- What First tells of a list: the first pair, by the second one, then by the first one. -/
def FirstR (ls : List S8) (a b : S8) (some : Bool) : Prop :=
  (some = true ∧ ∃ i k, i < k ∧ k < ls.length ∧ a = ls.getD i [] ∧ b = ls.getD k [] ∧ hitL (ls.getD i []) (ls.getD k []) = true ∧ ∀ i' k', i' < k' → (k' < k ∨ (k' = k ∧ i' < i)) → hitL (ls.getD i' []) (ls.getD k' []) = false)
  ∨ (some = false ∧ a = [] ∧ b = [] ∧ ∀ i' k', i' < k' → k' < ls.length → hitL (ls.getD i' []) (ls.getD k' []) = false)
end Go.Proofs.YtbijgbjlljaolaaDoor
/- Bytes as values, rows of memory, and what a call may change: small laws that the walks want; nothing of the program but its types. -/
namespace Go.Proofs.YtbijgbjlljaolaaDoor
open Go Go.RowKit

/-- A byte as a value. -/
def B (x : BitVec 8) : Value := .int .u8 (x.toNat : Int)
theorem B_eq' (x : BitVec 8) : B x = .int .u8 (x.toNat : Int) := rfl
theorem B_inj {x y : BitVec 8} (h : B x = B y) : x = y := by
  simp only [B, Value.int.injEq, true_and] at h
  exact BitVec.eq_of_toNat_eq (by omega)
theorem B_ofNat (n : Nat) (h : n < 256) : B (BitVec.ofNat 8 n) = .int .u8 (n : Int) := by
  rw [B_eq', BitVec.toNat_ofNat, Nat.mod_eq_of_lt h]
theorem B_0 : B 0#8 = .int .u8 0 := rfl
theorem B_1 : B 1#8 = .int .u8 1 := rfl
section
variable (t : TypeId)
theorem wrap_u8_bv (n : Nat) : IntKind.u8.wrap (n : Int) = ((BitVec.ofNat 8 n).toNat : Int) := by
  rw [IntKind.wrap_u8']; simp
theorem bB_xor (x y : BitVec 8) : binOp .xor t (B x) (B y) = pure (B (x ^^^ y)) := by
  have h : bits .xor .u8 (x.toNat : Int) (y.toNat : Int) = ((x ^^^ y).toNat : Int) := by
    rw [u8_xor_nat _ _ x.isLt y.isLt, BitVec.toNat_xor]
  simp only [B, binOp_xor, intBits_xor, h]
theorem B_beq (x y : BitVec 8) : ((x.toNat : Int) == (y.toNat : Int)) = (x == y) := by
  rw [Bool.eq_iff_iff]; simp only [beq_iff_eq]
  constructor
  · intro h; exact BitVec.eq_of_toNat_eq (by omega)
  · rintro rfl; rfl
theorem bB_eql (x y : BitVec 8) : binOp .eql t (B x) (B y) = pure (.bool (x == y)) := by
  simp only [B, binOp_eql, B_beq]
theorem bB_neq (x y : BitVec 8) : binOp .neq t (B x) (B y) = pure (.bool (x != y)) := by
  have h : ((x.toNat : Int) != (y.toNat : Int)) = (x != y) := by
    show (!_) = (!_)
    rw [B_beq]
  simp only [B, binOp_neq, h]
theorem bB_eql0 (x : BitVec 8) : binOp .eql t (B x) (.int .u8 0) = pure (.bool (x == 0#8)) := bB_eql t x 0#8
theorem bB_eql1 (x : BitVec 8) : binOp .eql t (B x) (.int .u8 1) = pure (.bool (x == 1#8)) := bB_eql t x 1#8
theorem bB_eql29 (x : BitVec 8) : binOp .eql t (B x) (.int .u8 29) = pure (.bool (x == 29#8)) := bB_eql t x 29#8
theorem bB_neq0 (x : BitVec 8) : binOp .neq t (B x) (.int .u8 0) = pure (.bool (x != 0#8)) := bB_neq t x 0#8
theorem bB_neq1 (x : BitVec 8) : binOp .neq t (B x) (.int .u8 1) = pure (.bool (x != 1#8)) := bB_neq t x 1#8
theorem guard_B (op : BinOp) (p q : Operand) (x : BitVec 8) (v : Value) : eqGuard op t p q (B x) v = pure () := eqGuard_at_int ..
theorem one_B (x : BitVec 8) : (B x).oneCell' = true := rfl
theorem cells_B (x : BitVec 8) : (B x).cells = #[B x] := rfl
theorem asIntOf_B (x : BitVec 8) : asIntOf (B x) = pure (IntKind.u8, (x.toNat : Int)) := rfl
end
section
variable {P : Program} (w : World)
theorem run_convert_IB (src dst : TypeId) (n : Nat) (hs : (P.underlying src).isSome = true) (hd : P.underlying dst = some (.int .u8)) :
    (convert src dst (.int .i64 (n : Int))).run P w = .ok (B (BitVec.ofNat 8 n)) w := by
  have hk : P.intKind dst = .u8 := by simp [Program.intKind, hd]
  have := run_convert_int (P := P) (w := w) src dst .i64 (n : Int) hs (by rw [hk]; exact hd)
  rw [hk, wrap_u8_bv] at this
  exact this
theorem run_convert_BI (src dst : TypeId) (x : BitVec 8) (hs : (P.underlying src).isSome = true) (hd : P.underlying dst = some (.int .i64)) :
    (convert src dst (B x)).run P w = .ok (.int .i64 (x.toNat : Int)) w := by
  have hk : P.intKind dst = .i64 := by simp [Program.intKind, hd]
  have := run_convert_int (P := P) (w := w) src dst .u8 (x.toNat : Int) hs (by rw [hk]; exact hd)
  rw [hk, IntWalk.i64_in _ (by have := x.isLt; omega)] at this
  exact this
theorem run_store_B (a : Addr) (x : BitVec 8) (m : Mode) : (store a (B x) m).run P w = stored P w a (B x) m := run_store P w a _ m rfl
end
theorem i64_xor_nat (a b : Nat) (ha : a < 4294967296) (hb : b < 4294967296) : bits .xor .i64 (a : Int) (b : Int) = ((a ^^^ b : Nat) : Int) := by
  have hx : a ^^^ b < 2 ^ 32 := Nat.xor_lt_two_pow (by omega) (by omega)
  have e : ∀ c : Nat, c < 4294967296 → (BitVec.ofInt 64 (c : Int)).toNat = c := fun c hc => by
    rw [BitVec.ofInt_natCast, BitVec.toNat_ofNat]; exact Nat.mod_eq_of_lt (by omega)
  show IntKind.i64.wrap ((BitVec.ofInt 64 (a : Int) ^^^ BitVec.ofInt 64 (b : Int)).toNat : Int) = _
  rw [BitVec.toNat_xor, e a ha, e b hb]
  exact IntWalk.i64_in _ (by omega)
attribute [irreducible] B
attribute [go_sem] bB_xor bB_eql bB_neq bB_eql0 bB_eql1 bB_eql29 bB_neq0 bB_neq1 guard_B run_convert_BI run_store_B one_B asIntOf_B

/-- Rows. -/
def tab (n : Nat) (f : Nat → Value) : Array Value := ((List.range n).map f).toArray
theorem tab_size (n : Nat) (f : Nat → Value) : (tab n f).size = n := by simp [tab]
theorem tab_get (n : Nat) (f : Nat → Value) (i : Nat) (h : i < n) : (tab n f)[i]? = some (f i) := by simp [tab, h]
theorem tab_congr {n : Nat} {f g : Nat → Value} (h : ∀ i, i < n → f i = g i) : tab n f = tab n g := by
  unfold tab
  congr 1
  apply List.map_congr_left
  intro i hi
  exact h i (by simpa using hi)
theorem tab_set (n : Nat) (f : Nat → Value) (i : Nat) (v : Value) : (tab n f).setIfInBounds i v = tab n (fun j => if j = i then v else f j) := by
  apply Array.ext_getElem?
  intro j
  by_cases hj : j < n
  · rw [tab_get n _ j hj, Array.getElem?_setIfInBounds]
    by_cases e : i = j
    · subst e; simp [tab_size, hj]
    · rw [if_neg e, tab_get n _ j hj, if_neg (Ne.symm e)]
  · have h1 : n ≤ j := by omega
    rw [Array.getElem?_eq_none (by simpa [tab] using h1), Array.getElem?_eq_none (by simpa [tab] using h1)]
theorem tab_const (n : Nat) (v : Value) : tab n (fun _ => v) = Array.replicate n v := by
  apply Array.ext_getElem?
  intro j
  by_cases hj : j < n <;> simp [tab, hj]
/-- n zero bytes. -/
def zb (n : Nat) : Array Value := tab n (fun _ => B 0#8)
theorem zb_eq (n : Nat) : zb n = Array.replicate n (Value.int .u8 0) := by
  rw [zb, tab_const]; unfold B; rfl

/-- Of the blocks that were there only block b may have changed. -/
structure Kp (b : Nat) (w w' : World) : Prop where
  os : w'.os = w.os
  tape : w'.tape = w.tape
  output : w'.output = w.output
  size : w.heap.size ≤ w'.heap.size
  block : ∀ k, k < w.heap.size → k ≠ b → w'.heap[k]? = w.heap[k]?
theorem Kp.refl (b : Nat) (w : World) : Kp b w w := ⟨rfl, rfl, rfl, Nat.le_refl _, fun _ _ _ => rfl⟩
theorem Kp.trans {b : Nat} {x y z : World} (h : Kp b x y) (k : Kp b y z) : Kp b x z :=
  ⟨k.os.trans h.os, k.tape.trans h.tape, k.output.trans h.output, Nat.le_trans h.size k.size, fun i hi hb => (k.block i (Nat.lt_of_lt_of_le hi h.size) hb).trans (h.block i hi hb)⟩
theorem Kp.of_below {b : Nat} {x y z : World} (h : Kp b x y) (k : Below y.heap.size y z) : Kp b x z :=
  h.trans ⟨k.os, k.tape, k.output, k.size, fun i hi _ => k.block i hi⟩
theorem Kp.drewN {b : Nat} {x y : World} (h : Kp b x y) (n : Nat) : Kp b x (y.drewN n) := h.trans ⟨rfl, rfl, rfl, Nat.le_refl _, fun _ _ _ => rfl⟩
theorem Kp.alloc {b : Nat} {x y : World} (h : Kp b x y) (o : Obj) : Kp b x (y.alloc o) := h.of_below ((Below.refl _ _).alloc (Nat.le_refl _) o)
theorem Kp.setCell {b : Nat} {x y : World} (h : Kp b x y) (i : Nat) (v : Value) : Kp b x (y.setCell ⟨b, i, none⟩ v) :=
  h.trans ⟨rfl, rfl, rfl, by simp, fun k _ hb => Below.heap_setCell _ _ _ _ hb⟩
/-- A store into a block that the call made. -/
theorem Kp.setNew {b : Nat} {x y : World} (h : Kp b x y) {a : Addr} (ha : x.heap.size ≤ a.block) (v : Value) : Kp b x (y.setCell a v) :=
  ⟨h.os, h.tape, h.output, by simpa using h.size, fun k hk hb => by rw [Below.heap_setCell _ _ _ _ (by omega)]; exact h.block k hk hb⟩
theorem Kp.cell {b : Nat} {x y : World} (h : Kp b x y) {p : Addr} (hp : p.block < x.heap.size) (hb : p.block ≠ b) : y.cell? p = x.cell? p := World.cell?_of_block (w := x) (h.block p.block hp hb)
theorem Kp.frozen {b : Nat} {x y : World} (h : Kp b x y) {p : Addr} (hp : p.block < x.heap.size) (hb : p.block ≠ b) : y.frozen? p = x.frozen? p := World.frozen?_of_block (w := x) (h.block p.block hp hb)
/-- Where b itself was made by the call, nothing that was there has changed. -/
theorem Kp.below {b : Nat} {x y : World} (h : Kp b x y) {N : Nat} (hN : N ≤ b) (hx : N ≤ x.heap.size) : Below N x y :=
  ⟨h.os, h.tape, h.output, h.size, fun k hk => h.block k (by omega) (by omega)⟩

/-- Block b is a row of n values. -/
def Row (w : World) (b : Nat) (T : TypeId) (n : Nat) (g : Nat → Value) : Prop := w.heap[b]? = some (.cells (tab n g) T (0, 0))
section
variable {w : World} {b : Nat} {T : TypeId} {n : Nat} {g : Nat → Value}
theorem Row.lt (h : Row w b T n g) : b < w.heap.size := by
  rcases Nat.lt_or_ge b w.heap.size with h' | h'
  · exact h'
  · unfold Row at h; rw [Array.getElem?_eq_none h'] at h; cases h
theorem Row.cell (h : Row w b T n g) (i : Nat) (hi : i < n) : w.cell? ⟨b, i, none⟩ = some (g i) := by
  rw [cell_of_row w b i _ T (0, 0) h, tab_get _ _ _ hi]
theorem Row.free (h : Row w b T n g) (i : Nat) : w.frozen? ⟨b, i, none⟩ = false := by
  unfold Row at h
  simp only [World.frozen?, h]
  simp
theorem Row.of_block {w' : World} (h : Row w b T n g) (e : w'.heap[b]? = w.heap[b]?) : Row w' b T n g := e.trans h
theorem Row.of_below {w' : World} (h : Row w b T n g) (k : Below w.heap.size w w') : Row w' b T n g := h.of_block (k.block b h.lt)
theorem Row.below {w' : World} {N : Nat} (h : Row w b T n g) (k : Below N w w') (hb : b < N) : Row w' b T n g := h.of_block (k.block b hb)
theorem Row.of_kp {w' : World} {c : Nat} (h : Row w b T n g) (k : Kp c w w') (hc : b ≠ c) : Row w' b T n g := h.of_block (k.block b h.lt hc)
theorem Row.drewN (h : Row w b T n g) (k : Nat) : Row (w.drewN k) b T n g := h
theorem Row.drew (h : Row w b T n g) : Row w.drew b T n g := h
theorem Row.congr (h : Row w b T n g) {g' : Nat → Value} (e : ∀ i, i < n → g i = g' i) : Row w b T n g' := by
  unfold Row at h ⊢; rw [h, tab_congr e]
theorem Row.set (h : Row w b T n g) (i : Nat) (v : Value) : Row (w.setCell ⟨b, i, none⟩ v) b T n (fun j => if j = i then v else g j) := by
  unfold Row at h ⊢
  simp only [World.setCell, Array.getElem?_modify, if_true, h, Option.map_some]
  simp only [Option.isSome_none, Bool.false_eq_true, if_false, tab_set]
theorem Row.range (h : Row w b T n g) : w.rangeAt b 0 (tab n g).toList := by
  intro j v hv
  rw [Nat.zero_add, cell_of_row w b j _ T (0, 0) h]
  simpa using hv
theorem Row.new (w : World) (T : TypeId) (n : Nat) (g : Nat → Value) : Row (w.alloc (.cells (tab n g) T)) w.heap.size T n g := heap_alloc_last w _
end
/-- The same world but for draws. -/
def Dr (w w' : World) : Prop := ∃ N, w' = w.drewN N
theorem Dr.refl (w : World) : Dr w w := ⟨0, rfl⟩
theorem Dr.drewN {x y : World} (h : Dr x y) (n : Nat) : Dr x (y.drewN n) := by
  obtain ⟨N, rfl⟩ := h; exact ⟨N + n, by rw [World.drewN_drewN]⟩
theorem Dr.drew {x y : World} (h : Dr x y) : Dr x y.drew := h.drewN 1
theorem Dr.trans {x y z : World} (h : Dr x y) (k : Dr y z) : Dr x z := by
  obtain ⟨N, rfl⟩ := k; exact h.drewN N
theorem Dr.heap {x y : World} (h : Dr x y) : y.heap = x.heap := by obtain ⟨N, rfl⟩ := h; rfl
theorem Dr.cell {x y : World} (h : Dr x y) (a : Addr) : y.cell? a = x.cell? a := by obtain ⟨N, rfl⟩ := h; rfl
theorem Dr.frozen {x y : World} (h : Dr x y) (a : Addr) : y.frozen? a = x.frozen? a := by obtain ⟨N, rfl⟩ := h; rfl
theorem Dr.below {x y : World} (h : Dr x y) (B : Nat) : Below B x y := by obtain ⟨N, rfl⟩ := h; exact below_drewN (Below.refl _ _) N
theorem Row.dr {w w' : World} {b : Nat} {T : TypeId} {n : Nat} {g : Nat → Value} (h : Row w b T n g) (k : Dr w w') : Row w' b T n g := by obtain ⟨N, rfl⟩ := k; exact h
theorem setCell_drewN (w : World) (n : Nat) (a : Addr) (v : Value) : (w.drewN n).setCell a v = (w.setCell a v).drewN n := rfl
attribute [go_sem] setCell_drewN

/-- The bytes l lie where a slice of their length begins. -/
def Sl (w : World) (p : Option Addr) (l : List (BitVec 8)) : Prop := ∀ j, j < l.length → ∃ c o, p = some ⟨c, o, none⟩ ∧ w.cell? ⟨c, o + j, none⟩ = some (B (l.getD j 0#8))
theorem Sl.of_below {w w' : World} {p : Option Addr} {l : List (BitVec 8)} (h : Sl w p l) (k : Below w.heap.size w w') : Sl w' p l := fun j hj => by
  obtain ⟨c, o, e, hc⟩ := h j hj
  refine ⟨c, o, e, ?_⟩
  rw [k.cell (World.block_lt_of_cell? w _ hc)]
  exact hc
theorem Sl.dr {w w' : World} {p : Option Addr} {l : List (BitVec 8)} (h : Sl w p l) (k : Dr w w') : Sl w' p l := by obtain ⟨N, rfl⟩ := k; exact h
theorem Sl.nil (w : World) (p : Option Addr) : Sl w p [] := fun j hj => absurd hj (by simp)
theorem Sl.row {w : World} {b : Nat} {T : TypeId} {l : List (BitVec 8)} {n : Nat} {g : Nat → Value} (h : Row w b T n g) (hl : l.length ≤ n) (e : ∀ j, j < l.length → g j = B (l.getD j 0#8)) : Sl w (some ⟨b, 0, none⟩) l := fun j hj =>
  ⟨b, 0, rfl, by rw [Nat.zero_add, h.cell j (by omega), e j hj]⟩
theorem Sl.cells {w : World} {p : Option Addr} {l : List (BitVec 8)} (h : Sl w p l) (hl : 0 < l.length) : ∃ c o, p = some ⟨c, o, none⟩ ∧ c < w.heap.size ∧ ∀ j, j < l.length → w.cell? ⟨c, o + j, none⟩ = some (B (l.getD j 0#8)) := by
  obtain ⟨c, o, e, hc⟩ := h 0 hl
  refine ⟨c, o, e, World.block_lt_of_cell? w _ hc, fun j hj => ?_⟩
  obtain ⟨c', o', e', hc'⟩ := h j hj
  rw [e] at e'
  injection e' with e'
  injection e' with h1 h2
  subst h1 h2
  exact hc'
theorem take_getD {α : Type} (l : List α) (d : α) (k : Nat) (h : k < l.length) : l.take (k + 1) = l.take k ++ [l.getD k d] := by
  rw [List.take_succ_eq_append_getElem h]
  simp [List.getD_eq_getElem?_getD, h]

/-- A store, a build, a box, a make, an element's address: their operands reckoned first. -/
def stT (t : TypeId) (p v : Value) : Sem Next := do Instr.storeAt t p v; pure .skip
theorem exec_store (r : Operand → Value) (dst : Option Tmp) (t : TypeId) (p v : Operand) (ty : TypeId) (pos : String) (after : Array Edge) (guard : Option (Nat × Bool)) :
    execOp r ⟨dst, .store t p v, ty, pos, after, guard⟩ = stT t (r p) (r v) := rfl
theorem stT_one {P : Program} (t : TypeId) (a : Addr) (v : Value) (w : World) (hv : v.oneCell' = true) (hc : v.cells = #[v]) (hs : (P.info? t).map (·.size) = some 1)
    (hcell : (w.cell? a).isSome = true) (hf : w.frozen? a = false) : (stT t (.pointer (some a)) v).run P w = .ok .skip (w.setCell a v) := by
  obtain ⟨u, hu⟩ := Option.isSome_iff_exists.1 hcell
  cases hq : P.info? t with
  | none => simp [hq] at hs
  | some i =>
    have hi : i.size = 1 := by simpa [hq] using hs
    simp [stT, Instr.storeAt, Instr.sureAddr, storeVar, hc, sizeOf, typeInfo, hq, hi, storeCells, Addr.add_zero', run_store P w a v _ hv, stored, hu, hf]
def bdT (t : TypeId) (parts : Array (Nat × Value)) : Sem Next := do pure (.value (← Instr.build t parts))
theorem exec_build (r : Operand → Value) (dst : Option Tmp) (t : TypeId) (parts : Array (Nat × Operand)) (ty : TypeId) (pos : String) (after : Array Edge) (guard : Option (Nat × Bool)) :
    execOp r ⟨dst, .build t parts, ty, pos, after, guard⟩ = bdT t (parts.map fun x => (x.1, r x.2)) := rfl
def bxT (t : TypeId) (x : Value) : Sem Next := do pure (.value (← Instr.box t x))
theorem exec_box (r : Operand → Value) (dst : Option Tmp) (t : TypeId) (x : Operand) (ty : TypeId) (pos : String) (after : Array Edge) (guard : Option (Nat × Bool)) :
    execOp r ⟨dst, .box t x, ty, pos, after, guard⟩ = bxT t (r x) := rfl
def mkT (t : TypeId) (l c : Value) : Sem Next := do pure (.value (← Instr.makeSlice t l c))
theorem exec_make (r : Operand → Value) (dst : Option Tmp) (t : TypeId) (l c : Operand) (ty : TypeId) (pos : String) (after : Array Edge) (guard : Option (Nat × Bool)) :
    execOp r ⟨dst, .makeSlice t l c, ty, pos, after, guard⟩ = mkT t (r l) (r c) := rfl
def bsT (t : TypeId) (n : Nat) (parts : Array (Nat × Value)) : Sem Next := do pure (.value (← Instr.buildSlice t n parts))
theorem exec_bs (r : Operand → Value) (dst : Option Tmp) (t : TypeId) (n : Nat) (parts : Array (Nat × Operand)) (ty : TypeId) (pos : String) (after : Array Edge) (guard : Option (Nat × Bool)) :
    execOp r ⟨dst, .buildSlice t n parts, ty, pos, after, guard⟩ = bsT t n (parts.map fun x => (x.1, r x.2)) := rfl
theorem run_indexAt_B {P : Program} {w : World} (t e : TypeId) (n : Nat) (a : Addr) (x : BitVec 8) (h : P.underlying t = some (.array n e)) (hn : x.toNat < n) (hs : (P.info? e).map (·.size) = some 1) :
    (Instr.indexAt t (.pointer (some a)) (B x)).run P w = .ok (.pointer (some (a.add x.toNat))) w := by
  cases hq : P.info? e with
  | none => simp [hq] at hs
  | some i =>
    have hi : i.size = 1 := by simpa [hq] using hs
    have h0 : (0 : Int) ≤ (x.toNat : Int) ∧ (x.toNat : Int) < (n : Int) := by omega
    simp [Instr.indexAt, run_underlying h, Instr.sureAddr, asIntOf_B, sizeOf, typeInfo, hq, hi, h0, hn]
end Go.Proofs.YtbijgbjlljaolaaDoor
/- Strings of the program as rows of bytes. -/
namespace Go.Proofs.YtbijgbjlljaolaaDoor
open Go Go.RowKit

def mkS (l : S8) : ByteArray := ⟨l.toArray⟩
theorem mkS_of (s : ByteArray) : mkS s.data.toList = s := by cases s; simp [mkS]
theorem mkS_size (l : S8) : (mkS l).size = l.length := by show l.toArray.size = _; simp
theorem mkS_toList (l : S8) : (mkS l).toList = l := ByteArray.toList_mk l
theorem mkS_lit (l : S8) : (ByteArray.mk l.toArray) = mkS l := rfl
theorem mkS_add (a b : S8) : mkS a ++ mkS b = mkS (a ++ b) := by
  apply ByteArray.ext
  simp [mkS]
theorem mkS_cut (l : S8) (a b : Nat) : (mkS l).extract a b = mkS ((l.drop a).take (b - a)) := ByteArray.extract_mk l a b
theorem mkS_get (l : S8) (i : Nat) (h : i < (mkS l).size) : ((mkS l)[i]).toNat = chr l i := by
  have hl : i < l.length := by rw [mkS_size] at h; exact h
  rw [chr_eq hl]
  rfl
theorem mkS_inj {a b : S8} : mkS a = mkS b ↔ a = b := ⟨fun h => by have := congrArg ByteArray.toList h; rwa [mkS_toList, mkS_toList] at this, fun h => by rw [h]⟩
attribute [irreducible] mkS
theorem strT : Tryd.prog.underlying 9 = some .string := by kernel_rfl
theorem ix_S (l : S8) (i : Nat) (w : World) (h : i < l.length) : (Instr.index 9 (.string (mkS l)) (.int .i64 (i : Int))).run Tryd.prog w = .ok (.int .u8 (chr l i : Int)) w := by
  have hs : i < (mkS l).size := by rw [mkS_size]; exact h
  rw [run_index_string (P := Tryd.prog) w 9 (mkS l) .i64 (i : Int) strT, dif_pos ⟨by omega, by omega⟩]
  have := mkS_get l i hs
  simp only [Int.toNat_natCast]
  rw [this]
theorem sl_S (l : S8) (i j : Nat) (w : World) (h1 : i ≤ j) (h2 : j ≤ l.length) : (Instr.slice 9 (.string (mkS l)) (some (.int .i64 (i : Int))) (some (.int .i64 (j : Int))) none).run Tryd.prog w = .ok (.string (mkS ((l.drop i).take (j - i)))) w := by
  rw [run_slice_string (P := Tryd.prog) w 9 (mkS l) .i64 .i64 (i : Int) (j : Int) strT (by omega) (by omega) (by rw [mkS_size]; omega), mkS_cut]
  simp only [Int.toNat_natCast]
theorem sl_to (l : S8) (j : Nat) (w : World) (h2 : j ≤ l.length) : (Instr.slice 9 (.string (mkS l)) none (some (.int .i64 (j : Int))) none).run Tryd.prog w = .ok (.string (mkS (l.take j))) w := by
  rw [run_slice_string_h (P := Tryd.prog) w 9 (mkS l) strT .i64 (j : Int) (by omega) (by rw [mkS_size]; omega), mkS_cut]
  simp only [Int.toNat_natCast, List.drop_zero, Nat.sub_zero]
theorem sl_from (l : S8) (i : Nat) (w : World) (h2 : i ≤ l.length) : (Instr.slice 9 (.string (mkS l)) (some (.int .i64 (i : Int))) none none).run Tryd.prog w = .ok (.string (mkS (l.drop i))) w := by
  rw [run_slice_string_l (P := Tryd.prog) w 9 (mkS l) strT .i64 (i : Int) (by omega) (by rw [mkS_size]; omega), mkS_cut, mkS_size]
  simp only [Int.toNat_natCast]
  rw [List.take_of_length_le (by simp)]
/-- Two strings whose lengths have a sum. -/
def Fit (a b : S8) : Prop := a.length + b.length ≤ 9223372036854775807
theorem fit {a b : S8} (h : a.length + b.length ≤ 9223372036854775807) : Fit a b := h
theorem Fit.out {a b : S8} (h : Fit a b) : a.length + b.length ≤ 9223372036854775807 := h
attribute [irreducible] Fit
/-- One string behind the other. -/
def cat (a b : S8) : S8 := a ++ b
theorem cat_eq (a b : S8) : cat a b = a ++ b := rfl
theorem cat_len (a b : S8) : (cat a b).length = a.length + b.length := by rw [cat_eq, List.length_append]
attribute [irreducible] cat
theorem add_S (a b : S8) (w : World) (h : Fit a b) : (Op.stringOp .add (mkS a) (mkS b)).run Tryd.prog w = .ok (.string (mkS (cat a b))) w := by
  rw [run_string_add_sum (P := Tryd.prog) w (mkS a) (mkS b) (by rw [mkS_size, mkS_size]; exact h.out), mkS_add, cat_eq]
theorem add_SL (a b : S8) (w : World) (h : Fit a b) : (Op.stringOp .add (mkS a) ⟨b.toArray⟩).run Tryd.prog w = .ok (.string (mkS (cat a b))) w := by
  rw [mkS_lit]; exact add_S a b w h
theorem add_LS (a b : S8) (w : World) (h : Fit a b) : (Op.stringOp .add ⟨a.toArray⟩ (mkS b)).run Tryd.prog w = .ok (.string (mkS (cat a b))) w := by
  rw [mkS_lit]; exact add_S a b w h
attribute [go_sem high] ix_S sl_S sl_to sl_from add_S add_SL add_LS
attribute [go_sem] mkS_toList mkS_size
/-- A pure answer. -/
def Gives (v : Value) (w : World) (e : Ending) (w' : World) : Prop := e = .returned v ∧ Below w.heap.size w w'
end Go.Proofs.YtbijgbjlljaolaaDoor
/- Maps from strings in memory: a block holds a map whose entries, in whatever order they lie, are these. -/
namespace Go.Proofs.YtbijgbjlljaolaaDoor
open Go Go.RowKit Go.MapKept
open Go.ChangeMaps (setBlock)

/-- What a list of keys and values has at a key. -/
def findV (l : List (S8 × Value)) (p : S8) : Option Value := (l.find? fun x => x.1 == p).map (·.2)
def delV (l : List (S8 × Value)) (p : S8) : List (S8 × Value) := l.filter fun x => x.1 != p
def putV (l : List (S8 × Value)) (p : S8) (v : Value) : List (S8 × Value) := (p, v) :: delV l p
def kvE (e : MapEntry) : Value × Value := (e.key, e.val)
def kvS (p : S8 × Value) : Value × Value := (.string (mkS p.1), p.2)
structure MpOk (es : Array MapEntry) (clock : Nat) (l : List (S8 × Value)) : Prop where
  st : Stamped es clock
  kv : (es.toList.map kvE).Perm (l.map kvS)
/-- Block b is a map of these. -/
def MpB (w : World) (b : Nat) (l : List (S8 × Value)) : Prop := ∃ es clock, w.heap[b]? = some (.map es clock) ∧ MpOk es clock l
theorem keyV_inj {a b : S8} : (Value.string (mkS a) = Value.string (mkS b)) ↔ a = b := by
  rw [Value.string.injEq, mkS_inj]
section
variable {es : Array MapEntry} {clock : Nat} {l : List (S8 × Value)}
theorem MpOk.born (h : MpOk es clock l) : (es.toList.map (·.born)).Nodup := ((stamped_iff es clock).1 h.st).2.1
theorem MpOk.old (h : MpOk es clock l) : ∀ x ∈ es.toList, x.born < clock := ((stamped_iff es clock).1 h.st).1
theorem MpOk.apart (h : MpOk es clock l) : es.toList.Pairwise (fun x y => x.key ≠ y.key) := ((stamped_iff es clock).1 h.st).2.2
theorem MpOk.of_perm (h : MpOk es clock l) {l' : List (S8 × Value)} (hp : l.Perm l') : MpOk es clock l' := ⟨h.st, h.kv.trans (hp.map _)⟩
theorem MpOk.mem (h : MpOk es clock l) {e : MapEntry} (he : e ∈ es.toList) : ∃ p v, (p, v) ∈ l ∧ e.key = .string (mkS p) ∧ e.val = v := by
  have : kvE e ∈ l.map kvS := h.kv.mem_iff.1 (List.mem_map.2 ⟨e, he, rfl⟩)
  obtain ⟨x, hx, e2⟩ := List.mem_map.1 this
  rw [kvS, kvE, Prod.mk.injEq] at e2
  exact ⟨x.1, x.2, hx, e2.1.symm, e2.2.symm⟩
theorem MpOk.size (h : MpOk es clock l) : es.size = l.length := by
  have := h.kv.length_eq
  simpa using this
theorem MpOk.keys (h : MpOk es clock l) : (l.map (·.1)).Nodup := by
  have h1 : ((es.toList.map kvE).map (·.1)).Nodup := by
    rw [List.map_map]
    show (es.toList.map (·.key)).Nodup
    rw [List.Nodup, List.pairwise_map]
    exact h.apart
  have h2 : ((l.map kvS).map (·.1)).Nodup := ((h.kv.map (·.1)).nodup_iff).1 h1
  rw [List.map_map] at h2
  rw [List.Nodup, List.pairwise_map] at h2 ⊢
  exact h2.imp fun hne e => hne (by show Value.string _ = Value.string _; rw [e])
theorem MpOk.isKey (h : MpOk es clock l) : ∀ x ∈ es.toList, IsKey .string x.key := fun x hx => by
  obtain ⟨p, v, _, e, _⟩ := h.mem hx
  rw [e]
  trivial
end
theorem findV_mem {l : List (S8 × Value)} (hk : (l.map (·.1)).Nodup) {p : S8} {v : Value} (h : (p, v) ∈ l) : findV l p = some v := by
  unfold findV
  induction l with
  | nil => exact absurd h (by simp)
  | cons x r ih =>
    rw [List.map_cons, List.nodup_cons] at hk
    rw [List.find?_cons]
    rcases List.mem_cons.1 h with h1 | h1
    · rw [← h1]
      simp
    · have : (x.1 == p) = false := by
        rw [beq_eq_false_iff_ne]
        intro e
        exact hk.1 (by rw [e]; exact List.mem_map.2 ⟨_, h1, rfl⟩)
      rw [this]
      exact ih hk.2 h1
theorem findV_none {l : List (S8 × Value)} {p : S8} (h : ∀ x ∈ l, x.1 ≠ p) : findV l p = none := by
  unfold findV
  rw [List.find?_eq_none.2 (fun x hx => by simpa using h x hx)]
  rfl
theorem findV_in {l : List (S8 × Value)} {p : S8} {v : Value} (h : findV l p = some v) : (p, v) ∈ l := by
  unfold findV at h
  cases hf : l.find? (fun x => x.1 == p) with
  | none => rw [hf] at h; cases h
  | some x =>
    rw [hf] at h
    injection h with h
    have h1 := List.mem_of_find?_eq_some hf
    have h2 := List.find?_some hf
    have : x.1 = p := by simpa using h2
    subst this h
    exact h1
theorem findV_perm {l l' : List (S8 × Value)} (hk : (l.map (·.1)).Nodup) (hp : l.Perm l') (p : S8) : findV l p = findV l' p := by
  have hk' : (l'.map (·.1)).Nodup := ((hp.map (·.1)).nodup_iff).1 hk
  cases h : findV l p with
  | some v => exact (findV_mem hk' (hp.mem_iff.1 (findV_in h))).symm
  | none =>
    cases h' : findV l' p with
    | none => rfl
    | some v =>
      rw [findV_mem hk (hp.mem_iff.2 (findV_in h'))] at h
      cases h
section
variable {w w' : World} {b : Nat} {l : List (S8 × Value)}
theorem MpB.lt (h : MpB w b l) : b < w.heap.size := by
  obtain ⟨es, clock, hb, _⟩ := h
  exact (Array.getElem?_eq_some_iff.1 hb).1
theorem MpB.keep (h : MpB w b l) (hk : w'.heap[b]? = w.heap[b]?) : MpB w' b l := by
  obtain ⟨es, clock, hb, r⟩ := h
  exact ⟨es, clock, by rw [hk]; exact hb, r⟩
theorem MpB.of_below (h : MpB w b l) (hB : Below w.heap.size w w') : MpB w' b l := h.keep (hB.block b h.lt)
theorem MpB.of_perm (h : MpB w b l) {l' : List (S8 × Value)} (hp : l.Perm l') : MpB w b l' := by
  obtain ⟨es, clock, hb, r⟩ := h
  exact ⟨es, clock, hb, r.of_perm hp⟩
theorem MpB.keys (h : MpB w b l) : (l.map (·.1)).Nodup := by
  obtain ⟨es, clock, hb, r⟩ := h
  exact r.keys
theorem MpB.made (w : World) : MpB (w.alloc (.map #[] 0)) w.heap.size [] := ⟨#[], 0, World.alloc_heap_new w _, stamped_empty 0, by simp⟩
theorem MpB.copied (h : MpB w b l) (es : Array MapEntry) (clock : Nat) (hb : w.heap[b]? = some (.map es clock)) : MpB (w.alloc (.map es clock)) w.heap.size l := by
  obtain ⟨es2, clock2, hb2, r⟩ := h
  rw [hb] at hb2
  injection hb2 with hb2
  injection hb2 with e1 e2
  subst e1 e2
  exact ⟨es, clock, World.alloc_heap_new w _, r⟩
end
theorem setB_at {w : World} {b : Nat} {o : Obj} (h : b < w.heap.size) : (setBlock w b o).heap[b]? = some o := by simp [setBlock, h]
theorem setB_else {w : World} {b k : Nat} {o : Obj} (h : k ≠ b) : (setBlock w b o).heap[k]? = w.heap[k]? := by simp [setBlock, Array.getElem?_setIfInBounds, Ne.symm h]
theorem setB_size {w : World} {b : Nat} {o : Obj} : (setBlock w b o).heap.size = w.heap.size := by simp [setBlock]
theorem setB_grown {w : World} {b : Nat} {o : Obj} : w.grownBy (setBlock w b o) (some b) := ⟨rfl, rfl, rfl, by rw [setB_size]; exact Nat.le_refl _, fun k hk hne => setB_else (fun e => hne (by rw [e]))⟩
section
variable {P : Program} {T K E : TypeId} (hT : P.underlying T = some (.map K E)) (hK : P.underlying K = some .string)
variable {w : World} {b : Nat} {l : List (S8 × Value)}
include hT hK
theorem run_lookup8 {z : Value} (hz : (zeroValue E).run P w = .ok z w) (h : MpB w b l) (p : S8) (c : Bool) :
    (Instr.lookup T (.map (some b)) (.string (mkS p)) c).run P w = .ok (if c then .tuple #[(findV l p).getD z, .bool (findV l p).isSome] else (findV l p).getD z) w := by
  obtain ⟨es, clock, hb, r⟩ := h
  have hkey : IsKey .string (.string (mkS p)) := trivial
  rcases findNow_spec hkey es.toList 0 r.isKey with ⟨h1, h2⟩ | ⟨j, e, h1, h2, h3⟩
  · have hf : findV l p = none := findV_none fun x hx e => by
      have : kvS x ∈ es.toList.map kvE := r.kv.mem_iff.2 (List.mem_map.2 ⟨x, hx, rfl⟩)
      obtain ⟨y, hy, e2⟩ := List.mem_map.1 this
      rw [kvS, kvE, Prod.mk.injEq] at e2
      exact h2 y hy (by rw [e2.1, e])
    rw [hf]
    simp [Instr.lookup, run_underlying hT, MapKept.run_getObj_map hb, run_checkKey hK hkey, run_findKey hK h1, hz, Result.andThen]
  · have hm : e ∈ es.toList := List.mem_of_getElem? h2
    obtain ⟨q, v, hq, e1, e2⟩ := r.mem hm
    have hqp : q = p := keyV_inj.1 (by rw [← e1, h3])
    subst hqp
    have hf : findV l q = some e.val := by rw [e2]; exact findV_mem r.keys hq
    rw [hf]
    simp [Instr.lookup, run_underlying hT, MapKept.run_getObj_map hb, run_checkKey hK hkey, run_findKey hK h1, Result.andThen]
theorem run_update8 (h : MpB w b l) (p : S8) (v : Value) : ∃ w', (Instr.mapUpdate T (.map (some b)) (.string (mkS p)) v).run P w = .ok () w' ∧ MpB w' b (putV l p v) ∧ w.grownBy w' (some b) ∧ w'.heap.size = w.heap.size := by
  classical
  have hlt := h.lt
  obtain ⟨es, clock, hb, r⟩ := h
  have hkey : IsKey .string (.string (mkS p)) := trivial
  rcases findNow_spec hkey es.toList 0 r.isKey with ⟨h1, h2⟩ | ⟨j, e, h1, h2, h3⟩
  · refine ⟨setBlock w b (.map (es.push { key := .string (mkS p), val := v, born := clock }) (clock + 1)), ?_, ⟨_, _, setB_at hlt, stamped_push r.st h2, ?_⟩, setB_grown, setB_size⟩
    · simp [Instr.mapUpdate, run_underlying hT, MapKept.run_getObj_map hb, run_checkKey hK hkey, run_findKey hK h1, MapKept.run_setObj_map _ hb, Result.andThen, setBlock]
    · have hd : delV l p = l := by
        unfold delV
        rw [List.filter_eq_self]
        intro x hx
        have : kvS x ∈ es.toList.map kvE := r.kv.mem_iff.2 (List.mem_map.2 ⟨x, hx, rfl⟩)
        obtain ⟨y, hy, e2⟩ := List.mem_map.1 this
        rw [kvS, kvE, Prod.mk.injEq] at e2
        simp only [bne_iff_ne, ne_eq]
        intro e3
        exact h2 y hy (by rw [e2.1, e3])
      rw [Array.toList_push, List.map_append, putV, hd, List.map_cons]
      refine List.Perm.trans ?_ (List.perm_append_singleton _ _)
      exact r.kv.append (List.Perm.refl _)
  · have hj : es[j]? = some e := by simpa using h2
    have hjl : j < es.toList.length := (List.getElem?_eq_some_iff.1 h2).1
    have hkf : ∀ e', es[j]? = some e' → ({ e' with key := .string (mkS p), val := v } : MapEntry).key = e'.key := fun e' he' => by rw [hj] at he'; cases he'; exact h3.symm
    have hlist : (es.modify j (fun e' => { e' with key := .string (mkS p), val := v })).toList = es.toList.set j { e with key := .string (mkS p), val := v } := by
      apply List.ext_getElem?
      intro i
      rw [Array.getElem?_toList, Array.getElem?_modify, List.getElem?_set]
      by_cases hi : j = i
      · subst hi
        rw [if_pos rfl, if_pos rfl, hj]
        simp at hjl
        simp [hjl]
      · rw [if_neg hi, if_neg hi, Array.getElem?_toList]
    refine ⟨setBlock w b (.map (es.modify j fun e' => { e' with key := .string (mkS p), val := v }) clock), ?_, ⟨_, _, setB_at hlt, stamped_modify r.st _ _ (fun _ _ => rfl) (fun e' _ he' => hkf e' he'), ?_⟩, setB_grown, setB_size⟩
    · simp [Instr.mapUpdate, run_underlying hT, MapKept.run_getObj_map hb, run_checkKey hK hkey, run_findKey hK h1, hj, h3, run_keyThatStays hkey, MapKept.run_setObj_map _ hb, Result.andThen, setBlock]
    · rw [hlist]
      have q1 : (es.toList.set j { e with key := .string (mkS p), val := v }).Perm ({ e with key := .string (mkS p), val := v } :: es.toList.eraseIdx j) := by
        exact ChangeMaps.set_perm _ _ hjl _
      have q2 : es.toList.Perm (e :: es.toList.eraseIdx j) := by
        have q5 := ChangeMaps.set_perm es.toList j hjl e
        have q6 : es.toList.set j e = es.toList := by
          rw [List.getElem?_eq_getElem hjl] at h2
          injection h2 with h2
          rw [← h2, List.set_getElem_self]
        rw [q6] at q5
        exact q5
      refine ((q1.map kvE).trans ?_)
      rw [List.map_cons, putV, List.map_cons]
      refine List.Perm.cons _ ?_
      have q3 : ((e :: es.toList.eraseIdx j).map kvE).Perm (l.map kvS) := (q2.symm.map kvE).trans r.kv
      have q4 := q3.filter (fun x => decide (x.1 ≠ Value.string (mkS p)))
      have a1 : (es.toList.eraseIdx j).Pairwise (fun x y => x.key ≠ y.key) ∧ ∀ x ∈ es.toList.eraseIdx j, e.key ≠ x.key := by
        have := (q2.pairwise_iff (R := fun x y : MapEntry => x.key ≠ y.key) (fun {a b} h => Ne.symm h)).1 r.apart
        rw [List.pairwise_cons] at this
        exact ⟨this.2, this.1⟩
      rw [List.map_cons, List.filter_cons_of_neg (by simp [kvE, h3]), List.filter_eq_self.2 (fun x hx => by
        obtain ⟨y, hy, rfl⟩ := List.mem_map.1 hx
        simp only [decide_eq_true_eq]
        intro e3
        exact a1.2 y hy (by rw [h3]; exact e3.symm))] at q4
      refine q4.trans ?_
      rw [List.filter_map]
      refine (List.Perm.of_eq ?_).map kvS
      unfold delV
      refine List.filter_congr fun x _ => ?_
      simp only [Function.comp, kvS]
      rw [Bool.eq_iff_iff]
      simp [mkS_inj]
theorem run_delete8 {ty : TypeId} (h : MpB w b l) (p : S8) : ∃ w', (Builtin.delete_ #[T, K] ty #[.map (some b), .string (mkS p)]).run P w = .ok (.tuple #[]) w' ∧ MpB w' b (delV l p) ∧ w.grownBy w' (some b) ∧ w'.heap.size = w.heap.size := by
  classical
  have hlt := h.lt
  obtain ⟨es, clock, hb, r⟩ := h
  have hkey : IsKey .string (.string (mkS p)) := trivial
  have q0 : ((es.toList.map kvE).filter (fun x => decide (x.1 ≠ Value.string (mkS p)))).Perm ((delV l p).map kvS) := by
    refine (r.kv.filter _).trans ?_
    rw [List.filter_map]
    refine (List.Perm.of_eq ?_).map kvS
    unfold delV
    refine List.filter_congr fun x _ => ?_
    simp only [Function.comp, kvS]
    rw [Bool.eq_iff_iff]
    simp [mkS_inj]
  rcases findNow_spec hkey es.toList 0 r.isKey with ⟨h1, h2⟩ | ⟨j, e, h1, h2, h3⟩
  · refine ⟨setBlock w b (.map es clock), ?_, ⟨_, _, setB_at hlt, r.st, ?_⟩, setB_grown, setB_size⟩
    · simp [Builtin.delete_, run_underlying hT, MapKept.run_getObj_map hb, run_checkKey hK hkey, run_findKey hK h1, MapKept.run_setObj_map _ hb, Result.andThen, setBlock]
    · rw [List.filter_eq_self.2 (fun x hx => by
        obtain ⟨y, hy, rfl⟩ := List.mem_map.1 hx
        simp only [decide_eq_true_eq]
        exact h2 y hy)] at q0
      exact q0
  · have hjl : j < es.toList.length := (List.getElem?_eq_some_iff.1 h2).1
    have hjs : j < es.size := by simpa using hjl
    have hsub : (es.eraseIdxIfInBounds j).toList = es.toList.eraseIdx j := by
      unfold Array.eraseIdxIfInBounds
      rw [dif_pos hjs]
      simp
    have q2 : es.toList.Perm (e :: es.toList.eraseIdx j) := by
      have q5 := ChangeMaps.set_perm es.toList j hjl e
      have q6 : es.toList.set j e = es.toList := by
        rw [List.getElem?_eq_getElem hjl] at h2
        injection h2 with h2
        rw [← h2, List.set_getElem_self]
      rw [q6] at q5
      exact q5
    refine ⟨setBlock w b (.map (es.eraseIdxIfInBounds j) clock), ?_, ⟨_, _, setB_at hlt, stamped_erase r.st j, ?_⟩, setB_grown, setB_size⟩
    · simp [Builtin.delete_, run_underlying hT, MapKept.run_getObj_map hb, run_checkKey hK hkey, run_findKey hK h1, MapKept.run_setObj_map _ hb, Result.andThen, setBlock]
    · rw [hsub]
      have a1 : ∀ x ∈ es.toList.eraseIdx j, e.key ≠ x.key := by
        have := (q2.pairwise_iff (R := fun x y : MapEntry => x.key ≠ y.key) (fun {a b} h => Ne.symm h)).1 r.apart
        rw [List.pairwise_cons] at this
        exact this.1
      have q3 := ((q2.map kvE).filter (fun x => decide (x.1 ≠ Value.string (mkS p))))
      have q7 : ((es.toList.eraseIdx j).map kvE).filter (fun x => decide (x.1 ≠ Value.string (mkS p))) = (es.toList.eraseIdx j).map kvE := List.filter_eq_self.2 (fun x hx => by
        obtain ⟨y, hy, rfl⟩ := List.mem_map.1 hx
        simp only [decide_eq_true_eq]
        intro e3
        exact a1 y hy (by rw [h3]; exact e3.symm))
      rw [List.map_cons, List.filter_cons_of_neg (by simp [kvE, h3]), q7] at q3
      exact q3.symm.trans q0
omit hK in
theorem run_len8 {ty : TypeId} (h : MpB w b l) : (Builtin.len_ #[T] ty #[.map (some b)]).run P w = .ok (.int .i64 (l.length : Int)) w := by
  obtain ⟨es, clock, hb, r⟩ := h
  simp [Builtin.len_, goInt, run_underlying hT, MapKept.run_getObj_map hb, Result.andThen, r.size]
end
end Go.Proofs.YtbijgbjlljaolaaDoor
/- A range over a map from strings: each of its entries once, in whatever order; the walk's laws at the operations on maps. -/
namespace Go.Proofs.YtbijgbjlljaolaaDoor
open Go Go.RowKit Go.MapKept
open Go.ChangeMaps (setBlock)

/-- A range over the map in block b, its iterator in block r: these are still to come. -/
def RngB (w : World) (b r : Nat) (l todo : List (S8 × Value)) : Prop :=
  ∃ es clock since seen c0, w.heap[b]? = some (.map es clock) ∧ MpOk es clock l ∧ w.heap[r]? = some (.mapIter (some b) since seen c0) ∧ (∀ x ∈ es.toList, x.born < since) ∧ since ≤ c0 ∧ since ≤ clock ∧ ((leftOf es seen).toList.map kvE).Perm (todo.map kvS)
theorem leftOf_list (es : Array MapEntry) (seen : Array Nat) : (leftOf es seen).toList = es.toList.filter fun e => !seen.contains e.born := by simp [leftOf]
section
variable {w w' : World} {b r : Nat} {l todo : List (S8 × Value)}
theorem RngB.map (h : RngB w b r l todo) : MpB w b l := by
  obtain ⟨es, clock, _, _, _, hb, h1, _⟩ := h
  exact ⟨es, clock, hb, h1⟩
theorem RngB.ne (h : RngB w b r l todo) : r ≠ b := by
  obtain ⟨es, clock, since, seen, c0, hb, _, hr, _⟩ := h
  intro e
  rw [e, hb] at hr
  cases hr
theorem RngB.lt (h : RngB w b r l todo) : r < w.heap.size := by
  obtain ⟨es, clock, since, seen, c0, hb, _, hr, _⟩ := h
  exact (Array.getElem?_eq_some_iff.1 hr).1
theorem RngB.left (h : RngB w b r l todo) : w.rangeLeft b r = todo.length := by
  obtain ⟨es, clock, since, seen, c0, hb, _, hr, _, _, _, hp⟩ := h
  simp only [World.rangeLeft, hb, hr]
  have := hp.length_eq
  simpa using this
theorem RngB.keep (h : RngB w b r l todo) (hb : w'.heap[b]? = w.heap[b]?) (hr : w'.heap[r]? = w.heap[r]?) : RngB w' b r l todo := by
  obtain ⟨es, clock, since, seen, c0, h1, h2, h3, h4⟩ := h
  exact ⟨es, clock, since, seen, c0, by rw [hb]; exact h1, h2, by rw [hr]; exact h3, h4⟩
theorem RngB.of_below (h : RngB w b r l todo) (hB : Below w.heap.size w w') : RngB w' b r l todo := h.keep (hB.block b h.map.lt) (hB.block r h.lt)
theorem RngB.of_perm (h : RngB w b r l todo) {l' : List (S8 × Value)} (hp : l.Perm l') : RngB w b r l' todo := by
  obtain ⟨es, clock, since, seen, c0, h1, h2, h3⟩ := h
  exact ⟨es, clock, since, seen, c0, h1, h2.of_perm hp, h3⟩
end
section
variable {P : Program} {T K E : TypeId} (hT : P.underlying T = some (.map K E)) (hK : P.underlying K = some .string)
variable {w : World} {b r : Nat} {l todo : List (S8 × Value)}
include hT
theorem run_range8 (h : MpB w b l) : ∃ w', (Instr.range T (.map (some b))).run P w = .ok (.pointer (some ⟨w.heap.size, 0, none⟩)) w' ∧ RngB w' b w.heap.size l l ∧ Below w.heap.size w w' ∧ w'.heap.size = w.heap.size + 1 := by
  have hlt := h.lt
  obtain ⟨es, clock, hb, h1⟩ := h
  refine ⟨_, run_range_map w T K E b es clock hT hb, ⟨es, clock, clock, #[], clock, ((MapKept.heap_alloc w _).2 b hlt).trans hb, h1, (MapKept.heap_alloc w _).1, h1.old, Nat.le_refl _, Nat.le_refl _, ?_⟩, (Below.refl _ _).alloc (Nat.le_refl _) _, by simp⟩
  rw [leftOf_list, List.filter_eq_self.2 (fun x _ => by simp)]
  exact h1.kv
omit hT
theorem run_next8 (ty : TypeId) (h : RngB w b r l todo) :
    (todo = [] ∧ (Instr.next (.pointer (some ⟨r, 0, none⟩)) false ty).run P w = .ok (.tuple #[.bool false]) w) ∨
    ∃ p v todo' w', todo.Perm ((p, v) :: todo') ∧ (p, v) ∈ l ∧ (Instr.next (.pointer (some ⟨r, 0, none⟩)) false ty).run P w = .ok (.tuple #[.bool true, .string (mkS p), v]) w' ∧ RngB w' b r l todo' ∧
      (Instr.entry (.pointer (some ⟨r, 0, none⟩))).run P w' = .ok (.tuple #[.string (mkS p), v]) w' ∧ w.grownBy w' (some r) ∧ w'.heap.size = w.heap.size := by
  have hne := h.ne
  obtain ⟨es, clock, since, seen, c0, hb, h1, hr, hold, hsc, hsk, hp⟩ := h
  rcases run_next_at (P := P) w ty r b since c0 seen es clock hr hb hold hsc with ⟨h0, hrun⟩ | ⟨e, he, w1, hal, hrun⟩
  · refine Or.inl ⟨?_, hrun⟩
    have := hp.length_eq
    simp only [List.length_map, Array.length_toList] at this
    exact List.eq_nil_of_length_eq_zero (by omega)
  · obtain ⟨hem, hes⟩ := mem_left he
    obtain ⟨p, v, hm, ek, ev⟩ := h1.mem hem
    have hr1 : w1.heap[r]? = some (.mapIter (some b) since seen c0) := by rcases hal with rfl | rfl <;> exact hr
    have hb1 : w1.heap[b]? = some (.map es clock) := by rcases hal with rfl | rfl <;> exact hb
    have hset := heap_set (o' := .mapIter (some b) since (seen.push e.born) clock) hr1
    have hb' : (setBlock w1 r (.mapIter (some b) since (seen.push e.born) clock)).heap[b]? = some (.map es clock) := (hset.2 b (fun e1 => hne e1.symm)).trans hb1
    have hin : kvE e ∈ todo.map kvS := hp.mem_iff.1 (List.mem_map.2 ⟨e, he, rfl⟩)
    obtain ⟨x, hx, ex⟩ := List.mem_map.1 hin
    have hxe : x = (p, v) := by
      rw [kvS, kvE, Prod.mk.injEq, ek, ev] at ex
      have : x.1 = p := keyV_inj.1 ex.1
      exact Prod.ext this ex.2
    subst hxe
    obtain ⟨todo', ht⟩ := List.append_of_mem hx
    obtain ⟨t2, ht⟩ := ht
    have hperm : todo.Perm ((p, v) :: (todo' ++ t2)) := by rw [ht]; exact List.perm_middle
    have hlp : (leftOf es seen).toList.Perm (e :: (leftOf es (seen.push e.born)).toList) := by
      rw [leftOf_list, leftOf_list]
      have hnd : ∀ (L : List MapEntry), (L.map (·.born)).Nodup → e ∈ L → (L.filter fun x => !seen.contains x.born).Perm (e :: L.filter fun x => !(seen.push e.born).contains x.born) := by
        intro L
        induction L with
        | nil => intro _ h; exact absurd h (by simp)
        | cons y r ih =>
          intro hn hy
          rw [List.map_cons, List.nodup_cons] at hn
          rcases List.mem_cons.1 hy with rfl | hy
          · rw [List.filter_cons_of_pos (by rw [hes]; rfl), List.filter_cons_of_neg (by rw [contains_push]; simp)]
            refine List.Perm.cons _ (List.Perm.of_eq (List.filter_congr fun z hz => ?_))
            rw [contains_push]
            have : (z.born == e.born) = false := by
              rw [beq_eq_false_iff_ne]
              intro e9
              exact hn.1 (by rw [← e9]; exact List.mem_map.2 ⟨z, hz, rfl⟩)
            rw [this]
            simp
          · have hyb : (y.born == e.born) = false := by
              rw [beq_eq_false_iff_ne]
              intro e9
              exact hn.1 (by rw [e9]; exact List.mem_map.2 ⟨e, hy, rfl⟩)
            rw [List.filter_cons, List.filter_cons, contains_push, hyb]
            cases hs : seen.contains y.born
            · simp only [Bool.not_false, if_true, Bool.or_false]
              exact ((ih hn.2 hy).cons y).trans (List.Perm.swap _ _ _)
            · simp only [Bool.not_true, Bool.false_eq_true, if_false, Bool.or_false, Bool.true_or, Bool.not_true]
              exact ih hn.2 hy
      exact hnd es.toList h1.born hem
    have hrest : ((leftOf es (seen.push e.born)).toList.map kvE).Perm ((todo' ++ t2).map kvS) := by
      have q1 := (hlp.map kvE).symm.trans (hp.trans (hperm.map kvS))
      rw [List.map_cons, List.map_cons] at q1
      have e3 : kvE e = kvS (p, v) := by rw [kvE, kvS, ek, ev]
      rw [e3] at q1
      exact q1.cons_inv
    refine Or.inr ⟨p, v, todo' ++ t2, _, hperm, hm, by rw [ek, ev] at hrun; exact hrun, ⟨es, clock, since, seen.push e.born, clock, hb', h1, hset.1, hold, hsk, hsk, hrest⟩, by rw [← ek, ← ev]; exact run_entry_at _ r b since seen es clock e hset.1 hb' hem h1.born, ?_, ?_⟩
    · rcases hal with rfl | rfl <;> exact ⟨rfl, rfl, rfl, by simp [setBlock], fun i _ hi => hset.2 i (fun e1 => hi (by rw [e1]))⟩
    · rcases hal with rfl | rfl <;> simp [setBlock]
include hT hK
/-- An entry that has come is deleted. -/
theorem run_drop8 {ty : TypeId} (h : RngB w b r l todo) (p : S8) (hp : ∀ x ∈ todo, x.1 ≠ p) : ∃ w', (Builtin.delete_ #[T, K] ty #[.map (some b), .string (mkS p)]).run P w = .ok (.tuple #[]) w' ∧ RngB w' b r (delV l p) todo ∧ w.grownBy w' (some b) ∧ w'.heap.size = w.heap.size := by
  have hm := h.map
  have hne := h.ne
  have hlt := hm.lt
  obtain ⟨es, clock, since, seen, c0, hb, h1, hr, hold, hsc, hsk, hl⟩ := h
  have hkey : IsKey .string (.string (mkS p)) := trivial
  obtain ⟨w', hrun, ⟨es2, clock2, hb2, h2⟩, hg, hs⟩ := run_delete8 hT hK (ty := ty) hm p
  refine ⟨w', hrun, ?_, hg, hs⟩
  have hr2 : w'.heap[r]? = some (.mapIter (some b) since seen c0) := by rw [hg.block r ((Array.getElem?_eq_some_iff.1 hr).1) (by simpa using hne)]; exact hr
  rcases findNow_spec hkey es.toList 0 h1.isKey with ⟨g1, g2⟩ | ⟨j, e, g1, g2, g3⟩
  · have hrun2 : (Builtin.delete_ #[T, K] ty #[.map (some b), .string (mkS p)]).run P w = .ok (.tuple #[]) (setBlock w b (.map es clock)) := by
      simp [Builtin.delete_, run_underlying hT, MapKept.run_getObj_map hb, run_checkKey hK hkey, run_findKey hK g1, MapKept.run_setObj_map _ hb, Result.andThen, setBlock]
    rw [hrun] at hrun2
    injection hrun2 with _ hrun2
    subst hrun2
    rw [setB_at hlt] at hb2
    injection hb2 with hb2
    injection hb2 with e1 e2
    subst e1 e2
    exact ⟨es, clock, since, seen, c0, setB_at hlt, h2, hr2, hold, hsc, hsk, hl⟩
  · have hjl : j < es.toList.length := (List.getElem?_eq_some_iff.1 g2).1
    have hjs : j < es.size := by simpa using hjl
    have hrun2 : (Builtin.delete_ #[T, K] ty #[.map (some b), .string (mkS p)]).run P w = .ok (.tuple #[]) (setBlock w b (.map (es.eraseIdxIfInBounds j) clock)) := by
      simp [Builtin.delete_, run_underlying hT, MapKept.run_getObj_map hb, run_checkKey hK hkey, run_findKey hK g1, MapKept.run_setObj_map _ hb, Result.andThen, setBlock]
    rw [hrun] at hrun2
    injection hrun2 with _ hrun2
    subst hrun2
    rw [setB_at hlt] at hb2
    injection hb2 with hb2
    injection hb2 with e1 e2
    subst e1 e2
    have hsub : (es.eraseIdxIfInBounds j).toList = es.toList.eraseIdx j := by
      unfold Array.eraseIdxIfInBounds
      rw [dif_pos hjs]
      simp
    refine ⟨_, clock, since, seen, c0, setB_at hlt, h2, hr2, fun x hx => hold x (by rw [hsub] at hx; exact (List.eraseIdx_sublist _ _).subset hx), hsc, hsk, ?_⟩
    have q2 : es.toList.Perm (e :: es.toList.eraseIdx j) := by
      have q5 := ChangeMaps.set_perm es.toList j hjl e
      have q6 : es.toList.set j e = es.toList := by
        rw [List.getElem?_eq_getElem hjl] at g2
        injection g2 with g2
        rw [← g2, List.set_getElem_self]
      rw [q6] at q5
      exact q5
    have hseen : seen.contains e.born = true := by
      cases hc : seen.contains e.born
      · exfalso
        have he : e ∈ (leftOf es seen).toList := by
          rw [leftOf_list, List.mem_filter]
          exact ⟨List.mem_of_getElem? g2, by rw [hc]; rfl⟩
        have hin : kvE e ∈ todo.map kvS := hl.mem_iff.1 (List.mem_map.2 ⟨e, he, rfl⟩)
        obtain ⟨x, hx, ex⟩ := List.mem_map.1 hin
        rw [kvS, kvE, Prod.mk.injEq, g3] at ex
        exact hp x hx (keyV_inj.1 ex.1)
      · rfl
    rw [leftOf_list, hsub]
    rw [leftOf_list] at hl
    have q7 := (q2.filter (fun e => !seen.contains e.born))
    rw [List.filter_cons_of_neg (by rw [hseen]; decide)] at q7
    exact (q7.symm.map kvE).trans hl
end
section
variable {P : Program} (w : World) {ops : Array Oper} {rest : List Oper} {o : Oper} {a : Go.Act} {Q : Exit → Go.Act → World → Prop} {T K E : TypeId} {b r : Nat} {l todo : List (S8 × Value)}
theorem wpl_range8 (hg : o.guard = none) (m : Operand) (hop : o.op = Op.range T m) (hT : P.underlying T = some (.map K E)) (hm : a.eval m = .map (some b)) (h : MpB w b l)
    (hQ : ∀ w', RngB w' b w.heap.size l l → Below w.heap.size w w' → w'.heap.size = w.heap.size + 1 → wpList P ops Q rest (a.put o.dst (.pointer (some ⟨w.heap.size, 0, none⟩))) w') : wpList P ops Q (o :: rest) a w := by
  refine wpList_plain hg fun K' hK' => ?_
  obtain ⟨w', hrun, r1, r2, r3⟩ := run_range8 (P := P) hT h
  unfold Oper.wp
  simp [execOp, hop, hm, hrun, Result.andThen]
  exact hK' _ _ (hQ w' r1 r2 r3)
theorem wpl_next8 (hg : o.guard = none) (it : Operand) (hop : o.op = Op.next it false) (hit : a.eval it = .pointer (some ⟨r, 0, none⟩)) (h : RngB w b r l todo)
    (hD : todo = [] → wpList P ops Q rest (a.put o.dst (.tuple #[.bool false])) w)
    (hM : ∀ p v todo' w', todo.Perm ((p, v) :: todo') → (p, v) ∈ l → RngB w' b r l todo' → (Instr.entry (.pointer (some ⟨r, 0, none⟩))).run P w' = .ok (.tuple #[.string (mkS p), v]) w' → w.grownBy w' (some r) → w'.heap.size = w.heap.size → wpList P ops Q rest (a.put o.dst (.tuple #[.bool true, .string (mkS p), v])) w') : wpList P ops Q (o :: rest) a w := by
  refine wpList_plain hg fun K' hK' => ?_
  unfold Oper.wp
  rcases run_next8 (P := P) o.type h with ⟨h0, hrun⟩ | ⟨p, v, todo', w', h1, h2, hrun, h3, h4, h5, h6⟩
  · simp [execOp, hop, hit, hrun, Result.andThen]
    exact hK' _ _ (hD h0)
  · simp [execOp, hop, hit, hrun, Result.andThen]
    exact hK' _ _ (hM p v todo' w' h1 h2 h3 h4 h5 h6)
theorem wpl_drop8 (hg : o.guard = none) (m x : Operand) (hop : o.op = Op.call { callee := Callee.builtin Builtin.delete, args := #[m, x], argTypes := #[T, K] }) (hT : P.underlying T = some (.map K E)) (hK : P.underlying K = some .string)
    (hm : a.eval m = .map (some b)) (h : RngB w b r l todo) (p : S8) (hx : a.eval x = .string (mkS p)) (hp : ∀ x ∈ todo, x.1 ≠ p)
    (hQ : ∀ w', RngB w' b r (delV l p) todo → w.grownBy w' (some b) → w'.heap.size = w.heap.size → wpList P ops Q rest (a.put o.dst (.tuple #[])) w') : wpList P ops Q (o :: rest) a w := by
  refine wpList_plain hg fun K' hK' => ?_
  obtain ⟨w', hrun, r1, r2, r3⟩ := run_drop8 (P := P) hT hK (ty := o.type) h p hp
  unfold Oper.wp
  simp [execOp, hop, resolve, invoke, builtin, hm, hx, hrun, Result.andThen]
  exact hK' _ _ (hQ w' r1 r2 r3)
theorem wpl_delete8 (hg : o.guard = none) (m x : Operand) (hop : o.op = Op.call { callee := Callee.builtin Builtin.delete, args := #[m, x], argTypes := #[T, K] }) (hT : P.underlying T = some (.map K E)) (hK : P.underlying K = some .string)
    (hm : a.eval m = .map (some b)) (h : MpB w b l) (p : S8) (hx : a.eval x = .string (mkS p))
    (hQ : ∀ w', MpB w' b (delV l p) → w.grownBy w' (some b) → w'.heap.size = w.heap.size → wpList P ops Q rest (a.put o.dst (.tuple #[])) w') : wpList P ops Q (o :: rest) a w := by
  refine wpList_plain hg fun K' hK' => ?_
  obtain ⟨w', hrun, r1, r2, r3⟩ := run_delete8 (P := P) hT hK (ty := o.type) h p
  unfold Oper.wp
  simp [execOp, hop, resolve, invoke, builtin, hm, hx, hrun, Result.andThen]
  exact hK' _ _ (hQ w' r1 r2 r3)
theorem wpl_update8 (hg : o.guard = none) (m x v : Operand) (hop : o.op = Op.mapUpdate T m x v) (hT : P.underlying T = some (.map K E)) (hK : P.underlying K = some .string)
    (hm : a.eval m = .map (some b)) (h : MpB w b l) (p : S8) (hx : a.eval x = .string (mkS p)) (val : Value) (hv : a.eval v = val)
    (hQ : ∀ w', MpB w' b (putV l p val) → w.grownBy w' (some b) → w'.heap.size = w.heap.size → wpList P ops Q rest (a.put o.dst undef) w') : wpList P ops Q (o :: rest) a w := by
  refine wpList_plain hg fun K' hK' => ?_
  obtain ⟨w', hrun, r1, r2, r3⟩ := run_update8 (P := P) hT hK h p val
  unfold Oper.wp
  simp [execOp, hop, hm, hx, hv, hrun, Result.andThen]
  exact hK' _ _ (hQ w' r1 r2 r3)
end
end Go.Proofs.YtbijgbjlljaolaaDoor
/- A disk by definition: lists of files and of changes, bytes by their numbers. -/
namespace Go.Proofs.YtbijgbjlljaolaaDoor
open Go Go.RowKit

structure Fl where
  p : S8
  body : Nat
  size : Int
  time : Int
  chg : Int
structure Ch where
  kind : Nat
  src : S8
  file : Fl
structure Dk where
  room : Int
  count : Int
  bodies : List S8
  seen : List Fl
  safe : List Fl
  waits : List Ch
def fl0 : Fl := ⟨[], 0, 0, 0, 0⟩
def encF (f : Fl) : List Value := [.string (mkS f.p), .int .i64 (f.body : Int), .int .i64 f.size, .int .i64 f.time, .int .i64 f.chg]
def encC (c : Ch) : List Value := [.int .i64 (c.kind : Int), .string (mkS c.src)] ++ encF c.file
theorem encF_len (f : Fl) : (encF f).length = 5 := rfl
theorem encC_len (c : Ch) : (encC c).length = 7 := rfl
theorem encF_one (f : Fl) : ∀ u ∈ encF f, u.oneCell' = true := by
  intro u hu
  simp [encF] at hu
  rcases hu with rfl | rfl | rfl | rfl | rfl <;> rfl
theorem encC_one (c : Ch) : ∀ u ∈ encC c, u.oneCell' = true := by
  intro u hu
  rw [encC, List.mem_append] at hu
  rcases hu with hu | hu
  · simp at hu
    rcases hu with rfl | rfl <;> rfl
  · exact encF_one _ u hu
section
variable {α : Type} (enc : α → List Value) (k : Nat) (hk : ∀ x, (enc x).length = k)
include hk
theorem flat_len (l : List α) : (l.flatMap enc).length = l.length * k := by
  induction l with
  | nil => simp
  | cons x r ih => rw [List.flatMap_cons, List.length_append, hk, ih, List.length_cons, Nat.add_mul]; omega
theorem flat_get (l : List α) (i j : Nat) (hi : i < l.length) (hj : j < k) : (l.flatMap enc)[i * k + j]? = (enc (l[i]))[j]? := by
  induction l generalizing i with
  | nil => exact absurd hi (by simp)
  | cons x r ih =>
    rw [List.flatMap_cons]
    cases i with
    | zero => rw [Nat.zero_mul, Nat.zero_add, List.getElem?_append_left (by rw [hk]; exact hj)]; rfl
    | succ i =>
      have e : (i + 1) * k + j = k + (i * k + j) := by rw [Nat.add_mul]; omega
      rw [e, List.getElem?_append_right (by rw [hk]; omega), hk, Nat.add_sub_cancel_left]
      exact ih i (by simpa using hi)
theorem flat_take (l : List α) (i : Nat) : (l.flatMap enc).take (i * k) = (l.take i).flatMap enc := by
  induction l generalizing i with
  | nil => simp
  | cons x r ih =>
    cases i with
    | zero => simp
    | succ i =>
      rw [List.take_succ_cons, List.flatMap_cons, List.flatMap_cons, ← ih i]
      have e : (i + 1) * k = (enc x).length + i * k := by rw [hk, Nat.add_mul]; omega
      rw [e, List.take_length_add_append]
end
theorem flat_one {α : Type} (enc : α → List Value) (h1 : ∀ x, ∀ u ∈ enc x, u.oneCell' = true) (l : List α) : ∀ u ∈ l.flatMap enc, u.oneCell' = true := by
  intro u hu
  obtain ⟨x, _, hx⟩ := List.mem_flatMap.1 hu
  exact h1 x u hx
/-- The place of a path. -/
def findL (l : List Fl) (p : S8) : Option Nat := l.findIdx? fun f => f.p == p
def clashL (a b : S8) : Bool := inL a b || inL b a
def clashesL (l : List Fl) (p but : S8) : Bool := l.any fun f => f.p != but && clashL f.p p
def withoutL (l : List Fl) (p : S8) (cl : Bool) : List Fl := l.filter fun f => f.p != p && !(cl && clashL f.p p)
def doL (l : List Fl) (c : Ch) : List Fl :=
  match c.kind with
  | 1 => withoutL l c.file.p true ++ [c.file]
  | 2 => match findL l c.src with
    | none => l
    | some i => withoutL (withoutL l c.src false) c.file.p true ++ [{ l.getD i fl0 with p := c.file.p }]
  | _ => withoutL l c.src false
def changeL (d : Dk) (c : Ch) : Dk := { d with seen := doL d.seen c, waits := d.waits ++ [c] }
def bodyL (d : Dk) (f : Fl) : S8 := d.bodies.getD f.body []
def usedL (d : Dk) : Nat := (d.seen.map fun f => (bodyL d f).length).sum
def leftL (d : Dk) (p : S8) : Int := d.room - (usedL d : Int) + (match findL d.seen p with | some i => ((bodyL d (d.seen.getD i fl0)).length : Int) | none => 0)
def writeL (d : Dk) (p b : S8) (time : Int) : Dk × Nat :=
  if !goodL p then (d, 7)
  else if 262144 < b.length then (d, 1)
  else if clashesL d.seen p p then (d, 9)
  else if (findL d.seen p).isNone && decide (64 ≤ d.seen.length) then (d, 14)
  else if leftL d p < (b.length : Int) then (d, 10)
  else (changeL { d with count := d.count + 1, bodies := d.bodies ++ [b] } ⟨1, [], ⟨p, d.bodies.length, b.length, time, d.count + 1⟩⟩, 0)
def renameL (d : Dk) (src dst : S8) : Dk × Nat :=
  if (findL d.seen src).isNone then (d, 8)
  else if !goodL dst then (d, 7)
  else if clashesL d.seen dst src then (d, 9)
  else (changeL d ⟨2, src, { fl0 with p := dst }⟩, 0)
def removeL (d : Dk) (p : S8) : Dk × Nat := if (findL d.seen p).isNone then (d, 8) else (changeL d ⟨3, p, fl0⟩, 0)
def syncL (d : Dk) : Dk := { d with safe := d.seen, waits := [] }
/-- The changes from number i on, those that are kept done. -/
def keptL : List Fl → List Ch → List Bool → List Fl
  | l, [], _ => l
  | l, c :: r, ks => keptL (if ks.headD false then doL l c else l) r ks.tail
def crashL (d : Dk) (keep : List Bool) : Dk := { d with safe := keptL d.safe d.waits keep, seen := keptL d.safe d.waits keep, waits := [] }
def flipL (b : S8) (at_ : Nat) (mask : UInt8) : S8 := b.set at_ (b.getD at_ 0 ^^^ mask)
def rotL (d : Dk) (p : S8) (at_ : Int) (mask : UInt8) : Dk × Nat :=
  match findL d.seen p with
  | none => (d, 8)
  | some i =>
    let f := d.seen.getD i fl0
    if at_ < 0 ∨ ((bodyL d f).length : Int) ≤ at_ then (d, 1)
    else ({ d with bodies := d.bodies.set f.body (flipL (bodyL d f) at_.toNat mask) }, 0)
end Go.Proofs.YtbijgbjlljaolaaDoor
