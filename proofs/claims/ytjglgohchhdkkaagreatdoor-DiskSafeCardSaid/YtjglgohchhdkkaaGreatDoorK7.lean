/- Merged texts: Bx8, Is8. -/
import Derived.Deep.RegionHeld3
import Derived.Test.YtjglgohchhdkkaaGreatDoorK6
import Derived.Laws.StructEq
import Derived.Laws.Cover1
import Derived.Sort.Walk0
set_option linter.unusedSimpArgs false
set_option linter.unusedVariables false
/- Three boxes of Do: a disk of the reference's, an act, a result. -/
namespace Go.Proofs.YtjglgohchhdkkaaGreatDoor
open Go Go.RowKit

theorem put6_at {u : World} {b : Nat} (v0 v1 v2 v3 v4 v5 : Value) {dv : List Value} (hl : dv.length = 6) (h : ∀ j, u.cell? ⟨b, j, none⟩ = dv[j]?) (j : Nat) : (put6 u b v0 v1 v2 v3 v4 v5).cell? ⟨b, j, none⟩ = [v0, v1, v2, v3, v4, v5][j]? := by
  have o : ∀ (W : World) (i j : Nat) (v : Value), i ≠ j → (W.setCell ⟨b, j, none⟩ v).cell? ⟨b, i, none⟩ = W.cell? ⟨b, i, none⟩ := fun W i j v hne => World.cell?_setCell_other _ _ _ _ (by intro e; injection e with _ e2; first | exact hne e2 | exact hne e2.symm)
  have s : ∀ (W : World) (j : Nat) (v : Value), W.cell? ⟨b, j, none⟩ = dv[j]? → j < 6 → (W.setCell ⟨b, j, none⟩ v).cell? ⟨b, j, none⟩ = some v := fun W j v e hj => World.cell?_setCell_same' _ _ _ (by rw [e, List.getElem?_eq_getElem (by omega)]; rfl)
  unfold put6
  match j with
  | 0 =>
    rw [o _ 0 5 _ (by decide), o _ 0 4 _ (by decide), o _ 0 3 _ (by decide), o _ 0 2 _ (by decide), o _ 0 1 _ (by decide)]
    exact s _ 0 _ (h 0) (by decide)
  | 1 =>
    rw [o _ 1 5 _ (by decide), o _ 1 4 _ (by decide), o _ 1 3 _ (by decide), o _ 1 2 _ (by decide)]
    exact s _ 1 _ (by rw [o _ 1 0 _ (by decide)]; exact h 1) (by decide)
  | 2 =>
    rw [o _ 2 5 _ (by decide), o _ 2 4 _ (by decide), o _ 2 3 _ (by decide)]
    exact s _ 2 _ (by rw [o _ 2 1 _ (by decide), o _ 2 0 _ (by decide)]; exact h 2) (by decide)
  | 3 =>
    rw [o _ 3 5 _ (by decide), o _ 3 4 _ (by decide)]
    exact s _ 3 _ (by rw [o _ 3 2 _ (by decide), o _ 3 1 _ (by decide), o _ 3 0 _ (by decide)]; exact h 3) (by decide)
  | 4 =>
    rw [o _ 4 5 _ (by decide)]
    exact s _ 4 _ (by rw [o _ 4 3 _ (by decide), o _ 4 2 _ (by decide), o _ 4 1 _ (by decide), o _ 4 0 _ (by decide)]; exact h 4) (by decide)
  | 5 => exact s _ 5 _ (by rw [o _ 5 4 _ (by decide), o _ 5 3 _ (by decide), o _ 5 2 _ (by decide), o _ 5 1 _ (by decide), o _ 5 0 _ (by decide)]; exact h 5) (by decide)
  | i + 6 =>
    rw [o _ (i + 6) 5 _ (by omega), o _ (i + 6) 4 _ (by omega), o _ (i + 6) 3 _ (by omega), o _ (i + 6) 2 _ (by omega), o _ (i + 6) 1 _ (by omega), o _ (i + 6) 0 _ (by omega), h (i + 6), List.getElem?_eq_none (by omega)]
    rfl
theorem put6_frozen (u : World) (b : Nat) (v0 v1 v2 v3 v4 v5 : Value) (a : Addr) : (put6 u b v0 v1 v2 v3 v4 v5).frozen? a = u.frozen? a := by
  unfold put6
  rw [World.frozen?_setCell, World.frozen?_setCell, World.frozen?_setCell, World.frozen?_setCell, World.frozen?_setCell, World.frozen?_setCell]
theorem put6_sz (u : World) (b : Nat) (v0 v1 v2 v3 v4 v5 : Value) : (put6 u b v0 v1 v2 v3 v4 v5).heap.size = u.heap.size := by unfold put6; simp
/-- Three boxes from N on. -/
structure Bx3 (N : Nat) (dv av rv : List Value) (u : World) : Prop where
  size : N + 3 ≤ u.heap.size
  dsk : ∀ j, u.cell? ⟨N, j, none⟩ = dv[j]?
  free : ∀ j, u.frozen? ⟨N, j, none⟩ = false
  act : ∀ j, u.cell? ⟨N + 1, j, none⟩ = av[j]?
  res : ∀ j, u.cell? ⟨N + 1 + 1, j, none⟩ = rv[j]?
  rfree : ∀ j, u.frozen? ⟨N + 1 + 1, j, none⟩ = false
section
variable {N : Nat} {dv av rv : List Value} {w u u' : World}
theorem Bx3.keep (h : Bx3 N dv av rv u) (hk : ∀ k, N ≤ k → k < N + 3 → u'.heap[k]? = u.heap[k]?) (hs : u.heap.size ≤ u'.heap.size) : Bx3 N dv av rv u' :=
  ⟨Nat.le_trans h.size hs, fun j => by rw [World.cell?_of_block (w := u) (hk N (Nat.le_refl _) (by omega))]; exact h.dsk j, fun j => by rw [World.frozen?_of_block (w := u) (hk N (Nat.le_refl _) (by omega))]; exact h.free j,
   fun j => by rw [World.cell?_of_block (w := u) (hk (N + 1) (by omega) (by omega))]; exact h.act j, fun j => by rw [World.cell?_of_block (w := u) (hk (N + 1 + 1) (by omega) (by omega))]; exact h.res j, fun j => by rw [World.frozen?_of_block (w := u) (hk (N + 1 + 1) (by omega) (by omega))]; exact h.rfree j⟩
theorem Bx3.next (h : Bx3 N dv av rv u) (hB : Below u.heap.size u u') : Bx3 N dv av rv u' := h.keep (fun k _ hk => hB.block k (by have := h.size; omega)) hB.size
theorem Bx3.kq {S : Nat → Prop} (h : Bx3 N dv av rv u) (hk : Kq8 S u u') (hS : ∀ k, S k → k < N ∨ N + 3 ≤ k) : Bx3 N dv av rv u' :=
  h.keep (fun k h1 h2 => hk.block k (by have := h.size; omega) (fun x => by rcases hS k x with y | y <;> omega)) hk.size
theorem Bx3.putD (h : Bx3 N dv av rv u) (hl : dv.length = 6) (v0 v1 v2 v3 v4 v5 : Value) : Bx3 N [v0, v1, v2, v3, v4, v5] av rv (put6 u N v0 v1 v2 v3 v4 v5) :=
  ⟨by rw [put6_sz]; exact h.size, put6_at _ _ _ _ _ _ hl h.dsk, fun j => by rw [put6_frozen]; exact h.free j,
   fun j => by rw [World.cell?_of_block (w := u) (put6_heap u N _ _ _ _ _ _ (show N + 1 ≠ N by omega))]; exact h.act j, fun j => by rw [World.cell?_of_block (w := u) (put6_heap u N _ _ _ _ _ _ (show N + 1 + 1 ≠ N by omega))]; exact h.res j, fun j => by rw [put6_frozen]; exact h.rfree j⟩
end
def actV (x : Ac × AcH) : Value := .agg #[.int .u8 (x.1.kind : Int), .string (mkS x.1.path), .string (mkS x.1.to_), .slice x.2.bq x.1.b.length x.2.bc, .int .i64 x.1.n, .slice x.2.kp x.1.ks.length x.2.kc]
def boxAct (x : Ac × AcH) : Obj := .cells #[.int .u8 (x.1.kind : Int), .string (mkS x.1.path), .string (mkS x.1.to_), .slice x.2.bq x.1.b.length x.2.bc, .int .i64 x.1.n, .slice x.2.kp x.1.ks.length x.2.kc] 35
theorem bx3_start (w : World) (m : Dk) (h : Hd) (x : Ac × AcH) : Bx3 w.heap.size (lisD m h) (encA x) zerD (((w.alloc (boxD m h)).alloc (boxAct x)).alloc (.cells zerD.toArray 31)) ∧ Below w.heap.size w (((w.alloc (boxD m h)).alloc (boxAct x)).alloc (.cells zerD.toArray 31)) := by
  have b1 : Below w.heap.size w (w.alloc (boxD m h)) := (Below.refl _ _).alloc (Nat.le_refl _) _
  have hh := World.alloc_heap_new w (boxD m h)
  have hh1 := World.alloc_heap_new (w.alloc (boxD m h)) (boxAct x)
  have hh2 := World.alloc_heap_new ((w.alloc (boxD m h)).alloc (boxAct x)) (.cells zerD.toArray 31)
  have B1 : Below (w.alloc (boxD m h)).heap.size (w.alloc (boxD m h)) ((w.alloc (boxD m h)).alloc (boxAct x)) := (Below.refl _ _).alloc (Nat.le_refl _) _
  have B2 : Below ((w.alloc (boxD m h)).alloc (boxAct x)).heap.size ((w.alloc (boxD m h)).alloc (boxAct x)) (((w.alloc (boxD m h)).alloc (boxAct x)).alloc (.cells zerD.toArray 31)) := (Below.refl _ _).alloc (Nat.le_refl _) _
  simp only [World.size_alloc] at hh1 hh2 B1 B2
  have frz : ∀ (W : World) (b j : Nat) (cs : Array Value) (t : TypeId), W.heap[b]? = some (.cells cs t (0, 0)) → W.frozen? ⟨b, j, none⟩ = false := fun W b j cs t e => by
    unfold World.frozen?
    simp [e]
  refine ⟨⟨by simp, fun j => ?_, fun j => ?_, fun j => ?_, fun j => ?_, fun j => ?_⟩, b1.trans ((B1.mono (by omega)).trans (B2.mono (by omega)))⟩
  · rw [B2.cell (p := ⟨w.heap.size, j, none⟩) (by show w.heap.size < _; omega), B1.cell (p := ⟨w.heap.size, j, none⟩) (by show w.heap.size < _; omega)]
    exact boxD_cell w m h j
  · rw [B2.frozen (p := ⟨w.heap.size, j, none⟩) (by show w.heap.size < _; omega), B1.frozen (p := ⟨w.heap.size, j, none⟩) (by show w.heap.size < _; omega)]
    exact frz _ _ _ _ _ hh
  · rw [B2.cell (p := ⟨w.heap.size + 1, j, none⟩) (by show w.heap.size + 1 < _; omega)]
    unfold boxAct at *
    rw [cell_of_row _ (w.heap.size + 1) j _ _ (0, 0) hh1]
    simp [encA]
  · rw [cell_of_row _ (w.heap.size + 1 + 1) j _ _ (0, 0) hh2]
    simp
  · exact frz _ _ _ _ _ hh2
/-- The plain act. -/
def stepL (m : Dk) (x : Ac) : Dk :=
  match x.kind % 7 with
  | 0 => (writeL m x.path x.b x.n).1
  | 1 => (renameL m x.path x.to_).1
  | 2 => (removeL m x.path).1
  | 3 => syncL m
  | 4 => crashL m x.ks
  | 5 => (rotL m x.path x.n (UInt8.ofNat x.to_.length)).1
  | _ => m
/-- What Do leaves behind. -/
def DoPost (S G : Nat → Prop) (b : Nat) (w : World) (m : Dk) (e : Ending) (w' : World) : Prop :=
  ∃ h' S', e = .returned (.tuple #[aggD m h', .bool true]) ∧ Dsk w' S' b m ∧ RfG (fun k => (G k ∨ w.heap.size ≤ k) ∧ ¬ S' k) w' m h' ∧ Kq8 S w w' ∧ GrewTo w.heap.size S S'
/-- What Do is asked of. -/
structure DoIn (w : World) (S G : Nat → Prop) (b : Nat) (m : Dk) (h : Hd) (x : Ac × AcH) : Prop where
  disk : Dsk w S b m
  ok : DkOk 200 m
  few : m.seen.length ≤ 64
  room0 : 0 ≤ m.room
  room1 : m.room ≤ 1048576
  out : ∀ k, G k → ¬ S k
  ref : RfG G w m h
  kind : x.1.kind < 256
  path : x.1.path.length ≤ 200
  to_ : x.1.to_.length ≤ 200
  byt : x.1.b.length ≤ 300000
  kep : x.1.ks.length ≤ 200
  lb : LsG (fun k => ¬ S k) w x.2.bq x.1.b.length x.2.bc 1 (bytC x.1.b)
  lk : LsG (fun k => ¬ S k) w x.2.kp x.1.ks.length x.2.kc 1 (x.1.ks.map Value.bool)
/-- Where the reference's lists may lie while Do runs: neither in the disk, nor in a box that is written, nor in block g. -/
def G1 (G S : Nat → Prop) (N g k : Nat) : Prop := (G k ∨ N ≤ k) ∧ ¬ S k ∧ k ≠ N ∧ k ≠ N + 1 + 1 ∧ k ≠ g
theorem DoIn.into {w W : World} {S G : Nat → Prop} {b : Nat} {m : Dk} {h : Hd} {x : Ac × AcH} (hi : DoIn w S G b m h x) (hB : Below w.heap.size w W) {g : Nat} (hg : w.heap.size ≤ g) : RfG (G1 G S w.heap.size g) W m h :=
  (hi.ref.wider (G' := G1 G S w.heap.size g) fun c hc hl => ⟨.inl hc, hi.out c hc, by omega, by omega, by omega⟩).of_below hB
theorem DoIn.g1 {w W : World} {S G : Nat → Prop} {b : Nat} {m : Dk} {h : Hd} {x : Ac × AcH} (hi : DoIn w S G b m h x) {g : Nat} (hs : w.heap.size + 3 ≤ W.heap.size) (hg : g < W.heap.size) : ∀ k, W.heap.size ≤ k → G1 G S w.heap.size g k := fun k hk =>
  ⟨.inr (by omega), fun hS => by have := hi.disk.low k hS; omega, by omega, by omega, by omega⟩
theorem kq_put {S : Nat → Prop} (u : World) (b : Nat) (v0 v1 v2 v3 v4 v5 : Value) (hb : S b) : Kq8 S u (put6 u b v0 v1 v2 v3 v4 v5) :=
  have hb0 := put6_below (b := b) v0 v1 v2 v3 v4 v5 (Below.refl 0 u) (Nat.zero_le _)
  ⟨hb0.os, hb0.tape, hb0.output, hb0.size, fun k _ hn => put6_heap _ _ _ _ _ _ _ _ (fun e => hn (by rw [e]; exact hb))⟩
theorem Kq8.comp {S : Nat → Prop} {u u' u'' : World} (h : Kq8 S u u') (k : Kq8 S u' u'') : Kq8 S u u'' :=
  ⟨k.os.trans h.os, k.tape.trans h.tape, k.output.trans h.output, Nat.le_trans h.size k.size, fun i hi hn => (k.block i (Nat.lt_of_lt_of_le hi h.size) hn).trans (h.block i hi hn)⟩
theorem Kq8.new {S S2 : Nat → Prop} {w u u' : World} (h : Kq8 S w u) (k : Kq8 S2 u u') (hS : ∀ i, S2 i → S i ∨ w.heap.size ≤ i) : Kq8 S w u' :=
  ⟨k.os.trans h.os, k.tape.trans h.tape, k.output.trans h.output, Nat.le_trans h.size k.size, fun i hi hn => (k.block i (Nat.lt_of_lt_of_le hi h.size) (fun x => by rcases hS i x with y | y; exact hn y; omega)).trans (h.block i hi hn)⟩
theorem conv_mask {n : Nat} {mk : UInt8} (hm : UInt8.ofNat n = mk) (u : World) : (convert 3 5 (.int .i64 (n : Int))).run Tryz.prog u = .ok (.int .u8 (mk.toNat : Int)) u := by
  have hk : Tryz.prog.intKind 5 = .u8 := by kernel_rfl
  have := run_convert_int (P := Tryz.prog) (w := u) 3 5 .i64 (n : Int) (by kernel_rfl) (by rw [hk]; kernel_rfl)
  rw [hk] at this
  rw [this, ← hm]
  have e : IntKind.u8.wrap (n : Int) = ((UInt8.ofNat n).toNat : Int) := by
    rw [IntKind.wrap_u8']
    simp
  rw [e]
/-- How Do ends. -/
theorem do_end {w W w2 w4 w5 : World} {S G : Nat → Prop} {b g : Nat} {m2 : Dk} {h2 : Hd} (hlow : ∀ k, S k → k < w.heap.size) (hB0 : Below w.heap.size w W) (hsz : w.heap.size + 3 ≤ W.heap.size) (hB2 : Below W.heap.size W w2) (hr2 : RfG (G1 G S w.heap.size g) w2 m2 h2) (u0 u1 u2 u3 u4 u5 : Value)
    (hn : Nxt S b (put6 w2 w.heap.size u0 u1 u2 u3 u4 u5) m2 w4) (hg0 : w.heap.size ≤ g) (hg1 : g < w2.heap.size) (hk : Kp g w4 w5) (t0 t1 t2 t3 t4 t5 : Value) : DoPost S G b w m2 (.returned (.tuple #[aggD m2 h2, .bool true])) (put6 w5 (w.heap.size + 1 + 1) t0 t1 t2 t3 t4 t5) := by
  have hz2 := put6_sz w2 w.heap.size u0 u1 u2 u3 u4 u5
  have hs2 : W.heap.size ≤ w2.heap.size := hB2.size
  have hs4 : w2.heap.size ≤ w4.heap.size := by have := hn.2.size; rw [hz2] at this; exact this
  have hs5 := hk.size
  have hSN : ∀ k, SN S (put6 w2 w.heap.size u0 u1 u2 u3 u4 u5).heap.size w4.heap.size k → S k ∨ w2.heap.size ≤ k := fun k hk => by
    rw [hz2] at hk
    rcases hk with e | e
    · exact .inl e
    · exact .inr e.1
  have hq5 : Kq8 (fun k => k = g) w4 w5 := ⟨hk.os, hk.tape, hk.output, hk.size, fun k hk1 hn1 => hk.block k hk1 hn1⟩
  have hq6 : Kq8 (fun k => k = g ∨ k = w.heap.size + 1 + 1) w4 (put6 w5 (w.heap.size + 1 + 1) t0 t1 t2 t3 t4 t5) :=
    (⟨hk.os, hk.tape, hk.output, hk.size, fun k hk1 hn1 => hk.block k hk1 (fun e => hn1 (.inl e))⟩ : Kq8 (fun k => k = g ∨ k = w.heap.size + 1 + 1) w4 w5).comp (kq_put _ _ _ _ _ _ _ _ (.inr rfl))
  refine ⟨h2, _, rfl, hn.1.apart hq6 (fun k hk1 => ?_), ?_, ?_, fun k hk1 => ?_⟩
  · intro e
    rcases hSN k hk1 with y | y
    · have := hlow k y
      rcases e with e | e <;> omega
    · rcases e with e | e <;> omega
  · have r1 := hr2.keep (w' := put6 w2 w.heap.size u0 u1 u2 u3 u4 u5) (fun c hc _ => put6_heap _ _ _ _ _ _ _ _ hc.2.2.1) (Nat.le_of_eq hz2.symm)
    have r2 : RfG (fun k => G1 G S w.heap.size g k ∧ k < w2.heap.size) (put6 w2 w.heap.size u0 u1 u2 u3 u4 u5) m2 h2 := r1.wider fun c hc hl => ⟨hc, by rw [hz2] at hl; exact hl⟩
    have r3 := r2.keep (w' := w4) (fun c hc hl => hn.2.block c hl hc.1.2.1) hn.2.size
    have r4 := r3.keep (w' := put6 w5 (w.heap.size + 1 + 1) t0 t1 t2 t3 t4 t5) (fun c hc hl => hq6.block c hl (fun e => by rcases e with e | e; exact hc.1.2.2.2.2 e; exact hc.1.2.2.2.1 e)) hq6.size
    exact r4.wider fun c hc _ => ⟨hc.1.1, fun e => by
      rcases hSN c e with y | y
      · exact hc.1.2.1 y
      · have := hc.2; omega⟩
  · have k1 : Kq8 S w w2 := Kq8.of_below (hB0.trans (hB2.mono (by omega)))
    have k2 := k1.new (kq_put (S := fun k => k = w.heap.size) w2 w.heap.size u0 u1 u2 u3 u4 u5 rfl) (fun i hi => .inr (by omega))
    exact (k2.comp hn.2).new hq6 (fun i hi => .inr (by rcases hi with e | e <;> omega))
  · rcases hSN k hk1 with y | y
    · exact .inl y
    · exact .inr (by omega)
theorem cell_kept {u u' : World} {k : Nat} (h : u'.heap[k]? = u.heap[k]?) (j : Nat) {v : Value} (hv : u.cell? ⟨k, j, none⟩ = some v) : u'.cell? ⟨k, j, none⟩ = some v := (World.cell?_of_block (w := u) (w' := u') (a := ⟨k, j, none⟩) h).trans hv
theorem drew_heap (u : World) : u.drew.heap = u.heap := rfl
theorem put6_drew (u : World) (b : Nat) (v0 v1 v2 v3 v4 v5 : Value) {k : Nat} (h : k ≠ b) : (put6 u b v0 v1 v2 v3 v4 v5).drew.heap[k]? = u.drew.heap[k]? := by
  rw [drew_heap, drew_heap]
  exact put6_heap u b v0 v1 v2 v3 v4 v5 h
theorem eqStamp0 (w : World) : (binOp BinOp.eql 62 (.agg #[.int .i64 0, .int .i64 0, .int .i64 0]) (.agg #[.int .i64 0, .int .i64 0, .int .i64 0])).run Tryz.prog w = .ok (.bool true) w := by kernel_rfl
theorem do_end6 {w w5 : World} {S G : Nat → Prop} {b : Nat} {m : Dk} {h : Hd} {x : Ac × AcH} (hi : DoIn w S G b m h x) (hB : Below w.heap.size w w5) (t0 t1 t2 t3 t4 t5 : Value) : DoPost S G b w m (.returned (.tuple #[aggD m h, .bool true])) (put6 w5 (w.heap.size + 1 + 1) t0 t1 t2 t3 t4 t5) := by
  have hB2 := put6_below (b := w.heap.size + 1 + 1) t0 t1 t2 t3 t4 t5 hB (by omega)
  exact ⟨h, S, rfl, hi.disk.of_below hB2, (hi.ref.of_below hB2).wider fun c hc _ => ⟨.inl hc, hi.out c hc⟩, Kq8.of_below hB2, fun k hk => .inl hk⟩
theorem DoPost.drew {w w' : World} {S G : Nat → Prop} {b : Nat} {m : Dk} {e : Ending} (h : DoPost S G b w m e w') : DoPost S G b w m e w'.drew := by
  obtain ⟨h', S', h1, h2, h3, h4, h5⟩ := h
  have hB : Below w'.heap.size w' w'.drew := (Below.refl _ _).drew
  exact ⟨h', S', h1, h2.of_below hB, h3.of_below hB, ⟨h4.os, h4.tape, h4.output, h4.size, h4.block⟩, h5⟩
end Go.Proofs.YtjglgohchhdkkaaGreatDoor
/- Is: a disk is the document's. -/
namespace Go.Proofs.YtjglgohchhdkkaaGreatDoor
open Go Go.RowKit

theorem eqStamp (a b c : Int) (w : World) : (Op.equalIn 10000 62 (.agg #[.int .i64 a, .int .i64 b, .int .i64 c]) (.agg #[.int .i64 a, .int .i64 b, .int .i64 c])).run Tryz.prog w = .ok true w := by
  have u3 := Tryz.underlying3
  have hS : Tryz.prog.underlying 62 = some (.struct (Tryz.prog.fieldsOf 62)) := by kernel_rfl
  have hp : Tryz.prog.stoodInHeld 62 = false := by kernel_rfl
  rw [show (10000 : Nat) = 9999 + 1 from rfl, run_equalIn_agg w 9999 62 _ _ hS hp]
  simp only [Program.fieldsOf, Tryz.underlying62]
  go_simp
theorem neqStamp (a b c : Int) (w : World) : (binOp BinOp.neq 62 (.agg #[.int .i64 a, .int .i64 b, .int .i64 c]) (.agg #[.int .i64 a, .int .i64 b, .int .i64 c])).run Tryz.prog w = .ok (.bool false) w := by
  rw [run_neq_struct, eqStamp]
  rfl
theorem w64a (k : Nat) (h : k ≤ 1000) : wrap64 (k : Int) = (k : Int) := IntWalk.wrap64_in _ (by omega)
theorem w64b (k : Nat) (h : k ≤ 1000) : wrap64 ((k : Int) + 1 + 1) = (k : Int) + 1 + 1 := IntWalk.wrap64_in _ (by omega)
theorem geq_no {p0 p : S8} (h : decide (p ≤ p0) = false) (t : TypeId) : binOp .geq t (.string (mkS p0)) (.string (mkS p)) = pure (.bool false) := by
  rw [binOp_string_geq, mkS_toList, mkS_toList, bytesLess_eq]
  have : p0 < p := by
    rw [decide_eq_false_iff_not] at h
    exact List.not_le.1 h
  rw [decide_eq_true this]
  rfl
theorem five_cells (u : World) (a b c d e : Value) (T : TypeId) (j : Nat) : (u.alloc (.cells #[a, b, c, d, e] T)).cell? ⟨u.heap.size, j, none⟩ = [a, b, c, d, e][j]? := by
  unfold World.cell?
  rw [World.alloc_heap_new]
  simp
theorem boxD_start (w : World) (m : Dk) (h : Hd) : (∀ j, (w.alloc (boxD m h)).cell? ⟨w.heap.size, j, none⟩ = (lisD m h)[j]?) ∧ Below w.heap.size w (w.alloc (boxD m h)) := ⟨boxD_cell w m h, (Below.refl _ _).alloc (Nat.le_refl _) _⟩
set_option maxRecDepth 100000 in
set_option maxHeartbeats 8000000 in
theorem is8_any {w : World} {S G : Nat → Prop} {b : Nat} {m : Dk} {h : Hd} (hd : Dsk w S b m) (hok : DkOk 250 m) (r : RfG G w m h) :
    Calls Tryz.prog 9 #[.pointer (some ⟨b, 0, none⟩), aggD m h] w fun e w' => e = .returned (.bool true) ∧ Below w.heap.size w w' := by
  obtain ⟨hc, hB0⟩ := boxD_start w m h
  obtain ⟨W, hW⟩ : ∃ W, w.alloc (boxD m h) = W := ⟨_, rfl⟩
  have HE := Lib.hid (show (w.alloc (.cells #[.int .i64 m.room, .int .i64 m.count, .slice h.bp h.bn h.bc, .slice h.sp h.sn h.sc, .slice h.fp h.fn h.fc, .slice h.wp h.wn h.wc] 31)) = W from hW)
  have hsz : W.heap.size = w.heap.size + 1 := by rw [← hW, World.size_alloc]
  rw [hW] at hc hB0
  have HB0 := Lib.hid hB0
  have HD := Lib.hid (hd.of_below hB0)
  have HR := Lib.hid (r.of_below hB0)
  have HOK := Lib.hid (hok.mono (by decide : 250 ≤ 300))
  have HC := Lib.hid (fun (u : World) (hu : Below W.heap.size W u) (j : Nat) => ((hu.cell (p := ⟨w.heap.size, j, none⟩) (by show w.heap.size < _; omega)).trans (hc j) : u.cell? ⟨w.heap.size, j, none⟩ = (lisD m h)[j]?))
  have HPT := Lib.hid (dpaths_any (hd.of_below hB0) (hok.mono (by decide)))
  have HSN := Lib.hid r.sn
  have HWN := Lib.hid r.wn
  clear hd hok r hc hW hsz hB0
  unfold aggD
  go_enter Tryz.func9, Tryz.ntmps9
  go_wp2_with fail
  rw [HE.out]
  refine HPT.out.mono ?_
  rintro e w1 ⟨v, ls, rfl, hperm, hpw, hrow, hB1⟩
  obtain ⟨pq, pc, hv⟩ := own_slice hrow
  subst hv
  have hlen : ls.length = h.sn := by rw [hperm.length_eq, List.length_map, HSN.out]
  have HPM := Lib.hid hperm
  have HPW := Lib.hid hpw
  have HRW := Lib.hid hrow
  have HB1 := Lib.hid hB1
  have HB1d : Hid (Below w1.heap.size w1 w1.drew) := Lib.hid (Below.refl _ _).drew
  have HLN := Lib.hid hlen
  rw [hlen]
  have hS : ∀ u, Below w1.heap.size w1 u → u.cell? ⟨w.heap.size, 0, none⟩ = some (.int .i64 m.room) ∧ u.cell? ⟨w.heap.size, 1, none⟩ = some (.int .i64 m.count) ∧ u.cell? ⟨w.heap.size, 2, none⟩ = some (.slice h.bp h.bn h.bc) ∧ u.cell? ⟨w.heap.size, 3, none⟩ = some (.slice h.sp h.sn h.sc) ∧ u.cell? ⟨w.heap.size, 4, none⟩ = some (.slice h.fp h.fn h.fc) ∧ u.cell? ⟨w.heap.size, 5, none⟩ = some (.slice h.wp h.wn h.wc) ∧ Below w1.heap.size w1 u := fun u hu =>
    have hw := HB1.out.trans (hu.mono HB1.out.size)
    ⟨HC.out u hw 0, HC.out u hw 1, HC.out u hw 2, HC.out u hw 3, HC.out u hw 4, HC.out u hw 5, hu⟩
  have hS0 := hS w1.drew HB1d.out
  have hz0 := HB1d.out
  have HS := Lib.hid hS
  obtain ⟨ul, hul⟩ : ∃ ul, usedL m = ul := ⟨_, rfl⟩
  have HU1 := Lib.hid (fun (u : World) (hu : Below w1.heap.size w1 u) => dused_any (HD.out.of_below (HB1.out.trans (hu.mono HB1.out.size))) HOK.out)
  have HU2 := Lib.hid (fun (u : World) (hu : Below w1.heap.size w1 u) => refUsed_any G m h (by have := HSN.out; have := HOK.out.seen; omega) HOK.out.inB HOK.out.shortB u (HR.out.of_below (HB1.out.trans (hu.mono HB1.out.size))))
  have HU3 := Lib.hid (fun (u : World) (hu : Below w1.heap.size w1 u) => droom_any (HD.out.of_below (HB1.out.trans (hu.mono HB1.out.size))))
  have HU4 := Lib.hid (fun (u : World) (hu : Below w1.heap.size w1 u) => dwaiting_any (HD.out.of_below (HB1.out.trans (hu.mono HB1.out.size))))
  rw [hul] at HU1 HU2
  rw [HWN.out] at HU4
  unfold aggD at HU2
  clear hS hperm hpw hrow hB1 hlen hul
  go_wp2_with fail
  go_region_held3 (fun u : World => u.cell? ⟨w.heap.size, 0, none⟩ = some (.int .i64 m.room) ∧ u.cell? ⟨w.heap.size, 1, none⟩ = some (.int .i64 m.count) ∧ u.cell? ⟨w.heap.size, 2, none⟩ = some (.slice h.bp h.bn h.bc) ∧ u.cell? ⟨w.heap.size, 3, none⟩ = some (.slice h.sp h.sn h.sc) ∧ u.cell? ⟨w.heap.size, 4, none⟩ = some (.slice h.fp h.fn h.fc) ∧ u.cell? ⟨w.heap.size, 5, none⟩ = some (.slice h.wp h.wn h.wc) ∧ Below w1.heap.size w1 u) (first | with_reducible exact hS0 | with_reducible exact HS.out _ hz) ((first
    | (go_at_call 26; with_reducible refine (HU1.out _ (by assumption)).mono ?_; rintro e w2 ⟨rfl, hB2⟩; have hz := Below.trans (by assumption) (hB2.mono (Below.size (by assumption))); clear hB2)
    | (go_at_call 27; with_reducible refine (HU2.out _ (by assumption)).mono ?_; rintro e w2 ⟨rfl, hB2⟩; have hz := Below.trans (by assumption) (hB2.mono (Below.size (by assumption))); clear hB2)
    | (go_at_call 28; with_reducible refine (HU3.out _ (by assumption)).mono ?_; rintro e w2 ⟨rfl, rfl⟩)
    | (go_at_call 29; with_reducible refine (HU4.out _ (by assumption)).mono ?_; rintro e w2 ⟨rfl, rfl⟩)))
  rename_i hh
  have HBF := Lib.hid hh.2.2.2.2.2.2
  clear hh hS0 hz0
  try clear hz
  go_wp2
  go_loopw [46] (fun i wr => ∃ k : Nat, k ≤ h.sn ∧ i = .int .i64 k ∧ Below w1.heap.size w1 wr) (fun i _ => h.sn - (intOf i).toNat)
  case atStart => exact ⟨0, Nat.zero_le _, rfl, HBF.out⟩
  case round =>
    clear HBF
    obtain ⟨k, hk, rfl, hB⟩ := hrel
    have HB := Lib.hid hB
    by_cases hlt : k < h.sn
    · have hkl : k < ls.length := by rw [HLN.out]; exact hlt
      have hro := own_below HRW.out hB
      obtain ⟨g, cap, hv, _, hgl, hnc, hcs, hfr⟩ := own_full8 hro (by omega)
      injection hv with e1 e2 e3
      subst e1 e3
      have hcell : ∀ j (hj : j < ls.length), wr.cell? ⟨g, j, none⟩ = some (.string (mkS ls[j])) := fun j hj => by
        rw [hcs j (by rw [List.length_map]; exact hj), List.getElem?_map, List.getElem?_eq_getElem hj]
        rfl
      have HCE := Lib.hid hcell
      have x1 := hcell k hkl
      have hpk : ls[k] ∈ m.seen.map Fl.p := HPM.out.mem_iff.1 (List.getElem_mem hkl)
      obtain ⟨f0, hf0, hf0p⟩ := List.mem_map.1 hpk
      obtain ⟨fi, hfi⟩ : ∃ fi, findL m.seen ls[k] = some fi := by
        cases hf : findL m.seen ls[k] with
        | some fi => exact ⟨fi, rfl⟩
        | none =>
          unfold findL at hf
          rw [List.findIdx?_eq_none_iff] at hf
          have := hf f0 hf0
          rw [hf0p] at this
          simp at this
      have hPW : ∀ j (hj : j < k), decide (ls[k] ≤ ls[j]) = false := fun j hj => List.pairwise_iff_getElem.1 HPW.out j k (by omega) hkl hj
      have HPK := Lib.hid hPW
      obtain ⟨p, hp⟩ : ∃ p, ls[k] = p := ⟨_, rfl⟩
      rw [hp] at x1 hfi
      have HP := Lib.hid hp
      have hw := HB1.out.trans (hB.mono HB1.out.size)
      obtain ⟨s0, s1, s2, s3, s4, s5, -⟩ := HS.out wr hB
      obtain ⟨f, hf⟩ : ∃ f, m.seen.getD fi fl0 = f := ⟨_, rfl⟩
      have hfm : f ∈ m.seen := by rw [← hf]; exact findL_in hfi
      have hfil := findL_lt hfi
      have hfb : f.body < m.bodies.length := HOK.out.inS f hfm
      obtain ⟨bd, hbd⟩ : ∃ bd, bodyL m f = bd := ⟨_, rfl⟩
      have HRD := Lib.hid (fun (u : World) (hu : Below w1.heap.size w1 u) => dread_any (HD.out.of_below (HB1.out.trans (hu.mono HB1.out.size))) HOK.out p)
      have HSA := Lib.hid (fun (u : World) (hu : Below w1.heap.size w1 u) => dstat_any (HD.out.of_below (HB1.out.trans (hu.mono HB1.out.size))) p)
      rw [show readN m p = 0 by unfold readN readL; rw [hfi]; rfl, show readL m p = some bd by unfold readL; rw [hfi, ← hbd, ← hf]; rfl] at HRD
      rw [show stampV (fileL m p) = .tuple #[.agg #[.int .i64 f.size, .int .i64 f.time, .int .i64 f.chg], .int .i64 0] by unfold fileL; rw [hfi, ← hf]; rfl] at HSA
      have hrr := HR.out.of_below hw
      obtain ⟨c0, o0, hsp, hc0, y0⟩ := hrr.seen.at_.cell (j := fi * 5 + 0) ((flat_get encF 5 encF_len m.seen fi 0 hfil (by decide)).trans rfl)
      have hFC := fun j u (hu : (encF m.seen[fi])[j]? = some u) (hj : j < 5) => (by
        obtain ⟨c1, o1, e1, _, h1⟩ := hrr.seen.at_.cell (j := fi * 5 + j) ((flat_get encF 5 encF_len m.seen fi j hfil hj).trans hu)
        rw [hsp] at e1
        injection e1 with e1
        injection e1 with e1 e2
        subst e1 e2
        rw [← Nat.add_assoc] at h1
        exact h1 : wr.cell? ⟨c0, o0 + fi * 5 + j, none⟩ = some u)
      have hfe : m.seen[fi] = f := by rw [← hf, List.getD_eq_getElem?_getD, List.getElem?_eq_getElem hfil]; rfl
      rw [hfe] at hFC
      have v0 : wr.cell? ⟨c0, o0 + fi * 5, none⟩ = some (.string (mkS f.p)) := hFC 0 _ rfl (by decide)
      have v1 := hFC 1 _ rfl (by decide)
      have v2 := hFC 2 _ rfl (by decide)
      have v3 := hFC 3 _ rfl (by decide)
      have v4 := hFC 4 _ rfl (by decide)
      obtain ⟨ba, bo, bq, bc, hbp, hba, y1, y2⟩ := hrr.bodies.head (i := f.body) (by rw [← hrr.bodies.len]; exact hfb)
      rw [show m.bodies.getD f.body [] = bd from hbd] at y1 y2
      have HBW := Lib.hid (World.block_lt_of_cell? wr _ y1)
      have HY1 := Lib.hid y1
      have HY2 := Lib.hid y2
      have HBN := Lib.hid hrr.bodies.len
      have HFB := Lib.hid hfb
      have HSP := Lib.hid hsp
      have HBP := Lib.hid hbp
      have hfs : (fi : Int) < (h.sn : Int) := by have := HSN.out; omega
      have hfs2 : fi < h.sn := by have := HSN.out; omega
      have hbi : (f.body : Int) < (h.bn : Int) := by have := hrr.bodies.len; omega
      have hbi2 : f.body < h.bn := by have := hrr.bodies.len; omega
      rw [hsp] at s3
      rw [hbp] at s2
      have HFI := Lib.hid (refFind_any m.seen h.sp h.sn h.sc p (by have := HSN.out; have := HOK.out.seen; omega) wr (HR.out.of_below hw).seen.files)
      rw [findI_some hfi] at HFI
      have HFX := Lib.hid hfi
      have z1 : (k : Int) < (h.sn : Int) := by omega
      have z2 : decide ((k : Int) < (h.sn : Int)) = true := decide_eq_true z1
      have hw64 := i64s k (by have := HSN.out; have := HOK.out.seen; omega)
      have hge : decide ((fi : Int) < 0) = false := decide_eq_false (by omega)
      have HWR := Lib.hid hB
      rw [hsp] at HFI
      clear hro hgl hnc hcs hfr hcell hpk hf0 hf0p hfi hPW hp hw hB hf hfm hfil hfb hbd hrr hFC hfe y0 y1 y2 hsp hbp hc0 hba
      go_wp2_with fail
      refine HFI.out.mono ?_
      rintro e w' ⟨rfl, rfl⟩
      rcases Nat.eq_zero_or_pos k with hk0 | hk0
      · subst hk0
        go_wp2_with fail
        have hbf := (Below.refl wr.heap.size wr).alloc (Nat.le_refl _) (.cells #[.string (mkS f.p), .int .i64 (f.body : Int), .int .i64 f.size, .int .i64 f.time, .int .i64 f.chg] 71)
        have HBF := Lib.hid (HWR.out.trans (hbf.mono HWR.out.size))
        have HF5 := Lib.hid (five_cells wr (.string (mkS f.p)) (.int .i64 (f.body : Int)) (.int .i64 f.size) (.int .i64 f.time) (.int .i64 f.chg) 71)
        obtain ⟨WF, hWF⟩ : ∃ WF, wr.alloc (.cells #[.string (mkS f.p), .int .i64 (f.body : Int), .int .i64 f.size, .int .i64 f.time, .int .i64 f.chg] 71) = WF := ⟨_, rfl⟩
        have HZF : Hid (wr.heap.size < WF.heap.size) := Lib.hid (by rw [← hWF, World.size_alloc]; exact Nat.lt_succ_self _)
        rw [hWF] at hbf HBF HF5
        have HWF := Lib.hid hbf
        have HEF := Lib.hid hWF
        rw [hWF]
        clear hbf hWF x1 s0 s1 s2 s3 s4 s5 v0 v1 v2 v3 v4
        refine (HRD.out WF HBF.out).mono ?_
        rintro e w2 ⟨v, rfl, hO, hB2⟩
        replace hO : w2.ownsRow WF.heap.size 5 1 v bd.length (bytC bd) := hO
        obtain ⟨q1, c1, hv⟩ := own_slice hO
        subst hv
        have HO := Lib.hid hO
        have HB2 := Lib.hid hB2
        have HB2w := Lib.hid (HBF.out.trans (hB2.mono HBF.out.size))
        clear hO hB2
        go_wp2_with fail
        refine (HSA.out w2 HB2w.out).mono ?_
        rintro e w3 ⟨rfl, hB3⟩
        have hbs := (Below.refl w3.heap.size w3).alloc (Nat.le_refl _) (.cells #[.int .i64 f.size, .int .i64 f.time, .int .i64 f.chg] 62)
        have HB3w := Lib.hid (HB2w.out.trans (hB3.mono HB2w.out.size))
        have HB4w := Lib.hid (HB3w.out.trans (hbs.mono HB3w.out.size))
        have HBF4 : Hid (Below WF.heap.size WF (w3.alloc (.cells #[.int .i64 f.size, .int .i64 f.time, .int .i64 f.chg] 62))) := Lib.hid ((HB2.out.trans (hB3.mono HB2.out.size)).trans (hbs.mono (Nat.le_trans HB2.out.size hB3.size)))
        have HO4 := Lib.hid (own_below (own_below HO.out hB3) hbs)
        have HST := Lib.hid (stamp_cells w3 (.int .i64 f.size) (.int .i64 f.time) (.int .i64 f.chg))
        obtain ⟨W4, hW4⟩ : ∃ W4, w3.alloc (.cells #[.int .i64 f.size, .int .i64 f.time, .int .i64 f.chg] 62) = W4 := ⟨_, rfl⟩
        have HZ4 : Hid (w3.heap.size < W4.heap.size) := Lib.hid (by rw [← hW4, World.size_alloc]; exact Nat.lt_succ_self _)
        have HE4 := Lib.hid hW4
        rw [hW4] at HB4w HBF4 HO4 HST
        clear hB3 hbs hW4
        go_wp2_with fail
        rw [HE4.out]
        have hS0 : W4.drew.cell? ⟨w.heap.size, 2, none⟩ = some (.slice (some ⟨ba, bo, none⟩) h.bn h.bc) ∧ W4.drew.cell? ⟨wr.heap.size, 1, none⟩ = some (.int .i64 (f.body : Int)) ∧ W4.drew.cell? ⟨wr.heap.size, 2, none⟩ = some (.int .i64 f.size) ∧ W4.drew.cell? ⟨wr.heap.size, 3, none⟩ = some (.int .i64 f.time) ∧ W4.drew.cell? ⟨wr.heap.size, 4, none⟩ = some (.int .i64 f.chg) ∧ W4.drew.cell? ⟨w3.heap.size, 0, none⟩ = some (.int .i64 f.size) ∧ W4.drew.cell? ⟨w3.heap.size, 1, none⟩ = some (.int .i64 f.time) ∧ W4.drew.cell? ⟨w3.heap.size, 2, none⟩ = some (.int .i64 f.chg) ∧ W4.drew.cell? ⟨ba, bo + f.body, none⟩ = some (.slice bq bd.length bc) ∧ (convert 32 9 (.slice q1 bd.length c1)).run Tryz.prog W4.drew = .ok (.string (mkS bd)) W4.drew ∧ (convert 32 9 (.slice bq bd.length bc)).run Tryz.prog W4.drew = .ok (.string (mkS bd)) W4.drew := by
          have hBd : Below W4.heap.size W4 W4.drew := (Below.refl _ _).drew
          have hbw := HB4w.out.trans (hBd.mono HB4w.out.size)
          obtain ⟨-, -, t2, -⟩ := HS.out W4.drew hbw
          have hbf := HBF4.out.trans (hBd.mono HBF4.out.size)
          have hff : ∀ j, W4.drew.cell? ⟨wr.heap.size, j, none⟩ = _ := fun j => (hbf.cell (p := ⟨wr.heap.size, j, none⟩) HZF.out).trans (HF5.out j)
          have hbwr : Below wr.heap.size wr W4.drew := HWF.out.trans (hbf.mono HWF.out.size)
          obtain ⟨u0, u1, u2⟩ := HST.out
          have hO5 := own_below HO4.out hBd
          obtain ⟨q9, c9, e9, hcv⟩ := own_conv hO5 rfl
          injection e9 with e1 _ e3
          subst e1 e3
          have hy2 := HY2.out.of_below hbwr
          exact ⟨by rw [HBP.out] at t2; exact t2, hff 1, hff 2, hff 3, hff 4, (hBd.cell (p := ⟨w3.heap.size, 0, none⟩) HZ4.out).trans u0, (hBd.cell (p := ⟨w3.heap.size, 1, none⟩) HZ4.out).trans u1, (hBd.cell (p := ⟨w3.heap.size, 2, none⟩) HZ4.out).trans u2, (hbwr.cell (p := ⟨ba, bo + f.body, none⟩) HBW.out).trans HY1.out, hcv, conv8 _ _ _ _ _ hy2.at_ rfl hy2.nil⟩
        have hns := neqStamp
        go_region_held3 (fun u : World => u.cell? ⟨w.heap.size, 2, none⟩ = some (.slice (some ⟨ba, bo, none⟩) h.bn h.bc) ∧ u.cell? ⟨wr.heap.size, 1, none⟩ = some (.int .i64 (f.body : Int)) ∧ u.cell? ⟨wr.heap.size, 2, none⟩ = some (.int .i64 f.size) ∧ u.cell? ⟨wr.heap.size, 3, none⟩ = some (.int .i64 f.time) ∧ u.cell? ⟨wr.heap.size, 4, none⟩ = some (.int .i64 f.chg) ∧ u.cell? ⟨w3.heap.size, 0, none⟩ = some (.int .i64 f.size) ∧ u.cell? ⟨w3.heap.size, 1, none⟩ = some (.int .i64 f.time) ∧ u.cell? ⟨w3.heap.size, 2, none⟩ = some (.int .i64 f.chg) ∧ u.cell? ⟨ba, bo + f.body, none⟩ = some (.slice bq bd.length bc) ∧ (convert 32 9 (.slice q1 bd.length c1)).run Tryz.prog u = .ok (.string (mkS bd)) u ∧ (convert 32 9 (.slice bq bd.length bc)).run Tryz.prog u = .ok (.string (mkS bd)) u) (first | with_reducible exact hS0) (fail)
        all_goals
          clear hS0 hns
          go_wp2
          go_roundw
          case rel => exact ⟨0 + 1, by omega, by go_num, HB4w.out.drew⟩
          case measure => simp [intOf]; omega
      · obtain ⟨k2, rfl⟩ : ∃ k2, k = k2 + 1 := ⟨k - 1, by omega⟩
        have hk3 : k2 ≤ 1000 := by clear hw64; have := HSN.out; have := HOK.out.seen; omega
        have x0 := HCE.out k2 (by omega)
        obtain ⟨p0, hp0⟩ : ∃ p0, ls[k2] = p0 := ⟨_, rfl⟩
        rw [hp0] at x0
        have hpos : decide ((0 : Int) < ((k2 + 1 : Nat) : Int)) = true := decide_eq_true (by omega)
        have hpos2 : (0 : Int) < ((k2 + 1 : Nat) : Int) := by omega
        have hkb : (k2 : Int) < (h.sn : Int) := by omega
        have hkb2 : k2 < h.sn := by omega
        have hwm : wrap64 (k2 : Int) = (k2 : Int) := w64a k2 hk3
        have HWM2 := Lib.hid (w64b k2 hk3)
        have hgq := geq_no (by have := HPK.out k2 (by omega); rw [hp0, HP.out] at this; exact this : decide (p ≤ p0) = false)
        go_wp2_with fail
        have hbf := (Below.refl wr.heap.size wr).alloc (Nat.le_refl _) (.cells #[.string (mkS f.p), .int .i64 (f.body : Int), .int .i64 f.size, .int .i64 f.time, .int .i64 f.chg] 71)
        have HBF := Lib.hid (HWR.out.trans (hbf.mono HWR.out.size))
        have HF5 := Lib.hid (five_cells wr (.string (mkS f.p)) (.int .i64 (f.body : Int)) (.int .i64 f.size) (.int .i64 f.time) (.int .i64 f.chg) 71)
        obtain ⟨WF, hWF⟩ : ∃ WF, wr.alloc (.cells #[.string (mkS f.p), .int .i64 (f.body : Int), .int .i64 f.size, .int .i64 f.time, .int .i64 f.chg] 71) = WF := ⟨_, rfl⟩
        have HZF : Hid (wr.heap.size < WF.heap.size) := Lib.hid (by rw [← hWF, World.size_alloc]; exact Nat.lt_succ_self _)
        rw [hWF] at hbf HBF HF5
        have HWF := Lib.hid hbf
        have HEF := Lib.hid hWF
        rw [hWF]
        clear hbf hWF x1 s0 s1 s2 s3 s4 s5 v0 v1 v2 v3 v4
        refine (HRD.out WF HBF.out).mono ?_
        rintro e w2 ⟨v, rfl, hO, hB2⟩
        replace hO : w2.ownsRow WF.heap.size 5 1 v bd.length (bytC bd) := hO
        obtain ⟨q1, c1, hv⟩ := own_slice hO
        subst hv
        have HO := Lib.hid hO
        have HB2 := Lib.hid hB2
        have HB2w := Lib.hid (HBF.out.trans (hB2.mono HBF.out.size))
        clear hO hB2
        go_wp2_with fail
        refine (HSA.out w2 HB2w.out).mono ?_
        rintro e w3 ⟨rfl, hB3⟩
        have hbs := (Below.refl w3.heap.size w3).alloc (Nat.le_refl _) (.cells #[.int .i64 f.size, .int .i64 f.time, .int .i64 f.chg] 62)
        have HB3w := Lib.hid (HB2w.out.trans (hB3.mono HB2w.out.size))
        have HB4w := Lib.hid (HB3w.out.trans (hbs.mono HB3w.out.size))
        have HBF4 : Hid (Below WF.heap.size WF (w3.alloc (.cells #[.int .i64 f.size, .int .i64 f.time, .int .i64 f.chg] 62))) := Lib.hid ((HB2.out.trans (hB3.mono HB2.out.size)).trans (hbs.mono (Nat.le_trans HB2.out.size hB3.size)))
        have HO4 := Lib.hid (own_below (own_below HO.out hB3) hbs)
        have HST := Lib.hid (stamp_cells w3 (.int .i64 f.size) (.int .i64 f.time) (.int .i64 f.chg))
        obtain ⟨W4, hW4⟩ : ∃ W4, w3.alloc (.cells #[.int .i64 f.size, .int .i64 f.time, .int .i64 f.chg] 62) = W4 := ⟨_, rfl⟩
        have HZ4 : Hid (w3.heap.size < W4.heap.size) := Lib.hid (by rw [← hW4, World.size_alloc]; exact Nat.lt_succ_self _)
        have HE4 := Lib.hid hW4
        rw [hW4] at HB4w HBF4 HO4 HST
        clear hB3 hbs hW4
        go_wp2_with fail
        rw [HE4.out]
        have hS0 : W4.drew.cell? ⟨w.heap.size, 2, none⟩ = some (.slice (some ⟨ba, bo, none⟩) h.bn h.bc) ∧ W4.drew.cell? ⟨wr.heap.size, 1, none⟩ = some (.int .i64 (f.body : Int)) ∧ W4.drew.cell? ⟨wr.heap.size, 2, none⟩ = some (.int .i64 f.size) ∧ W4.drew.cell? ⟨wr.heap.size, 3, none⟩ = some (.int .i64 f.time) ∧ W4.drew.cell? ⟨wr.heap.size, 4, none⟩ = some (.int .i64 f.chg) ∧ W4.drew.cell? ⟨w3.heap.size, 0, none⟩ = some (.int .i64 f.size) ∧ W4.drew.cell? ⟨w3.heap.size, 1, none⟩ = some (.int .i64 f.time) ∧ W4.drew.cell? ⟨w3.heap.size, 2, none⟩ = some (.int .i64 f.chg) ∧ W4.drew.cell? ⟨ba, bo + f.body, none⟩ = some (.slice bq bd.length bc) ∧ (convert 32 9 (.slice q1 bd.length c1)).run Tryz.prog W4.drew = .ok (.string (mkS bd)) W4.drew ∧ (convert 32 9 (.slice bq bd.length bc)).run Tryz.prog W4.drew = .ok (.string (mkS bd)) W4.drew := by
          have hBd : Below W4.heap.size W4 W4.drew := (Below.refl _ _).drew
          have hbw := HB4w.out.trans (hBd.mono HB4w.out.size)
          obtain ⟨-, -, t2, -⟩ := HS.out W4.drew hbw
          have hbf := HBF4.out.trans (hBd.mono HBF4.out.size)
          have hff : ∀ j, W4.drew.cell? ⟨wr.heap.size, j, none⟩ = _ := fun j => (hbf.cell (p := ⟨wr.heap.size, j, none⟩) HZF.out).trans (HF5.out j)
          have hbwr : Below wr.heap.size wr W4.drew := HWF.out.trans (hbf.mono HWF.out.size)
          obtain ⟨u0, u1, u2⟩ := HST.out
          have hO5 := own_below HO4.out hBd
          obtain ⟨q9, c9, e9, hcv⟩ := own_conv hO5 rfl
          injection e9 with e1 _ e3
          subst e1 e3
          have hy2 := HY2.out.of_below hbwr
          exact ⟨by rw [HBP.out] at t2; exact t2, hff 1, hff 2, hff 3, hff 4, (hBd.cell (p := ⟨w3.heap.size, 0, none⟩) HZ4.out).trans u0, (hBd.cell (p := ⟨w3.heap.size, 1, none⟩) HZ4.out).trans u1, (hBd.cell (p := ⟨w3.heap.size, 2, none⟩) HZ4.out).trans u2, (hbwr.cell (p := ⟨ba, bo + f.body, none⟩) HBW.out).trans HY1.out, hcv, conv8 _ _ _ _ _ hy2.at_ rfl hy2.nil⟩
        have hns := neqStamp
        go_region_held3 (fun u : World => u.cell? ⟨w.heap.size, 2, none⟩ = some (.slice (some ⟨ba, bo, none⟩) h.bn h.bc) ∧ u.cell? ⟨wr.heap.size, 1, none⟩ = some (.int .i64 (f.body : Int)) ∧ u.cell? ⟨wr.heap.size, 2, none⟩ = some (.int .i64 f.size) ∧ u.cell? ⟨wr.heap.size, 3, none⟩ = some (.int .i64 f.time) ∧ u.cell? ⟨wr.heap.size, 4, none⟩ = some (.int .i64 f.chg) ∧ u.cell? ⟨w3.heap.size, 0, none⟩ = some (.int .i64 f.size) ∧ u.cell? ⟨w3.heap.size, 1, none⟩ = some (.int .i64 f.time) ∧ u.cell? ⟨w3.heap.size, 2, none⟩ = some (.int .i64 f.chg) ∧ u.cell? ⟨ba, bo + f.body, none⟩ = some (.slice bq bd.length bc) ∧ (convert 32 9 (.slice q1 bd.length c1)).run Tryz.prog u = .ok (.string (mkS bd)) u ∧ (convert 32 9 (.slice bq bd.length bc)).run Tryz.prog u = .ok (.string (mkS bd)) u) (first | with_reducible exact hS0) (fail)
        all_goals
          clear hS0 hns
          clear hp0 hw64 hwm hgq hkb hkb2 hpos hpos2 x0
          have hwm2 := HWM2.out
          go_wp2
          clear hwm2
          go_roundw
          case rel => exact ⟨(k2 + 1) + 1, by omega, by go_num, HB4w.out.drew⟩
          case measure => simp [intOf]; omega
    · have z1 : ¬ (k : Int) < (h.sn : Int) := by omega
      have z2 : decide ((k : Int) < (h.sn : Int)) = false := decide_eq_false z1
      clear hB
      go_wp2
      go_ret
      exact ⟨rfl, HB0.out.trans ((HB1.out.trans (HB.out.mono HB1.out.size)).mono HB0.out.size)⟩
end Go.Proofs.YtjglgohchhdkkaaGreatDoor
