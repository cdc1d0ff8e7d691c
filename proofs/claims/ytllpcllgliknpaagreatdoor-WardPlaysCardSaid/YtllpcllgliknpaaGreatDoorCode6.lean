/- What the program's reader is asked to do: the premises of layer 6's walks. -/
import Derived.Test.YtllpcllgliknpaaGreatDoorSame6
import Derived.Shelf.Abstract
import Derived.Deep.RegionHeld3
set_option linter.unusedSimpArgs false
set_option maxRecDepth 100000
set_option linter.unusedVariables false
namespace Go.Proofs.YtllpcllgliknpaaGreatDoor
open Go Go.RowKit

/-- What is thrown at the end of a reading, once. -/
def Thrown (Thr : Nat → World → Value → Prop) (code : Nat) (e : Ending) (w : World) : Prop := ∃ v, Thr code w v ∧ e = .panicked [{ v := v, recovered := false }]
/-- Of the blocks that were there only block b, and g, may have changed. -/
structure Kq (b : Nat) (g : Option Nat) (w w' : World) : Prop where
  os : w'.os = w.os
  tape : w'.tape = w.tape
  output : w'.output = w.output
  size : w.heap.size ≤ w'.heap.size
  block : ∀ k, k < w.heap.size → k ≠ b → g ≠ some k → w'.heap[k]? = w.heap[k]?
theorem Kq.below {b : Nat} {g : Option Nat} {x y : World} (h : Kq b g x y) {N : Nat} (hN : N ≤ b) (hg : ∀ k, g = some k → N ≤ k) (hx : N ≤ x.heap.size) : Below N x y :=
  ⟨h.os, h.tape, h.output, h.size, fun k hk => h.block k (by omega) (by omega) (fun e => by have := hg k e; omega)⟩
/-- Of the blocks from N on that were there only block b may have changed. -/
structure Loc (N b : Nat) (w w' : World) : Prop where
  size : w.heap.size ≤ w'.heap.size
  block : ∀ k, N ≤ k → k < w.heap.size → k ≠ b → w'.heap[k]? = w.heap[k]?
theorem Loc.refl (N b : Nat) (w : World) : Loc N b w w := ⟨Nat.le_refl _, fun _ _ _ _ => rfl⟩
theorem Loc.trans {N b : Nat} {x y z : World} (h : Loc N b x y) (k : Loc N b y z) : Loc N b x z :=
  ⟨Nat.le_trans h.size k.size, fun i h1 h2 h3 => (k.block i h1 (Nat.lt_of_lt_of_le h2 h.size) h3).trans (h.block i h1 h2 h3)⟩
theorem Loc.ofBelow {N b : Nat} {x y : World} (k : Below x.heap.size x y) : Loc N b x y := ⟨k.size, fun i _ h _ => k.block i h⟩
theorem Loc.ofKp {N b : Nat} {x y : World} (k : Kp b x y) : Loc N b x y := ⟨k.size, fun i _ h h2 => k.block i h h2⟩
theorem Loc.low {N b y : Nat} (w : World) (h : y < N) (o : Nat) (v : Value) : Loc N b w (w.setCell ⟨y, o, none⟩ v) := ⟨by simp, fun k h1 _ _ => Below.heap_setCell _ _ _ _ (by show k ≠ y; omega)⟩
theorem Loc.high {N b d : Nat} {x y z : World} (h : Loc N b x y) (k : Kp d y z) (hd : x.heap.size ≤ d) : Loc N b x z :=
  ⟨Nat.le_trans h.size k.size, fun i h1 h2 h3 => (k.block i (Nat.lt_of_lt_of_le h2 h.size) (by omega)).trans (h.block i h1 h2 h3)⟩
/-- What a reader's function tells: the code, how many bytes it took, the value. -/
def RdPost (Rd : Option Addr → Nat → World → Addr → List (BitVec 8) → Prop) (Thr : Addr → Nat → World → Value → Prop) (p : Option Addr) (N : Nat) (w : World) (a : Addr) (l : List (BitVec 8)) (code k : Nat) (ret : Value → World → Prop) (e : Ending) (w' : World) : Prop :=
  Kp a.block w w' ∧ ((code = 0 ∧ (∃ v, e = .returned v ∧ ret v w') ∧ Rd p N w' a (l.drop k)) ∨ (code ≠ 0 ∧ Thrown (Thr a) code e w'))
/-- A digest as a value. -/
def dgF (l : List (BitVec 8)) (i : Nat) : Value := B (l.getD i 0#8)
def digV (l : List (BitVec 8)) : Value := .agg (tab 32 (dgF l))
attribute [irreducible] digV
theorem mkFn : ∀ (fn : Fn) (first cap : Array Value) (w : World), (Instr.makeFunc fn first cap).run Tryz.prog w = .ok (.func fn first cap) w := fun _ _ _ _ => rfl
end Go.Proofs.YtllpcllgliknpaaGreatDoor
