/- The frame of calls that change several blocks (as in Mem14, without the lanes). -/
import Derived.Test.YtllpcllgliknpaaGreatDoorOwnK8
import Derived.Test.YtllpcllgliknpaaGreatDoorStr7
set_option linter.unusedSimpArgs false
set_option maxRecDepth 100000
set_option linter.unusedVariables false
namespace Go.Proofs.YtllpcllgliknpaaGreatDoor
open Go Go.RowKit

/-- All blocks but those of S are as they were. -/
structure KpF (S : Nat → Prop) (w w' : World) : Prop where
  os : w'.os = w.os
  tape : w'.tape = w.tape
  output : w'.output = w.output
  size : w.heap.size ≤ w'.heap.size
  block : ∀ k, k < w.heap.size → ¬ S k → w'.heap[k]? = w.heap[k]?
theorem KpF.refl (S : Nat → Prop) (w : World) : KpF S w w := ⟨rfl, rfl, rfl, Nat.le_refl _, fun _ _ _ => rfl⟩
theorem KpF.trans {S : Nat → Prop} {x y z : World} (h : KpF S x y) (k : KpF S y z) : KpF S x z :=
  ⟨k.os.trans h.os, k.tape.trans h.tape, k.output.trans h.output, Nat.le_trans h.size k.size, fun i hi hb => (k.block i (Nat.lt_of_lt_of_le hi h.size) hb).trans (h.block i hi hb)⟩
theorem KpF.mono {S T : Nat → Prop} {x y : World} (h : KpF S x y) (hs : ∀ k, k < x.heap.size → S k → T k) : KpF T x y := ⟨h.os, h.tape, h.output, h.size, fun i hi hb => h.block i hi fun hc => hb (hs i hi hc)⟩
theorem KpF.of_below {S : Nat → Prop} {N : Nat} {x y : World} (h : Below N x y) (hs : ∀ k, N ≤ k → k < x.heap.size → S k) : KpF S x y :=
  ⟨h.os, h.tape, h.output, h.size, fun i hi hb => h.block i (by rcases Nat.lt_or_ge i N with h1 | h1; exact h1; exact absurd (hs i h1 hi) hb)⟩
theorem KpF.of_new {S : Nat → Prop} {x y : World} (h : Below x.heap.size x y) : KpF S x y := .of_below h fun k h1 h2 => absurd h2 (by omega)
theorem KpF.of_grown {S : Nat → Prop} {x y : World} {o : Option Nat} (h : x.grownBy y o) (hs : ∀ k, o = some k → S k) : KpF S x y :=
  ⟨h.os, h.tape, h.output, h.size, fun i hi hb => h.block i hi fun e => hb (hs i e.symm)⟩
theorem KpF.below {S : Nat → Prop} {N : Nat} {x y : World} (h : KpF S x y) (hs : ∀ k, S k → N ≤ k) (hN : N ≤ x.heap.size) : Below N x y :=
  ⟨h.os, h.tape, h.output, h.size, fun i hi => h.block i (by omega) fun hc => absurd (hs i hc) (by omega)⟩
theorem KpF.drew {S : Nat → Prop} (w : World) : KpF S w w.drew := ⟨rfl, rfl, rfl, Nat.le_refl _, fun _ _ _ => rfl⟩
theorem KpF.alloc {S : Nat → Prop} (w : World) (o : Obj) : KpF S w (w.alloc o) := .of_new ((Below.refl _ w).alloc (Nat.le_refl _) o)
/-- A store into a block of S. -/
theorem KpF.setCell {S : Nat → Prop} (w : World) (a : Addr) (v : Value) (hs : S a.block) : KpF S w (w.setCell a v) := by
  refine ⟨rfl, rfl, rfl, by simp [World.setCell], fun k hk hn => ?_⟩
  have hne : a.block ≠ k := fun e => hn (e ▸ hs)
  simp only [World.setCell, Array.getElem?_modify, if_neg hne]
/-- What is of F, or new since w. -/
def newF (F : Nat → Prop) (w w' : World) (g : Nat) : Prop := F g ∨ (w.heap.size ≤ g ∧ g < w'.heap.size)
end Go.Proofs.YtllpcllgliknpaaGreatDoor
