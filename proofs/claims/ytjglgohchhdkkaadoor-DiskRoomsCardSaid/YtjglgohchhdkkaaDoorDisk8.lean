/- What the statements' walks ask of the program's package disk . -/
import Derived.Test.YtjglgohchhdkkaaDoorLsg8
import Derived.Test.YtjglgohchhdkkaaDoorDkp8
set_option linter.unusedSimpArgs false
set_option linter.unusedVariables false
namespace Go.Proofs.YtjglgohchhdkkaaDoor
open Go Go.RowKit

/-- Nothing changes but blocks where S holds, and new ones. -/
structure Kq8 (S : Nat → Prop) (w w' : World) : Prop where
  os : w'.os = w.os
  tape : w'.tape = w.tape
  output : w'.output = w.output
  size : w.heap.size ≤ w'.heap.size
  block : ∀ k, k < w.heap.size → ¬ S k → w'.heap[k]? = w.heap[k]?
section
variable {S S' : Nat → Prop} {w w' w'' : World}
theorem Kq8.of_below (h : Below w.heap.size w w') : Kq8 S w w' := ⟨h.os, h.tape, h.output, h.size, fun k hk _ => h.block k hk⟩
/-- S' has grown out of S by new blocks only. -/
def GrewTo (N : Nat) (S S' : Nat → Prop) : Prop := ∀ k, S' k → S k ∨ N ≤ k
theorem GrewTo.trans {N N' : Nat} {S S' S'' : Nat → Prop} (h : GrewTo N S S') (k : GrewTo N' S' S'') (hN : N ≤ N') : GrewTo N S S'' := fun i hi => by
  rcases k i hi with x | x
  · exact h i x
  · exact .inr (Nat.le_trans hN x)
theorem Kq8.trans (h : Kq8 S w w') (g : GrewTo w.heap.size S S') (k : Kq8 S' w' w'') : Kq8 S w w'' :=
  ⟨k.os.trans h.os, k.tape.trans h.tape, k.output.trans h.output, Nat.le_trans h.size k.size, fun i hi hn => by
    rw [k.block i (Nat.lt_of_lt_of_le hi h.size) (fun x => by rcases g i x with y | y; exact hn y; omega)]
    exact h.block i hi hn⟩
end
def ltS (a b : S8) : Bool := decide (a.map UInt8.toNat < b.map UInt8.toNat)
def clampL (room : Int) : Int := min (max room 0) 1048576
/-- A file's bytes. -/
def readL (m : Dk) (p : S8) : Option S8 := (findL m.seen p).map fun i => bodyL m (m.seen.getD i fl0)
def readN (m : Dk) (p : S8) : Int := if (readL m p).isSome then 0 else 8
def fileL (m : Dk) (p : S8) : Option Fl := (findL m.seen p).map fun i => m.seen.getD i fl0
/-- What a disk's call leaves behind. -/
def Left8 (D : World → (Nat → Prop) → Nat → Dk → Prop) (S : Nat → Prop) (b : Nat) (w : World) (m : Dk) (w' : World) : Prop := ∃ S', D w' S' b m ∧ Kq8 S w w' ∧ GrewTo w.heap.size S S'
def SmallD (m : Dk) : Prop := DkOk 300 m ∧ 0 ≤ m.room ∧ m.room ≤ 1048576
theorem changeL_room (m : Dk) (c : Ch) : (changeL m c).room = m.room := rfl
theorem writeL_room (m : Dk) (p b : S8) (t : Int) : (writeL m p b t).1.room = m.room := by
  unfold writeL
  repeat' split
  all_goals rfl
theorem renameL_room (m : Dk) (p q : S8) : (renameL m p q).1.room = m.room := by
  unfold renameL
  repeat' split
  all_goals rfl
theorem removeL_room (m : Dk) (p : S8) : (removeL m p).1.room = m.room := by
  unfold removeL
  split <;> rfl
theorem rotL_room (m : Dk) (p : S8) (a : Int) (k : UInt8) : (rotL m p a k).1.room = m.room := by
  unfold rotL
  split
  · rfl
  · dsimp only
    split <;> rfl
theorem syncL_room (m : Dk) : (syncL m).room = m.room := rfl
theorem crashL_room (m : Dk) (ks : List Bool) : (crashL m ks).room = m.room := rfl
end Go.Proofs.YtjglgohchhdkkaaDoor
