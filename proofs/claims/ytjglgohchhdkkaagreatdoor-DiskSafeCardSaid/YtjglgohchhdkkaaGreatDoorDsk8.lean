/- A disk by definition: lists of files and of changes, bytes by their numbers. -/
import Derived.Test.YtjglgohchhdkkaaGreatDoorStr7
set_option linter.unusedSimpArgs false
set_option linter.unusedVariables false
namespace Go.Proofs.YtjglgohchhdkkaaGreatDoor
open Go Go.RowKit

structure Fl where
  p : S8
  body : Nat
  size : Int
  time : Int
  chg : Int
structure Ch where
  kind : Nat
  src : S8
  file : Fl
structure Dk where
  room : Int
  count : Int
  bodies : List S8
  seen : List Fl
  safe : List Fl
  waits : List Ch
def fl0 : Fl := ⟨[], 0, 0, 0, 0⟩
def encF (f : Fl) : List Value := [.string (mkS f.p), .int .i64 (f.body : Int), .int .i64 f.size, .int .i64 f.time, .int .i64 f.chg]
def encC (c : Ch) : List Value := [.int .i64 (c.kind : Int), .string (mkS c.src)] ++ encF c.file
theorem encF_len (f : Fl) : (encF f).length = 5 := rfl
theorem encC_len (c : Ch) : (encC c).length = 7 := rfl
theorem encF_one (f : Fl) : ∀ u ∈ encF f, u.oneCell' = true := by
  intro u hu
  simp [encF] at hu
  rcases hu with rfl | rfl | rfl | rfl | rfl <;> rfl
theorem encC_one (c : Ch) : ∀ u ∈ encC c, u.oneCell' = true := by
  intro u hu
  rw [encC, List.mem_append] at hu
  rcases hu with hu | hu
  · simp at hu
    rcases hu with rfl | rfl <;> rfl
  · exact encF_one _ u hu
section
variable {α : Type} (enc : α → List Value) (k : Nat) (hk : ∀ x, (enc x).length = k)
include hk
theorem flat_len (l : List α) : (l.flatMap enc).length = l.length * k := by
  induction l with
  | nil => simp
  | cons x r ih => rw [List.flatMap_cons, List.length_append, hk, ih, List.length_cons, Nat.add_mul]; omega
theorem flat_get (l : List α) (i j : Nat) (hi : i < l.length) (hj : j < k) : (l.flatMap enc)[i * k + j]? = (enc (l[i]))[j]? := by
  induction l generalizing i with
  | nil => exact absurd hi (by simp)
  | cons x r ih =>
    rw [List.flatMap_cons]
    cases i with
    | zero => rw [Nat.zero_mul, Nat.zero_add, List.getElem?_append_left (by rw [hk]; exact hj)]; rfl
    | succ i =>
      have e : (i + 1) * k + j = k + (i * k + j) := by rw [Nat.add_mul]; omega
      rw [e, List.getElem?_append_right (by rw [hk]; omega), hk, Nat.add_sub_cancel_left]
      exact ih i (by simpa using hi)
theorem flat_take (l : List α) (i : Nat) : (l.flatMap enc).take (i * k) = (l.take i).flatMap enc := by
  induction l generalizing i with
  | nil => simp
  | cons x r ih =>
    cases i with
    | zero => simp
    | succ i =>
      rw [List.take_succ_cons, List.flatMap_cons, List.flatMap_cons, ← ih i]
      have e : (i + 1) * k = (enc x).length + i * k := by rw [hk, Nat.add_mul]; omega
      rw [e, List.take_length_add_append]
end
theorem flat_one {α : Type} (enc : α → List Value) (h1 : ∀ x, ∀ u ∈ enc x, u.oneCell' = true) (l : List α) : ∀ u ∈ l.flatMap enc, u.oneCell' = true := by
  intro u hu
  obtain ⟨x, _, hx⟩ := List.mem_flatMap.1 hu
  exact h1 x u hx
/-- The place of a path. -/
def findL (l : List Fl) (p : S8) : Option Nat := l.findIdx? fun f => f.p == p
def clashL (a b : S8) : Bool := inL a b || inL b a
def clashesL (l : List Fl) (p but : S8) : Bool := l.any fun f => f.p != but && clashL f.p p
def withoutL (l : List Fl) (p : S8) (cl : Bool) : List Fl := l.filter fun f => f.p != p && !(cl && clashL f.p p)
def doL (l : List Fl) (c : Ch) : List Fl :=
  match c.kind with
  | 1 => withoutL l c.file.p true ++ [c.file]
  | 2 => match findL l c.src with
    | none => l
    | some i => withoutL (withoutL l c.src false) c.file.p true ++ [{ l.getD i fl0 with p := c.file.p }]
  | _ => withoutL l c.src false
def changeL (d : Dk) (c : Ch) : Dk := { d with seen := doL d.seen c, waits := d.waits ++ [c] }
def bodyL (d : Dk) (f : Fl) : S8 := d.bodies.getD f.body []
def usedL (d : Dk) : Nat := (d.seen.map fun f => (bodyL d f).length).sum
def leftL (d : Dk) (p : S8) : Int := d.room - (usedL d : Int) + (match findL d.seen p with | some i => ((bodyL d (d.seen.getD i fl0)).length : Int) | none => 0)
def writeL (d : Dk) (p b : S8) (time : Int) : Dk × Nat :=
  if !goodL p then (d, 7)
  else if 262144 < b.length then (d, 1)
  else if clashesL d.seen p p then (d, 9)
  else if (findL d.seen p).isNone && decide (64 ≤ d.seen.length) then (d, 14)
  else if leftL d p < (b.length : Int) then (d, 10)
  else (changeL { d with count := d.count + 1, bodies := d.bodies ++ [b] } ⟨1, [], ⟨p, d.bodies.length, b.length, time, d.count + 1⟩⟩, 0)
def renameL (d : Dk) (src dst : S8) : Dk × Nat :=
  if (findL d.seen src).isNone then (d, 8)
  else if !goodL dst then (d, 7)
  else if clashesL d.seen dst src then (d, 9)
  else (changeL d ⟨2, src, { fl0 with p := dst }⟩, 0)
def removeL (d : Dk) (p : S8) : Dk × Nat := if (findL d.seen p).isNone then (d, 8) else (changeL d ⟨3, p, fl0⟩, 0)
def syncL (d : Dk) : Dk := { d with safe := d.seen, waits := [] }
/-- The changes from number i on, those that are kept done. -/
def keptL : List Fl → List Ch → List Bool → List Fl
  | l, [], _ => l
  | l, c :: r, ks => keptL (if ks.headD false then doL l c else l) r ks.tail
def crashL (d : Dk) (keep : List Bool) : Dk := { d with safe := keptL d.safe d.waits keep, seen := keptL d.safe d.waits keep, waits := [] }
def flipL (b : S8) (at_ : Nat) (mask : UInt8) : S8 := b.set at_ (b.getD at_ 0 ^^^ mask)
def rotL (d : Dk) (p : S8) (at_ : Int) (mask : UInt8) : Dk × Nat :=
  match findL d.seen p with
  | none => (d, 8)
  | some i =>
    let f := d.seen.getD i fl0
    if at_ < 0 ∨ ((bodyL d f).length : Int) ≤ at_ then (d, 1)
    else ({ d with bodies := d.bodies.set f.body (flipL (bodyL d f) at_.toNat mask) }, 0)
end Go.Proofs.YtjglgohchhdkkaaGreatDoor
