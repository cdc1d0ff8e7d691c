/- The reference's items, written. -/
import Derived.Test.YtllpcllgliknpaaGreatDoorTake6
set_option linter.unusedSimpArgs false
set_option maxRecDepth 100000
set_option linter.unusedVariables false
namespace Go.Proofs.YtllpcllgliknpaaGreatDoor
open Go Go.RowKit

/-- An item: its kind, a number, bytes. -/
structure It where
  k : Nat
  n : Nat
  b : List (BitVec 8)
/-- An item that may be. -/
def It.ok (x : It) : Prop := x.k < 6 ∧ x.n < 9223372036854775808 ∧ (x.k = 3 → x.n < 2) ∧ (x.k = 4 → x.b.length = 32) ∧ x.b.length < 1000000
/-- An item's bytes. -/
def It.put (x : It) : List (BitVec 8) := if x.k = 1 ∨ x.k = 2 then enc7 x.b.length ++ x.b else if x.k = 3 then [BitVec.ofNat 8 x.n] else if x.k = 4 then x.b else enc7 x.n
/-- The item as a value, its bytes where they lie. -/
def It.v (x : It) (p : Option Addr) (cap : Nat) : Value := .agg #[.int .i64 (x.k : Int), .int .i64 (x.n : Int), .slice p x.b.length cap]
attribute [local go_sem ↓] exec_bs
attribute [local go_sem] convIB6 bsB0 bsB1 bsb1
end Go.Proofs.YtllpcllgliknpaaGreatDoor
