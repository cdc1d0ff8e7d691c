/- An argument that is a slice of bytes, its room too. -/
import Derived.Test.YtllpcllgliknpaaGreatDoorLift
set_option linter.unusedSimpArgs false
set_option maxRecDepth 100000
set_option linter.unusedVariables false
namespace Go.Proofs.YtllpcllgliknpaaGreatDoor
open Go Go.ChangeShapes Go.WideShapes Go.ChangeAt Go.RowKit

/-- An argument that is a slice of bytes, its room too. -/
theorem open_bytes6 {H : Type} {enc : TypeId × Value → H} {W : World} {a0 : Option Addr} {len cap : Nat} {d : DataW H} {ps : List MemPlace}
    (h : DataW.Trod enc Tryz.prog W 0 (fun _ => true) true 53 (.slice a0 len cap) d ps) : ∃ l : List (BitVec 8), Sl W a0 l ∧ l.length = len ∧ (a0 = none → cap = 0) ∧ len ≤ cap := by
  obtain ⟨l, h1, h2, h3⟩ := open_bytes h
  refine ⟨l, h1, h2, h3, ?_⟩
  obtain ⟨fuel, hfu⟩ := h
  rcases open_ints undBytes undByte cellsByte hfu with ⟨hcs, _⟩ | ⟨a, len', cap', zs, hcs, _, hl, _⟩
  · simp [Value.cells] at hcs
    omega
  · simp [Value.cells] at hcs
    omega
end Go.Proofs.YtllpcllgliknpaaGreatDoor
