/- What the statements' strings read as, in the walks' words. -/
import Derived.Test.YtllpcllgliknpaaGreatDoorLift
import Derived.Test.YtllpcllgliknpaaGreatDoorStr7
set_option linter.unusedSimpArgs false
set_option maxRecDepth 100000
set_option linter.unusedVariables false
namespace Go.Proofs.YtllpcllgliknpaaGreatDoor
open Go Go.ChangeShapes Go.WideShapes Go.ChangeAt Go.RowKit

theorem open_str {H : Type} {enc : TypeId × Value → H} {W : World} {r : Reach} {base : Nat} {v : Value} {d : DataW H} {ps : List MemPlace} (hv : Value.okWide Tryz.prog W r base 9 v)
    (h : DataW.Trod enc Tryz.prog W 0 (fun _ => true) true 9 v d ps) : ∃ s : ByteArray, v = .string s ∧ d = .lit (.string s.data.toList) ∧ ps = [] := by
  obtain ⟨s, rfl⟩ := okWide_string strT hv
  obtain ⟨fuel, hf⟩ := h
  obtain ⟨s', h1, h2, h3⟩ := DataW.trod_string strT hf
  simp [Value.cells] at h1
  subst h1
  injection h2 with h4 h5
  exact ⟨s, rfl, h4, h5⟩
end Go.Proofs.YtllpcllgliknpaaGreatDoor
