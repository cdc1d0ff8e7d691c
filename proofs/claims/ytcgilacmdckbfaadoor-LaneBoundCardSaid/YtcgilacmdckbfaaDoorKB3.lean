/- Merged texts: Rla14. -/
import Derived.Test.YtcgilacmdckbfaaDoorKB2
set_option linter.unusedSimpArgs false
set_option linter.unusedVariables false
/- darnerref14.lane. -/
set_option maxRecDepth 100000
namespace Go.Proofs.YtcgilacmdckbfaaDoor
open Go Go.RowKit

theorem NxI.cases {e : Bool} {c : Int} {M : List Rf} {k : Nat} {r : Int} (h : NxI e c M k r) : r = -1 ∨ ∃ i : Nat, r = (i : Int) ∧ i < k := by
  cases e with
  | true => rcases h with ⟨h, -⟩ | ⟨i, h1, h2, -⟩; exact .inl h; exact .inr ⟨i, h1, h2⟩
  | false => rcases h with ⟨h, -⟩ | ⟨i, h1, h2, -⟩; exact .inl h; exact .inr ⟨i, h1, h2⟩
end Go.Proofs.YtcgilacmdckbfaaDoor
