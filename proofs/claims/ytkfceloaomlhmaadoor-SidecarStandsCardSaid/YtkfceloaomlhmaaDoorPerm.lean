/- How many rows may there be. -/
import Derived.Test.YtkfceloaomlhmaaDoorGoodB
import Derived.WalkKit
import Derived.Lib.Walk
set_option linter.unusedSimpArgs false
set_option maxRecDepth 100000
set_option linter.unusedVariables false
namespace Go.Proofs.YtkfceloaomlhmaaDoor
open Go Go.RowKit

def permB (x : Int) : Bool := decide (1 ≤ x ∧ x ≤ 64)
set_option maxHeartbeats 1000000 in
theorem permitted_any (x : Int) (w : World) : Calls Tryd.prog 46 #[.int .i64 x] w fun e w' => e = .returned (.bool (permB x)) ∧ w = w' := by
  by_cases h1 : 1 ≤ x
  · have hd1 : decide ((1 : Int) ≤ x) = true := decide_eq_true h1
    have hf : Hid (permB x = decide (x ≤ 64)) := by
      show permB x = _
      unfold permB
      rw [decide_eq_decide]; exact ⟨fun h => h.2, fun h => ⟨h1, h⟩⟩
    clear h1
    go_enter Tryd.func46, Tryd.ntmps46
    go_wp2
    go_ret
    exact ⟨by rw [hf.out]; rfl, rfl⟩
  · have hd1 : decide ((1 : Int) ≤ x) = false := decide_eq_false h1
    have hf : Hid (permB x = false) := decide_eq_false fun h => h1 h.1
    clear h1
    go_enter Tryd.func46, Tryd.ntmps46
    go_wp2
    go_ret
    exact ⟨by rw [hf.out]; rfl, rfl⟩
end Go.Proofs.YtkfceloaomlhmaaDoor
