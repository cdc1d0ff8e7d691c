/- strings.LastIndexByte at "/"; HasPrefix, CutPrefix. -/
import Derived.Test.YtjglgohchhdkkaaDoorStr7
import Derived.Laws.Externs
import Derived.Deep.QuietTactic
import Derived.OwnWalk
import Derived.Lib.Hide
import Derived.Lib.OthersKept
set_option linter.unusedSimpArgs false
set_option linter.unusedVariables false
namespace Go.Proofs.YtjglgohchhdkkaaDoor
open Go Go.RowKit

set_option maxHeartbeats 1000000 in
theorem prefix_in (s t : S8) (w : World) : Calls Tryd.prog 93 #[.string (mkS s), .string (mkS t)] w fun e w' => e = .returned (.bool (startsL s t)) ∧ w = w' := by
  by_cases h : t.length ≤ s.length
  · have h1 : (t.length : Int) ≤ (s.length : Int) := by omega
    have h2 : decide ((t.length : Int) ≤ (s.length : Int)) = true := decide_eq_true h1
    have HS := Lib.hid (show startsL s t = (s.take t.length == t) from by unfold startsL; rw [decide_eq_true h]; rfl)
    go_enter Tryd.func93, Tryd.ntmps93
    go_wp2
    go_ret
    exact ⟨by rw [HS.out]; rfl, rfl⟩
  · have h1 : ¬ (t.length : Int) ≤ (s.length : Int) := by omega
    have h2 : decide ((t.length : Int) ≤ (s.length : Int)) = false := decide_eq_false h1
    have HS := Lib.hid (show startsL s t = false from by unfold startsL; rw [decide_eq_false h]; rfl)
    go_enter Tryd.func93, Tryd.ntmps93
    go_wp2
    go_ret
    exact ⟨by rw [HS.out]; rfl, rfl⟩
/-- What is behind a beginning, and whether there is that beginning. -/
def behindL (s t : S8) : S8 := if startsL s t then s.drop t.length else s
set_option maxHeartbeats 1000000 in
theorem cutPrefix_in (s t : S8) (w : World) : Calls Tryd.prog 79 #[.string (mkS s), .string (mkS t)] w fun e w' => e = .returned (.tuple #[.string (mkS (behindL s t)), .bool (startsL s t)]) ∧ w = w' := by
  have HC := Lib.hid (prefix_in s t w)
  have hle : startsL s t = true → t.length ≤ s.length := fun h => by unfold startsL at h; rw [Bool.and_eq_true, decide_eq_true_eq] at h; exact h.1
  have HB := Lib.hid (show behindL s t = if startsL s t then s.drop t.length else s from rfl)
  obtain ⟨x, hx⟩ : ∃ x, behindL s t = x := ⟨_, rfl⟩
  rw [hx] at HB ⊢
  clear hx
  generalize startsL s t = b at *
  cases b with
  | true =>
    have hl := hle rfl
    obtain rfl : x = s.drop t.length := by rw [HB.out]; rfl
    have h1 : (t.length : Int) ≤ (s.length : Int) := by omega
    clear hle
    go_enter Tryd.func79, Tryd.ntmps79
    go_wp2_with fail
    refine HC.out.mono ?_
    rintro e w' ⟨rfl, rfl⟩
    go_wp2
    go_ret2
    exact ⟨rfl, rfl⟩
  | false =>
    obtain rfl : x = s := by rw [HB.out]; rfl
    clear hle
    go_enter Tryd.func79, Tryd.ntmps79
    go_wp2_with fail
    refine HC.out.mono ?_
    rintro e w' ⟨rfl, rfl⟩
    go_wp2
    go_ret2
    exact ⟨rfl, rfl⟩
set_option maxHeartbeats 1000000 in
theorem cutPrefix_any (s t : S8) (w : World) : Calls Tryd.prog 63 #[.string (mkS s), .string (mkS t)] w fun e w' => e = .returned (.tuple #[.string (mkS (behindL s t)), .bool (startsL s t)]) ∧ w = w' := by
  have HC := Lib.hid (cutPrefix_in s t w)
  generalize startsL s t = b at *
  generalize behindL s t = x at *
  go_enter Tryd.func63, Tryd.ntmps63
  go_wp2_with fail
  refine HC.out.mono ?_
  rintro e w' ⟨rfl, rfl⟩
  go_wp2
  go_ret2
  exact ⟨rfl, rfl⟩
end Go.Proofs.YtjglgohchhdkkaaDoor
