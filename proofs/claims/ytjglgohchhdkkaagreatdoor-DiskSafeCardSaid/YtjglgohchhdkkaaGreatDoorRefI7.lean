/- The reference of layer 7: in another path. -/
import Derived.Test.YtjglgohchhdkkaaGreatDoorRefS7
set_option linter.unusedSimpArgs false
set_option linter.unusedVariables false
namespace Go.Proofs.YtjglgohchhdkkaaGreatDoor
open Go Go.RowKit

set_option maxHeartbeats 1000000 in
theorem refIn_any (s d : S8) (hs : s.length < 1000000) (hd : d.length < 900000) (w : World) : Calls Tryz.prog 63 #[.string (mkS s), .string (mkS d)] w fun e w' => e = .returned (.bool (inL s d)) ∧ w = w' := by
  have hw := i64s d.length (by omega)
  by_cases h : d.length + 1 < s.length
  · have h1 : (d.length : Int) + 1 < (s.length : Int) := by omega
    have h2 : decide ((d.length : Int) + 1 < (s.length : Int)) = true := decide_eq_true h1
    have h3 : Fit d [47] := fit (by simp; omega)
    have hlen : (cat d [47]).length = d.length + 1 := by rw [cat_len]; rfl
    have HC := Lib.hid (refStarts_any s (cat d [47]) hs (by rw [hlen]; omega) w)
    have HS := Lib.hid (show inL s d = startsL s (cat d [47]) from by unfold inL startsL; rw [hlen, decide_eq_true h, decide_eq_true (by omega), cat_eq])
    clear hlen
    go_enter Tryz.func63, Tryz.ntmps63
    go_wp2_with fail
    refine HC.out.mono ?_
    rintro e w' ⟨rfl, rfl⟩
    generalize startsL s (cat d [47]) = b at *
    go_wp2
    go_ret
    exact ⟨by rw [HS.out]; rfl, rfl⟩
  · have h1 : ¬ (d.length : Int) + 1 < (s.length : Int) := by omega
    have h2 : decide ((d.length : Int) + 1 < (s.length : Int)) = false := decide_eq_false h1
    have HS := Lib.hid (show inL s d = false from by unfold inL; rw [decide_eq_false h]; rfl)
    go_enter Tryz.func63, Tryz.ntmps63
    go_wp2
    go_ret
    exact ⟨by rw [HS.out]; rfl, rfl⟩
end Go.Proofs.YtjglgohchhdkkaaGreatDoor
