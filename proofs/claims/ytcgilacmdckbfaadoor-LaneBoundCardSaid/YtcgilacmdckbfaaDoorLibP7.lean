/- strings.LastIndexByte at "/"; HasPrefix, CutPrefix. -/
import Derived.Test.YtcgilacmdckbfaaDoorStr7
import Derived.Laws.Externs
import Derived.Deep.QuietTactic
import Derived.OwnWalk
import Derived.Lib.Hide
import Derived.Lib.OthersKept
set_option linter.unusedSimpArgs false
set_option maxRecDepth 100000
set_option linter.unusedVariables false
namespace Go.Proofs.YtcgilacmdckbfaaDoor
open Go Go.RowKit

set_option maxHeartbeats 1000000 in
theorem lastByte_in (l : S8) (w : World) (hl : l.length < 1000000) : Calls Tryd.prog 66 #[.string (mkS l), .int .u8 47] w fun e w' => e = .returned (.int .i64 ((kL l : Int) - 1)) ∧ w = w' := by
  obtain ⟨n, hn⟩ : ∃ n, l.length = n := ⟨_, rfl⟩
  have HK := Lib.hid (show kL l = kTo l n from by unfold kL; rw [hn])
  have HN := Lib.hid hn
  rw [hn] at hl
  have hs : IntKind.i64.wrap ((n : Int) - 1) = (n : Int) - 1 := by rw [IntKind.wrap_i64]; omega
  have hs2 : wrap64 ((n : Int) - 1) = (n : Int) - 1 := by unfold wrap64; omega
  go_enter Tryd.func66, Tryd.ntmps66
  go_wp2
  go_loopw [5] (fun vi wr => ∃ k : Nat, k ≤ n ∧ vi = .int .i64 ((k : Int) - 1) ∧ kTo l k = kL l ∧ w = wr) (fun vi _ => (intOf vi + 1).toNat)
  case atStart => exact ⟨n, Nat.le_refl _, rfl, HK.out.symm, rfl⟩
  case round =>
    obtain ⟨k, hk, rfl, hkt, rfl⟩ := hrel
    cases k with
    | zero =>
      have HZ := Lib.hid (show kL l = 0 from hkt.symm)
      clear hkt
      go_wp2
      go_ret
      exact ⟨by rw [HZ.out]; rfl, rfl⟩
    | succ j =>
      have e1 : ((j + 1 : Nat) : Int) - 1 = (j : Int) := by omega
      have e2 : (j : Int) + 1 - 1 = (j : Int) := by omega
      have hjn : j < n := by omega
      have hjl : j < l.length := by rw [HN.out]; omega
      obtain ⟨c, hc⟩ : ∃ c, chr l j = c := ⟨_, rfl⟩
      have hw : IntKind.i64.wrap ((j : Int) - 1) = (j : Int) - 1 := by rw [IntKind.wrap_i64]; omega
      have hkk : kTo l (j + 1) = if chr l j = 47 then j + 1 else kTo l j := rfl
      rw [hc] at hkk
      rw [hkk] at hkt
      by_cases h47 : c = 47
      · subst h47
        have HZ := Lib.hid (show kL l = j + 1 from by rw [← hkt, if_pos rfl])
        clear hkt hkk
        go_wp2
        go_ret
        exact ⟨by rw [HZ.out]; simp, rfl⟩
      · have hz : ((c : Int) == 47) = false := by simp; omega
        have HZ := Lib.hid (show kTo l j = kL l from by rw [← hkt, if_neg h47])
        clear hkt hkk
        go_wp2
        exact ⟨⟨j, by omega, by go_num, HZ.out, trivial⟩, by simp [intOf] <;> omega⟩
set_option maxHeartbeats 1000000 in
theorem lastByte (l : S8) (w : World) (hl : l.length < 1000000) : Calls Tryd.prog 52 #[.string (mkS l), .int .u8 47] w fun e w' => e = .returned (.int .i64 ((kL l : Int) - 1)) ∧ w = w' := by
  have HI := Lib.hid (lastByte_in l w hl)
  generalize kL l = k at *
  go_enter Tryd.func52, Tryd.ntmps52
  go_wp2_with fail
  refine HI.out.mono ?_
  rintro e w' ⟨rfl, rfl⟩
  go_wp2
  go_ret
  exact ⟨rfl, rfl⟩
set_option maxHeartbeats 1000000 in
theorem prefix_in (s t : S8) (w : World) : Calls Tryd.prog 55 #[.string (mkS s), .string (mkS t)] w fun e w' => e = .returned (.bool (startsL s t)) ∧ w = w' := by
  by_cases h : t.length ≤ s.length
  · have h1 : (t.length : Int) ≤ (s.length : Int) := by omega
    have h2 : decide ((t.length : Int) ≤ (s.length : Int)) = true := decide_eq_true h1
    have HS := Lib.hid (show startsL s t = (s.take t.length == t) from by unfold startsL; rw [decide_eq_true h]; rfl)
    go_enter Tryd.func55, Tryd.ntmps55
    go_wp2
    go_ret
    exact ⟨by rw [HS.out]; rfl, rfl⟩
  · have h1 : ¬ (t.length : Int) ≤ (s.length : Int) := by omega
    have h2 : decide ((t.length : Int) ≤ (s.length : Int)) = false := decide_eq_false h1
    have HS := Lib.hid (show startsL s t = false from by unfold startsL; rw [decide_eq_false h]; rfl)
    go_enter Tryd.func55, Tryd.ntmps55
    go_wp2
    go_ret
    exact ⟨by rw [HS.out]; rfl, rfl⟩
set_option maxHeartbeats 1000000 in
theorem hasPrefix_any (s t : S8) (w : World) : Calls Tryd.prog 42 #[.string (mkS s), .string (mkS t)] w fun e w' => e = .returned (.bool (startsL s t)) ∧ w = w' := by
  have HC := Lib.hid (prefix_in s t w)
  generalize startsL s t = b at *
  go_enter Tryd.func42, Tryd.ntmps42
  go_wp2_with fail
  refine HC.out.mono ?_
  rintro e w' ⟨rfl, rfl⟩
  go_wp2
  go_ret
  exact ⟨rfl, rfl⟩
/-- What is behind a beginning, and whether there is that beginning. -/
def behindL (s t : S8) : S8 := if startsL s t then s.drop t.length else s
end Go.Proofs.YtcgilacmdckbfaaDoor
