/- The reference's last slash. -/
import Derived.Test.YtcgilacmdckbfaaDoorRef7
set_option linter.unusedSimpArgs false
set_option maxRecDepth 100000
set_option linter.unusedVariables false
namespace Go.Proofs.YtcgilacmdckbfaaDoor
open Go Go.RowKit

set_option maxHeartbeats 1000000 in
theorem refSlash_any (l : S8) (hl : l.length < 1000000) (w : World) : Calls Tryd.prog 38 #[.string (mkS l)] w fun e w' => e = .returned (.int .i64 ((kL l : Int) - 1)) ∧ w = w' := by
  obtain ⟨n, hn⟩ : ∃ n, l.length = n := ⟨_, rfl⟩
  rw [hn] at hl
  have HN := Lib.hid hn
  go_enter Tryd.func38, Tryd.ntmps38
  go_wp2
  go_loopw [3, 4] (fun vo vi wr => ∃ i m : Nat, i ≤ n ∧ vi = .int .i64 i ∧ vo = .int .i64 ((m : Int) - 1) ∧ kTo l i = m ∧ w = wr) (fun vo vi _ => n - (intOf vi).toNat)
  case atStart => exact ⟨0, 0, Nat.zero_le _, rfl, rfl, rfl, rfl⟩
  case round =>
    obtain ⟨i, m, hi, rfl, rfl, hm, rfl⟩ := hrel
    by_cases hlt : i < n
    · have hli : i < l.length := by omega
      have z1 : (i : Int) < (n : Int) := by omega
      have z2 : decide ((i : Int) < (n : Int)) = true := decide_eq_true z1
      have hw := i64s i (by omega)
      have hk : kTo l (i + 1) = if chr l i = 47 then i + 1 else kTo l i := rfl
      rw [hm] at hk
      have HK := Lib.hid hk
      obtain ⟨c, hc⟩ : ∃ c, chr l i = c := ⟨_, rfl⟩
      rw [hc] at HK
      clear hm hk
      by_cases h47 : c = 47
      · subst h47
        go_wp2
        exact ⟨⟨i + 1, i + 1, by omega, by go_num, by go_num, by rw [HK.out, if_pos rfl], trivial⟩, by simp [intOf]; omega⟩
      · have hz : ((c : Int) == 47) = false := by simp; omega
        go_wp2
        exact ⟨⟨i + 1, m, by omega, by go_num, rfl, by rw [HK.out, if_neg h47], trivial⟩, by simp [intOf]; omega⟩
    · obtain rfl : i = n := by omega
      have z1 : ¬ (i : Int) < (i : Int) := by omega
      have z2 : decide ((i : Int) < (i : Int)) = false := decide_eq_false z1
      have HM := Lib.hid (show kL l = m from by unfold kL; rw [HN.out]; exact hm)
      clear hm
      go_wp2
      go_ret
      exact ⟨by rw [HM.out]; rfl, rfl⟩
end Go.Proofs.YtcgilacmdckbfaaDoor
