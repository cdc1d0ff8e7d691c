/- The reference's classes and order of measures. -/
import Derived.Test.YtkkcphjielkmoaaRows
import Derived.Test.YtkkcphjielkmoaaFlt
import Derived.Lib.Hide
import Derived.Lib.Walk
set_option linter.unusedSimpArgs false
set_option linter.unusedVariables false
namespace Go.Proofs.Ytkkcphjielkmoaa
open Go Go.RowKit

theorem emod_rung (a : Nat) : (a : Int) % 9223372036854775808 = ((rung a : Nat) : Int) := by
  unfold rung; simp
theorem tmod_rung (a : Nat) : (a : Int).tmod 9223372036854775808 = ((rung a : Nat) : Int) := by
  rw [Int.tmod_eq_emod_of_nonneg (by omega)]; exact emod_rung a
theorem rung_lt (a : Nat) : rung a < 9223372036854775808 := Nat.mod_lt _ (by decide)
theorem wrap_u64 (r : Nat) (h : r < 18446744073709551616) : IntKind.u64.wrap (r : Int) = (r : Int) := by
  have := IntKind.wrap_u64 (r : Int)
  omega
set_option maxHeartbeats 1000000 in
theorem refCls_any (a : Nat) (w : World) : Calls Try.prog 10 #[.int .u64 (a : Int)] w fun e w' => e = .returned (.int .i64 ((clsB a : Nat) : Int)) ∧ w = w' := by
  have m1 := emod_rung a
  have m2 := tmod_rung a
  have hI : infR = 9218868437227405312 := rfl
  have HC := Lib.hid (show clsB a = if infR < rung a then 6 else if 9223372036854775808 ≤ a then (if rung a = infR then 0 else if 0 < rung a then 1 else 2) else (if rung a = infR then 5 else if 0 < rung a then 4 else 3) from rfl)
  generalize rung a = r at *
  rw [hI] at HC
  clear hI
  by_cases h1 : 9218868437227405312 < r
  · have d1 : decide ((9218868437227405312 : Int) < (r : Int)) = true := decide_eq_true (by omega)
    rw [if_pos h1] at HC
    go_enter Try.func10, Try.ntmps10
    go_wp2
    go_ret
    exact ⟨by rw [HC.out]; rfl, rfl⟩
  have d1 : decide ((9218868437227405312 : Int) < (r : Int)) = false := decide_eq_false (by omega)
  rw [if_neg h1] at HC
  by_cases h2 : 9223372036854775808 ≤ a
  · have d2 : decide ((9223372036854775808 : Int) ≤ (a : Int)) = true := decide_eq_true (by omega)
    rw [if_pos h2] at HC
    by_cases h3 : r = 9218868437227405312
    · have d3 : ((r : Int) == 9218868437227405312) = true := by simp; omega
      rw [if_pos h3] at HC
      clear h3
      go_enter Try.func10, Try.ntmps10
      go_wp2
      go_ret
      exact ⟨by rw [HC.out]; rfl, rfl⟩
    have d3 : ((r : Int) == 9218868437227405312) = false := by simp; omega
    rw [if_neg h3] at HC
    by_cases h4 : 0 < r
    · have d4 : decide ((0 : Int) < (r : Int)) = true := decide_eq_true (by omega)
      rw [if_pos h4] at HC
      clear h3
      go_enter Try.func10, Try.ntmps10
      go_wp2
      go_ret
      exact ⟨by rw [HC.out]; rfl, rfl⟩
    have d4 : decide ((0 : Int) < (r : Int)) = false := decide_eq_false (by omega)
    rw [if_neg h4] at HC
    clear h3
    go_enter Try.func10, Try.ntmps10
    go_wp2
    go_ret
    exact ⟨by rw [HC.out]; rfl, rfl⟩
  have d2 : decide ((9223372036854775808 : Int) ≤ (a : Int)) = false := decide_eq_false (by omega)
  rw [if_neg h2] at HC
  by_cases h3 : r = 9218868437227405312
  · have d3 : ((r : Int) == 9218868437227405312) = true := by simp; omega
    rw [if_pos h3] at HC
    clear h3
    go_enter Try.func10, Try.ntmps10
    go_wp2
    go_ret
    exact ⟨by rw [HC.out]; rfl, rfl⟩
  have d3 : ((r : Int) == 9218868437227405312) = false := by simp; omega
  rw [if_neg h3] at HC
  by_cases h4 : 0 < r
  · have d4 : decide ((0 : Int) < (r : Int)) = true := decide_eq_true (by omega)
    rw [if_pos h4] at HC
    clear h3
    go_enter Try.func10, Try.ntmps10
    go_wp2
    go_ret
    exact ⟨by rw [HC.out]; rfl, rfl⟩
  have d4 : decide ((0 : Int) < (r : Int)) = false := decide_eq_false (by omega)
  rw [if_neg h4] at HC
  clear h3
  go_enter Try.func10, Try.ntmps10
  go_wp2
  go_ret
  exact ⟨by rw [HC.out]; rfl, rfl⟩
theorem clsB_le (a : Nat) : clsB a ≤ 6 := by
  unfold clsB
  split
  · exact Nat.le_refl _
  · split <;> split <;> first | decide | (split <;> decide)
set_option maxHeartbeats 1000000 in
theorem refLess_any (a b : Nat) (w : World) : Calls Try.prog 12 #[.int .u64 (a : Int), .int .u64 (b : Int)] w fun e w' => e = .returned (.bool (lessM a b)) ∧ w = w' := by
  have HA := Lib.hid (refCls_any a w)
  have HB := Lib.hid (refCls_any b w)
  have HM := Lib.hid (show lessM a b = decide (clsB a < clsB b ∨ clsB a = clsB b ∧ (clsB a = 1 ∧ b < a ∨ clsB a = 4 ∧ a < b)) from rfl)
  have ha := clsB_le a
  have hb := clsB_le b
  generalize clsB a = c at *
  generalize clsB b = d at *
  have hc : (c = 0 ∨ c = 1 ∨ c = 2 ∨ c = 3 ∨ c = 4 ∨ c = 5 ∨ c = 6) := by omega
  by_cases h1 : c = d
  · have n1 : ((c : Int) != (d : Int)) = false := by simp; omega
    have n2 : ((c : Int) == (d : Int)) = true := by simp; omega
    by_cases h2 : c = 1
    · have n3 : ((c : Int) == 1) = true := by simp; omega
      have HF := Lib.hid (show lessM a b = decide (b < a) by rw [HM.out, decide_eq_decide]; omega)
      by_cases h3 : b < a
      · have n4 : decide ((b : Int) < (a : Int)) = true := decide_eq_true (by omega)
        rw [decide_eq_true h3] at HF
        clear h1 h2 hc ha hb
        go_enter Try.func12, Try.ntmps12
        go_wp2_with fail
        refine HA.out.mono ?_
        rintro e w' ⟨rfl, rfl⟩
        go_wp2_with fail
        refine HB.out.mono ?_
        rintro e w' ⟨rfl, rfl⟩
        go_wp2
        go_ret
        exact ⟨by rw [HF.out]; rfl, rfl⟩
      · have n4 : decide ((b : Int) < (a : Int)) = false := decide_eq_false (by omega)
        rw [decide_eq_false h3] at HF
        clear h1 h2 hc ha hb
        go_enter Try.func12, Try.ntmps12
        go_wp2_with fail
        refine HA.out.mono ?_
        rintro e w' ⟨rfl, rfl⟩
        go_wp2_with fail
        refine HB.out.mono ?_
        rintro e w' ⟨rfl, rfl⟩
        go_wp2
        go_ret
        exact ⟨by rw [HF.out]; rfl, rfl⟩
    · have n3 : ((c : Int) == 1) = false := by simp; omega
      by_cases h4 : c = 4
      · have n5 : ((c : Int) == 4) = true := by simp; omega
        have HF := Lib.hid (show lessM a b = decide (a < b) by rw [HM.out, decide_eq_decide]; omega)
        by_cases h3 : a < b
        · have n4 : decide ((a : Int) < (b : Int)) = true := decide_eq_true (by omega)
          rw [decide_eq_true h3] at HF
          clear h1 h2 hc ha hb h4
          go_enter Try.func12, Try.ntmps12
          go_wp2_with fail
          refine HA.out.mono ?_
          rintro e w' ⟨rfl, rfl⟩
          go_wp2_with fail
          refine HB.out.mono ?_
          rintro e w' ⟨rfl, rfl⟩
          go_wp2
          go_ret
          exact ⟨by rw [HF.out]; rfl, rfl⟩
        · have n4 : decide ((a : Int) < (b : Int)) = false := decide_eq_false (by omega)
          rw [decide_eq_false h3] at HF
          clear h1 h2 hc ha hb h4
          go_enter Try.func12, Try.ntmps12
          go_wp2_with fail
          refine HA.out.mono ?_
          rintro e w' ⟨rfl, rfl⟩
          go_wp2_with fail
          refine HB.out.mono ?_
          rintro e w' ⟨rfl, rfl⟩
          go_wp2
          go_ret
          exact ⟨by rw [HF.out]; rfl, rfl⟩
      · have n5 : ((c : Int) == 4) = false := by simp; omega
        have HF := Lib.hid (show lessM a b = false by rw [HM.out]; exact decide_eq_false (by omega))
        clear h1 h2 hc ha hb h4
        go_enter Try.func12, Try.ntmps12
        go_wp2_with fail
        refine HA.out.mono ?_
        rintro e w' ⟨rfl, rfl⟩
        go_wp2_with fail
        refine HB.out.mono ?_
        rintro e w' ⟨rfl, rfl⟩
        go_wp2
        go_ret
        exact ⟨by rw [HF.out]; rfl, rfl⟩
  · have n1 : ((c : Int) != (d : Int)) = true := by simp; omega
    have n2 : ((c : Int) == (d : Int)) = false := by simp; omega
    have n6 : decide (c = d) = false := decide_eq_false h1
    have HF := Lib.hid (show lessM a b = decide (c < d) by rw [HM.out, decide_eq_decide]; omega)
    by_cases h3 : c < d
    · have n4 : decide ((c : Int) < (d : Int)) = true := decide_eq_true (by omega)
      rw [decide_eq_true h3] at HF
      clear h1 hc ha hb
      go_enter Try.func12, Try.ntmps12
      go_wp2_with fail
      refine HA.out.mono ?_
      rintro e w' ⟨rfl, rfl⟩
      go_wp2_with fail
      refine HB.out.mono ?_
      rintro e w' ⟨rfl, rfl⟩
      go_wp2
      go_ret
      exact ⟨by rw [HF.out]; rfl, rfl⟩
    · have n4 : decide ((c : Int) < (d : Int)) = false := decide_eq_false (by omega)
      rw [decide_eq_false h3] at HF
      clear h1 hc ha hb
      go_enter Try.func12, Try.ntmps12
      go_wp2_with fail
      refine HA.out.mono ?_
      rintro e w' ⟨rfl, rfl⟩
      go_wp2_with fail
      refine HB.out.mono ?_
      rintro e w' ⟨rfl, rfl⟩
      go_wp2
      go_ret
      exact ⟨by rw [HF.out]; rfl, rfl⟩
end Go.Proofs.Ytkkcphjielkmoaa
