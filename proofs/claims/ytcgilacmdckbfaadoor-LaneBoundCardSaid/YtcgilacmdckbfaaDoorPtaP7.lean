/- Dir, Base, In, Clash. -/
import Derived.Test.YtcgilacmdckbfaaDoorRefW7
import Derived.Test.YtcgilacmdckbfaaDoorLibP7
set_option linter.unusedSimpArgs false
set_option maxRecDepth 100000
set_option linter.unusedVariables false
namespace Go.Proofs.YtcgilacmdckbfaaDoor
open Go Go.RowKit

set_option maxHeartbeats 1000000 in
theorem base_any (l : S8) (w : World) (hl : l.length < 100000) : Calls Tryd.prog 40 #[.string (mkS l)] w fun e w' => Gives (.string (mkS (baseL l))) w e w' := by
  have HC := Lib.hid (lastByte l w (by omega))
  have hk := kL_le l
  have HD := Lib.hid (show baseL l = l.drop (kL l) from rfl)
  generalize kL l = k at *
  have hs := fun u => sl_from l k u (by omega)
  have x1 : ((k : Int) - 1) + 1 = (k : Int) := by omega
  have hw : IntKind.i64.wrap (k : Int) = (k : Int) := by rw [IntKind.wrap_i64]; omega
  go_enter Tryd.func40, Tryd.ntmps40
  go_wp2_with fail
  refine HC.out.mono ?_
  rintro e w' ⟨rfl, rfl⟩
  go_wp2
  go_ret
  exact ⟨by rw [HD.out]; rfl, Below.refl _ _⟩
theorem starts_parts {s d : S8} (h : startsL s d = true) : s = d ++ s.drop d.length := by
  unfold startsL at h
  rw [Bool.and_eq_true, beq_iff_eq] at h
  conv => lhs; rw [← List.take_append_drop d.length s, h.2]
theorem inL_parts (s d : S8) : inL s d = (startsL s d && (decide (1 < (s.drop d.length).length) && (chr (s.drop d.length) 0 == 47))) := by
  cases h : startsL s d with
  | true =>
    rw [Bool.true_and]
    have e := starts_parts h
    generalize s.drop d.length = t at *
    subst e
    unfold inL
    cases t with
    | nil => rw [decide_eq_false (by simp), decide_eq_false (by simp)]; rfl
    | cons c r =>
      have e1 : (d ++ c :: r).take (d.length + 1) = d ++ [c] := by
        simp [List.take_append, List.take_of_length_le]
      rw [e1]
      have hc : chr (c :: r) 0 = c.toNat := by rw [chr_eq (by simp)]; rfl
      rw [hc]
      have e2 : decide (d.length + 1 < (d ++ c :: r).length) = decide (1 < (c :: r).length) := by
        congr 1
        simp
      rw [e2]
      congr 1
      by_cases h47 : c = 47
      · subst h47; simp
      · have : ¬ c.toNat = 47 := fun e => h47 (UInt8.toNat_inj.1 e)
        rw [beq_eq_false_iff_ne.2 this]
        exact beq_eq_false_iff_ne.2 (fun e => h47 (by simpa using e))
  | false =>
    rw [Bool.false_and]
    unfold inL
    by_cases hl : d.length + 1 < s.length
    · rw [decide_eq_true hl, Bool.true_and]
      refine beq_eq_false_iff_ne.2 fun e => ?_
      have : startsL s d = true := by
        unfold startsL
        rw [decide_eq_true (by omega), Bool.true_and, beq_iff_eq]
        have := congrArg (List.take d.length) e
        rw [List.take_take, List.take_left] at this
        rwa [Nat.min_eq_left (by omega)] at this
      rw [this] at h; cases h
    · rw [decide_eq_false hl]; rfl
end Go.Proofs.YtcgilacmdckbfaaDoor
