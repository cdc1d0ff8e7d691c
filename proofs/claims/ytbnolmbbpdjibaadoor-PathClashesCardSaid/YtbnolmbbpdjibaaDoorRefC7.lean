/- The reference's copies and kinds. -/
import Derived.Test.YtbnolmbbpdjibaaDoorRefHo7
set_option linter.unusedSimpArgs false
set_option linter.unusedVariables false
namespace Go.Proofs.YtbnolmbbpdjibaaDoor
open Go Go.RowKit

theorem homeL_len (size : Int) (sum : S8) : (homeL size sum).1.length ≤ 20000 := by
  unfold homeL
  by_cases h : okHome size sum = true
  · rw [if_pos h]
    unfold okHome at h
    simp only [Bool.and_eq_true, decide_eq_true_eq] at h
    have := decL_len size.toNat
    unfold homeOf confl
    simp only [List.length_append, List.length_cons, List.length_nil]
    omega
  · rw [if_neg h]; simp
set_option maxHeartbeats 2000000 in
theorem refCopy_any (l : S8) (size : Int) (sum : S8) (hl : l.length < 100000) (hs : sum.length < 100000) (w : World) : Calls Tryd.prog 22 #[.string (mkS l), .int .i64 size, .string (mkS sum)] w fun e w' => Gives (pairS (copyL l size sum)) w e w' := by
  obtain ⟨X, hX⟩ : ∃ X, copyL l size sum = X := ⟨_, rfl⟩
  rw [hX]
  have HX := Lib.hid (hX.symm.trans (show copyL l size sum = if goodL l then (if (homeL size sum).2 = 0 then (if goodL (l ++ [46] ++ (homeL size sum).1) then (l ++ [46] ++ (homeL size sum).1, 0) else ((homeL size sum).1, 0)) else ([], (homeL size sum).2)) else ([], 7) from rfl))
  clear hX
  have HG := Lib.hid (fun u => refGood_any l (by omega) u)
  have HH := Lib.hid (fun u => refHome_any size sum hs u)
  have hhl := homeL_len size sum
  obtain ⟨h, k, hhk⟩ : ∃ h k, homeL size sum = (h, k) := ⟨_, _, rfl⟩
  rw [hhk] at HX HH hhl
  have HC := Lib.hid (show ∀ u : World, Calls Tryd.prog 11 #[.string (mkS (cat (cat l [46]) h))] u fun e w' => e = .returned (.bool (goodL (cat (cat l [46]) h))) ∧ u = w' from fun u => refGood_any _ (by rw [cat_len, cat_len]; simp at hhl ⊢; omega) u)
  have hf1 : Fit l [46] := fit (by simp; omega)
  have hf2 : Fit (cat l [46]) h := fit (by rw [cat_len]; simp at hhl ⊢; omega)
  rw [show l ++ [46] ++ (h, k).1 = cat (cat l [46]) h by rw [cat_eq, cat_eq]] at HX
  clear hhk hhl
  generalize goodL l = g1 at *
  generalize goodL (cat (cat l [46]) h) = g2 at *
  go_enter Tryd.func22, Tryd.ntmps22
  go_wp2_with fail
  refine (HG.out _).mono ?_
  rintro e w' ⟨rfl, rfl⟩
  cases g1 with
  | false =>
    obtain rfl : X = ([], 7) := by rw [HX.out]; rfl
    go_wp2
    go_ret2
    exact ⟨by unfold pairS; rw [mkS_nil]; rfl, Below.refl _ _⟩
  | true =>
    go_wp2_with fail
    refine (HH.out _).mono ?_
    rintro e w2 ⟨rfl, hB⟩
    unfold pairS
    have HB := Lib.hid hB
    clear hB
    by_cases hk : k = 0
    · subst hk
      go_wp2_with fail
      refine (HC.out _).mono ?_
      rintro e w' ⟨rfl, rfl⟩
      cases g2 with
      | false =>
        obtain rfl : X = (h, 0) := by rw [HX.out]; rfl
        go_wp2
        go_ret2
        exact ⟨rfl, HB.out⟩
      | true =>
        obtain rfl : X = (cat (cat l [46]) h, 0) := by rw [HX.out]; rfl
        go_wp2
        go_ret2
        exact ⟨rfl, HB.out⟩
    · have hz : ((k : Int) == 0) = false := by simp; omega
      have hz2 : ((k : Int) != 0) = true := by simp; omega
      obtain rfl : X = ([], k) := by rw [HX.out]; simp [hk]
      go_wp2
      go_ret2
      exact ⟨by unfold pairS; rw [mkS_nil]; rfl, HB.out⟩
end Go.Proofs.YtbnolmbbpdjibaaDoor
