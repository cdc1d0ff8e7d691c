/- The statement PathKinds, walked over the premises. -/
import Derived.Test.YtbnolmbbpdjibaaDoorPath7
import Derived.Test.YtbnolmbbpdjibaaDoorRefK7
import Derived.Deep.RegionHeld3
set_option linter.unusedSimpArgs false
set_option linter.unusedVariables false
namespace Go.Proofs.YtbnolmbbpdjibaaDoor
open Go Go.RowKit

section
variable {T : Prop} {w0 : World} (S : PathSpec T w0)
include S
set_option maxHeartbeats 4000000 in
theorem law_pathKinds (s : S8) (w : World) : Calls Tryd.prog 3 #[.string (mkS s)] w fun e w' => Gives (.bool true) w e w' := by
  have HAW := Lib.hid (fun u => awake7 S u)
  by_cases ha : 300 < s.length
  · have x1 : (300 : Int) < (s.length : Int) := by omega
    have x2 : decide ((300 : Int) < (s.length : Int)) = true := decide_eq_true x1
    go_enter Tryd.func3, Tryd.ntmps3
    go_wp2_with fail
    refine (HAW.out _).mono ?_
    rintro e w1 ⟨rfl, hB1⟩
    have HB1 := Lib.hid hB1
    clear hB1
    go_wp2_with fail
    refine (onto HB1.out HB1.out.size (HAW.out _)).mono ?_
    rintro e w2 ⟨rfl, hB2⟩
    have HB2 := Lib.hid hB2
    clear hB2 HB1
    go_wp2
    go_ret
    exact ⟨rfl, HB2.out⟩
  · have x1 : ¬ (300 : Int) < (s.length : Int) := by omega
    have x2 : decide ((300 : Int) < (s.length : Int)) = false := decide_eq_false x1
    have HGO := Lib.hid (fun u => S.good s u (by omega))
    have HGR := Lib.hid (fun u => refGood_any s (by omega) u)
    have HKI := Lib.hid (fun u => S.kind s u (by omega))
    have HKR := Lib.hid (fun u => refKind_any s (by omega) u)
    have HDI := Lib.hid (show ∀ u : World, Calls Tryd.prog 14 #[.string (mkS s)] u fun e w' => Gives (.string (mkS (s.take (kL s - 1)))) u e w' from fun u => S.dir s u (by omega))
    have HBA := Lib.hid (show ∀ u : World, Calls Tryd.prog 15 #[.string (mkS s)] u fun e w' => Gives (.string (mkS (s.drop (kL s)))) u e w' from fun u => S.base s u (by omega))
    have HSL := Lib.hid (fun u => refSlash_any s (by omega) u)
    have hkl := kL_le s
    clear S
    generalize goodL s = g at *
    generalize kindL s = m at *
    generalize kL s = k at *
    obtain ⟨j, hj⟩ : ∃ j : Nat, k - 1 = j := ⟨_, rfl⟩
    rw [hj] at HDI
    have hjl : j ≤ s.length := by omega
    have m1 : max ((k : Int) - 1) 0 = (j : Int) := by omega
    have k1 : IntKind.i64.wrap (k : Int) = (k : Int) := by rw [IntKind.wrap_i64]; omega
    have k2 : wrap64 (k : Int) = (k : Int) := by unfold wrap64; omega
    have k3 : (k : Int) - 1 + 1 = (k : Int) := by omega
    have eg : (g == g) = true := by simp
    have em : ((m : Int) == (m : Int)) = true := by simp
    have et : (s.take j == s.take j) = true := by simp
    have ed : (s.drop k == s.drop k) = true := by simp
    go_enter Tryd.func3, Tryd.ntmps3
    go_wp2_with fail
    refine (HAW.out _).mono ?_
    rintro e w1 ⟨rfl, hB1⟩
    have HB1 := Lib.hid hB1
    clear hB1
    go_wp2_with fail
    refine (HSL.out _).mono ?_
    rintro e w' ⟨rfl, rfl⟩
    have HBD := Lib.hid (show Below w.heap.size w w1.drew from HB1.out.drew)
    go_wp2
    go_region_held3 (fun W : World => Below w.heap.size w W) (first | exact HB6.out | exact HB5.out | exact HB4.out | exact HB3.out | exact HB2.out | exact HBD.out)
      ((first
        | (go_at_call 10; refine (onto HBD.out HBD.out.size (HGO.out _)).mono ?_; rintro e w2 ⟨rfl, hB2⟩; have HB2 := Lib.hid hB2; clear hB2)
        | (go_at_call 11; refine (HGR.out _).mono ?_; rintro e w' ⟨rfl, rfl⟩)
        | (go_at_call 12; refine (onto HB2.out HB2.out.size (HKI.out _)).mono ?_; rintro e w3 ⟨rfl, hB3⟩; have HB3 := Lib.hid hB3; clear hB3)
        | (go_at_call 13; refine (onto HB3.out HB3.out.size (HKR.out _)).mono ?_; rintro e w4 ⟨rfl, hB4⟩; have HB4 := Lib.hid hB4; clear hB4)
        | (go_at_call 14; refine (onto HB4.out HB4.out.size (HDI.out _)).mono ?_; rintro e w5 ⟨rfl, hB5⟩; have HB5 := Lib.hid hB5; clear hB5)
        | (go_at_call 15; refine (onto HB5.out HB5.out.size (HBA.out _)).mono ?_; rintro e w6 ⟨rfl, hB6⟩; have HB6 := Lib.hid hB6; clear hB6)))
    all_goals
      go_wp2
      go_ret
      exact ⟨rfl, HB6.out⟩
end
end Go.Proofs.YtbnolmbbpdjibaaDoor
