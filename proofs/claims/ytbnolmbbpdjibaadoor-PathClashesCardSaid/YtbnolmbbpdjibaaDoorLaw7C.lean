/- The statement PathClashes, walked over the premises. -/
import Derived.Test.YtbnolmbbpdjibaaDoorRefI7
import Derived.Test.YtbnolmbbpdjibaaDoorPath7
set_option linter.unusedSimpArgs false
set_option linter.unusedVariables false
namespace Go.Proofs.YtbnolmbbpdjibaaDoor
open Go Go.RowKit

theorem inL_self (a : S8) : inL a a = false := by unfold inL; rw [decide_eq_false (by omega)]; rfl
theorem inL_one {a b : S8} (h : inL a b = true) : inL b a = false := by
  unfold inL at h ⊢
  rw [Bool.and_eq_true, decide_eq_true_eq] at h
  rw [decide_eq_false (by omega)]; rfl
section
variable {T : Prop} {w0 : World} (S : PathSpec T w0)
include S
set_option maxHeartbeats 4000000 in
theorem law_pathClashes (a b : S8) (w : World) : Calls Tryd.prog 5 #[.string (mkS a), .string (mkS b)] w fun e w' => Gives (.bool true) w e w' := by
  have HAW := Lib.hid (fun u => awake7 S u)
  by_cases ha : 300 < a.length
  · have x1 : (300 : Int) < (a.length : Int) := by omega
    have x2 : decide ((300 : Int) < (a.length : Int)) = true := decide_eq_true x1
    go_enter Tryd.func5, Tryd.ntmps5
    go_wp2_with fail
    refine (HAW.out _).mono ?_
    rintro e w1 ⟨rfl, hB1⟩
    have HB1 := Lib.hid hB1
    clear hB1
    go_wp2_with fail
    refine (onto HB1.out HB1.out.size (HAW.out _)).mono ?_
    rintro e w2 ⟨rfl, hB2⟩
    have HB2 := Lib.hid hB2
    clear hB2 HB1
    go_wp2
    go_ret
    exact ⟨rfl, HB2.out⟩
  · have x1 : ¬ (300 : Int) < (a.length : Int) := by omega
    have x2 : decide ((300 : Int) < (a.length : Int)) = false := decide_eq_false x1
    by_cases hb : 300 < b.length
    · have x3 : (300 : Int) < (b.length : Int) := by omega
      have x4 : decide ((300 : Int) < (b.length : Int)) = true := decide_eq_true x3
      go_enter Tryd.func5, Tryd.ntmps5
      go_wp2_with fail
      refine (HAW.out _).mono ?_
      rintro e w1 ⟨rfl, hB1⟩
      have HB1 := Lib.hid hB1
      clear hB1
      go_wp2_with fail
      refine (onto HB1.out HB1.out.size (HAW.out _)).mono ?_
      rintro e w2 ⟨rfl, hB2⟩
      have HB2 := Lib.hid hB2
      clear hB2 HB1
      go_wp2
      go_ret
      exact ⟨rfl, HB2.out⟩
    · have x3 : ¬ (300 : Int) < (b.length : Int) := by omega
      have x4 : decide ((300 : Int) < (b.length : Int)) = false := decide_eq_false x3
      have HAB := Lib.hid (fun u => S.lies a b u (by omega) (by omega))
      have HBA := Lib.hid (fun u => S.lies b a u (by omega) (by omega))
      have HAA := Lib.hid (fun u => S.lies a a u (by omega) (by omega))
      have HCL := Lib.hid (fun u => S.clash a b u (by omega) (by omega))
      have HR1 := Lib.hid (fun u => refIn_any a b (by omega) (by omega) u)
      have HR2 := Lib.hid (fun u => refIn_any b a (by omega) (by omega) u)
      have HONE := Lib.hid (fun h => inL_one (a := a) (b := b) h)
      rw [inL_self] at HAA
      clear S ha hb
      generalize inL a b = p at *
      generalize inL b a = q at *
      cases p with
      | true =>
        obtain rfl : q = false := HONE.out rfl
        go_enter Tryd.func5, Tryd.ntmps5
        go_wp2_with fail
        refine (HAW.out _).mono ?_
        rintro e w1 ⟨rfl, hB1⟩
        have HB1 := Lib.hid hB1
        clear hB1
        go_wp2_with fail
        refine (onto HB1.out HB1.out.size (HAB.out _)).mono ?_
        rintro e w2 ⟨rfl, hB2⟩
        have HB2 := Lib.hid hB2
        clear hB2 HB1
        go_wp2_with fail
        refine (HR1.out _).mono ?_
        rintro e w' ⟨rfl, rfl⟩
        go_wp2_with fail
        refine (onto HB2.out HB2.out.size (HBA.out _)).mono ?_
        rintro e w3 ⟨rfl, hB3⟩
        have HB3 := Lib.hid hB3
        clear hB3 HB2
        go_wp2_with fail
        refine (HR2.out _).mono ?_
        rintro e w' ⟨rfl, rfl⟩
        go_wp2_with fail
        refine (onto HB3.out HB3.out.size (HCL.out _)).mono ?_
        rintro e w4 ⟨rfl, hB4⟩
        have HB4 := Lib.hid hB4
        clear hB4 HB3
        go_wp2_with fail
        refine (HR1.out _).mono ?_
        rintro e w' ⟨rfl, rfl⟩
        go_wp2_with fail
        refine (onto HB4.out HB4.out.size (HAB.out _)).mono ?_
        rintro e w5 ⟨rfl, hB5⟩
        have HB5 := Lib.hid hB5
        clear hB5 HB4
        go_wp2_with fail
        refine (onto HB5.out HB5.out.size (HBA.out _)).mono ?_
        rintro e w6 ⟨rfl, hB6⟩
        have HB6 := Lib.hid hB6
        clear hB6 HB5
        go_wp2_with fail
        refine (onto HB6.out HB6.out.size (HAA.out _)).mono ?_
        rintro e w7 ⟨rfl, hB7⟩
        have HB7 := Lib.hid hB7
        clear hB7 HB6
        go_wp2
        go_ret
        exact ⟨rfl, HB7.out⟩
      | false =>
        cases q with
        | true =>
          go_enter Tryd.func5, Tryd.ntmps5
          go_wp2_with fail
          refine (HAW.out _).mono ?_
          rintro e w1 ⟨rfl, hB1⟩
          have HB1 := Lib.hid hB1
          clear hB1
          go_wp2_with fail
          refine (onto HB1.out HB1.out.size (HAB.out _)).mono ?_
          rintro e w2 ⟨rfl, hB2⟩
          have HB2 := Lib.hid hB2
          clear hB2 HB1
          go_wp2_with fail
          refine (HR1.out _).mono ?_
          rintro e w' ⟨rfl, rfl⟩
          go_wp2_with fail
          refine (onto HB2.out HB2.out.size (HBA.out _)).mono ?_
          rintro e w3 ⟨rfl, hB3⟩
          have HB3 := Lib.hid hB3
          clear hB3 HB2
          go_wp2_with fail
          refine (HR2.out _).mono ?_
          rintro e w' ⟨rfl, rfl⟩
          go_wp2_with fail
          refine (onto HB3.out HB3.out.size (HCL.out _)).mono ?_
          rintro e w4 ⟨rfl, hB4⟩
          have HB4 := Lib.hid hB4
          clear hB4 HB3
          go_wp2_with fail
          refine (HR1.out _).mono ?_
          rintro e w' ⟨rfl, rfl⟩
          go_wp2_with fail
          refine (HR2.out _).mono ?_
          rintro e w' ⟨rfl, rfl⟩
          go_wp2_with fail
          refine (onto HB4.out HB4.out.size (HAB.out _)).mono ?_
          rintro e w5 ⟨rfl, hB5⟩
          have HB5 := Lib.hid hB5
          clear hB5 HB4
          go_wp2_with fail
          refine (onto HB5.out HB5.out.size (HAA.out _)).mono ?_
          rintro e w6 ⟨rfl, hB6⟩
          have HB6 := Lib.hid hB6
          clear hB6 HB5
          go_wp2
          go_ret
          exact ⟨rfl, HB6.out⟩
        | false =>
          go_enter Tryd.func5, Tryd.ntmps5
          go_wp2_with fail
          refine (HAW.out _).mono ?_
          rintro e w1 ⟨rfl, hB1⟩
          have HB1 := Lib.hid hB1
          clear hB1
          go_wp2_with fail
          refine (onto HB1.out HB1.out.size (HAB.out _)).mono ?_
          rintro e w2 ⟨rfl, hB2⟩
          have HB2 := Lib.hid hB2
          clear hB2 HB1
          go_wp2_with fail
          refine (HR1.out _).mono ?_
          rintro e w' ⟨rfl, rfl⟩
          go_wp2_with fail
          refine (onto HB2.out HB2.out.size (HBA.out _)).mono ?_
          rintro e w3 ⟨rfl, hB3⟩
          have HB3 := Lib.hid hB3
          clear hB3 HB2
          go_wp2_with fail
          refine (HR2.out _).mono ?_
          rintro e w' ⟨rfl, rfl⟩
          go_wp2_with fail
          refine (onto HB3.out HB3.out.size (HCL.out _)).mono ?_
          rintro e w4 ⟨rfl, hB4⟩
          have HB4 := Lib.hid hB4
          clear hB4 HB3
          go_wp2_with fail
          refine (HR1.out _).mono ?_
          rintro e w' ⟨rfl, rfl⟩
          go_wp2_with fail
          refine (HR2.out _).mono ?_
          rintro e w' ⟨rfl, rfl⟩
          go_wp2_with fail
          refine (onto HB4.out HB4.out.size (HAB.out _)).mono ?_
          rintro e w5 ⟨rfl, hB5⟩
          have HB5 := Lib.hid hB5
          clear hB5 HB4
          go_wp2_with fail
          refine (onto HB5.out HB5.out.size (HAA.out _)).mono ?_
          rintro e w6 ⟨rfl, hB6⟩
          have HB6 := Lib.hid hB6
          clear hB6 HB5
          go_wp2
          go_ret
          exact ⟨rfl, HB6.out⟩
end
end Go.Proofs.YtbnolmbbpdjibaaDoor
