/- The statement ShardNews, walked over the premises. -/
import Derived.Test.YtphpliclecmnlaaK5
set_option linter.unusedSimpArgs false
set_option linter.unusedVariables false
namespace Go.Proofs.Ytphpliclecmnlaa
open Go Go.RowKit

section
variable {Cd : World → Nat → Nat → Nat → Prop} (S : CodeSpec Cd) (x y : Int) (w : World) (b1 : -9223372036854775808 ≤ x) (b2 : x ≤ 9223372036854775807) (b3 : -9223372036854775808 ≤ y) (b4 : y ≤ 9223372036854775807)
include S b1 b2 b3 b4
set_option maxRecDepth 100000 in
set_option maxHeartbeats 4000000 in
theorem sn_no (hno : ¬ (1 ≤ x ∧ 1 ≤ y ∧ x + y ≤ 32)) : Calls Try.prog 7 #[.int .i64 x, .int .i64 y] w fun e w' => e = .returned (.bool true) ∧ Below w.heap.size w w' := by
  have HS := Lib.hid S
  have HNO := Lib.hid hno
  clear S
  by_cases t0 : x < 1
  · have e0 : decide (x < 1) = true := decide_eq_true t0
    clear hno t0
    go_enter Try.func7, Try.ntmps7
    go_wp2_with fail
    refine (awake4 HS.out w w (Below.refl _ _)).mono ?_
    rintro e w1 ⟨rfl, hB1⟩
    have HB1 := Lib.hid hB1
    clear hB1
    go_wp2_with fail
    refine (HS.out.newNo x y w1 b1 b2 b3 b4 HNO.out).mono ?_
    rintro e w2 ⟨rfl, hB2⟩
    have HB2 := Lib.hid (bel_step HB1.out hB2)
    clear hB2
    go_wp2
    go_ret
    exact ⟨rfl, HB2.out⟩
  have e0 : decide (x < 1) = false := decide_eq_false t0
  by_cases t1 : y < 1
  · have e1 : decide (y < 1) = true := decide_eq_true t1
    clear hno t0 t1
    go_enter Try.func7, Try.ntmps7
    go_wp2_with fail
    refine (awake4 HS.out w w (Below.refl _ _)).mono ?_
    rintro e w1 ⟨rfl, hB1⟩
    have HB1 := Lib.hid hB1
    clear hB1
    go_wp2_with fail
    refine (HS.out.newNo x y w1 b1 b2 b3 b4 HNO.out).mono ?_
    rintro e w2 ⟨rfl, hB2⟩
    have HB2 := Lib.hid (bel_step HB1.out hB2)
    clear hB2
    go_wp2
    go_ret
    exact ⟨rfl, HB2.out⟩
  have e1 : decide (y < 1) = false := decide_eq_false t1
  by_cases t2 : 31 < x
  · have e2 : decide ((31 : Int) < x) = true := decide_eq_true t2
    clear hno t0 t1 t2
    go_enter Try.func7, Try.ntmps7
    go_wp2_with fail
    refine (awake4 HS.out w w (Below.refl _ _)).mono ?_
    rintro e w1 ⟨rfl, hB1⟩
    have HB1 := Lib.hid hB1
    clear hB1
    go_wp2_with fail
    refine (HS.out.newNo x y w1 b1 b2 b3 b4 HNO.out).mono ?_
    rintro e w2 ⟨rfl, hB2⟩
    have HB2 := Lib.hid (bel_step HB1.out hB2)
    clear hB2
    go_wp2
    go_ret
    exact ⟨rfl, HB2.out⟩
  have e2 : decide ((31 : Int) < x) = false := decide_eq_false t2
  by_cases t3 : 31 < y
  · have e3 : decide ((31 : Int) < y) = true := decide_eq_true t3
    clear hno t0 t1 t2 t3
    go_enter Try.func7, Try.ntmps7
    go_wp2_with fail
    refine (awake4 HS.out w w (Below.refl _ _)).mono ?_
    rintro e w1 ⟨rfl, hB1⟩
    have HB1 := Lib.hid hB1
    clear hB1
    go_wp2_with fail
    refine (HS.out.newNo x y w1 b1 b2 b3 b4 HNO.out).mono ?_
    rintro e w2 ⟨rfl, hB2⟩
    have HB2 := Lib.hid (bel_step HB1.out hB2)
    clear hB2
    go_wp2
    go_ret
    exact ⟨rfl, HB2.out⟩
  have e3 : decide ((31 : Int) < y) = false := decide_eq_false t3
  · have hw : IntKind.i64.wrap (x + y) = x + y := IntWalk.i64_in _ (by omega)
    have e4 : decide ((32 : Int) < x + y) = true := decide_eq_true (by omega)
    clear hno t0 t1 t2 t3
    go_enter Try.func7, Try.ntmps7
    go_wp2_with fail
    refine (awake4 HS.out w w (Below.refl _ _)).mono ?_
    rintro e w1 ⟨rfl, hB1⟩
    have HB1 := Lib.hid hB1
    clear hB1
    go_wp2_with fail
    refine (HS.out.newNo x y w1 b1 b2 b3 b4 HNO.out).mono ?_
    rintro e w2 ⟨rfl, hB2⟩
    have HB2 := Lib.hid (bel_step HB1.out hB2)
    clear hB2
    go_wp2
    go_ret
    exact ⟨rfl, HB2.out⟩
omit b1 b2 b3 b4 in
set_option maxRecDepth 100000 in
set_option maxHeartbeats 4000000 in
theorem sn_ok (k m : Nat) (hk : 1 ≤ k) (hm : 1 ≤ m) (hkm : k + m ≤ 32) : Calls Try.prog 7 #[.int .i64 (k : Int), .int .i64 (m : Int)] w fun e w' => e = .returned (.bool true) ∧ Below w.heap.size w w' := by
  have HS := Lib.hid S
  clear S
  have e0 : decide ((k : Int) < 1) = false := decide_eq_false (by omega)
  have e1 : decide ((m : Int) < 1) = false := decide_eq_false (by omega)
  have e2 : decide ((31 : Int) < (k : Int)) = false := decide_eq_false (by omega)
  have e3 : decide ((31 : Int) < (m : Int)) = false := decide_eq_false (by omega)
  have hw : IntKind.i64.wrap ((k : Int) + (m : Int)) = (k : Int) + (m : Int) := IntWalk.i64_in _ (by omega)
  have e4 : decide ((32 : Int) < (k : Int) + (m : Int)) = false := decide_eq_false (by omega)
  have ek : ((k : Int) == (k : Int)) = true := by simp
  have em : ((m : Int) == (m : Int)) = true := by simp
  go_enter Try.func7, Try.ntmps7
  go_wp2_with fail
  refine (awake4 HS.out w w (Below.refl _ _)).mono ?_
  rintro e w1 ⟨rfl, hB1⟩
  have HB1 := Lib.hid hB1
  clear hB1
  go_wp2_with fail
  refine (HS.out.new k m w1 hk hm hkm).mono ?_
  rintro e w2 ⟨b, rfl, hC, hB2⟩
  have HC := Lib.hid hC
  have HB2 := Lib.hid (bel_step HB1.out hB2)
  clear hC hB2
  go_wp2_with fail
  refine (HS.out.data b k m w2 HC.out).mono ?_
  rintro e w3 ⟨rfl, rfl⟩
  go_wp2_with fail
  refine (HS.out.parity b k m w2 HC.out).mono ?_
  rintro e w3 ⟨rfl, rfl⟩
  go_wp2
  go_ret
  exact ⟨rfl, HB2.out⟩
end
end Go.Proofs.Ytphpliclecmnlaa
