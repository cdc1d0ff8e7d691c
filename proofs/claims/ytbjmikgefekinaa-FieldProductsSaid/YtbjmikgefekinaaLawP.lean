/- The statement FieldProducts, walked. -/
import Derived.Test.YtbjmikgefekinaaKnown
set_option linter.unusedSimpArgs false
set_option linter.unusedVariables false
namespace Go.Proofs.Ytbjmikgefekinaa
open Go Go.RowKit

attribute [local go_sem ↓] exec_bs
attribute [local go_sem] bsl1 bs2 bsl3 bslA
set_option maxRecDepth 100000 in
set_option maxHeartbeats 2000000 in
theorem products_zero (a : BitVec 8) (w : World) : Calls Try.prog 3 #[B a, B 0#8] w fun e w' => e = .returned (.bool true) ∧ Below w.heap.size w w' := by
  have HB := Lib.hid (Below.refl w.heap.size w)
  generalize hb : (0#8 : BitVec 8) = b
  have HZ := Lib.hid hb.symm
  have e0 : (b == 0#8) = true := by rw [← hb]; rfl
  clear hb
  go_enter Try.func3, Try.ntmps3
  go_wp2_with fail
  refine (awake_any w w HB.out).mono ?_
  rintro e w1 ⟨rfl, hB1⟩
  have HB1 := Lib.hid hB1
  clear hB1
  go_wp2_with fail
  refine (newG w w1 HB1.out).mono ?_
  rintro e w2 ⟨rfl, hG2⟩
  have HG2 := Lib.hid hG2
  clear hG2
  generalize w1.heap.size = bb at *
  go_wp2_with fail
  refine (mul2 w w2 bb HG2.out a b).mono ?_
  rintro e w3 ⟨rfl, hG3⟩
  have HG3 := Lib.hid hG3
  clear hG3
  go_wp2_with fail
  refine (refMul_any a b w3).mono ?_
  rintro e wz ⟨rfl, rfl⟩
  go_wp2_with fail
  refine (add2 w w3 bb HG3.out a b).mono ?_
  rintro e w4 ⟨rfl, hG4⟩
  have HG4 := Lib.hid hG4
  clear hG4
  go_wp2_with fail
  refine (mul0 w w4 bb HG4.out).mono ?_
  rintro e w5 ⟨rfl, hG5⟩
  have HG5 := Lib.hid hG5
  clear hG5
  go_wp2_with fail
  refine (add0 w w5 bb HG5.out).mono ?_
  rintro e w6 ⟨rfl, hG6⟩
  have HG6 := Lib.hid hG6
  clear hG6
  go_wp2_with fail
  refine (mul1 w w6 bb HG6.out a).mono ?_
  rintro e w7 ⟨rfl, hG7⟩
  have HG7 := Lib.hid hG7
  clear hG7
  go_wp2_with fail
  refine (add1 w w7 bb HG7.out a).mono ?_
  rintro e w8 ⟨rfl, hG8⟩
  have HG8 := Lib.hid hG8
  clear hG8
  have e1 : ((0#8 : BitVec 8) == 0#8) = true := rfl
  go_wp2_with fail
  have hb := HZ.out
  rw [show B b = B 0#8 by rw [hb]]
  refine (div0 w w8 bb HG8.out a).mono ?_
  rintro e w9 ⟨rfl, hG9⟩
  have HG9 := Lib.hid hG9
  clear hG9 hb
  go_wp2
  go_ret
  exact ⟨rfl, HG9.out.2⟩
set_option maxRecDepth 100000 in
set_option maxHeartbeats 2000000 in
theorem products_any (a b : BitVec 8) (hb : b ≠ 0#8) (w : World) : Calls Try.prog 3 #[B a, B b] w fun e w' => e = .returned (.bool true) ∧ Below w.heap.size w w' := by
  have HB := Lib.hid (Below.refl w.heap.size w)
  have HZ := Lib.hid hb
  have e0 : (b == 0#8) = false := by simpa using hb
  have e1 : (gm (gm a (gi b)) b == a) = true := by rw [beq_iff_eq]; exact gd_mul a b hb
  clear hb
  go_enter Try.func3, Try.ntmps3
  go_wp2_with fail
  refine (awake_any w w HB.out).mono ?_
  rintro e w1 ⟨rfl, hB1⟩
  have HB1 := Lib.hid hB1
  clear hB1
  go_wp2_with fail
  refine (newG w w1 HB1.out).mono ?_
  rintro e w2 ⟨rfl, hG2⟩
  have HG2 := Lib.hid hG2
  clear hG2
  generalize w1.heap.size = bb at *
  go_wp2_with fail
  refine (mul2 w w2 bb HG2.out a b).mono ?_
  rintro e w3 ⟨rfl, hG3⟩
  have HG3 := Lib.hid hG3
  clear hG3
  go_wp2_with fail
  refine (refMul_any a b w3).mono ?_
  rintro e wz ⟨rfl, rfl⟩
  go_wp2_with fail
  refine (add2 w w3 bb HG3.out a b).mono ?_
  rintro e w4 ⟨rfl, hG4⟩
  have HG4 := Lib.hid hG4
  clear hG4
  go_wp2_with fail
  refine (mul0 w w4 bb HG4.out).mono ?_
  rintro e w5 ⟨rfl, hG5⟩
  have HG5 := Lib.hid hG5
  clear hG5
  go_wp2_with fail
  refine (add0 w w5 bb HG5.out).mono ?_
  rintro e w6 ⟨rfl, hG6⟩
  have HG6 := Lib.hid hG6
  clear hG6
  go_wp2_with fail
  refine (mul1 w w6 bb HG6.out a).mono ?_
  rintro e w7 ⟨rfl, hG7⟩
  have HG7 := Lib.hid hG7
  clear hG7
  go_wp2_with fail
  refine (add1 w w7 bb HG7.out a).mono ?_
  rintro e w8 ⟨rfl, hG8⟩
  have HG8 := Lib.hid hG8
  clear hG8
  go_wp2_with fail
  refine (divA w w8 bb HG8.out a b HZ.out).mono ?_
  rintro e w9 ⟨rfl, hG9⟩
  have HG9 := Lib.hid hG9
  clear hG9
  go_wp2_with fail
  refine (refInv_any b HZ.out w9).mono ?_
  rintro e wz ⟨rfl, rfl⟩
  go_wp2_with fail
  refine (refMul_any a (gi b) w9).mono ?_
  rintro e wz ⟨rfl, rfl⟩
  go_wp2_with fail
  refine (mul2 w w9 bb HG9.out (gm a (gi b)) b).mono ?_
  rintro e w10 ⟨rfl, hG10⟩
  have HG10 := Lib.hid hG10
  clear hG10
  go_wp2
  go_ret
  exact ⟨rfl, HG10.out.2⟩
end Go.Proofs.Ytbjmikgefekinaa
