/- The statement FieldLaws, walked. -/
import Derived.Test.YtbjmikgefekinaaKnown
set_option linter.unusedSimpArgs false
set_option linter.unusedVariables false
namespace Go.Proofs.Ytbjmikgefekinaa
open Go Go.RowKit

attribute [local go_sem ↓] exec_bs
attribute [local go_sem] bsl1 bs2 bsl3 bslA
set_option maxRecDepth 100000 in
set_option maxHeartbeats 4000000 in
theorem laws_any (a b c : BitVec 8) (w : World) : Calls Try.prog 4 #[B a, B b, B c] w fun e w' => e = .returned (.bool true) ∧ Below w.heap.size w w' := by
  have HB := Lib.hid (Below.refl w.heap.size w)
  have e1 : (gm (gm a b) c == gm c (gm b a)) = true := by rw [beq_iff_eq, gm_comm a b, gm_comm c]
  have e2 : (a ^^^ b ^^^ c == c ^^^ (b ^^^ a)) = true := by rw [beq_iff_eq]; ac_rfl
  have e3 : (gm a (b ^^^ c) == gm a b ^^^ gm a c) = true := by rw [beq_iff_eq, gm_xor]
  have e4 : (a ^^^ b ^^^ a == b) = true := by rw [beq_iff_eq, show a ^^^ b ^^^ a = b ^^^ (a ^^^ a) by ac_rfl, BitVec.xor_self, BitVec.xor_zero]
  go_enter Try.func4, Try.ntmps4
  go_wp2_with fail
  refine (awake_any w w HB.out).mono ?_
  rintro e w1 ⟨rfl, hB1⟩
  have HB1 := Lib.hid hB1
  clear hB1
  go_wp2_with fail
  refine (newG w w1 HB1.out).mono ?_
  rintro e w2 ⟨rfl, hG2⟩
  have HG2 := Lib.hid hG2
  clear hG2
  generalize w1.heap.size = bb at *
  go_wp2_with fail
  refine (mul3 w w2 bb HG2.out a b c).mono ?_
  rintro e w3 ⟨rfl, hG3⟩
  have HG3 := Lib.hid hG3
  clear hG3
  go_wp2_with fail
  refine (mul2 w w3 bb HG3.out b a).mono ?_
  rintro e w4 ⟨rfl, hG4⟩
  have HG4 := Lib.hid hG4
  clear hG4
  go_wp2_with fail
  refine (mul2 w w4 bb HG4.out c (gm b a)).mono ?_
  rintro e w5 ⟨rfl, hG5⟩
  have HG5 := Lib.hid hG5
  clear hG5
  go_wp2_with fail
  refine (add3 w w5 bb HG5.out a b c).mono ?_
  rintro e w6 ⟨rfl, hG6⟩
  have HG6 := Lib.hid hG6
  clear hG6
  go_wp2_with fail
  refine (add2 w w6 bb HG6.out b a).mono ?_
  rintro e w7 ⟨rfl, hG7⟩
  have HG7 := Lib.hid hG7
  clear hG7
  go_wp2_with fail
  refine (add2 w w7 bb HG7.out c (b ^^^ a)).mono ?_
  rintro e w8 ⟨rfl, hG8⟩
  have HG8 := Lib.hid hG8
  clear hG8
  go_wp2_with fail
  refine (add2 w w8 bb HG8.out b c).mono ?_
  rintro e w9 ⟨rfl, hG9⟩
  have HG9 := Lib.hid hG9
  clear hG9
  go_wp2_with fail
  refine (mul2 w w9 bb HG9.out a (b ^^^ c)).mono ?_
  rintro e w10 ⟨rfl, hG10⟩
  have HG10 := Lib.hid hG10
  clear hG10
  go_wp2_with fail
  refine (mul2 w w10 bb HG10.out a b).mono ?_
  rintro e w11 ⟨rfl, hG11⟩
  have HG11 := Lib.hid hG11
  clear hG11
  go_wp2_with fail
  refine (mul2 w w11 bb HG11.out a c).mono ?_
  rintro e w12 ⟨rfl, hG12⟩
  have HG12 := Lib.hid hG12
  clear hG12
  go_wp2_with fail
  refine (add2 w w12 bb HG12.out (gm a b) (gm a c)).mono ?_
  rintro e w13 ⟨rfl, hG13⟩
  have HG13 := Lib.hid hG13
  clear hG13
  go_wp2_with fail
  refine (add3 w w13 bb HG13.out a b a).mono ?_
  rintro e w14 ⟨rfl, hG14⟩
  have HG14 := Lib.hid hG14
  clear hG14
  go_wp2
  go_ret
  exact ⟨rfl, HG14.out.2⟩
end Go.Proofs.Ytbjmikgefekinaa
