/- The statement FieldInverses, walked. -/
import Derived.Test.YtbjmikgefekinaaKnown
set_option linter.unusedSimpArgs false
set_option linter.unusedVariables false
namespace Go.Proofs.Ytbjmikgefekinaa
open Go Go.RowKit

attribute [local go_sem ↓] exec_bs
attribute [local go_sem] bsl1 bs2 bsl3 bslA
theorem conv_u16 (n : Nat) (hn : n < 65536) (w : World) : (convert 40 3 (.int .u16 (n : Int))).run Try.prog w = .ok (.int .i64 (n : Int)) w := by
  have hk : Try.prog.intKind 3 = .i64 := by kernel_rfl
  have := run_convert_int (P := Try.prog) (w := w) 40 3 .u16 (n : Int) (by kernel_rfl) (by rw [hk]; kernel_rfl)
  rw [hk, IntWalk.i64_in _ (by omega)] at this
  exact this
attribute [local go_sem] conv_u16
set_option maxRecDepth 100000 in
set_option maxHeartbeats 4000000 in
theorem inverses_zero (n : Int) (w : World) : Calls Try.prog 8 #[B 0#8, .int .u16 n] w fun e w' => e = .returned (.bool true) ∧ Below w.heap.size w w' := by
  have HB := Lib.hid (Below.refl w.heap.size w)
  generalize hb : (0#8 : BitVec 8) = a
  have e0 : (a == 0#8) = true := by rw [← hb]; rfl
  clear hb
  go_enter Try.func8, Try.ntmps8
  go_wp2_with fail
  refine (awake_any w w HB.out).mono ?_
  rintro e w1 ⟨rfl, hB1⟩
  have HB1 := Lib.hid hB1
  clear hB1
  go_wp2_with fail
  refine (awake_any w w1 HB1.out).mono ?_
  rintro e w2 ⟨rfl, hB2⟩
  have HB2 := Lib.hid hB2
  clear hB2
  go_wp2
  go_ret
  exact ⟨rfl, HB2.out⟩
set_option maxRecDepth 100000 in
set_option maxHeartbeats 4000000 in
theorem inverses_any (a : BitVec 8) (ha : a ≠ 0#8) (n : Nat) (hn : n < 65536) (w : World) : Calls Try.prog 8 #[B a, .int .u16 (n : Int)] w fun e w' => e = .returned (.bool true) ∧ Below w.heap.size w w' := by
  have HB := Lib.hid (Below.refl w.heap.size w)
  have HA := Lib.hid ha
  have e0 : (a == 0#8) = false := by simpa using ha
  have e1 : (gi a != 0#8) = true := by simpa using gi_ne a
  have e2 : (gp a 255 == 1#8) = true := by rw [beq_iff_eq]; exact gp_255 a ha
  have e3 : (gm (gp a n) (gp (gi a) n) == 1#8) = true := by rw [beq_iff_eq]; exact gp_inv a ha n
  clear ha
  go_enter Try.func8, Try.ntmps8
  go_wp2_with fail
  refine (awake_any w w HB.out).mono ?_
  rintro e w1 ⟨rfl, hB1⟩
  have HB1 := Lib.hid hB1
  clear hB1
  go_wp2_with fail
  refine (newG w w1 HB1.out).mono ?_
  rintro e w2 ⟨rfl, hG2⟩
  have HG2 := Lib.hid hG2
  clear hG2
  generalize w1.heap.size = bb at *
  go_wp2_with fail
  refine (div1 w w2 bb HG2.out a HA.out).mono ?_
  rintro e w3 ⟨rfl, hG3⟩
  have HG3 := Lib.hid hG3
  clear hG3
  go_wp2_with fail
  refine (powA w w3 bb HG3.out a 255).mono ?_
  rintro e w4 ⟨rfl, hG4⟩
  have HG4 := Lib.hid hG4
  clear hG4
  go_wp2_with fail
  refine (powA w w4 bb HG4.out a n).mono ?_
  rintro e w5 ⟨rfl, hG5⟩
  have HG5 := Lib.hid hG5
  clear hG5
  go_wp2_with fail
  refine (powA w w5 bb HG5.out (gi a) n).mono ?_
  rintro e w6 ⟨rfl, hG6⟩
  have HG6 := Lib.hid hG6
  clear hG6
  go_wp2_with fail
  refine (refInv_any a HA.out w6).mono ?_
  rintro e wz ⟨rfl, rfl⟩
  go_wp2_with fail
  refine (mul2 w w6 bb HG6.out (gp a n) (gp (gi a) n)).mono ?_
  rintro e w7 ⟨rfl, hG7⟩
  have HG7 := Lib.hid hG7
  clear hG7
  go_wp2
  go_ret
  exact ⟨rfl, HG7.out.2⟩
end Go.Proofs.Ytbjmikgefekinaa
