/- What the program's measures are asked to do: the premises of layer 5's walks. -/
import Derived.Test.YtkkcphjielkmoaaRefG
import Derived.Test.YtkkcphjielkmoaaFltQ
import Derived.Test.YtkkcphjielkmoaaBase
set_option linter.unusedSimpArgs false
set_option linter.unusedVariables false
namespace Go.Proofs.Ytkkcphjielkmoaa
open Go Go.RowKit

/-- The premises. -/
structure GaugeSpec : Prop where
  cls : ∀ (a : Nat) (w : World), a < 18446744073709551616 → Calls Try.prog 9 #[.float .f64 a] w fun e w' => e = .returned (.int .i64 ((clsB a : Nat) : Int)) ∧ Dr w w'
  less : ∀ (a b : Nat) (w : World), a < 18446744073709551616 → b < 18446744073709551616 → Calls Try.prog 11 #[.float .f64 a, .float .f64 b] w fun e w' => e = .returned (.bool (lessM a b)) ∧ Dr w w'
  never : ∀ (x y : Int) (w : World), x < 0 → Calls Try.prog 19 #[.int .i64 x, .int .i64 y] w fun e w' => e = .returned (.float .f64 infR) ∧ Dr w w'
  since : ∀ (x y : Int) (w : World), 0 ≤ x → (y - x).natAbs < 2 ^ 53 → Calls Try.prog 19 #[.int .i64 x, .int .i64 y] w fun e w' => e = .returned (.float .f64 (wI (y - x))) ∧ Dr w w'
  rate : ∀ (x y : Int) (w : World), x.natAbs < 2 ^ 20 → y.natAbs < 2 ^ 20 → y ≠ 0 → Calls Try.prog 18 #[.int .i64 x, .int .i64 y] w fun e w' => ∃ r, absQ x y r ∧ e = .returned (.float .f64 (Ieee.double.word (decide (x < 0) ^^ decide (y < 0)) r)) ∧ Dr w w'
  rateInf : ∀ (x : Int) (w : World), x.natAbs < 2 ^ 20 → x ≠ 0 → Calls Try.prog 18 #[.int .i64 x, .int .i64 0] w fun e w' => e = .returned (.float .f64 (Ieee.double.word (decide (x < 0)) infR)) ∧ Dr w w'
  rateNo : ∀ (w : World), Calls Try.prog 18 #[.int .i64 0, .int .i64 0] w fun e w' => ∃ a, infR < rung a ∧ a < 18446744073709551616 ∧ e = .returned (.float .f64 a) ∧ Dr w w'
theorem fl_eql (t : TypeId) (a b : Nat) : binOp .eql t (.float .f64 a) (.float .f64 b) = pure (.bool (Ieee.double.order a b == some .eq)) := rfl
theorem fl_neq (t : TypeId) (a b : Nat) : binOp .neq t (.float .f64 a) (.float .f64 b) = pure (.bool (Ieee.double.order a b != some .eq)) := rfl
theorem fl_lss (t : TypeId) (a b : Nat) : binOp .lss t (.float .f64 a) (.float .f64 b) = pure (.bool (Ieee.double.order a b == some .lt)) := rfl
theorem fl_gtr (t : TypeId) (a b : Nat) : binOp .gtr t (.float .f64 a) (.float .f64 b) = pure (.bool (Ieee.double.order a b == some .gt)) := rfl
theorem lessM_irrefl (a : Nat) : lessM a a = false := decide_eq_false fun h => by omega
theorem run_frombits (a : Nat) (w : World) : (callFunc 8 #[.int .u64 (a : Int)]).run Try.prog w = .ok (.value (.float .f64 a)) w := by kernel_rfl
theorem run_bits (a : Nat) (w : World) : (callFunc 24 #[.float .f64 a]).run Try.prog w = .ok (.value (.int .u64 (a : Int))) w := by kernel_rfl
attribute [local go_sem] fl_eql fl_neq fl_lss fl_gtr run_frombits run_bits
set_option maxHeartbeats 1000000 in
theorem awake5 (S : GaugeSpec) (w0 w : World) (h : Below w0.heap.size w0 w) : Calls Try.prog 7 #[] w fun e w' => e = .returned (.bool true) ∧ Below w0.heap.size w0 w' := by
  have HS := Lib.hid S
  have HB := Lib.hid h
  clear S h
  go_enter Try.func7, Try.ntmps7
  go_wp2_with fail
  refine (HS.out.never (-1) 7 w (by decide)).mono ?_
  rintro e w1 ⟨rfl, hD1⟩
  have HB1 := Lib.hid (h := HB.out.trans (hD1.below _))
  clear hD1
  go_wp2_with fail
  refine (HS.out.cls infR w1 (by decide)).mono ?_
  rintro e w2 ⟨rfl, hD2⟩
  have HB2 := Lib.hid (h := HB1.out.trans (hD2.below _))
  clear hD2
  rw [show clsB infR = 5 by decide]
  go_wp2_with fail
  refine (HS.out.since 3 7 w2 (by decide) (by decide)).mono ?_
  rintro e w3 ⟨rfl, hD3⟩
  have HB3 := Lib.hid (h := HB2.out.trans (hD3.below _))
  clear hD3
  rw [show wI (7 - 3) = 4616189618054758400 by decide]
  have hE : (Ieee.double.order 4616189618054758400 4616189618054758400 == some .eq) = true := by decide
  go_wp2
  go_ret
  exact ⟨rfl, HB3.out⟩
set_option maxHeartbeats 2000000 in
theorem go_a (S : GaugeSpec) (a b : Nat) (ha : a < 18446744073709551616) (hb : b < 18446744073709551616) (w : World) :
    Calls Try.prog 3 #[.int .u64 (a : Int), .int .u64 (b : Int)] w fun e w' => e = .returned (.bool true) ∧ Below w.heap.size w w' := by
  have HS := Lib.hid S
  clear S
  go_enter Try.func3, Try.ntmps3
  go_wp2_with fail
  refine (awake5 HS.out w w (Below.refl _ _)).mono ?_
  rintro e w1 ⟨rfl, hB1⟩
  have HB1 := Lib.hid hB1
  clear hB1
  have hca : ((clsB a : Int) == (clsB a : Int)) = true := by simp
  have hcb : ((clsB b : Int) == (clsB b : Int)) = true := by simp
  have hlm : (lessM a b == lessM a b) = true := by simp
  have HII := Lib.hid (lessM_irrefl a)
  have HA := Lib.hid (refCls_any a)
  have HB := Lib.hid (refCls_any b)
  have HLS := Lib.hid (refLess_any a b)
  have HCA := Lib.hid (fun w => HS.out.cls a w ha)
  have HCB := Lib.hid (fun w => HS.out.cls b w hb)
  have HLA := Lib.hid (fun w => HS.out.less a b w ha hb)
  have HLI := Lib.hid (fun w => HS.out.less a a w ha ha)
  rw [HII.out] at HLI
  clear ha hb
  generalize clsB a = ca at *
  generalize clsB b = cb at *
  generalize lessM a b = lm at *
  go_wp2_with fail
  refine (HCA.out w1).mono ?_
  rintro e w2 ⟨rfl, hD2⟩
  have HB2 := Lib.hid (HB1.out.trans (hD2.below _))
  clear hD2
  go_wp2_with fail
  refine (HA.out w2).mono ?_
  rintro e w' ⟨rfl, rfl⟩
  go_wp2_with fail
  refine (HCB.out w2).mono ?_
  rintro e w3 ⟨rfl, hD3⟩
  have HB3 := Lib.hid (HB2.out.trans (hD3.below _))
  clear hD3
  go_wp2_with fail
  refine (HB.out w3).mono ?_
  rintro e w' ⟨rfl, rfl⟩
  go_wp2_with fail
  refine (HLA.out w3).mono ?_
  rintro e w4 ⟨rfl, hD4⟩
  have HB4 := Lib.hid (HB3.out.trans (hD4.below _))
  clear hD4
  go_wp2_with fail
  refine (HLS.out w4).mono ?_
  rintro e w' ⟨rfl, rfl⟩
  go_wp2_with fail
  refine (HLI.out w4).mono ?_
  rintro e w5 ⟨rfl, hD5⟩
  have HB5 := Lib.hid (HB4.out.trans (hD5.below _))
  clear hD5
  go_wp2
  go_ret
  exact ⟨rfl, HB5.out⟩
end Go.Proofs.Ytkkcphjielkmoaa
