/- The program's order, ages and rates: all that the premises ask. -/
import Derived.Test.YtnmopjefjpifoaaDoorGaugeP
set_option linter.unusedSimpArgs false
set_option maxRecDepth 100000
set_option linter.unusedVariables false
namespace Go.Proofs.YtnmopjefjpifoaaDoor
open Go Go.RowKit
theorem w64_in' (n : Int) (h : n.natAbs < 2 ^ 62) : wrap64 n = n := by unfold wrap64; omega

attribute [local go_sem] conv_IF
attribute [local go_sem] run_float_arith in
theorem rate_any (x y : Int) (w : World) (hx : x.natAbs < 2 ^ 20) (hy : y.natAbs < 2 ^ 20) (h0 : y ≠ 0) : Calls Tryd.prog 10 #[.int .i64 x, .int .i64 y] w fun e w' => ∃ r, absQ x y r ∧ e = .returned (.float .f64 (Ieee.double.word (decide (x < 0) ^^ decide (y < 0)) r)) ∧ Dr w w' := by
  obtain ⟨r, h1, h2⟩ := div_wI x y hx hy h0
  have e1 : floatOfInt .f64 x = wI x := nearest_wI x (by omega)
  have e2 : floatOfInt .f64 y = wI y := nearest_wI y (by omega)
  obtain ⟨q, hqd⟩ : ∃ q, Ieee.double.word (decide (x < 0) ^^ decide (y < 0)) r = q := ⟨_, rfl⟩
  rw [hqd] at h2
  have HQ := Lib.hid hqd
  clear hqd
  generalize wI x = a at *
  generalize wI y = b at *
  have hq : floatBits .quo .f64 a b = some q := h2
  have H1 := Lib.hid h1
  clear h1 h2 hx hy h0
  go_enter Tryd.func10, Tryd.ntmps10
  go_wp2
  go_ret
  exact ⟨r, H1.out, by rw [HQ.out]; rfl, Dr.refl _⟩
/-- A quotient by nought. -/
theorem div_inf (x : Int) (hx : x.natAbs < 2 ^ 20) (h0 : x ≠ 0) : Ieee.double.div (wI x) (wI 0) = some (Ieee.double.word (decide (x < 0)) infR) := by
  have x53 : x.natAbs < 2 ^ 53 := Nat.lt_trans hx (by decide)
  have ex : Ieee.double.read (wI x) = .number (decide (x < 0)) (up52 x.natAbs) ((x.natAbs.log2 : Int) - 52) := by
    unfold wI
    rw [if_neg h0]
    exact read_int _ _ (by omega) x53
  have ey : Ieee.double.read (wI 0) = .number false 0 (-1074) := by decide
  have hm := up52_ne (N := x.natAbs) (by omega) x53
  unfold Ieee.Format.div
  rw [ex, ey]
  unfold Ieee.Datum.quotient
  dsimp only
  rw [if_pos rfl, if_neg hm, Option.map_some]
  cases decide (x < 0) <;> decide
attribute [local go_sem] run_float_arith in
theorem rateInf_any (x : Int) (w : World) (hx : x.natAbs < 2 ^ 20) (h0 : x ≠ 0) : Calls Tryd.prog 10 #[.int .i64 x, .int .i64 0] w fun e w' => e = .returned (.float .f64 (Ieee.double.word (decide (x < 0)) infR)) ∧ Dr w w' := by
  have h2 := div_inf x hx h0
  have e1 : floatOfInt .f64 x = wI x := nearest_wI x (by omega)
  have e2 : floatOfInt .f64 0 = wI 0 := nearest_wI 0 (by decide)
  generalize Ieee.double.word (decide (x < 0)) infR = q at *
  generalize wI x = a at *
  generalize wI 0 = b at *
  have hq : floatBits .quo .f64 a b = some q := h2
  clear h2 hx h0
  go_enter Tryd.func10, Tryd.ntmps10
  go_wp2
  go_ret
  exact ⟨rfl, Dr.refl _⟩
theorem run_nan (P : Program) (t : TypeId) (w : World) : ∃ a, infR < rung a ∧ a < 18446744073709551616 ∧ (binOp .quo t (.float .f64 0) (.float .f64 0)).run P w = .ok (.float .f64 a) w.drew := by
  refine ⟨Question.cut (.nanBits .f64 0 0) (w.tape w.drawn (.nanBits .f64 0 0)), ?_, ?_, ?_⟩
  · generalize w.tape w.drawn (.nanBits .f64 0 0) = t
    have h2 : t % 2 = 0 ∨ t % 2 = 1 := by omega
    show 9218868437227405312 < ((t % 2) * 9223372036854775808 + 9218868437227405312 + 1 + (t / 2) % 4503599627370495) % 9223372036854775808
    rcases h2 with h2 | h2 <;> rw [h2] <;> omega
  · generalize w.tape w.drawn (.nanBits .f64 0 0) = t
    show ((t % 2) * 9223372036854775808 + 9218868437227405312 + 1 + (t / 2) % 4503599627370495) < 18446744073709551616
    omega
  · have e : FloatKind.f64.format.div 0 0 = none := by decide
    simp [binOp, Op.floatArith, e]
    exact fun h => absurd h (by decide)
theorem rateNo_any (w : World) : Calls Tryd.prog 10 #[.int .i64 0, .int .i64 0] w fun e w' => ∃ a, infR < rung a ∧ a < 18446744073709551616 ∧ e = .returned (.float .f64 a) ∧ Dr w w' := by
  obtain ⟨a, h1, h2, h3⟩ := run_nan Tryd.prog 27 w
  have e2 : floatOfInt .f64 0 = 0 := by decide
  have H1 := Lib.hid h1
  have H2 := Lib.hid h2
  clear h1 h2
  go_enter Tryd.func10, Tryd.ntmps10
  go_wp2
  go_ret
  exact ⟨a, H1.out, H2.out, rfl, (Dr.refl _).drew⟩
end Go.Proofs.YtnmopjefjpifoaaDoor
