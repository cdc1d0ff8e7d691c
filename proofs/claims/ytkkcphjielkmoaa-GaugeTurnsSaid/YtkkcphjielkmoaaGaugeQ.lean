/- The program's order, ages and rates: all that the premises ask. -/
import Derived.Test.YtkkcphjielkmoaaGaugeP
set_option linter.unusedSimpArgs false
set_option linter.unusedVariables false
namespace Go.Proofs.Ytkkcphjielkmoaa
open Go Go.RowKit
theorem w64_in' (n : Int) (h : n.natAbs < 2 ^ 62) : wrap64 n = n := by unfold wrap64; omega

set_option maxHeartbeats 1000000 in
theorem order_any (a b : Nat) (ha : a < 18446744073709551616) (hb : b < 18446744073709551616) (w : World) : Calls Try.prog 22 #[.float .f64 a, .float .f64 b] w fun e w' => e = .returned (.int .i64 (ordM a b)) ∧ Dr w w' := by
  have HA := Lib.hid (class_any a ha)
  have HB := Lib.hid (class_any b hb)
  have HI := Lib.hid (cmpI_any (clsB a) (clsB b))
  by_cases hc : clsB a = clsB b
  · have HF := Lib.hid (cmpF_any a b ha hb hc)
    rw [if_neg (by omega), if_neg (by omega)] at HI
    clear ha hb hc
    generalize clsB a = c at *
    generalize clsB b = d at *
    go_enter Try.func22, Try.ntmps22
    go_wp2_with fail
    refine (HA.out w).mono ?_
    rintro e w1 ⟨rfl, h1⟩
    have H1 := Lib.hid h1
    clear h1
    go_wp2_with fail
    refine (HB.out w1).mono ?_
    rintro e w2 ⟨rfl, h2⟩
    have H2 := Lib.hid (H1.out.trans h2)
    clear h2
    go_wp2_with fail
    refine (HI.out w2).mono ?_
    rintro e w3 ⟨rfl, h3⟩
    have H3 := Lib.hid (H2.out.trans h3)
    clear h3
    go_wp2_with fail
    refine (HF.out w3).mono ?_
    rintro e w4 ⟨rfl, h4⟩
    have H4 := Lib.hid (H3.out.trans h4)
    clear h4
    go_wp2
    go_ret
    exact ⟨rfl, H4.out⟩
  · rw [← cmp_apart a b ha hb hc] at HI
    have hn : (ordM a b != 0) = true := by
      have h := cmp_apart a b ha hb hc
      rw [h]
      split
      · rfl
      · split
        · rfl
        · omega
    clear ha hb hc
    generalize clsB a = c at *
    generalize clsB b = d at *
    go_enter Try.func22, Try.ntmps22
    go_wp2_with fail
    refine (HA.out w).mono ?_
    rintro e w1 ⟨rfl, h1⟩
    have H1 := Lib.hid h1
    clear h1
    go_wp2_with fail
    refine (HB.out w1).mono ?_
    rintro e w2 ⟨rfl, h2⟩
    have H2 := Lib.hid (H1.out.trans h2)
    clear h2
    go_wp2_with fail
    refine (HI.out w2).mono ?_
    rintro e w3 ⟨rfl, h3⟩
    have H3 := Lib.hid (H2.out.trans h3)
    clear h3
    go_wp2
    go_ret
    exact ⟨rfl, H3.out⟩
theorem less_any (a b : Nat) (w : World) (ha : a < 18446744073709551616) (hb : b < 18446744073709551616) : Calls Try.prog 11 #[.float .f64 a, .float .f64 b] w fun e w' => e = .returned (.bool (lessM a b)) ∧ Dr w w' := by
  have HO := Lib.hid (order_any a b ha hb)
  rw [lessM_rk a b ha hb, ← ordM_lt]
  clear ha hb
  generalize ordM a b = o at *
  go_enter Try.func11, Try.ntmps11
  go_wp2_with fail
  refine (HO.out w).mono ?_
  rintro e w1 ⟨rfl, h1⟩
  have H1 := Lib.hid h1
  clear h1
  go_wp2
  go_ret
  exact ⟨rfl, H1.out⟩
theorem never_any (x y : Int) (w : World) (hx : x < 0) : Calls Try.prog 19 #[.int .i64 x, .int .i64 y] w fun e w' => e = .returned (.float .f64 infR) ∧ Dr w w' := by
  have d1 : decide (x < 0) = true := decide_eq_true hx
  go_enter Try.func19, Try.ntmps19
  go_wp2_with fail
  refine (inf_up w).mono ?_
  rintro e w1 ⟨rfl, rfl⟩
  go_wp2
  go_ret
  exact ⟨rfl, Dr.refl _⟩
attribute [local go_sem] conv_IF
theorem since_any (x y : Int) (w : World) (hx : 0 ≤ x) (h : (y - x).natAbs < 2 ^ 53) : Calls Try.prog 19 #[.int .i64 x, .int .i64 y] w fun e w' => e = .returned (.float .f64 (wI (y - x))) ∧ Dr w w' := by
  have d1 : decide (x < 0) = false := decide_eq_false (by omega)
  have hn : floatOfInt .f64 (wrap64 (y - x)) = wI (y - x) := by rw [w64_in' _ (by omega)]; exact nearest_wI (y - x) h
  generalize wI (y - x) = d at *
  clear hx h
  go_enter Try.func19, Try.ntmps19
  go_wp2
  go_ret
  exact ⟨rfl, Dr.refl _⟩
attribute [local go_sem] run_float_arith in
theorem rate_any (x y : Int) (w : World) (hx : x.natAbs < 2 ^ 20) (hy : y.natAbs < 2 ^ 20) (h0 : y ≠ 0) : Calls Try.prog 18 #[.int .i64 x, .int .i64 y] w fun e w' => ∃ r, absQ x y r ∧ e = .returned (.float .f64 (Ieee.double.word (decide (x < 0) ^^ decide (y < 0)) r)) ∧ Dr w w' := by
  obtain ⟨r, h1, h2⟩ := div_wI x y hx hy h0
  have e1 : floatOfInt .f64 x = wI x := nearest_wI x (by omega)
  have e2 : floatOfInt .f64 y = wI y := nearest_wI y (by omega)
  obtain ⟨q, hqd⟩ : ∃ q, Ieee.double.word (decide (x < 0) ^^ decide (y < 0)) r = q := ⟨_, rfl⟩
  rw [hqd] at h2
  have HQ := Lib.hid hqd
  clear hqd
  generalize wI x = a at *
  generalize wI y = b at *
  have hq : floatBits .quo .f64 a b = some q := h2
  have H1 := Lib.hid h1
  clear h1 h2 hx hy h0
  go_enter Try.func18, Try.ntmps18
  go_wp2
  go_ret
  exact ⟨r, H1.out, by rw [HQ.out]; rfl, Dr.refl _⟩
/-- A quotient by nought. -/
theorem div_inf (x : Int) (hx : x.natAbs < 2 ^ 20) (h0 : x ≠ 0) : Ieee.double.div (wI x) (wI 0) = some (Ieee.double.word (decide (x < 0)) infR) := by
  have x53 : x.natAbs < 2 ^ 53 := Nat.lt_trans hx (by decide)
  have ex : Ieee.double.read (wI x) = .number (decide (x < 0)) (up52 x.natAbs) ((x.natAbs.log2 : Int) - 52) := by
    unfold wI
    rw [if_neg h0]
    exact read_int _ _ (by omega) x53
  have ey : Ieee.double.read (wI 0) = .number false 0 (-1074) := by decide
  have hm := up52_ne (N := x.natAbs) (by omega) x53
  unfold Ieee.Format.div
  rw [ex, ey]
  unfold Ieee.Datum.quotient
  dsimp only
  rw [if_pos rfl, if_neg hm, Option.map_some]
  cases decide (x < 0) <;> decide
attribute [local go_sem] run_float_arith in
theorem rateInf_any (x : Int) (w : World) (hx : x.natAbs < 2 ^ 20) (h0 : x ≠ 0) : Calls Try.prog 18 #[.int .i64 x, .int .i64 0] w fun e w' => e = .returned (.float .f64 (Ieee.double.word (decide (x < 0)) infR)) ∧ Dr w w' := by
  have h2 := div_inf x hx h0
  have e1 : floatOfInt .f64 x = wI x := nearest_wI x (by omega)
  have e2 : floatOfInt .f64 0 = wI 0 := nearest_wI 0 (by decide)
  generalize Ieee.double.word (decide (x < 0)) infR = q at *
  generalize wI x = a at *
  generalize wI 0 = b at *
  have hq : floatBits .quo .f64 a b = some q := h2
  clear h2 hx h0
  go_enter Try.func18, Try.ntmps18
  go_wp2
  go_ret
  exact ⟨rfl, Dr.refl _⟩
theorem run_nan (P : Program) (t : TypeId) (w : World) : ∃ a, infR < rung a ∧ a < 18446744073709551616 ∧ (binOp .quo t (.float .f64 0) (.float .f64 0)).run P w = .ok (.float .f64 a) w.drew := by
  refine ⟨Question.cut (.nanBits .f64 0 0) (w.tape w.drawn (.nanBits .f64 0 0)), ?_, ?_, ?_⟩
  · generalize w.tape w.drawn (.nanBits .f64 0 0) = t
    have h2 : t % 2 = 0 ∨ t % 2 = 1 := by omega
    show 9218868437227405312 < ((t % 2) * 9223372036854775808 + 9218868437227405312 + 1 + (t / 2) % 4503599627370495) % 9223372036854775808
    rcases h2 with h2 | h2 <;> rw [h2] <;> omega
  · generalize w.tape w.drawn (.nanBits .f64 0 0) = t
    show ((t % 2) * 9223372036854775808 + 9218868437227405312 + 1 + (t / 2) % 4503599627370495) < 18446744073709551616
    omega
  · have e : FloatKind.f64.format.div 0 0 = none := by decide
    simp [binOp, Op.floatArith, e]
    exact fun h => absurd h (by decide)
theorem rateNo_any (w : World) : Calls Try.prog 18 #[.int .i64 0, .int .i64 0] w fun e w' => ∃ a, infR < rung a ∧ a < 18446744073709551616 ∧ e = .returned (.float .f64 a) ∧ Dr w w' := by
  obtain ⟨a, h1, h2, h3⟩ := run_nan Try.prog 24 w
  have e2 : floatOfInt .f64 0 = 0 := by decide
  have H1 := Lib.hid h1
  have H2 := Lib.hid h2
  clear h1 h2
  go_enter Try.func18, Try.ntmps18
  go_wp2
  go_ret
  exact ⟨a, H1.out, H2.out, rfl, (Dr.refl _).drew⟩
/-- All that the premises ask. -/
theorem gaugeP : GaugeSpec where
  cls := fun a w ha => class_any a ha w
  less := fun a b w ha hb => less_any a b w ha hb
  never := never_any
  since := since_any
  rate := rate_any
  rateInf := rateInf_any
  rateNo := rateNo_any
end Go.Proofs.Ytkkcphjielkmoaa
