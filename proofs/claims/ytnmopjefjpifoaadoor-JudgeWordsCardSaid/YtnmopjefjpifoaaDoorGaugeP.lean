/- The program's measures: classes and order. -/
import Derived.Test.YtnmopjefjpifoaaDoorFltK
import Derived.Test.YtnmopjefjpifoaaDoorGaugeR
import Derived.Deep.QuietTactic
import Derived.BigQuiet
set_option linter.unusedSimpArgs false
set_option maxRecDepth 100000
set_option linter.unusedVariables false
namespace Go.Proofs.YtnmopjefjpifoaaDoor
open Go Go.RowKit

theorem neg_f (a : Nat) (ha : a < 18446744073709551616) : Go.Op.unary .neg (.float .f64 a) = pure (.float .f64 (flipS a)) := by
  show pure (Value.float .f64 (a ^^^ 9223372036854775808)) = _
  rw [xor_top a ha]
theorem flip_lt (a : Nat) (ha : a < 18446744073709551616) : flipS a < 18446744073709551616 := by unfold flipS; split <;> omega
theorem flip_cls (a : Nat) (ha : a < 18446744073709551616) : decide (clsB (flipS a) = 5) = decide (clsB a = 0) := by
  rw [decide_eq_decide]
  have hI : infR = 9218868437227405312 := rfl
  have h1 := rung_le a ha
  have e : rung (flipS a) = rung a := by unfold flipS rung; split <;> omega
  have hs : (flipS a < 9223372036854775808) ↔ ¬ a < 9223372036854775808 := by unfold flipS; split <;> omega
  unfold clsB
  rw [e]
  generalize flipS a = b at *
  repeat' split
  all_goals omega
theorem run_frombits1 (w : World) : (callFunc 16 #[.int .u64 9221120237041090561]).run Tryd.prog w = .ok (.value (.float .f64 9221120237041090561)) w := by kernel_rfl
theorem run_frombits2 (w : World) : (callFunc 16 #[.int .u64 9218868437227405312]).run Tryd.prog w = .ok (.value (.float .f64 9218868437227405312)) w := by kernel_rfl
attribute [local go_sem] run_frombits1 run_frombits2 fl_eql fl_neq fl_lss fl_gtr run_frombits run_bits

abbrev od (a b : Nat) : Option Ordering := FloatKind.f64.format.order a b
set_option maxHeartbeats 1000000 in
theorem isInf_up (a : Nat) (ha : a < 18446744073709551616) (w : World) : Calls Tryd.prog 12 #[.float .f64 a, .int .i64 1] w fun e w' => e = .returned (.bool (decide (clsB a = 5))) ∧ w = w' := by
  have h1 : (FloatKind.f64.format.order a 9218868437227405311 == some .gt) = decide (clsB a = 5) := order_top a ha
  generalize decide (clsB a = 5) = d at *
  clear ha
  go_enter Tryd.func12, Tryd.ntmps12
  go_wp2
  go_ret
  exact ⟨rfl, rfl⟩
theorem isInf_down (a : Nat) (ha : a < 18446744073709551616) (w : World) : Calls Tryd.prog 12 #[.float .f64 a, .int .i64 (-1)] w fun e w' => e = .returned (.bool (decide (clsB a = 0))) ∧ w = w' := by
  have h1 : (FloatKind.f64.format.order (flipS a) 9218868437227405311 == some .gt) = decide (clsB (flipS a) = 5) := order_top (flipS a) (flip_lt a ha)
  rw [flip_cls a ha] at h1
  generalize decide (clsB a = 0) = d at *
  have h2 := neg_f a ha
  clear ha
  go_enter Tryd.func12, Tryd.ntmps12
  go_wp2
  go_ret
  exact ⟨rfl, rfl⟩
set_option maxHeartbeats 1000000 in
theorem signbit_any (a : Nat) (ha : a < 18446744073709551616) (w : World) : Calls Tryd.prog 13 #[.float .f64 a] w fun e w' => e = .returned (.bool (decide (9223372036854775808 ≤ a))) ∧ w = w' := by
  have h1 : decide (wrap64 (a : Int) < 0) = decide (9223372036854775808 ≤ a) := by
    rw [decide_eq_decide]; unfold wrap64; omega
  generalize decide (9223372036854775808 ≤ a) = d at *
  clear ha
  go_enter Tryd.func13, Tryd.ntmps13
  go_wp2
  go_ret
  exact ⟨by first | rfl | (rw [h1]), rfl⟩
/-- What a comparison of two measures tells. -/
def ordM (a b : Nat) : Int := if rk a < rk b then -1 else if rk b < rk a then 1 else 0
theorem ordM_lt (a b : Nat) : decide (ordM a b < 0) = decide (rk a < rk b) := by
  rw [decide_eq_decide]; unfold ordM; split
  · omega
  · split <;> omega
set_option maxHeartbeats 1000000 in
theorem class_any (a : Nat) (ha : a < 18446744073709551616) (w : World) : Calls Tryd.prog 9 #[.float .f64 a] w fun e w' => e = .returned (.int .i64 ((clsB a : Nat) : Int)) ∧ Dr w w' := by
  have HU := Lib.hid (isInf_up a ha)
  have HD := Lib.hid (isInf_down a ha)
  have HG := Lib.hid (signbit_any a ha)
  have hz := order_zero a ha
  have z1 : (FloatKind.f64.format.order a 0 == some .lt) = decide (clsB a ≤ 1) := hz.1
  have z2 : (FloatKind.f64.format.order a 0 == some .eq) = decide (clsB a = 2 ∨ clsB a = 3) := hz.2.1
  have z3 : (FloatKind.f64.format.order a 0 == some .gt) = decide (clsB a = 4 ∨ clsB a = 5) := hz.2.2
  clear hz
  have hc := cls_cases a ha
  have h2 : clsB a = 2 → decide (9223372036854775808 ≤ a) = true := fun e => decide_eq_true (by omega)
  have h3 : clsB a = 3 → decide (9223372036854775808 ≤ a) = false := fun e => decide_eq_false (by omega)
  have hc : clsB a = 0 ∨ clsB a = 1 ∨ clsB a = 2 ∨ clsB a = 3 ∨ clsB a = 4 ∨ clsB a = 5 ∨ clsB a = 6 := by omega
  generalize clsB a = c at *
  generalize decide (9223372036854775808 ≤ a) = s at *
  clear ha
  rcases hc with rfl | rfl | rfl | rfl | rfl | rfl | rfl
  · have HD0 := Lib.hid (show ∀ w : World, Calls Tryd.prog 12 #[.float .f64 a, .int .i64 (-1)] w fun e w' => e = .returned (.bool true) ∧ w = w' from fun w => HD.out w)
    have HU0 := Lib.hid (show ∀ w : World, Calls Tryd.prog 12 #[.float .f64 a, .int .i64 1] w fun e w' => e = .returned (.bool false) ∧ w = w' from fun w => HU.out w)
    have y1 : (FloatKind.f64.format.order a 0 == some .lt) = true := by rw [z1]; decide
    have y2 : (FloatKind.f64.format.order a 0 == some .eq) = false := by rw [z2]; decide
    have y3 : (FloatKind.f64.format.order a 0 == some .gt) = false := by rw [z3]; decide
    clear h2 h3 HU HD z1 z2 z3
    go_enter Tryd.func9, Tryd.ntmps9
    go_wp2_with fail
    refine (HD0.out w).mono ?_
    rintro e w' ⟨rfl, rfl⟩
    go_wp2
    go_ret
    exact ⟨rfl, Dr.refl _⟩
  · have HD0 := Lib.hid (show ∀ w : World, Calls Tryd.prog 12 #[.float .f64 a, .int .i64 (-1)] w fun e w' => e = .returned (.bool false) ∧ w = w' from fun w => HD.out w)
    have HU0 := Lib.hid (show ∀ w : World, Calls Tryd.prog 12 #[.float .f64 a, .int .i64 1] w fun e w' => e = .returned (.bool false) ∧ w = w' from fun w => HU.out w)
    have y1 : (FloatKind.f64.format.order a 0 == some .lt) = true := by rw [z1]; decide
    have y2 : (FloatKind.f64.format.order a 0 == some .eq) = false := by rw [z2]; decide
    have y3 : (FloatKind.f64.format.order a 0 == some .gt) = false := by rw [z3]; decide
    clear h2 h3 HU HD z1 z2 z3
    go_enter Tryd.func9, Tryd.ntmps9
    go_wp2_with fail
    refine (HD0.out w).mono ?_
    rintro e w' ⟨rfl, rfl⟩
    go_wp2
    go_ret
    exact ⟨rfl, Dr.refl _⟩
  · have HD0 := Lib.hid (show ∀ w : World, Calls Tryd.prog 12 #[.float .f64 a, .int .i64 (-1)] w fun e w' => e = .returned (.bool false) ∧ w = w' from fun w => HD.out w)
    have HU0 := Lib.hid (show ∀ w : World, Calls Tryd.prog 12 #[.float .f64 a, .int .i64 1] w fun e w' => e = .returned (.bool false) ∧ w = w' from fun w => HU.out w)
    have y1 : (FloatKind.f64.format.order a 0 == some .lt) = false := by rw [z1]; decide
    have y2 : (FloatKind.f64.format.order a 0 == some .eq) = true := by rw [z2]; decide
    have y3 : (FloatKind.f64.format.order a 0 == some .gt) = false := by rw [z3]; decide
    have hs := h2 rfl
    subst hs
    clear h2 h3 HU HD z1 z2 z3
    go_enter Tryd.func9, Tryd.ntmps9
    go_wp2_with fail
    refine (HD0.out w).mono ?_
    rintro e w' ⟨rfl, rfl⟩
    go_wp2_with fail
    refine (HG.out w).mono ?_
    rintro e w' ⟨rfl, rfl⟩
    go_wp2
    go_ret
    exact ⟨rfl, Dr.refl _⟩
  · have HD0 := Lib.hid (show ∀ w : World, Calls Tryd.prog 12 #[.float .f64 a, .int .i64 (-1)] w fun e w' => e = .returned (.bool false) ∧ w = w' from fun w => HD.out w)
    have HU0 := Lib.hid (show ∀ w : World, Calls Tryd.prog 12 #[.float .f64 a, .int .i64 1] w fun e w' => e = .returned (.bool false) ∧ w = w' from fun w => HU.out w)
    have y1 : (FloatKind.f64.format.order a 0 == some .lt) = false := by rw [z1]; decide
    have y2 : (FloatKind.f64.format.order a 0 == some .eq) = true := by rw [z2]; decide
    have y3 : (FloatKind.f64.format.order a 0 == some .gt) = false := by rw [z3]; decide
    have hs := h3 rfl
    subst hs
    clear h2 h3 HU HD z1 z2 z3
    go_enter Tryd.func9, Tryd.ntmps9
    go_wp2_with fail
    refine (HD0.out w).mono ?_
    rintro e w' ⟨rfl, rfl⟩
    go_wp2_with fail
    refine (HG.out w).mono ?_
    rintro e w' ⟨rfl, rfl⟩
    go_wp2
    go_ret
    exact ⟨rfl, Dr.refl _⟩
  · have HD0 := Lib.hid (show ∀ w : World, Calls Tryd.prog 12 #[.float .f64 a, .int .i64 (-1)] w fun e w' => e = .returned (.bool false) ∧ w = w' from fun w => HD.out w)
    have HU0 := Lib.hid (show ∀ w : World, Calls Tryd.prog 12 #[.float .f64 a, .int .i64 1] w fun e w' => e = .returned (.bool false) ∧ w = w' from fun w => HU.out w)
    have y1 : (FloatKind.f64.format.order a 0 == some .lt) = false := by rw [z1]; decide
    have y2 : (FloatKind.f64.format.order a 0 == some .eq) = false := by rw [z2]; decide
    have y3 : (FloatKind.f64.format.order a 0 == some .gt) = true := by rw [z3]; decide
    clear h2 h3 HU HD z1 z2 z3
    go_enter Tryd.func9, Tryd.ntmps9
    go_wp2_with fail
    refine (HD0.out w).mono ?_
    rintro e w' ⟨rfl, rfl⟩
    go_wp2_with fail
    refine (HU0.out w).mono ?_
    rintro e w' ⟨rfl, rfl⟩
    go_wp2
    go_ret
    exact ⟨rfl, Dr.refl _⟩
  · have HD0 := Lib.hid (show ∀ w : World, Calls Tryd.prog 12 #[.float .f64 a, .int .i64 (-1)] w fun e w' => e = .returned (.bool false) ∧ w = w' from fun w => HD.out w)
    have HU0 := Lib.hid (show ∀ w : World, Calls Tryd.prog 12 #[.float .f64 a, .int .i64 1] w fun e w' => e = .returned (.bool true) ∧ w = w' from fun w => HU.out w)
    have y1 : (FloatKind.f64.format.order a 0 == some .lt) = false := by rw [z1]; decide
    have y2 : (FloatKind.f64.format.order a 0 == some .eq) = false := by rw [z2]; decide
    have y3 : (FloatKind.f64.format.order a 0 == some .gt) = true := by rw [z3]; decide
    clear h2 h3 HU HD z1 z2 z3
    go_enter Tryd.func9, Tryd.ntmps9
    go_wp2_with fail
    refine (HD0.out w).mono ?_
    rintro e w' ⟨rfl, rfl⟩
    go_wp2_with fail
    refine (HU0.out w).mono ?_
    rintro e w' ⟨rfl, rfl⟩
    go_wp2
    go_ret
    exact ⟨rfl, Dr.refl _⟩
  · have HD0 := Lib.hid (show ∀ w : World, Calls Tryd.prog 12 #[.float .f64 a, .int .i64 (-1)] w fun e w' => e = .returned (.bool false) ∧ w = w' from fun w => HD.out w)
    have HU0 := Lib.hid (show ∀ w : World, Calls Tryd.prog 12 #[.float .f64 a, .int .i64 1] w fun e w' => e = .returned (.bool false) ∧ w = w' from fun w => HU.out w)
    have y1 : (FloatKind.f64.format.order a 0 == some .lt) = false := by rw [z1]; decide
    have y2 : (FloatKind.f64.format.order a 0 == some .eq) = false := by rw [z2]; decide
    have y3 : (FloatKind.f64.format.order a 0 == some .gt) = false := by rw [z3]; decide
    clear h2 h3 HU HD z1 z2 z3
    go_enter Tryd.func9, Tryd.ntmps9
    go_wp2_with fail
    refine (HD0.out w).mono ?_
    rintro e w' ⟨rfl, rfl⟩
    go_wp2_with fail
    refine (HU0.out w).mono ?_
    rintro e w' ⟨rfl, rfl⟩
    go_wp2
    go_ret
    exact ⟨rfl, Dr.refl _⟩
/-- Within one class. -/
theorem cmp_same (a b : Nat) (ha : a < 18446744073709551616) (hb : b < 18446744073709551616) (h : clsB a = clsB b) :
    (clsB a = 6 ∧ ordM a b = 0) ∨ (clsB a ≠ 6 ∧ clsB b ≠ 6 ∧ (FloatKind.f64.format.order a b == some .lt) = decide (rk a < rk b) ∧ (FloatKind.f64.format.order a b == some .gt) = decide (rk b < rk a)) := by
  have hI : infR = 9218868437227405312 := rfl
  by_cases h6 : clsB a = 6
  · left
    refine ⟨h6, ?_⟩
    have r1 : rk a = 9218868437227405313 := by
      unfold rk
      rcases cls_cases a ha with g | g | g | g | g | g | g <;> first | omega | exact if_pos g.2
    have r2 : rk b = 9218868437227405313 := by
      unfold rk
      rcases cls_cases b hb with g | g | g | g | g | g | g <;> first | omega | exact if_pos g.2
    unfold ordM
    rw [r1, r2]; rfl
  · right
    have ha6 : ¬ infR < rung a := fun g => h6 (cls_nan a g)
    have hb6 : ¬ infR < rung b := fun g => h6 (h.trans (cls_nan b g))
    have ho : FloatKind.f64.format.order a b = some (compare (key a) (key b)) := (order_key a b ha hb).trans (if_neg (by omega))
    refine ⟨h6, by omega, ?_, ?_⟩
    · rw [ho, cmp_lt, decide_eq_decide]
      have := cls_cases a ha
      have := cls_cases b hb
      have := rung_le a ha
      have := rung_le b hb
      unfold key rk
      rw [if_neg ha6, if_neg hb6]
      split <;> split <;> omega
    · have e : (some (compare (key a) (key b)) == some Ordering.gt) = decide (key b < key a) := by
        simp only [compare, compareOfLessAndEq]
        by_cases g : key a < key b
        · rw [if_pos g, decide_eq_false (by omega)]; rfl
        · rw [if_neg g]
          by_cases g2 : key a = key b
          · rw [if_pos g2, decide_eq_false (by omega)]; rfl
          · rw [if_neg g2, decide_eq_true (by omega)]; rfl
      rw [ho, e, decide_eq_decide]
      have := cls_cases a ha
      have := cls_cases b hb
      have := rung_le a ha
      have := rung_le b hb
      unfold key rk
      rw [if_neg ha6, if_neg hb6]
      split <;> split <;> omega
theorem cmp_apart (a b : Nat) (ha : a < 18446744073709551616) (hb : b < 18446744073709551616) (h : clsB a ≠ clsB b) : ordM a b = if (clsB a : Int) < (clsB b : Int) then -1 else if (clsB b : Int) < (clsB a : Int) then 1 else 0 := by
  have h1 := lessM_rk a b ha hb
  have h2 := lessM_rk b a hb ha
  unfold lessM at h1 h2
  rw [decide_eq_decide] at h1 h2
  unfold ordM
  split
  · rw [if_pos (by omega)]
  · split
    · rw [if_neg (by omega), if_pos (by omega)]
    · rw [if_neg (by omega), if_neg (by omega)]
end Go.Proofs.YtnmopjefjpifoaaDoor
