/- The statement MatrixCauchies, walked. -/
import Derived.Test.YtfilicbbkaifcaaLawMT
import Derived.Test.YtfilicbbkaifcaaOwnV
import Derived.Test.YtfilicbbkaifcaaCutM
set_option linter.unusedSimpArgs false
set_option linter.unusedVariables false
namespace Go.Proofs.Ytfilicbbkaifcaa
open Go Go.RowKit

section
variable (x y : Int) (p q : Option Addr) (R C cap cap' : Nat) (w : World)
set_option maxRecDepth 100000 in
set_option maxHeartbeats 2000000 in
theorem mc_a (h : 8 < R) : Calls Try.prog 5 #[.agg #[.int .i64 x, .int .i64 y], .slice p R cap, .slice q C cap'] w fun e w' => e = .returned (.bool true) ∧ Below w.heap.size w w' := by
  have hd : decide ((8 : Int) < (R : Int)) = true := decide_eq_true (by omega)
  have HB0 := Lib.hid (show Below w.heap.size w (w.alloc (.cells #[.int .i64 x, .int .i64 y] 41)) from (Below.refl _ _).alloc (Nat.le_refl _) _)
  go_enter Try.func5, Try.ntmps5
  go_wp2_with fail
  refine (awakeG w _ HB0.out).mono ?_
  rintro e w1 ⟨rfl, hB1⟩
  have HB1 := Lib.hid hB1
  clear hB1
  go_wp2_with fail
  refine (awakeG w w1 HB1.out).mono ?_
  rintro e w2 ⟨rfl, hB2⟩
  have HB2 := Lib.hid hB2
  clear hB2
  go_wp2
  go_ret
  exact ⟨rfl, HB2.out⟩
set_option maxRecDepth 100000 in
set_option maxHeartbeats 2000000 in
theorem mc_b (h : R ≤ 8) (h2 : 8 < C) : Calls Try.prog 5 #[.agg #[.int .i64 x, .int .i64 y], .slice p R cap, .slice q C cap'] w fun e w' => e = .returned (.bool true) ∧ Below w.heap.size w w' := by
  have hd : decide ((8 : Int) < (R : Int)) = false := decide_eq_false (by omega)
  have hd2 : decide ((8 : Int) < (C : Int)) = true := decide_eq_true (by omega)
  have HB0 := Lib.hid (show Below w.heap.size w (w.alloc (.cells #[.int .i64 x, .int .i64 y] 41)) from (Below.refl _ _).alloc (Nat.le_refl _) _)
  go_enter Try.func5, Try.ntmps5
  go_wp2_with fail
  refine (awakeG w _ HB0.out).mono ?_
  rintro e w1 ⟨rfl, hB1⟩
  have HB1 := Lib.hid hB1
  clear hB1
  go_wp2_with fail
  refine (awakeG w w1 HB1.out).mono ?_
  rintro e w2 ⟨rfl, hB2⟩
  have HB2 := Lib.hid hB2
  clear hB2
  go_wp2
  go_ret
  exact ⟨rfl, HB2.out⟩
theorem cauchy_no (w : World) (h : permB x = false ∨ permB y = false) : Calls Try.prog 22 #[.int .i64 x, .int .i64 y] w (RetNo w.heap.size w 1) := by
  cases hx : permB x with
  | false => exact cauchy_no1 x _ w hx
  | true => exact cauchy_no2 x y w hx (by rcases h with h | h; rw [hx] at h; cases h; exact h)
set_option maxRecDepth 100000 in
set_option maxHeartbeats 8000000 in
theorem mc_c (h : R ≤ 8) (h2 : C ≤ 8) (hxy : x < 1 ∨ 64 < x ∨ y < 1 ∨ 64 < y) : Calls Try.prog 5 #[.agg #[.int .i64 x, .int .i64 y], .slice p R cap, .slice q C cap'] w fun e w' => e = .returned (.bool true) ∧ Below w.heap.size w w' := by
  have hd : decide ((8 : Int) < (R : Int)) = false := decide_eq_false (by omega)
  have hd2 : decide ((8 : Int) < (C : Int)) = false := decide_eq_false (by omega)
  have hB0 : Below w.heap.size w (w.alloc (.cells #[.int .i64 x, .int .i64 y] 41)) := (Below.refl _ _).alloc (Nat.le_refl _) _
  have hc0 : (w.alloc (.cells #[.int .i64 x, .int .i64 y] 41)).cell? ⟨w.heap.size, 0, none⟩ = some (.int .i64 x) := by rw [World.cell?_alloc_new]; rfl
  have hc1 : (w.alloc (.cells #[.int .i64 x, .int .i64 y] 41)).cell? ⟨w.heap.size, 1, none⟩ = some (.int .i64 y) := by rw [World.cell?_alloc_new]; rfl
  have hs0 : w.heap.size < (w.alloc (.cells #[.int .i64 x, .int .i64 y] 41)).heap.size := by rw [World.size_alloc]; omega
  have HU := Lib.hid (fun w => cauchy_no x y w (by
    rcases hxy with h | h | h | h
    · exact .inl (decide_eq_false (by omega))
    · exact .inl (decide_eq_false (by omega))
    · exact .inr (decide_eq_false (by omega))
    · exact .inr (decide_eq_false (by omega))))
  have HB0 := Lib.hid hB0
  have HC0 := Lib.hid hc0
  have HC1 := Lib.hid hc1
  clear hB0 hc0 hc1
  by_cases t1 : x < 1
  · have e1 : decide (x < 1) = true := decide_eq_true t1
    clear hxy t1
    go_enter Try.func5, Try.ntmps5
    go_wp2_with fail
    refine (awakeG _ _ (Below.refl _ _)).mono ?_
    rintro e w1 ⟨rfl, hB1⟩
    have hx0 : w1.cell? ⟨w.heap.size, 0, none⟩ = some (.int .i64 x) := by rw [hB1.cell (by exact hs0)]; exact HC0.out
    have hx1 : w1.cell? ⟨w.heap.size, 1, none⟩ = some (.int .i64 y) := by rw [hB1.cell (by exact hs0)]; exact HC1.out
    have HB1 := Lib.hid (bel_step HB0.out hB1)
    clear hB1
    go_wp2
    go_quiet (fail)
    go_wp2_with fail
    refine (HU.out _).mono ?_
    rintro e w2 ⟨rfl, hB2⟩
    have HB2 := Lib.hid (bel_step (bel_dr HB1.out ((Dr.refl _).drewN _)) hB2)
    clear hB2
    go_wp2
    go_ret
    exact ⟨rfl, HB2.out⟩
  have e1 : decide (x < 1) = false := decide_eq_false t1
  by_cases t2 : 64 < x
  · have e2 : decide ((64 : Int) < x) = true := decide_eq_true t2
    clear hxy t1 t2
    go_enter Try.func5, Try.ntmps5
    go_wp2_with fail
    refine (awakeG _ _ (Below.refl _ _)).mono ?_
    rintro e w1 ⟨rfl, hB1⟩
    have hx0 : w1.cell? ⟨w.heap.size, 0, none⟩ = some (.int .i64 x) := by rw [hB1.cell (by exact hs0)]; exact HC0.out
    have hx1 : w1.cell? ⟨w.heap.size, 1, none⟩ = some (.int .i64 y) := by rw [hB1.cell (by exact hs0)]; exact HC1.out
    have HB1 := Lib.hid (bel_step HB0.out hB1)
    clear hB1
    go_wp2
    go_quiet (fail)
    go_wp2_with fail
    refine (HU.out _).mono ?_
    rintro e w2 ⟨rfl, hB2⟩
    have HB2 := Lib.hid (bel_step (bel_dr HB1.out ((Dr.refl _).drewN _)) hB2)
    clear hB2
    go_wp2
    go_ret
    exact ⟨rfl, HB2.out⟩
  have e2 : decide ((64 : Int) < x) = false := decide_eq_false t2
  by_cases t3 : y < 1
  · have e3 : decide (y < 1) = true := decide_eq_true t3
    clear hxy t1 t2 t3
    go_enter Try.func5, Try.ntmps5
    go_wp2_with fail
    refine (awakeG _ _ (Below.refl _ _)).mono ?_
    rintro e w1 ⟨rfl, hB1⟩
    have hx0 : w1.cell? ⟨w.heap.size, 0, none⟩ = some (.int .i64 x) := by rw [hB1.cell (by exact hs0)]; exact HC0.out
    have hx1 : w1.cell? ⟨w.heap.size, 1, none⟩ = some (.int .i64 y) := by rw [hB1.cell (by exact hs0)]; exact HC1.out
    have HB1 := Lib.hid (bel_step HB0.out hB1)
    clear hB1
    go_wp2
    go_quiet (fail)
    go_wp2_with fail
    refine (HU.out _).mono ?_
    rintro e w2 ⟨rfl, hB2⟩
    have HB2 := Lib.hid (bel_step (bel_dr HB1.out ((Dr.refl _).drewN _)) hB2)
    clear hB2
    go_wp2
    go_ret
    exact ⟨rfl, HB2.out⟩
  have e3 : decide (y < 1) = false := decide_eq_false t3
  · have e4 : decide ((64 : Int) < y) = true := decide_eq_true (by omega)
    clear hxy t1 t2 t3
    go_enter Try.func5, Try.ntmps5
    go_wp2_with fail
    refine (awakeG _ _ (Below.refl _ _)).mono ?_
    rintro e w1 ⟨rfl, hB1⟩
    have hx0 : w1.cell? ⟨w.heap.size, 0, none⟩ = some (.int .i64 x) := by rw [hB1.cell (by exact hs0)]; exact HC0.out
    have hx1 : w1.cell? ⟨w.heap.size, 1, none⟩ = some (.int .i64 y) := by rw [hB1.cell (by exact hs0)]; exact HC1.out
    have HB1 := Lib.hid (bel_step HB0.out hB1)
    clear hB1
    go_wp2
    go_quiet (fail)
    go_wp2_with fail
    refine (HU.out _).mono ?_
    rintro e w2 ⟨rfl, hB2⟩
    have HB2 := Lib.hid (bel_step (bel_dr HB1.out ((Dr.refl _).drewN _)) hB2)
    clear hB2
    go_wp2
    go_ret
    exact ⟨rfl, HB2.out⟩
end
end Go.Proofs.Ytfilicbbkaifcaa
