/- The statement JudgeWords, walked: each kind by itself. -/
import Derived.Test.YtnmopjefjpifoaaDoorHlh13
import Derived.LoopN
set_option linter.unusedSimpArgs false
set_option maxRecDepth 100000
set_option linter.unusedVariables false
namespace Go.Proofs.YtnmopjefjpifoaaDoor
open Go Go.RowKit

theorem ix9U0 (v0 v1 v2 v3 v4 v5 v6 v7 v8 : Value) (w : World) : (Instr.index 23 (.agg #[v0, v1, v2, v3, v4, v5, v6, v7, v8]) (.int .i64 0)).run Tryd.prog w = .ok v0 w := by kernel_rfl
theorem ix9U1 (v0 v1 v2 v3 v4 v5 v6 v7 v8 : Value) (w : World) : (Instr.index 23 (.agg #[v0, v1, v2, v3, v4, v5, v6, v7, v8]) (.int .i64 1)).run Tryd.prog w = .ok v1 w := by kernel_rfl
theorem ix9U2 (v0 v1 v2 v3 v4 v5 v6 v7 v8 : Value) (w : World) : (Instr.index 23 (.agg #[v0, v1, v2, v3, v4, v5, v6, v7, v8]) (.int .i64 2)).run Tryd.prog w = .ok v2 w := by kernel_rfl
theorem ix9U3 (v0 v1 v2 v3 v4 v5 v6 v7 v8 : Value) (w : World) : (Instr.index 23 (.agg #[v0, v1, v2, v3, v4, v5, v6, v7, v8]) (.int .i64 3)).run Tryd.prog w = .ok v3 w := by kernel_rfl
theorem ix9U4 (v0 v1 v2 v3 v4 v5 v6 v7 v8 : Value) (w : World) : (Instr.index 23 (.agg #[v0, v1, v2, v3, v4, v5, v6, v7, v8]) (.int .i64 4)).run Tryd.prog w = .ok v4 w := by kernel_rfl
theorem ix9U5 (v0 v1 v2 v3 v4 v5 v6 v7 v8 : Value) (w : World) : (Instr.index 23 (.agg #[v0, v1, v2, v3, v4, v5, v6, v7, v8]) (.int .i64 5)).run Tryd.prog w = .ok v5 w := by kernel_rfl
theorem ix9U6 (v0 v1 v2 v3 v4 v5 v6 v7 v8 : Value) (w : World) : (Instr.index 23 (.agg #[v0, v1, v2, v3, v4, v5, v6, v7, v8]) (.int .i64 6)).run Tryd.prog w = .ok v6 w := by kernel_rfl
theorem ix9U7 (v0 v1 v2 v3 v4 v5 v6 v7 v8 : Value) (w : World) : (Instr.index 23 (.agg #[v0, v1, v2, v3, v4, v5, v6, v7, v8]) (.int .i64 7)).run Tryd.prog w = .ok v7 w := by kernel_rfl
theorem ix9U8 (v0 v1 v2 v3 v4 v5 v6 v7 v8 : Value) (w : World) : (Instr.index 23 (.agg #[v0, v1, v2, v3, v4, v5, v6, v7, v8]) (.int .i64 8)).run Tryd.prog w = .ok v8 w := by kernel_rfl
attribute [local go_sem] ix9U0 ix9U1 ix9U2 ix9U3 ix9U4 ix9U5 ix9U6 ix9U7 ix9U8
theorem order_nan (a : Nat) (h1 : infR < rung a) (h2 : a < 18446744073709551616) : Ieee.double.order a a = none := by
  rw [order_key a a h2 h2, if_pos (by omega)]
attribute [local go_sem] fl_neq in
theorem nan13 (a : Nat) (h1 : infR < rung a) (h2 : a < 18446744073709551616) (w : World) : Calls Tryd.prog 6 #[.float .f64 a] w fun e w' => e = .returned (.bool true) ∧ w = w' := by
  have h3 := order_nan a h1 h2
  have h4 : (FloatKind.f64.format.order a a != some .eq) = true := by show (Ieee.double.order a a != some .eq) = true; rw [h3]; rfl
  clear h1 h2 h3
  go_enter Tryd.func6, Tryd.ntmps6
  go_wp2
  go_ret
  exact ⟨rfl, rfl⟩
def nineU (a b c d e f g h i : Int) : Array Value := #[.int .u16 a, .int .u16 b, .int .u16 c, .int .u16 d, .int .u16 e, .int .u16 f, .int .u16 g, .int .u16 h, .int .u16 i]
attribute [local go_sem] run_float_arith fl_neq in
set_option maxRecDepth 100000 in
set_option maxHeartbeats 8000000 in
theorem words13_0 (n0 n1 n2 n3 n4 n5 n6 n7 n8 : Int) (w : World) (hN : Nms w) (h0 : 0 ≤ n0 ∧ n0 ≤ 65535) (h1 : 0 ≤ n1 ∧ n1 ≤ 65535) (h2 : 0 ≤ n2 ∧ n2 ≤ 65535) (h3 : 0 ≤ n3 ∧ n3 ≤ 65535) (h4 : 0 ≤ n4 ∧ n4 ≤ 65535) (h5 : 0 ≤ n5 ∧ n5 ≤ 65535) (h6 : 0 ≤ n6 ∧ n6 ≤ 65535) (h7 : 0 ≤ n7 ∧ n7 ≤ 65535) (h8 : 0 ≤ n8 ∧ n8 ≤ 65535) :
    Calls Tryd.prog 3 #[.int .i64 0, .agg (nineU n0 n1 n2 n3 n4 n5 n6 n7 n8)] w fun e w' => e = .returned (.bool true) ∧ Below w.heap.size w w' := by
  have HB0 := Lib.hid (show Below w.heap.size w (w.alloc (.cells (nineU n0 n1 n2 n3 n4 n5 n6 n7 n8) 23)) from (Below.refl _ _).alloc (Nat.le_refl _) _)
  have HN := Lib.hid hN
  clear hN
  have HC0 := Lib.hid (show ∀ (u : World), Below (w.heap.size + 1) (w.alloc (.cells (nineU n0 n1 n2 n3 n4 n5 n6 n7 n8) 23)) u → ∀ (i : Nat) v, (nineU n0 n1 n2 n3 n4 n5 n6 n7 n8)[i]? = some v → ∀ o1 o2, ((u.alloc o1).alloc o2).cell? ⟨w.heap.size, i, none⟩ = some v from fun u hu i v hv o1 o2 => by
    have hs : w.heap.size < u.heap.size := Nat.lt_of_lt_of_le (by rw [World.size_alloc]; omega) hu.size
    rw [World.cell?_alloc_lt _ _ _ (by rw [World.size_alloc]; show w.heap.size < _; omega), World.cell?_alloc_lt _ _ _ (by exact hs), hu.cell (by show w.heap.size < _; omega)]
    rw [World.cell?_alloc_new]
    exact hv)
  unfold nineU at *
  go_enter Tryd.func3, Tryd.ntmps3
  go_wp2_with fail
  refine (awake13 _ (HN.out.on HB0.out)).mono ?_
  rintro e w1 ⟨rfl, hB⟩
  have c0 := HC0.out w1 (by rw [World.size_alloc] at hB; exact hB) 0 _ rfl
  have c1 := HC0.out w1 (by rw [World.size_alloc] at hB; exact hB) 1 _ rfl
  have c2 := HC0.out w1 (by rw [World.size_alloc] at hB; exact hB) 2 _ rfl
  have c3 := HC0.out w1 (by rw [World.size_alloc] at hB; exact hB) 3 _ rfl
  have c4 := HC0.out w1 (by rw [World.size_alloc] at hB; exact hB) 4 _ rfl
  have c5 := HC0.out w1 (by rw [World.size_alloc] at hB; exact hB) 5 _ rfl
  have c6 := HC0.out w1 (by rw [World.size_alloc] at hB; exact hB) 6 _ rfl
  have c7 := HC0.out w1 (by rw [World.size_alloc] at hB; exact hB) 7 _ rfl
  have c8 := HC0.out w1 (by rw [World.size_alloc] at hB; exact hB) 8 _ rfl
  have HB1 := Lib.hid (HB0.out.trans (hB.mono HB0.out.size))
  clear hB
  have HH := Lib.hid (fun (u : World) => health_any n0 n1 n2 n3 n4 n5 n6 n7 n8 u h0 h1 h2 h3 h4 h5 h6 h7 h8)
  unfold nineI at HH
  have HBA := Lib.hid (show ∀ o1 o2, Below w.heap.size w ((w1.alloc o1).alloc o2) from fun o1 o2 => (HB1.out.alloc HB1.out.size o1).alloc (by have := HB1.out.size; rw [World.size_alloc]; omega) o2)
  have HE1 := Lib.hid (nearest_wI (n3 + n6) (by omega))
  have HE2 := Lib.hid (nearest_wI (n1 + n2 + n3 + n4 + n5 + n6 + n8) (by omega))
  have HXY := Lib.hid (show (n3 + n6).natAbs < 2 ^ 20 ∧ (n1 + n2 + n3 + n4 + n5 + n6 + n8).natAbs < 2 ^ 20 by omega)
  go_wp2
  refine wp_loop_rounds 10 ?_
  repeat (rw [rounds_succ]; go_wp2_with fail)
  refine (HH.out _).mono ?_
  rintro e w2 ⟨a, ha, rfl, hB2⟩
  have HB2 := Lib.hid ((HBA.out _ _).trans (hB2.mono (HBA.out _ _).size))
  clear hB2
  obtain ⟨x, hx⟩ : ∃ x, n3 + n6 = x := ⟨_, rfl⟩
  obtain ⟨y, hy⟩ : ∃ y, n1 + n2 + n3 + n4 + n5 + n6 + n8 = y := ⟨_, rfl⟩
  rw [hx] at ha HE1 ⊢
  rw [hy] at ha HE2 ⊢
  have HA := Lib.hid ha
  have HTX := Lib.hid (show Calls Tryd.prog _ #[.int .i64 0] w2 _ from text_yes 0 (by decide) w2 (HN.out.on HB2.out))
  have HSV := Lib.hid (serves_no 0 (by decide) (by decide) w2)
  have hnm : ((nmS 0).toList == [110, 111, 110, 101]) = true := by kernel_rfl
  clear ha hx hy c0 c1 c2 c3 c4 c5 c6 c7 c8 h0 h1 h2 h3 h4 h5 h6 h7 h8 HXY
  by_cases hz : y = 0
  · have hz1 : (y == 0) = true := by simpa using hz
    have HN9 := Lib.hid (nan13 a (HA.out.1 hz).1 (HA.out.1 hz).2 w2)
    clear hz
    go_wp2_with (first | ((with_reducible refine HN9.out.mono ?_); rintro e w' ⟨rfl, rfl⟩) | ((with_reducible refine HTX.out.mono ?_); rintro e w' ⟨rfl, rfl⟩) | ((with_reducible refine HSV.out.mono ?_); rintro e w' ⟨rfl, rfl⟩))
    go_ret
    exact ⟨rfl, HB2.out⟩
  · have hz1 : (y == 0) = false := by simpa using hz
    have e1 : floatOfInt .f64 x = wI x := HE1.out
    have e2 : floatOfInt .f64 y = wI y := HE2.out
    obtain ⟨q1, q2⟩ := HA.out.2 hz
    generalize wI x = p at *
    generalize wI y = q at *
    have hq : floatBits .quo .f64 p q = some a := q1
    have hoo : (FloatKind.f64.format.order a a != some .eq) = false := by show (Ieee.double.order a a != some .eq) = false; rw [q2]; rfl
    clear hz q1 q2
    go_wp2_with (first | ((with_reducible refine HTX.out.mono ?_); rintro e w' ⟨rfl, rfl⟩) | ((with_reducible refine HSV.out.mono ?_); rintro e w' ⟨rfl, rfl⟩))
    go_ret
    exact ⟨rfl, HB2.out⟩
attribute [local go_sem] run_float_arith fl_neq in
set_option maxRecDepth 100000 in
set_option maxHeartbeats 8000000 in
theorem words13_1 (n0 n1 n2 n3 n4 n5 n6 n7 n8 : Int) (w : World) (hN : Nms w) (h0 : 0 ≤ n0 ∧ n0 ≤ 65535) (h1 : 0 ≤ n1 ∧ n1 ≤ 65535) (h2 : 0 ≤ n2 ∧ n2 ≤ 65535) (h3 : 0 ≤ n3 ∧ n3 ≤ 65535) (h4 : 0 ≤ n4 ∧ n4 ≤ 65535) (h5 : 0 ≤ n5 ∧ n5 ≤ 65535) (h6 : 0 ≤ n6 ∧ n6 ≤ 65535) (h7 : 0 ≤ n7 ∧ n7 ≤ 65535) (h8 : 0 ≤ n8 ∧ n8 ≤ 65535) :
    Calls Tryd.prog 3 #[.int .i64 1, .agg (nineU n0 n1 n2 n3 n4 n5 n6 n7 n8)] w fun e w' => e = .returned (.bool true) ∧ Below w.heap.size w w' := by
  have HB0 := Lib.hid (show Below w.heap.size w (w.alloc (.cells (nineU n0 n1 n2 n3 n4 n5 n6 n7 n8) 23)) from (Below.refl _ _).alloc (Nat.le_refl _) _)
  have HN := Lib.hid hN
  clear hN
  have HC0 := Lib.hid (show ∀ (u : World), Below (w.heap.size + 1) (w.alloc (.cells (nineU n0 n1 n2 n3 n4 n5 n6 n7 n8) 23)) u → ∀ (i : Nat) v, (nineU n0 n1 n2 n3 n4 n5 n6 n7 n8)[i]? = some v → ∀ o1 o2, ((u.alloc o1).alloc o2).cell? ⟨w.heap.size, i, none⟩ = some v from fun u hu i v hv o1 o2 => by
    have hs : w.heap.size < u.heap.size := Nat.lt_of_lt_of_le (by rw [World.size_alloc]; omega) hu.size
    rw [World.cell?_alloc_lt _ _ _ (by rw [World.size_alloc]; show w.heap.size < _; omega), World.cell?_alloc_lt _ _ _ (by exact hs), hu.cell (by show w.heap.size < _; omega)]
    rw [World.cell?_alloc_new]
    exact hv)
  unfold nineU at *
  go_enter Tryd.func3, Tryd.ntmps3
  go_wp2_with fail
  refine (awake13 _ (HN.out.on HB0.out)).mono ?_
  rintro e w1 ⟨rfl, hB⟩
  have c0 := HC0.out w1 (by rw [World.size_alloc] at hB; exact hB) 0 _ rfl
  have c1 := HC0.out w1 (by rw [World.size_alloc] at hB; exact hB) 1 _ rfl
  have c2 := HC0.out w1 (by rw [World.size_alloc] at hB; exact hB) 2 _ rfl
  have c3 := HC0.out w1 (by rw [World.size_alloc] at hB; exact hB) 3 _ rfl
  have c4 := HC0.out w1 (by rw [World.size_alloc] at hB; exact hB) 4 _ rfl
  have c5 := HC0.out w1 (by rw [World.size_alloc] at hB; exact hB) 5 _ rfl
  have c6 := HC0.out w1 (by rw [World.size_alloc] at hB; exact hB) 6 _ rfl
  have c7 := HC0.out w1 (by rw [World.size_alloc] at hB; exact hB) 7 _ rfl
  have c8 := HC0.out w1 (by rw [World.size_alloc] at hB; exact hB) 8 _ rfl
  have HB1 := Lib.hid (HB0.out.trans (hB.mono HB0.out.size))
  clear hB
  have HH := Lib.hid (fun (u : World) => health_any n0 n1 n2 n3 n4 n5 n6 n7 n8 u h0 h1 h2 h3 h4 h5 h6 h7 h8)
  unfold nineI at HH
  have HBA := Lib.hid (show ∀ o1 o2, Below w.heap.size w ((w1.alloc o1).alloc o2) from fun o1 o2 => (HB1.out.alloc HB1.out.size o1).alloc (by have := HB1.out.size; rw [World.size_alloc]; omega) o2)
  have HE1 := Lib.hid (nearest_wI (n3 + n6) (by omega))
  have HE2 := Lib.hid (nearest_wI (n1 + n2 + n3 + n4 + n5 + n6 + n8) (by omega))
  have HXY := Lib.hid (show (n3 + n6).natAbs < 2 ^ 20 ∧ (n1 + n2 + n3 + n4 + n5 + n6 + n8).natAbs < 2 ^ 20 by omega)
  go_wp2
  refine wp_loop_rounds 10 ?_
  repeat (rw [rounds_succ]; go_wp2_with fail)
  refine (HH.out _).mono ?_
  rintro e w2 ⟨a, ha, rfl, hB2⟩
  have HB2 := Lib.hid ((HBA.out _ _).trans (hB2.mono (HBA.out _ _).size))
  clear hB2
  obtain ⟨x, hx⟩ : ∃ x, n3 + n6 = x := ⟨_, rfl⟩
  obtain ⟨y, hy⟩ : ∃ y, n1 + n2 + n3 + n4 + n5 + n6 + n8 = y := ⟨_, rfl⟩
  rw [hx] at ha HE1 ⊢
  rw [hy] at ha HE2 ⊢
  have HA := Lib.hid ha
  have HTX := Lib.hid (show Calls Tryd.prog _ #[.int .i64 1] w2 _ from text_yes 1 (by decide) w2 (HN.out.on HB2.out))
  have HSV := Lib.hid (serves_no 1 (by decide) (by decide) w2)
  have hnm : ((nmS 1).toList == [110, 101, 119]) = true := by kernel_rfl
  clear ha hx hy c0 c1 c2 c3 c4 c5 c6 c7 c8 h0 h1 h2 h3 h4 h5 h6 h7 h8 HXY
  by_cases hz : y = 0
  · have hz1 : (y == 0) = true := by simpa using hz
    have HN9 := Lib.hid (nan13 a (HA.out.1 hz).1 (HA.out.1 hz).2 w2)
    clear hz
    go_wp2_with (first | ((with_reducible refine HN9.out.mono ?_); rintro e w' ⟨rfl, rfl⟩) | ((with_reducible refine HTX.out.mono ?_); rintro e w' ⟨rfl, rfl⟩) | ((with_reducible refine HSV.out.mono ?_); rintro e w' ⟨rfl, rfl⟩))
    go_ret
    exact ⟨rfl, HB2.out⟩
  · have hz1 : (y == 0) = false := by simpa using hz
    have e1 : floatOfInt .f64 x = wI x := HE1.out
    have e2 : floatOfInt .f64 y = wI y := HE2.out
    obtain ⟨q1, q2⟩ := HA.out.2 hz
    generalize wI x = p at *
    generalize wI y = q at *
    have hq : floatBits .quo .f64 p q = some a := q1
    have hoo : (FloatKind.f64.format.order a a != some .eq) = false := by show (Ieee.double.order a a != some .eq) = false; rw [q2]; rfl
    clear hz q1 q2
    go_wp2_with (first | ((with_reducible refine HTX.out.mono ?_); rintro e w' ⟨rfl, rfl⟩) | ((with_reducible refine HSV.out.mono ?_); rintro e w' ⟨rfl, rfl⟩))
    go_ret
    exact ⟨rfl, HB2.out⟩
attribute [local go_sem] run_float_arith fl_neq in
set_option maxRecDepth 100000 in
set_option maxHeartbeats 8000000 in
theorem words13_2 (n0 n1 n2 n3 n4 n5 n6 n7 n8 : Int) (w : World) (hN : Nms w) (h0 : 0 ≤ n0 ∧ n0 ≤ 65535) (h1 : 0 ≤ n1 ∧ n1 ≤ 65535) (h2 : 0 ≤ n2 ∧ n2 ≤ 65535) (h3 : 0 ≤ n3 ∧ n3 ≤ 65535) (h4 : 0 ≤ n4 ∧ n4 ≤ 65535) (h5 : 0 ≤ n5 ∧ n5 ≤ 65535) (h6 : 0 ≤ n6 ∧ n6 ≤ 65535) (h7 : 0 ≤ n7 ∧ n7 ≤ 65535) (h8 : 0 ≤ n8 ∧ n8 ≤ 65535) :
    Calls Tryd.prog 3 #[.int .i64 2, .agg (nineU n0 n1 n2 n3 n4 n5 n6 n7 n8)] w fun e w' => e = .returned (.bool true) ∧ Below w.heap.size w w' := by
  have HB0 := Lib.hid (show Below w.heap.size w (w.alloc (.cells (nineU n0 n1 n2 n3 n4 n5 n6 n7 n8) 23)) from (Below.refl _ _).alloc (Nat.le_refl _) _)
  have HN := Lib.hid hN
  clear hN
  have HC0 := Lib.hid (show ∀ (u : World), Below (w.heap.size + 1) (w.alloc (.cells (nineU n0 n1 n2 n3 n4 n5 n6 n7 n8) 23)) u → ∀ (i : Nat) v, (nineU n0 n1 n2 n3 n4 n5 n6 n7 n8)[i]? = some v → ∀ o1 o2, ((u.alloc o1).alloc o2).cell? ⟨w.heap.size, i, none⟩ = some v from fun u hu i v hv o1 o2 => by
    have hs : w.heap.size < u.heap.size := Nat.lt_of_lt_of_le (by rw [World.size_alloc]; omega) hu.size
    rw [World.cell?_alloc_lt _ _ _ (by rw [World.size_alloc]; show w.heap.size < _; omega), World.cell?_alloc_lt _ _ _ (by exact hs), hu.cell (by show w.heap.size < _; omega)]
    rw [World.cell?_alloc_new]
    exact hv)
  unfold nineU at *
  go_enter Tryd.func3, Tryd.ntmps3
  go_wp2_with fail
  refine (awake13 _ (HN.out.on HB0.out)).mono ?_
  rintro e w1 ⟨rfl, hB⟩
  have c0 := HC0.out w1 (by rw [World.size_alloc] at hB; exact hB) 0 _ rfl
  have c1 := HC0.out w1 (by rw [World.size_alloc] at hB; exact hB) 1 _ rfl
  have c2 := HC0.out w1 (by rw [World.size_alloc] at hB; exact hB) 2 _ rfl
  have c3 := HC0.out w1 (by rw [World.size_alloc] at hB; exact hB) 3 _ rfl
  have c4 := HC0.out w1 (by rw [World.size_alloc] at hB; exact hB) 4 _ rfl
  have c5 := HC0.out w1 (by rw [World.size_alloc] at hB; exact hB) 5 _ rfl
  have c6 := HC0.out w1 (by rw [World.size_alloc] at hB; exact hB) 6 _ rfl
  have c7 := HC0.out w1 (by rw [World.size_alloc] at hB; exact hB) 7 _ rfl
  have c8 := HC0.out w1 (by rw [World.size_alloc] at hB; exact hB) 8 _ rfl
  have HB1 := Lib.hid (HB0.out.trans (hB.mono HB0.out.size))
  clear hB
  have HH := Lib.hid (fun (u : World) => health_any n0 n1 n2 n3 n4 n5 n6 n7 n8 u h0 h1 h2 h3 h4 h5 h6 h7 h8)
  unfold nineI at HH
  have HBA := Lib.hid (show ∀ o1 o2, Below w.heap.size w ((w1.alloc o1).alloc o2) from fun o1 o2 => (HB1.out.alloc HB1.out.size o1).alloc (by have := HB1.out.size; rw [World.size_alloc]; omega) o2)
  have HE1 := Lib.hid (nearest_wI (n3 + n6) (by omega))
  have HE2 := Lib.hid (nearest_wI (n1 + n2 + n3 + n4 + n5 + n6 + n8) (by omega))
  have HXY := Lib.hid (show (n3 + n6).natAbs < 2 ^ 20 ∧ (n1 + n2 + n3 + n4 + n5 + n6 + n8).natAbs < 2 ^ 20 by omega)
  go_wp2
  refine wp_loop_rounds 10 ?_
  repeat (rw [rounds_succ]; go_wp2_with fail)
  refine (HH.out _).mono ?_
  rintro e w2 ⟨a, ha, rfl, hB2⟩
  have HB2 := Lib.hid ((HBA.out _ _).trans (hB2.mono (HBA.out _ _).size))
  clear hB2
  obtain ⟨x, hx⟩ : ∃ x, n3 + n6 = x := ⟨_, rfl⟩
  obtain ⟨y, hy⟩ : ∃ y, n1 + n2 + n3 + n4 + n5 + n6 + n8 = y := ⟨_, rfl⟩
  rw [hx] at ha HE1 ⊢
  rw [hy] at ha HE2 ⊢
  have HA := Lib.hid ha
  have HTX := Lib.hid (show Calls Tryd.prog _ #[.int .i64 2] w2 _ from text_yes 2 (by decide) w2 (HN.out.on HB2.out))
  have HSV := Lib.hid (serves_no 2 (by decide) (by decide) w2)
  have hnm : ((nmS 2).toList == [109, 105, 115, 115, 105, 110, 103]) = true := by kernel_rfl
  clear ha hx hy c0 c1 c2 c3 c4 c5 c6 c7 c8 h0 h1 h2 h3 h4 h5 h6 h7 h8 HXY
  by_cases hz : y = 0
  · have hz1 : (y == 0) = true := by simpa using hz
    have HN9 := Lib.hid (nan13 a (HA.out.1 hz).1 (HA.out.1 hz).2 w2)
    clear hz
    go_wp2_with (first | ((with_reducible refine HN9.out.mono ?_); rintro e w' ⟨rfl, rfl⟩) | ((with_reducible refine HTX.out.mono ?_); rintro e w' ⟨rfl, rfl⟩) | ((with_reducible refine HSV.out.mono ?_); rintro e w' ⟨rfl, rfl⟩))
    go_ret
    exact ⟨rfl, HB2.out⟩
  · have hz1 : (y == 0) = false := by simpa using hz
    have e1 : floatOfInt .f64 x = wI x := HE1.out
    have e2 : floatOfInt .f64 y = wI y := HE2.out
    obtain ⟨q1, q2⟩ := HA.out.2 hz
    generalize wI x = p at *
    generalize wI y = q at *
    have hq : floatBits .quo .f64 p q = some a := q1
    have hoo : (FloatKind.f64.format.order a a != some .eq) = false := by show (Ieee.double.order a a != some .eq) = false; rw [q2]; rfl
    clear hz q1 q2
    go_wp2_with (first | ((with_reducible refine HTX.out.mono ?_); rintro e w' ⟨rfl, rfl⟩) | ((with_reducible refine HSV.out.mono ?_); rintro e w' ⟨rfl, rfl⟩))
    go_ret
    exact ⟨rfl, HB2.out⟩
attribute [local go_sem] run_float_arith fl_neq in
set_option maxRecDepth 100000 in
set_option maxHeartbeats 8000000 in
theorem words13_3 (n0 n1 n2 n3 n4 n5 n6 n7 n8 : Int) (w : World) (hN : Nms w) (h0 : 0 ≤ n0 ∧ n0 ≤ 65535) (h1 : 0 ≤ n1 ∧ n1 ≤ 65535) (h2 : 0 ≤ n2 ∧ n2 ≤ 65535) (h3 : 0 ≤ n3 ∧ n3 ≤ 65535) (h4 : 0 ≤ n4 ∧ n4 ≤ 65535) (h5 : 0 ≤ n5 ∧ n5 ≤ 65535) (h6 : 0 ≤ n6 ∧ n6 ≤ 65535) (h7 : 0 ≤ n7 ∧ n7 ≤ 65535) (h8 : 0 ≤ n8 ∧ n8 ≤ 65535) :
    Calls Tryd.prog 3 #[.int .i64 3, .agg (nineU n0 n1 n2 n3 n4 n5 n6 n7 n8)] w fun e w' => e = .returned (.bool true) ∧ Below w.heap.size w w' := by
  have HB0 := Lib.hid (show Below w.heap.size w (w.alloc (.cells (nineU n0 n1 n2 n3 n4 n5 n6 n7 n8) 23)) from (Below.refl _ _).alloc (Nat.le_refl _) _)
  have HN := Lib.hid hN
  clear hN
  have HC0 := Lib.hid (show ∀ (u : World), Below (w.heap.size + 1) (w.alloc (.cells (nineU n0 n1 n2 n3 n4 n5 n6 n7 n8) 23)) u → ∀ (i : Nat) v, (nineU n0 n1 n2 n3 n4 n5 n6 n7 n8)[i]? = some v → ∀ o1 o2, ((u.alloc o1).alloc o2).cell? ⟨w.heap.size, i, none⟩ = some v from fun u hu i v hv o1 o2 => by
    have hs : w.heap.size < u.heap.size := Nat.lt_of_lt_of_le (by rw [World.size_alloc]; omega) hu.size
    rw [World.cell?_alloc_lt _ _ _ (by rw [World.size_alloc]; show w.heap.size < _; omega), World.cell?_alloc_lt _ _ _ (by exact hs), hu.cell (by show w.heap.size < _; omega)]
    rw [World.cell?_alloc_new]
    exact hv)
  unfold nineU at *
  go_enter Tryd.func3, Tryd.ntmps3
  go_wp2_with fail
  refine (awake13 _ (HN.out.on HB0.out)).mono ?_
  rintro e w1 ⟨rfl, hB⟩
  have c0 := HC0.out w1 (by rw [World.size_alloc] at hB; exact hB) 0 _ rfl
  have c1 := HC0.out w1 (by rw [World.size_alloc] at hB; exact hB) 1 _ rfl
  have c2 := HC0.out w1 (by rw [World.size_alloc] at hB; exact hB) 2 _ rfl
  have c3 := HC0.out w1 (by rw [World.size_alloc] at hB; exact hB) 3 _ rfl
  have c4 := HC0.out w1 (by rw [World.size_alloc] at hB; exact hB) 4 _ rfl
  have c5 := HC0.out w1 (by rw [World.size_alloc] at hB; exact hB) 5 _ rfl
  have c6 := HC0.out w1 (by rw [World.size_alloc] at hB; exact hB) 6 _ rfl
  have c7 := HC0.out w1 (by rw [World.size_alloc] at hB; exact hB) 7 _ rfl
  have c8 := HC0.out w1 (by rw [World.size_alloc] at hB; exact hB) 8 _ rfl
  have HB1 := Lib.hid (HB0.out.trans (hB.mono HB0.out.size))
  clear hB
  have HH := Lib.hid (fun (u : World) => health_any n0 n1 n2 n3 n4 n5 n6 n7 n8 u h0 h1 h2 h3 h4 h5 h6 h7 h8)
  unfold nineI at HH
  have HBA := Lib.hid (show ∀ o1 o2, Below w.heap.size w ((w1.alloc o1).alloc o2) from fun o1 o2 => (HB1.out.alloc HB1.out.size o1).alloc (by have := HB1.out.size; rw [World.size_alloc]; omega) o2)
  have HE1 := Lib.hid (nearest_wI (n3 + n6) (by omega))
  have HE2 := Lib.hid (nearest_wI (n1 + n2 + n3 + n4 + n5 + n6 + n8) (by omega))
  have HXY := Lib.hid (show (n3 + n6).natAbs < 2 ^ 20 ∧ (n1 + n2 + n3 + n4 + n5 + n6 + n8).natAbs < 2 ^ 20 by omega)
  go_wp2
  refine wp_loop_rounds 10 ?_
  repeat (rw [rounds_succ]; go_wp2_with fail)
  refine (HH.out _).mono ?_
  rintro e w2 ⟨a, ha, rfl, hB2⟩
  have HB2 := Lib.hid ((HBA.out _ _).trans (hB2.mono (HBA.out _ _).size))
  clear hB2
  obtain ⟨x, hx⟩ : ∃ x, n3 + n6 = x := ⟨_, rfl⟩
  obtain ⟨y, hy⟩ : ∃ y, n1 + n2 + n3 + n4 + n5 + n6 + n8 = y := ⟨_, rfl⟩
  rw [hx] at ha HE1 ⊢
  rw [hy] at ha HE2 ⊢
  have HA := Lib.hid ha
  have HTX := Lib.hid (show Calls Tryd.prog _ #[.int .i64 3] w2 _ from text_yes 3 (by decide) w2 (HN.out.on HB2.out))
  have HSV := Lib.hid (serves_yes 3 (by decide) w2)
  have hnm : ((nmS 3).toList == [99, 108, 101, 97, 110]) = true := by kernel_rfl
  clear ha hx hy c0 c1 c2 c3 c4 c5 c6 c7 c8 h0 h1 h2 h3 h4 h5 h6 h7 h8 HXY
  by_cases hz : y = 0
  · have hz1 : (y == 0) = true := by simpa using hz
    have HN9 := Lib.hid (nan13 a (HA.out.1 hz).1 (HA.out.1 hz).2 w2)
    clear hz
    go_wp2_with (first | ((with_reducible refine HN9.out.mono ?_); rintro e w' ⟨rfl, rfl⟩) | ((with_reducible refine HTX.out.mono ?_); rintro e w' ⟨rfl, rfl⟩) | ((with_reducible refine HSV.out.mono ?_); rintro e w' ⟨rfl, rfl⟩))
    go_ret
    exact ⟨rfl, HB2.out⟩
  · have hz1 : (y == 0) = false := by simpa using hz
    have e1 : floatOfInt .f64 x = wI x := HE1.out
    have e2 : floatOfInt .f64 y = wI y := HE2.out
    obtain ⟨q1, q2⟩ := HA.out.2 hz
    generalize wI x = p at *
    generalize wI y = q at *
    have hq : floatBits .quo .f64 p q = some a := q1
    have hoo : (FloatKind.f64.format.order a a != some .eq) = false := by show (Ieee.double.order a a != some .eq) = false; rw [q2]; rfl
    clear hz q1 q2
    go_wp2_with (first | ((with_reducible refine HTX.out.mono ?_); rintro e w' ⟨rfl, rfl⟩) | ((with_reducible refine HSV.out.mono ?_); rintro e w' ⟨rfl, rfl⟩))
    go_ret
    exact ⟨rfl, HB2.out⟩
attribute [local go_sem] run_float_arith fl_neq in
set_option maxRecDepth 100000 in
set_option maxHeartbeats 8000000 in
theorem words13_4 (n0 n1 n2 n3 n4 n5 n6 n7 n8 : Int) (w : World) (hN : Nms w) (h0 : 0 ≤ n0 ∧ n0 ≤ 65535) (h1 : 0 ≤ n1 ∧ n1 ≤ 65535) (h2 : 0 ≤ n2 ∧ n2 ≤ 65535) (h3 : 0 ≤ n3 ∧ n3 ≤ 65535) (h4 : 0 ≤ n4 ∧ n4 ≤ 65535) (h5 : 0 ≤ n5 ∧ n5 ≤ 65535) (h6 : 0 ≤ n6 ∧ n6 ≤ 65535) (h7 : 0 ≤ n7 ∧ n7 ≤ 65535) (h8 : 0 ≤ n8 ∧ n8 ≤ 65535) :
    Calls Tryd.prog 3 #[.int .i64 4, .agg (nineU n0 n1 n2 n3 n4 n5 n6 n7 n8)] w fun e w' => e = .returned (.bool true) ∧ Below w.heap.size w w' := by
  have HB0 := Lib.hid (show Below w.heap.size w (w.alloc (.cells (nineU n0 n1 n2 n3 n4 n5 n6 n7 n8) 23)) from (Below.refl _ _).alloc (Nat.le_refl _) _)
  have HN := Lib.hid hN
  clear hN
  have HC0 := Lib.hid (show ∀ (u : World), Below (w.heap.size + 1) (w.alloc (.cells (nineU n0 n1 n2 n3 n4 n5 n6 n7 n8) 23)) u → ∀ (i : Nat) v, (nineU n0 n1 n2 n3 n4 n5 n6 n7 n8)[i]? = some v → ∀ o1 o2, ((u.alloc o1).alloc o2).cell? ⟨w.heap.size, i, none⟩ = some v from fun u hu i v hv o1 o2 => by
    have hs : w.heap.size < u.heap.size := Nat.lt_of_lt_of_le (by rw [World.size_alloc]; omega) hu.size
    rw [World.cell?_alloc_lt _ _ _ (by rw [World.size_alloc]; show w.heap.size < _; omega), World.cell?_alloc_lt _ _ _ (by exact hs), hu.cell (by show w.heap.size < _; omega)]
    rw [World.cell?_alloc_new]
    exact hv)
  unfold nineU at *
  go_enter Tryd.func3, Tryd.ntmps3
  go_wp2_with fail
  refine (awake13 _ (HN.out.on HB0.out)).mono ?_
  rintro e w1 ⟨rfl, hB⟩
  have c0 := HC0.out w1 (by rw [World.size_alloc] at hB; exact hB) 0 _ rfl
  have c1 := HC0.out w1 (by rw [World.size_alloc] at hB; exact hB) 1 _ rfl
  have c2 := HC0.out w1 (by rw [World.size_alloc] at hB; exact hB) 2 _ rfl
  have c3 := HC0.out w1 (by rw [World.size_alloc] at hB; exact hB) 3 _ rfl
  have c4 := HC0.out w1 (by rw [World.size_alloc] at hB; exact hB) 4 _ rfl
  have c5 := HC0.out w1 (by rw [World.size_alloc] at hB; exact hB) 5 _ rfl
  have c6 := HC0.out w1 (by rw [World.size_alloc] at hB; exact hB) 6 _ rfl
  have c7 := HC0.out w1 (by rw [World.size_alloc] at hB; exact hB) 7 _ rfl
  have c8 := HC0.out w1 (by rw [World.size_alloc] at hB; exact hB) 8 _ rfl
  have HB1 := Lib.hid (HB0.out.trans (hB.mono HB0.out.size))
  clear hB
  have HH := Lib.hid (fun (u : World) => health_any n0 n1 n2 n3 n4 n5 n6 n7 n8 u h0 h1 h2 h3 h4 h5 h6 h7 h8)
  unfold nineI at HH
  have HBA := Lib.hid (show ∀ o1 o2, Below w.heap.size w ((w1.alloc o1).alloc o2) from fun o1 o2 => (HB1.out.alloc HB1.out.size o1).alloc (by have := HB1.out.size; rw [World.size_alloc]; omega) o2)
  have HE1 := Lib.hid (nearest_wI (n3 + n6) (by omega))
  have HE2 := Lib.hid (nearest_wI (n1 + n2 + n3 + n4 + n5 + n6 + n8) (by omega))
  have HXY := Lib.hid (show (n3 + n6).natAbs < 2 ^ 20 ∧ (n1 + n2 + n3 + n4 + n5 + n6 + n8).natAbs < 2 ^ 20 by omega)
  go_wp2
  refine wp_loop_rounds 10 ?_
  repeat (rw [rounds_succ]; go_wp2_with fail)
  refine (HH.out _).mono ?_
  rintro e w2 ⟨a, ha, rfl, hB2⟩
  have HB2 := Lib.hid ((HBA.out _ _).trans (hB2.mono (HBA.out _ _).size))
  clear hB2
  obtain ⟨x, hx⟩ : ∃ x, n3 + n6 = x := ⟨_, rfl⟩
  obtain ⟨y, hy⟩ : ∃ y, n1 + n2 + n3 + n4 + n5 + n6 + n8 = y := ⟨_, rfl⟩
  rw [hx] at ha HE1 ⊢
  rw [hy] at ha HE2 ⊢
  have HA := Lib.hid ha
  have HTX := Lib.hid (show Calls Tryd.prog _ #[.int .i64 4] w2 _ from text_yes 4 (by decide) w2 (HN.out.on HB2.out))
  have HSV := Lib.hid (serves_no 4 (by decide) (by decide) w2)
  have hnm : ((nmS 4).toList == [114, 111, 116]) = true := by kernel_rfl
  clear ha hx hy c0 c1 c2 c3 c4 c5 c6 c7 c8 h0 h1 h2 h3 h4 h5 h6 h7 h8 HXY
  by_cases hz : y = 0
  · have hz1 : (y == 0) = true := by simpa using hz
    have HN9 := Lib.hid (nan13 a (HA.out.1 hz).1 (HA.out.1 hz).2 w2)
    clear hz
    go_wp2_with (first | ((with_reducible refine HN9.out.mono ?_); rintro e w' ⟨rfl, rfl⟩) | ((with_reducible refine HTX.out.mono ?_); rintro e w' ⟨rfl, rfl⟩) | ((with_reducible refine HSV.out.mono ?_); rintro e w' ⟨rfl, rfl⟩))
    go_ret
    exact ⟨rfl, HB2.out⟩
  · have hz1 : (y == 0) = false := by simpa using hz
    have e1 : floatOfInt .f64 x = wI x := HE1.out
    have e2 : floatOfInt .f64 y = wI y := HE2.out
    obtain ⟨q1, q2⟩ := HA.out.2 hz
    generalize wI x = p at *
    generalize wI y = q at *
    have hq : floatBits .quo .f64 p q = some a := q1
    have hoo : (FloatKind.f64.format.order a a != some .eq) = false := by show (Ieee.double.order a a != some .eq) = false; rw [q2]; rfl
    clear hz q1 q2
    go_wp2_with (first | ((with_reducible refine HTX.out.mono ?_); rintro e w' ⟨rfl, rfl⟩) | ((with_reducible refine HSV.out.mono ?_); rintro e w' ⟨rfl, rfl⟩))
    go_ret
    exact ⟨rfl, HB2.out⟩
attribute [local go_sem] run_float_arith fl_neq in
set_option maxRecDepth 100000 in
set_option maxHeartbeats 8000000 in
theorem words13_5 (n0 n1 n2 n3 n4 n5 n6 n7 n8 : Int) (w : World) (hN : Nms w) (h0 : 0 ≤ n0 ∧ n0 ≤ 65535) (h1 : 0 ≤ n1 ∧ n1 ≤ 65535) (h2 : 0 ≤ n2 ∧ n2 ≤ 65535) (h3 : 0 ≤ n3 ∧ n3 ≤ 65535) (h4 : 0 ≤ n4 ∧ n4 ≤ 65535) (h5 : 0 ≤ n5 ∧ n5 ≤ 65535) (h6 : 0 ≤ n6 ∧ n6 ≤ 65535) (h7 : 0 ≤ n7 ∧ n7 ≤ 65535) (h8 : 0 ≤ n8 ∧ n8 ≤ 65535) :
    Calls Tryd.prog 3 #[.int .i64 5, .agg (nineU n0 n1 n2 n3 n4 n5 n6 n7 n8)] w fun e w' => e = .returned (.bool true) ∧ Below w.heap.size w w' := by
  have HB0 := Lib.hid (show Below w.heap.size w (w.alloc (.cells (nineU n0 n1 n2 n3 n4 n5 n6 n7 n8) 23)) from (Below.refl _ _).alloc (Nat.le_refl _) _)
  have HN := Lib.hid hN
  clear hN
  have HC0 := Lib.hid (show ∀ (u : World), Below (w.heap.size + 1) (w.alloc (.cells (nineU n0 n1 n2 n3 n4 n5 n6 n7 n8) 23)) u → ∀ (i : Nat) v, (nineU n0 n1 n2 n3 n4 n5 n6 n7 n8)[i]? = some v → ∀ o1 o2, ((u.alloc o1).alloc o2).cell? ⟨w.heap.size, i, none⟩ = some v from fun u hu i v hv o1 o2 => by
    have hs : w.heap.size < u.heap.size := Nat.lt_of_lt_of_le (by rw [World.size_alloc]; omega) hu.size
    rw [World.cell?_alloc_lt _ _ _ (by rw [World.size_alloc]; show w.heap.size < _; omega), World.cell?_alloc_lt _ _ _ (by exact hs), hu.cell (by show w.heap.size < _; omega)]
    rw [World.cell?_alloc_new]
    exact hv)
  unfold nineU at *
  go_enter Tryd.func3, Tryd.ntmps3
  go_wp2_with fail
  refine (awake13 _ (HN.out.on HB0.out)).mono ?_
  rintro e w1 ⟨rfl, hB⟩
  have c0 := HC0.out w1 (by rw [World.size_alloc] at hB; exact hB) 0 _ rfl
  have c1 := HC0.out w1 (by rw [World.size_alloc] at hB; exact hB) 1 _ rfl
  have c2 := HC0.out w1 (by rw [World.size_alloc] at hB; exact hB) 2 _ rfl
  have c3 := HC0.out w1 (by rw [World.size_alloc] at hB; exact hB) 3 _ rfl
  have c4 := HC0.out w1 (by rw [World.size_alloc] at hB; exact hB) 4 _ rfl
  have c5 := HC0.out w1 (by rw [World.size_alloc] at hB; exact hB) 5 _ rfl
  have c6 := HC0.out w1 (by rw [World.size_alloc] at hB; exact hB) 6 _ rfl
  have c7 := HC0.out w1 (by rw [World.size_alloc] at hB; exact hB) 7 _ rfl
  have c8 := HC0.out w1 (by rw [World.size_alloc] at hB; exact hB) 8 _ rfl
  have HB1 := Lib.hid (HB0.out.trans (hB.mono HB0.out.size))
  clear hB
  have HH := Lib.hid (fun (u : World) => health_any n0 n1 n2 n3 n4 n5 n6 n7 n8 u h0 h1 h2 h3 h4 h5 h6 h7 h8)
  unfold nineI at HH
  have HBA := Lib.hid (show ∀ o1 o2, Below w.heap.size w ((w1.alloc o1).alloc o2) from fun o1 o2 => (HB1.out.alloc HB1.out.size o1).alloc (by have := HB1.out.size; rw [World.size_alloc]; omega) o2)
  have HE1 := Lib.hid (nearest_wI (n3 + n6) (by omega))
  have HE2 := Lib.hid (nearest_wI (n1 + n2 + n3 + n4 + n5 + n6 + n8) (by omega))
  have HXY := Lib.hid (show (n3 + n6).natAbs < 2 ^ 20 ∧ (n1 + n2 + n3 + n4 + n5 + n6 + n8).natAbs < 2 ^ 20 by omega)
  go_wp2
  refine wp_loop_rounds 10 ?_
  repeat (rw [rounds_succ]; go_wp2_with fail)
  refine (HH.out _).mono ?_
  rintro e w2 ⟨a, ha, rfl, hB2⟩
  have HB2 := Lib.hid ((HBA.out _ _).trans (hB2.mono (HBA.out _ _).size))
  clear hB2
  obtain ⟨x, hx⟩ : ∃ x, n3 + n6 = x := ⟨_, rfl⟩
  obtain ⟨y, hy⟩ : ∃ y, n1 + n2 + n3 + n4 + n5 + n6 + n8 = y := ⟨_, rfl⟩
  rw [hx] at ha HE1 ⊢
  rw [hy] at ha HE2 ⊢
  have HA := Lib.hid ha
  have HTX := Lib.hid (show Calls Tryd.prog _ #[.int .i64 5] w2 _ from text_yes 5 (by decide) w2 (HN.out.on HB2.out))
  have HSV := Lib.hid (serves_no 5 (by decide) (by decide) w2)
  have hnm : ((nmS 5).toList == [101, 100, 105, 116]) = true := by kernel_rfl
  clear ha hx hy c0 c1 c2 c3 c4 c5 c6 c7 c8 h0 h1 h2 h3 h4 h5 h6 h7 h8 HXY
  by_cases hz : y = 0
  · have hz1 : (y == 0) = true := by simpa using hz
    have HN9 := Lib.hid (nan13 a (HA.out.1 hz).1 (HA.out.1 hz).2 w2)
    clear hz
    go_wp2_with (first | ((with_reducible refine HN9.out.mono ?_); rintro e w' ⟨rfl, rfl⟩) | ((with_reducible refine HTX.out.mono ?_); rintro e w' ⟨rfl, rfl⟩) | ((with_reducible refine HSV.out.mono ?_); rintro e w' ⟨rfl, rfl⟩))
    go_ret
    exact ⟨rfl, HB2.out⟩
  · have hz1 : (y == 0) = false := by simpa using hz
    have e1 : floatOfInt .f64 x = wI x := HE1.out
    have e2 : floatOfInt .f64 y = wI y := HE2.out
    obtain ⟨q1, q2⟩ := HA.out.2 hz
    generalize wI x = p at *
    generalize wI y = q at *
    have hq : floatBits .quo .f64 p q = some a := q1
    have hoo : (FloatKind.f64.format.order a a != some .eq) = false := by show (Ieee.double.order a a != some .eq) = false; rw [q2]; rfl
    clear hz q1 q2
    go_wp2_with (first | ((with_reducible refine HTX.out.mono ?_); rintro e w' ⟨rfl, rfl⟩) | ((with_reducible refine HSV.out.mono ?_); rintro e w' ⟨rfl, rfl⟩))
    go_ret
    exact ⟨rfl, HB2.out⟩
attribute [local go_sem] run_float_arith fl_neq in
set_option maxRecDepth 100000 in
set_option maxHeartbeats 8000000 in
theorem words13_6 (n0 n1 n2 n3 n4 n5 n6 n7 n8 : Int) (w : World) (hN : Nms w) (h0 : 0 ≤ n0 ∧ n0 ≤ 65535) (h1 : 0 ≤ n1 ∧ n1 ≤ 65535) (h2 : 0 ≤ n2 ∧ n2 ≤ 65535) (h3 : 0 ≤ n3 ∧ n3 ≤ 65535) (h4 : 0 ≤ n4 ∧ n4 ≤ 65535) (h5 : 0 ≤ n5 ∧ n5 ≤ 65535) (h6 : 0 ≤ n6 ∧ n6 ≤ 65535) (h7 : 0 ≤ n7 ∧ n7 ≤ 65535) (h8 : 0 ≤ n8 ∧ n8 ≤ 65535) :
    Calls Tryd.prog 3 #[.int .i64 6, .agg (nineU n0 n1 n2 n3 n4 n5 n6 n7 n8)] w fun e w' => e = .returned (.bool true) ∧ Below w.heap.size w w' := by
  have HB0 := Lib.hid (show Below w.heap.size w (w.alloc (.cells (nineU n0 n1 n2 n3 n4 n5 n6 n7 n8) 23)) from (Below.refl _ _).alloc (Nat.le_refl _) _)
  have HN := Lib.hid hN
  clear hN
  have HC0 := Lib.hid (show ∀ (u : World), Below (w.heap.size + 1) (w.alloc (.cells (nineU n0 n1 n2 n3 n4 n5 n6 n7 n8) 23)) u → ∀ (i : Nat) v, (nineU n0 n1 n2 n3 n4 n5 n6 n7 n8)[i]? = some v → ∀ o1 o2, ((u.alloc o1).alloc o2).cell? ⟨w.heap.size, i, none⟩ = some v from fun u hu i v hv o1 o2 => by
    have hs : w.heap.size < u.heap.size := Nat.lt_of_lt_of_le (by rw [World.size_alloc]; omega) hu.size
    rw [World.cell?_alloc_lt _ _ _ (by rw [World.size_alloc]; show w.heap.size < _; omega), World.cell?_alloc_lt _ _ _ (by exact hs), hu.cell (by show w.heap.size < _; omega)]
    rw [World.cell?_alloc_new]
    exact hv)
  unfold nineU at *
  go_enter Tryd.func3, Tryd.ntmps3
  go_wp2_with fail
  refine (awake13 _ (HN.out.on HB0.out)).mono ?_
  rintro e w1 ⟨rfl, hB⟩
  have c0 := HC0.out w1 (by rw [World.size_alloc] at hB; exact hB) 0 _ rfl
  have c1 := HC0.out w1 (by rw [World.size_alloc] at hB; exact hB) 1 _ rfl
  have c2 := HC0.out w1 (by rw [World.size_alloc] at hB; exact hB) 2 _ rfl
  have c3 := HC0.out w1 (by rw [World.size_alloc] at hB; exact hB) 3 _ rfl
  have c4 := HC0.out w1 (by rw [World.size_alloc] at hB; exact hB) 4 _ rfl
  have c5 := HC0.out w1 (by rw [World.size_alloc] at hB; exact hB) 5 _ rfl
  have c6 := HC0.out w1 (by rw [World.size_alloc] at hB; exact hB) 6 _ rfl
  have c7 := HC0.out w1 (by rw [World.size_alloc] at hB; exact hB) 7 _ rfl
  have c8 := HC0.out w1 (by rw [World.size_alloc] at hB; exact hB) 8 _ rfl
  have HB1 := Lib.hid (HB0.out.trans (hB.mono HB0.out.size))
  clear hB
  have HH := Lib.hid (fun (u : World) => health_any n0 n1 n2 n3 n4 n5 n6 n7 n8 u h0 h1 h2 h3 h4 h5 h6 h7 h8)
  unfold nineI at HH
  have HBA := Lib.hid (show ∀ o1 o2, Below w.heap.size w ((w1.alloc o1).alloc o2) from fun o1 o2 => (HB1.out.alloc HB1.out.size o1).alloc (by have := HB1.out.size; rw [World.size_alloc]; omega) o2)
  have HE1 := Lib.hid (nearest_wI (n3 + n6) (by omega))
  have HE2 := Lib.hid (nearest_wI (n1 + n2 + n3 + n4 + n5 + n6 + n8) (by omega))
  have HXY := Lib.hid (show (n3 + n6).natAbs < 2 ^ 20 ∧ (n1 + n2 + n3 + n4 + n5 + n6 + n8).natAbs < 2 ^ 20 by omega)
  go_wp2
  refine wp_loop_rounds 10 ?_
  repeat (rw [rounds_succ]; go_wp2_with fail)
  refine (HH.out _).mono ?_
  rintro e w2 ⟨a, ha, rfl, hB2⟩
  have HB2 := Lib.hid ((HBA.out _ _).trans (hB2.mono (HBA.out _ _).size))
  clear hB2
  obtain ⟨x, hx⟩ : ∃ x, n3 + n6 = x := ⟨_, rfl⟩
  obtain ⟨y, hy⟩ : ∃ y, n1 + n2 + n3 + n4 + n5 + n6 + n8 = y := ⟨_, rfl⟩
  rw [hx] at ha HE1 ⊢
  rw [hy] at ha HE2 ⊢
  have HA := Lib.hid ha
  have HTX := Lib.hid (show Calls Tryd.prog _ #[.int .i64 6] w2 _ from text_yes 6 (by decide) w2 (HN.out.on HB2.out))
  have HSV := Lib.hid (serves_yes 6 (by decide) w2)
  have hnm : ((nmS 6).toList == [116, 111, 117, 99, 104, 101, 100]) = true := by kernel_rfl
  clear ha hx hy c0 c1 c2 c3 c4 c5 c6 c7 c8 h0 h1 h2 h3 h4 h5 h6 h7 h8 HXY
  by_cases hz : y = 0
  · have hz1 : (y == 0) = true := by simpa using hz
    have HN9 := Lib.hid (nan13 a (HA.out.1 hz).1 (HA.out.1 hz).2 w2)
    clear hz
    go_wp2_with (first | ((with_reducible refine HN9.out.mono ?_); rintro e w' ⟨rfl, rfl⟩) | ((with_reducible refine HTX.out.mono ?_); rintro e w' ⟨rfl, rfl⟩) | ((with_reducible refine HSV.out.mono ?_); rintro e w' ⟨rfl, rfl⟩))
    go_ret
    exact ⟨rfl, HB2.out⟩
  · have hz1 : (y == 0) = false := by simpa using hz
    have e1 : floatOfInt .f64 x = wI x := HE1.out
    have e2 : floatOfInt .f64 y = wI y := HE2.out
    obtain ⟨q1, q2⟩ := HA.out.2 hz
    generalize wI x = p at *
    generalize wI y = q at *
    have hq : floatBits .quo .f64 p q = some a := q1
    have hoo : (FloatKind.f64.format.order a a != some .eq) = false := by show (Ieee.double.order a a != some .eq) = false; rw [q2]; rfl
    clear hz q1 q2
    go_wp2_with (first | ((with_reducible refine HTX.out.mono ?_); rintro e w' ⟨rfl, rfl⟩) | ((with_reducible refine HSV.out.mono ?_); rintro e w' ⟨rfl, rfl⟩))
    go_ret
    exact ⟨rfl, HB2.out⟩
attribute [local go_sem] run_float_arith fl_neq in
set_option maxRecDepth 100000 in
set_option maxHeartbeats 8000000 in
theorem words13_7 (n0 n1 n2 n3 n4 n5 n6 n7 n8 : Int) (w : World) (hN : Nms w) (h0 : 0 ≤ n0 ∧ n0 ≤ 65535) (h1 : 0 ≤ n1 ∧ n1 ≤ 65535) (h2 : 0 ≤ n2 ∧ n2 ≤ 65535) (h3 : 0 ≤ n3 ∧ n3 ≤ 65535) (h4 : 0 ≤ n4 ∧ n4 ≤ 65535) (h5 : 0 ≤ n5 ∧ n5 ≤ 65535) (h6 : 0 ≤ n6 ∧ n6 ≤ 65535) (h7 : 0 ≤ n7 ∧ n7 ≤ 65535) (h8 : 0 ≤ n8 ∧ n8 ≤ 65535) :
    Calls Tryd.prog 3 #[.int .i64 7, .agg (nineU n0 n1 n2 n3 n4 n5 n6 n7 n8)] w fun e w' => e = .returned (.bool true) ∧ Below w.heap.size w w' := by
  have HB0 := Lib.hid (show Below w.heap.size w (w.alloc (.cells (nineU n0 n1 n2 n3 n4 n5 n6 n7 n8) 23)) from (Below.refl _ _).alloc (Nat.le_refl _) _)
  have HN := Lib.hid hN
  clear hN
  have HC0 := Lib.hid (show ∀ (u : World), Below (w.heap.size + 1) (w.alloc (.cells (nineU n0 n1 n2 n3 n4 n5 n6 n7 n8) 23)) u → ∀ (i : Nat) v, (nineU n0 n1 n2 n3 n4 n5 n6 n7 n8)[i]? = some v → ∀ o1 o2, ((u.alloc o1).alloc o2).cell? ⟨w.heap.size, i, none⟩ = some v from fun u hu i v hv o1 o2 => by
    have hs : w.heap.size < u.heap.size := Nat.lt_of_lt_of_le (by rw [World.size_alloc]; omega) hu.size
    rw [World.cell?_alloc_lt _ _ _ (by rw [World.size_alloc]; show w.heap.size < _; omega), World.cell?_alloc_lt _ _ _ (by exact hs), hu.cell (by show w.heap.size < _; omega)]
    rw [World.cell?_alloc_new]
    exact hv)
  unfold nineU at *
  go_enter Tryd.func3, Tryd.ntmps3
  go_wp2_with fail
  refine (awake13 _ (HN.out.on HB0.out)).mono ?_
  rintro e w1 ⟨rfl, hB⟩
  have c0 := HC0.out w1 (by rw [World.size_alloc] at hB; exact hB) 0 _ rfl
  have c1 := HC0.out w1 (by rw [World.size_alloc] at hB; exact hB) 1 _ rfl
  have c2 := HC0.out w1 (by rw [World.size_alloc] at hB; exact hB) 2 _ rfl
  have c3 := HC0.out w1 (by rw [World.size_alloc] at hB; exact hB) 3 _ rfl
  have c4 := HC0.out w1 (by rw [World.size_alloc] at hB; exact hB) 4 _ rfl
  have c5 := HC0.out w1 (by rw [World.size_alloc] at hB; exact hB) 5 _ rfl
  have c6 := HC0.out w1 (by rw [World.size_alloc] at hB; exact hB) 6 _ rfl
  have c7 := HC0.out w1 (by rw [World.size_alloc] at hB; exact hB) 7 _ rfl
  have c8 := HC0.out w1 (by rw [World.size_alloc] at hB; exact hB) 8 _ rfl
  have HB1 := Lib.hid (HB0.out.trans (hB.mono HB0.out.size))
  clear hB
  have HH := Lib.hid (fun (u : World) => health_any n0 n1 n2 n3 n4 n5 n6 n7 n8 u h0 h1 h2 h3 h4 h5 h6 h7 h8)
  unfold nineI at HH
  have HBA := Lib.hid (show ∀ o1 o2, Below w.heap.size w ((w1.alloc o1).alloc o2) from fun o1 o2 => (HB1.out.alloc HB1.out.size o1).alloc (by have := HB1.out.size; rw [World.size_alloc]; omega) o2)
  have HE1 := Lib.hid (nearest_wI (n3 + n6) (by omega))
  have HE2 := Lib.hid (nearest_wI (n1 + n2 + n3 + n4 + n5 + n6 + n8) (by omega))
  have HXY := Lib.hid (show (n3 + n6).natAbs < 2 ^ 20 ∧ (n1 + n2 + n3 + n4 + n5 + n6 + n8).natAbs < 2 ^ 20 by omega)
  go_wp2
  refine wp_loop_rounds 10 ?_
  repeat (rw [rounds_succ]; go_wp2_with fail)
  refine (HH.out _).mono ?_
  rintro e w2 ⟨a, ha, rfl, hB2⟩
  have HB2 := Lib.hid ((HBA.out _ _).trans (hB2.mono (HBA.out _ _).size))
  clear hB2
  obtain ⟨x, hx⟩ : ∃ x, n3 + n6 = x := ⟨_, rfl⟩
  obtain ⟨y, hy⟩ : ∃ y, n1 + n2 + n3 + n4 + n5 + n6 + n8 = y := ⟨_, rfl⟩
  rw [hx] at ha HE1 ⊢
  rw [hy] at ha HE2 ⊢
  have HA := Lib.hid ha
  have HTX := Lib.hid (show Calls Tryd.prog _ #[.int .i64 7] w2 _ from text_yes 7 (by decide) w2 (HN.out.on HB2.out))
  have HSV := Lib.hid (serves_no 7 (by decide) (by decide) w2)
  have hnm : ((nmS 7).toList == [103, 111, 110, 101]) = true := by kernel_rfl
  clear ha hx hy c0 c1 c2 c3 c4 c5 c6 c7 c8 h0 h1 h2 h3 h4 h5 h6 h7 h8 HXY
  by_cases hz : y = 0
  · have hz1 : (y == 0) = true := by simpa using hz
    have HN9 := Lib.hid (nan13 a (HA.out.1 hz).1 (HA.out.1 hz).2 w2)
    clear hz
    go_wp2_with (first | ((with_reducible refine HN9.out.mono ?_); rintro e w' ⟨rfl, rfl⟩) | ((with_reducible refine HTX.out.mono ?_); rintro e w' ⟨rfl, rfl⟩) | ((with_reducible refine HSV.out.mono ?_); rintro e w' ⟨rfl, rfl⟩))
    go_ret
    exact ⟨rfl, HB2.out⟩
  · have hz1 : (y == 0) = false := by simpa using hz
    have e1 : floatOfInt .f64 x = wI x := HE1.out
    have e2 : floatOfInt .f64 y = wI y := HE2.out
    obtain ⟨q1, q2⟩ := HA.out.2 hz
    generalize wI x = p at *
    generalize wI y = q at *
    have hq : floatBits .quo .f64 p q = some a := q1
    have hoo : (FloatKind.f64.format.order a a != some .eq) = false := by show (Ieee.double.order a a != some .eq) = false; rw [q2]; rfl
    clear hz q1 q2
    go_wp2_with (first | ((with_reducible refine HTX.out.mono ?_); rintro e w' ⟨rfl, rfl⟩) | ((with_reducible refine HSV.out.mono ?_); rintro e w' ⟨rfl, rfl⟩))
    go_ret
    exact ⟨rfl, HB2.out⟩
attribute [local go_sem] run_float_arith fl_neq in
set_option maxRecDepth 100000 in
set_option maxHeartbeats 8000000 in
theorem words13_8 (n0 n1 n2 n3 n4 n5 n6 n7 n8 : Int) (w : World) (hN : Nms w) (h0 : 0 ≤ n0 ∧ n0 ≤ 65535) (h1 : 0 ≤ n1 ∧ n1 ≤ 65535) (h2 : 0 ≤ n2 ∧ n2 ≤ 65535) (h3 : 0 ≤ n3 ∧ n3 ≤ 65535) (h4 : 0 ≤ n4 ∧ n4 ≤ 65535) (h5 : 0 ≤ n5 ∧ n5 ≤ 65535) (h6 : 0 ≤ n6 ∧ n6 ≤ 65535) (h7 : 0 ≤ n7 ∧ n7 ≤ 65535) (h8 : 0 ≤ n8 ∧ n8 ≤ 65535) :
    Calls Tryd.prog 3 #[.int .i64 8, .agg (nineU n0 n1 n2 n3 n4 n5 n6 n7 n8)] w fun e w' => e = .returned (.bool true) ∧ Below w.heap.size w w' := by
  have HB0 := Lib.hid (show Below w.heap.size w (w.alloc (.cells (nineU n0 n1 n2 n3 n4 n5 n6 n7 n8) 23)) from (Below.refl _ _).alloc (Nat.le_refl _) _)
  have HN := Lib.hid hN
  clear hN
  have HC0 := Lib.hid (show ∀ (u : World), Below (w.heap.size + 1) (w.alloc (.cells (nineU n0 n1 n2 n3 n4 n5 n6 n7 n8) 23)) u → ∀ (i : Nat) v, (nineU n0 n1 n2 n3 n4 n5 n6 n7 n8)[i]? = some v → ∀ o1 o2, ((u.alloc o1).alloc o2).cell? ⟨w.heap.size, i, none⟩ = some v from fun u hu i v hv o1 o2 => by
    have hs : w.heap.size < u.heap.size := Nat.lt_of_lt_of_le (by rw [World.size_alloc]; omega) hu.size
    rw [World.cell?_alloc_lt _ _ _ (by rw [World.size_alloc]; show w.heap.size < _; omega), World.cell?_alloc_lt _ _ _ (by exact hs), hu.cell (by show w.heap.size < _; omega)]
    rw [World.cell?_alloc_new]
    exact hv)
  unfold nineU at *
  go_enter Tryd.func3, Tryd.ntmps3
  go_wp2_with fail
  refine (awake13 _ (HN.out.on HB0.out)).mono ?_
  rintro e w1 ⟨rfl, hB⟩
  have c0 := HC0.out w1 (by rw [World.size_alloc] at hB; exact hB) 0 _ rfl
  have c1 := HC0.out w1 (by rw [World.size_alloc] at hB; exact hB) 1 _ rfl
  have c2 := HC0.out w1 (by rw [World.size_alloc] at hB; exact hB) 2 _ rfl
  have c3 := HC0.out w1 (by rw [World.size_alloc] at hB; exact hB) 3 _ rfl
  have c4 := HC0.out w1 (by rw [World.size_alloc] at hB; exact hB) 4 _ rfl
  have c5 := HC0.out w1 (by rw [World.size_alloc] at hB; exact hB) 5 _ rfl
  have c6 := HC0.out w1 (by rw [World.size_alloc] at hB; exact hB) 6 _ rfl
  have c7 := HC0.out w1 (by rw [World.size_alloc] at hB; exact hB) 7 _ rfl
  have c8 := HC0.out w1 (by rw [World.size_alloc] at hB; exact hB) 8 _ rfl
  have HB1 := Lib.hid (HB0.out.trans (hB.mono HB0.out.size))
  clear hB
  have HH := Lib.hid (fun (u : World) => health_any n0 n1 n2 n3 n4 n5 n6 n7 n8 u h0 h1 h2 h3 h4 h5 h6 h7 h8)
  unfold nineI at HH
  have HBA := Lib.hid (show ∀ o1 o2, Below w.heap.size w ((w1.alloc o1).alloc o2) from fun o1 o2 => (HB1.out.alloc HB1.out.size o1).alloc (by have := HB1.out.size; rw [World.size_alloc]; omega) o2)
  have HE1 := Lib.hid (nearest_wI (n3 + n6) (by omega))
  have HE2 := Lib.hid (nearest_wI (n1 + n2 + n3 + n4 + n5 + n6 + n8) (by omega))
  have HXY := Lib.hid (show (n3 + n6).natAbs < 2 ^ 20 ∧ (n1 + n2 + n3 + n4 + n5 + n6 + n8).natAbs < 2 ^ 20 by omega)
  go_wp2
  refine wp_loop_rounds 10 ?_
  repeat (rw [rounds_succ]; go_wp2_with fail)
  refine (HH.out _).mono ?_
  rintro e w2 ⟨a, ha, rfl, hB2⟩
  have HB2 := Lib.hid ((HBA.out _ _).trans (hB2.mono (HBA.out _ _).size))
  clear hB2
  obtain ⟨x, hx⟩ : ∃ x, n3 + n6 = x := ⟨_, rfl⟩
  obtain ⟨y, hy⟩ : ∃ y, n1 + n2 + n3 + n4 + n5 + n6 + n8 = y := ⟨_, rfl⟩
  rw [hx] at ha HE1 ⊢
  rw [hy] at ha HE2 ⊢
  have HA := Lib.hid ha
  have HTX := Lib.hid (show Calls Tryd.prog _ #[.int .i64 8] w2 _ from text_yes 8 (by decide) w2 (HN.out.on HB2.out))
  have HSV := Lib.hid (serves_no 8 (by decide) (by decide) w2)
  have hnm : ((nmS 8).toList == [114, 101, 98, 111, 114, 110]) = true := by kernel_rfl
  clear ha hx hy c0 c1 c2 c3 c4 c5 c6 c7 c8 h0 h1 h2 h3 h4 h5 h6 h7 h8 HXY
  by_cases hz : y = 0
  · have hz1 : (y == 0) = true := by simpa using hz
    have HN9 := Lib.hid (nan13 a (HA.out.1 hz).1 (HA.out.1 hz).2 w2)
    clear hz
    go_wp2_with (first | ((with_reducible refine HN9.out.mono ?_); rintro e w' ⟨rfl, rfl⟩) | ((with_reducible refine HTX.out.mono ?_); rintro e w' ⟨rfl, rfl⟩) | ((with_reducible refine HSV.out.mono ?_); rintro e w' ⟨rfl, rfl⟩))
    go_ret
    exact ⟨rfl, HB2.out⟩
  · have hz1 : (y == 0) = false := by simpa using hz
    have e1 : floatOfInt .f64 x = wI x := HE1.out
    have e2 : floatOfInt .f64 y = wI y := HE2.out
    obtain ⟨q1, q2⟩ := HA.out.2 hz
    generalize wI x = p at *
    generalize wI y = q at *
    have hq : floatBits .quo .f64 p q = some a := q1
    have hoo : (FloatKind.f64.format.order a a != some .eq) = false := by show (Ieee.double.order a a != some .eq) = false; rw [q2]; rfl
    clear hz q1 q2
    go_wp2_with (first | ((with_reducible refine HTX.out.mono ?_); rintro e w' ⟨rfl, rfl⟩) | ((with_reducible refine HSV.out.mono ?_); rintro e w' ⟨rfl, rfl⟩))
    go_ret
    exact ⟨rfl, HB2.out⟩
attribute [local go_sem] run_float_arith fl_neq in
set_option maxRecDepth 100000 in
set_option maxHeartbeats 8000000 in
theorem words13_neg (k n0 n1 n2 n3 n4 n5 n6 n7 n8 : Int) (w : World) (hN : Nms w) (h0 : 0 ≤ n0 ∧ n0 ≤ 65535) (h1 : 0 ≤ n1 ∧ n1 ≤ 65535) (h2 : 0 ≤ n2 ∧ n2 ≤ 65535) (h3 : 0 ≤ n3 ∧ n3 ≤ 65535) (h4 : 0 ≤ n4 ∧ n4 ≤ 65535) (h5 : 0 ≤ n5 ∧ n5 ≤ 65535) (h6 : 0 ≤ n6 ∧ n6 ≤ 65535) (h7 : 0 ≤ n7 ∧ n7 ≤ 65535) (h8 : 0 ≤ n8 ∧ n8 ≤ 65535) (hk : k < 0) :
    Calls Tryd.prog 3 #[.int .i64 k, .agg (nineU n0 n1 n2 n3 n4 n5 n6 n7 n8)] w fun e w' => e = .returned (.bool true) ∧ Below w.heap.size w w' := by
  have HB0 := Lib.hid (show Below w.heap.size w (w.alloc (.cells (nineU n0 n1 n2 n3 n4 n5 n6 n7 n8) 23)) from (Below.refl _ _).alloc (Nat.le_refl _) _)
  have HN := Lib.hid hN
  clear hN
  have HC0 := Lib.hid (show ∀ (u : World), Below (w.heap.size + 1) (w.alloc (.cells (nineU n0 n1 n2 n3 n4 n5 n6 n7 n8) 23)) u → ∀ (i : Nat) v, (nineU n0 n1 n2 n3 n4 n5 n6 n7 n8)[i]? = some v → ∀ o1 o2, ((u.alloc o1).alloc o2).cell? ⟨w.heap.size, i, none⟩ = some v from fun u hu i v hv o1 o2 => by
    have hs : w.heap.size < u.heap.size := Nat.lt_of_lt_of_le (by rw [World.size_alloc]; omega) hu.size
    rw [World.cell?_alloc_lt _ _ _ (by rw [World.size_alloc]; show w.heap.size < _; omega), World.cell?_alloc_lt _ _ _ (by exact hs), hu.cell (by show w.heap.size < _; omega)]
    rw [World.cell?_alloc_new]
    exact hv)
  unfold nineU at *
  go_enter Tryd.func3, Tryd.ntmps3
  go_wp2_with fail
  refine (awake13 _ (HN.out.on HB0.out)).mono ?_
  rintro e w1 ⟨rfl, hB⟩
  have c0 := HC0.out w1 (by rw [World.size_alloc] at hB; exact hB) 0 _ rfl
  have c1 := HC0.out w1 (by rw [World.size_alloc] at hB; exact hB) 1 _ rfl
  have c2 := HC0.out w1 (by rw [World.size_alloc] at hB; exact hB) 2 _ rfl
  have c3 := HC0.out w1 (by rw [World.size_alloc] at hB; exact hB) 3 _ rfl
  have c4 := HC0.out w1 (by rw [World.size_alloc] at hB; exact hB) 4 _ rfl
  have c5 := HC0.out w1 (by rw [World.size_alloc] at hB; exact hB) 5 _ rfl
  have c6 := HC0.out w1 (by rw [World.size_alloc] at hB; exact hB) 6 _ rfl
  have c7 := HC0.out w1 (by rw [World.size_alloc] at hB; exact hB) 7 _ rfl
  have c8 := HC0.out w1 (by rw [World.size_alloc] at hB; exact hB) 8 _ rfl
  have HB1 := Lib.hid (HB0.out.trans (hB.mono HB0.out.size))
  clear hB
  have HH := Lib.hid (fun (u : World) => health_any n0 n1 n2 n3 n4 n5 n6 n7 n8 u h0 h1 h2 h3 h4 h5 h6 h7 h8)
  unfold nineI at HH
  have HBA := Lib.hid (show ∀ o1 o2, Below w.heap.size w ((w1.alloc o1).alloc o2) from fun o1 o2 => (HB1.out.alloc HB1.out.size o1).alloc (by have := HB1.out.size; rw [World.size_alloc]; omega) o2)
  have HE1 := Lib.hid (nearest_wI (n3 + n6) (by omega))
  have HE2 := Lib.hid (nearest_wI (n1 + n2 + n3 + n4 + n5 + n6 + n8) (by omega))
  have HXY := Lib.hid (show (n3 + n6).natAbs < 2 ^ 20 ∧ (n1 + n2 + n3 + n4 + n5 + n6 + n8).natAbs < 2 ^ 20 by omega)
  have HK := Lib.hid hk
  have hk3 : (k == 3) = false := by simp; omega
  have hk6 : (k == 6) = false := by simp; omega
  have hd : decide (0 ≤ k) = false := decide_eq_false (by omega)
  have hk1 : ¬ 0 ≤ k := by omega
  clear hk
  go_wp2
  refine wp_loop_rounds 10 ?_
  repeat (rw [rounds_succ]; go_wp2_with fail)
  refine (HH.out _).mono ?_
  rintro e w2 ⟨a, ha, rfl, hB2⟩
  have HB2 := Lib.hid ((HBA.out _ _).trans (hB2.mono (HBA.out _ _).size))
  clear hB2
  obtain ⟨x, hx⟩ : ∃ x, n3 + n6 = x := ⟨_, rfl⟩
  obtain ⟨y, hy⟩ : ∃ y, n1 + n2 + n3 + n4 + n5 + n6 + n8 = y := ⟨_, rfl⟩
  rw [hx] at ha HE1 ⊢
  rw [hy] at ha HE2 ⊢
  have HA := Lib.hid ha
  have HTX := Lib.hid (text_no k (by have := HK.out; omega) w2)
  have HSV := Lib.hid (serves_no k (by have := HK.out; omega) (by have := HK.out; omega) w2)
  clear ha hx hy c0 c1 c2 c3 c4 c5 c6 c7 c8 h0 h1 h2 h3 h4 h5 h6 h7 h8 HXY
  by_cases hz : y = 0
  · have hz1 : (y == 0) = true := by simpa using hz
    have HN9 := Lib.hid (nan13 a (HA.out.1 hz).1 (HA.out.1 hz).2 w2)
    clear hz
    go_wp2_with (first | ((with_reducible refine HN9.out.mono ?_); rintro e w' ⟨rfl, rfl⟩) | ((with_reducible refine HTX.out.mono ?_); rintro e w' ⟨rfl, rfl⟩) | ((with_reducible refine HSV.out.mono ?_); rintro e w' ⟨rfl, rfl⟩))
    go_ret
    exact ⟨rfl, HB2.out⟩
  · have hz1 : (y == 0) = false := by simpa using hz
    have e1 : floatOfInt .f64 x = wI x := HE1.out
    have e2 : floatOfInt .f64 y = wI y := HE2.out
    obtain ⟨q1, q2⟩ := HA.out.2 hz
    generalize wI x = p at *
    generalize wI y = q at *
    have hq : floatBits .quo .f64 p q = some a := q1
    have hoo : (FloatKind.f64.format.order a a != some .eq) = false := by show (Ieee.double.order a a != some .eq) = false; rw [q2]; rfl
    clear hz q1 q2
    go_wp2_with (first | ((with_reducible refine HTX.out.mono ?_); rintro e w' ⟨rfl, rfl⟩) | ((with_reducible refine HSV.out.mono ?_); rintro e w' ⟨rfl, rfl⟩))
    go_ret
    exact ⟨rfl, HB2.out⟩
attribute [local go_sem] run_float_arith fl_neq in
set_option maxRecDepth 100000 in
set_option maxHeartbeats 8000000 in
theorem words13_big (k n0 n1 n2 n3 n4 n5 n6 n7 n8 : Int) (w : World) (hN : Nms w) (h0 : 0 ≤ n0 ∧ n0 ≤ 65535) (h1 : 0 ≤ n1 ∧ n1 ≤ 65535) (h2 : 0 ≤ n2 ∧ n2 ≤ 65535) (h3 : 0 ≤ n3 ∧ n3 ≤ 65535) (h4 : 0 ≤ n4 ∧ n4 ≤ 65535) (h5 : 0 ≤ n5 ∧ n5 ≤ 65535) (h6 : 0 ≤ n6 ∧ n6 ≤ 65535) (h7 : 0 ≤ n7 ∧ n7 ≤ 65535) (h8 : 0 ≤ n8 ∧ n8 ≤ 65535) (hk : 8 < k) :
    Calls Tryd.prog 3 #[.int .i64 k, .agg (nineU n0 n1 n2 n3 n4 n5 n6 n7 n8)] w fun e w' => e = .returned (.bool true) ∧ Below w.heap.size w w' := by
  have HB0 := Lib.hid (show Below w.heap.size w (w.alloc (.cells (nineU n0 n1 n2 n3 n4 n5 n6 n7 n8) 23)) from (Below.refl _ _).alloc (Nat.le_refl _) _)
  have HN := Lib.hid hN
  clear hN
  have HC0 := Lib.hid (show ∀ (u : World), Below (w.heap.size + 1) (w.alloc (.cells (nineU n0 n1 n2 n3 n4 n5 n6 n7 n8) 23)) u → ∀ (i : Nat) v, (nineU n0 n1 n2 n3 n4 n5 n6 n7 n8)[i]? = some v → ∀ o1 o2, ((u.alloc o1).alloc o2).cell? ⟨w.heap.size, i, none⟩ = some v from fun u hu i v hv o1 o2 => by
    have hs : w.heap.size < u.heap.size := Nat.lt_of_lt_of_le (by rw [World.size_alloc]; omega) hu.size
    rw [World.cell?_alloc_lt _ _ _ (by rw [World.size_alloc]; show w.heap.size < _; omega), World.cell?_alloc_lt _ _ _ (by exact hs), hu.cell (by show w.heap.size < _; omega)]
    rw [World.cell?_alloc_new]
    exact hv)
  unfold nineU at *
  go_enter Tryd.func3, Tryd.ntmps3
  go_wp2_with fail
  refine (awake13 _ (HN.out.on HB0.out)).mono ?_
  rintro e w1 ⟨rfl, hB⟩
  have c0 := HC0.out w1 (by rw [World.size_alloc] at hB; exact hB) 0 _ rfl
  have c1 := HC0.out w1 (by rw [World.size_alloc] at hB; exact hB) 1 _ rfl
  have c2 := HC0.out w1 (by rw [World.size_alloc] at hB; exact hB) 2 _ rfl
  have c3 := HC0.out w1 (by rw [World.size_alloc] at hB; exact hB) 3 _ rfl
  have c4 := HC0.out w1 (by rw [World.size_alloc] at hB; exact hB) 4 _ rfl
  have c5 := HC0.out w1 (by rw [World.size_alloc] at hB; exact hB) 5 _ rfl
  have c6 := HC0.out w1 (by rw [World.size_alloc] at hB; exact hB) 6 _ rfl
  have c7 := HC0.out w1 (by rw [World.size_alloc] at hB; exact hB) 7 _ rfl
  have c8 := HC0.out w1 (by rw [World.size_alloc] at hB; exact hB) 8 _ rfl
  have HB1 := Lib.hid (HB0.out.trans (hB.mono HB0.out.size))
  clear hB
  have HH := Lib.hid (fun (u : World) => health_any n0 n1 n2 n3 n4 n5 n6 n7 n8 u h0 h1 h2 h3 h4 h5 h6 h7 h8)
  unfold nineI at HH
  have HBA := Lib.hid (show ∀ o1 o2, Below w.heap.size w ((w1.alloc o1).alloc o2) from fun o1 o2 => (HB1.out.alloc HB1.out.size o1).alloc (by have := HB1.out.size; rw [World.size_alloc]; omega) o2)
  have HE1 := Lib.hid (nearest_wI (n3 + n6) (by omega))
  have HE2 := Lib.hid (nearest_wI (n1 + n2 + n3 + n4 + n5 + n6 + n8) (by omega))
  have HXY := Lib.hid (show (n3 + n6).natAbs < 2 ^ 20 ∧ (n1 + n2 + n3 + n4 + n5 + n6 + n8).natAbs < 2 ^ 20 by omega)
  have HK := Lib.hid hk
  have hk3 : (k == 3) = false := by simp; omega
  have hk6 : (k == 6) = false := by simp; omega
  have hd0 : decide (0 ≤ k) = true := decide_eq_true (by omega)
  have hd : decide (k < 9) = false := decide_eq_false (by omega)
  have hk0 : 0 ≤ k := by omega
  have hk1 : ¬ k < 9 := by omega
  clear hk
  go_wp2
  refine wp_loop_rounds 10 ?_
  repeat (rw [rounds_succ]; go_wp2_with fail)
  refine (HH.out _).mono ?_
  rintro e w2 ⟨a, ha, rfl, hB2⟩
  have HB2 := Lib.hid ((HBA.out _ _).trans (hB2.mono (HBA.out _ _).size))
  clear hB2
  obtain ⟨x, hx⟩ : ∃ x, n3 + n6 = x := ⟨_, rfl⟩
  obtain ⟨y, hy⟩ : ∃ y, n1 + n2 + n3 + n4 + n5 + n6 + n8 = y := ⟨_, rfl⟩
  rw [hx] at ha HE1 ⊢
  rw [hy] at ha HE2 ⊢
  have HA := Lib.hid ha
  have HTX := Lib.hid (text_no k (by have := HK.out; omega) w2)
  have HSV := Lib.hid (serves_no k (by have := HK.out; omega) (by have := HK.out; omega) w2)
  clear ha hx hy c0 c1 c2 c3 c4 c5 c6 c7 c8 h0 h1 h2 h3 h4 h5 h6 h7 h8 HXY
  by_cases hz : y = 0
  · have hz1 : (y == 0) = true := by simpa using hz
    have HN9 := Lib.hid (nan13 a (HA.out.1 hz).1 (HA.out.1 hz).2 w2)
    clear hz
    go_wp2_with (first | ((with_reducible refine HN9.out.mono ?_); rintro e w' ⟨rfl, rfl⟩) | ((with_reducible refine HTX.out.mono ?_); rintro e w' ⟨rfl, rfl⟩) | ((with_reducible refine HSV.out.mono ?_); rintro e w' ⟨rfl, rfl⟩))
    go_ret
    exact ⟨rfl, HB2.out⟩
  · have hz1 : (y == 0) = false := by simpa using hz
    have e1 : floatOfInt .f64 x = wI x := HE1.out
    have e2 : floatOfInt .f64 y = wI y := HE2.out
    obtain ⟨q1, q2⟩ := HA.out.2 hz
    generalize wI x = p at *
    generalize wI y = q at *
    have hq : floatBits .quo .f64 p q = some a := q1
    have hoo : (FloatKind.f64.format.order a a != some .eq) = false := by show (Ieee.double.order a a != some .eq) = false; rw [q2]; rfl
    clear hz q1 q2
    go_wp2_with (first | ((with_reducible refine HTX.out.mono ?_); rintro e w' ⟨rfl, rfl⟩) | ((with_reducible refine HSV.out.mono ?_); rintro e w' ⟨rfl, rfl⟩))
    go_ret
    exact ⟨rfl, HB2.out⟩
/-- JudgeWords is true. -/
theorem words13 (k n0 n1 n2 n3 n4 n5 n6 n7 n8 : Int) (w : World) (hN : Nms w) (h0 : 0 ≤ n0 ∧ n0 ≤ 65535) (h1 : 0 ≤ n1 ∧ n1 ≤ 65535) (h2 : 0 ≤ n2 ∧ n2 ≤ 65535) (h3 : 0 ≤ n3 ∧ n3 ≤ 65535) (h4 : 0 ≤ n4 ∧ n4 ≤ 65535) (h5 : 0 ≤ n5 ∧ n5 ≤ 65535) (h6 : 0 ≤ n6 ∧ n6 ≤ 65535) (h7 : 0 ≤ n7 ∧ n7 ≤ 65535) (h8 : 0 ≤ n8 ∧ n8 ≤ 65535) :
    Calls Tryd.prog 3 #[.int .i64 k, .agg (nineU n0 n1 n2 n3 n4 n5 n6 n7 n8)] w fun e w' => e = .returned (.bool true) ∧ Below w.heap.size w w' := by
  by_cases hn : k < 0
  · exact words13_neg k n0 n1 n2 n3 n4 n5 n6 n7 n8 w hN h0 h1 h2 h3 h4 h5 h6 h7 h8 hn
  by_cases hb : 8 < k
  · exact words13_big k n0 n1 n2 n3 n4 n5 n6 n7 n8 w hN h0 h1 h2 h3 h4 h5 h6 h7 h8 hb
  have hc : k = 0 ∨ k = 1 ∨ k = 2 ∨ k = 3 ∨ k = 4 ∨ k = 5 ∨ k = 6 ∨ k = 7 ∨ k = 8 := by omega
  rcases hc with rfl | rfl | rfl | rfl | rfl | rfl | rfl | rfl | rfl
  · exact words13_0 n0 n1 n2 n3 n4 n5 n6 n7 n8 w hN h0 h1 h2 h3 h4 h5 h6 h7 h8
  · exact words13_1 n0 n1 n2 n3 n4 n5 n6 n7 n8 w hN h0 h1 h2 h3 h4 h5 h6 h7 h8
  · exact words13_2 n0 n1 n2 n3 n4 n5 n6 n7 n8 w hN h0 h1 h2 h3 h4 h5 h6 h7 h8
  · exact words13_3 n0 n1 n2 n3 n4 n5 n6 n7 n8 w hN h0 h1 h2 h3 h4 h5 h6 h7 h8
  · exact words13_4 n0 n1 n2 n3 n4 n5 n6 n7 n8 w hN h0 h1 h2 h3 h4 h5 h6 h7 h8
  · exact words13_5 n0 n1 n2 n3 n4 n5 n6 n7 n8 w hN h0 h1 h2 h3 h4 h5 h6 h7 h8
  · exact words13_6 n0 n1 n2 n3 n4 n5 n6 n7 n8 w hN h0 h1 h2 h3 h4 h5 h6 h7 h8
  · exact words13_7 n0 n1 n2 n3 n4 n5 n6 n7 n8 w hN h0 h1 h2 h3 h4 h5 h6 h7 h8
  · exact words13_8 n0 n1 n2 n3 n4 n5 n6 n7 n8 w hN h0 h1 h2 h3 h4 h5 h6 h7 h8
end Go.Proofs.YtnmopjefjpifoaaDoor
