/- The statement GaugeRates, walked over the premises. -/
import Derived.Test.YtkkcphjielkmoaaGaugeR
import Derived.Deep.QuietTactic
import Derived.BigQuiet
set_option linter.unusedSimpArgs false
set_option linter.unusedVariables false
namespace Go.Proofs.Ytkkcphjielkmoaa
open Go Go.RowKit
theorem bel_step5 {w0 w w' : World} (h : Below w0.heap.size w0 w) (k : Below w.heap.size w w') : Below w0.heap.size w0 w' := h.trans (k.mono h.size)
theorem clsQ (S : GaugeSpec) (a N c : Nat) (w : World) (h : a < 18446744073709551616) (hc : clsB a = c) : Calls Try.prog 9 #[.float .f64 a] (w.drewN N) fun e w'' => e = .returned (.int .i64 ((c : Nat) : Int)) ∧ ∃ m, w'' = w.drewN m :=
  Calls.quiet_of ((S.cls a _ h).mono fun e w' ⟨he, hd⟩ => ⟨he.trans (by rw [hc]), hd⟩)
theorem w64_in (n : Int) (h : n.natAbs < 2 ^ 62) : wrap64 n = n := by unfold wrap64; omega
theorem mul_small {x y : Int} (h : x.natAbs < 2 ^ 20) (k : y.natAbs < 2 ^ 20) : (x * y).natAbs < 2 ^ 40 := by
  rw [Int.natAbs_mul]
  have := Nat.mul_lt_mul_of_lt_of_lt h k
  omega
/-- Rates stand to each other as the products of the one's number and the other's. -/
theorem ord_s {x y z u : Int} {s t : Nat} (h1 : RateR x y s) (h2 : RateR z u t) (hy : y ≠ 0) (hu : u ≠ 0) (hx2 : x.natAbs < 2 ^ 20) (hy2 : y.natAbs < 2 ^ 20) (hz2 : z.natAbs < 2 ^ 20) (hu2 : u.natAbs < 2 ^ 20) (hs : decide (y < 0) = decide (u < 0)) :
    ∃ L E, (FloatKind.f64.format.order s t == some Ordering.lt) = L ∧ (FloatKind.f64.format.order s t == some Ordering.eq) = E ∧ decide (x * u < z * y) = L ∧ (x * u == z * y) = E := by
  have h : FloatKind.f64.format.order s t = _ := rate_order h1 h2 hy hu hx2 hy2 hz2 hu2
  rw [if_pos hs] at h
  exact ⟨_, _, by rw [h, cmp_lt], by rw [h, cmp_eq], rfl, rfl⟩
theorem ord_d {x y z u : Int} {s t : Nat} (h1 : RateR x y s) (h2 : RateR z u t) (hy : y ≠ 0) (hu : u ≠ 0) (hx2 : x.natAbs < 2 ^ 20) (hy2 : y.natAbs < 2 ^ 20) (hz2 : z.natAbs < 2 ^ 20) (hu2 : u.natAbs < 2 ^ 20) (hs : ¬ decide (y < 0) = decide (u < 0)) :
    ∃ L E, (FloatKind.f64.format.order s t == some Ordering.lt) = L ∧ (FloatKind.f64.format.order s t == some Ordering.eq) = E ∧ decide (z * y < x * u) = L ∧ (-(x * u) == -(z * y)) = E ∧ (x * u == z * y) = E := by
  have h : FloatKind.f64.format.order s t = _ := rate_order h1 h2 hy hu hx2 hy2 hz2 hu2
  rw [if_neg hs] at h
  refine ⟨_, _, by rw [h, cmp_lt], by rw [h, cmp_eq], ?_, rfl, ?_⟩
  · exact decide_eq_decide.mpr (by omega)
  · rw [Bool.eq_iff_iff]; simp only [beq_iff_eq]; omega
attribute [local go_sem] fl_eql fl_neq fl_lss fl_gtr conv_IF
set_option maxRecDepth 100000 in
set_option maxHeartbeats 8000000 in
theorem gr_a (S : GaugeSpec) (a b c d x y z u : Int) (hx : a.tmod 1048576 = x) (hy : b.tmod 1048576 = y) (hz : c.tmod 1048576 = z) (hu : d.tmod 1048576 = u) (w : World)
    (ha : -2147483648 ≤ a ∧ a ≤ 2147483647) (hb : -2147483648 ≤ b ∧ b ≤ 2147483647) (hc : -2147483648 ≤ c ∧ c ≤ 2147483647) (hd : -2147483648 ≤ d ∧ d ≤ 2147483647) (bx : x.natAbs < 2 ^ 20) (by_ : y.natAbs < 2 ^ 20) (bz : z.natAbs < 2 ^ 20) (bu : u.natAbs < 2 ^ 20) :
    Calls Try.prog 5 #[.agg #[.int .i32 a, .int .i32 b, .int .i32 c, .int .i32 d]] w fun e w' => e = .returned (.bool true) ∧ Below w.heap.size w w' := by
  have HB0 := Lib.hid (show Below w.heap.size w (w.alloc (.cells #[.int .i32 a, .int .i32 b, .int .i32 c, .int .i32 d] 37)) from (Below.refl _ _).alloc (Nat.le_refl _) _)
  have c0 : ∀ i v, (#[.int .i32 a, .int .i32 b, .int .i32 c, .int .i32 d] : Array Value)[i]? = some v → (w.alloc (.cells #[.int .i32 a, .int .i32 b, .int .i32 c, .int .i32 d] 37)).cell? ⟨w.heap.size, i, none⟩ = some v := fun i v h => by rw [World.cell?_alloc_new]; exact h
  have HC := Lib.hid c0
  have hs0 : w.heap.size < (w.alloc (.cells #[.int .i32 a, .int .i32 b, .int .i32 c, .int .i32 d] 37)).heap.size := by rw [World.size_alloc]; omega
  have HS := Lib.hid S
  have w1' : IntKind.i64.wrap a = a := IntWalk.i64_in _ (by omega)
  have w2' : IntKind.i64.wrap b = b := IntWalk.i64_in _ (by omega)
  have w3' : IntKind.i64.wrap c = c := IntWalk.i64_in _ (by omega)
  have w4' : IntKind.i64.wrap d = d := IntWalk.i64_in _ (by omega)
  have HX := Lib.hid hx
  have HY := Lib.hid hy
  have HZ := Lib.hid hz
  have HU := Lib.hid hu
  clear S c0 hx hy hz hu
  go_enter Try.func5, Try.ntmps5
  go_wp2_with fail
  refine (awake5 HS.out _ _ (Below.refl _ _)).mono ?_
  rintro e w1 ⟨rfl, hB1⟩
  have x0 : w1.cell? ⟨w.heap.size, 0, none⟩ = some (.int .i32 a) := by rw [hB1.cell (by exact hs0)]; exact HC.out 0 _ rfl
  have x1 : w1.cell? ⟨w.heap.size, 1, none⟩ = some (.int .i32 b) := by rw [hB1.cell (by exact hs0)]; exact HC.out 1 _ rfl
  have x2 : w1.cell? ⟨w.heap.size, 2, none⟩ = some (.int .i32 c) := by rw [hB1.cell (by exact hs0)]; exact HC.out 2 _ rfl
  have x3 : w1.cell? ⟨w.heap.size, 3, none⟩ = some (.int .i32 d) := by rw [hB1.cell (by exact hs0)]; exact HC.out 3 _ rfl
  have HB1 := Lib.hid (bel_step5 HB0.out hB1)
  clear hB1
  go_wp2
  go_quiet (fail)
  simp only [HX.out, HY.out, HZ.out, HU.out]
  have HB2 := Lib.hid (below_drewN HB1.out nq)
  generalize w1.drewN nq = w2 at *
  clear HB1 HB0 HC hs0 HX HY HZ HU x0 x1 x2 x3 ha hb hc hd w1' w2' w3' w4'
  go_wp2_with fail
  refine (rateG HS.out x y w2 bx by_).mono ?_
  rintro e w3 ⟨s, hs, rfl, hD3⟩
  have HB3 := Lib.hid (HB2.out.trans (hD3.below _))
  clear hD3
  have HRS := Lib.hid hs
  clear hs
  go_wp2_with fail
  refine (rateG HS.out z u w3 bz bu).mono ?_
  rintro e w4 ⟨t, ht, rfl, hD4⟩
  have HB4 := Lib.hid (HB3.out.trans (hD4.below _))
  clear hD4
  have HRT := Lib.hid ht
  clear ht
  by_cases h0 : x < 0
  · have hx0 : decide (x < 0) = true := decide_eq_true h0
    have hx1 : decide (0 ≤ x) = false := decide_eq_false (by omega)
    have hx2 : decide (x ≥ 0) = false := decide_eq_false (by omega)
    by_cases hy0 : y = 0
    · subst hy0
      have hcs : clsB s = 0 := by rw [HRS.out.2.2 rfl]; first | (rw [if_pos (by omega)]) | (rw [if_neg (by omega), if_pos (by omega)]) | (rw [if_neg (by omega), if_neg (by omega)]) | (rw [if_pos (by omega)])
      have hsl := HRS.out.1
      have fx0 : decide (x < 0) = true := decide_eq_true (by omega)
      have fx1 : decide (x > 0) = false := decide_eq_false (by omega)
      have fx2 : decide (0 < x) = false := decide_eq_false (by omega)
      have fx3 : (x == 0) = false := by simp; omega
      go_wp2_with fail
      refine (HS.out.never x z w4 h0).mono ?_
      rintro e w5 ⟨rfl, hD5⟩
      have HB5 := Lib.hid (HB4.out.trans (hD5.below _))
      clear hD5
      go_wp2_with fail
      refine (HS.out.cls infR w5 (by decide)).mono ?_
      rintro e w6 ⟨rfl, hD6⟩
      have HB6 := Lib.hid (HB5.out.trans (hD6.below _))
      clear hD6
      rw [show clsB infR = 5 by decide]
      go_wp2_with fail
      refine (HS.out.cls s w6 hsl).mono ?_
      rintro e w7 ⟨rfl, hD7⟩
      have HB7 := Lib.hid (HB6.out.trans (hD7.below _))
      clear hD7
      rw [hcs]
      go_wp2
      go_ret
      exact ⟨rfl, HB7.out⟩
    · by_cases hu0 : u = 0
      · subst hu0
        have yn : (y == 0) = false := by simp; omega
        go_wp2_with fail
        refine (HS.out.never x z w4 h0).mono ?_
        rintro e w5 ⟨rfl, hD5⟩
        have HB5 := Lib.hid (HB4.out.trans (hD5.below _))
        clear hD5
        go_wp2_with fail
        refine (HS.out.cls infR w5 (by decide)).mono ?_
        rintro e w6 ⟨rfl, hD6⟩
        have HB6 := Lib.hid (HB5.out.trans (hD6.below _))
        clear hD6
        rw [show clsB infR = 5 by decide]
        go_wp2
        go_ret
        exact ⟨rfl, HB6.out⟩
      · have gy : decide (y < 0) = decide (u < 0) ∨ ¬ decide (y < 0) = decide (u < 0) := Decidable.em _
        rcases gy with g | g
        · have yn : (y == 0) = false := by simp; omega
          have un : (u == 0) = false := by simp; omega
          have p1 := mul_small bx bu
          have p2 := mul_small bz by_
          have q1 : wrap64 (x * u) = x * u := w64_in _ (by omega)
          have q2 : wrap64 (z * y) = z * y := w64_in _ (by omega)
          have q3 : wrap64 (-(x * u)) = -(x * u) := w64_in _ (by omega)
          have q4 : wrap64 (-(z * y)) = -(z * y) := w64_in _ (by omega)
          obtain ⟨L, E, l1, l2, l3, l4⟩ := ord_s HRS.out HRT.out hy0 hu0 bx by_ bz bu g
          have lL : (L == L) = true := by simp
          have eE : (E == E) = true := by simp
          have g1 : (decide (y < 0) == decide (u < 0)) = true := by simp only [g, beq_self_eq_true]
          have g2 : (!(decide (y < 0) == decide (u < 0))) = false := by rw [g1]; rfl
          clear g g1 p1 p2
          go_wp2_with fail
          refine (HS.out.never x z w4 h0).mono ?_
          rintro e w5 ⟨rfl, hD5⟩
          have HB5 := Lib.hid (HB4.out.trans (hD5.below _))
          clear hD5
          go_wp2_with fail
          refine (HS.out.cls infR w5 (by decide)).mono ?_
          rintro e w6 ⟨rfl, hD6⟩
          have HB6 := Lib.hid (HB5.out.trans (hD6.below _))
          clear hD6
          rw [show clsB infR = 5 by decide]
          go_wp2
          go_ret
          exact ⟨rfl, HB6.out⟩
        · have yn : (y == 0) = false := by simp; omega
          have un : (u == 0) = false := by simp; omega
          have p1 := mul_small bx bu
          have p2 := mul_small bz by_
          have q1 : wrap64 (x * u) = x * u := w64_in _ (by omega)
          have q2 : wrap64 (z * y) = z * y := w64_in _ (by omega)
          have q3 : wrap64 (-(x * u)) = -(x * u) := w64_in _ (by omega)
          have q4 : wrap64 (-(z * y)) = -(z * y) := w64_in _ (by omega)
          obtain ⟨L, E, l1, l2, l3, l4, l5⟩ := ord_d HRS.out HRT.out hy0 hu0 bx by_ bz bu g
          have lL : (L == L) = true := by simp
          have eE : (E == E) = true := by simp
          have g1 : (decide (y < 0) == decide (u < 0)) = false := by simpa using g
          have g2 : (!(decide (y < 0) == decide (u < 0))) = true := by rw [g1]; rfl
          clear g g1 p1 p2
          go_wp2_with fail
          refine (HS.out.never x z w4 h0).mono ?_
          rintro e w5 ⟨rfl, hD5⟩
          have HB5 := Lib.hid (HB4.out.trans (hD5.below _))
          clear hD5
          go_wp2_with fail
          refine (HS.out.cls infR w5 (by decide)).mono ?_
          rintro e w6 ⟨rfl, hD6⟩
          have HB6 := Lib.hid (HB5.out.trans (hD6.below _))
          clear hD6
          rw [show clsB infR = 5 by decide]
          go_wp2
          go_ret
          exact ⟨rfl, HB6.out⟩
  · have hxx : 0 ≤ x := by omega
    have hx0 : decide (x < 0) = false := decide_eq_false (by omega)
    have hx1 : decide (0 ≤ x) = true := decide_eq_true hxx
    have hx2 : decide (x ≥ 0) = true := decide_eq_true hxx
    have hw : wrap64 (z - x) = z - x := w64_in _ (by omega)
    have hn : floatOfInt FloatKind.f64 (z - x) = wI (z - x) := nearest_wI _ (by omega)
    have hW := wI_lt (z - x) (by omega)
    have ho : Ieee.double.order (wI (z - x)) (wI (z - x)) = some .eq := order_self _ hW.1 (by omega)
    have ho2 : (FloatKind.f64.format.order (wI (z - x)) (wI (z - x)) != some Ordering.eq) = false := by rw [show FloatKind.f64.format.order (wI (z - x)) (wI (z - x)) = some .eq from ho]; decide
    clear ho hW
    by_cases hy0 : y = 0
    · subst hy0
      by_cases hxz : x = 0
      · subst hxz
        simp only [Int.sub_zero] at hw hn ho2
        have hcs : clsB s = 6 := by rw [HRS.out.2.2 rfl, if_pos rfl]
        have hsl := HRS.out.1
        go_wp2_with fail
        refine (HS.out.since 0 z w4 hxx (by omega)).mono ?_
        rintro e w6 ⟨rfl, hD5⟩
        have HB6 := Lib.hid (HB4.out.trans (hD5.below _))
        clear hD5
        simp only [Int.sub_zero]
        go_wp2_with fail
        refine (HS.out.cls s w6 hsl).mono ?_
        rintro e w7 ⟨rfl, hD7⟩
        have HB7 := Lib.hid (HB6.out.trans (hD7.below _))
        clear hD7
        rw [hcs]
        go_wp2
        go_ret
        exact ⟨rfl, HB7.out⟩
      · have hcs : clsB s = 5 := by rw [HRS.out.2.2 rfl]; first | (rw [if_pos (by omega)]) | (rw [if_neg (by omega), if_pos (by omega)]) | (rw [if_neg (by omega), if_neg (by omega)]) | (rw [if_pos (by omega)])
        have hsl := HRS.out.1
        have fx0 : decide (x < 0) = false := decide_eq_false (by omega)
        have fx1 : decide (x > 0) = true := decide_eq_true (by omega)
        have fx2 : decide (0 < x) = true := decide_eq_true (by omega)
        have fx3 : (x == 0) = false := by simp; omega
        go_wp2_with fail
        refine (HS.out.since x z w4 hxx (by omega)).mono ?_
        rintro e w6 ⟨rfl, hD5⟩
        have HB6 := Lib.hid (HB4.out.trans (hD5.below _))
        clear hD5
        go_wp2_with fail
        refine (HS.out.cls s w6 hsl).mono ?_
        rintro e w7 ⟨rfl, hD7⟩
        have HB7 := Lib.hid (HB6.out.trans (hD7.below _))
        clear hD7
        rw [hcs]
        go_wp2
        go_ret
        exact ⟨rfl, HB7.out⟩
    · by_cases hu0 : u = 0
      · subst hu0
        have yn : (y == 0) = false := by simp; omega
        go_wp2_with fail
        refine (HS.out.since x z w4 hxx (by omega)).mono ?_
        rintro e w6 ⟨rfl, hD5⟩
        have HB6 := Lib.hid (HB4.out.trans (hD5.below _))
        clear hD5
        go_wp2
        go_ret
        exact ⟨rfl, HB6.out⟩
      · have gy : decide (y < 0) = decide (u < 0) ∨ ¬ decide (y < 0) = decide (u < 0) := Decidable.em _
        rcases gy with g | g
        · have yn : (y == 0) = false := by simp; omega
          have un : (u == 0) = false := by simp; omega
          have p1 := mul_small bx bu
          have p2 := mul_small bz by_
          have q1 : wrap64 (x * u) = x * u := w64_in _ (by omega)
          have q2 : wrap64 (z * y) = z * y := w64_in _ (by omega)
          have q3 : wrap64 (-(x * u)) = -(x * u) := w64_in _ (by omega)
          have q4 : wrap64 (-(z * y)) = -(z * y) := w64_in _ (by omega)
          obtain ⟨L, E, l1, l2, l3, l4⟩ := ord_s HRS.out HRT.out hy0 hu0 bx by_ bz bu g
          have lL : (L == L) = true := by simp
          have eE : (E == E) = true := by simp
          have g1 : (decide (y < 0) == decide (u < 0)) = true := by simp only [g, beq_self_eq_true]
          have g2 : (!(decide (y < 0) == decide (u < 0))) = false := by rw [g1]; rfl
          clear g g1 p1 p2
          go_wp2_with fail
          refine (HS.out.since x z w4 hxx (by omega)).mono ?_
          rintro e w6 ⟨rfl, hD5⟩
          have HB6 := Lib.hid (HB4.out.trans (hD5.below _))
          clear hD5
          go_wp2
          go_ret
          exact ⟨rfl, HB6.out⟩
        · have yn : (y == 0) = false := by simp; omega
          have un : (u == 0) = false := by simp; omega
          have p1 := mul_small bx bu
          have p2 := mul_small bz by_
          have q1 : wrap64 (x * u) = x * u := w64_in _ (by omega)
          have q2 : wrap64 (z * y) = z * y := w64_in _ (by omega)
          have q3 : wrap64 (-(x * u)) = -(x * u) := w64_in _ (by omega)
          have q4 : wrap64 (-(z * y)) = -(z * y) := w64_in _ (by omega)
          obtain ⟨L, E, l1, l2, l3, l4, l5⟩ := ord_d HRS.out HRT.out hy0 hu0 bx by_ bz bu g
          have lL : (L == L) = true := by simp
          have eE : (E == E) = true := by simp
          have g1 : (decide (y < 0) == decide (u < 0)) = false := by simpa using g
          have g2 : (!(decide (y < 0) == decide (u < 0))) = true := by rw [g1]; rfl
          clear g g1 p1 p2
          go_wp2_with fail
          refine (HS.out.since x z w4 hxx (by omega)).mono ?_
          rintro e w6 ⟨rfl, hD5⟩
          have HB6 := Lib.hid (HB4.out.trans (hD5.below _))
          clear hD5
          go_wp2
          go_ret
          exact ⟨rfl, HB6.out⟩
end Go.Proofs.Ytkkcphjielkmoaa
