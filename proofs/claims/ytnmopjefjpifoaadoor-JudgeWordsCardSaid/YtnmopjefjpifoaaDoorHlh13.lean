/- judge.Health of nine numbers; the fixed fact of layer 13. -/
import Derived.Test.YtnmopjefjpifoaaDoorHlt13
import Derived.LoopN
set_option linter.unusedSimpArgs false
set_option maxRecDepth 100000
set_option linter.unusedVariables false
namespace Go.Proofs.YtnmopjefjpifoaaDoor
open Go Go.RowKit

theorem ix9I0 (v0 v1 v2 v3 v4 v5 v6 v7 v8 : Value) (w : World) : (Instr.index 26 (.agg #[v0, v1, v2, v3, v4, v5, v6, v7, v8]) (.int .i64 0)).run Tryd.prog w = .ok v0 w := by kernel_rfl
theorem ix9I1 (v0 v1 v2 v3 v4 v5 v6 v7 v8 : Value) (w : World) : (Instr.index 26 (.agg #[v0, v1, v2, v3, v4, v5, v6, v7, v8]) (.int .i64 1)).run Tryd.prog w = .ok v1 w := by kernel_rfl
theorem ix9I2 (v0 v1 v2 v3 v4 v5 v6 v7 v8 : Value) (w : World) : (Instr.index 26 (.agg #[v0, v1, v2, v3, v4, v5, v6, v7, v8]) (.int .i64 2)).run Tryd.prog w = .ok v2 w := by kernel_rfl
theorem ix9I3 (v0 v1 v2 v3 v4 v5 v6 v7 v8 : Value) (w : World) : (Instr.index 26 (.agg #[v0, v1, v2, v3, v4, v5, v6, v7, v8]) (.int .i64 3)).run Tryd.prog w = .ok v3 w := by kernel_rfl
theorem ix9I4 (v0 v1 v2 v3 v4 v5 v6 v7 v8 : Value) (w : World) : (Instr.index 26 (.agg #[v0, v1, v2, v3, v4, v5, v6, v7, v8]) (.int .i64 4)).run Tryd.prog w = .ok v4 w := by kernel_rfl
theorem ix9I5 (v0 v1 v2 v3 v4 v5 v6 v7 v8 : Value) (w : World) : (Instr.index 26 (.agg #[v0, v1, v2, v3, v4, v5, v6, v7, v8]) (.int .i64 5)).run Tryd.prog w = .ok v5 w := by kernel_rfl
theorem ix9I6 (v0 v1 v2 v3 v4 v5 v6 v7 v8 : Value) (w : World) : (Instr.index 26 (.agg #[v0, v1, v2, v3, v4, v5, v6, v7, v8]) (.int .i64 6)).run Tryd.prog w = .ok v6 w := by kernel_rfl
theorem ix9I7 (v0 v1 v2 v3 v4 v5 v6 v7 v8 : Value) (w : World) : (Instr.index 26 (.agg #[v0, v1, v2, v3, v4, v5, v6, v7, v8]) (.int .i64 7)).run Tryd.prog w = .ok v7 w := by kernel_rfl
theorem ix9I8 (v0 v1 v2 v3 v4 v5 v6 v7 v8 : Value) (w : World) : (Instr.index 26 (.agg #[v0, v1, v2, v3, v4, v5, v6, v7, v8]) (.int .i64 8)).run Tryd.prog w = .ok v8 w := by kernel_rfl
attribute [local go_sem] ix9I0 ix9I1 ix9I2 ix9I3 ix9I4 ix9I5 ix9I6 ix9I7 ix9I8
def nineI (a b c d e f g h i : Int) : Array Value := #[.int .i64 a, .int .i64 b, .int .i64 c, .int .i64 d, .int .i64 e, .int .i64 f, .int .i64 g, .int .i64 h, .int .i64 i]
set_option maxRecDepth 100000 in
set_option maxHeartbeats 4000000 in
theorem health_any (n0 n1 n2 n3 n4 n5 n6 n7 n8 : Int) (w : World) (h0 : 0 ≤ n0 ∧ n0 ≤ 65535) (h1 : 0 ≤ n1 ∧ n1 ≤ 65535) (h2 : 0 ≤ n2 ∧ n2 ≤ 65535) (h3 : 0 ≤ n3 ∧ n3 ≤ 65535) (h4 : 0 ≤ n4 ∧ n4 ≤ 65535) (h5 : 0 ≤ n5 ∧ n5 ≤ 65535) (h6 : 0 ≤ n6 ∧ n6 ≤ 65535) (h7 : 0 ≤ n7 ∧ n7 ≤ 65535) (h8 : 0 ≤ n8 ∧ n8 ≤ 65535) :
    Calls Tryd.prog 5 #[.agg (nineI n0 n1 n2 n3 n4 n5 n6 n7 n8)] w fun e w' => ∃ a, QuoR (n3 + n6) (n1 + n2 + n3 + n4 + n5 + n6 + n8) a ∧ e = .returned (.float .f64 a) ∧ Below w.heap.size w w' := by
  have HB := Lib.hid (show Below w.heap.size w (w.alloc (.cells (nineI n0 n1 n2 n3 n4 n5 n6 n7 n8) 26)) from (Below.refl _ _).alloc (Nat.le_refl _) _)
  have HR := Lib.hid (fun (u : World) => rateQ (n3 + n6) (n1 + n2 + n3 + n4 + n5 + n6 + n8) u (by omega) (by omega) (by omega))
  have g3 : 0 ≤ n3 + n6 ∧ n3 + n6 ≤ 131070 := by omega
  have k2 : 0 ≤ n1 + n2 ∧ n1 + n2 ≤ 131070 := by omega
  have k3 : 0 ≤ n1 + n2 + n3 ∧ n1 + n2 + n3 ≤ 196605 := by omega
  have k4 : 0 ≤ n1 + n2 + n3 + n4 ∧ n1 + n2 + n3 + n4 ≤ 262140 := by omega
  have k5 : 0 ≤ n1 + n2 + n3 + n4 + n5 ∧ n1 + n2 + n3 + n4 + n5 ≤ 327675 := by omega
  have k6 : 0 ≤ n1 + n2 + n3 + n4 + n5 + n6 ∧ n1 + n2 + n3 + n4 + n5 + n6 ≤ 393210 := by omega
  have k8 : 0 ≤ n1 + n2 + n3 + n4 + n5 + n6 + n8 ∧ n1 + n2 + n3 + n4 + n5 + n6 + n8 ≤ 458745 := by omega
  obtain ⟨a1, b1⟩ := h1
  obtain ⟨a2, b2⟩ := h2
  obtain ⟨a3, b3⟩ := h3
  obtain ⟨a4, b4⟩ := h4
  obtain ⟨a5, b5⟩ := h5
  obtain ⟨a6, b6⟩ := h6
  obtain ⟨a7, b7⟩ := h7
  obtain ⟨a8, b8⟩ := h8
  obtain ⟨c3, d3⟩ := g3
  obtain ⟨l2, m2⟩ := k2
  obtain ⟨l3, m3⟩ := k3
  obtain ⟨l4, m4⟩ := k4
  obtain ⟨l5, m5⟩ := k5
  obtain ⟨l6, m6⟩ := k6
  obtain ⟨l8, m8⟩ := k8
  unfold nineI at *
  go_enter Tryd.func5, Tryd.ntmps5
  go_wp2
  refine wp_loop_rounds 10 ?_
  repeat (rw [rounds_succ]; go_wp2_with (first | ((with_reducible refine (serves_yes _ (by decide) _).mono ?_); rintro e w' ⟨rfl, rfl⟩) | ((with_reducible refine (serves_no _ (by decide) (by decide) _).mono ?_); rintro e w' ⟨rfl, rfl⟩) | ((with_reducible refine (HR.out _).mono ?_); rintro e w' ⟨a, ha, rfl, hB⟩; have HQ := Lib.hid ha; have HB2 := Lib.hid hB; clear ha hB)))
  go_ret
  exact ⟨a, HQ.out, rfl, HB.out.trans (HB2.out.mono HB.out.size)⟩
theorem bd9 (w : World) : (Instr.build 26 #[]).run Tryd.prog w = .ok (.agg (nineI 0 0 0 0 0 0 0 0 0)) w := by kernel_rfl
attribute [local go_sem] bd9
set_option maxRecDepth 100000 in
set_option maxHeartbeats 4000000 in
theorem awake13 (w : World) (hN : Nms w) : Calls Tryd.prog 4 #[] w fun e w' => e = .returned (.bool true) ∧ Below w.heap.size w w' := by
  have HH := Lib.hid (fun (u : World) => health_any 0 0 0 0 0 0 0 0 0 u (by decide) (by decide) (by decide) (by decide) (by decide) (by decide) (by decide) (by decide) (by decide))
  unfold nineI at HH
  have hrot : ((nmS 4).toList == [114, 111, 116]) = true := by kernel_rfl
  have HN := Lib.hid hN
  clear hN
  go_enter Tryd.func4, Tryd.ntmps4
  go_wp2_with (first | ((with_reducible refine (HH.out _).mono ?_); rintro e w1 ⟨a, ha, rfl, hB⟩; have HB1 := Lib.hid hB; have ha2 := (ha.1 rfl); have HC := Lib.hid (class_any a ha2.2); rw [cls_nan a ha2.1] at HC; clear ha ha2 hB) | ((with_reducible refine (HC.out _).mono ?_); rintro e w2 ⟨rfl, hD⟩; have HB2 := Lib.hid (HB1.out.trans ((hD.below _).mono HB1.out.size)); have HT := Lib.hid (text_yes 4 (by decide) w2 (HN.out.on HB2.out)); clear hD) | (refine (HT.out).mono ?_; rintro e w3 ⟨rfl, rfl⟩) | ((with_reducible refine (serves_yes _ (by decide) _).mono ?_); rintro e w' ⟨rfl, rfl⟩))
  go_ret
  exact ⟨rfl, HB2.out⟩
end Go.Proofs.YtnmopjefjpifoaaDoor
