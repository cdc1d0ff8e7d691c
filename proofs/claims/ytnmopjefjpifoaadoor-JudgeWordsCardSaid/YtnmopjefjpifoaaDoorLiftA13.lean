/- The table of names is where the walks want it; an argument that is an array of nine small numbers. -/
import Derived.Test.YtnmopjefjpifoaaDoorLiftN13
import Derived.Test.YtnmopjefjpifoaaDoorLaw13W
import Derived.Test.YtnmopjefjpifoaaDoorLift
set_option linter.unusedSimpArgs false
set_option maxRecDepth 100000
set_option linter.unusedVariables false
namespace Go.Proofs.YtnmopjefjpifoaaDoor
open Go Go.ChangeShapes Go.WideShapes Go.ChangeAt Go.RowKit

theorem nms_of {W : World} {rest : List (String × DataW Unit)} (h : laidMet Tryd.prog (("darner/judge.names", .agg (nmL.map fun z => .lit (.string z))) :: rest) W) : Nms W := by
  have hc := strs_of_head13 gNm tNm uNm uNs cNs cNm h
  refine ⟨World.block_lt_of_cell? W _ (hc 0 (by decide)), fun j hj => ?_⟩
  rw [hc j (by simpa [nmL] using hj)]
  rcases j with _ | _ | _ | _ | _ | _ | _ | _ | _ | j <;> first | rfl | omega
theorem undArr9 : Tryd.prog.underlying 23 = some (.array 9 22) := by kernel_rfl
theorem cellsArr9 : Tryd.prog.cellsOf 23 = 9 := by kernel_rfl
theorem undU9 : Tryd.prog.underlying 22 = some (.int .u16) := by kernel_rfl
theorem cellsU9 : Tryd.prog.cellsOf 22 = 1 := by kernel_rfl
theorem nine_of {α : Type} {l : List α} (h : l.length = 9) : ∃ a b c d e f g i j, l = [a, b, c, d, e, f, g, i, j] := by
  obtain ⟨a, l, rfl⟩ := List.exists_cons_of_length_eq_add_one h
  obtain ⟨b, l, rfl⟩ := List.exists_cons_of_length_eq_add_one (by simpa using h)
  obtain ⟨c, l, rfl⟩ := List.exists_cons_of_length_eq_add_one (by simpa using h)
  obtain ⟨d, l, rfl⟩ := List.exists_cons_of_length_eq_add_one (by simpa using h)
  obtain ⟨e, l, rfl⟩ := List.exists_cons_of_length_eq_add_one (by simpa using h)
  obtain ⟨f, l, rfl⟩ := List.exists_cons_of_length_eq_add_one (by simpa using h)
  obtain ⟨g, l, rfl⟩ := List.exists_cons_of_length_eq_add_one (by simpa using h)
  obtain ⟨i, l, rfl⟩ := List.exists_cons_of_length_eq_add_one (by simpa using h)
  obtain ⟨j, l, rfl⟩ := List.exists_cons_of_length_eq_add_one (by simpa using h)
  have : l = [] := List.eq_nil_of_length_eq_zero (by simpa using h)
  subst this
  exact ⟨a, b, c, d, e, f, g, i, j, rfl⟩
set_option maxHeartbeats 2000000 in
theorem open_arr9 {H : Type} {enc : TypeId × Value → H} {W : World} {r : _root_.Go.Reach} {b0 : Nat} {v : Value} {d : DataW H} {ps : List MemPlace} (hval : Value.okWide Tryd.prog W r b0 23 v)
    (h : DataW.Trod enc Tryd.prog W 0 (fun _ => true) true 23 v d ps) : ∃ a0 a1 a2 a3 a4 a5 a6 a7 a8 : Int, v = .agg (nineU a0 a1 a2 a3 a4 a5 a6 a7 a8) ∧ ps = [] ∧ ((Lit.int .u16 a0).wf = true ∧ (Lit.int .u16 a1).wf = true ∧ (Lit.int .u16 a2).wf = true ∧ (Lit.int .u16 a3).wf = true ∧ (Lit.int .u16 a4).wf = true ∧ (Lit.int .u16 a5).wf = true ∧ (Lit.int .u16 a6).wf = true ∧ (Lit.int .u16 a7).wf = true ∧ (Lit.int .u16 a8).wf = true) := by
  simp only [Value.okWide, undArr9] at hval
  obtain ⟨cs, rfl, hsz, -⟩ := hval
  rw [cellsArr9] at hsz
  obtain ⟨fuel, hf⟩ := h
  obtain ⟨xs, m, -, hx, hl, hn, hi⟩ := DataW.trod_array undArr9 hf
  rw [cellsU9] at hi
  have hc : ((Value.agg cs).cells.toList) = cs.toList := rfl
  rw [hc] at hi
  obtain ⟨l⟩ := cs
  obtain ⟨u0, u1, u2, u3, u4, u5, u6, u7, u8, rfl⟩ := nine_of (l := l) (by simpa using hsz)
  obtain ⟨y0, y1, y2, y3, y4, y5, y6, y7, y8, rfl⟩ := nine_of (l := xs) hn
  have e0 := hi 0 (by decide)
  have e1 := hi 1 (by decide)
  have e2 := hi 2 (by decide)
  have e3 := hi 3 (by decide)
  have e4 := hi 4 (by decide)
  have e5 := hi 5 (by decide)
  have e6 := hi 6 (by decide)
  have e7 := hi 7 (by decide)
  have e8 := hi 8 (by decide)
  simp at e0 e1 e2 e3 e4 e5 e6 e7 e8
  obtain ⟨a0, b0, c0, w0⟩ := DataW.trod_int undU9 e0
  obtain ⟨a1, b1, c1, w1⟩ := DataW.trod_int undU9 e1
  obtain ⟨a2, b2, c2, w2⟩ := DataW.trod_int undU9 e2
  obtain ⟨a3, b3, c3, w3⟩ := DataW.trod_int undU9 e3
  obtain ⟨a4, b4, c4, w4⟩ := DataW.trod_int undU9 e4
  obtain ⟨a5, b5, c5, w5⟩ := DataW.trod_int undU9 e5
  obtain ⟨a6, b6, c6, w6⟩ := DataW.trod_int undU9 e6
  obtain ⟨a7, b7, c7, w7⟩ := DataW.trod_int undU9 e7
  obtain ⟨a8, b8, c8, w8⟩ := DataW.trod_int undU9 e8
  simp at b0 b1 b2 b3 b4 b5 b6 b7 b8
  subst b0 b1 b2 b3 b4 b5 b6 b7 b8
  refine ⟨a0, a1, a2, a3, a4, a5, a6, a7, a8, rfl, ?_, w0, w1, w2, w3, w4, w5, w6, w7, w8⟩
  simp only [Prod.mk.injEq] at hx
  rw [hx.2, c0, c1, c2, c3, c4, c5, c6, c7, c8]
  rfl
end Go.Proofs.YtnmopjefjpifoaaDoor
