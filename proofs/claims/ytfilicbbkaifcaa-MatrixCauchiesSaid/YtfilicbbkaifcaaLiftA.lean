/- Arguments that are arrays of two ints, in the walks' words. -/
import Derived.Test.YtfilicbbkaifcaaLiftM
set_option linter.unusedSimpArgs false
set_option linter.unusedVariables false
namespace Go.Proofs.Ytfilicbbkaifcaa
open Go Go.ChangeShapes Go.WideShapes Go.ChangeAt Go.RowKit

theorem undArr : Try.prog.underlying 41 = some (.array 2 3) := by kernel_rfl
theorem undInt : Try.prog.underlying 3 = some (.int .i64) := by kernel_rfl
theorem cellsArr : Try.prog.cellsOf 41 = 2 := by kernel_rfl
theorem cellsInt : Try.prog.cellsOf 3 = 1 := by kernel_rfl
/-- An argument that is an array of two ints. -/
theorem open_arr2 {H : Type} {enc : TypeId × Value → H} {W : World} {r : Reach} {b0 : Nat} {v : Value} {d : DataW H} {ps : List MemPlace} (hval : Value.okWide Try.prog W r b0 41 v)
    (h : DataW.Trod enc Try.prog W 0 (fun _ => true) true 41 v d ps) : ∃ a b : Int, v = .agg #[.int .i64 a, .int .i64 b] ∧ ps = [] ∧ (Lit.int .i64 a).wf = true ∧ (Lit.int .i64 b).wf = true := by
  simp only [Value.okWide, undArr] at hval
  obtain ⟨cs, rfl, hsz, -⟩ := hval
  rw [cellsArr] at hsz
  obtain ⟨fuel, hf⟩ := h
  obtain ⟨xs, m, -, hx, hl, hn, hi⟩ := DataW.trod_array undArr hf
  rw [cellsInt] at hi
  have hc : ((Value.agg cs).cells.toList) = cs.toList := rfl
  rw [hc] at hi
  obtain ⟨l⟩ := cs
  match l, hsz with
  | [u, v], _ =>
    have e0 := hi 0 (by decide)
    have e1 := hi 1 (by decide)
    simp at e0 e1
    match xs, hn with
    | [y0, y1], _ =>
      simp at e0 e1
      obtain ⟨a, ha, hya, hwa⟩ := DataW.trod_int undInt e0
      obtain ⟨b, hb, hyb, hwb⟩ := DataW.trod_int undInt e1
      simp at ha hb
      subst ha hb
      refine ⟨a, b, rfl, ?_, hwa, hwb⟩
      simp only [Prod.mk.injEq] at hx
      rw [hx.2, hya, hyb]
      rfl
end Go.Proofs.Ytfilicbbkaifcaa
