/- An argument that is an array of 16 ints, in the walks' words. -/
import Derived.Test.YtkajeepbelfpiaaGreatDoorLift
import Derived.Test.YtkajeepbelfpiaaGreatDoorVec9
set_option linter.unusedSimpArgs false
set_option maxRecDepth 100000
set_option linter.unusedVariables false
namespace Go.Proofs.YtkajeepbelfpiaaGreatDoor
open Go Go.ChangeShapes Go.WideShapes Go.ChangeAt Go.RowKit

theorem cellsInt9 : Tryz.prog.cellsOf 3 = 1 := by kernel_rfl
theorem cellsArr9 : Tryz.prog.cellsOf 39 = 16 := by kernel_rfl
/-- The number in a cell. -/
def intIn : Option Value → Int
  | some (.int _ a) => a
  | _ => 0
theorem open_arr16 {H : Type} {enc : TypeId × Value → H} {W : World} {r : _root_.Go.Reach} {b0 : Nat} {v : Value} {d : DataW H} {ps : List MemPlace} (hval : Value.okWide Tryz.prog W r b0 39 v)
    (h : DataW.Trod enc Tryz.prog W 0 (fun _ => true) true 39 v d ps) : ∃ f : Nat → Int, v = vcV f ∧ ps = [] := by
  simp only [Value.okWide, vtA.und] at hval
  obtain ⟨cs, rfl, hsz, -⟩ := hval
  rw [cellsArr9] at hsz
  obtain ⟨fuel, hf⟩ := h
  obtain ⟨xs, m, -, hx, hl, hn, hi⟩ := DataW.trod_array vtA.und hf
  rw [cellsInt9] at hi
  have hc : ((Value.agg cs).cells.toList) = cs.toList := rfl
  rw [hc] at hi
  have key : ∀ i, i < 16 → ∃ a y, cs[i]? = some (.int .i64 a) ∧ xs[i]? = some y ∧ y.2 = [] := fun i h16 => by
    have e0 := hi i h16
    have hxi : xs[i]? = some (xs[i]'(by omega)) := List.getElem?_eq_getElem (by omega)
    rw [hxi] at e0
    obtain ⟨a, ha, hy, -⟩ := DataW.trod_int undInt e0
    refine ⟨a, _, ?_, hxi, by rw [hy]⟩
    rw [Nat.mul_one] at ha
    have : (cs.toList.drop i)[0]? = some (.int .i64 a) := by
      have h1 : ((cs.toList.drop i).take 1)[0]? = some (.int .i64 a) := by rw [ha]; rfl
      rw [List.getElem?_take] at h1
      simpa using h1
    rw [List.getElem?_drop, Nat.add_zero] at this
    simpa using this
  refine ⟨fun i => intIn cs[i]?, ?_, ?_⟩
  · unfold vcV
    congr 1
    apply Array.ext_getElem?
    intro j
    by_cases hj : j < 16
    · obtain ⟨a, y, e, -, -⟩ := key j hj
      rw [tab_get 16 _ j hj, e]
      show some (Value.int .i64 a) = some (Value.int .i64 (intIn cs[j]?))
      rw [e]
      rfl
    · rw [Array.getElem?_eq_none (by omega), Array.getElem?_eq_none (by rw [tab_size]; omega)]
  · simp only [Prod.mk.injEq] at hx
    rw [hx.2, List.flatMap_eq_nil_iff]
    intro y hy
    obtain ⟨i, hi16, rfl⟩ := List.getElem_of_mem hy
    obtain ⟨a, y, -, e, e2⟩ := key i (by omega)
    rw [List.getElem?_eq_getElem hi16] at e
    injection e with e
    rw [e]
    exact e2
end Go.Proofs.YtkajeepbelfpiaaGreatDoor
