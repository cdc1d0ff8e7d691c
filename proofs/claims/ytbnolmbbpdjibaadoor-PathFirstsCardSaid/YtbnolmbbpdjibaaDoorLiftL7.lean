/- A list of strings, as it reads. -/
import Derived.Test.YtbnolmbbpdjibaaDoorLiftS7
import Derived.SliceStrings
set_option linter.unusedSimpArgs false
set_option linter.unusedVariables false
namespace Go.Proofs.YtbnolmbbpdjibaaDoor
open Go Go.ChangeShapes Go.WideShapes Go.ChangeAt Go.RowKit

theorem undStrs : Tryd.prog.underlying 37 = some (.slice 9) := by kernel_rfl
theorem cellsStr : Tryd.prog.cellsOf 9 = 1 := by kernel_rfl
theorem open_strl {H : Type} {enc : TypeId × Value → H} {W : World} {a0 : Option Addr} {len cap : Nat} {d : DataW H} {ps : List MemPlace}
    (h : DataW.Trod enc Tryd.prog W 0 (fun _ => true) true 37 (.slice a0 len cap) d ps) : ∃ ls : List S8, StrSl W a0 ls ∧ ls.length = len ∧ (a0 = none → cap = 0) ∧ len ≤ cap := by
  obtain ⟨fuel, hfu⟩ := h
  rcases open_strings undStrs strT cellsStr hfu with ⟨hcs, _⟩ | ⟨a, len', cap', ss, hcs, _, hl, hmx, hss, _, hcell, _⟩
  · simp [Value.cells] at hcs
    obtain ⟨rfl, rfl, rfl⟩ := hcs
    exact ⟨[], fun j hj => absurd hj (by simp), rfl, fun _ => rfl, Nat.le_refl _⟩
  · simp [Value.cells] at hcs
    obtain ⟨rfl, rfl, rfl⟩ := hcs
    simp only [if_true] at hss
    refine ⟨(ss.take len).map (fun s => s.data.toList), fun j hj => ?_, by rw [List.length_map, List.length_take]; omega, (fun e => by cases e), hl⟩
    have hj' : j < len := by rw [List.length_map, List.length_take] at hj; omega
    have h0 := hcell 0 (by omega)
    rw [Addr.add_zero'] at h0
    have hs : a.spot = none := by
      cases h : a.spot with
      | none => rfl
      | some s =>
        unfold World.cell? at h0
        split at h0
        · simp [h] at h0
        · cases h0
    obtain ⟨c, o, sp⟩ := a
    obtain rfl : sp = none := hs
    refine ⟨c, o, rfl, ?_⟩
    have hj2 := hcell j (by omega)
    rw [Addr.add_mid] at hj2
    rw [hj2]
    have hjs : j < ss.length := by omega
    have e : ((ss.take len).map (fun s => s.data.toList)).getD j [] = (ss[j]).data.toList := by
      simp [List.getD_eq_getElem?_getD, hj', hjs]
    rw [e, mkS_of]
    simp [List.getD_eq_getElem?_getD, hjs]
end Go.Proofs.YtbnolmbbpdjibaaDoor
