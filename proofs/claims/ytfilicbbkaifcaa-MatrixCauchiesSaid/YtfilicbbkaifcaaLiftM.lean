/- Arguments that are slices of slices of bytes, in the walks' words. -/
import Derived.Test.YtfilicbbkaifcaaLift
import Derived.Test.YtfilicbbkaifcaaPrt
import Derived.Deep.Matrix
set_option linter.unusedSimpArgs false
set_option linter.unusedVariables false
namespace Go.Proofs.Ytfilicbbkaifcaa
open Go Go.ChangeShapes Go.WideShapes Go.ChangeAt Go.RowKit

theorem cellsBytes : Try.prog.cellsOf 35 = 1 := by kernel_rfl
theorem Prt_of_rows {W : World} {a : Addr} {len : Nat} {A : Nat → Option Addr} {L C : Nat → Nat} {Z : Nat → List Int}
    (h : ∀ r, r < len → W.cell? (a.add r) = some (.slice (A r) (L r) (C r)) ∧ L r ≤ C r ∧ (Z r).length = C r ∧ (∀ n ∈ Z r, (Lit.int .u8 n).wf = true) ∧ (A r = none → C r = 0) ∧ ∀ a', A r = some a' → ∀ c, c < C r → W.cell? (a'.add c) = some (.int .u8 ((Z r).getD c 0))) :
    Prt W (some a) ((List.range len).map fun r => bytesOf ((Z r).take (L r))) := fun r hr => by
  have hr' : r < len := by simpa using hr
  obtain ⟨h1, h2, h3, h4, h5, h6⟩ := h r hr'
  have hs : a.spot = none := by
    have h0 := (h 0 (by omega)).1
    rw [Addr.add_zero'] at h0
    cases h : a.spot with
    | none => rfl
    | some s =>
      unfold World.cell? at h0
      split at h0
      · simp [h] at h0
      · cases h0
  obtain ⟨c, o, sp⟩ := a
  obtain rfl : sp = none := hs
  have e : ((List.range len).map fun r => bytesOf ((Z r).take (L r))).getD r [] = bytesOf ((Z r).take (L r)) := by
    simp [List.getD_eq_getElem?_getD, hr']
  rw [e]
  have el : (bytesOf ((Z r).take (L r))).length = L r := by rw [bytesOf_length, List.length_take]; omega
  refine ⟨c, o, A r, C r, rfl, ?_, ?_, h5, by rw [el]; exact h2⟩
  · rw [el, ← Addr.add_mid]; exact h1
  · cases hA : A r with
    | none =>
      have := h5 hA
      intro j hj
      omega
    | some a' => exact Sl_of_ints (by omega) (fun i hi => h6 a' hA i (by omega)) h4
/-- An argument that is a slice of slices of bytes. -/
theorem open_rows {H : Type} {enc : TypeId × Value → H} {W : World} {a0 : Option Addr} {len cap : Nat} {d : DataW H} {ps : List MemPlace}
    (h : DataW.Trod enc Try.prog W 0 (fun _ => true) true 22 (.slice a0 len cap) d ps) : ∃ ls : List (List (BitVec 8)), Prt W a0 ls ∧ ls.length = len ∧ (a0 = none → cap = 0) ∧ len < 9223372036854775808 := by
  obtain ⟨fuel, hfu⟩ := h
  rcases Go.Deep.open_int_rows undRows undBytes undByte cellsBytes cellsByte hfu with ⟨hcs, _⟩ | ⟨a, len', cap', A, L, C, Z, hcs, _, hl, hmx, _, hx⟩
  · simp [Value.cells] at hcs
    obtain ⟨rfl, rfl, rfl⟩ := hcs
    exact ⟨[], fun j hj => absurd hj (by simp), rfl, fun _ => rfl, by omega⟩
  · simp [Value.cells] at hcs
    obtain ⟨rfl, rfl, rfl⟩ := hcs
    exact ⟨(List.range len).map fun r => bytesOf ((Z r).take (L r)), Prt_of_rows fun r hr => by
      obtain ⟨g1, g2, _, g3, g4, g5, g6⟩ := hx r (by omega)
      exact ⟨g1, g2, g3, g4, g5, fun a' ha => (g6 a' ha).2⟩, by simp, (fun h => by cases h), by simp only [maxLen] at hmx; omega⟩
end Go.Proofs.Ytfilicbbkaifcaa
