/- What the statements' arguments read as, in the walks' words. -/
import Derived.Test.YtllpcllgliknpaaGreatDoorRows
import Derived.Test.YtllpcllgliknpaaGreatDoorBase
import Derived.ProofKit
import Derived.OpenShut
import Derived.Deep.DeepHandedRow
set_option linter.unusedSimpArgs false
set_option maxRecDepth 100000
set_option linter.unusedVariables false
namespace Go.Proofs.YtllpcllgliknpaaGreatDoor
open Go Go.ChangeShapes Go.WideShapes Go.ChangeAt Go.RowKit

theorem own : ownKnob Tryz.prog.godebug = none := by kernel_rfl
theorem laidOut : laidOutB Tryz.prog = true := by kernel_rfl
theorem cellsByte : Tryz.prog.cellsOf 5 = 1 := by kernel_rfl
theorem undByte : Tryz.prog.underlying 5 = some (.int .u8) := by kernel_rfl
theorem undBytes : Tryz.prog.underlying 53 = some (.slice 5) := by kernel_rfl
/-- The bytes of a slice of numbers. -/
def bytesOf (zs : List Int) : List (BitVec 8) := zs.map fun z => BitVec.ofInt 8 z
theorem B_ofInt {z : Int} (h : (Lit.int .u8 z).wf = true) : B (BitVec.ofInt 8 z) = .int .u8 z := by
  have := bounds_u8 h
  rw [B_eq']
  congr 1
  rw [BitVec.toNat_ofInt]
  omega
theorem Sl_of_ints {W : World} {a : Addr} {len : Nat} {zs : List Int} (hz : len ≤ zs.length) (hc : ∀ i, i < zs.length → W.cell? (a.add i) = some (.int .u8 (zs.getD i 0))) (hw : ∀ n ∈ zs, (Lit.int .u8 n).wf = true) :
    Sl W (some a) (bytesOf (zs.take len)) := fun j hj => by
  have hj' : j < len := by simp [bytesOf] at hj; omega
  have h0 := hc 0 (by omega)
  rw [Addr.add_zero'] at h0
  have hs : a.spot = none := by
    cases h : a.spot with
    | none => rfl
    | some s =>
      unfold World.cell? at h0
      split at h0
      · simp [h] at h0
      · cases h0
  obtain ⟨c, o, sp⟩ := a
  obtain rfl : sp = none := hs
  refine ⟨c, o, rfl, ?_⟩
  have hj2 := hc j (by omega)
  rw [Addr.add_mid] at hj2
  rw [hj2]
  have hjz : j < zs.length := by omega
  have e : (bytesOf (zs.take len)).getD j 0#8 = BitVec.ofInt 8 zs[j] := by
    simp [bytesOf, List.getD_eq_getElem?_getD, hj', hjz]
  rw [e, B_ofInt (hw _ (List.getElem_mem hjz))]
  simp [List.getD_eq_getElem?_getD, hjz]
theorem bytesOf_length (zs : List Int) : (bytesOf zs).length = zs.length := by simp [bytesOf]
/-- An argument that is a slice of bytes. -/
theorem open_bytes {H : Type} {enc : TypeId × Value → H} {W : World} {a0 : Option Addr} {len cap : Nat} {d : DataW H} {ps : List MemPlace}
    (h : DataW.Trod enc Tryz.prog W 0 (fun _ => true) true 53 (.slice a0 len cap) d ps) : ∃ l : List (BitVec 8), Sl W a0 l ∧ l.length = len ∧ (a0 = none → cap = 0) := by
  obtain ⟨fuel, hfu⟩ := h
  rcases open_ints undBytes undByte cellsByte hfu with ⟨hcs, _⟩ | ⟨a, len', cap', zs, hcs, _, hl, hm, hz, hx, hcell, hwz⟩
  · simp [Value.cells] at hcs
    obtain ⟨rfl, rfl, rfl⟩ := hcs
    exact ⟨[], fun j hj => absurd hj (by simp), rfl, fun _ => rfl⟩
  · simp [Value.cells] at hcs
    obtain ⟨rfl, rfl, rfl⟩ := hcs
    have hzl : len ≤ zs.length := by rw [hz]; split <;> omega
    have hln : (bytesOf (zs.take len)).length = len := by rw [bytesOf_length, List.length_take]; omega
    exact ⟨bytesOf (zs.take len), Sl_of_ints hzl hcell hwz, hln, fun h => by cases h⟩
end Go.Proofs.YtllpcllgliknpaaGreatDoor
