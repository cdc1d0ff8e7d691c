/- (As LiftT10, without the records.) The two tables of SHA-256, as a row's listed variables give them. -/
import Derived.Test.YtllpcllgliknpaaGreatDoorLiftS7
import Derived.Test.YtllpcllgliknpaaGreatDoorSha10
import Derived.Lib.LaidTab
set_option linter.unusedSimpArgs false
set_option maxRecDepth 100000
set_option linter.unusedVariables false
namespace Go.Proofs.YtllpcllgliknpaaGreatDoor
open Go Go.ChangeShapes Go.WideShapes Go.ChangeAt Go.RowKit

theorem gK10 : Tryz.prog.globalNamed "darner/api.Words256" = some 1 := by kernel_rfl
theorem gF10 : Tryz.prog.globalNamed "darner/api.First256" = some 0 := by kernel_rfl
theorem tK10 : (Tryz.prog.globals[1]?).map (·.type) = some 111 := by kernel_rfl
theorem tF10 : (Tryz.prog.globals[0]?).map (·.type) = some 94 := by kernel_rfl
theorem und32w : Tryz.prog.underlying 93 = some (.int .u32) := by kernel_rfl
theorem und64w : Tryz.prog.underlying 111 = some (.array 64 93) := by kernel_rfl
theorem und8w : Tryz.prog.underlying 94 = some (.array 8 93) := by kernel_rfl
theorem cells32w : Tryz.prog.cellsOf 93 = 1 := by kernel_rfl
theorem cells64w : Tryz.prog.cellsOf 111 = 64 := by kernel_rfl
theorem cells8w : Tryz.prog.cellsOf 94 = 8 := by kernel_rfl
def kz10 : List Int := Sha.K256.map fun x => (x.toNat : Int)
def fz10 : List Int := (List.range 8).map fun i => ((Sha.H0.get i).toNat : Int)
theorem U_eq10 (x : BitVec 32) : Sha.U x = .int .u32 (x.toNat : Int) := by unfold Sha.U; rfl
theorem tb_of_tabs {W : World} (h1 : Go.Lib.TabIs Tryz.prog W "darner/api.Words256" .u32 kz10) (h2 : Go.Lib.TabIs Tryz.prog W "darner/api.First256" .u32 fz10) : Tb W := by
  have hk : Sha.Kt W := fun t ht => by
    have := h1.cell gK10 t (by show t < 64; exact ht)
    rw [this, U_eq10]
    congr 2
    simp only [kz10, Sha.K, List.getD_eq_getElem?_getD, List.getElem?_map]
    have : t < Sha.K256.length := ht
    simp [this]
  refine ⟨fun i hi => ?_, hk, World.block_lt_of_cell? W ⟨1, 0, none⟩ (hk 0 (by decide))⟩
  have := h2.cell gF10 i (by show i < 8; exact hi)
  rw [this, U_eq10]
  congr 2
  simp [fz10, hi]
end Go.Proofs.YtllpcllgliknpaaGreatDoor
