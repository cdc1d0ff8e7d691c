/- The reference's Cauchy numbers. -/
import Derived.Test.YtkfceloaomlhmaaDoorRef
import Derived.Test.YtkfceloaomlhmaaDoorMat
set_option linter.unusedSimpArgs false
set_option maxRecDepth 100000
set_option linter.unusedVariables false
namespace Go.Proofs.YtkfceloaomlhmaaDoor
open Go Go.RowKit

set_option maxHeartbeats 1000000 in
theorem refCauchy_any (k i j : Nat) (h1 : k + i < 256) (h2 : j < 256) (h3 : k + i ≠ j) (w : World) :
    Calls Tryd.prog 27 #[.int .i64 k, .int .i64 i, .int .i64 j] w fun e w' => e = .returned (B (gi (BitVec.ofNat 8 (k + i) ^^^ BitVec.ofNat 8 j))) ∧ w = w' := by
  have hne : BitVec.ofNat 8 (k + i) ^^^ BitVec.ofNat 8 j ≠ 0#8 := fun e => h3 (by
    have := congrArg BitVec.toNat (xor_eq_zero _ _ e)
    simp only [BitVec.toNat_ofNat] at this
    omega)
  have HNE := Lib.hid hne
  have b1 : Value.int .u8 ((k : Int) + (i : Int)) = B (BitVec.ofNat 8 (k + i)) := (B_ofNat (k + i) h1).symm
  have b2 : Value.int .u8 (j : Int) = B (BitVec.ofNat 8 j) := (B_ofNat j h2).symm
  have hx : bits .xor .u8 ((k : Int) + (i : Int)) (j : Int) = ((BitVec.ofNat 8 (k + i) ^^^ BitVec.ofNat 8 j).toNat : Int) := by
    rw [show (k : Int) + (i : Int) = ((k + i : Nat) : Int) from rfl, u8_xor_nat _ _ h1 h2, BitVec.toNat_xor, BitVec.toNat_ofNat, BitVec.toNat_ofNat, Nat.mod_eq_of_lt h1, Nat.mod_eq_of_lt h2]
  clear hne b1 b2 h3
  generalize BitVec.ofNat 8 (k + i) ^^^ BitVec.ofNat 8 j = z at *
  go_enter Tryd.func27, Tryd.ntmps27
  go_wp2_with fail
  rw [← B_eq']
  refine (refInv_any _ HNE.out w).mono ?_
  rintro e w' ⟨rfl, rfl⟩
  go_wp2
  go_ret
  exact ⟨rfl, rfl⟩
end Go.Proofs.YtkfceloaomlhmaaDoor
