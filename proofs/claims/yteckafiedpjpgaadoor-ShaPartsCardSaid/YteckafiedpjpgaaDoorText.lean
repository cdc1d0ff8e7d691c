/- A digest as text. -/
import Derived.Test.YteckafiedpjpgaaDoorEq
set_option linter.unusedSimpArgs false
set_option linter.unusedVariables false
namespace Go.Proofs.YteckafiedpjpgaaDoor
open Go Go.RowKit

/-- A hexadecimal digit's sign. -/
def hx (n : Nat) : BitVec 8 := ([48#8, 49#8, 50#8, 51#8, 52#8, 53#8, 54#8, 55#8, 56#8, 57#8, 97#8, 98#8, 99#8, 100#8, 101#8, 102#8]).getD n 0#8
def hexs : ByteArray := ⟨#[48, 49, 50, 51, 52, 53, 54, 55, 56, 57, 97, 98, 99, 100, 101, 102]⟩
theorem bB_shr4 (t : TypeId) (x : BitVec 8) : binOp .shr t (B x) (.int .u64 4) = pure (B (x >>> 4)) := by
  have h : ((x.toNat : Int) / 2 ^ 4) = ((x >>> 4).toNat : Int) := by
    simp [BitVec.toNat_ushiftRight, Nat.shiftRight_eq_div_pow]
  rw [B_eq', B_eq', binOp_shr, shift_shr_any _ _ _ _ (by decide), ← h]
  rfl
theorem bB_and15 (t : TypeId) (x : BitVec 8) : binOp .and t (B x) (.int .u8 15) = pure (B (x &&& 15#8)) := by
  have h : bits .and .u8 (x.toNat : Int) 15 = ((x &&& 15#8).toNat : Int) := by
    rw [show (15 : Int) = ((15 : Nat) : Int) from rfl, u8_and_nat _ _ (by have := x.isLt; omega) (by decide), BitVec.toNat_and]; rfl
  rw [B_eq', B_eq', binOp_and, intBits_and, h]
theorem bB_quo16 (t : TypeId) (x : BitVec 8) : binOp .quo t (B x) (.int .u8 16) = pure (B (x / 16#8)) := by
  rw [B_eq', B_eq', binOp_quo, Op.intDiv, if_neg (by decide)]
  rw [Int.tdiv_eq_ediv_of_nonneg (by omega), show ((x.toNat : Int) / 16) = ((x.toNat / 16 : Nat) : Int) from by simp, wrap_u8_bv]
  congr 3
  simp [BitVec.toNat_udiv]
  have := x.isLt
  omega
theorem bB_rem16 (t : TypeId) (x : BitVec 8) : binOp .rem t (B x) (.int .u8 16) = pure (B (x % 16#8)) := by
  rw [B_eq', B_eq', binOp_rem, Op.intDiv, if_neg (by decide)]
  rw [Int.tmod_eq_emod_of_nonneg (by omega)]
  congr 2
theorem ix_at (y : BitVec 8) (hy : y.toNat < 16) (w : World) : (ixT 9 (.string hexs) (B y)).run Tryd.prog w = .ok (.value (B (hx y.toNat))) w := by
  have h0 : (0 : Int) ≤ (y.toNat : Int) := by omega
  have hs : ∀ n, n < 16 → hexs[n]? = some (UInt8.ofBitVec (hx n)) := by decide
  have hb : Value.int .u8 (((UInt8.ofBitVec (hx y.toNat)).toNat : Nat) : Int) = B (hx y.toNat) := by rw [B_eq']; rfl
  rw [B_eq' y]
  simp only [ixT, Instr.index, asIntOf, Sem.run_bind, Sem.run_pure, Result.andThen_ok, run_underlying Tryd.underlying9, h0, if_true, Int.toNat_natCast, hs _ hy, hb]
theorem ix_hi (x : BitVec 8) (w : World) : (ixT 9 (.string ⟨#[48, 49, 50, 51, 52, 53, 54, 55, 56, 57, 97, 98, 99, 100, 101, 102]⟩) (B (x >>> 4))).run Tryd.prog w = .ok (.value (B (hx (x.toNat / 16)))) w := by
  have h : (x >>> 4).toNat = x.toNat / 16 := by simp [BitVec.toNat_ushiftRight, Nat.shiftRight_eq_div_pow]
  have := ix_at (x >>> 4) (by rw [h]; have := x.isLt; omega) w
  rwa [h] at this
theorem ix_lo (x : BitVec 8) (w : World) : (ixT 9 (.string ⟨#[48, 49, 50, 51, 52, 53, 54, 55, 56, 57, 97, 98, 99, 100, 101, 102]⟩) (B (x &&& 15#8))).run Tryd.prog w = .ok (.value (B (hx (x.toNat % 16)))) w := by
  have h : (x &&& 15#8).toNat = x.toNat % 16 := by
    rw [BitVec.toNat_and]; exact Nat.and_two_pow_sub_one_eq_mod x.toNat 4
  have := ix_at (x &&& 15#8) (by rw [h]; omega) w
  rwa [h] at this
theorem ix_hi' (x : BitVec 8) (w : World) : (ixT 9 (.string ⟨#[48, 49, 50, 51, 52, 53, 54, 55, 56, 57, 97, 98, 99, 100, 101, 102]⟩) (B (x / 16#8))).run Tryd.prog w = .ok (.value (B (hx (x.toNat / 16)))) w := by
  have h : (x / 16#8).toNat = x.toNat / 16 := by simp [BitVec.toNat_udiv]
  have := ix_at (x / 16#8) (by rw [h]; have := x.isLt; omega) w
  rwa [h] at this
theorem ix_lo' (x : BitVec 8) (w : World) : (ixT 9 (.string ⟨#[48, 49, 50, 51, 52, 53, 54, 55, 56, 57, 97, 98, 99, 100, 101, 102]⟩) (B (x % 16#8))).run Tryd.prog w = .ok (.value (B (hx (x.toNat % 16)))) w := by
  have h : (x % 16#8).toNat = x.toNat % 16 := by simp [BitVec.toNat_umod]
  have := ix_at (x % 16#8) (by rw [h]; omega) w
  rwa [h] at this
/-- The signs of a digest's text. -/
def tb (f : Nat → BitVec 8) (j : Nat) : BitVec 8 := if j % 2 = 0 then hx ((f (j / 2)).toNat / 16) else hx ((f (j / 2)).toNat % 16)
def txt (f : Nat → BitVec 8) : ByteArray := ⟨((List.range 64).map fun j => UInt8.ofBitVec (tb f j)).toArray⟩
theorem ix_txt (f : Nat → BitVec 8) (k : Nat) (hk : k < 64) (w : World) : (ixT 9 (.string (txt f)) (.int .i64 k)).run Tryd.prog w = .ok (.value (B (tb f k))) w := by
  have h0 : (0 : Int) ≤ (k : Int) := by omega
  have hs : (txt f)[k]? = some (UInt8.ofBitVec (tb f k)) := by
    show ((List.range 64).map fun j => UInt8.ofBitVec (tb f j)).toArray[k]? = _
    simp [hk]
  have hb : Value.int .u8 (((UInt8.ofBitVec (tb f k)).toNat : Nat) : Int) = B (tb f k) := by rw [B_eq']; rfl
  simp only [ixT, Instr.index, asIntOf, Sem.run_bind, Sem.run_pure, Result.andThen_ok, run_underlying Tryd.underlying9, h0, if_true, Int.toNat_natCast, hs, hb]
/-- A build of a slice, its operands reckoned first. -/
def bsT (t : TypeId) (n : Nat) (parts : Array (Nat × Value)) : Sem Next := do pure (.value (← Instr.buildSlice t n parts))
theorem exec_bs (r : Operand → Value) (dst : Option Tmp) (t : TypeId) (n : Nat) (parts : Array (Nat × Operand)) (ty : TypeId) (pos : String) (after : Array Edge) (guard : Option (Nat × Bool)) :
    execOp r ⟨dst, .buildSlice t n parts, ty, pos, after, guard⟩ = bsT t n (parts.map fun x => (x.1, r x.2)) := rfl
theorem bs22_2 (x y : BitVec 8) (w : World) : (bsT 22 2 #[(0, B x), (1, B y)]).run Tryd.prog w = .ok (.value (.slice (some ⟨w.heap.size, 0, none⟩) 2 2)) (w.alloc (.cells #[B x, B y] 5)) := by kernel_rfl
theorem mk22_64 (w : World) : (mkT 22 (.int .i64 0) (.int .i64 64)).run Tryd.prog w = .ok (.value (.slice (some ⟨w.heap.size, 0, none⟩) 0 64)) (w.alloc (.cells (zb 64) 5)) := by
  rw [zb_eq]
  kernel_rfl
theorem bx24 (f : Nat → BitVec 8) (w : World) : (bxT 24 (dgV f)).run Tryd.prog w = .ok (.value (.pointer (some ⟨w.heap.size, 0, none⟩))) (w.alloc (.cells (tab 32 fun i => B (f i)) 24)) := rfl
end Go.Proofs.YteckafiedpjpgaaDoor
