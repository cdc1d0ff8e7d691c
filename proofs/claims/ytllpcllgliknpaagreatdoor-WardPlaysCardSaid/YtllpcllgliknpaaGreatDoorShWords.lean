/- Words of 32 bits and bytes as values, and what the model's operations give on them. -/
import Derived.WalkKit
set_option linter.unusedSimpArgs false
set_option maxRecDepth 100000
set_option linter.unusedVariables false
namespace Go.Proofs.YtllpcllgliknpaaGreatDoor.Sha
open Go

/-- A uint32 as a value. -/
def U (x : BitVec 32) : Value := .int .u32 (x.toNat : Int)
/-- A byte as a value. -/
def B (x : BitVec 8) : Value := .int .u8 (x.toNat : Int)

theorem U_eq (x : BitVec 32) : U x = .int .u32 (x.toNat : Int) := rfl
theorem B_eq (x : BitVec 8) : B x = .int .u8 (x.toNat : Int) := rfl
theorem U_inj {x y : BitVec 32} (h : U x = U y) : x = y := by
  simp only [U, Value.int.injEq, true_and] at h
  exact BitVec.eq_of_toNat_eq (by omega)
theorem B_inj {x y : BitVec 8} (h : B x = B y) : x = y := by
  simp only [B, Value.int.injEq, true_and] at h
  exact BitVec.eq_of_toNat_eq (by omega)

section
variable (t : TypeId)

theorem wrap_u32_bv (n : Nat) : IntKind.u32.wrap (n : Int) = ((BitVec.ofNat 32 n).toNat : Int) := by
  rw [IntKind.wrap_u32']; simp
theorem wrap_u8_bv (n : Nat) : IntKind.u8.wrap (n : Int) = ((BitVec.ofNat 8 n).toNat : Int) := by
  rw [IntKind.wrap_u8']; simp

theorem bin_xor (x y : BitVec 32) : binOp .xor t (U x) (U y) = pure (U (x ^^^ y)) := by
  have h : bits .xor .u32 (x.toNat : Int) (y.toNat : Int) = ((x ^^^ y).toNat : Int) := by
    rw [u32_xor_nat _ _ (by have := x.isLt; omega) (by have := y.isLt; omega), BitVec.toNat_xor]
  simp only [U, binOp_xor, intBits_xor, h]
theorem bin_and (x y : BitVec 32) : binOp .and t (U x) (U y) = pure (U (x &&& y)) := by
  have h : bits .and .u32 (x.toNat : Int) (y.toNat : Int) = ((x &&& y).toNat : Int) := by
    rw [u32_and_nat _ _ (by have := x.isLt; omega) (by have := y.isLt; omega), BitVec.toNat_and]
  simp only [U, binOp_and, intBits_and, h]
theorem bin_or (x y : BitVec 32) : binOp .or t (U x) (U y) = pure (U (x ||| y)) := by
  have h : bits .or .u32 (x.toNat : Int) (y.toNat : Int) = ((x ||| y).toNat : Int) := by
    rw [u32_or_nat _ _ (by have := x.isLt; omega) (by have := y.isLt; omega), BitVec.toNat_or]
  simp only [U, binOp_or, intBits_or, h]
theorem bin_add (x y : BitVec 32) : binOp .add t (U x) (U y) = pure (U (x + y)) := by
  have h : IntKind.u32.wrap ((x.toNat : Int) + (y.toNat : Int)) = ((x + y).toNat : Int) := by
    rw [← Int.natCast_add, wrap_u32_bv]; simp
  simp only [U, binOp_add]
  simp [go_sem, h]
theorem bin_add_lit (x : BitVec 32) (c : Nat) : binOp .add t (U x) (.int .u32 (c : Int)) = pure (U (x + BitVec.ofNat 32 c)) := by
  have h : IntKind.u32.wrap ((x.toNat : Int) + (c : Int)) = ((x + BitVec.ofNat 32 c).toNat : Int) := by
    rw [← Int.natCast_add, wrap_u32_bv]; simp
  simp only [U, binOp_add]
  simp [go_sem, h]
theorem bin_add_top (x : BitVec 32) : binOp .add t (U x) (.int .u32 2147483648) = pure (U (x + 2147483648#32)) := bin_add_lit t x 2147483648
theorem bin_mul_256 (x : BitVec 32) : binOp .mul t (U x) (.int .u32 256) = pure (U (x * 256#32)) := by
  have h : IntKind.u32.wrap ((x.toNat : Int) * 256) = ((x * 256#32).toNat : Int) := by
    rw [show ((x.toNat : Int) * 256) = ((x.toNat * 256 : Nat) : Int) from by simp, wrap_u32_bv]; simp
  simp only [U, binOp_mul]
  simp [go_sem, h]
theorem bin_mul_lit (x : BitVec 32) (c : Nat) : binOp .mul t (U x) (.int .u32 (c : Int)) = pure (U (x * BitVec.ofNat 32 c)) := by
  have h : IntKind.u32.wrap ((x.toNat : Int) * (c : Int)) = ((x * BitVec.ofNat 32 c).toNat : Int) := by
    rw [← Int.natCast_mul, wrap_u32_bv]; simp
  simp only [U, binOp_mul]
  simp [go_sem, h]
theorem un_compl (x : BitVec 32) : Op.unary .xor (U x) = pure (U (~~~x)) := by
  have h : bits .xor .u32 (4294967295 : Int) (x.toNat : Int) = ((~~~x).toNat : Int) := by
    rw [show (4294967295 : Int) = ((BitVec.allOnes 32).toNat : Int) from rfl, u32_xor_nat _ _ (by decide) (by have := x.isLt; omega), ← BitVec.toNat_xor, BitVec.allOnes_xor]
  simp only [U, Op.unary]
  rw [intBits_xor]
  have e : (if IntKind.u32.signed = true then (-1 : Int) else IntKind.u32.max) = 4294967295 := by decide
  rw [e, h]
theorem bin_shl (x : BitVec 32) (k : IntKind) (s : Int) (h0 : 0 ≤ s) : binOp .shl t (U x) (.int k s) = pure (U (x <<< s.toNat)) := by
  simp only [U, binOp_shl]
  rw [shift_shl_any _ _ _ _ h0]
  have h : IntKind.u32.wrap ((x.toNat : Int) * 2 ^ min s.toNat IntKind.u32.bits) = ((x <<< s.toNat).toNat : Int) := by
    rw [show ((x.toNat : Int) * 2 ^ min s.toNat IntKind.u32.bits) = ((x.toNat * 2 ^ min s.toNat 32 : Nat) : Int) from by simp [IntKind.bits], wrap_u32_bv]
    congr 1
    simp only [BitVec.toNat_ofNat, BitVec.toNat_shiftLeft, Nat.shiftLeft_eq]
    rcases Nat.le_total s.toNat 32 with h | h
    · rw [Nat.min_eq_left h]
    · rw [Nat.min_eq_right h]
      obtain ⟨k, hk⟩ := Nat.exists_eq_add_of_le h
      rw [hk, Nat.pow_add, ← Nat.mul_assoc, Nat.mul_mod_left, Nat.mul_assoc, Nat.mul_comm (2^32) (2^k), ← Nat.mul_assoc, Nat.mul_mod_left]
  rw [h]
theorem bin_shr (x : BitVec 32) (k : IntKind) (s : Int) (h0 : 0 ≤ s) : binOp .shr t (U x) (.int k s) = pure (U (x >>> s.toNat)) := by
  simp only [U, binOp_shr]
  rw [shift_shr_any _ _ _ _ h0]
  have h : ((x.toNat : Int) / 2 ^ min s.toNat IntKind.u32.bits) = ((x >>> s.toNat).toNat : Int) := by
    rw [show ((x.toNat : Int) / 2 ^ min s.toNat IntKind.u32.bits) = ((x.toNat / 2 ^ min s.toNat 32 : Nat) : Int) from by simp [IntKind.bits]]
    congr 1
    simp only [BitVec.toNat_ushiftRight, Nat.shiftRight_eq_div_pow]
    rcases Nat.le_total s.toNat 32 with h | h
    · rw [Nat.min_eq_left h]
    · rw [Nat.min_eq_right h, Nat.div_eq_of_lt x.isLt, Nat.div_eq_of_lt (Nat.lt_of_lt_of_le x.isLt (Nat.pow_le_pow_right (by decide) h))]
  rw [h]
theorem bin_rem2 (x : BitVec 32) : binOp .rem t (U x) (.int .u32 2) = pure (U (x % 2#32)) := by
  simp only [U, binOp_rem, Op.intDiv]
  rw [if_neg (by decide), Int.tmod_eq_emod_of_nonneg (by omega)]
  congr 2
theorem bin_quo2 (x : BitVec 32) : binOp .quo t (U x) (.int .u32 2) = pure (U (x / 2#32)) := by
  simp only [U, binOp_quo, Op.intDiv]
  rw [if_neg (by decide), Int.tdiv_eq_ediv_of_nonneg (by omega), show ((x.toNat : Int) / 2) = ((x.toNat / 2 : Nat) : Int) from by simp, wrap_u32_bv]
  congr 2
  simp [BitVec.toNat_udiv]
  have := x.isLt
  omega
theorem bin_rem256 (x : BitVec 32) : binOp .rem t (U x) (.int .u32 256) = pure (U (x % 256#32)) := by
  simp only [U, binOp_rem, Op.intDiv]
  rw [if_neg (by decide), Int.tmod_eq_emod_of_nonneg (by omega)]
  congr 2
theorem bin_quo256 (x : BitVec 32) : binOp .quo t (U x) (.int .u32 256) = pure (U (x / 256#32)) := by
  simp only [U, binOp_quo, Op.intDiv]
  rw [if_neg (by decide), Int.tdiv_eq_ediv_of_nonneg (by omega), show ((x.toNat : Int) / 256) = ((x.toNat / 256 : Nat) : Int) from by simp, wrap_u32_bv]
  congr 2
  simp [BitVec.toNat_udiv]
  have := x.isLt
  omega
theorem bin_eq1 (x : BitVec 32) : binOp .eql t (U x) (.int .u32 1) = pure (.bool (x == 1#32)) := by
  have h : ((x.toNat : Int) == 1) = (x == 1#32) := by
    rw [Bool.eq_iff_iff]; simp only [beq_iff_eq]
    constructor
    · intro h; exact BitVec.eq_of_toNat_eq (by simp; omega)
    · rintro rfl; rfl
  simp only [U, binOp_eql, h]
theorem guard_U (op : BinOp) (p q : Operand) (x : BitVec 32) (v : Value) : eqGuard op t p q (U x) v = pure () := eqGuard_at_int ..
theorem guard_B (op : BinOp) (p q : Operand) (x : BitVec 8) (v : Value) : eqGuard op t p q (B x) v = pure () := eqGuard_at_int ..
theorem one_U (x : BitVec 32) : (U x).oneCell' = true := rfl
theorem one_B (x : BitVec 8) : (B x).oneCell' = true := rfl
theorem cells_U (x : BitVec 32) : (U x).cells = #[U x] := rfl
theorem cells_B (x : BitVec 8) : (B x).cells = #[B x] := rfl
end

section
variable {P : Program} (w : World)
theorem run_convert_BU (src dst : TypeId) (x : BitVec 8) (hs : (P.underlying src).isSome = true) (hd : P.underlying dst = some (.int .u32)) :
    (convert src dst (B x)).run P w = .ok (U (x.setWidth 32)) w := by
  have hk : P.intKind dst = .u32 := by simp [Program.intKind, hd]
  have := run_convert_int (P := P) (w := w) src dst .u8 (x.toNat : Int) hs (by rw [hk]; exact hd)
  rw [hk, wrap_u32_bv] at this
  rw [B, this, U, BitVec.ofNat_toNat]
theorem run_convert_UB (src dst : TypeId) (x : BitVec 32) (hs : (P.underlying src).isSome = true) (hd : P.underlying dst = some (.int .u8)) :
    (convert src dst (U x)).run P w = .ok (B (x.setWidth 8)) w := by
  have hk : P.intKind dst = .u8 := by simp [Program.intKind, hd]
  have := run_convert_int (P := P) (w := w) src dst .u32 (x.toNat : Int) hs (by rw [hk]; exact hd)
  rw [hk, wrap_u8_bv] at this
  rw [U, this, B, BitVec.ofNat_toNat]
theorem run_store_U (a : Addr) (x : BitVec 32) (m : Mode) : (store a (U x) m).run P w = stored P w a (U x) m := run_store P w a _ m rfl
theorem run_store_B (a : Addr) (x : BitVec 8) (m : Mode) : (store a (B x) m).run P w = stored P w a (B x) m := run_store P w a _ m rfl
end
attribute [irreducible] U B
attribute [go_sem] bin_xor bin_and bin_or bin_add bin_add_top bin_mul_256 bin_shl bin_shr bin_rem2 bin_quo2 bin_rem256 bin_quo256 bin_eq1 un_compl guard_U guard_B run_convert_BU run_convert_UB run_store_U run_store_B one_U one_B
/-- A store, its operands reckoned first. -/
def stT (t : TypeId) (p v : Value) : Sem Next := do Instr.storeAt t p v; pure .skip
theorem exec_store (r : Operand → Value) (dst : Option Tmp) (t : TypeId) (p v : Operand) (ty : TypeId) (pos : String) (after : Array Edge) (guard : Option (Nat × Bool)) :
    execOp r ⟨dst, .store t p v, ty, pos, after, guard⟩ = stT t (r p) (r v) := rfl
theorem stT_one {P : Program} (t : TypeId) (a : Addr) (v : Value) (w : World) (hv : v.oneCell' = true) (hc : v.cells = #[v]) (hs : (P.info? t).map (·.size) = some 1)
    (hcell : (w.cell? a).isSome = true) (hf : w.frozen? a = false) : (stT t (.pointer (some a)) v).run P w = .ok .skip (w.setCell a v) := by
  obtain ⟨u, hu⟩ := Option.isSome_iff_exists.1 hcell
  cases hq : P.info? t with
  | none => simp [hq] at hs
  | some i =>
    have hi : i.size = 1 := by simpa [hq] using hs
    simp [stT, Instr.storeAt, Instr.sureAddr, storeVar, hc, sizeOf, typeInfo, hq, hi, storeCells, Addr.add_zero', run_store P w a v _ hv, stored, hu, hf]
end Go.Proofs.YtllpcllgliknpaaGreatDoor.Sha
