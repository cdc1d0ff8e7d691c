/- Two digests compared. -/
import Derived.Test.YtkajeepbelfpiaaGreatDoorShPad
import Derived.Test.YtkajeepbelfpiaaGreatDoorShRefS
set_option linter.unusedSimpArgs false
set_option maxRecDepth 100000
set_option linter.unusedVariables false
namespace Go.Proofs.YtkajeepbelfpiaaGreatDoor.Sha
open Go Go.RowKit

theorem sizeOf5 (w : World) : (sizeOf 5).run Tryz.prog w = .ok 1 w := by
  have h := size5
  cases hq : Tryz.prog.info? 5 with
  | none => simp [hq] at h
  | some i =>
    have hi : i.size = 1 := by simpa [hq] using h
    simp [sizeOf, typeInfo, hq, hi]
theorem isAgg5 (w : World) : (isAgg 5).run Tryz.prog w = .ok false w := by
  simp only [isAgg, Sem.run_bind, run_underlying Tryz.underlying5, Result.andThen, Sem.run_pure]
theorem part5 (cs : Array Value) (i : Nat) (v : Value) (h : cs[i]? = some v) (w : World) : (part 5 cs (i * 1)).run Tryz.prog w = .ok v w := by
  simp only [part, Sem.run_bind, isAgg5, Result.andThen, Bool.false_eq_true, if_false, Nat.mul_one, h, Sem.run_pure]
theorem eqB (d : Nat) (x y : BitVec 8) (w : World) : (Op.equalIn (d + 1) 5 (B x) (B y)).run Tryz.prog w = .ok (x == y) w := by
  have h : ((x.toNat : Int) == (y.toNat : Int)) = (x == y) := by
    rw [Bool.eq_iff_iff]; simp only [beq_iff_eq]
    constructor
    · intro h; exact BitVec.eq_of_toNat_eq (by omega)
    · rintro rfl; rfl
  rw [B_eq', B_eq', run_equalIn_int (P := Tryz.prog) w d 5 .u8 .u8 _ _ Tryz.underlying5, h]
theorem eq_loop (d : Nat) (f g : Nat → BitVec 8) : ∀ (l : List Nat), (∀ i ∈ l, i < 32) → ∀ w, (forIn (m := Sem) l ((none, ()) : Option Bool × Unit) fun i _ => do
      if (!(← Op.equalIn (d + 1) 5 (← part 5 (tab 32 fun i => B (f i)) (i * 1)) (← part 5 (tab 32 fun i => B (g i)) (i * 1)))) = true then pure (ForInStep.done (some false, ())) else pure (ForInStep.yield (none, ()))).run Tryz.prog w =
      .ok (if l.all fun i => f i == g i then (none, ()) else (some false, ())) w
  | [], _, w => by simp
  | i :: l, hl, w => by
    have hi : i < 32 := hl i (by simp)
    simp only [List.forIn_cons, Sem.run_bind, part5 _ i _ (tab_get _ _ _ hi), Result.andThen_ok, eqB, Sem.run_ite]
    by_cases e : (f i == g i) = true
    · simp only [e, Bool.not_true, Bool.false_eq_true, if_false, Sem.run_pure, Result.andThen_ok]
      rw [eq_loop d f g l (fun j hj => hl j (by simp [hj])) w]
      simp only [List.all_cons, e, Bool.true_and]
    · have e' : (f i == g i) = false := by simpa using e
      simp only [e', Bool.not_false, if_true, Sem.run_pure, Result.andThen_ok, List.all_cons, Bool.false_and, Bool.false_eq_true, if_false]
theorem eq_digest (d : Nat) (f g : Nat → BitVec 8) (w : World) : (Op.equalIn (d + 2) 41 (dgV f) (dgV g)).run Tryz.prog w = .ok ((List.range 32).all fun i => f i == g i) w := by
  rw [dgV, dgV, Op.equalIn]
  simp only [Sem.run_bind, run_underlying und24, Result.andThen_ok, sizeOf5, Std.Legacy.Range.forIn_eq_forIn_range', Std.Legacy.Range.size, Nat.sub_zero, Nat.add_one_sub_one, Nat.div_one, ← List.range_eq_range']
  rw [eq_loop d f g _ (by simp) w]
  simp only [Result.andThen_ok]
  cases h : (List.range 32).all fun i => f i == g i
  · simp only [Bool.false_eq_true, if_false, Sem.run_pure]
  · simp only [if_true, Sem.run_pure]
theorem all_same (f : Nat → BitVec 8) : ((List.range 32).all fun i => f i == f i) = true := by simp
/-- A comparison of two digests, its operands reckoned first. -/
def cmpT (op : BinOp) (x y : Value) : Sem Next := do pure (.value (← binOp op 41 x y))
theorem exec_eql24 (r : Operand → Value) (dst : Option Tmp) (x y : Operand) (z : TypeId) (ty : TypeId) (pos : String) (after : Array Edge) (guard : Option (Nat × Bool)) (f g : Nat → BitVec 8) (hx : r x = dgV f) (hy : r y = dgV g) (w : World) :
    (execOp r ⟨dst, .binOp .eql 41 x y z, ty, pos, after, guard⟩).run Tryz.prog w = .ok (.value (.bool ((List.range 32).all fun i => f i == g i))) w := by
  have hg : (eqGuard .eql 41 x y (dgV f) (dgV g)).run Tryz.prog w = .ok () w := run_eqGuard_agg (P := Tryz.prog) w .eql 41 x y _ _ (by kernel_rfl)
  have hb : (binOp .eql 41 (dgV f) (dgV g)).run Tryz.prog w = .ok (.bool ((List.range 32).all fun i => f i == g i)) w := by
    have := run_eql_struct (P := Tryz.prog) w 41 (tab 32 fun i => B (f i)) (tab 32 fun i => B (g i))
    rw [show Value.agg (tab 32 fun i => B (f i)) = dgV f from rfl, show Value.agg (tab 32 fun i => B (g i)) = dgV g from rfl, eq_digest 9998 f g w] at this
    exact this
  simp only [execOp, hx, hy, Sem.run_bind, hg, hb, Result.andThen_ok, Sem.run_pure]
theorem exec_neq24 (r : Operand → Value) (dst : Option Tmp) (x y : Operand) (z : TypeId) (ty : TypeId) (pos : String) (after : Array Edge) (guard : Option (Nat × Bool)) (f g : Nat → BitVec 8) (hx : r x = dgV f) (hy : r y = dgV g) (w : World) :
    (execOp r ⟨dst, .binOp .neq 41 x y z, ty, pos, after, guard⟩).run Tryz.prog w = .ok (.value (.bool (!((List.range 32).all fun i => f i == g i)))) w := by
  have hg : (eqGuard .neq 41 x y (dgV f) (dgV g)).run Tryz.prog w = .ok () w := run_eqGuard_agg (P := Tryz.prog) w .neq 41 x y _ _ (by kernel_rfl)
  have hb : (binOp .neq 41 (dgV f) (dgV g)).run Tryz.prog w = .ok (.bool (!((List.range 32).all fun i => f i == g i))) w := by
    have := run_neq_struct (P := Tryz.prog) w 41 (tab 32 fun i => B (f i)) (tab 32 fun i => B (g i))
    rw [show Value.agg (tab 32 fun i => B (f i)) = dgV f from rfl, show Value.agg (tab 32 fun i => B (g i)) = dgV g from rfl, eq_digest 9998 f g w] at this
    exact this
  simp only [execOp, hx, hy, Sem.run_bind, hg, hb, Result.andThen_ok, Sem.run_pure]
end Go.Proofs.YtkajeepbelfpiaaGreatDoor.Sha
