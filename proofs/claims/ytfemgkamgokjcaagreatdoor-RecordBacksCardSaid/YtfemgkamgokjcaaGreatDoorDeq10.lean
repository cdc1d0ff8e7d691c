/- Digests by value compared. -/
import Derived.Test.YtfemgkamgokjcaaGreatDoorSha10
import Derived.Test.YtfemgkamgokjcaaGreatDoorShEq
import Derived.Test.YtfemgkamgokjcaaGreatDoorDig6
import Derived.Test.YtfemgkamgokjcaaGreatDoorVec9
set_option linter.unusedSimpArgs false
set_option maxRecDepth 100000
set_option linter.unusedVariables false
namespace Go.Proofs.YtfemgkamgokjcaaGreatDoor
open Go Go.RowKit

/-- Are two digests the same? -/
def deq (a b : List (BitVec 8)) : Bool := (List.range 32).all fun i => a.getD i 0#8 == b.getD i 0#8
theorem deq_iff {a b : List (BitVec 8)} (ha : a.length = 32) (hb : b.length = 32) : deq a b = true ↔ a = b := by
  unfold deq
  simp only [List.all_eq_true, List.mem_range, beq_iff_eq]
  constructor
  · intro h
    apply List.ext_getElem (by omega)
    intro i h1 h2
    have := h i (by omega)
    rwa [List.getD_eq_getElem?_getD, List.getD_eq_getElem?_getD, List.getElem?_eq_getElem h1, List.getElem?_eq_getElem h2] at this
  · rintro rfl i _; rfl
theorem deq_self (a : List (BitVec 8)) : deq a a = true := by unfold deq; simp
theorem digV_sha (l : List (BitVec 8)) : digV l = Sha.dgV fun i => l.getD i 0#8 := by
  unfold Sha.dgV digV
  have : tab 32 (dgF l) = Sha.tab 32 (fun i => Sha.B (l.getD i 0#8)) := by
    apply Array.ext_getElem?
    intro i
    by_cases h : i < 32
    · rw [tab_get 32 _ i h, Sha.tab_get 32 _ i h]
      unfold dgF
      rw [shaB]
    · rw [Array.getElem?_eq_none (by rw [tab_size]; omega), Array.getElem?_eq_none (by rw [Sha.tab_size]; omega)]
  rw [this]
theorem digV_agg (l : List (BitVec 8)) : digV l = .agg (tab 32 (dgF l)) := by unfold digV; rfl
theorem eql_run (a b : List (BitVec 8)) (w : World) : (binOp .eql 23 (digV a) (digV b)).run Tryz.prog w = .ok (.bool (deq a b)) w := by
  have := run_eql_struct (P := Tryz.prog) w 23 (tab 32 (dgF a)) (tab 32 (dgF b))
  rw [← digV_agg, ← digV_agg] at this
  rw [digV_sha a, digV_sha b] at this ⊢
  rw [Sha.eq_digest 9998] at this
  exact this
theorem neq_run (a b : List (BitVec 8)) (w : World) : (binOp .neq 23 (digV a) (digV b)).run Tryz.prog w = .ok (.bool (!deq a b)) w := by
  have := run_neq_struct (P := Tryz.prog) w 23 (tab 32 (dgF a)) (tab 32 (dgF b))
  rw [← digV_agg, ← digV_agg] at this
  rw [digV_sha a, digV_sha b] at this ⊢
  rw [Sha.eq_digest 9998] at this
  exact this
theorem exec_eqlD (r : Operand → Value) (dst : Option Tmp) (x y : Operand) (z : TypeId) (ty : TypeId) (pos : String) (after : Array Edge) (guard : Option (Nat × Bool)) :
    execOp r ⟨dst, .binOp .eql 23 x y z, ty, pos, after, guard⟩ = eqX .eql 23 x y (r x) (r y) := rfl
theorem exec_neqD (r : Operand → Value) (dst : Option Tmp) (x y : Operand) (z : TypeId) (ty : TypeId) (pos : String) (after : Array Edge) (guard : Option (Nat × Bool)) :
    execOp r ⟨dst, .binOp .neq 23 x y z, ty, pos, after, guard⟩ = eqX .neq 23 x y (r x) (r y) := rfl
theorem eqlD (x y : Operand) (a b : List (BitVec 8)) (w : World) : (eqX .eql 23 x y (digV a) (digV b)).run Tryz.prog w = .ok (.value (.bool (deq a b))) w := by
  have hg : (eqGuard .eql 23 x y (digV a) (digV b)).run Tryz.prog w = .ok () w := by rw [digV_agg, digV_agg]; exact run_eqGuard_agg (P := Tryz.prog) w .eql 23 x y _ _ (by kernel_rfl)
  simp only [eqX, Sem.run_bind, hg, eql_run, Result.andThen_ok, Sem.run_pure]
theorem neqD (x y : Operand) (a b : List (BitVec 8)) (w : World) : (eqX .neq 23 x y (digV a) (digV b)).run Tryz.prog w = .ok (.value (.bool (!deq a b))) w := by
  have hg : (eqGuard .neq 23 x y (digV a) (digV b)).run Tryz.prog w = .ok () w := by rw [digV_agg, digV_agg]; exact run_eqGuard_agg (P := Tryz.prog) w .neq 23 x y _ _ (by kernel_rfl)
  simp only [eqX, Sem.run_bind, hg, neq_run, Result.andThen_ok, Sem.run_pure]
end Go.Proofs.YtfemgkamgokjcaaGreatDoor
