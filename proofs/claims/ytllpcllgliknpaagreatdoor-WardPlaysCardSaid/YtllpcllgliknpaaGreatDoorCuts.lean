/- Slices that are cut. -/
import Derived.Test.YtllpcllgliknpaaGreatDoorBytes
set_option linter.unusedSimpArgs false
set_option maxRecDepth 100000
set_option linter.unusedVariables false
namespace Go.Proofs.YtllpcllgliknpaaGreatDoor
open Go Go.RowKit

/-- A cut of a slice, its operands reckoned first. -/
def slT (t : TypeId) (x : Value) (lo hi mx : Option Value) : Sem Next := do pure (.value (← Instr.sliceAt t x lo hi mx))
theorem exec_slice (r : Operand → Value) (dst : Option Tmp) (t : TypeId) (x : Operand) (lo hi m : Option Operand) (ty : TypeId) (pos : String) (after : Array Edge) (guard : Option (Nat × Bool)) :
    execOp r ⟨dst, .slice t x lo hi m, ty, pos, after, guard⟩ = slT t (r x) (lo.map r) (hi.map r) (m.map r) := rfl
/-- Where the bytes from number l on lie. -/
def cutA (q : Option Addr) (cap l : Nat) : Option Addr := if cap = l then q else q.map (·.add l)
theorem cutA_zero (q : Option Addr) (cap : Nat) : cutA q cap 0 = q := by
  unfold cutA
  split
  · rfl
  · cases q with
    | none => rfl
    | some a => show some (a.add 0) = some a; rw [Addr.add_zero']
theorem sizeB (w : World) : (sizeOf (Tryz.prog.elem 53)).run Tryz.prog w = .ok 1 w := by kernel_rfl
set_option maxRecDepth 100000 in
theorem sl_hi (q : Option Addr) (n cap k : Nat) (w : World) (hk : k ≤ cap) :
    (slT 53 (.slice q n cap) none (some (.int .i64 (k : Int))) none).run Tryz.prog w = .ok (.value (.slice q k cap)) w := by
  have h1 := run_sliceAt_slice (P := Tryz.prog) w 53 (.slice q n cap) none (some (.int .i64 (k : Int))) none und35
  rw [run_slice_h (P := Tryz.prog) w 53 q n cap und35 .i64 (k : Int) (by omega) (by omega), sizeB] at h1
  simp only [slT, Sem.run_bind, h1, Result.andThen_ok, Sem.run_pure]
  simp only [sliced, Int.toNat_natCast, Nat.zero_mul, Nat.sub_zero]
  have := cutA_zero q cap
  unfold cutA at this
  rw [this]
set_option maxRecDepth 100000 in
theorem sl_lo (q : Option Addr) (n cap k : Nat) (w : World) (hk : k + 1 ≤ n) :
    (slT 53 (.slice q n cap) (some (.int .i64 ((k : Int) + 1))) none none).run Tryz.prog w = .ok (.value (.slice (cutA q cap (k + 1)) (n - (k + 1)) (cap - (k + 1)))) w := by
  have h1 := run_sliceAt_slice (P := Tryz.prog) w 53 (.slice q n cap) (some (.int .i64 ((k : Int) + 1))) none none und35
  rw [run_slice_l (P := Tryz.prog) w 53 q n cap und35 .i64 ((k : Int) + 1) (by omega) (by omega), sizeB] at h1
  simp only [slT, Sem.run_bind, h1, Result.andThen_ok, Sem.run_pure]
  have e : ((k : Int) + 1).toNat = k + 1 := by omega
  simp only [sliced, e, Nat.mul_one, cutA]
theorem Sl.take {w : World} {q : Option Addr} {l : List (BitVec 8)} (h : Sl w q l) (k : Nat) : Sl w q (l.take k) := fun j hj => by
  have hj' : j < k ∧ j < l.length := by simp [List.length_take] at hj; omega
  obtain ⟨c, o, e, hc⟩ := h j hj'.2
  refine ⟨c, o, e, ?_⟩
  rw [hc]
  simp [List.getD_eq_getElem?_getD, hj'.1]
theorem Sl.drop {w : World} {q : Option Addr} {l : List (BitVec 8)} {cap : Nat} (h : Sl w q l) (hc : l.length ≤ cap) (k : Nat) : Sl w (cutA q cap k) (l.drop k) := fun j hj => by
  have hj' : k + j < l.length := by simp at hj; omega
  obtain ⟨c, o, e, hx⟩ := h (k + j) hj'
  subst e
  refine ⟨c, o + k, ?_, ?_⟩
  · unfold cutA
    rw [if_neg (by omega)]
    show some (Addr.add _ k) = _
    rw [Addr.add_mid]
  · rw [Nat.add_assoc, hx]
    simp [List.getD_eq_getElem?_getD, List.getElem?_drop]
theorem cutA_none {q : Option Addr} {cap k : Nat} (h : q = none → cap = 0) (e : cutA q cap k = none) : cap - k = 0 := by
  cases q with
  | none => rw [h rfl, Nat.zero_sub]
  | some a =>
    unfold cutA at e
    split at e <;> cases e
end Go.Proofs.YtllpcllgliknpaaGreatDoor
