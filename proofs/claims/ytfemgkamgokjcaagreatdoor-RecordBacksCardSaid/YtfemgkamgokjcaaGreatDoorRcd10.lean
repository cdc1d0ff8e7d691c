/- Records by value: their cells, the laws of both types. -/
import Derived.Test.YtfemgkamgokjcaaGreatDoorVec9
import Derived.Test.YtfemgkamgokjcaaGreatDoorDig6
import Derived.Test.YtfemgkamgokjcaaGreatDoorStr7
set_option linter.unusedSimpArgs false
set_option maxRecDepth 100000
set_option linter.unusedVariables false
namespace Go.Proofs.YtfemgkamgokjcaaGreatDoor
open Go Go.RowKit

/-- A record: its path, size, times, version, whether it is gone, the digest of all, the header of its digests. -/
structure Rc where
  path : S8
  size : Int
  time : Int
  chg : Int
  ver : Nat → Int
  dead : Bool
  whole : List (BitVec 8)
  q : Option Addr
  n : Nat
  cap : Nat
/-- Its cells. -/
def rcF (r : Rc) (i : Nat) : Value :=
  if i = 0 then .string (mkS r.path) else if i = 1 then .int .i64 r.size else if i = 2 then .int .i64 r.time else if i = 3 then .int .i64 r.chg
  else if i < 20 then .int .i64 (r.ver (i - 4)) else if i = 20 then .bool r.dead else if i < 53 then dgF r.whole (i - 21) else .slice r.q r.n r.cap
def rcV (r : Rc) : Value := .agg (tab 54 (rcF r))
theorem rc_one (r : Rc) (n : Nat) : (tab n (rcF r)).all (·.oneCell') = true := by
  rw [Array.all_eq_true']
  intro x hx
  unfold tab at hx
  simp only [List.mem_toArray, List.mem_map, List.mem_range] at hx
  obtain ⟨i, _, rfl⟩ := hx
  unfold rcF
  split
  · rfl
  · split
    · rfl
    · split
      · rfl
      · split
        · rfl
        · split
          · rfl
          · split
            · rfl
            · split
              · exact one_B _
              · rfl
/-- The zero record. -/
def rc0 : Rc := ⟨[], 0, 0, 0, fun _ => 0, false, z32, none, 0, 0⟩
structure RT (T : TypeId) : Prop where
  und : (Tryz.prog.underlying T).map (·.isRow) = some true
  info : (Tryz.prog.info? T).map (fun i => (i.zero, i.size)) = some (some (.agg (#[.string ⟨#[]⟩, .int .i64 0, .int .i64 0, .int .i64 0] ++ Array.replicate 16 (.int .i64 0) ++ #[.bool false] ++ Array.replicate 32 (.int .u8 0) ++ #[.slice none 0 0])), 54)
theorem RT.size {T : TypeId} (h : RT T) : (Tryz.prog.info? T).map (·.size) = some 54 := by
  have := h.info
  cases hq : Tryz.prog.info? T with
  | none => rw [hq] at this; cases this
  | some i => rw [hq] at this; simp at this; simp [this.2]
theorem rz : (#[.string ⟨#[]⟩, .int .i64 0, .int .i64 0, .int .i64 0] ++ Array.replicate 16 (Value.int .i64 0) ++ #[.bool false] ++ Array.replicate 32 (Value.int .u8 0) ++ #[.slice none 0 0]) = tab 54 (rcF rc0) := by kernel_rfl
section
variable {T : TypeId} (hT : RT T)
include hT
theorem allocRT (r : Operand → Value) (dst : Option Tmp) (ty : TypeId) (pos : String) (after : Array Edge) (guard : Option (Nat × Bool)) (w : World) :
    (execOp r ⟨dst, .alloc T, ty, pos, after, guard⟩).run Tryz.prog w = .ok (.value (.pointer (some ⟨w.heap.size, 0, none⟩))) (w.alloc (.cells (tab 54 (rcF rc0)) T)) := by
  have h := (zero_of_info hT.info).1 w
  rw [rz] at h
  simp [execOp, Instr.alloc, h, newVar, newRow, Value.cells]
theorem boxRT (w : World) (r : Rc) : (bxT T (rcV r)).run Tryz.prog w = .ok (.value (.pointer (some ⟨w.heap.size, 0, none⟩))) (w.alloc (.cells (tab 54 (rcF r)) T)) := by
  have hs := hT.size
  cases hq : Tryz.prog.info? T with
  | none => rw [hq] at hs; cases hs
  | some i =>
    rw [hq] at hs
    simp at hs
    unfold rcV
    simp [bxT, Instr.box, newVar, newRow, Value.cells]
theorem loadRT {T2 : TypeId} {w : World} {b : Nat} {r : Rc} (h : Row w b T2 54 (rcF r)) : (ldT T (.pointer (some ⟨b, 0, none⟩))).run Tryz.prog w = .ok (.value (rcV r)) w := by
  have hr := hT.und
  obtain ⟨d, hu, hd⟩ : ∃ d, Tryz.prog.underlying T = some d ∧ d.isRow = true := by
    cases hq : Tryz.prog.underlying T with
    | none => rw [hq] at hr; cases hr
    | some d => rw [hq] at hr; exact ⟨d, rfl, by simpa using hr⟩
  have := run_loadAt_mid (P := Tryz.prog) w b 0 T _ _ h.range hu hd (by rw [hT.size]; simp [tab])
  unfold rcV
  simp only [ldT, Sem.run_bind, this, Result.andThen, Sem.run_pure, Array.toArray_toList]
theorem storeRT {T2 : TypeId} {w : World} {b : Nat} {g : Nat → Value} (hR : Row w b T2 54 g) (r : Rc) :
    ∃ w', (stT T (.pointer (some ⟨b, 0, none⟩)) (rcV r)).run Tryz.prog w = .ok .skip w' ∧ Row w' b T2 54 (rcF r) ∧ Kp b w w' := by
  have h := run_storeVar_row (P := Tryz.prog) w b T2 T (tab 54 g) (tab 54 (rcF r)) hR (by rw [hT.size, tab_size]) (by rw [tab_size, tab_size]) (rc_one r 54)
  refine ⟨w.setRow b (tab 54 (rcF r)), ?_, setRow_heap w b _ _ T2 _ hR, ⟨rfl, rfl, rfl, by simp [World.setRow], fun k _ hk => setRow_other w b k _ hk⟩⟩
  unfold rcV
  simp only [stT, Instr.storeAt, Instr.sureAddr, Sem.run_bind, Sem.run_pure, Result.andThen, h]
theorem storeNewRT (w : World) (N : Nat) (T2 : TypeId) (g : Nat → Value) (r : Rc) (hN : N = w.heap.size) : (stT T (.pointer (some ⟨N, 0, none⟩)) (rcV r)).run Tryz.prog (w.alloc (.cells (tab 54 g) T2)) = .ok .skip (w.alloc (.cells (tab 54 (rcF r)) T2)) := by
  subst hN
  have h := run_storeAt_newV (P := Tryz.prog) w T T2 (tab 54 g) (tab 54 (rcF r)) (by rw [hT.size, tab_size]) (by rw [tab_size, tab_size]) (rc_one r 54)
  unfold rcV
  simp only [stT, Sem.run_bind, h, Result.andThen, Sem.run_pure]
end
theorem rtM : RT 26 := ⟨by kernel_rfl, by kernel_rfl⟩
theorem rtP : RT 33 := ⟨by kernel_rfl, by kernel_rfl⟩
theorem exec_allocM (r : Operand → Value) (dst : Option Tmp) (ty : TypeId) (pos : String) (after : Array Edge) (guard : Option (Nat × Bool)) (w : World) :
    (execOp r ⟨dst, .alloc 26, ty, pos, after, guard⟩).run Tryz.prog w = .ok (.value (.pointer (some ⟨w.heap.size, 0, none⟩))) (w.alloc (.cells (tab 54 (rcF rc0)) 26)) := allocRT rtM r dst ty pos after guard w
theorem exec_allocP (r : Operand → Value) (dst : Option Tmp) (ty : TypeId) (pos : String) (after : Array Edge) (guard : Option (Nat × Bool)) (w : World) :
    (execOp r ⟨dst, .alloc 33, ty, pos, after, guard⟩).run Tryz.prog w = .ok (.value (.pointer (some ⟨w.heap.size, 0, none⟩))) (w.alloc (.cells (tab 54 (rcF rc0)) 33)) := allocRT rtP r dst ty pos after guard w
theorem exec_boxM (r : Operand → Value) (dst : Option Tmp) (x : Operand) (ty : TypeId) (pos : String) (after : Array Edge) (guard : Option (Nat × Bool)) : execOp r ⟨dst, .box 26 x, ty, pos, after, guard⟩ = bxT 26 (r x) := rfl
theorem exec_boxP (r : Operand → Value) (dst : Option Tmp) (x : Operand) (ty : TypeId) (pos : String) (after : Array Edge) (guard : Option (Nat × Bool)) : execOp r ⟨dst, .box 33 x, ty, pos, after, guard⟩ = bxT 33 (r x) := rfl
theorem boxM (w : World) (r : Rc) : (bxT 26 (rcV r)).run Tryz.prog w = .ok (.value (.pointer (some ⟨w.heap.size, 0, none⟩))) (w.alloc (.cells (tab 54 (rcF r)) 26)) := boxRT rtM w r
theorem boxP (w : World) (r : Rc) : (bxT 33 (rcV r)).run Tryz.prog w = .ok (.value (.pointer (some ⟨w.heap.size, 0, none⟩))) (w.alloc (.cells (tab 54 (rcF r)) 33)) := boxRT rtP w r
section
variable {w : World} {b : Nat} {T : TypeId} {r : Rc} (h : Row w b T 54 (rcF r))
include h
theorem rc_path : w.cell? ⟨b, 0, none⟩ = some (.string (mkS r.path)) := h.cell 0 (by decide)
theorem rc_size : w.cell? ⟨b, 1, none⟩ = some (.int .i64 r.size) := h.cell 1 (by decide)
theorem rc_time : w.cell? ⟨b, 2, none⟩ = some (.int .i64 r.time) := h.cell 2 (by decide)
theorem rc_chg : w.cell? ⟨b, 3, none⟩ = some (.int .i64 r.chg) := h.cell 3 (by decide)
theorem rc_dead : w.cell? ⟨b, 20, none⟩ = some (.bool r.dead) := h.cell 20 (by decide)
theorem rc_blocks : w.cell? ⟨b, 53, none⟩ = some (.slice r.q r.n r.cap) := h.cell 53 (by decide)
theorem rc_ver : VecAt w b 4 r.ver := fun i hi => by
  rw [h.cell (4 + i) (by omega)]
  unfold rcF
  rw [if_neg (by omega), if_neg (by omega), if_neg (by omega), if_neg (by omega), if_pos (by omega), show 4 + i - 4 = i by omega]
theorem rc_whole (hw : r.whole.length = 32) : Sl w (some ⟨b, 21, none⟩) r.whole := fun j hj => by
  refine ⟨b, 21, rfl, ?_⟩
  rw [h.cell (21 + j) (by omega)]
  unfold rcF dgF
  rw [if_neg (by omega), if_neg (by omega), if_neg (by omega), if_neg (by omega), if_neg (by omega), if_neg (by omega), if_pos (by omega), show 21 + j - 21 = j by omega]
end
attribute [irreducible] rcV
end Go.Proofs.YtfemgkamgokjcaaGreatDoor
