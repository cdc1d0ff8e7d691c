/- Arrays of 16 ints by value: made, boxed, stored, loaded, indexed, compared. -/
import Derived.Test.YtkajeepbelfpiaaGreatDoorLdT
import Derived.Test.YtkajeepbelfpiaaGreatDoorBase
import Derived.Test.YtkajeepbelfpiaaGreatDoorChecked
import Derived.Laws.Tables
import Derived.Laws.NewDeep
set_option linter.unusedSimpArgs false
set_option maxRecDepth 100000
set_option linter.unusedVariables false
namespace Go.Proofs.YtkajeepbelfpiaaGreatDoor
open Go Go.RowKit

def vf (f : Nat → Int) : Nat → Value := fun i => .int .i64 (f i)
/-- A vector as a value. -/
def vcV (f : Nat → Int) : Value := .agg (tab 16 (vf f))
def veq (f g : Nat → Int) : Bool := (List.range 16).all fun i => f i == g i
theorem vf_one (f : Nat → Int) (n : Nat) : (tab n (vf f)).all (·.oneCell') = true := by
  rw [Array.all_eq_true']
  intro x hx
  unfold tab at hx
  simp only [List.mem_toArray, List.mem_map, List.mem_range] at hx
  obtain ⟨i, _, rfl⟩ := hx
  rfl
theorem vcV_congr {f g : Nat → Int} (h : ∀ i, i < 16 → f i = g i) : vcV f = vcV g := by
  unfold vcV
  rw [tab_congr (f := vf f) (g := vf g) fun i hi => by show Value.int .i64 (f i) = Value.int .i64 (g i); rw [h i hi]]
theorem veq_iff {f g : Nat → Int} : veq f g = true ↔ ∀ i, i < 16 → f i = g i := by
  unfold veq
  simp [List.all_eq_true]
/-- An array of 16 ints, as the program has it. -/
structure VT (T : TypeId) : Prop where
  und : Tryz.prog.underlying T = some (.array 16 3)
  info : (Tryz.prog.info? T).map (fun i => (i.zero, i.size)) = some (some (.agg (Array.replicate 16 (Value.int .i64 0))), 16)
theorem VT.size {T : TypeId} (h : VT T) : (Tryz.prog.info? T).map (·.size) = some 16 := by
  have := h.info
  cases hq : Tryz.prog.info? T with
  | none => rw [hq] at this; cases this
  | some i => rw [hq] at this; simp at this; simp [this.2]
theorem vz : Array.replicate 16 (Value.int .i64 0) = tab 16 (vf fun _ => 0) := (tab_const 16 (.int .i64 0)).symm
theorem undInt : Tryz.prog.underlying 3 = some (.int .i64) := by kernel_rfl
theorem sizeInt : (Tryz.prog.info? 3).map (·.size) = some 1 := by kernel_rfl
theorem sizeOfInt (w : World) : (sizeOf 3).run Tryz.prog w = .ok 1 w := by
  have h := sizeInt
  cases hq : Tryz.prog.info? 3 with
  | none => simp [hq] at h
  | some i =>
    have hi : i.size = 1 := by simpa [hq] using h
    simp [sizeOf, typeInfo, hq, hi]
theorem isAggInt (w : World) : (isAgg 3).run Tryz.prog w = .ok false w := by
  simp only [isAgg, Sem.run_bind, run_underlying undInt, Result.andThen, Sem.run_pure]
theorem partInt (cs : Array Value) (i : Nat) (v : Value) (h : cs[i]? = some v) (w : World) : (part 3 cs (i * 1)).run Tryz.prog w = .ok v w := by
  simp only [part, Sem.run_bind, isAggInt, Result.andThen, Bool.false_eq_true, if_false, Nat.mul_one, h, Sem.run_pure]
theorem eqInt (d : Nat) (x y : Int) (w : World) : (Op.equalIn (d + 1) 3 (.int .i64 x) (.int .i64 y)).run Tryz.prog w = .ok (x == y) w := by
  rw [run_equalIn_int (P := Tryz.prog) w d 3 .i64 .i64 _ _ undInt]
theorem veq_loop (d : Nat) (f g : Nat → Int) : ∀ (l : List Nat), (∀ i ∈ l, i < 16) → ∀ w, (forIn (m := Sem) l ((none, ()) : Option Bool × Unit) fun i _ => do
      if (!(← Op.equalIn (d + 1) 3 (← part 3 (tab 16 (vf f)) (i * 1)) (← part 3 (tab 16 (vf g)) (i * 1)))) = true then pure (ForInStep.done (some false, ())) else pure (ForInStep.yield (none, ()))).run Tryz.prog w =
      .ok (if l.all fun i => f i == g i then (none, ()) else (some false, ())) w
  | [], _, w => by simp
  | i :: l, hl, w => by
    have hi : i < 16 := hl i (by simp)
    simp only [List.forIn_cons, Sem.run_bind, partInt _ i _ (tab_get _ _ _ hi), Result.andThen_ok, vf, eqInt, Sem.run_ite]
    by_cases e : (f i == g i) = true
    · simp only [e, Bool.not_true, Bool.false_eq_true, if_false, Sem.run_pure, Result.andThen_ok]
      rw [veq_loop d f g l (fun j hj => hl j (by simp [hj])) w]
      simp only [List.all_cons, e, Bool.true_and]
    · have e' : (f i == g i) = false := by simpa using e
      simp only [e', Bool.not_false, if_true, Sem.run_pure, Result.andThen_ok, List.all_cons, Bool.false_and, Bool.false_eq_true, if_false]
theorem veq_run {T : TypeId} (hT : VT T) (d : Nat) (f g : Nat → Int) (w : World) : (Op.equalIn (d + 2) T (vcV f) (vcV g)).run Tryz.prog w = .ok (veq f g) w := by
  rw [vcV, vcV, Op.equalIn]
  simp only [Sem.run_bind, run_underlying hT.und, Result.andThen_ok, sizeOfInt, Std.Legacy.Range.forIn_eq_forIn_range', Std.Legacy.Range.size, Nat.sub_zero, Nat.add_one_sub_one, Nat.div_one, ← List.range_eq_range']
  rw [veq_loop d f g _ (by simp) w]
  simp only [Result.andThen_ok]
  unfold veq
  cases h : (List.range 16).all fun i => f i == g i
  · simp only [Bool.false_eq_true, if_false, Sem.run_pure]
  · simp only [if_true, Sem.run_pure]
theorem eqlVT {T : TypeId} (hT : VT T) (f g : Nat → Int) (w : World) : (binOp .eql T (vcV f) (vcV g)).run Tryz.prog w = .ok (.bool (veq f g)) w := by
  have := run_eql_struct (P := Tryz.prog) w T (tab 16 (vf f)) (tab 16 (vf g))
  rw [show Value.agg (tab 16 (vf f)) = vcV f from rfl, show Value.agg (tab 16 (vf g)) = vcV g from rfl, veq_run hT 9998 f g w] at this
  exact this
theorem neqVT {T : TypeId} (hT : VT T) (f g : Nat → Int) (w : World) : (binOp .neq T (vcV f) (vcV g)).run Tryz.prog w = .ok (.bool (!(veq f g))) w := by
  have := run_neq_struct (P := Tryz.prog) w T (tab 16 (vf f)) (tab 16 (vf g))
  rw [show Value.agg (tab 16 (vf f)) = vcV f from rfl, show Value.agg (tab 16 (vf g)) = vcV g from rfl, veq_run hT 9998 f g w] at this
  exact this
theorem allocVT {T : TypeId} (hT : VT T) (r : Operand → Value) (dst : Option Tmp) (ty : TypeId) (pos : String) (after : Array Edge) (guard : Option (Nat × Bool)) (w : World) :
    (execOp r ⟨dst, .alloc T, ty, pos, after, guard⟩).run Tryz.prog w = .ok (.value (.pointer (some ⟨w.heap.size, 0, none⟩))) (w.alloc (.cells (tab 16 (vf fun _ => 0)) T)) := by
  have h := (zero_of_info hT.info).1 w
  rw [vz] at h
  simp [execOp, Instr.alloc, h, newVar, newRow, Value.cells]
theorem boxVT {T : TypeId} (hT : VT T) (w : World) (f : Nat → Int) : (bxT T (vcV f)).run Tryz.prog w = .ok (.value (.pointer (some ⟨w.heap.size, 0, none⟩))) (w.alloc (.cells (tab 16 (vf f)) T)) := by
  have hs := hT.size
  cases hq : Tryz.prog.info? T with
  | none => rw [hq] at hs; cases hs
  | some i =>
    rw [hq] at hs
    simp at hs
    unfold vcV
    simp [bxT, Instr.box, newVar, newRow, Value.cells]
/-- The vector f lies from cell o of block b on. -/
def VecAt (w : World) (b o : Nat) (f : Nat → Int) : Prop := ∀ i, i < 16 → w.cell? ⟨b, o + i, none⟩ = some (.int .i64 (f i))
theorem VecAt.of_row {w : World} {b n : Nat} {T : TypeId} {f : Nat → Int} (h : Row w b T n (vf f)) (hn : 16 ≤ n) : VecAt w b 0 f := fun i hi => by
  rw [Nat.zero_add]
  exact h.cell i (by omega)
theorem VecAt.of_block {w w' : World} {b o : Nat} {f : Nat → Int} (h : VecAt w b o f) (e : w'.heap[b]? = w.heap[b]?) : VecAt w' b o f := fun i hi => (World.cell?_of_block (w := w) (w' := w') (a := ⟨b, o + i, none⟩) e).trans (h i hi)
theorem VecAt.lt {w : World} {b o : Nat} {f : Nat → Int} (h : VecAt w b o f) : b < w.heap.size := World.block_lt_of_cell? w _ (h 0 (by decide))
theorem VecAt.of_below {w w' : World} {b o : Nat} {f : Nat → Int} (h : VecAt w b o f) (k : Below w.heap.size w w') : VecAt w' b o f := h.of_block (k.block b h.lt)
theorem loadVT {T : TypeId} (hT : VT T) {w : World} {b o : Nat} {f : Nat → Int} (h : VecAt w b o f) : (ldT T (.pointer (some ⟨b, o, none⟩))).run Tryz.prog w = .ok (.value (vcV f)) w := by
  have hr : w.rangeAt b o (tab 16 (vf f)).toList := by
    intro j v hv
    have hj : j < 16 := by
      have := (List.getElem?_eq_some_iff.1 hv).1
      simpa [tab] using this
    rw [h j hj]
    have h2 : (tab 16 (vf f)).toList[j]? = some (.int .i64 (f j)) := by simp [tab, vf, hj]
    rw [h2] at hv
    exact hv
  have := run_loadAt_mid (P := Tryz.prog) w b o T _ _ hr hT.und rfl (by rw [hT.size]; simp [tab])
  unfold vcV
  simp only [ldT, Sem.run_bind, this, Result.andThen, Sem.run_pure, Array.toArray_toList]
theorem storeVT {T T2 : TypeId} (hT : VT T) {w : World} {b : Nat} {g : Nat → Value} (hR : Row w b T2 16 g) (f : Nat → Int) :
    ∃ w', (stT T (.pointer (some ⟨b, 0, none⟩)) (vcV f)).run Tryz.prog w = .ok .skip w' ∧ Row w' b T2 16 (vf f) ∧ Kp b w w' := by
  have h := run_storeVar_row (P := Tryz.prog) w b T2 T (tab 16 g) (tab 16 (vf f)) hR (by rw [hT.size, tab_size]) (by rw [tab_size, tab_size]) (vf_one f 16)
  refine ⟨w.setRow b (tab 16 (vf f)), ?_, setRow_heap w b _ _ T2 _ hR, ⟨rfl, rfl, rfl, by simp [World.setRow], fun k _ hk => setRow_other w b k _ hk⟩⟩
  unfold vcV
  simp only [stT, Instr.storeAt, Instr.sureAddr, Sem.run_bind, Sem.run_pure, Result.andThen, h]
theorem run_storeAt_newV {P : Program} (w : World) (t e : TypeId) (c c' : Array Value) (hi : (P.info? t).map (·.size) = some c'.size) (ho : c.size = c'.size) (h1 : c'.all (·.oneCell') = true) :
    (Instr.storeAt t (.pointer (some ⟨w.heap.size, 0, none⟩)) (.agg c')).run P (w.alloc (.cells c e)) = .ok () (w.alloc (.cells c' e)) := by
  simp only [Instr.storeAt, Instr.sureAddr, Sem.run_bind, Sem.run_pure, Result.andThen]
  rw [run_storeVar_row _ _ e t c c' (heap_alloc_last w _) hi ho h1, World.setRow_alloc_new]
theorem storeNewVT {T : TypeId} (hT : VT T) (w : World) (T2 : TypeId) (g : Nat → Value) (f : Nat → Int) : (stT T (.pointer (some ⟨w.heap.size, 0, none⟩)) (vcV f)).run Tryz.prog (w.alloc (.cells (tab 16 g) T2)) = .ok .skip (w.alloc (.cells (tab 16 (vf f)) T2)) := by
  have h := run_storeAt_newV (P := Tryz.prog) w T T2 (tab 16 g) (tab 16 (vf f)) (by rw [hT.size, tab_size]) (by rw [tab_size, tab_size]) (vf_one f 16)
  unfold vcV
  simp only [stT, Sem.run_bind, h, Result.andThen, Sem.run_pure]
/-- An element of an array that is a value, its operands reckoned first. -/
def ixT (t : TypeId) (x i : Value) : Sem Next := do pure (.value (← Instr.index t x i))
theorem indexVT {T : TypeId} (hT : VT T) (w : World) (f : Nat → Int) (i : Nat) (h : i < 16) : (ixT T (vcV f) (.int .i64 (i : Int))).run Tryz.prog w = .ok (.value (.int .i64 (f i))) w := by
  have hin : 0 ≤ (i : Int) ∧ (i : Int) < (16 : Nat) := by omega
  unfold vcV
  simp only [ixT, Instr.index, asIntOf, Sem.run_bind, Sem.run_pure, Result.andThen_ok, run_underlying hT.und, hin, and_self, if_true, sizeOfInt, Int.toNat_natCast, partInt _ i _ (tab_get 16 (vf f) i h)]
  rfl
theorem buildVT {T : TypeId} (hT : VT T) (hb : ∀ w, (bdT T #[]).run Tryz.prog w = .ok (.value (.agg (Array.replicate 16 (Value.int .i64 0)))) w) (w : World) : (bdT T #[]).run Tryz.prog w = .ok (.value (vcV fun _ => 0)) w := by
  rw [hb w, vz]
  rfl
/-- A comparison, its operands reckoned first. -/
def eqX (op : BinOp) (t : TypeId) (x y : Operand) (u v : Value) : Sem Next := do
  let z ← (do eqGuard op t x y u v; binOp op t u v)
  pure (.value z)
theorem vtA : VT 39 := ⟨by kernel_rfl, by kernel_rfl⟩
theorem exec_allocA (r : Operand → Value) (dst : Option Tmp) (ty : TypeId) (pos : String) (after : Array Edge) (guard : Option (Nat × Bool)) (w : World) :
    (execOp r ⟨dst, .alloc 39, ty, pos, after, guard⟩).run Tryz.prog w = .ok (.value (.pointer (some ⟨w.heap.size, 0, none⟩))) (w.alloc (.cells (tab 16 (vf fun _ => 0)) 39)) := allocVT vtA r dst ty pos after guard w
theorem exec_boxA (r : Operand → Value) (dst : Option Tmp) (x : Operand) (ty : TypeId) (pos : String) (after : Array Edge) (guard : Option (Nat × Bool)) :
    execOp r ⟨dst, .box 39 x, ty, pos, after, guard⟩ = bxT 39 (r x) := rfl
theorem boxA (w : World) (f : Nat → Int) : (bxT 39 (vcV f)).run Tryz.prog w = .ok (.value (.pointer (some ⟨w.heap.size, 0, none⟩))) (w.alloc (.cells (tab 16 (vf f)) 39)) := boxVT vtA w f
theorem exec_buildA (r : Operand → Value) (dst : Option Tmp) (parts : Array (Nat × Operand)) (ty : TypeId) (pos : String) (after : Array Edge) (guard : Option (Nat × Bool)) :
    execOp r ⟨dst, .build 39 parts, ty, pos, after, guard⟩ = bdT 39 (parts.map fun x => (x.1, r x.2)) := rfl
theorem buildA (w : World) : (bdT 39 #[]).run Tryz.prog w = .ok (.value (vcV fun _ => 0)) w := buildVT vtA (fun w => by kernel_rfl) w
theorem exec_storeA (r : Operand → Value) (dst : Option Tmp) (p v : Operand) (ty : TypeId) (pos : String) (after : Array Edge) (guard : Option (Nat × Bool)) :
    execOp r ⟨dst, .store 39 p v, ty, pos, after, guard⟩ = stT 39 (r p) (r v) := rfl
theorem storeNewA (w : World) (N : Nat) (T2 : TypeId) (g : Nat → Value) (f : Nat → Int) (hN : N = w.heap.size) : (stT 39 (.pointer (some ⟨N, 0, none⟩)) (vcV f)).run Tryz.prog (w.alloc (.cells (tab 16 g) T2)) = .ok .skip (w.alloc (.cells (tab 16 (vf f)) T2)) := by
  subst hN
  exact storeNewVT vtA w T2 g f
theorem exec_loadA (r : Operand → Value) (dst : Option Tmp) (p : Operand) (ty : TypeId) (pos : String) (after : Array Edge) (guard : Option (Nat × Bool)) :
    execOp r ⟨dst, .load 39 p, ty, pos, after, guard⟩ = ldT 39 (r p) := rfl
theorem exec_indexA (r : Operand → Value) (dst : Option Tmp) (x i : Operand) (ty : TypeId) (pos : String) (after : Array Edge) (guard : Option (Nat × Bool)) :
    execOp r ⟨dst, .index 39 x i, ty, pos, after, guard⟩ = ixT 39 (r x) (r i) := rfl
theorem indexA (w : World) (f : Nat → Int) (i : Nat) (h : i < 16) : (ixT 39 (vcV f) (.int .i64 (i : Int))).run Tryz.prog w = .ok (.value (.int .i64 (f i))) w := indexVT vtA w f i h
theorem exec_eqlA (r : Operand → Value) (dst : Option Tmp) (x y : Operand) (z : TypeId) (ty : TypeId) (pos : String) (after : Array Edge) (guard : Option (Nat × Bool)) :
    execOp r ⟨dst, .binOp .eql 39 x y z, ty, pos, after, guard⟩ = eqX .eql 39 x y (r x) (r y) := rfl
theorem exec_neqA (r : Operand → Value) (dst : Option Tmp) (x y : Operand) (z : TypeId) (ty : TypeId) (pos : String) (after : Array Edge) (guard : Option (Nat × Bool)) :
    execOp r ⟨dst, .binOp .neq 39 x y z, ty, pos, after, guard⟩ = eqX .neq 39 x y (r x) (r y) := rfl
theorem eqlA (x y : Operand) (f g : Nat → Int) (w : World) : (eqX .eql 39 x y (vcV f) (vcV g)).run Tryz.prog w = .ok (.value (.bool (veq f g))) w := by
  have hg : (eqGuard .eql 39 x y (vcV f) (vcV g)).run Tryz.prog w = .ok () w := run_eqGuard_agg (P := Tryz.prog) w .eql 39 x y _ _ (by kernel_rfl)
  simp only [eqX, Sem.run_bind, hg, eqlVT vtA, Result.andThen_ok, Sem.run_pure]
theorem neqA (x y : Operand) (f g : Nat → Int) (w : World) : (eqX .neq 39 x y (vcV f) (vcV g)).run Tryz.prog w = .ok (.value (.bool (!(veq f g)))) w := by
  have hg : (eqGuard .neq 39 x y (vcV f) (vcV g)).run Tryz.prog w = .ok () w := run_eqGuard_agg (P := Tryz.prog) w .neq 39 x y _ _ (by kernel_rfl)
  simp only [eqX, Sem.run_bind, hg, neqVT vtA, Result.andThen_ok, Sem.run_pure]
theorem vtV : VT 40 := ⟨by kernel_rfl, by kernel_rfl⟩
theorem exec_allocV (r : Operand → Value) (dst : Option Tmp) (ty : TypeId) (pos : String) (after : Array Edge) (guard : Option (Nat × Bool)) (w : World) :
    (execOp r ⟨dst, .alloc 40, ty, pos, after, guard⟩).run Tryz.prog w = .ok (.value (.pointer (some ⟨w.heap.size, 0, none⟩))) (w.alloc (.cells (tab 16 (vf fun _ => 0)) 40)) := allocVT vtV r dst ty pos after guard w
theorem exec_boxV (r : Operand → Value) (dst : Option Tmp) (x : Operand) (ty : TypeId) (pos : String) (after : Array Edge) (guard : Option (Nat × Bool)) :
    execOp r ⟨dst, .box 40 x, ty, pos, after, guard⟩ = bxT 40 (r x) := rfl
theorem boxV (w : World) (f : Nat → Int) : (bxT 40 (vcV f)).run Tryz.prog w = .ok (.value (.pointer (some ⟨w.heap.size, 0, none⟩))) (w.alloc (.cells (tab 16 (vf f)) 40)) := boxVT vtV w f
theorem exec_buildV (r : Operand → Value) (dst : Option Tmp) (parts : Array (Nat × Operand)) (ty : TypeId) (pos : String) (after : Array Edge) (guard : Option (Nat × Bool)) :
    execOp r ⟨dst, .build 40 parts, ty, pos, after, guard⟩ = bdT 40 (parts.map fun x => (x.1, r x.2)) := rfl
theorem buildV (w : World) : (bdT 40 #[]).run Tryz.prog w = .ok (.value (vcV fun _ => 0)) w := buildVT vtV (fun w => by kernel_rfl) w
theorem exec_storeV (r : Operand → Value) (dst : Option Tmp) (p v : Operand) (ty : TypeId) (pos : String) (after : Array Edge) (guard : Option (Nat × Bool)) :
    execOp r ⟨dst, .store 40 p v, ty, pos, after, guard⟩ = stT 40 (r p) (r v) := rfl
theorem storeNewV (w : World) (N : Nat) (T2 : TypeId) (g : Nat → Value) (f : Nat → Int) (hN : N = w.heap.size) : (stT 40 (.pointer (some ⟨N, 0, none⟩)) (vcV f)).run Tryz.prog (w.alloc (.cells (tab 16 g) T2)) = .ok .skip (w.alloc (.cells (tab 16 (vf f)) T2)) := by
  subst hN
  exact storeNewVT vtV w T2 g f
theorem exec_loadV (r : Operand → Value) (dst : Option Tmp) (p : Operand) (ty : TypeId) (pos : String) (after : Array Edge) (guard : Option (Nat × Bool)) :
    execOp r ⟨dst, .load 40 p, ty, pos, after, guard⟩ = ldT 40 (r p) := rfl
theorem exec_indexV (r : Operand → Value) (dst : Option Tmp) (x i : Operand) (ty : TypeId) (pos : String) (after : Array Edge) (guard : Option (Nat × Bool)) :
    execOp r ⟨dst, .index 40 x i, ty, pos, after, guard⟩ = ixT 40 (r x) (r i) := rfl
theorem indexV (w : World) (f : Nat → Int) (i : Nat) (h : i < 16) : (ixT 40 (vcV f) (.int .i64 (i : Int))).run Tryz.prog w = .ok (.value (.int .i64 (f i))) w := indexVT vtV w f i h
theorem exec_eqlV (r : Operand → Value) (dst : Option Tmp) (x y : Operand) (z : TypeId) (ty : TypeId) (pos : String) (after : Array Edge) (guard : Option (Nat × Bool)) :
    execOp r ⟨dst, .binOp .eql 40 x y z, ty, pos, after, guard⟩ = eqX .eql 40 x y (r x) (r y) := rfl
theorem exec_neqV (r : Operand → Value) (dst : Option Tmp) (x y : Operand) (z : TypeId) (ty : TypeId) (pos : String) (after : Array Edge) (guard : Option (Nat × Bool)) :
    execOp r ⟨dst, .binOp .neq 40 x y z, ty, pos, after, guard⟩ = eqX .neq 40 x y (r x) (r y) := rfl
theorem eqlV (x y : Operand) (f g : Nat → Int) (w : World) : (eqX .eql 40 x y (vcV f) (vcV g)).run Tryz.prog w = .ok (.value (.bool (veq f g))) w := by
  have hg : (eqGuard .eql 40 x y (vcV f) (vcV g)).run Tryz.prog w = .ok () w := run_eqGuard_agg (P := Tryz.prog) w .eql 40 x y _ _ (by kernel_rfl)
  simp only [eqX, Sem.run_bind, hg, eqlVT vtV, Result.andThen_ok, Sem.run_pure]
theorem neqV (x y : Operand) (f g : Nat → Int) (w : World) : (eqX .neq 40 x y (vcV f) (vcV g)).run Tryz.prog w = .ok (.value (.bool (!(veq f g)))) w := by
  have hg : (eqGuard .neq 40 x y (vcV f) (vcV g)).run Tryz.prog w = .ok () w := run_eqGuard_agg (P := Tryz.prog) w .neq 40 x y _ _ (by kernel_rfl)
  simp only [eqX, Sem.run_bind, hg, neqVT vtV, Result.andThen_ok, Sem.run_pure]
attribute [irreducible] vcV
end Go.Proofs.YtkajeepbelfpiaaGreatDoor
