/- Merged texts: Rcd10, Enc10, Dgs10, Deq10, Dga10, Rct10, Psh12, Ent12, MulA, InvOf, CdA, Pad12, Shq12, Has12. -/
import Derived.Test.YtnmopjefjpifoaaGreatDoorVec9
import Derived.Test.YtnmopjefjpifoaaGreatDoorKR3
import Derived.Test.YtnmopjefjpifoaaGreatDoorStr7
import Derived.Test.YtnmopjefjpifoaaGreatDoorSha10
import Derived.Test.YtnmopjefjpifoaaGreatDoorNextN6
import Derived.Test.YtnmopjefjpifoaaGreatDoorShEq
import Derived.Test.YtnmopjefjpifoaaGreatDoorKR2
import Derived.Test.YtnmopjefjpifoaaGreatDoorOwnK8
import Derived.Deep.RegionHeld3
import Derived.Test.YtnmopjefjpifoaaGreatDoorCuts
import Derived.StillTailTactics
import Derived.Test.YtnmopjefjpifoaaGreatDoorKR1
set_option linter.unusedSimpArgs false
set_option linter.unusedVariables false
/- Records by value: their cells, the laws of both types. -/
set_option maxRecDepth 100000
namespace Go.Proofs.YtnmopjefjpifoaaGreatDoor
open Go Go.RowKit
attribute [-go_sem] Sha.exec_store

/-- A record: its path, size, times, version, whether it is gone, the digest of all, the header of its digests. -/
structure Rc where
  path : S8
  size : Int
  time : Int
  chg : Int
  ver : Nat → Int
  dead : Bool
  whole : List (BitVec 8)
  q : Option Addr
  n : Nat
  cap : Nat
/-- Its cells. -/
def rcF (r : Rc) (i : Nat) : Value :=
  if i = 0 then .string (mkS r.path) else if i = 1 then .int .i64 r.size else if i = 2 then .int .i64 r.time else if i = 3 then .int .i64 r.chg
  else if i < 20 then .int .i64 (r.ver (i - 4)) else if i = 20 then .bool r.dead else if i < 53 then dgF r.whole (i - 21) else .slice r.q r.n r.cap
def rcV (r : Rc) : Value := .agg (tab 54 (rcF r))
theorem rc_one (r : Rc) (n : Nat) : (tab n (rcF r)).all (·.oneCell') = true := by
  rw [Array.all_eq_true']
  intro x hx
  unfold tab at hx
  simp only [List.mem_toArray, List.mem_map, List.mem_range] at hx
  obtain ⟨i, _, rfl⟩ := hx
  unfold rcF
  split
  · rfl
  · split
    · rfl
    · split
      · rfl
      · split
        · rfl
        · split
          · rfl
          · split
            · rfl
            · split
              · exact one_B _
              · rfl
/-- The zero record. -/
def rc0 : Rc := ⟨[], 0, 0, 0, fun _ => 0, false, z32, none, 0, 0⟩
structure RT (T : TypeId) : Prop where
  und : (Tryz.prog.underlying T).map (·.isRow) = some true
  info : (Tryz.prog.info? T).map (fun i => (i.zero, i.size)) = some (some (.agg (#[.string ⟨#[]⟩, .int .i64 0, .int .i64 0, .int .i64 0] ++ Array.replicate 16 (.int .i64 0) ++ #[.bool false] ++ Array.replicate 32 (.int .u8 0) ++ #[.slice none 0 0])), 54)
theorem RT.size {T : TypeId} (h : RT T) : (Tryz.prog.info? T).map (·.size) = some 54 := by
  have := h.info
  cases hq : Tryz.prog.info? T with
  | none => rw [hq] at this; cases this
  | some i => rw [hq] at this; simp at this; simp [this.2]
theorem rz : (#[.string ⟨#[]⟩, .int .i64 0, .int .i64 0, .int .i64 0] ++ Array.replicate 16 (Value.int .i64 0) ++ #[.bool false] ++ Array.replicate 32 (Value.int .u8 0) ++ #[.slice none 0 0]) = tab 54 (rcF rc0) := by kernel_rfl
section
variable {T : TypeId} (hT : RT T)
include hT
theorem allocRT (r : Operand → Value) (dst : Option Tmp) (ty : TypeId) (pos : String) (after : Array Edge) (guard : Option (Nat × Bool)) (w : World) :
    (execOp r ⟨dst, .alloc T, ty, pos, after, guard⟩).run Tryz.prog w = .ok (.value (.pointer (some ⟨w.heap.size, 0, none⟩))) (w.alloc (.cells (tab 54 (rcF rc0)) T)) := by
  have h := (zero_of_info hT.info).1 w
  rw [rz] at h
  simp [execOp, Instr.alloc, h, newVar, newRow, Value.cells]
theorem boxRT (w : World) (r : Rc) : (bxT T (rcV r)).run Tryz.prog w = .ok (.value (.pointer (some ⟨w.heap.size, 0, none⟩))) (w.alloc (.cells (tab 54 (rcF r)) T)) := by
  have hs := hT.size
  cases hq : Tryz.prog.info? T with
  | none => rw [hq] at hs; cases hs
  | some i =>
    rw [hq] at hs
    simp at hs
    unfold rcV
    simp [bxT, Instr.box, newVar, newRow, Value.cells]
theorem loadRT {T2 : TypeId} {w : World} {b : Nat} {r : Rc} (h : Row w b T2 54 (rcF r)) : (ldT T (.pointer (some ⟨b, 0, none⟩))).run Tryz.prog w = .ok (.value (rcV r)) w := by
  have hr := hT.und
  obtain ⟨d, hu, hd⟩ : ∃ d, Tryz.prog.underlying T = some d ∧ d.isRow = true := by
    cases hq : Tryz.prog.underlying T with
    | none => rw [hq] at hr; cases hr
    | some d => rw [hq] at hr; exact ⟨d, rfl, by simpa using hr⟩
  have := run_loadAt_mid (P := Tryz.prog) w b 0 T _ _ h.range hu hd (by rw [hT.size]; simp [tab])
  unfold rcV
  simp only [ldT, Sem.run_bind, this, Result.andThen, Sem.run_pure, Array.toArray_toList]
theorem storeRT {T2 : TypeId} {w : World} {b : Nat} {g : Nat → Value} (hR : Row w b T2 54 g) (r : Rc) :
    ∃ w', (stT T (.pointer (some ⟨b, 0, none⟩)) (rcV r)).run Tryz.prog w = .ok .skip w' ∧ Row w' b T2 54 (rcF r) ∧ Kp b w w' := by
  have h := run_storeVar_row (P := Tryz.prog) w b T2 T (tab 54 g) (tab 54 (rcF r)) hR (by rw [hT.size, tab_size]) (by rw [tab_size, tab_size]) (rc_one r 54)
  refine ⟨w.setRow b (tab 54 (rcF r)), ?_, setRow_heap w b _ _ T2 _ hR, ⟨rfl, rfl, rfl, by simp [World.setRow], fun k _ hk => setRow_other w b k _ hk⟩⟩
  unfold rcV
  simp only [stT, Instr.storeAt, Instr.sureAddr, Sem.run_bind, Sem.run_pure, Result.andThen, h]
theorem storeNewRT (w : World) (N : Nat) (T2 : TypeId) (g : Nat → Value) (r : Rc) (hN : N = w.heap.size) : (stT T (.pointer (some ⟨N, 0, none⟩)) (rcV r)).run Tryz.prog (w.alloc (.cells (tab 54 g) T2)) = .ok .skip (w.alloc (.cells (tab 54 (rcF r)) T2)) := by
  subst hN
  have h := run_storeAt_newV (P := Tryz.prog) w T T2 (tab 54 g) (tab 54 (rcF r)) (by rw [hT.size, tab_size]) (by rw [tab_size, tab_size]) (rc_one r 54)
  unfold rcV
  simp only [stT, Sem.run_bind, h, Result.andThen, Sem.run_pure]
end
theorem rtM : RT 49 := ⟨by kernel_rfl, by kernel_rfl⟩
theorem rtP : RT 44 := ⟨by kernel_rfl, by kernel_rfl⟩
theorem exec_allocM (r : Operand → Value) (dst : Option Tmp) (ty : TypeId) (pos : String) (after : Array Edge) (guard : Option (Nat × Bool)) (w : World) :
    (execOp r ⟨dst, .alloc 49, ty, pos, after, guard⟩).run Tryz.prog w = .ok (.value (.pointer (some ⟨w.heap.size, 0, none⟩))) (w.alloc (.cells (tab 54 (rcF rc0)) 49)) := allocRT rtM r dst ty pos after guard w
theorem exec_allocP (r : Operand → Value) (dst : Option Tmp) (ty : TypeId) (pos : String) (after : Array Edge) (guard : Option (Nat × Bool)) (w : World) :
    (execOp r ⟨dst, .alloc 44, ty, pos, after, guard⟩).run Tryz.prog w = .ok (.value (.pointer (some ⟨w.heap.size, 0, none⟩))) (w.alloc (.cells (tab 54 (rcF rc0)) 44)) := allocRT rtP r dst ty pos after guard w
theorem exec_boxM (r : Operand → Value) (dst : Option Tmp) (x : Operand) (ty : TypeId) (pos : String) (after : Array Edge) (guard : Option (Nat × Bool)) : execOp r ⟨dst, .box 49 x, ty, pos, after, guard⟩ = bxT 49 (r x) := rfl
theorem exec_boxP (r : Operand → Value) (dst : Option Tmp) (x : Operand) (ty : TypeId) (pos : String) (after : Array Edge) (guard : Option (Nat × Bool)) : execOp r ⟨dst, .box 44 x, ty, pos, after, guard⟩ = bxT 44 (r x) := rfl
theorem boxM (w : World) (r : Rc) : (bxT 49 (rcV r)).run Tryz.prog w = .ok (.value (.pointer (some ⟨w.heap.size, 0, none⟩))) (w.alloc (.cells (tab 54 (rcF r)) 49)) := boxRT rtM w r
theorem boxP (w : World) (r : Rc) : (bxT 44 (rcV r)).run Tryz.prog w = .ok (.value (.pointer (some ⟨w.heap.size, 0, none⟩))) (w.alloc (.cells (tab 54 (rcF r)) 44)) := boxRT rtP w r
section
variable {w : World} {b : Nat} {T : TypeId} {r : Rc} (h : Row w b T 54 (rcF r))
include h
theorem rc_path : w.cell? ⟨b, 0, none⟩ = some (.string (mkS r.path)) := h.cell 0 (by decide)
theorem rc_size : w.cell? ⟨b, 1, none⟩ = some (.int .i64 r.size) := h.cell 1 (by decide)
theorem rc_time : w.cell? ⟨b, 2, none⟩ = some (.int .i64 r.time) := h.cell 2 (by decide)
theorem rc_chg : w.cell? ⟨b, 3, none⟩ = some (.int .i64 r.chg) := h.cell 3 (by decide)
theorem rc_dead : w.cell? ⟨b, 20, none⟩ = some (.bool r.dead) := h.cell 20 (by decide)
theorem rc_blocks : w.cell? ⟨b, 53, none⟩ = some (.slice r.q r.n r.cap) := h.cell 53 (by decide)
theorem rc_ver : VecAt w b 4 r.ver := fun i hi => by
  rw [h.cell (4 + i) (by omega)]
  unfold rcF
  rw [if_neg (by omega), if_neg (by omega), if_neg (by omega), if_neg (by omega), if_pos (by omega), show 4 + i - 4 = i by omega]
theorem rc_whole (hw : r.whole.length = 32) : Sl w (some ⟨b, 21, none⟩) r.whole := fun j hj => by
  refine ⟨b, 21, rfl, ?_⟩
  rw [h.cell (21 + j) (by omega)]
  unfold rcF dgF
  rw [if_neg (by omega), if_neg (by omega), if_neg (by omega), if_neg (by omega), if_neg (by omega), if_neg (by omega), if_pos (by omega), show 21 + j - 21 = j by omega]
end
attribute [irreducible] rcV
end Go.Proofs.YtnmopjefjpifoaaGreatDoor
/- The encoding of a record, and what is taken of bytes as one; plain functions. -/
set_option maxRecDepth 100000
namespace Go.Proofs.YtnmopjefjpifoaaGreatDoor
open Go Go.RowKit
attribute [-go_sem] Sha.exec_store

abbrev By := List (BitVec 8)
end Go.Proofs.YtnmopjefjpifoaaGreatDoor
/- record.digests. -/
set_option maxRecDepth 100000
namespace Go.Proofs.YtnmopjefjpifoaaGreatDoor
open Go Go.RowKit Go.Shelf

attribute [-go_sem] Sha.exec_store
theorem elD : ElK 42 41 (.agg (Array.replicate 32 (Value.int .u8 0))) 32 32 := ⟨by kernel_rfl, by kernel_rfl, rfl, by decide, by decide⟩
/-- A digest's cells. -/
def digC (d : List (BitVec 8)) : List Value := d.map B
theorem digC_len (d : List (BitVec 8)) : (digC d).length = d.length := by unfold digC; rw [List.length_map]
theorem below_newD (w : World) (o : Obj) : Below w.heap.size w (w.alloc o) := (Below.refl _ _).alloc (Nat.le_refl _) _
set_option maxRecDepth 100000 in
theorem bsD1 (d : List (BitVec 8)) (w : World) : (bsT 42 1 #[(0, digV d)]).run Tryz.prog w = .ok (.value (.slice (some ⟨w.heap.size, 0, none⟩) 1 1)) (w.alloc (.cells (tab 32 (dgF d)) 41)) := by
  unfold digV
  kernel_rfl
set_option maxRecDepth 100000 in
theorem bsBlk (q : Option Addr) (n i : Nat) (w : World) : (bsT 73 1 #[(0, blkS q n i)]).run Tryz.prog w = .ok (.value (.slice (some ⟨w.heap.size, 0, none⟩) 1 1)) (w.alloc (.cells #[blkS q n i] 53)) := by
  unfold blkS
  kernel_rfl
attribute [local go_sem] Oper.semAt_some bsD1 bsBlk
attribute [local go_sem ↓] exec_bs
/-- What the walk carries. -/
def InvD (w : World) (N : Nat) (l : List (BitVec 8)) (pre : List Nat) (A : World) : Prop :=
  ∃ v, A.cell? ⟨N, 0, none⟩ = some v ∧ A.frozen? ⟨N, 0, none⟩ = false ∧ A.ownsRow (N + 4) 41 32 v pre.length (pre.flatMap fun i => digC (digL (blkL l i))) ∧ Below w.heap.size w A ∧ N + 2 ≤ A.heap.size
theorem InvD.of_below {w : World} {N : Nat} {l : List (BitVec 8)} {pre : List Nat} {A A' : World} (h : InvD w N l pre A) (hB : Below A.heap.size A A') : InvD w N l pre A' := by
  obtain ⟨v, h1, h2, h3, h4, h5⟩ := h
  have hlt := World.block_lt_of_cell? A _ h1
  exact ⟨v, by rw [hB.cell (by exact hlt)]; exact h1, by rw [hB.frozen (by exact hlt)]; exact h2, own_below h3 hB, h4.trans (hB.mono h4.size), Nat.le_trans h5 hB.size⟩
theorem InvD.bears (w : World) (N : Nat) (l : List (BitVec 8)) (hw : w.heap.size = N) : BearsP (N + 2) (InvD w N l) :=
  ⟨fun pre A o h => h.of_below (below_newD _ _),
   fun pre A o hlt h => by
    obtain ⟨v, h1, h2, h3, h4, h5⟩ := h
    have hB := below_putP (N := N + 2 + 1) o (Nat.le_refl _) hlt
    exact ⟨v, by rw [hB.cell (by show N < _; omega)]; exact h1, by rw [hB.frozen (by show N < _; omega)]; exact h2, own_keep h3 (fun g hg => World.putObj_heap_other (by have := (h3.lt g hg).1; omega)), h4.trans (hB.mono (by omega)), Nat.le_trans h5 hB.size⟩,
   fun pre A k h => h.of_below ((show Dr A (A.drewN k) from ⟨k, rfl⟩).below _)⟩
end Go.Proofs.YtnmopjefjpifoaaGreatDoor
/- Digests by value compared. -/
set_option maxRecDepth 100000
namespace Go.Proofs.YtnmopjefjpifoaaGreatDoor
open Go Go.RowKit
attribute [-go_sem] Sha.exec_store

/-- Are two digests the same? -/
def deq (a b : List (BitVec 8)) : Bool := (List.range 32).all fun i => a.getD i 0#8 == b.getD i 0#8
theorem deq_iff {a b : List (BitVec 8)} (ha : a.length = 32) (hb : b.length = 32) : deq a b = true ↔ a = b := by
  unfold deq
  simp only [List.all_eq_true, List.mem_range, beq_iff_eq]
  constructor
  · intro h
    apply List.ext_getElem (by omega)
    intro i h1 h2
    have := h i (by omega)
    rwa [List.getD_eq_getElem?_getD, List.getD_eq_getElem?_getD, List.getElem?_eq_getElem h1, List.getElem?_eq_getElem h2] at this
  · rintro rfl i _; rfl
theorem deq_self (a : List (BitVec 8)) : deq a a = true := by unfold deq; simp
theorem digV_sha (l : List (BitVec 8)) : digV l = Sha.dgV fun i => l.getD i 0#8 := by
  unfold Sha.dgV digV
  have : tab 32 (dgF l) = Sha.tab 32 (fun i => Sha.B (l.getD i 0#8)) := by
    apply Array.ext_getElem?
    intro i
    by_cases h : i < 32
    · rw [tab_get 32 _ i h, Sha.tab_get 32 _ i h]
      unfold dgF
      rw [shaB]
    · rw [Array.getElem?_eq_none (by rw [tab_size]; omega), Array.getElem?_eq_none (by rw [Sha.tab_size]; omega)]
  rw [this]
theorem digV_agg (l : List (BitVec 8)) : digV l = .agg (tab 32 (dgF l)) := by unfold digV; rfl
theorem eql_run (a b : List (BitVec 8)) (w : World) : (binOp .eql 41 (digV a) (digV b)).run Tryz.prog w = .ok (.bool (deq a b)) w := by
  have := run_eql_struct (P := Tryz.prog) w 41 (tab 32 (dgF a)) (tab 32 (dgF b))
  rw [← digV_agg, ← digV_agg] at this
  rw [digV_sha a, digV_sha b] at this ⊢
  rw [Sha.eq_digest 9998] at this
  exact this
theorem neq_run (a b : List (BitVec 8)) (w : World) : (binOp .neq 41 (digV a) (digV b)).run Tryz.prog w = .ok (.bool (!deq a b)) w := by
  have := run_neq_struct (P := Tryz.prog) w 41 (tab 32 (dgF a)) (tab 32 (dgF b))
  rw [← digV_agg, ← digV_agg] at this
  rw [digV_sha a, digV_sha b] at this ⊢
  rw [Sha.eq_digest 9998] at this
  exact this
theorem exec_eqlD (r : Operand → Value) (dst : Option Tmp) (x y : Operand) (z : TypeId) (ty : TypeId) (pos : String) (after : Array Edge) (guard : Option (Nat × Bool)) :
    execOp r ⟨dst, .binOp .eql 41 x y z, ty, pos, after, guard⟩ = eqX .eql 41 x y (r x) (r y) := rfl
theorem exec_neqD (r : Operand → Value) (dst : Option Tmp) (x y : Operand) (z : TypeId) (ty : TypeId) (pos : String) (after : Array Edge) (guard : Option (Nat × Bool)) :
    execOp r ⟨dst, .binOp .neq 41 x y z, ty, pos, after, guard⟩ = eqX .neq 41 x y (r x) (r y) := rfl
theorem eqlD (x y : Operand) (a b : List (BitVec 8)) (w : World) : (eqX .eql 41 x y (digV a) (digV b)).run Tryz.prog w = .ok (.value (.bool (deq a b))) w := by
  have hg : (eqGuard .eql 41 x y (digV a) (digV b)).run Tryz.prog w = .ok () w := by rw [digV_agg, digV_agg]; exact run_eqGuard_agg (P := Tryz.prog) w .eql 41 x y _ _ (by kernel_rfl)
  simp only [eqX, Sem.run_bind, hg, eql_run, Result.andThen_ok, Sem.run_pure]
theorem neqD (x y : Operand) (a b : List (BitVec 8)) (w : World) : (eqX .neq 41 x y (digV a) (digV b)).run Tryz.prog w = .ok (.value (.bool (!deq a b))) w := by
  have hg : (eqGuard .neq 41 x y (digV a) (digV b)).run Tryz.prog w = .ok () w := by rw [digV_agg, digV_agg]; exact run_eqGuard_agg (P := Tryz.prog) w .neq 41 x y _ _ (by kernel_rfl)
  simp only [eqX, Sem.run_bind, hg, neq_run, Result.andThen_ok, Sem.run_pure]
end Go.Proofs.YtnmopjefjpifoaaGreatDoor
/- Where a record's digests lie. -/
set_option maxRecDepth 100000
namespace Go.Proofs.YtnmopjefjpifoaaGreatDoor
open Go Go.RowKit
attribute [-go_sem] Sha.exec_store

/-- The digests ds are where the record has them. -/
structure DgAt (w : World) (r : Rc) (ds : List By) : Prop where
  n : r.n = ds.length
  lie : LsC w r.q (ds.flatMap digC)
  each : ∀ d ∈ ds, d.length = 32
  nil : r.q = none → r.cap = 0
  le : r.n ≤ r.cap
  whole : r.whole.length = 32
theorem DgAt.of_below {w u : World} {r : Rc} {ds : List By} (h : DgAt w r ds) (hB : Below w.heap.size w u) : DgAt u r ds := ⟨h.n, h.lie.of_below hB, h.each, h.nil, h.le, h.whole⟩
theorem DgAt.keep {w u : World} {r : Rc} {ds : List By} (h : DgAt w r ds) (hk : ∀ c o, r.q = some ⟨c, o, none⟩ → c < w.heap.size → u.heap[c]? = w.heap[c]?) : DgAt u r ds := ⟨h.n, h.lie.keep hk, h.each, h.nil, h.le, h.whole⟩
theorem flat_digC : ∀ ds : List By, ds.flatMap digC = (ds.flatten).map B
  | [] => rfl
  | d :: ds => by
    have ih := flat_digC ds
    unfold digC at ih ⊢
    rw [List.flatMap_cons, ih, List.flatten_cons, List.map_append]
theorem flat_len32 : ∀ {ds : List By}, (∀ d ∈ ds, d.length = 32) → ds.flatten.length = ds.length * 32
  | [], _ => rfl
  | d :: ds, h => by
    rw [List.flatten_cons, List.length_append, h d (by simp), flat_len32 (fun x hx => h x (by simp [hx])), List.length_cons]
    omega
theorem flat_get32 : ∀ {ds : List By} (h : ∀ d ∈ ds, d.length = 32) (i j : Nat), j < 32 → i < ds.length → (ds.flatten)[32 * i + j]? = (ds.getD i [])[j]?
  | [], _, i, j, _, hi => absurd hi (by simp)
  | d :: ds, h, i, j, hj, hi => by
    have hd := h d (by simp)
    cases i with
    | zero => rw [List.flatten_cons, List.getElem?_append_left (by omega)]; simp
    | succ i =>
      rw [List.flatten_cons, List.getElem?_append_right (by omega), hd, show 32 * (i + 1) + j - 32 = 32 * i + j by omega, flat_get32 (fun x hx => h x (by simp [hx])) i j hj (by simpa using hi)]
      simp
/-- One digest of a record, where it lies. -/
theorem DgAt.at {w : World} {r : Rc} {ds : List By} (h : DgAt w r ds) (i : Nat) (hi : i < ds.length) : ∃ c o, r.q = some ⟨c, o, none⟩ ∧ c < w.heap.size ∧ (∀ j, j < 32 → w.cell? ⟨c, o + 32 * i + j, none⟩ = some (B ((ds.getD i []).getD j 0#8))) ∧ (ds.getD i []).length = 32 := by
  have hm : ds.getD i [] ∈ ds := by rw [List.getD_eq_getElem?_getD, List.getElem?_eq_getElem hi]; exact List.getElem_mem hi
  have h32 := h.each _ hm
  have hl : (ds.flatMap digC).length = ds.length * 32 := by rw [flat_digC, List.length_map, flat_len32 h.each]
  have hcell : ∀ j, j < 32 → (ds.flatMap digC)[32 * i + j]? = some (B ((ds.getD i []).getD j 0#8)) := fun j hj => by
    rw [flat_digC, List.getElem?_map, flat_get32 h.each i j hj hi]
    rw [List.getElem?_eq_getElem (by omega), List.getD_eq_getElem?_getD (l := ds.getD i []), List.getElem?_eq_getElem (by omega)]
    rfl
  obtain ⟨c, o, e, hlt, hc⟩ := h.lie.cell (hcell 0 (by decide))
  refine ⟨c, o, e, hlt, fun j hj => ?_, h32⟩
  obtain ⟨c2, o2, e2, -, hc2⟩ := h.lie.cell (hcell j hj)
  rw [e] at e2
  injection e2 with e2
  injection e2 with e3 e4
  subst e3 e4
  rw [Nat.add_assoc]
  exact hc2
theorem DgAt.sl {w : World} {r : Rc} {ds : List By} (h : DgAt w r ds) : Sl w r.q ds.flatten := fun j hj => by
  have e : (ds.flatMap digC)[j]? = some (B (ds.flatten.getD j 0#8)) := by rw [flat_digC, List.getElem?_map, List.getElem?_eq_getElem hj, List.getD_eq_getElem?_getD, List.getElem?_eq_getElem hj]; rfl
  obtain ⟨c, o, e1, -, e2⟩ := h.lie.cell e
  exact ⟨c, o, e1, e2⟩
/-- Digests of the call's own, as a record has them. -/
theorem dg_own {w : World} {base : Nat} {v : Value} {ds : List By} {n : Nat} (h : w.ownsRow base 41 32 v n (ds.flatMap digC)) (hn : n = ds.length) (he : ∀ d ∈ ds, d.length = 32) : ∃ q cap, v = .slice q ds.length cap ∧ (∀ c o, q = some ⟨c, o, none⟩ → base ≤ c ∧ c < w.heap.size) ∧ ∀ (r : Rc), r.q = q → r.n = ds.length → r.cap = cap → r.whole.length = 32 → DgAt w r ds := by
  subst hn
  obtain ⟨p, cap, e, h1, h2, h3, h4⟩ := own_shape h
  exact ⟨p, cap, e, h4, fun r e1 e2 e3 e4 => ⟨e2, by rw [e1]; exact h1, he, by rw [e1, e3]; exact h2, by rw [e2, e3]; exact h3, e4⟩⟩
end Go.Proofs.YtnmopjefjpifoaaGreatDoor
/- The reference's blocks and their digests. -/
set_option maxRecDepth 100000
namespace Go.Proofs.YtnmopjefjpifoaaGreatDoor
open Go Go.RowKit Go.Shelf

attribute [-go_sem] Sha.exec_store
theorem blk_cut2 (q : Option Addr) (n cap i A : Nat) (w : World) (hA : A = 256 * i) (hi : 256 * i < n) (hc : n ≤ cap) : (Instr.slice 53 (.slice q n cap) (some (.int .i64 (A : Int))) (some (.int .i64 (min ((A : Int) + 256) (n : Int)))) none).run Tryz.prog w = .ok (.slice (q.map (·.add (256 * i))) (blen n i) (cap - 256 * i)) w := by
  have hm : min ((A : Int) + 256) (n : Int) = ((min (256 * i + 256) n : Nat) : Int) := by omega
  rw [hm, run_slice_lh (P := Tryz.prog) w 53 q n cap und35 .i64 .i64 _ _ (by omega) (by omega) (by omega), sizeB]
  have h1 : (A : Int).toNat = 256 * i := by omega
  have h2 : (((min (256 * i + 256) n : Nat) : Int)).toNat = min (256 * i + 256) n := by omega
  simp only [Sem.run_bind, Result.andThen_ok, Sem.run_pure, sliced, h1, h2]
  unfold blen
  rw [if_neg (by omega), Nat.mul_one]
theorem below_newR (w : World) (o : Obj) : Below w.heap.size w (w.alloc o) := (Below.refl _ _).alloc (Nat.le_refl _) _
theorem own_sliceR {w : World} {base : Nat} {E : TypeId} {k n : Nat} {v : Value} {cs : List Value} (h : w.ownsRow base E k v n cs) : ∃ q c, v = .slice q n c := by
  obtain ⟨p, cap, e, _⟩ := own_shape h
  exact ⟨p, cap, e⟩
theorem own_emptyB (w : World) : OwnB (w.alloc (.cells #[] 5)) w.heap.size (.slice (some ⟨w.heap.size, 0, none⟩) 0 0) [] := own_empty (E := 5) (k := 1) w w.heap.size (Nat.le_refl _)
set_option maxRecDepth 100000 in
set_option maxHeartbeats 4000000 in
theorem refCut10_any (l : By) (q : Option Addr) (n cap : Nat) (w : World) (hl : l.length = n) (hs : Sl w q l) (hq : q = none → cap = 0) (hc : n ≤ cap) (hn : n < 1000000) :
    Calls Tryz.prog 33 #[.slice q n cap] w fun e w' => ∃ v, e = .returned v ∧ Hds w' w.heap.size v ((List.range (nblk n)).map (blkL l)) ∧ Below w.heap.size w w' := by
  have HSL := Lib.hid hs
  have HLN := Lib.hid hl
  have HQ := Lib.hid hq
  clear hs hl hq
  go_enter Tryz.func33, Tryz.ntmps33
  go_wp2
  go_loopw [3, 4] (fun sv sa wr => ∃ i A : Nat, i ≤ nblk n ∧ A = 256 * i ∧ sa = .int .i64 (A : Int) ∧ Hds wr w.heap.size sv ((List.range i).map (blkL l)) ∧ Below w.heap.size w wr) (fun _ sa _ => nblk n + 1 - ((intOf sa).toNat + 255) / 256)
  case atStart => exact ⟨0, 0, Nat.zero_le _, rfl, rfl, Hds.nil _ _, Below.refl _ _⟩
  case round =>
    obtain ⟨i, A, hi, hA, rfl, hH, hB⟩ := hrel
    have HA := Lib.hid hA
    by_cases hlt : A < n
    · have z1 : (A : Int) < (n : Int) := by omega
      have z2 : decide ((A : Int) < (n : Int)) = true := decide_eq_true z1
      have hi256 : 256 * i < n := by omega
      have hik : i < nblk n := by unfold nblk; omega
      have hil : ((List.range i).map (blkL l)).length + 1 < 100000000 := by rw [List.length_map, List.length_range]; unfold nblk at hik; omega
      have hcut := fun u => blk_cut2 q n cap i A u hA hi256 hc
      have w2 : IntKind.i64.wrap ((A : Int) + 256) = (A : Int) + 256 := by rw [IntKind.wrap_i64]; omega
      have HB := Lib.hid hB
      obtain ⟨hds, hOW, hrows⟩ := hH
      obtain ⟨pv, cv, hve⟩ := own_sliceR hOW
      subst hve
      have hvlt : ∀ g, (Value.slice pv ((List.range i).map (blkL l)).length cv).ownBlock = some g → w.heap.size ≤ g ∧ g < wr.heap.size := fun g hg => hOW.lt g hg
      have HOW := Lib.hid hOW
      have hB1 := below_newR wr (.cells #[] 5)
      have HB1 := Lib.hid hB1
      have HSR := Lib.hid (show Sl (wr.alloc (.cells #[] 5)) (q.map (·.add (256 * i))) (blkL l i) from blkL_sl (HSL.out.of_below (hB.trans (hB1.mono hB.size))) i)
      have hbl : (blkL l i).length = blen n i := by rw [blkL_len, HLN.out]
      have hb256 := blen_le n i
      have hqn : q.map (·.add (256 * i)) = none → cap - 256 * i = 0 := fun e => by
        cases q with
        | none => have := HQ.out rfl; omega
        | some a => cases e
      have HBL := Lib.hid hbl
      have HQN := Lib.hid hqn
      have HHD := Lib.hid (fun (x y : World) (v' : Value) (p : Option Addr) (c : Nat) (hX : Below wr.heap.size wr x) (h1 : Sl x p (blkL l i)) (h2 : p = none → c = 0) (h3 : ∀ c o, p = some ⟨c, o, none⟩ → wr.heap.size ≤ c ∧ c < x.heap.size)
        (h4 : y.ownsRow w.heap.size 53 1 v' (((List.range i).map (blkL l)).length + 1) (hds ++ [.slice p (blkL l i).length c])) (h5 : x.grownBy y (Value.slice pv ((List.range i).map (blkL l)).length cv).ownBlock) (h6 : v'.ownBlock = (Value.slice pv ((List.range i).map (blkL l)).length cv).ownBlock ∨ v'.ownBlock = some x.heap.size) => (Hds.push (own_below hOW hX) (fun j hj => by
          obtain ⟨p', cap', e1, e2, e3, e4⟩ := hrows j hj
          exact ⟨p', cap', e1, e2.of_below hX, e3, fun c o e => ⟨(e4 c o e).1, Nat.lt_of_lt_of_le (e4 c o e).2.1 hX.size, (e4 c o e).2.2⟩⟩) h1 h2 (fun c o e => ⟨Nat.le_trans hB.size (h3 c o e).1, (h3 c o e).2, fun e2 => by have := (hvlt c e2).2; have := (h3 c o e).1; omega⟩) h4 h5 h6 : Hds y w.heap.size v' ((List.range i).map (blkL l) ++ [blkL l i])))
      have hsz1 : wr.heap.size ≤ (wr.alloc (.cells #[] 5)).heap.size := by rw [World.size_alloc]; omega
      obtain ⟨kk, hkk⟩ : ∃ kk, ((List.range i).map (blkL l)).length = kk := ⟨_, rfl⟩
      have HKK := Lib.hid hkk
      obtain ⟨mb, hmb⟩ : ∃ mb, blen n i = mb := ⟨_, rfl⟩
      rw [hmb] at hbl hb256 HBL hcut
      rw [hkk] at hil HOW ⊢
      rw [hkk] at HHD
      rw [hbl] at HHD
      clear hOW hrows hB hB1 hbl hvlt hqn hmb hkk hA
      go_wp2_with (first
        | (refine wpl_appendL (wr.alloc (.cells #[] 5)) rfl (.tmp 12) (.tmp 20) rfl wr.heap.size (.slice (some ⟨wr.heap.size, 0, none⟩) 0 0) [] rfl (own_emptyB wr) _ mb _ (blkL l i) HBL.out rfl HSR.out HQN.out (by simp; omega) hsz1 ?_
           rintro v3 w3 hO3 hg3 ho3
           rw [List.nil_append] at hO3
           obtain ⟨p3, c3, rfl, hs3, hp3, hc3⟩ := hO3.shape
           have hlt3 : ∀ c o, p3 = some ⟨c, o, none⟩ → wr.heap.size ≤ c ∧ c < w3.heap.size := fun c o e => hO3.lt c (by rw [e]; rfl)
           have hB3 : Below wr.heap.size wr w3 := HB1.out.grown hg3 hsz1 (fun k hk => by have : wr.heap.size = k := (by simpa [Value.ownBlock] using hk); omega)
           rw [HBL.out]
           have hB4 := below_newR w3 (.cells #[.slice p3 mb c3] 53)
           have HX := Lib.hid (hB3.trans (hB4.mono hB3.size))
           have HS3 := Lib.hid (And.intro (hs3.of_below hB4) (And.intro hp3 (fun c o e => (⟨(hlt3 c o e).1, Nat.lt_of_lt_of_le (hlt3 c o e).2 hB4.size⟩ : _ ∧ _))))
           have HLS := Lib.hid (show LsC (w3.alloc (.cells #[.slice p3 mb c3] 53)) (some ⟨w3.heap.size, 0, none⟩) [.slice p3 mb c3] from LsC.made _ [Value.slice p3 mb c3] _)
           have hsz4 : w.heap.size ≤ (w3.alloc (.cells #[.slice p3 mb c3] 53)).heap.size := Nat.le_trans HB.out.size HX.out.size
           clear hO3 hg3 ho3 hs3 hp3 hc3 hlt3 hB3 hB4)
        | (refine wpl_appendK elR _ rfl (.tmp 11) (.tmp 22) rfl w.heap.size rfl (own_below HOW.out HX.out) _ 1 1 [.slice p3 mb c3] rfl rfl HLS.out (fun h => by cases h) (fun u hu => by rw [List.mem_singleton] at hu; subst hu; rfl) hil hsz4 ?_
           rintro v5 w5 hO5 hg5 ho5
           have hBB := HB.out.trans ((HX.out.mono HB.out.size).grown hg5 hsz4 (fun k hk => ((own_below HOW.out HX.out).lt k hk).1))
           have HD5 := Lib.hid (And.intro (HHD.out _ _ _ _ _ HX.out HS3.out.1 HS3.out.2.1 HS3.out.2.2 hO5 hg5 ho5) hBB)
           clear hO5 hg5 ho5 hBB))
      go_roundw
      case rel => exact ⟨i + 1, A + 256, by omega, by have := HA.out; omega, by go_num, by rw [List.range_succ, List.map_append]; exact HD5.out.1, HD5.out.2⟩
      case measure => have := HA.out; simp [intOf]; omega
    · have z1 : ¬ (A : Int) < (n : Int) := by omega
      have z2 : decide ((A : Int) < (n : Int)) = false := decide_eq_false z1
      obtain rfl : i = nblk n := by unfold nblk at hi ⊢; omega
      have HB := Lib.hid hB
      have HH := Lib.hid hH
      obtain ⟨hds, hOW, -⟩ := hH
      obtain ⟨pv, cv, hve⟩ := own_sliceR hOW
      rw [show ((List.range (nblk n)).map (blkL l)).length = nblk n from by simp] at hve
      subst hve
      clear hB hOW
      go_wp2
      go_ret
      exact ⟨_, rfl, HH.out, HB.out⟩
end Go.Proofs.YtnmopjefjpifoaaGreatDoor
/- A row appended to rows of the call's own inside a region that draws; headers that lie. -/
set_option maxRecDepth 100000
namespace Go.Proofs.YtnmopjefjpifoaaGreatDoor
open Go Go.RowKit
attribute [-go_sem] Sha.exec_store

/-- Headers of the bytes bs lie where p says. -/
def Lay (w : World) (p : Option Addr) (bs : List (List (BitVec 8))) : Prop :=
  ∀ i, i < bs.length → ∃ c o q d, p = some ⟨c, o, none⟩ ∧ w.cell? ⟨c, o + i, none⟩ = some (.slice q (bs.getD i []).length d) ∧ Sl w q (bs.getD i []) ∧ (q = none → d = 0)
theorem Lay.of_below {w w' : World} {p : Option Addr} {bs : List (List (BitVec 8))} (h : Lay w p bs) (k : Below w.heap.size w w') : Lay w' p bs := fun i hi => by
  obtain ⟨c, o, q, d, e, hc, hs, hq⟩ := h i hi
  exact ⟨c, o, q, d, e, by rw [k.cell (by exact World.block_lt_of_cell? w _ hc)]; exact hc, hs.of_below k, hq⟩
theorem Hds.lay {w : World} {N : Nat} {v : Value} {bs : List (List (BitVec 8))} (h : Hds w N v bs) : ∃ p cap, v = .slice p bs.length cap ∧ (p = none → cap = 0) ∧ bs.length ≤ cap ∧ Lay w p bs := by
  obtain ⟨p, cap, e, h1, h2, -, h3⟩ := h.shape
  exact ⟨p, cap, e, h1, h2, h3⟩
theorem Prt.lay {w : World} {p : Option Addr} {bs : List (List (BitVec 8))} (h : Prt w p bs) : Lay w p bs := fun i hi => by
  obtain ⟨c, o, q, d, e, hc, hs, hq, -⟩ := h i hi
  exact ⟨c, o, q, d, e, hc, hs, hq⟩
theorem pad_rows (bs : List (List (BitVec 8))) (hb : ∀ i, i < bs.length → (bs.getD i []).length ≤ 256) (i : Nat) (h : i < bs.length) : ((bs.map padL).getD i []).length = 256 := by
  rw [List.getD_eq_getElem?_getD, List.getElem?_map, List.getElem?_eq_getElem h]
  have := hb i h
  rw [List.getD_eq_getElem?_getD, List.getElem?_eq_getElem h] at this
  exact padL_len this
/-- What lies from lo to hi is as it was. -/
def Fr12 (W u : World) (lo hi : Nat) : Prop := hi ≤ u.heap.size ∧ ∀ g, lo ≤ g → g < hi → u.heap[g]? = W.heap[g]?
theorem Fr12.of_below {W u u' : World} {lo hi : Nat} (h : Fr12 W u lo hi) (k : Below u.heap.size u u') : Fr12 W u' lo hi :=
  ⟨Nat.le_trans h.1 k.size, fun g h1 h2 => by rw [k.block g (Nat.lt_of_lt_of_le h2 h.1)]; exact h.2 g h1 h2⟩
theorem Fr12.grown {W u u' : World} {lo hi : Nat} {own : Option Nat} (h : Fr12 W u lo hi) (k : u.grownBy u' own) (ho : ∀ g, own = some g → g < lo ∨ hi ≤ g) : Fr12 W u' lo hi :=
  ⟨Nat.le_trans h.1 k.size, fun g h1 h2 => by rw [k.block g (Nat.lt_of_lt_of_le h2 h.1) (fun e => by have := ho g e.symm; omega)]; exact h.2 g h1 h2⟩
theorem Fr12.rows {W u : World} {lo : Nat} {v : Value} {ls : List (List (BitVec 8))} (h : Fr12 W u lo W.heap.size) (hO : OwnM W lo v ls) : OwnM u lo v ls := hO.keep h.1 fun g h1 h2 => h.2 g h1 h2
theorem ent_take (ls : List (List (BitVec 8))) (i : Nat) (h : i < ls.length) : ((ls.take (i + 1)).map entL).flatten = ((ls.take i).map entL).flatten ++ entL (ls.getD i []) := by
  rw [List.take_add_one, List.map_append, List.flatten_append, List.getElem?_eq_getElem h, List.getD_eq_getElem?_getD, List.getElem?_eq_getElem h]
  simp
theorem flat_le {ls : List (List (BitVec 8))} {k : Nat} (h : ∀ r ∈ ls, r.length ≤ k) : ls.flatten.length ≤ k * ls.length := by
  induction ls with
  | nil => simp
  | cons a t ih =>
    have h1 := h a (by simp)
    have h2 := ih fun r hr => h r (by simp [hr])
    rw [List.flatten_cons, List.length_append, List.length_cons, Nat.mul_succ]
    omega
theorem ent_len {bs : List (List (BitVec 8))} (j : Nat) : (((parB bs).take j).map entL).flatten.length ≤ 576 := by
  have h : ∀ r ∈ ((parB bs).take j).map entL, r.length ≤ 288 := fun r hr => by
    obtain ⟨x, hx, rfl⟩ := List.mem_map.1 hr
    have hx := List.mem_of_mem_take hx
    obtain ⟨i, hi, e⟩ := List.getElem_of_mem hx
    have h2 := parB_row bs i (by rw [parB_len] at hi; exact hi)
    rw [List.getD_eq_getElem?_getD, List.getElem?_eq_getElem hi] at h2
    have h3 : ((parB bs)[i]).length = 256 := h2
    rw [e] at h3
    rw [entL_len h3]
    exact Nat.le_refl _
  have h2 := flat_le h
  have h3 : (((parB bs).take j).map entL).length ≤ 2 := by rw [List.length_map, List.length_take, parB_len]; omega
  have h4 : 288 * (((parB bs).take j).map entL).length ≤ 288 * 2 := Nat.mul_le_mul_left _ h3
  omega
end Go.Proofs.YtnmopjefjpifoaaGreatDoor
/- sidecar: the number of stripes, the length of a sidecar, one of its entries. -/
set_option maxRecDepth 100000
namespace Go.Proofs.YtnmopjefjpifoaaGreatDoor
open Go Go.RowKit

attribute [-go_sem] Sha.exec_store
/-- Some of the bytes. -/
def seg12 (l : List (BitVec 8)) (a n : Nat) : List (BitVec 8) := (l.drop a).take n
theorem seg12_len {l : List (BitVec 8)} {a n : Nat} (h : a + n ≤ l.length) : (seg12 l a n).length = n := by unfold seg12; rw [List.length_take, List.length_drop]; omega
theorem seg12_sl {w : World} {c o : Nat} {l : List (BitVec 8)} (h : Sl w (some ⟨c, o, none⟩) l) (a n : Nat) : Sl w (some ⟨c, o + a, none⟩) (seg12 l a n) := fun j hj => by
  have hj' : j < n ∧ a + j < l.length := by unfold seg12 at hj; rw [List.length_take, List.length_drop] at hj; omega
  obtain ⟨c', o', e, hx⟩ := h (a + j) hj'.2
  injection e with e
  injection e with e1 e2
  subst e1 e2
  refine ⟨c, o + a, rfl, ?_⟩
  rw [Nat.add_assoc, hx]
  unfold seg12
  simp [List.getD_eq_getElem?_getD, List.getElem?_drop, hj'.1]
theorem sl_lh12 (c o n cap a b : Nat) (w : World) (h1 : a ≤ b) (h2 : b ≤ cap) (h3 : a < cap) :
    (slT 53 (.slice (some ⟨c, o, none⟩) n cap) (some (.int .i64 (a : Int))) (some (.int .i64 (b : Int))) none).run Tryz.prog w = .ok (.value (.slice (some ⟨c, o + a, none⟩) (b - a) (cap - a))) w := by
  have h := run_sliceAt_slice (P := Tryz.prog) w 53 (.slice (some ⟨c, o, none⟩) n cap) (some (.int .i64 (a : Int))) (some (.int .i64 (b : Int))) none und35
  rw [run_slice_lh (P := Tryz.prog) w 53 (some ⟨c, o, none⟩) n cap und35 .i64 .i64 (a : Int) (b : Int) (by omega) (by omega) (by omega), sizeB] at h
  simp only [slT, Sem.run_bind, h, Result.andThen_ok, Sem.run_pure]
  simp only [sliced, Int.toNat_natCast, Nat.mul_one]
  rw [if_neg (by omega)]
  show Result.ok (Next.value (.slice (some (Addr.add _ a)) _ _)) w = _
  rw [Addr.add_mid]
theorem sl_lhm12 (c o n cap a b : Nat) (w : World) (h1 : a < b) (h2 : b ≤ cap) :
    (slT 53 (.slice (some ⟨c, o, none⟩) n cap) (some (.int .i64 (a : Int))) (some (.int .i64 (b : Int))) (some (.int .i64 (b : Int)))).run Tryz.prog w = .ok (.value (.slice (some ⟨c, o + a, none⟩) (b - a) (b - a))) w := by
  have h := run_sliceAt_slice (P := Tryz.prog) w 53 (.slice (some ⟨c, o, none⟩) n cap) (some (.int .i64 (a : Int))) (some (.int .i64 (b : Int))) (some (.int .i64 (b : Int))) und35
  rw [run_slice_lhm (P := Tryz.prog) w 53 (some ⟨c, o, none⟩) n cap und35 .i64 .i64 .i64 (a : Int) (b : Int) (b : Int) (by omega) (by omega) (by omega) (by omega), sizeB] at h
  simp only [slT, Sem.run_bind, h, Result.andThen_ok, Sem.run_pure]
  simp only [sliced, Int.toNat_natCast, Nat.mul_one]
  rw [if_neg (by omega)]
  show Result.ok (Next.value (.slice (some (Addr.add _ a)) _ _)) w = _
  rw [Addr.add_mid]
/-- A slice seen as an array of 32 bytes. -/
def apT (t : TypeId) (x : Value) : Sem Next := do pure (.value (← Instr.arrayAt t x))
theorem exec_apT (r : Operand → Value) (dst : Option Tmp) (t : TypeId) (x : Operand) (ty : TypeId) (pos : String) (after : Array Edge) (guard : Option (Nat × Bool)) :
    execOp r ⟨dst, .sliceToArrayPointer t x, ty, pos, after, guard⟩ = apT t (r x) := rfl
theorem ap32 (a : Option Addr) (n cap : Nat) (w : World) (h : 32 ≤ n) : (apT 41 (.slice a n cap)).run Tryz.prog w = .ok (.value (.pointer a)) w := by
  unfold apT Instr.arrayAt
  simp [run_underlying und32, show ¬ n < 32 by omega]
theorem resT32 {fn : Func} {p q : Tmp} (h : fn.results = #[.tmp q, .cell p 41]) (tmps : Array Value) (w : World) (b : Nat) (d : List (BitVec 8)) (v : Value) (hp : tmps.getD p undef = .pointer (some ⟨b, 0, none⟩)) (hq : tmps.getD q undef = v)
    (hR : Row w b 41 32 (dgF d)) : (results fn tmps).run Tryz.prog w = .ok (.tuple #[v, digV d]) w := by
  have hl : (loadVar 41 ⟨b, 0, none⟩).run Tryz.prog w = .ok (.agg (tab 32 (dgF d))) w := run_loadVar_row (P := Tryz.prog) w b 41 41 (tab 32 (dgF d)) (0, 0) _ hR und32 rfl (by rw [size32, tab_size])
  have hp' : tmps[p]?.getD undef = .pointer (some ⟨b, 0, none⟩) := by simpa using hp
  have hq' : tmps[q]?.getD undef = v := by simpa using hq
  rw [digV_agg]
  simp [results, h, hp', hq', asAddr, hl]
theorem exec_store12 (r : Operand → Value) (dst : Option Tmp) (p v : Operand) (ty : TypeId) (pos : String) (after : Array Edge) (guard : Option (Nat × Bool)) :
    execOp r ⟨dst, .store 41 p v, ty, pos, after, guard⟩ = stT 41 (r p) (r v) := rfl
set_option maxHeartbeats 1000000 in
theorem stripeCount_any (z : Int) (w : World) (h1 : -9223372036854775808 ≤ z) (h2 : z ≤ 9223372036854775807) : Calls Tryz.prog 148 #[.int .i64 z] w fun e w' => e = .returned (.int .i64 ((nstr z.toNat : Nat) : Int)) ∧ w = w' := by
  go_enter Tryz.func148, Tryz.ntmps148
  by_cases h : z ≤ 0
  · have d : decide (z ≤ 0) = true := decide_eq_true h
    have e0 : z.toNat = 0 := by omega
    go_wp2
    go_ret
    exact ⟨by rw [e0]; rfl, rfl⟩
  · have d : decide (z ≤ 0) = false := decide_eq_false h
    have w1 : IntKind.i64.wrap (z - 1) = z - 1 := by rw [IntKind.wrap_i64]; omega
    obtain ⟨m, hm⟩ : ∃ m : Nat, z - 1 = (m : Int) := Int.eq_ofNat_of_zero_le (by omega)
    have hm2 : (m : Int) < 9223372036854775807 := by omega
    have q1 : (m : Int).tdiv 1024 = ((m / 1024 : Nat) : Int) := by rw [Int.tdiv_eq_ediv_of_nonneg (by omega)]; omega
    have w2 : IntKind.i64.wrap (((m / 1024 : Nat) : Int)) = ((m / 1024 : Nat) : Int) := by rw [IntKind.wrap_i64]; omega
    have w3 : IntKind.i64.wrap (((m / 1024 : Nat) : Int) + 1) = ((m / 1024 : Nat) : Int) + 1 := by rw [IntKind.wrap_i64]; omega
    have hr : ((nstr z.toNat : Nat) : Int) = ((m / 1024 : Nat) : Int) + 1 := by unfold nstr; omega
    rw [hr]
    rw [hm] at w1
    clear hr
    go_wp2
    go_ret
    exact ⟨rfl, rfl⟩
set_option maxHeartbeats 1000000 in
theorem Len_any (z : Int) (w : World) (h1 : -9223372036854775808 ≤ z) (h2 : z ≤ 4294967296) : Calls Tryz.prog 83 #[.int .i64 z] w fun e w' => e = .returned (.int .i64 ((32 + 576 * nstr z.toNat : Nat) : Int)) ∧ w = w' := by
  have HC := Lib.hid (stripeCount_any z w h1 (by omega))
  obtain ⟨k, hk⟩ : ∃ k, nstr z.toNat = k := ⟨_, rfl⟩
  have hk2 : k ≤ 4194305 := by rw [← hk]; unfold nstr; omega
  rw [hk] at HC ⊢
  have w1 : IntKind.i64.wrap ((k : Int) * 2) = (k : Int) * 2 := by rw [IntKind.wrap_i64]; omega
  have w2 : IntKind.i64.wrap ((k : Int) * 2 * 288) = (k : Int) * 2 * 288 := by rw [IntKind.wrap_i64]; omega
  have w3 : IntKind.i64.wrap (32 + (k : Int) * 2 * 288) = 32 + (k : Int) * 2 * 288 := by rw [IntKind.wrap_i64]; omega
  have HR := Lib.hid (show ((32 + 576 * k : Nat) : Int) = 32 + (k : Int) * 2 * 288 by omega)
  clear hk
  go_enter Tryz.func83, Tryz.ntmps83
  go_wp2_with fail
  refine HC.out.mono ?_
  rintro e w' ⟨rfl, rfl⟩
  go_wp2
  go_ret
  exact ⟨by rw [HR.out]; rfl, rfl⟩
attribute [local go_sem ↓] exec_alloc32 exec_store12 exec_slice exec_apT exec_load32
attribute [local go_sem] ap32
set_option maxRecDepth 100000 in
set_option maxHeartbeats 4000000 in
theorem entry_any (l : List (BitVec 8)) (c o n cap i : Nat) (w : World) (hl : l.length = n) (hs : Sl w (some ⟨c, o, none⟩) l) (hc : n ≤ cap) (hi : 288 * i + 320 ≤ n) (hn : n < 1000000) :
    Calls Tryz.prog 200 #[.slice (some ⟨c, o, none⟩) n cap, .int .i64 (i : Int)] w fun e w' => e = .returned (.tuple #[.slice (some ⟨c, o + (288 * i + 32), none⟩) 256 256, digV (seg12 l (288 * i + 288) 32)]) ∧ Below w.heap.size w w' := by
  obtain ⟨F, hF⟩ : ∃ F, 288 * i + 32 = F := ⟨_, rfl⟩
  obtain ⟨T, hT⟩ : ∃ T, 288 * i + 288 = T := ⟨_, rfl⟩
  obtain ⟨A, hA⟩ : ∃ A, 288 * i = A := ⟨_, rfl⟩
  obtain ⟨E, hE⟩ : ∃ E, T + 32 = E := ⟨_, rfl⟩
  rw [hF, hT]
  have w1 : IntKind.i64.wrap ((i : Int) * 288) = (A : Int) := by rw [IntKind.wrap_i64]; omega
  have w2 : IntKind.i64.wrap (32 + (A : Int)) = (F : Int) := by rw [IntKind.wrap_i64]; omega
  have w3 : IntKind.i64.wrap ((F : Int) + 256) = (T : Int) := by rw [IntKind.wrap_i64]; omega
  have w4 : IntKind.i64.wrap ((T : Int) + 32) = (E : Int) := by rw [IntKind.wrap_i64]; omega
  have s1 := fun u => sl_lhm12 c o n cap F T u (by omega) (by omega)
  have s2 := fun u => sl_lh12 c o n cap T E u (by omega) (by omega) (by omega)
  rw [show T - F = 256 by omega] at s1
  rw [show E - T = 32 by omega] at s2
  obtain ⟨d, hd⟩ : ∃ d, seg12 l T 32 = d := ⟨_, rfl⟩
  have hdl : d.length = 32 := by rw [← hd]; exact seg12_len (by omega)
  have hsd : Sl w (some ⟨c, o + T, none⟩) d := by rw [← hd]; exact seg12_sl hs T 32
  have hb := below_newR w (.cells (zb 32) 41)
  have hld := ld_dig (w := (w.alloc (.cells (zb 32) 41)).drew) (hsd.of_below hb.drew) hdl
  have st : (stT 41 (.pointer (some ⟨w.heap.size, 0, none⟩)) (digV d)).run Tryz.prog (w.alloc (.cells (zb 32) 41)).drew = .ok .skip (w.drew.alloc (.cells (tab 32 (dgF d)) 41)) := st_dig w.drew w.heap.size d rfl
  obtain ⟨y, hy⟩ : ∃ y, w.drew.alloc (.cells (tab 32 (dgF d)) 41) = y := ⟨_, rfl⟩
  have HR := Lib.hid (show Row (w.drew.alloc (.cells (tab 32 (dgF d)) 41)) w.heap.size 41 32 (dgF d) from Row.new w.drew _ 32 _)
  have HB := Lib.hid (show Below w.heap.size w (w.drew.alloc (.cells (tab 32 (dgF d)) 41)) from (Below.refl _ _).drew.alloc (Nat.le_refl _) _)
  rw [hd]
  rw [hy] at st HR HB
  clear hd hsd hb hdl hs hF hT hA hE hl hi hc hy
  go_enter Tryz.func200, Tryz.ntmps200
  go_wp2
  refine wp_region_still_tail 13 (by kernel_rfl) (by kernel_rfl) ?_
  simp only [List.take_succ_cons, List.take_zero, List.drop_succ_cons, List.drop_zero, World.drew_eq]
  repeat (refine wpStill_step (fun K hK => ?_); go_simp; (try go_bits); refine hK _ ?_; clear hK K)
  refine wpStill_nil ?_
  go_wp2
  refine bodyPost_ret (resT32 rfl _ y w.heap.size d _ rfl rfl HR.out) rfl ?_
  exact ⟨rfl, HB.out⟩
theorem st_T12 (a : Addr) (x : Bool) (w : World) (hcell : (w.cell? a).isSome = true) (hf : w.frozen? a = false) : (stT 4 (.pointer (some a)) (.bool x)).run Tryz.prog w = .ok .skip (w.setCell a (.bool x)) :=
  stT_one 4 a _ w rfl rfl (by kernel_rfl) hcell hf
theorem mkT12 (n : Nat) (w : World) (hn : n < 100000000) : (mkT 85 (.int .i64 (n : Int)) (.int .i64 (n : Int))).run Tryz.prog w = .ok (.value (.slice (some ⟨w.heap.size, 0, none⟩) n n)) (w.alloc (.cells (tab n (fun _ => .bool false)) 4)) := by
  have hi : (Tryz.prog.info? 4).map (fun i => (i.zero, i.size, i.bytes)) = some (some (.bool false), 1, 1) := by kernel_rfl
  cases hq : Tryz.prog.info? 4 with
  | none => simp [hq] at hi
  | some i =>
    rw [hq] at hi
    simp only [Option.map_some, Option.some.injEq, Prod.mk.injEq] at hi
    obtain ⟨h1, h2, h3⟩ := hi
    have := run_make (P := Tryz.prog) w 85 4 i (.bool false) (by kernel_rfl) hq h1 .i64 .i64 n n (by omega) (Int.le_refl _) (by rw [h3]; omega) (by omega)
    rw [h2] at this
    simp only [Int.toNat_natCast, Nat.mul_one] at this
    simp only [mkT, Sem.run_bind, this, Result.andThen_ok, Sem.run_pure]
    congr 2
    rw [tab_const]
    congr 1
    apply Array.ext_getElem?
    intro j
    by_cases hj : j < n <;> simp [madeCells, Value.cells, hj, Nat.mod_one]
theorem exec_box12 (r : Operand → Value) (dst : Option Tmp) (x : Operand) (ty : TypeId) (pos : String) (after : Array Edge) (guard : Option (Nat × Bool)) :
    execOp r ⟨dst, .box 41 x, ty, pos, after, guard⟩ = bxT 41 (r x) := rfl
theorem bx_dig12 (w : World) (l : List (BitVec 8)) : (bxT 41 (digV l)).run Tryz.prog w = .ok (.value (.pointer (some ⟨w.heap.size, 0, none⟩))) (w.alloc (.cells (tab 32 (dgF l)) 41)) := by
  have hs := size32
  cases hq : Tryz.prog.info? 41 with
  | none => rw [hq] at hs; cases hs
  | some i =>
    rw [hq] at hs
    simp at hs
    unfold digV
    simp [bxT, Instr.box, newVar, newRow, Value.cells]
theorem dgF_sl12 {w : World} {E : Nat} {T : TypeId} {l : List (BitVec 8)} (h : Row w E T 32 (dgF l)) (hl : l.length = 32) : Sl w (some ⟨E, 0, none⟩) l :=
  Sl.row h (by omega) fun j hj => rfl
theorem deq_dec {a b : List (BitVec 8)} (ha : a.length = 32) (hb : b.length = 32) : deq a b = decide (a = b) := by
  rw [Bool.eq_iff_iff, deq_iff ha hb, decide_eq_true_iff]
/-- Does a sidecar have the right length, and the digest of all at its head? -/
def okSd (l : List (BitVec 8)) (k : Nat) (wh : List (BitVec 8)) : Bool := decide (l.length = 32 + 576 * k ∧ l.take 32 = wh)
/-- Is an entry's digest that of its block? -/
def entB (l : List (BitVec 8)) (i : Nat) : Bool := decide (digL (seg12 l (288 * i + 32) 256) = seg12 l (288 * i + 288) 32)
def stB (l : List (BitVec 8)) (k : Nat) (wh : List (BitVec 8)) (i : Nat) : Bool := okSd l k wh && entB l i
end Go.Proofs.YtnmopjefjpifoaaGreatDoor
/- The program's Apply. -/
set_option maxRecDepth 100000
namespace Go.Proofs.YtnmopjefjpifoaaGreatDoor
open Go Go.RowKit
attribute [-go_sem] Sha.exec_store

section
variable (b : Nat) (la lb : List (List (BitVec 8))) (p q : Option Addr) (n k m k' cap cap' : Nat) (w : World)
set_option maxHeartbeats 2000000 in
/-- Rows of any common length, as many as the matrix has columns. -/
theorem apply_ok (hF : Fld w b) (ha : Prt w p la) (hb : Prt w q lb) (ga : Good la n k) (hlb : lb.length = k) (hrb : ∀ i, i < k → (lb.getD i []).length = m) (hm : m < 4294967296) :
    Calls Tryz.prog 231 #[.pointer (some ⟨b, 0, none⟩), .slice p n cap, .slice q k cap'] w (RetOk w.heap.size w n m (mm k (mx la) (mx lb))) := by
  have g1 := ga.lo
  have g2 := ga.hi
  have g3 := ga.mlo
  have g4 := ga.mhi
  have HF := Lib.hid hF
  have HA := Lib.hid ha
  have HB := Lib.hid hb
  have GA := Lib.hid ga
  have HLB := Lib.hid hlb
  have HRB := Lib.hid hrb
  obtain ⟨c, o, q0, cap0, rfl, hc0, hc⟩ := ha.head (by rw [ga.len]; omega)
  rw [ga.head] at hc
  have ta := ga.true_
  have te : eqB lb = true := decide_eq_true fun i hi => by rw [hrb i (by omega), hrb 0 (by omega)]
  have hn0 : (0 : Int) < (n : Int) := by omega
  clear hF ha hb ga hlb hrb
  go_enter Tryz.func231, Tryz.ntmps231
  go_wp2_with fail
  refine (goodM_any la _ n cap w HA.out GA.out.len (by omega)).mono ?_
  rintro e w1 ⟨rfl, hB1⟩
  have hx : w1.cell? ⟨c, o, none⟩ = some (.slice q0 k cap0) := by rw [hB1.cell (by exact hc0)]; exact hc
  have HB1 := Lib.hid hB1
  have hk : ((k : Int) != (k : Int)) = false := by simp
  clear hB1
  go_wp2_with fail
  refine (eq_long_any lb q k cap' w1 (HB.out.of_below HB1.out) HLB.out (by omega)).mono ?_
  rintro e w2 ⟨rfl, hB2⟩
  have HB2 := Lib.hid (HB1.out.trans (hB2.mono HB1.out.size))
  clear hB2 HB1
  go_wp2_with fail
  refine (product_any b la lb _ q n k m cap cap' w2 (HF.out.of_below HB2.out) (HA.out.of_below HB2.out) (HB.out.of_below HB2.out) GA.out.len HLB.out GA.out.rows HRB.out (by omega) (by omega) (by omega) hm).mono ?_
  rintro e w3 ⟨G, D, rfl, hM, hB3⟩
  have hN := HB2.out.size
  have HM := Lib.hid hM
  have HB3 := Lib.hid (HB2.out.trans (hB3.mono HB2.out.size))
  clear hM hB3
  go_wp2
  go_ret2
  exact ⟨G, D, rfl, ⟨HM.out.hds, HM.out.row, HM.out.inj, HM.out.ne, fun i hi => Nat.le_trans hN (HM.out.lo i hi), Nat.le_trans hN HM.out.loG⟩, HB3.out⟩
end
end Go.Proofs.YtnmopjefjpifoaaGreatDoor
/- Inverses: of what is not stuck; of inverses; of products. -/
set_option maxRecDepth 100000
namespace Go.Proofs.YtnmopjefjpifoaaGreatDoor
open Go Go.RowKit
attribute [-go_sem] Sha.exec_store

theorem IsInv.symm {n : Nat} {a v : Mx} (h : IsInv n a v) : IsInv n v a := ⟨h.2, h.1⟩
/-- What is not stuck is inverted. -/
theorem inv_of {b : Nat} {la : List (List (BitVec 8))} {p : Option Addr} {n cap : Nat} {w : World} (hF : Fld w b) (ha : Prt w p la) (ga : Good la n n) (hno : ¬ NoInv n (mx la)) :
    Calls Tryz.prog 281 #[.pointer (some ⟨b, 0, none⟩), .slice p n cap] w fun e w' => ∃ G v, e = .returned (.tuple #[.slice (some ⟨G, 0, none⟩) n n, .int .i64 0]) ∧ IsInv n (mx la) v ∧ Prt w' (some ⟨G, 0, none⟩) (rowsL n n v) ∧ Below w.heap.size w w' := by
  refine (invert_any b la p n cap w hF ha ga).mono ?_
  rintro e w' (⟨hn, -⟩ | ⟨-, h⟩)
  · exact (hno hn).elim
  · exact h
theorem mx_rows (n m : Nat) (a : Mx) (k : Nat) (b : Mx) (i j : Nat) (hi : i < n) (hk : k ≤ m) : mm k (mx (rowsL n m a)) b i j = mm k a b i j := mm_congr (fun l hl => rowsL_mx n m a i l hi (by omega)) (fun _ _ => rfl)
end Go.Proofs.YtnmopjefjpifoaaGreatDoor
/- The program's codes in memory; New, Data, Parity, count, Encode. -/
set_option maxRecDepth 100000
namespace Go.Proofs.YtnmopjefjpifoaaGreatDoor
open Go Go.RowKit
attribute [-go_sem] Sha.exec_store

/-- Block b is a code of k and m: its field and its Cauchy matrix. -/
structure Cd (w : World) (b k m : Nat) : Prop where
  k1 : 1 ≤ k
  m1 : 1 ≤ m
  hi : k + m ≤ 32
  mem : ∃ f G D, w.cell? ⟨b, 0, none⟩ = some (.pointer (some ⟨f, 0, none⟩)) ∧ w.cell? ⟨b, 1, none⟩ = some (.slice (some ⟨G, 0, none⟩) m m) ∧ Fld w f ∧ Mp w 0 G m m k D (cau k)
theorem Cd.keep {w w' : World} {b k m : Nat} (h : Cd w b k m) (g : Below w.heap.size w w') : Cd w' b k m := by
  obtain ⟨h1, h2, h3, f, G, D, c1, c2, hF, hM⟩ := h
  exact ⟨h1, h2, h3, f, G, D, by rw [g.cell (World.block_lt_of_cell? w _ c1)]; exact c1, by rw [g.cell (World.block_lt_of_cell? w _ c2)]; exact c2, hF.of_below g, hM.of_below g⟩
theorem Cd.dr {w w' : World} {b k m : Nat} (h : Cd w b k m) (g : Dr w w') : Cd w' b k m := h.keep (g.below _)
theorem Mp.low {w : World} {N N' G n k m : Nat} {D : Nat → Nat} {a : Mx} (h : Mp w N G n k m D a) (g : N' ≤ N) : Mp w N' G n k m D a :=
  ⟨h.hds, h.row, h.inj, h.ne, fun i hi => Nat.le_trans g (h.lo i hi), Nat.le_trans g h.loG⟩
set_option maxHeartbeats 2000000 in
theorem new_ok (k m : Nat) (w : World) (hk : 1 ≤ k) (hm : 1 ≤ m) (hkm : k + m ≤ 32) :
    Calls Tryz.prog 197 #[.int .i64 (k : Int), .int .i64 (m : Int)] w fun e w' => ∃ b, e = .returned (.tuple #[.pointer (some ⟨b, 0, none⟩), .int .i64 0]) ∧ Cd w' b k m ∧ Below w.heap.size w w' := by
  have e0 : decide ((k : Int) < 1) = false := decide_eq_false (by omega)
  have e1 : decide ((m : Int) < 1) = false := decide_eq_false (by omega)
  have hw : IntKind.i64.wrap (32 - (m : Int)) = 32 - (m : Int) := IntWalk.i64_in _ (by omega)
  have e2 : decide (32 - (m : Int) < (k : Int)) = false := decide_eq_false (by omega)
  have HK := Lib.hid hkm
  go_enter Tryz.func197, Tryz.ntmps197
  go_wp2_with fail
  refine (cauchy_ok k m w hk (by omega) hm (by omega)).mono ?_
  rintro e w1 ⟨G, D, rfl, hM1, hB1⟩
  have HM1 := Lib.hid (hM1.low (Nat.zero_le _))
  have HB1 := Lib.hid hB1
  clear hM1 hB1
  go_wp2_with fail
  refine (new_any w1).mono ?_
  rintro e w2 ⟨rfl, hF2, hB2⟩
  have HF2 := Lib.hid hF2
  have HM2 := Lib.hid (HM1.out.of_below hB2)
  have HB2 := Lib.hid (bel_step HB1.out hB2)
  clear hF2 hB2
  go_wp2
  go_ret2
  have hb : Below w2.heap.size w2 (w2.alloc (.cells #[.pointer (some ⟨w1.heap.size, 0, none⟩), .slice (some ⟨G, 0, none⟩) m m] 311)) := (Below.refl _ _).alloc (Nat.le_refl _) _
  exact ⟨w2.heap.size, rfl, ⟨hk, hm, HK.out, w1.heap.size, G, D, World.cell?_alloc_new _ _ _ _, World.cell?_alloc_new _ _ _ _, HF2.out.of_below hb, HM2.out.of_below hb⟩, bel_step HB2.out hb⟩
theorem data_any (b k m : Nat) (w : World) (h : Cd w b k m) : Calls Tryz.prog 237 #[.pointer (some ⟨b, 0, none⟩)] w fun e w' => e = .returned (.int .i64 (k : Int)) ∧ w = w' := by
  obtain ⟨h1, h2, h3, f, G, D, c1, c2, hF, hM⟩ := h
  have c3 := hM.cellH 0 (by omega) (by omega)
  have hm0 : (0 : Int) < (m : Int) := by omega
  clear hF hM c1
  go_enter Tryz.func237, Tryz.ntmps237
  go_wp2
  go_ret
  exact ⟨rfl, rfl⟩
theorem parity_any (b k m : Nat) (w : World) (h : Cd w b k m) : Calls Tryz.prog 276 #[.pointer (some ⟨b, 0, none⟩)] w fun e w' => e = .returned (.int .i64 (m : Int)) ∧ w = w' := by
  obtain ⟨h1, h2, h3, f, G, D, c1, c2, hF, hM⟩ := h
  clear hF hM c1
  go_enter Tryz.func276, Tryz.ntmps276
  go_wp2
  go_ret
  exact ⟨rfl, rfl⟩
theorem countC_any (b k m : Nat) (w : World) (h : Cd w b k m) : Calls Tryz.prog 232 #[.pointer (some ⟨b, 0, none⟩)] w fun e w' => e = .returned (.int .i64 ((k : Int) + (m : Int))) ∧ w = w' := by
  have HC := Lib.hid h
  have hw : IntKind.i64.wrap ((k : Int) + (m : Int)) = (k : Int) + (m : Int) := IntWalk.i64_in _ (by have := h.hi; omega)
  clear h
  go_enter Tryz.func232, Tryz.ntmps232
  go_wp2_with fail
  refine (data_any b k m w HC.out).mono ?_
  rintro e w1 ⟨rfl, rfl⟩
  go_wp2_with fail
  refine (parity_any b k m w HC.out).mono ?_
  rintro e w1 ⟨rfl, rfl⟩
  go_wp2
  go_ret
  exact ⟨rfl, rfl⟩
theorem cau_good {k m : Nat} (h1 : 1 ≤ k) (h2 : 1 ≤ m) (h3 : k + m ≤ 32) : Good (rowsL m k (cau k)) m k := Good.mats _ h2 (by omega) h1 (by omega)
section
variable (b k m : Nat) (ls : List (List (BitVec 8))) (p : Option Addr) (n cap : Nat) (w : World)
set_option maxHeartbeats 2000000 in
/-- The parity of data that fits. -/
theorem encode_ok (L : Nat) (hC : Cd w b k m) (hs : Prt w p ls) (hl : ls.length = k) (hrow : ∀ i, i < k → (ls.getD i []).length = L) (hL : L < 100000) :
    Calls Tryz.prog 198 #[.pointer (some ⟨b, 0, none⟩), .slice p k cap] w (RetOk w.heap.size w m L (mm k (cau k) (mx ls))) := by
  obtain ⟨h1, h2, h3, f, G, D, c1, c2, hF, hM⟩ := hC
  have HF := Lib.hid hF
  have HM := Lib.hid hM
  have HS := Lib.hid hs
  have HL := Lib.hid hl
  have HR := Lib.hid hrow
  clear hF hM hs hl hrow
  go_enter Tryz.func198, Tryz.ntmps198
  go_wp2_with fail
  go_region_held3 (fun w' : World => w'.cell? ⟨b, 0, none⟩ = some (.pointer (some ⟨f, 0, none⟩)) ∧ w'.cell? ⟨b, 1, none⟩ = some (.slice (some ⟨G, 0, none⟩) m m)) (first | exact ⟨c1, c2⟩ | exact ⟨x1, x2⟩) ((go_at_call 231; refine (apply_ok f _ ls _ p m k L m cap _ (HF.out.dr (Dr.refl _).drew) (HM.out.drewN 1).prt (HS.out.dr (Dr.refl _).drew) (cau_good h1 h2 h3) HL.out HR.out (by omega)).mono ?_; rintro e w2 ⟨G2, D2, rfl, hM2, hB2⟩; have hb2 : Below w.heap.size w w2 := (Below.refl _ _).drew.trans (by exact hB2); have x1 : w2.cell? ⟨b, 0, none⟩ = some (.pointer (some ⟨f, 0, none⟩)) := (by rw [hb2.cell (World.block_lt_of_cell? w _ c1)]; exact c1); have x2 : w2.cell? ⟨b, 1, none⟩ = some (.slice (some ⟨G, 0, none⟩) m m) := (by rw [hb2.cell (World.block_lt_of_cell? w _ c2)]; exact c2); have HM2 := Lib.hid hM2; have HB2 := Lib.hid hb2; clear hM2 hB2 hb2))
  go_wp2
  go_ret2
  exact ⟨G2, D2, rfl, HM2.out.congr (fun i j hi hj => mx_rows m k (cau k) k _ i j hi (Nat.le_refl _)), HB2.out⟩
end
end Go.Proofs.YtnmopjefjpifoaaGreatDoor
/- sidecar: complete blocks, the parity of a stripe, a digest appended. -/
set_option maxRecDepth 100000
namespace Go.Proofs.YtnmopjefjpifoaaGreatDoor
open Go Go.RowKit

attribute [-go_sem] Sha.exec_store
theorem mk256 (w : World) : (mkT 53 (.int .i64 256) (.int .i64 256)).run Tryz.prog w = .ok (.value (.slice (some ⟨w.heap.size, 0, none⟩) 256 256)) (w.alloc (.cells (zb 256) 5)) := mkB 256 w (by decide)
/-- The numbers of complete blocks. -/
def padM (bs : List (List (BitVec 8))) : Mx := fun i j => (bs.getD i []).getD j 0#8
theorem pad_rowsL (bs : List (List (BitVec 8))) (hb : ∀ i, i < bs.length → (bs.getD i []).length ≤ 256) : rowsL bs.length 256 (padM bs) = bs.map padL := by
  apply rows_ext
  · rw [rowsL_length, List.length_map]
  · intro i hi
    rw [rowsL_length] at hi
    rw [rowsL_get _ _ _ _ hi]
    have hp : (bs.map padL).getD i [] = padL (bs.getD i []) := by
      rw [List.getD_eq_getElem?_getD, List.getElem?_map, List.getElem?_eq_getElem hi, List.getD_eq_getElem?_getD, List.getElem?_eq_getElem hi]; rfl
    rw [hp]
    have hl := hb i hi
    have hpl := padL_len hl
    apply List.ext_getElem?
    intro j
    by_cases hj : j < 256
    · have h1 := rowL_get 256 (padM bs) i j hj
      rw [List.getElem?_eq_getElem (by rw [rowL_length]; exact hj)]
      rw [List.getElem?_eq_getElem (by rw [hpl]; exact hj)]
      rw [List.getD_eq_getElem?_getD, List.getElem?_eq_getElem (by rw [rowL_length]; exact hj)] at h1
      congr 1
      refine Eq.trans h1 ?_
      unfold padM padL zs12
      by_cases h2 : j < (bs.getD i []).length
      · rw [List.getElem_append_left h2]; generalize bs.getD i [] = r at h2 ⊢; simp [List.getD_eq_getElem?_getD, h2]
      · rw [List.getElem_append_right (by omega), List.getElem_replicate]; generalize bs.getD i [] = r at h2 ⊢; simp [List.getD_eq_getElem?_getD, List.getElem?_eq_none (show r.length ≤ j by omega)]
    · rw [List.getElem?_eq_none (by rw [rowL_length]; omega), List.getElem?_eq_none (by rw [hpl]; omega)]
section
attribute [local go_sem ↓] exec_store exec_make
attribute [local go_sem] st_H mk256 mkR
set_option maxRecDepth 100000 in
set_option maxHeartbeats 8000000 in
theorem padded12_any (bs : List (List (BitVec 8))) (p : Option Addr) (k cap : Nat) (w : World) (hs : Lay w p bs) (hk : bs.length = k) (hk4 : k ≤ 1000) (hb : ∀ i, i < bs.length → (bs.getD i []).length ≤ 256) :
    Calls Tryz.prog 199 #[.slice p k cap] w fun e w' => e = .returned (.slice (some ⟨w.heap.size, 0, none⟩) k k) ∧ (∃ D, Mp w' w.heap.size w.heap.size k k 256 D (padM bs)) ∧ Below w.heap.size w w' := by
  have hkn : k < 100000000 := by omega
  have HS := Lib.hid hs
  have HKL := Lib.hid hk
  have HBL := Lib.hid hb
  have hmat : Mp (w.alloc (.cells (tab k (fun _ => .slice none 0 0)) 53)) w.heap.size w.heap.size k 0 256 (fun _ => 0) (padM bs) := Mp.zero (Row.new w _ k _) (Nat.le_refl _)
  have hb0 : Below w.heap.size w (w.alloc (.cells (tab k (fun _ => .slice none 0 0)) 53)) := (Below.refl _ _).alloc (Nat.le_refl _) _
  clear hs hk hb
  go_enter Tryz.func199, Tryz.ntmps199
  go_wp2
  generalize w.alloc (.cells (tab k (fun _ => .slice none 0 0)) 53) = w1 at *
  have HM := Lib.hid hmat
  have HB0 := Lib.hid hb0
  clear hmat hb0
  generalize hN : w.heap.size = N at *
  have HN := Lib.hid hN
  clear hN
  go_loopw [11] (fun i wr => ∃ i0 : Nat, i0 ≤ k ∧ i = .int .i64 i0 ∧ ∃ D, Mp wr N N k i0 256 D (padM bs) ∧ Below N w wr) (fun i _ => k - (intOf i).toNat)
  case atStart => exact ⟨0, Nat.zero_le _, rfl, _, HM.out, HB0.out⟩
  case round =>
    clear HM HB0
    obtain ⟨i0, hi0, rfl, D, hM, hB⟩ := hrel
    rename World => WO
    have HM := Lib.hid hM
    have HBr := Lib.hid hB
    have hNlt : N < WO.heap.size := hM.ltG
    by_cases hlt : i0 < k
    · have hd0 : decide ((i0 : Int) < (k : Int)) = true := decide_eq_true (by omega)
      have hl0 : (i0 : Int) < (k : Int) := by omega
      obtain ⟨cb, ob, qb, db, e0, hcb, hsb, -⟩ := HS.out i0 (by rw [HKL.out]; exact hlt)
      have hbw : Below w.heap.size w WO := by rw [HN.out]; exact hB
      have hcb0 : WO.cell? ⟨cb, ob + i0, none⟩ = some (.slice qb (bs.getD i0 []).length db) := by rw [hbw.cell (by exact World.block_lt_of_cell? w _ hcb)]; exact hcb
      obtain ⟨bk, hbk⟩ : ∃ x, bs.getD i0 [] = x := ⟨_, rfl⟩
      obtain ⟨nk, hnk⟩ : ∃ x, bk.length = x := ⟨_, rfl⟩
      have hn256 : nk ≤ 256 := by rw [← hnk, ← hbk]; exact HBL.out i0 (by rw [HKL.out]; exact hlt)
      rw [hbk, hnk] at hcb0
      rw [hbk] at hsb
      have hbA : Below WO.heap.size WO (WO.alloc (.cells (zb 256) 5)) := (Below.refl _ _).alloc (Nat.le_refl _) _
      have hr : Row (WO.alloc (.cells (zb 256) 5)) WO.heap.size 5 256 (fun j => B 0#8) := Row.new WO _ 256 _
      have hMA := hM.of_below hbA
      have hc2 : WO.cell? ⟨N, i0, none⟩ = some (hdr i0 256 D i0) := hM.hds.cell i0 hlt
      have hf2 : WO.frozen? ⟨N, i0, none⟩ = false := hM.free i0
      have hMB := hMA.put i0 WO.heap.size (fun _ => 0#8) hr (i0 + 1) (.inr ⟨rfl, rfl⟩) (fun j hj _ => by have := hM.lt j hj; omega) (by omega) (by omega)
      have HB1 := Lib.hid (show Below N w ((WO.setCell ⟨N, i0, none⟩ (.slice (some ⟨WO.heap.size, 0, none⟩) 256 256)).alloc (.cells (zb 256) 5)) from ((hB.setCell (Nat.le_refl _) _).alloc (by simp; omega) _))
      have hcomm : (WO.alloc (.cells (zb 256) 5)).setCell ⟨N, i0, none⟩ (.slice (some ⟨WO.heap.size, 0, none⟩) 256 256) = (WO.setCell ⟨N, i0, none⟩ (.slice (some ⟨WO.heap.size, 0, none⟩) 256 256)).alloc (.cells (zb 256) 5) := World.setCell_alloc_past _ N i0 _ hNlt
      rw [hcomm] at hMB
      have HM1 := Lib.hid hMB
      have hcm : (WO.alloc (.cells (zb 256) 5)).cell? ⟨N, i0, none⟩ = some (hdr i0 256 D i0) := hMA.hds.cell i0 hlt
      have e1 : setD D i0 WO.heap.size i0 = WO.heap.size := if_pos rfl
      have hx1 := hMB.cellH i0 (Nat.lt_succ_self _) hlt
      rw [e1] at hx1
      have hrowE := hMB.row i0 (Nat.lt_succ_self _)
      rw [e1] at hrowE
      have HE1 := Lib.hid e1
      have HRE := Lib.hid hrowE
      have HNW := Lib.hid hNlt
      have HSL := Lib.hid (show Sl ((WO.setCell ⟨N, i0, none⟩ (.slice (some ⟨WO.heap.size, 0, none⟩) 256 256)).alloc (.cells (zb 256) 5)) qb bk from hsb.of_below (by rw [HN.out]; exact HB1.out))
      have HBK := Lib.hid (And.intro hbk hnk)
      subst e0
      clear hbA hr hMA hMB hM hB hcomm e1 hrowE hcb hsb hbw hbk hnk
      go_wp2_with (first | (refine wpl_copyM _ rfl (.tmp 23) (.tmp 24) rfl WO.heap.size 256 256 (fun j => B (setr (padM bs) i0 (fun _ => 0#8) i0 j)) qb nk db bk rfl rfl HRE.out HBK.out.2 HSL.out nk (by omega) ?_; rintro w5 hR5 hK5; have HR5 := Lib.hid hR5; have HK5 := Lib.hid hK5; clear hR5 hK5))
      go_roundw
      case rel =>
        have hk := HK5.out
        have hr := HR5.out.congr (g' := fun j => B (padM bs i0 j)) fun j hj => by
          show copied1 _ _ _ j = B (padM bs i0 j)
          unfold copied1 padM
          rw [HBK.out.1]
          by_cases h1 : j < nk
          · rw [if_pos h1]
          · rw [if_neg h1]
            show B (setr (padM bs) i0 (fun _ => 0#8) i0 j) = _
            rw [setr, if_pos rfl]
            congr 1
            rw [List.getD_eq_getElem?_getD, List.getElem?_eq_none (by have := HBK.out.2; omega)]; rfl
        have e1 := HE1.out
        have hm := HM1.out.alter (D := setD D i0 WO.heap.size) i0 (Nat.lt_succ_self _) _ (by rw [e1]; exact hk) (by rw [e1]; exact hr)
        refine ⟨i0 + 1, by omega, by go_num, _, hm.congr fun x y hx hy => ?_, HB1.out.trans (hk.below (Nat.le_of_lt HNW.out) (Nat.le_of_lt HM1.out.ltG))⟩
        by_cases h1 : x = i0
        · rw [setr, if_pos h1, h1]
        · rw [setr, if_neg h1, setr, if_neg h1]
      case measure => simp [intOf]; omega
    · have hd0 : decide ((i0 : Int) < (k : Int)) = false := decide_eq_false (by omega)
      obtain rfl : i0 = k := by omega
      clear hM hB
      go_wp2
      go_ret
      rw [HN.out]
      exact ⟨rfl, ⟨_, HM.out⟩, HBr.out⟩
end
theorem below_thenGrown {w w1 w2 : World} {own : Option Nat} (h : Below w.heap.size w w1) (g : w1.grownBy w2 own) : w.grownBy w2 own :=
  ⟨g.os.trans h.os, g.tape.trans h.tape, g.output.trans h.output, Nat.le_trans h.size g.size, fun k hk hne => (g.block k (Nat.lt_of_lt_of_le hk h.size) hne).trans (h.block k hk)⟩
/-- What stands behind bytes that a call has appended to: the block is the old one or a new one, nothing else has changed. -/
def AppR (w : World) (base : Nat) (v : Value) (l : List (BitVec 8)) (e : Ending) (w' : World) : Prop :=
  ∃ v', e = .returned v' ∧ OwnB w' base v' l ∧ w.grownBy w' v.ownBlock ∧ (v'.ownBlock = v.ownBlock ∨ ∃ g, v'.ownBlock = some g ∧ w.heap.size ≤ g)
attribute [local go_sem ↓] exec_alloc32 exec_store exec_slice exec_bs
attribute [local go_sem] st_dig sl_arr bsR
set_option maxRecDepth 100000 in
set_option maxHeartbeats 4000000 in
theorem appendDigest_any (base : Nat) (v : Value) (L : List (BitVec 8)) (b : List (BitVec 8)) (q : Option Addr) (n cap : Nat) (w : World) (hO : OwnB w base v L) (hL : L.length < 1000000000) (hbw : base ≤ w.heap.size) (hb : b.length = n) (hs : Sl w q b) (hn : n < 100000000) (hT : Tb w) :
    Calls Tryz.prog 146 #[v, .slice q n cap] w (AppR w base v (L ++ digL b)) := by
  obtain ⟨p0, c0, hv, -⟩ := hO.shape
  subst hv
  have hbn := below_newR w (.cells #[.slice q n cap] 53)
  have hcx : (w.alloc (.cells #[.slice q n cap] 53)).cell? ⟨w.heap.size, 0, none⟩ = some (.slice q n cap) := World.cell?_alloc_new _ _ _ _
  have HSM := Lib.hid (sum1_any b w.heap.size 0 q n cap (w.alloc (.cells #[.slice q n cap] 53)) hb hcx (hs.of_below hbn) (hT.on hbn) hn)
  have HO := Lib.hid hO
  have HBN := Lib.hid hbn
  have HBW := Lib.hid hbw
  obtain ⟨d, hd⟩ : ∃ d, digL b = d := ⟨_, rfl⟩
  have HDL := Lib.hid (show d.length = 32 from by rw [← hd]; exact digL_len _)
  rw [hd] at HSM ⊢
  clear hO hbn hcx hs hT hd hbw
  go_enter Tryz.func146, Tryz.ntmps146
  go_wp2_with fail
  refine HSM.out.mono ?_
  rintro e w1 ⟨rfl, hB1⟩
  have st := st_dig w1 w1.heap.size d rfl
  obtain ⟨y, hy⟩ : ∃ y, w1.alloc (.cells (tab 32 (dgF d)) 41) = y := ⟨_, rfl⟩
  have hby := below_newR w1 (.cells (tab 32 (dgF d)) 41)
  have hrd := Row.new w1 41 32 (dgF d)
  rw [hy] at st hby hrd
  have hb1 := HBN.out.trans (hB1.mono HBN.out.size)
  have HB := Lib.hid (hb1.trans (hby.mono hb1.size))
  have HSD := Lib.hid (dgF_sl12 hrd HDL.out)
  have HOY := Lib.hid (HO.out.of_below HB.out)
  clear hby hrd hb1 hB1 hy HSM
  go_wp2_with (first
    | (refine wpl_appendL y rfl (.tmp 9) (.tmp 10) rfl base (.slice p0 L.length c0) L rfl HOY.out (some ⟨w1.heap.size, 0, none⟩) 32 32 d HDL.out rfl HSD.out (fun e => by cases e) (by omega) (Nat.le_trans HBW.out HB.out.size) ?_
       rintro v3 w3 hO3 hg3 ho3
       obtain ⟨LL, hLL, hO3⟩ : ∃ LL, L ++ d = LL ∧ OwnB w3 base v3 LL := ⟨_, rfl, hO3⟩
       have HLL := Lib.hid hLL
       have HO3 := Lib.hid hO3
       have HG3 := Lib.hid (below_thenGrown HB.out hg3)
       have HR3 := Lib.hid (ho3.imp id fun h => (⟨_, h, HB.out.size⟩ : ∃ g, v3.ownBlock = some g ∧ w.heap.size ≤ g))
       obtain ⟨p3, c3, hv3, -⟩ := hO3.shape
       subst hv3
       clear hO3 hg3 ho3 hLL))
  go_ret
  rw [HLL.out]
  exact ⟨_, rfl, HO3.out, HG3.out, HR3.out⟩
/-- The numbers of a stripe's parity. -/
def parX (bs : List (List (BitVec 8))) : Mx := mm bs.length (cau bs.length) (mx (bs.map padL))
theorem parX_row (bs : List (List (BitVec 8))) (i : Nat) (h : i < 2) : rowL 256 (parX bs) i = (parB bs).getD i [] := by
  unfold parB
  rw [rowsL_get _ _ _ _ h]
  rfl
theorem Mp.fr12 {w u : World} {N G n k m : Nat} {D : Nat → Nat} {a : Mx} (h : Mp w N G n k m D a) (hu : Fr12 w u N w.heap.size) : Mp u N G n k m D a :=
  ⟨h.hds.of_block (hu.2 G h.loG h.ltG), fun i hi => (h.row i hi).of_block (hu.2 _ (h.lo i hi) (h.lt i hi)), h.inj, h.ne, h.lo, h.loG⟩
set_option maxHeartbeats 4000000 in
theorem parity12_any (bs : List (List (BitVec 8))) (p : Option Addr) (k cap : Nat) (w : World) (hs : Lay w p bs) (hk : bs.length = k) (hk1 : 1 ≤ k) (hk4 : k ≤ 4) (hb : ∀ i, i < bs.length → (bs.getD i []).length ≤ 256) :
    Calls Tryz.prog 147 #[.slice p k cap] w fun e w' => ∃ G D, e = .returned (.slice (some ⟨G, 0, none⟩) 2 2) ∧ Mp w' w.heap.size G 2 2 256 D (parX bs) ∧ Below w.heap.size w w' := by
  have HS := Lib.hid hs
  have HK := Lib.hid (And.intro hk (And.intro hk1 hk4))
  have HBL := Lib.hid hb
  have HN := Lib.hid (new_ok k 2 w hk1 (by decide) (by omega))
  have hpl : (bs.map padL).length = k := by rw [List.length_map]; exact hk
  have hrow := pad_rows bs hb
  rw [hk] at hrow
  have hrl := pad_rowsL bs hb
  rw [hk] at hrl
  have HP := Lib.hid (And.intro hpl (And.intro hrow hrl))
  clear hs hk hk1 hk4 hb hpl hrow hrl
  go_enter Tryz.func147, Tryz.ntmps147
  go_wp2_with fail
  refine HN.out.mono ?_
  rintro e w1 ⟨b, rfl, hC, hB1⟩
  have HC := Lib.hid hC
  have HB1 := Lib.hid hB1
  have HPD := Lib.hid (padded12_any bs p k cap w1 (HS.out.of_below hB1) HK.out.1 (by have := HK.out; omega) HBL.out)
  clear hC hB1 HN
  go_wp2_with fail
  refine HPD.out.mono ?_
  rintro e w2 ⟨rfl, ⟨D, hM⟩, hB2⟩
  have hprt := hM.prt
  rw [HP.out.2.2] at hprt
  have HE := Lib.hid (encode_ok b k 2 (bs.map padL) (some ⟨w1.heap.size, 0, none⟩) k w2 256 (HC.out.keep hB2) hprt HP.out.1 HP.out.2.1 (by decide))
  have HB2 := Lib.hid (HB1.out.trans (hB2.mono HB1.out.size))
  clear hM hB2 hprt HPD
  go_wp2_with fail
  refine HE.out.mono ?_
  rintro e w3 ⟨G, D2, rfl, hM3, hB3⟩
  have HM3 := Lib.hid (hM3.low HB2.out.size)
  have HB3 := Lib.hid (HB2.out.trans (hB3.mono HB2.out.size))
  clear hM3 hB3
  go_wp2
  go_ret
  refine ⟨G, D2, rfl, ?_, HB3.out⟩
  have h := HM3.out
  unfold parX
  rw [HK.out.1]
  exact h
end Go.Proofs.YtnmopjefjpifoaaGreatDoor
/- Headers of the call's own over rows below M, and bools of the call's own beside them: both are appended to. -/
set_option maxRecDepth 100000
namespace Go.Proofs.YtnmopjefjpifoaaGreatDoor
open Go Go.RowKit
attribute [-go_sem] Sha.exec_store

/-- The slice v, among the blocks from base on, holds the headers of rows that lie below M, in other blocks. -/
def OwnQ (w : World) (base M : Nat) (v : Value) (ls : List (List (BitVec 8))) : Prop :=
  ∃ vs : List Value, vs.length = ls.length ∧ w.ownsRow base 53 1 v ls.length vs ∧
    ∀ i, i < ls.length → ∃ q cap, vs[i]? = some (.slice q (ls.getD i []).length cap) ∧ (q = none → cap = 0) ∧ (ls.getD i []).length ≤ cap ∧ ∀ j, j < (ls.getD i []).length → ∃ c o, q = some ⟨c, o, none⟩ ∧ c < M ∧ v.ownBlock ≠ some c ∧ w.cell? ⟨c, o + j, none⟩ = some (B ((ls.getD i []).getD j 0#8))
section
variable {w w' : World} {base M : Nat} {v : Value} {ls : List (List (BitVec 8))}
theorem OwnQ.lt (h : OwnQ w base M v ls) : ∀ k, v.ownBlock = some k → base ≤ k ∧ k < w.heap.size := by
  obtain ⟨vs, _, h2, _⟩ := h
  exact World.ownsRow.lt h2
theorem OwnQ.keep (h : OwnQ w base M v ls) (h1 : ∀ k, v.ownBlock = some k → w'.heap[k]? = w.heap[k]?) (h2 : ∀ c, c < M → c < w.heap.size → v.ownBlock ≠ some c → w'.heap[c]? = w.heap[c]?) : OwnQ w' base M v ls := by
  obtain ⟨vs, a, b, c⟩ := h
  refine ⟨vs, a, own_keep b h1, fun i hi => ?_⟩
  obtain ⟨q, cap, a1, a2, a3, a4⟩ := c i hi
  refine ⟨q, cap, a1, a2, a3, fun j hj => ?_⟩
  obtain ⟨g, o, e, hc, hne, hx⟩ := a4 j hj
  exact ⟨g, o, e, hc, hne, by rw [World.cell?_of_block (w := w) (h2 g hc (World.block_lt_of_cell? w _ hx) hne)]; exact hx⟩
theorem OwnQ.of_below (h : OwnQ w base M v ls) (k : Below w.heap.size w w') : OwnQ w' base M v ls := h.keep (fun g hg => k.block g (h.lt g hg).2) fun c _ hc _ => k.block c hc
theorem OwnQ.prt (h : OwnQ w base M v ls) : ∃ p cap, v = .slice p ls.length cap ∧ Prt w p ls ∧ (p = none → cap = 0) ∧ ls.length ≤ cap := by
  obtain ⟨vs, h1, h2, h3⟩ := h
  rcases h2.2 with ⟨hv, hl⟩ | ⟨g, cap, cur, hv, hb, hg, hle, _, hsz, ht⟩
  · exact ⟨none, 0, by rw [hv, hl], fun i hi => absurd hi (by omega), fun _ => rfl, by omega⟩
  · refine ⟨some ⟨g, 0, none⟩, cap, hv, fun i hi => ?_, (fun h => by cases h), hle⟩
    obtain ⟨q, cap', a1, a2, a3, a4⟩ := h3 i hi
    refine ⟨g, 0, q, cap', rfl, ?_, fun j hj => ?_, a2, a3⟩
    · rw [Nat.zero_add, cell_of_row w g i cur 53 (0, 0) hg]
      have e : (cur.toList.take (ls.length * 1))[i]? = vs[i]? := by rw [ht]
      rw [List.getElem?_take, if_pos (by omega), a1] at e
      simpa using e
    · obtain ⟨c, o, e, _, _, hx⟩ := a4 j hj
      exact ⟨c, o, e, hx⟩
/-- A matrix of the call's own. -/
theorem OwnQ.of_mp {N G k : Nat} {D : Nat → Nat} {a : Mx} (h : Mp w N G k k 256 D a) (hk : k ≤ 1000) : OwnQ w N w.heap.size (.slice (some ⟨G, 0, none⟩) k k) (rowsL k 256 a) := by
  refine ⟨(tab k (hdr k 256 D)).toList, by rw [rowsL_length]; simp [tab], ⟨by rw [rowsL_length]; simp [tab], .inr ⟨G, k, tab k (hdr k 256 D), by rw [rowsL_length], h.loG, h.hds, by rw [rowsL_length]; exact Nat.le_refl _, by simp only [maxLen]; omega, by rw [tab_size]; omega, by rw [rowsL_length, Nat.mul_one]; exact List.take_of_length_le (by simp [tab])⟩⟩, fun i hi => ?_⟩
  rw [rowsL_length] at hi
  rw [rowsL_get _ _ _ _ hi, rowL_length]
  refine ⟨some ⟨D i, 0, none⟩, 256, ?_, (fun e => by cases e), Nat.le_refl _, fun j hj => ⟨D i, 0, rfl, h.lt i hi, fun e => ?_, ?_⟩⟩
  · have := tab_get k (hdr k 256 D) i hi
    rw [Array.getElem?_toList, this]
    unfold hdr
    rw [if_pos hi]
  · exact h.ne i hi (by simpa [Value.ownBlock] using e.symm)
  · rw [Nat.zero_add, rowL_get _ _ _ _ hj]
    exact h.cell i j hi hj
/-- One header appended. -/
theorem OwnQ.push (h : OwnQ w base M v ls) (hM : M ≤ w.heap.size) (ty : TypeId) (a : Addr) (q : Option Addr) (l : List (BitVec 8)) (n cap : Nat)
    (hc : w.cell? a = some (.slice q n cap)) (hn : l.length = n) (hq : q = none → cap = 0) (hle : n ≤ cap) (hs : ∀ j, j < n → ∃ c o, q = some ⟨c, o, none⟩ ∧ c < M ∧ v.ownBlock ≠ some c ∧ w.cell? ⟨c, o + j, none⟩ = some (B (l.getD j 0#8)))
    (hlen : ls.length < 100000000) (hb : base ≤ w.heap.size) :
    ∃ g cap' w', (Builtin.append_ #[73, 73] ty #[v, .slice (some a) 1 1]).run Tryz.prog w = .ok (.slice (some ⟨g, 0, none⟩) (ls.length + 1) cap') w' ∧ OwnQ w' base M (.slice (some ⟨g, 0, none⟩) (ls.length + 1) cap') (ls ++ [l]) ∧ w.grownBy w' v.ownBlock ∧
      (v.ownBlock = some g ∨ g = w.heap.size) := by
  subst hn
  have hlt := h.lt
  obtain ⟨vs, h1, h2, h3⟩ := h
  obtain ⟨i0, hi, hz0, hz1, hz2⟩ := info_parts infoB
  obtain ⟨g, cap', w', r1, r2, r3, r4, r5⟩ := run_append_lies (P := Tryz.prog) w 73 ty base 53 i0 (.slice none 0 0) 1 24 undRows hi hz0 hz1 hz2 rfl (by decide) v ls.length vs h2 a 1 1 [.slice q l.length cap] rfl
    (fun j u hu => by
      have : j = 0 := by
        rcases Nat.eq_zero_or_pos j with h | h
        · exact h
        · rw [List.getElem?_eq_none (by simp; omega)] at hu; cases hu
      subst this
      rw [Addr.add_zero', hc]
      simpa using hu)
    (by intro u hu; simp at hu; subst hu; rfl) (by decide) (by simp only [maxLen]; omega) (by omega) hb w.heap.size rfl
  have hnew : ∀ c, c < M → v.ownBlock ≠ some c → (Value.slice (some ⟨g, 0, none⟩) (ls.length + 1) cap').ownBlock ≠ some c := fun c hc hne e => by
    have e' : g = c := by simpa [Value.ownBlock] using e
    subst e'
    rcases r4 with h | h
    · exact hne h
    · omega
  have hbl : ∀ c o j x, c < M → v.ownBlock ≠ some c → w.cell? ⟨c, o + j, none⟩ = some x → w'.cell? ⟨c, o + j, none⟩ = some x := fun c o j x hc hne hx => by
    rw [World.cell?_of_block (w := w) (r3.block c (Nat.lt_of_lt_of_le hc hM) (fun e => hne e.symm))]; exact hx
  refine ⟨g, cap', w', r1, ⟨vs ++ [.slice q l.length cap], by simp [h1], by rw [List.length_append]; exact r2, fun i hi => ?_⟩, r3, r4⟩
  by_cases hil : i < ls.length
  · obtain ⟨q', cap'', a1, a2, a3, a4⟩ := h3 i hil
    have e : (ls ++ [l]).getD i [] = ls.getD i [] := by simp [List.getD_eq_getElem?_getD, List.getElem?_append_left hil]
    rw [e]
    refine ⟨q', cap'', by rw [List.getElem?_append_left (by omega)]; exact a1, a2, a3, fun j hj => ?_⟩
    obtain ⟨c, o, e2, hcb, hne, hx⟩ := a4 j hj
    exact ⟨c, o, e2, hcb, hnew c hcb hne, hbl c o j _ hcb hne hx⟩
  · have hi' : i = ls.length := by
      rw [List.length_append] at hi
      have : ([l] : List (List (BitVec 8))).length = 1 := rfl
      omega
    subst hi'
    have e : (ls ++ [l]).getD ls.length [] = l := by simp [List.getD_eq_getElem?_getD]
    rw [e]
    refine ⟨q, cap, by rw [List.getElem?_append_right (by omega), h1]; simp, hq, hle, fun j hj => ?_⟩
    obtain ⟨c, o, e2, hcb, hne, hx⟩ := hs j hj
    exact ⟨c, o, e2, hcb, hnew c hcb hne, hbl c o j _ hcb hne hx⟩
end
/-- Both: they don't share a block. -/
structure Shd (w : World) (N M : Nat) (v1 v2 : Value) (ls : List (List (BitVec 8))) (us : List Bool) : Prop where
  rows : OwnQ w N M v1 ls
  flags : OwnBl w M v2 us
  sep : ∀ g, v1.ownBlock = some g → v2.ownBlock ≠ some g
  low : N ≤ M
  top : M ≤ w.heap.size
section
variable {w w' : World} {N M : Nat} {v1 v2 : Value} {ls : List (List (BitVec 8))} {us : List Bool}
theorem Shd.of_below (h : Shd w N M v1 v2 ls us) (k : Below w.heap.size w w') : Shd w' N M v1 v2 ls us := ⟨h.rows.of_below k, h.flags.of_below k, h.sep, h.low, Nat.le_trans h.top k.size⟩
/-- A bool appended. -/
theorem Shd.flag (h : Shd w N M v1 v2 ls us) {v2' : Value} {us' : List Bool} (hO : OwnBl w' M v2' us') (hg : w.grownBy w' v2.ownBlock) (ho : v2'.ownBlock = v2.ownBlock ∨ v2'.ownBlock = some w.heap.size) : Shd w' N M v1 v2' ls us' := by
  refine ⟨h.rows.keep (fun k hk => hg.block k (h.rows.lt k hk).2 (fun e => h.sep k hk e.symm)) (fun c hc hl _ => hg.block c hl (fun e => ?_)), hO, fun g hgk e => ?_, h.low, Nat.le_trans h.top hg.size⟩
  · have := (h.flags.lt c e.symm).1
    omega
  · rcases ho with h1 | h1
    · exact h.sep g hgk (h1 ▸ e)
    · rw [h1] at e
      have := (h.rows.lt g hgk).2
      injection e with e
      omega
/-- A header appended. -/
theorem Shd.row (h : Shd w N M v1 v2 ls us) {v1' : Value} {ls' : List (List (BitVec 8))} (hO : OwnQ w' N M v1' ls') (hg : w.grownBy w' v1.ownBlock) (ho : ∀ g, v1'.ownBlock = some g → v1.ownBlock = some g ∨ g = w.heap.size) : Shd w' N M v1' v2 ls' us := by
  refine ⟨hO, h.flags.keep (fun k hk => hg.block k (h.flags.lt k hk).2 (fun e => h.sep k e.symm hk)), fun g hgk e => ?_, h.low, Nat.le_trans h.top hg.size⟩
  rcases ho g hgk with h1 | h1
  · exact h.sep g h1 e
  · have := (h.flags.lt g e).2
    omega
end
theorem wpl_pushQ {ops : Array Oper} {rest : List Oper} {o : Oper} {a : Act} {Q : Exit → Act → World → Prop} (w : World) (hgd : o.guard = none) (s x : Operand)
    (ho : o.op = .call { callee := .builtin .append, args := #[s, x], argTypes := #[73, 73] })
    (N M : Nat) (v v2 : Value) (ls : List (List (BitVec 8))) (us : List Bool) (hs : a.eval s = v) (hS : Shd w N M v v2 ls us) (ad : Addr) (hx : a.eval x = .slice (some ad) 1 1) (q : Option Addr) (l : List (BitVec 8)) (n cap : Nat)
    (hc : w.cell? ad = some (.slice q n cap)) (hn : l.length = n) (hq : q = none → cap = 0) (hle : n ≤ cap) (hsl : ∀ j, j < n → ∃ c o, q = some ⟨c, o, none⟩ ∧ c < M ∧ v.ownBlock ≠ some c ∧ w.cell? ⟨c, o + j, none⟩ = some (B (l.getD j 0#8)))
    (n0 : Nat) (hn0 : ls.length = n0) (hlen : n0 < 100000000)
    (h : ∀ g cap' w', Shd w' N M (.slice (some ⟨g, 0, none⟩) (n0 + 1) cap') v2 (ls ++ [l]) us → w.grownBy w' v.ownBlock → (∀ k, v.ownBlock = some k → N ≤ k ∧ k < w.heap.size) → (v.ownBlock = some g ∨ g = w.heap.size) → wpList Tryz.prog ops Q rest (a.put o.dst (.slice (some ⟨g, 0, none⟩) (n0 + 1) cap')) w') : wpList Tryz.prog ops Q (o :: rest) a w := by
  subst hn0
  refine wpList_plain hgd fun K hK => ?_
  obtain ⟨g, cap', w', hr, h2, h3, h4⟩ := hS.rows.push hS.top o.type ad q l n cap hc hn hq hle hsl hlen (Nat.le_trans hS.low hS.top)
  unfold Oper.wp execOp
  simp only [ho, resolve, invoke, builtin, Sem.run_bind, Sem.run_pure, Result.andThen_ok, List.map_toArray, List.map_cons, List.map_nil, hs, hx, hr]
  exact hK _ _ (h g cap' w' (hS.row h2 h3 (fun k e => by have e' : g = k := by simpa [Value.ownBlock] using e
                                                         subst e'; exact h4)) h3 hS.rows.lt h4)
theorem wpl_pushBl {ops : Array Oper} {rest : List Oper} {o : Oper} {a : Act} {Q : Exit → Act → World → Prop} (w : World) (hgd : o.guard = none) (s x : Operand)
    (ho : o.op = .call { callee := .builtin .append, args := #[s, x], argTypes := #[85, 85] })
    (N M : Nat) (v v2 : Value) (ls : List (List (BitVec 8))) (us : List Bool) (hs : a.eval s = v2) (hS : Shd w N M v v2 ls us) (g o' : Nat) (hx : a.eval x = .slice (some ⟨g, o', none⟩) 1 1) (u : Bool)
    (hc : w.cell? ⟨g, o', none⟩ = some (.bool u)) (n0 : Nat) (hn0 : us.length = n0) (hlen : n0 < 10000000)
    (h : ∀ q cap w', Shd w' N M v (.slice q (n0 + 1) cap) ls (us ++ [u]) → w.grownBy w' v2.ownBlock → (∀ k, v2.ownBlock = some k → M ≤ k ∧ k < w.heap.size) → wpList Tryz.prog ops Q rest (a.put o.dst (.slice q (n0 + 1) cap)) w') : wpList Tryz.prog ops Q (o :: rest) a w := by
  subst hn0
  have hf := hS.flags
  unfold OwnBl at hf
  refine wpl_appendK elBo12 w hgd s x ho M hs hf (some ⟨g, o', none⟩) 1 1 [.bool u] rfl hx (fun j hj => ?_) (fun e => by cases e) (fun y hy => by simp at hy; subst hy; rfl) (by omega) hS.top (fun v' w' h2 h3 h4 => ?_)
  · have : j = 0 := by simp at hj; omega
    subst this
    exact ⟨g, o', rfl, by rw [Nat.add_zero, hc]; rfl⟩
  · have h5 : OwnBl w' M v' (us ++ [u]) := by
      unfold OwnBl
      rw [List.length_append, List.map_append]
      exact h2
    obtain ⟨q, cap, e, -⟩ := h5.shape
    have e' : v' = .slice q (us.length + 1) cap := by rw [e, List.length_append]; rfl
    subst e'
    exact h q cap w' (hS.flag h5 h3 h4) h3 hS.flags.lt
end Go.Proofs.YtnmopjefjpifoaaGreatDoor
/- The mender in memory; its has. -/
set_option maxRecDepth 100000
namespace Go.Proofs.YtnmopjefjpifoaaGreatDoor
open Go Go.RowKit

attribute [-go_sem] Sha.exec_store
/-- A mender's cells: its record, the content, the sidecar, which parity stands. -/
def mdF (r : Rc) (cv sv iv : Value) (j : Nat) : Value := if j < 54 then rcF r j else if j = 54 then cv else if j = 55 then sv else iv
def Mdr (w : World) (b : Nat) (r : Rc) (cv sv iv : Value) : Prop := Row w b 166 57 (mdF r cv sv iv)
theorem Mdr.of_below {w u : World} {b : Nat} {r : Rc} {cv sv iv : Value} (h : Mdr w b r cv sv iv) (k : Below w.heap.size w u) : Mdr u b r cv sv iv := Row.of_below h k
theorem Mdr.rcell {w : World} {b : Nat} {r : Rc} {cv sv iv : Value} (h : Mdr w b r cv sv iv) (j : Nat) (hj : j < 54) : w.cell? ⟨b, j, none⟩ = some (rcF r j) := by
  have := Row.cell h j (by omega)
  rw [this]; unfold mdF; rw [if_pos hj]
theorem Mdr.blocks {w : World} {b : Nat} {r : Rc} {cv sv iv : Value} (h : Mdr w b r cv sv iv) : w.cell? ⟨b, 53, none⟩ = some (.slice r.q r.n r.cap) := h.rcell 53 (by decide)
theorem Mdr.content {w : World} {b : Nat} {r : Rc} {cv sv iv : Value} (h : Mdr w b r cv sv iv) : w.cell? ⟨b, 54, none⟩ = some cv := Row.cell h 54 (by decide)
theorem Mdr.side {w : World} {b : Nat} {r : Rc} {cv sv iv : Value} (h : Mdr w b r cv sv iv) : w.cell? ⟨b, 55, none⟩ = some sv := Row.cell h 55 (by decide)
theorem Mdr.intact {w : World} {b : Nat} {r : Rc} {cv sv iv : Value} (h : Mdr w b r cv sv iv) : w.cell? ⟨b, 56, none⟩ = some iv := Row.cell h 56 (by decide)
attribute [local go_sem ↓] exec_bs exec_load32 exec_eqlD
attribute [local go_sem] bsR eqlD
set_option maxRecDepth 100000 in
set_option maxHeartbeats 8000000 in
theorem has12_any (b : Nat) (r : Rc) (ds : List (List (BitVec 8))) (cv sv iv : Value) (i : Nat) (bk : List (BitVec 8)) (q : Option Addr) (n cap : Nat) (w : World) (hM : Mdr w b r cv sv iv) (hD : DgAt w r ds) (hi : i < ds.length) (hd : ds.length < 1000000) (hbk : bk.length = n) (hs : Sl w q bk) (hn : n < 1000000) (hT : Tb w) :
    Calls Tryz.prog 153 #[.pointer (some ⟨b, 0, none⟩), .int .i64 (i : Int), .slice q n cap] w fun e w' => e = .returned (.bool (deq (digL bk) (ds.getD i []))) ∧ Below w.heap.size w w' := by
  obtain ⟨c1, o1, eq1, hlt, hcell, h32⟩ := hD.at i hi
  have hbl := hM.blocks
  rw [eq1] at hbl
  obtain ⟨rn, hrn⟩ : ∃ x, r.n = x := ⟨_, rfl⟩
  obtain ⟨rc, hrc⟩ : ∃ x, r.cap = x := ⟨_, rfl⟩
  have hrnl : i < rn := by rw [← hrn, hD.n]; exact hi
  have hrn2 : rn < 1000000 := by rw [← hrn, hD.n]; exact hd
  rw [hrn, hrc] at hbl
  obtain ⟨di, hdi⟩ : ∃ x, ds.getD i [] = x := ⟨_, rfl⟩
  rw [hdi] at hcell h32 ⊢
  have hsd : Sl w (some ⟨c1, o1 + i * 32, none⟩) di := fun j hj => ⟨c1, o1 + i * 32, rfl, by rw [show o1 + i * 32 + j = o1 + 32 * i + j by omega]; exact hcell j (by omega)⟩
  have hbb := hM.lt
  have HS := Lib.hid (show ∀ u, Below w.heap.size w u → u.cell? ⟨b, 53, none⟩ = some (.slice (some ⟨c1, o1, none⟩) rn rc) ∧ (ldT 41 (.pointer (some ⟨c1, o1 + i * 32, none⟩))).run Tryz.prog u = .ok (.value (digV di)) u from fun u hu => ⟨by rw [hu.cell (by exact World.block_lt_of_cell? w _ hbl)]; exact hbl, ld_dig (hsd.of_below hu) h32⟩)
  have HX0 := Lib.hid (show Below w.heap.size w w.drew from (Below.refl _ _).drew)
  have HBK := Lib.hid (And.intro hbk (And.intro hs (show n < 100000000 by omega)))
  have HT := Lib.hid hT
  have i0 : (i : Int) < (rn : Int) := by omega
  have i1 : (0 : Int) ≤ (i : Int) := by omega
  clear hM hD hcell hsd hbl hbb hdi h32 hbk hs hT hrn hrc eq1 hlt
  go_enter Tryz.func153, Tryz.ntmps153
  go_wp2
  refine wp_region_noPanic ?_
  refine wp_region_held_drew (S := (fun u : World => u.cell? ⟨b, 53, none⟩ = some (.slice (some ⟨c1, o1, none⟩) rn rc) ∧ (ldT 41 (.pointer (some ⟨c1, o1 + i * 32, none⟩))).run Tryz.prog u = .ok (.value (digV di)) u)) (by kernel_rfl) (HS.out _ HX0.out) (fun hHeld => ?_)
  generalize w.drew = x at hHeld HX0 ⊢
  refine wpAnyH_take (i := 0) (v := ?_) (by simp only [List.getElem?_toArray, List.getElem?_cons_succ, List.getElem?_cons_zero]; exact rfl) (by kernel_rfl) (by kernel_rfl) (by kernel_rfl) (fun _ _ _ h => h) (Or.inl ⟨by rfl, ?_⟩) (by assumption) ?_
  rotate_left 1
  · (intro w hSw; (try dsimp only at hSw); go_simp; try with_reducible rfl)
  try simp only [Act.put, List.setIfInBounds_toArray, List.set_cons_zero, List.set_cons_succ]
  refine wpAnyH_take (i := 3) (v := ?_) (by simp only [List.getElem?_toArray, List.getElem?_cons_succ, List.getElem?_cons_zero]; exact rfl) (by kernel_rfl) (by kernel_rfl) (by kernel_rfl) (fun _ _ _ h => h) (Or.inl ⟨by rfl, ?_⟩) (by assumption) ?_
  rotate_left 1
  · (intro w hSw; (try dsimp only at hSw); go_simp; try with_reducible rfl)
  try simp only [Act.put, List.setIfInBounds_toArray, List.set_cons_zero, List.set_cons_succ]
  refine wpAnyH_take (i := 4) (v := ?_) (by simp only [List.getElem?_toArray, List.getElem?_cons_succ, List.getElem?_cons_zero]; exact rfl) (by kernel_rfl) (by kernel_rfl) (by kernel_rfl) (fun _ _ _ h => h) (Or.inl ⟨by rfl, ?_⟩) (by assumption) ?_
  rotate_left 1
  · (intro w hSw; (try dsimp only at hSw); go_simp; try with_reducible rfl)
  try simp only [Act.put, List.setIfInBounds_toArray, List.set_cons_zero, List.set_cons_succ]
  refine wpAnyH_take (i := 5) (v := ?_) (by simp only [List.getElem?_toArray, List.getElem?_cons_succ, List.getElem?_cons_zero]; exact rfl) (by kernel_rfl) (by kernel_rfl) (by kernel_rfl) (fun _ _ _ h => h) (Or.inl ⟨by rfl, ?_⟩) (by assumption) ?_
  rotate_left 1
  · (intro w hSw; (try dsimp only at hSw); go_simp; try with_reducible rfl)
  try simp only [Act.put, List.setIfInBounds_toArray, List.set_cons_zero, List.set_cons_succ]
  refine wpAnyH_take (i := 6) (v := ?_) (by simp only [List.getElem?_toArray, List.getElem?_cons_succ, List.getElem?_cons_zero]; exact rfl) (by kernel_rfl) (by kernel_rfl) (by kernel_rfl) (fun _ _ _ h => h) (Or.inl ⟨by rfl, ?_⟩) (by assumption) ?_
  rotate_left 1
  · (intro w hSw; (try dsimp only at hSw); go_simp; try with_reducible rfl)
  try simp only [Act.put, List.setIfInBounds_toArray, List.set_cons_zero, List.set_cons_succ]
  refine wpAnyH_take (i := 7) (v := ?_) (by simp only [List.getElem?_toArray, List.getElem?_cons_succ, List.getElem?_cons_zero]; exact rfl) (by kernel_rfl) (by kernel_rfl) (by kernel_rfl) (fun _ _ _ h => h) (Or.inl ⟨by rfl, ?_⟩) (by assumption) ?_
  rotate_left 1
  · (intro w hSw; (try dsimp only at hSw); go_simp; try with_reducible rfl)
  try simp only [Act.put, List.setIfInBounds_toArray, List.set_cons_zero, List.set_cons_succ]
  refine wpAnyH_take (i := 8) (v := ?_) (by simp only [List.getElem?_toArray, List.getElem?_cons_succ, List.getElem?_cons_zero]; exact rfl) (by kernel_rfl) (by kernel_rfl) (by kernel_rfl) (fun _ _ _ h => h) (Or.inl ⟨by rfl, ?_⟩) (by assumption) ?_
  rotate_left 1
  · (intro w hSw; (try dsimp only at hSw); go_simp; try with_reducible rfl)
  try simp only [Act.put, List.setIfInBounds_toArray, List.set_cons_zero, List.set_cons_succ]
  refine wpAnyH_take (i := 9) (v := ?_) (by simp only [List.getElem?_toArray, List.getElem?_cons_succ, List.getElem?_cons_zero]; exact rfl) (by kernel_rfl) (by kernel_rfl) (by kernel_rfl) (fun _ _ _ h => h) (Or.inl ⟨by rfl, ?_⟩) (by assumption) ?_
  rotate_left 1
  · (intro w hSw; (try dsimp only at hSw); go_simp; try with_reducible rfl)
  try simp only [Act.put, List.setIfInBounds_toArray, List.set_cons_zero, List.set_cons_succ]
  refine wpAnyH_take (i := 10) (v := ?_) (by simp only [List.getElem?_toArray, List.getElem?_cons_succ, List.getElem?_cons_zero]; exact rfl) (by kernel_rfl) (by kernel_rfl) (by kernel_rfl) (fun _ _ _ h => h) (Or.inl ⟨by rfl, ?_⟩) (by assumption) ?_
  rotate_left 1
  · (intro w hSw; (try dsimp only at hSw); go_simp; try with_reducible rfl)
  try simp only [Act.put, List.setIfInBounds_toArray, List.set_cons_zero, List.set_cons_succ]
  refine wpAnyH_ready (rs := [1]) (by kernel_rfl) (by simp) ?_
  refine (AllReadyH.cons (by simp only [List.getElem?_toArray, List.getElem?_cons_succ, List.getElem?_cons_zero]; exact rfl) (fun K hK => ?_) AllReadyH.nil)
  go_simp
  have hbn := below_newR x (.cells #[.slice q n cap] 53)
  have HX := Lib.hid (HX0.out.trans (hbn.mono HX0.out.size))
  have hcx : (x.alloc (.cells #[.slice q n cap] 53)).cell? ⟨x.heap.size, 0, none⟩ = some (.slice q n cap) := World.cell?_alloc_new _ _ _ _
  have HSM := Lib.hid (sum1_any bk x.heap.size 0 q n cap (x.alloc (.cells #[.slice q n cap] 53)) HBK.out.1 hcx (HBK.out.2.1.of_below HX.out) (HT.out.on HX.out) HBK.out.2.2)
  clear hbn hcx
  refine hK.out _ _ (HS.out _ HX.out) (fun hHeld => ?_)
  generalize x.alloc (.cells #[.slice q n cap] 53) = x1 at HX HSM hHeld ⊢
  clear hK K
  try simp only [Act.put, List.setIfInBounds_toArray, List.set_cons_zero, List.set_cons_succ]
  refine wpAnyH_ready (rs := [2]) (by kernel_rfl) (by simp) ?_
  refine (AllReadyH.cons (by simp only [List.getElem?_toArray, List.getElem?_cons_succ, List.getElem?_cons_zero]; exact rfl) (fun K hK => ?_) AllReadyH.nil)
  go_simp
  refine HSM.out.mono ?_
  rintro e x2 ⟨rfl, hB⟩
  have HX := Lib.hid (HX.out.trans (hB.mono HX.out.size))
  clear hB HSM
  go_wp2_with fail
  refine hK.out _ _ (HS.out _ HX.out) (fun hHeld => ?_)
  clear hK K
  try simp only [Act.put, List.setIfInBounds_toArray, List.set_cons_zero, List.set_cons_succ]
  refine wpAnyH_take (i := 11) (v := ?_) (by simp only [List.getElem?_toArray, List.getElem?_cons_succ, List.getElem?_cons_zero]; exact rfl) (by kernel_rfl) (by kernel_rfl) (by kernel_rfl) (fun _ _ _ h => h) (Or.inl ⟨by rfl, ?_⟩) (by assumption) ?_
  rotate_left 1
  · (intro w hSw; (try dsimp only at hSw); go_simp; try with_reducible rfl)
  try simp only [Act.put, List.setIfInBounds_toArray, List.set_cons_zero, List.set_cons_succ]
  refine wpAnyH_take (i := 12) (v := ?_) (by simp only [List.getElem?_toArray, List.getElem?_cons_succ, List.getElem?_cons_zero]; exact rfl) (by kernel_rfl) (by kernel_rfl) (by kernel_rfl) (fun _ _ _ h => h) (Or.inl ⟨by rfl, ?_⟩) (by assumption) ?_
  rotate_left 1
  · (intro w hSw; (try dsimp only at hSw); go_simp; try with_reducible rfl)
  try simp only [Act.put, List.setIfInBounds_toArray, List.set_cons_zero, List.set_cons_succ]
  refine wpAnyH_done (by kernel_rfl) ?_ _
  refine NoPanic.normal ?_
  clear hHeld
  go_wp2
  go_ret
  exact ⟨rfl, HX.out⟩
end Go.Proofs.YtnmopjefjpifoaaGreatDoor
