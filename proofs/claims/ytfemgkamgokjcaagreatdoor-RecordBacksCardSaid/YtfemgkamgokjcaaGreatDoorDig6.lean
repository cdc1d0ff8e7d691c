/- Arrays of 32 bytes: filled by copy, cut whole, read by value. -/
import Derived.Test.YtfemgkamgokjcaaGreatDoorLdT
import Derived.Test.YtfemgkamgokjcaaGreatDoorIts6
import Derived.Test.YtfemgkamgokjcaaGreatDoorCopyB
import Derived.Test.YtfemgkamgokjcaaGreatDoorCuts
import Derived.Laws.Tables
import Derived.Laws.NewDeep
set_option linter.unusedSimpArgs false
set_option maxRecDepth 100000
set_option linter.unusedVariables false
namespace Go.Proofs.YtfemgkamgokjcaaGreatDoor
open Go Go.RowKit

/-- What the copy leaves. -/
def copiedT (l : List (BitVec 8)) (t : Nat) (g : Nat → Value) : Nat → Value := fun j => if j < t then B (l.getD j 0#8) else g j
theorem run_copyT (w : World) (ty T : TypeId) (E m c : Nat) (g : Nat → Value) (q : Option Addr) (n c' : Nat) (l : List (BitVec 8)) (hR : Row w E T m g) (hl : l.length = n) (hsl : Sl w q l) (t : Nat) (ht : t = min m n) :
    ∃ w', (Builtin.copy_ #[35, 35] ty #[.slice (some ⟨E, 0, none⟩) m c, .slice q n c']).run Tryz.prog w = .ok (.int .i64 (t : Int)) w' ∧ Row w' E T m (copiedT l t g) ∧ Kp E w w' := by
  by_cases h0 : t = 0
  · subst h0
    have hn : Nat.min n m = 0 := by show min n m = 0; omega
    refine ⟨w, ?_, hR.congr fun j _ => by rw [copiedT, if_neg (by omega)], Kp.refl _ _⟩
    have := run_copy_none (P := Tryz.prog) w 35 35 ty 5 (some ⟨E, 0, none⟩) q m c n c' und35 (by kernel_rfl) hn
    rw [this]
    rfl
  · obtain ⟨c0, o0, rfl, hc⟩ := hsl 0 (by omega)
    have hlen : ((l.take t).map B).length = t := by rw [List.length_map, List.length_take]; omega
    have key := run_copy_row (P := Tryz.prog) w 35 35 ty 5 E 0 m c ⟨c0, o0, none⟩ n c' (tab m g) T ((l.take t).map B) und35 (by kernel_rfl) hR (by rw [hlen, ht]; exact Nat.min_comm _ _)
      (fun j v hv => by
        have hj : j < t := by
          have := (List.getElem?_eq_some_iff.1 hv).1
          rw [hlen] at this; exact this
        refine hsl.news j v ?_
        rw [List.getElem?_map] at hv ⊢
        rw [List.getElem?_take, if_pos hj] at hv
        exact hv) (by rw [tab_size, hlen]; omega) (one_map _)
    have e : ((tab m g).toList.take 0 ++ (l.take t).map B ++ (tab m g).toList.drop (0 + ((l.take t).map B).length)).toArray = tab m (copiedT l t g) := by
      have := tab_splice m t g (l.take t) (by rw [List.length_take]; omega) (by omega)
      rw [List.append_assoc, this]
      refine tab_congr fun j _ => ?_
      unfold copiedT
      by_cases hj : j < t
      · rw [if_pos hj, if_pos hj]; congr 1; simp [List.getD_eq_getElem?_getD, hj]
      · rw [if_neg hj, if_neg hj]
    rw [e, hlen] at key
    exact ⟨_, key, setRow_heap w E _ _ T _ hR, ⟨rfl, rfl, rfl, by simp [World.setRow], fun k _ hk => setRow_other w E k _ hk⟩⟩
theorem wpl_copyT {ops : Array Oper} {rest : List Oper} {o : Oper} {a : Act} {Q : Exit → Act → World → Prop} (w : World) (hgd : o.guard = none) (d s : Operand)
    (ho : o.op = .call { callee := .builtin .copy, args := #[d, s], argTypes := #[35, 35] }) (T : TypeId) (E m c : Nat) (g : Nat → Value) (q : Option Addr) (n c' : Nat) (l : List (BitVec 8))
    (hd : a.eval d = .slice (some ⟨E, 0, none⟩) m c) (hs : a.eval s = .slice q n c') (hR : Row w E T m g) (hl : l.length = n) (hsl : Sl w q l) (t : Nat) (ht : t = min m n)
    (h : ∀ w', Row w' E T m (copiedT l t g) → Kp E w w' → wpList Tryz.prog ops Q rest (a.put o.dst (.int .i64 (t : Int))) w') : wpList Tryz.prog ops Q (o :: rest) a w := by
  refine wpList_plain hgd fun K hK => ?_
  obtain ⟨w', hr, h2, h3⟩ := run_copyT w o.type T E m c g q n c' l hR hl hsl t ht
  unfold Oper.wp execOp
  simp only [ho, resolve, invoke, builtin, Sem.run_bind, Sem.run_pure, Result.andThen_ok, List.map_toArray, List.map_cons, List.map_nil, hd, hs, hr]
  exact hK _ _ (h w' h2 h3)
theorem sl_arr (E : Nat) (w : World) : (slT 23 (.pointer (some ⟨E, 0, none⟩)) none none none).run Tryz.prog w = .ok (.value (.slice (some ⟨E, 0, none⟩) 32 32)) w := by
  first
  | kernel_rfl
  | (unfold slT; simp [go_sem, Instr.sliceAt])
/-- The first 32 bytes, noughts behind. -/
def pad32 (b : List (BitVec 8)) : List (BitVec 8) := (List.range 32).map fun i => b.getD i 0#8
theorem pad32_len (b : List (BitVec 8)) : (pad32 b).length = 32 := by simp [pad32]
theorem pad32_get (b : List (BitVec 8)) (j : Nat) (h : j < 32) : (pad32 b).getD j 0#8 = b.getD j 0#8 := by simp [pad32, List.getD_eq_getElem?_getD, h]
theorem pad32_same {b : List (BitVec 8)} (h : b.length = 32) : pad32 b = b := by
  apply List.ext_getElem?
  intro j
  by_cases hj : j < 32
  · simp [pad32, hj, List.getD_eq_getElem?_getD, show j < b.length by omega]
  · rw [List.getElem?_eq_none (by rw [pad32_len]; omega), List.getElem?_eq_none (by omega)]
/-- The row that a copy into noughts leaves. -/
theorem Sl.padded {w : World} {E : Nat} {T : TypeId} {b : List (BitVec 8)} {n t : Nat} (h : Row w E T 32 (copiedT b t (fun _ => B 0#8))) (hn : b.length = n) (ht : t = min 32 n) : Sl w (some ⟨E, 0, none⟩) (pad32 b) :=
  Sl.row h (by rw [pad32_len]; exact Nat.le_refl _) fun j hj => by
    rw [pad32_len] at hj
    rw [pad32_get b j hj]
    unfold copiedT
    split
    · rfl
    · rw [List.getD_eq_getElem?_getD, List.getElem?_eq_none (by omega)]; rfl
theorem info32 : (Tryz.prog.info? 23).map (fun i => (i.zero, i.size)) = some (some (.agg (Array.replicate 32 (Value.int .u8 0))), 32) := by kernel_rfl
theorem und32 : Tryz.prog.underlying 23 = some (.array 32 5) := by kernel_rfl
theorem size32 : (Tryz.prog.info? 23).map (·.size) = some 32 := by kernel_rfl
section
variable (r : Operand → Value) (dst : Option Tmp) (ty : TypeId) (pos : String) (after : Array Edge) (guard : Option (Nat × Bool))
theorem exec_alloc32 (w : World) :
    (execOp r ⟨dst, .alloc 23, ty, pos, after, guard⟩).run Tryz.prog w = .ok (.value (.pointer (some ⟨w.heap.size, 0, none⟩))) (w.alloc (.cells (zb 32) 23)) := by
  have h := (zero_of_info info32).1 w
  rw [← zb_eq] at h
  simp [execOp, Instr.alloc, h, newVar, newRow, Value.cells]
theorem exec_build32 (parts : Array (Nat × Operand)) : execOp r ⟨dst, .build 23 parts, ty, pos, after, guard⟩ = bdT 23 (parts.map fun x => (x.1, r x.2)) := rfl
theorem exec_store32 (p v : Operand) : execOp r ⟨dst, .store 23 p v, ty, pos, after, guard⟩ = stT 23 (r p) (r v) := rfl
theorem exec_load32 (p : Operand) : execOp r ⟨dst, .load 23 p, ty, pos, after, guard⟩ = ldT 23 (r p) := rfl
end
/-- 32 noughts. -/
def z32 : List (BitVec 8) := List.replicate 32 0#8
theorem z32_get (j : Nat) (h : j < 32) : z32.getD j 0#8 = 0#8 := by unfold z32; rw [List.getD_eq_getElem?_getD, List.getElem?_replicate, if_pos h]; rfl
theorem bd32 (w : World) : (bdT 23 #[]).run Tryz.prog w = .ok (.value (digV z32)) w := by
  have e : (tab 32 (dgF z32)) = Array.replicate 32 (Value.int .u8 0) := by
    rw [← zb_eq, zb]
    exact tab_congr fun j hj => by unfold dgF; rw [z32_get j hj]
  unfold digV
  rw [e]
  show (bdT 23 #[]).run Tryz.prog w = .ok (.value (.agg (Array.replicate 32 (Value.int .u8 0)))) w
  kernel_rfl
theorem run_storeAt_new' {P : Program} (w : World) (t e : TypeId) (c c' : Array Value) (hi : (P.info? t).map (·.size) = some c'.size) (ho : c.size = c'.size) (h1 : c'.all (·.oneCell') = true) :
    (Instr.storeAt t (.pointer (some ⟨w.heap.size, 0, none⟩)) (.agg c')).run P (w.alloc (.cells c e)) = .ok () (w.alloc (.cells c' e)) := by
  simp only [Instr.storeAt, Instr.sureAddr, Sem.run_bind, Sem.run_pure, Result.andThen]
  rw [run_storeVar_row _ _ e t c c' (heap_alloc_last w _) hi ho h1, World.setRow_alloc_new]
theorem st_dig (w : World) (N : Nat) (l : List (BitVec 8)) (hN : N = w.heap.size) : (stT 23 (.pointer (some ⟨N, 0, none⟩)) (digV l)).run Tryz.prog (w.alloc (.cells (zb 32) 23)) = .ok .skip (w.alloc (.cells (tab 32 (dgF l)) 23)) := by
  subst hN
  have h := run_storeAt_new' (P := Tryz.prog) w 23 23 (zb 32) (tab 32 (dgF l)) (by rw [size32, tab_size]) (by rw [zb, tab_size, tab_size]) (by simp [tab, dgF, one_B])
  unfold digV
  simp only [stT, Sem.run_bind, h, Result.andThen, Sem.run_pure]
theorem ld_dig {w : World} {b o : Nat} {l : List (BitVec 8)} (h : Sl w (some ⟨b, o, none⟩) l) (hl : l.length = 32) : (ldT 23 (.pointer (some ⟨b, o, none⟩))).run Tryz.prog w = .ok (.value (digV l)) w := by
  have hr : w.rangeAt b o (tab 32 (dgF l)).toList := by
    intro j v hv
    have hj : j < 32 := by
      have := (List.getElem?_eq_some_iff.1 hv).1
      simpa [tab] using this
    obtain ⟨c, o', e, hx⟩ := h j (by omega)
    injection e with e
    injection e with e1 e2
    subst e1 e2
    rw [hx]
    have h2 : (tab 32 (dgF l)).toList[j]? = some (B (l.getD j 0#8)) := by simp [tab, dgF, hj]
    rw [h2] at hv
    exact hv
  have := run_loadAt_mid (P := Tryz.prog) w b o 23 _ _ hr und32 rfl (by rw [size32]; simp [tab])
  unfold digV
  simp only [ldT, Sem.run_bind, this, Result.andThen, Sem.run_pure, Array.toArray_toList]
end Go.Proofs.YtfemgkamgokjcaaGreatDoor
