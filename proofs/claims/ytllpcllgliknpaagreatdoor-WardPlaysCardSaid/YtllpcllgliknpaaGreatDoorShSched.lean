/- The words of a block, in the program. -/
import Derived.Test.YtllpcllgliknpaaGreatDoorShPlain
import Derived.Deep.MidRow
import Derived.Deep.WholeRow
import Derived.Deep.QuietTactic
import Derived.BigQuiet
import Derived.Deep.RegionWith
import Derived.StillTailTactics
import Derived.Lib.Hide
set_option linter.unusedSimpArgs false
set_option maxRecDepth 100000
set_option linter.unusedVariables false
namespace Go.Proofs.YtllpcllgliknpaaGreatDoor.Sha
open Go Go.RowKit

/-- n zero words. -/
def zw (n : Nat) : Array Value := tab n (fun _ => U 0#32)
theorem tab_const (n : Nat) (v : Value) : tab n (fun _ => v) = Array.replicate n v := by
  apply Array.ext_getElem?
  intro j
  by_cases hj : j < n <;> simp [tab, hj]
theorem zw_eq (n : Nat) : zw n = Array.replicate n (Value.int .u32 0) := by
  rw [zw, tab_const]; unfold U; rfl
theorem info50 : (Tryz.prog.info? 111).map (fun i => (i.zero, i.size)) = some (some (.agg (Array.replicate 64 (Value.int .u32 0))), 64) := by kernel_rfl
theorem run_alloc50 (w : World) : (Instr.alloc 111 true (.tuple #[])).run Tryz.prog w = .ok (.pointer (some ⟨w.heap.size, 0, none⟩)) (w.alloc (.cells (zw 64) 111)) := by
  have h := (zero_of_info info50).1 w
  rw [← zw_eq] at h
  simp [Instr.alloc, h, newVar, newRow, Value.cells]

attribute [local go_sem] tab_set tab_get
theorem exec_alloc50 (r : Operand → Value) (dst : Option Tmp) (ty : TypeId) (pos : String) (after : Array Edge) (guard : Option (Nat × Bool)) (w : World) :
    (execOp r ⟨dst, .alloc 111, ty, pos, after, guard⟩).run Tryz.prog w = .ok (.value (.pointer (some ⟨w.heap.size, 0, none⟩))) (w.alloc (.cells (zw 64) 111)) := by
  simp [execOp, run_alloc50]
attribute [local go_sem ↓] exec_alloc50

/-- The words of a block behind i of its bytes. -/
def cur1 (m : Nat → BitVec 8) (i : Nat) (t : Nat) : BitVec 32 := pw m t (min 4 (i - 4 * t))
theorem cur1_succ (m : Nat → BitVec 8) (k : Nat) (t : Nat) : (if t = k / 4 then U (cur1 m k (k / 4) <<< 8 ||| BitVec.setWidth 32 (m k)) else U (cur1 m k t)) = U (cur1 m (k + 1) t) := by
  unfold cur1
  by_cases h : t = k / 4
  · subst h
    rw [if_pos rfl]
    have e1 : min 4 (k - 4 * (k / 4)) = k % 4 := by omega
    have e2 : min 4 (k + 1 - 4 * (k / 4)) = k % 4 + 1 := by omega
    have e3 : 4 * (k / 4) + k % 4 = k := by omega
    rw [e1, e2, pw, e3]
  · rw [if_neg h]
    have e : min 4 (k - 4 * t) = min 4 (k + 1 - 4 * t) := by omega
    rw [e]
/-- The words behind the first k. -/
def cur2 (m : Nat → BitVec 8) (k : Nat) (t : Nat) : BitVec 32 := if t < k then W m t else 0#32
theorem cur2_start (m : Nat → BitVec 8) (t : Nat) : cur1 m 64 t = cur2 m 16 t := by
  unfold cur1 cur2
  by_cases h : t < 16
  · rw [if_pos h, W_lo m t h]
    have e : min 4 (64 - 4 * t) = 4 := by omega
    rw [e]
  · rw [if_neg h]
    have e : min 4 (64 - 4 * t) = 0 := by omega
    rw [e]; rfl
theorem cur2_lt (m : Nat → BitVec 8) {k t : Nat} (h : t < k) : cur2 m k t = W m t := by unfold cur2; rw [if_pos h]
theorem cur2_succ (m : Nat → BitVec 8) (k : Nat) (hk : 16 ≤ k) (t : Nat) :
    (if t = k then U (s1 (cur2 m k (k - 2)) + cur2 m k (k - 7) + s0 (cur2 m k (k - 15)) + cur2 m k (k - 16)) else U (cur2 m k t)) = U (cur2 m (k + 1) t) := by
  by_cases h : t = k
  · subst h
    rw [if_pos rfl, cur2_lt m (by omega), cur2_lt m (by omega), cur2_lt m (by omega), cur2_lt m (by omega), cur2_lt m (by omega), W_hi m t hk]
  · rw [if_neg h]
    unfold cur2
    by_cases h1 : t < k
    · rw [if_pos h1, if_pos (by omega)]
    · rw [if_neg h1, if_neg (by omega)]
theorem und50 : Tryz.prog.underlying 111 = some (.array 64 93) := by kernel_rfl
theorem size50 : (Tryz.prog.info? 111).map (·.size) = some 64 := by kernel_rfl
set_option maxHeartbeats 400000 in
theorem schedule_any (b o : Nat) (m : Nat → BitVec 8) (w : World) (hm : ∀ j, j < 64 → w.cell? ⟨b, o + j, none⟩ = some (B (m j))) :
    Calls Tryz.prog 107 #[.pointer (some ⟨b, o, none⟩)] w fun e w' => e = .returned (.agg (tab 64 fun t => U (W m t))) ∧ Below w.heap.size w w' := by
  have hb : b < w.heap.size := World.block_lt_of_cell? w _ (hm 0 (by decide))
  go_enter Tryz.func107, Tryz.ntmps107
  go_wp2
  go_loopw [4, 6] (fun _ i wr => ∃ (k n : Nat), k ≤ 64 ∧ i = .int .i64 k ∧ wr = ((w.alloc (.cells (zw 64) 111)).alloc (.cells (tab 64 fun t => U (cur1 m k t)) 111)).drewN n) (fun _ i _ => 64 - (intOf i).toNat)
  case atStart => exact ⟨0, 0, by decide, rfl, rfl⟩
  case round =>
    obtain ⟨k, n, hk, rfl, rfl⟩ := hrel
    by_cases hlt : k < 64
    · have hmk := hm k hlt
      clear hm
      have hq : k / 4 < 64 := by omega
      have hq1 : (k : Int) / 4 < 64 := by omega
      have hq0 : 0 ≤ (k : Int) / 4 := by omega
      go_wp2
      refine wp_region_still_tail 15 (by kernel_rfl) (by kernel_rfl) ?_
      simp only [List.take_succ_cons, List.take_zero, List.drop_succ_cons, List.drop_zero, World.drew_eq]
      repeat (refine wpStill_step (fun K hK => ?_); go_simp; (try go_bits); refine hK _ ?_; clear hK K)
      try refine wpStill_nil ?_
      go_wp2
      go_roundw
      case rel =>
        refine ⟨k + 1, n + 1, by omega, by go_num, ?_⟩
        congr 3
        exact tab_congr fun t _ => cur1_succ m k t
      case measure => simp [intOf]; omega
    · have hd : decide ((k : Int) < 64) = false := decide_eq_false (by omega)
      clear hm
      go_wp2
      go_loopw [5] (fun i wr => ∃ (k n : Nat), 16 ≤ k ∧ k ≤ 64 ∧ i = .int .i64 k ∧ wr = ((w.alloc (.cells (zw 64) 111)).alloc (.cells (tab 64 fun t => U (cur2 m k t)) 111)).drewN n) (fun i _ => 64 - (intOf i).toNat)
      case atStart =>
        obtain rfl : k = 64 := by omega
        refine ⟨16, n, by decide, by decide, rfl, ?_⟩
        congr 3
        exact tab_congr fun t _ => congrArg U (cur2_start m t)
      case round =>
        clear hd hlt hk
        obtain ⟨k, n, hk0, hk, rfl, rfl⟩ := hrel
        by_cases hlt : k < 64
        · have g1 : (k : Int) - 2 < 64 := by omega
          have g2 : (k : Int) - 7 < 64 := by omega
          have g3 : (k : Int) - 15 < 64 := by omega
          have g4 : (k : Int) - 16 < 64 := by omega
          have g5 : (2 : Int) ≤ k := by omega
          have g6 : (7 : Int) ≤ k := by omega
          have g7 : (15 : Int) ≤ k := by omega
          have g8 : (16 : Int) ≤ k := by omega
          have f1 : k - 2 < 64 := by omega
          have f2 : k - 7 < 64 := by omega
          have f3 : k - 15 < 64 := by omega
          have f4 : k - 16 < 64 := by omega
          go_wp2
          refine wp_region_still_tail 23 (by kernel_rfl) (by kernel_rfl) ?_
          simp only [List.take_succ_cons, List.take_zero, List.drop_succ_cons, List.drop_zero, World.drew_eq]
          repeat (refine wpStill_step (fun K hK => ?_); go_simp; (try go_bits); first | refine hK _ ?_ | refine ⟨_, smallSigma1_any _ _, hK _ ?_⟩ | refine ⟨_, smallSigma0_any _ _, hK _ ?_⟩; clear hK K)
          refine wpStill_nil ?_
          go_wp2
          go_roundw
          case rel =>
            refine ⟨k + 1, n + 1, by omega, by omega, by go_num, ?_⟩
            congr 3
            exact tab_congr fun t _ => cur2_succ m k hk0 t
          case measure => simp [intOf]; omega
        · obtain rfl : k = 64 := by omega
          have hr : ∀ N, (((w.alloc (.cells (zw 64) 111)).alloc (.cells (tab 64 fun t => U (cur2 m 64 t)) 111)).drewN N).rangeAt (w.heap.size + 1) 0 (tab 64 fun t => U (cur2 m 64 t)).toList := by
            intro N j v hv
            simp only [World.cell?_drewN, Nat.zero_add]
            rw [World.cell?_alloc2_new]
            simpa using hv
          have ht : ∀ N, (((w.alloc (.cells (zw 64) 111)).alloc (.cells (tab 64 fun t => U (cur2 m 64 t)) 111)).drewN N).there w.heap.size 0 (tab 64 fun t => U (cur2 m 64 t)).size := by
            intro N j hj
            rw [tab_size] at hj
            simp only [World.cell?_drewN, World.frozen?_drewN, Nat.zero_add]
            rw [World.cell?_alloc2_first, World.frozen?_alloc2_first]
            simp [zw, tab_get _ _ _ hj]
          have hdk : decide (((64 : Nat) : Int) < 64) = false := rfl
          go_wp2_with (first | (refine wpList_load_mid rfl 111 (.tmp 3) rfl (w.heap.size + 1) 0 rfl (tab 64 fun t => U (cur2 m 64 t)).toList _ (hr _) und50 rfl (by rw [size50]; simp [tab_size]) ?_) | (refine wpList_store_mid rfl 111 (.tmp 2) (.tmp 52) rfl w.heap.size 0 (tab 64 fun t => U (cur2 m 64 t)) rfl (by simp [Act.put, Act.eval]) (ht _) (by rw [size50, tab_size]) (by simp [tab, one_U]) ?_))
          have hv : (tab 64 fun t => U (cur2 m 64 t)) = tab 64 fun t => U (W m t) := tab_congr fun t ht => by rw [cur2_lt m ht]
          have hl : (tab 64 fun t => U (cur2 m 64 t)).toList.length = 64 := by simp [tab]
          refine body_cell rfl rfl (World.rangeAt_setCells_same _ w.heap.size 0 (tab 64 fun t => U (cur2 m 64 t)).toList (by have := ht n; simpa using this)) und50 rfl (by rw [size50, hl]) rfl ⟨by rw [Array.toArray_toList, hv], ?_⟩
          exact below_setCells _ _ (below_drewN (((Below.refl _ _).alloc (Nat.le_refl _) _).alloc (by simp) _) _) (Nat.le_refl _)
end Go.Proofs.YtllpcllgliknpaaGreatDoor.Sha
