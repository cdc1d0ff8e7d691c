/- A new hash, its bytes, its sum. -/
import Derived.Test.YtllpcllgliknpaaGreatDoorShPad
set_option linter.unusedSimpArgs false
set_option maxRecDepth 100000
set_option linter.unusedVariables false
namespace Go.Proofs.YtllpcllgliknpaaGreatDoor.Sha
open Go Go.RowKit

/-- The table of the initial words lies where the program has it. -/
def Ft (w : World) : Prop := ∀ i, i < 8 → w.cell? ⟨0, i, none⟩ = some (U (H0.get i))
theorem Ft.of_below {w w' : World} (h : Ft w) (k : Below w.heap.size w w') : Ft w' := fun i hi => by
  have := h i hi
  rw [k.cell (World.block_lt_of_cell? w _ this)]; exact this
theorem Kt.of_below {w w' : World} (h : Kt w) (k : Below w.heap.size w w') : Kt w' := fun i hi => by
  have := h i hi
  rw [k.cell (World.block_lt_of_cell? w _ this)]; exact this

/-- A hash's zero value. -/
def z73 : Array Value := (List.replicate 8 (Value.int .u32 0) ++ List.replicate 64 (Value.int .u8 0) ++ [Value.int .i64 0]).toArray
theorem info43 : (Tryz.prog.info? 104).map (fun i => (i.zero, i.size)) = some (some (.agg z73), 73) := by kernel_rfl
theorem info46 : (Tryz.prog.info? 107).map (fun i => (i.zero, i.size)) = some (some (.agg z73), 73) := by kernel_rfl
theorem size43 : (Tryz.prog.info? 104).map (·.size) = some 73 := by kernel_rfl
theorem size46 : (Tryz.prog.info? 107).map (·.size) = some 73 := by kernel_rfl
theorem size38 : (Tryz.prog.info? 94).map (·.size) = some 8 := by kernel_rfl
theorem exec_alloc43 (r : Operand → Value) (dst : Option Tmp) (ty : TypeId) (pos : String) (after : Array Edge) (guard : Option (Nat × Bool)) (w : World) :
    (execOp r ⟨dst, .alloc 104, ty, pos, after, guard⟩).run Tryz.prog w = .ok (.value (.pointer (some ⟨w.heap.size, 0, none⟩))) (w.alloc (.cells z73 104)) := by
  have h := (zero_of_info info43).1 w
  simp [execOp, Instr.alloc, h, newVar, newRow, Value.cells]
theorem exec_alloc46 (r : Operand → Value) (dst : Option Tmp) (ty : TypeId) (pos : String) (after : Array Edge) (guard : Option (Nat × Bool)) (w : World) :
    (execOp r ⟨dst, .alloc 107, ty, pos, after, guard⟩).run Tryz.prog w = .ok (.value (.pointer (some ⟨w.heap.size, 0, none⟩))) (w.alloc (.cells z73 107)) := by
  have h := (zero_of_info info46).1 w
  simp [execOp, Instr.alloc, h, newVar, newRow, Value.cells]
theorem st73_one (H : Nat → BitVec 32) (m : Nat → BitVec 8) (n : Nat) : (tab 73 (stF H m n)).all (·.oneCell') = true := by
  apply Array.all_eq_true_iff_forall_mem.2
  intro v hv
  simp only [tab, List.mem_toArray, List.mem_map] at hv
  obtain ⟨i, _, rfl⟩ := hv
  unfold stF
  split
  · exact one_U _
  · split
    · exact one_B _
    · rfl
theorem run_storeAt_new' {P : Program} (w : World) (t e : TypeId) (c c' : Array Value) (hi : (P.info? t).map (·.size) = some c'.size) (ho : c.size = c'.size) (h1 : c'.all (·.oneCell') = true) :
    (Instr.storeAt t (.pointer (some ⟨w.heap.size, 0, none⟩)) (.agg c')).run P (w.alloc (.cells c e)) = .ok () (w.alloc (.cells c' e)) := by
  simp only [Instr.storeAt, Instr.sureAddr, Sem.run_bind, Sem.run_pure, Result.andThen]
  rw [run_storeVar_row _ _ e t c c' (heap_alloc_last w _) hi ho h1, World.setRow_alloc_new]
theorem st_new43 (w : World) (H : Nat → BitVec 32) (m : Nat → BitVec 8) (n : Nat) : (stT 104 (.pointer (some ⟨w.heap.size, 0, none⟩)) (.agg (tab 73 (stF H m n)))).run Tryz.prog (w.alloc (.cells z73 104)) = .ok .skip (w.alloc (.cells (tab 73 (stF H m n)) 104)) := by
  have h := run_storeAt_new' (P := Tryz.prog) w 104 104 z73 (tab 73 (stF H m n)) (by rw [size43, tab_size]) (by rw [tab_size]; rfl) (st73_one H m n)
  simp only [stT, Sem.run_bind, h, Result.andThen, Sem.run_pure]
theorem st_new46 (w : World) (H : Nat → BitVec 32) (m : Nat → BitVec 8) (n : Nat) : (stT 107 (.pointer (some ⟨w.heap.size, 0, none⟩)) (.agg (tab 73 (stF H m n)))).run Tryz.prog (w.alloc (.cells z73 107)) = .ok .skip (w.alloc (.cells (tab 73 (stF H m n)) 107)) := by
  have h := run_storeAt_new' (P := Tryz.prog) w 107 107 z73 (tab 73 (stF H m n)) (by rw [size46, tab_size]) (by rw [tab_size]; rfl) (st73_one H m n)
  simp only [stT, Sem.run_bind, h, Result.andThen, Sem.run_pure]
/-- The value of a new hash. -/
def newV : Value := .agg (tab 73 (stF H0.get (fun _ => 0#8) 0))
def h0V : Value := .agg ([U (H0.get 0), U (H0.get 1), U (H0.get 2), U (H0.get 3), U (H0.get 4), U (H0.get 5), U (H0.get 6), U (H0.get 7)]).toArray
theorem bd43 (w : World) : (bdT 104 #[(0, h0V)]).run Tryz.prog w = .ok (.value newV) w := by kernel_rfl
theorem bd46 (w : World) : (bdT 107 #[(0, newV)]).run Tryz.prog w = .ok (.value newV) w := by kernel_rfl
theorem rangeAt_new (w : World) (C : Array Value) (T : TypeId) : (w.alloc (.cells C T)).rangeAt w.heap.size 0 C.toList := by
  intro j v hv
  rw [Nat.zero_add, World.cell?_alloc_new]
  simpa using hv
theorem st_newV43 (w : World) : (stT 104 (.pointer (some ⟨w.heap.size, 0, none⟩)) newV).run Tryz.prog (w.alloc (.cells z73 104)) = .ok .skip (w.alloc (.cells (tab 73 (stF H0.get (fun _ => 0#8) 0)) 104)) := st_new43 w _ _ _
/-- A box, its operand reckoned first. -/
def bxT (t : TypeId) (x : Value) : Sem Next := do pure (.value (← Instr.box t x))
theorem exec_box (r : Operand → Value) (dst : Option Tmp) (t : TypeId) (x : Operand) (ty : TypeId) (pos : String) (after : Array Edge) (guard : Option (Nat × Bool)) :
    execOp r ⟨dst, .box t x, ty, pos, after, guard⟩ = bxT t (r x) := rfl
theorem bx46 (w : World) : (bxT 107 newV).run Tryz.prog w = .ok (.value (.pointer (some ⟨w.heap.size, 0, none⟩))) (w.alloc (.cells (tab 73 (stF H0.get (fun _ => 0#8) 0)) 107)) := rfl
attribute [local go_sem ↓] exec_alloc24 exec_alloc43 exec_alloc46 exec_build exec_box
attribute [local go_sem] bd43 bd46 st_newV43 bx46
set_option maxRecDepth 100000 in
set_option maxHeartbeats 1000000 in
theorem begin_any (w : World) (hF : Ft w) : Calls Tryz.prog 64 #[] w fun e w' => e = .returned newV ∧ Below w.heap.size w w' := by
  have hr : (w.alloc (.cells z73 104)).rangeAt 0 0 [U (H0.get 0), U (H0.get 1), U (H0.get 2), U (H0.get 3), U (H0.get 4), U (H0.get 5), U (H0.get 6), U (H0.get 7)] := by
    intro j v hv
    have hj : j < 8 := (List.getElem?_eq_some_iff.1 hv).1
    rw [Nat.zero_add, World.cell?_alloc_lt _ _ ⟨0, j, none⟩ (World.block_lt_of_cell? w ⟨0, 0, none⟩ (hF 0 (by decide))), hF j hj, ← hv]
    match j, hj with
    | 0, _ | 1, _ | 2, _ | 3, _ | 4, _ | 5, _ | 6, _ | 7, _ => rfl
  have HR := Lib.hid hr
  clear hr hF
  go_enter Tryz.func64, Tryz.ntmps64
  go_wp2_with (first | (refine wpList_load_mid rfl 94 (.global 0) rfl 0 0 rfl _ _ HR.out und38 rfl (by rw [size38]; rfl) ?_; change wpList _ _ _ _ (Act.put _ _ h0V) _))
  refine body_cell rfl rfl (rangeAt_new _ _ _) Tryz.underlying104 rfl (by rw [size43]; simp [tab]) rfl ⟨by rw [Array.toArray_toList]; rfl, (Below.refl _ _).alloc (Nat.le_refl _) _⟩
/-- What New gives: a hash of no bytes, in a block of its own. -/
def NewPost (w : World) (e : Ending) (w' : World) : Prop := ∃ b, e = .returned (.pointer (some ⟨b, 0, none⟩)) ∧ w.heap.size ≤ b ∧ Holds w' b 107 [] ∧ Below w.heap.size w w'
set_option maxRecDepth 100000 in
set_option maxHeartbeats 1000000 in
theorem new_any (w : World) (hF : Ft w) : Calls Tryz.prog 47 #[] w (NewPost w) := by
  have H := Lib.hid hF
  clear hF
  go_enter Tryz.func47, Tryz.ntmps47
  go_wp2_with (first | (go_at_call 64; refine (begin_any _ H.out).mono ?_; rintro e w1 ⟨rfl, hw⟩))
  go_ret
  exact ⟨w1.heap.size, rfl, hw.size, ⟨fun _ => 0#8, heap_alloc_last _ _, fun j hj => absurd hj (by simp)⟩, hw.trans ((Below.refl _ _).alloc hw.size _)⟩
/-- Slices of bytes lie where a slice of their number begins, none of it in block b. -/
def Sls (w : World) (b : Nat) (p : Option Addr) (ls : List (List (BitVec 8))) : Prop :=
  ∀ i, i < ls.length → ∃ c o q cap, p = some ⟨c, o, none⟩ ∧ c ≠ b ∧ w.cell? ⟨c, o + i, none⟩ = some (.slice q (ls.getD i []).length cap) ∧ Sl w q (ls.getD i []) ∧ (0 < (ls.getD i []).length → ∀ a, q = some a → a.block ≠ b)
theorem Sl.of_kp {w w' : World} {b : Nat} {q : Option Addr} {l : List (BitVec 8)} (h : Sl w q l) (k : Kp b w w') (hq : 0 < l.length → ∀ a, q = some a → a.block ≠ b) : Sl w' q l := fun j hj => by
  obtain ⟨c, o, rfl, hc⟩ := h j hj
  exact ⟨c, o, rfl, by rw [k.cell (World.block_lt_of_cell? w _ hc) (hq (by omega) ⟨c, o, none⟩ rfl)]; exact hc⟩
theorem Sl.of_below {w w' : World} {q : Option Addr} {l : List (BitVec 8)} (h : Sl w q l) (k : Below w.heap.size w w') : Sl w' q l := fun j hj => by
  obtain ⟨c, o, rfl, hc⟩ := h j hj
  exact ⟨c, o, rfl, by rw [k.cell (World.block_lt_of_cell? w _ hc)]; exact hc⟩
theorem Sls.of_below {w w' : World} {b : Nat} {p : Option Addr} {ls : List (List (BitVec 8))} (h : Sls w b p ls) (k : Below w.heap.size w w') : Sls w' b p ls := fun i hi => by
  obtain ⟨c, o, q, cap, rfl, hcb, hc, hs, hq⟩ := h i hi
  exact ⟨c, o, q, cap, rfl, hcb, by rw [k.cell (World.block_lt_of_cell? w _ hc)]; exact hc, hs.of_below k, hq⟩
theorem len_take {α : Type} (ls : List (List α)) (k : Nat) : (ls.take k).flatten.length ≤ ls.flatten.length := by
  conv => rhs; rw [← List.take_append_drop k ls, List.flatten_append, List.length_append]
  omega
theorem flat_take {α : Type} (ls : List (List α)) (k : Nat) (h : k < ls.length) : (ls.take (k + 1)).flatten = (ls.take k).flatten ++ ls.getD k [] := by
  rw [take_getD ls [] k h]; simp
set_option maxHeartbeats 1000000 in
theorem add_any (b : Nat) (T : TypeId) (l : List (BitVec 8)) (ls : List (List (BitVec 8))) (p : Option Addr) (cap : Nat) (w : World) (h : Holds w b T l) (hs : Sls w b p ls) (hk : Kt w) (hb : 1 < b)
    (hn : l.length + ls.flatten.length < 1000000000000000000) (hls : ls.length < 1000000000000000000) :
    Calls Tryz.prog 48 #[.pointer (some ⟨b, 0, none⟩), .slice p ls.length cap] w fun e w' => e = .returned (.tuple #[]) ∧ Holds w' b T (l ++ ls.flatten) ∧ Kp b w w' := by
  have H := Lib.hid h
  have HS := Lib.hid hs
  have HK := Lib.hid hk
  clear h hs hk
  go_enter Tryz.func48, Tryz.ntmps48
  go_wp2
  go_loopw [8] (fun i wr => ∃ k : Nat, k ≤ ls.length ∧ i = .int .i64 k ∧ Holds wr b T (l ++ (ls.take k).flatten) ∧ Kp b w wr) (fun i _ => ls.length - (intOf i).toNat)
  case atStart => exact ⟨0, Nat.zero_le _, rfl, by simpa using H.out, Kp.refl _ _⟩
  case round =>
    obtain ⟨k, hk, rfl, hH, hKp⟩ := hrel
    have HH := Lib.hid hH
    have HKp := Lib.hid hKp
    by_cases hlt : k < ls.length
    · obtain ⟨c, o, q, cap', rfl, hcb, hc, hsl, hq⟩ := HS.out k hlt
      have hx : wr.cell? ⟨c, o + k, none⟩ = some (.slice q (ls.getD k []).length cap') := by
        rw [hKp.cell (World.block_lt_of_cell? w _ hc) hcb]; exact hc
      have HT := Lib.hid (flat_take ls k hlt)
      have hlen : (l ++ (ls.take k).flatten).length + (ls.getD k []).length < 1000000000000000000 := by
        have h1 := len_take ls (k + 1)
        rw [flat_take ls k hlt, List.length_append] at h1
        rw [List.length_append]; omega
      have HL := Lib.hid hlen
      have HSL := Lib.hid (hsl.of_kp hKp hq)
      have HQ := Lib.hid hq
      clear hc hcb hH hKp hsl hq hlen
      generalize hpk : ls.getD k [] = pk at *
      clear hpk
      generalize hPL : pk.length = pl at *
      have HPL := Lib.hid hPL
      clear hPL
      go_wp2_with fail
      have e := HPL.out
      subst e
      refine (put_any b T _ pk q cap' _ HH.out HSL.out HQ.out (HK.out.of_kp HKp.out hb) hb HL.out).mono ?_
      rintro e w2 ⟨rfl, hH2, hK2⟩
      have F := Lib.hid (show Holds w2 b T (l ++ (ls.take (k + 1)).flatten) ∧ Kp b w w2 from ⟨by rw [HT.out, ← List.append_assoc]; exact hH2, HKp.out.trans hK2⟩)
      clear hH2 hK2
      go_wp2
      go_roundw
      case rel => exact ⟨k + 1, by omega, by go_num, F.out⟩
      case measure => simp [intOf]; omega
    · clear hH hKp
      go_wp2
      go_end0
      refine ⟨rfl, ?_, HKp.out⟩
      have := HH.out
      rwa [List.take_of_length_le (by omega)] at this
theorem range_blk {w : World} {b : Nat} {T : TypeId} {H : Nat → BitVec 32} {m : Nat → BitVec 8} {n : Nat} (h : Blk w b T H m n) : w.rangeAt b 0 (tab 73 (stF H m n)).toList := by
  intro j v hv
  rw [Nat.zero_add, cell_of_row w b j _ T (0, 0) h]
  simpa using hv
theorem there_of_heap {w : World} {b : Nat} {C : Array Value} {T : TypeId} (h : w.heap[b]? = some (.cells C T (0, 0))) : w.there b 0 C.size := by
  intro j hj
  rw [Nat.zero_add, cell_of_row w b j _ T (0, 0) h]
  refine ⟨by simp [hj], ?_⟩
  simp only [World.frozen?, h]
  simp
theorem st_at46 (w : World) (N : Nat) (H : Nat → BitVec 32) (m : Nat → BitVec 8) (n : Nat) (h : N = w.heap.size) : (stT 107 (.pointer (some ⟨N, 0, none⟩)) (.agg (tab 73 (stF H m n)))).run Tryz.prog (w.alloc (.cells z73 107)) = .ok .skip (w.alloc (.cells (tab 73 (stF H m n)) 107)) := by
  subst h; exact st_new46 w H m n
attribute [local go_sem] st_at46
set_option maxHeartbeats 1000000 in
theorem sum_any (b : Nat) (T : TypeId) (l : List (BitVec 8)) (w : World) (h : Holds w b T l) (hk : Kt w) (h1w : 1 < w.heap.size) (hn : l.length < 100000000000000000) :
    Calls Tryz.prog 49 #[.pointer (some ⟨b, 0, none⟩)] w fun e w' => e = .returned (dgV (dg l)) ∧ Below w.heap.size w w' := by
  obtain ⟨m, hB', hm⟩ := h
  have HB' := Lib.hid hB'
  have HM := Lib.hid hm
  have HK := Lib.hid hk
  have hbl := hB'.lt
  have HR := Lib.hid (range_blk (hB'.of_below ((Below.refl _ _).alloc (Nat.le_refl _) (.cells (zb 32) 72))))
  clear hB' hm hk
  have hH2 : Holds ((w.alloc (.cells (zb 32) 72)).alloc (.cells (tab 73 (stF (hB l (l.length / 64)).get m l.length)) 107)) (w.heap.size + 1) 107 l :=
    ⟨m, by have := heap_alloc_last (w.alloc (.cells (zb 32) 72)) (.cells (tab 73 (stF (hB l (l.length / 64)).get m l.length)) 107); rwa [World.size_alloc] at this, HM.out⟩
  have hz2 : ((w.alloc (.cells (zb 32) 72)).alloc (.cells (tab 73 (stF (hB l (l.length / 64)).get m l.length)) 107)).heap[w.heap.size]? = some (.cells (zb 32) 72 (0, 0)) := by
    rw [Below.heap_alloc _ _ _ (by simp)]; exact heap_alloc_last w _
  have hb2 : Below w.heap.size w ((w.alloc (.cells (zb 32) 72)).alloc (.cells (tab 73 (stF (hB l (l.length / 64)).get m l.length)) 107)) := ((Below.refl _ _).alloc (Nat.le_refl _) _).alloc (by simp) _
  have hs2 : ((w.alloc (.cells (zb 32) 72)).alloc (.cells (tab 73 (stF (hB l (l.length / 64)).get m l.length)) 107)).heap.size = w.heap.size + 2 := by simp
  have HH2 := Lib.hid hH2
  have HZ2 := Lib.hid hz2
  have HB2 := Lib.hid hb2
  have HS2 := Lib.hid hs2
  clear hH2 hz2 hb2 hs2
  go_enter Tryz.func49, Tryz.ntmps49
  go_wp2_with (first | (refine wpList_load_mid rfl 107 (.tmp 5) rfl b 0 rfl _ _ HR.out Tryz.underlying107 rfl (by rw [size46]; simp [tab]) ?_))
  generalize ((w.alloc (.cells (zb 32) 72)).alloc (.cells (tab 73 (stF (hB l (l.length / 64)).get m l.length)) 107)) = w2 at *
  refine (pad_any (w.heap.size + 1) 107 l w2 HH2.out (HK.out.of_below HB2.out) (by omega) hn).mono ?_
  rintro e w3 ⟨rfl, hH3, hK3⟩
  obtain ⟨m3, hB3, _⟩ := hH3
  have HB3 := Lib.hid hB3
  have HK3 := Lib.hid hK3
  clear hB3 hK3
  go_wp2_with fail
  refine (digest_any (w.heap.size + 1) 107 _ _ _ w3 HB3.out).mono ?_
  rintro e w4 ⟨rfl, hw4⟩
  have hz4 : w4.heap[w.heap.size]? = some (.cells (zb 32) 72 (0, 0)) := by
    have h1 := HK3.out.block w.heap.size (by rw [HS2.out]; omega) (by omega)
    rw [hw4.block w.heap.size (by have := HK3.out.size; rw [HS2.out] at this; omega), h1]; exact HZ2.out
  have hbb : Below w.heap.size w w4 := HB2.out.trans ((HK3.out.below (by omega) (by rw [HS2.out]; omega)).trans (hw4.mono (by have := HK3.out.size; rw [HS2.out] at this; omega)))
  have ht := there_of_heap hz4
  have HT := Lib.hid (show w4.there w.heap.size 0 (tab 32 fun i => B (dg l i)).size by have := ht; rw [zb, tab_size] at this; rw [tab_size]; exact this)
  have HBB := Lib.hid hbb
  clear hz4 hbb ht hw4
  go_wp2_with (refine wpList_store_mid rfl 72 (.tmp 2) (.tmp 10) rfl w.heap.size 0 (tab 32 fun i => B (dg l i)) rfl (by simp [Act.put, Act.eval]; rfl) HT.out (by rw [size24, tab_size]) (by simp [tab, one_B]) ?_)
  exact body_cell rfl rfl (World.rangeAt_setCells_same _ w.heap.size 0 (tab 32 fun i => B (dg l i)).toList (by have := HT.out; simpa using this)) und24 rfl (by rw [size24]; simp [tab]) rfl ⟨by rw [Array.toArray_toList]; rfl, below_setCells _ _ HBB.out (Nat.le_refl _)⟩
/-- Slices of bytes lie where a slice of their number begins. -/
def Sls0 (w : World) (p : Option Addr) (ls : List (List (BitVec 8))) : Prop :=
  ∀ i, i < ls.length → ∃ c o q cap, p = some ⟨c, o, none⟩ ∧ w.cell? ⟨c, o + i, none⟩ = some (.slice q (ls.getD i []).length cap) ∧ Sl w q (ls.getD i [])
theorem Sls0.of_below {w w' : World} {p : Option Addr} {ls : List (List (BitVec 8))} (h : Sls0 w p ls) (k : Below w.heap.size w w') : Sls0 w' p ls := fun i hi => by
  obtain ⟨c, o, q, cap, rfl, hc, hs⟩ := h i hi
  exact ⟨c, o, q, cap, rfl, by rw [k.cell (World.block_lt_of_cell? w _ hc)]; exact hc, hs.of_below k⟩
theorem Sls0.new {w : World} {p : Option Addr} {ls : List (List (BitVec 8))} (h : Sls0 w p ls) {b : Nat} (hb : w.heap.size ≤ b) : Sls w b p ls := fun i hi => by
  obtain ⟨c, o, q, cap, rfl, hc, hs⟩ := h i hi
  have := World.block_lt_of_cell? w _ hc
  refine ⟨c, o, q, cap, rfl, by intro e; subst e; exact absurd this (by simp; omega), hc, hs, fun h0 a ha => ?_⟩
  obtain ⟨c', o', e, hc'⟩ := hs 0 h0
  rw [ha] at e
  injection e with e
  subst e
  have := World.block_lt_of_cell? w _ hc'
  intro e
  simp at this
  simp at e
  omega
theorem Sls.keep {w w' : World} {b : Nat} {p : Option Addr} {ls : List (List (BitVec 8))} (h : Sls w b p ls) (k : Below w.heap.size w w') : Sls w' b p ls := h.of_below k
set_option maxHeartbeats 1000000 in
theorem shaSum_any (ls : List (List (BitVec 8))) (p : Option Addr) (cap : Nat) (w : World) (hs : Sls0 w p ls) (hF : Ft w) (hk : Kt w) (h1w : 1 < w.heap.size)
    (hn : ls.flatten.length < 100000000000000000) (hls : ls.length < 100000000000000000) :
    Calls Tryz.prog 31 #[.slice p ls.length cap] w fun e w' => e = .returned (dgV (dg ls.flatten)) ∧ Below w.heap.size w w' := by
  have HS := Lib.hid hs
  have HF := Lib.hid hF
  have HK := Lib.hid hk
  have hN : Below w.heap.size w (w.alloc (.cells (zb 32) 72)) := (Below.refl _ _).alloc (Nat.le_refl _) _
  have HN := Lib.hid hN
  have HZ := Lib.hid (heap_alloc_last w (.cells (zb 32) 72))
  have HL := Lib.hid (show (w.alloc (.cells (zb 32) 72)).heap.size = w.heap.size + 1 by simp)
  clear hs hF hk hN
  go_enter Tryz.func31, Tryz.ntmps31
  go_wp2_with fail
  generalize w.alloc (.cells (zb 32) 72) = w1 at *
  refine (new_any w1 (HF.out.of_below HN.out)).mono ?_
  rintro e w2 ⟨b, rfl, hb, hH, hB⟩
  have HH := Lib.hid hH
  have hs1 := HL.out
  have HS2 := Lib.hid (((HS.out.of_below HN.out).new hb).of_below hB)
  have HB2 := Lib.hid (HN.out.trans (hB.mono (by omega)))
  have HZ2 := Lib.hid (show w2.heap[w.heap.size]? = some (.cells (zb 32) 72 (0, 0)) by rw [hB.block _ (by omega)]; exact HZ.out)
  have hs2 := hB.size
  clear hH hB
  generalize hll : ls.length = n at *
  have HLL := Lib.hid hll
  clear hll
  go_wp2_with fail
  have e := HLL.out
  subst e
  refine (add_any b 107 [] ls p cap w2 HH.out HS2.out (HK.out.of_below HB2.out) (by omega) (by simpa using (by omega : ls.flatten.length < 1000000000000000000)) (by omega)).mono ?_
  rintro e w3 ⟨rfl, hH3, hK3⟩
  rw [List.nil_append] at hH3
  have HH3 := Lib.hid hH3
  have hs3 := hK3.size
  have HB3 := Lib.hid (HB2.out.trans (hK3.below (N := w.heap.size) (by omega) (by omega)))
  have HZ3 := Lib.hid (show w3.heap[w.heap.size]? = some (.cells (zb 32) 72 (0, 0)) by rw [hK3.block _ (by omega) (by omega)]; exact HZ2.out)
  clear hH3 hK3
  go_wp2_with fail
  refine (sum_any b 107 ls.flatten w3 HH3.out (HK.out.of_below HB3.out) (by omega) hn).mono ?_
  rintro e w4 ⟨rfl, hw4⟩
  have hz4 : w4.heap[w.heap.size]? = some (.cells (zb 32) 72 (0, 0)) := by rw [hw4.block _ (by omega)]; exact HZ3.out
  have ht := there_of_heap hz4
  have HT := Lib.hid (show w4.there w.heap.size 0 (tab 32 fun i => B (dg ls.flatten i)).size by have := ht; rw [zb, tab_size] at this; rw [tab_size]; exact this)
  have HBB := Lib.hid (HB3.out.trans (hw4.mono (by omega)))
  clear hz4 ht hw4
  go_wp2_with (refine wpList_store_mid rfl 72 (.tmp 2) (.tmp 9) rfl w.heap.size 0 (tab 32 fun i => B (dg ls.flatten i)) rfl (by simp [Act.put, Act.eval]; rfl) HT.out (by rw [size24, tab_size]) (by simp [tab, one_B]) ?_)
  exact body_cell rfl rfl (World.rangeAt_setCells_same _ w.heap.size 0 (tab 32 fun i => B (dg ls.flatten i)).toList (by have := HT.out; simpa using this)) und24 rfl (by rw [size24]; simp [tab]) rfl ⟨by rw [Array.toArray_toList]; rfl, below_setCells _ _ HBB.out (Nat.le_refl _)⟩
end Go.Proofs.YtllpcllgliknpaaGreatDoor.Sha
