/- Merged texts: ClsP6, ReadP6, RdrP6, FstP6, CopyM, CutP6, Mrg9, Bmp9, Mgl9, Awk9, Nbr9, Tak9, Rtk9, Enc9, Tke9, Enc10. -/
import Derived.Recover
import Derived.Laws.Pointers
import Derived.Test.YtfemgkamgokjcaaGreatDoorCode6
import Derived.Test.YtfemgkamgokjcaaGreatDoorCuts
import Derived.Lib.MinMax
import Derived.Lib.QuoteBits
import Derived.Test.YtfemgkamgokjcaaGreatDoorNextN6
import Derived.Deep.RegionLaw
import Derived.Test.YtfemgkamgokjcaaGreatDoorCopyB
import Derived.Test.YtfemgkamgokjcaaGreatDoorCmp9
import Derived.Deep.RegionHeld3
import Derived.Test.YtfemgkamgokjcaaGreatDoorNum6
import Derived.Test.YtfemgkamgokjcaaGreatDoorRcd10
import Derived.Test.YtfemgkamgokjcaaGreatDoorSha10
set_option linter.unusedSimpArgs false
set_option linter.unusedVariables false
/- What the program's Reader is in memory; 'close', with which a reading ends. -/
set_option maxRecDepth 100000
namespace Go.Proofs.YtfemgkamgokjcaaGreatDoor
open Go Go.RowKit
attribute [-go_sem] Sha.exec_store

theorem cell_off (w : World) (b i j : Nat) (v : Value) (h : i ≠ j) : (w.setCell ⟨b, i, none⟩ v).cell? ⟨b, j, none⟩ = w.cell? ⟨b, j, none⟩ := World.cell?_setCell_other _ _ _ _ (fun e => h (congrArg Addr.off e))
/-- The cells of the reader in block b: what is left, whether the reading goes on, why it was ended. -/
structure RdC (w : World) (b : Nat) (q : Option Addr) (n cap : Nat) (o : Bool) (c : Nat) : Prop where
  c0 : w.cell? ⟨b, 0, none⟩ = some (.slice q n cap)
  c1 : w.cell? ⟨b, 1, none⟩ = some (.bool o)
  c2 : w.cell? ⟨b, 2, none⟩ = some (.int .i64 (c : Int))
  f0 : w.frozen? ⟨b, 0, none⟩ = false
  f1 : w.frozen? ⟨b, 1, none⟩ = false
  f2 : w.frozen? ⟨b, 2, none⟩ = false
theorem RdC.same {w w' : World} {b : Nat} {q : Option Addr} {n cap : Nat} {o : Bool} {c : Nat} (h : RdC w b q n cap o c) (hb : w'.heap[b]? = w.heap[b]?) : RdC w' b q n cap o c :=
  ⟨by rw [World.cell?_of_block (w := w) hb]; exact h.c0, by rw [World.cell?_of_block (w := w) hb]; exact h.c1, by rw [World.cell?_of_block (w := w) hb]; exact h.c2,
   by rw [World.frozen?_of_block (w := w) hb]; exact h.f0, by rw [World.frozen?_of_block (w := w) hb]; exact h.f1, by rw [World.frozen?_of_block (w := w) hb]; exact h.f2⟩
/-- The reader at a has the bytes l left. -/
def RdP (p : Option Addr) (N : Nat) (w : World) (a : Addr) (l : List (BitVec 8)) : Prop := ∃ (b : Nat) (q : Option Addr) (cap : Nat), a = ⟨b, 0, none⟩ ∧ N ≤ b ∧ RdC w b q l.length cap true 0 ∧ Sl w q l ∧ (q = none → cap = 0) ∧ l.length ≤ cap ∧ l.length < 1000000 ∧ (0 < l.length → ∀ c o, q = some ⟨c, o, none⟩ → c < N ∧ ∃ o', p = some ⟨c, o', none⟩)
/-- What is thrown, and that the reader holds why. -/
def ThrP (a : Addr) (c : Nat) (w : World) (v : Value) : Prop := v = .iface 177 (.agg #[.pointer (some a)]) ∧ c ≠ 0 ∧ c < 15 ∧ ∃ (b : Nat) (q : Option Addr) (n cap : Nat), a = ⟨b, 0, none⟩ ∧ RdC w b q n cap true c
theorem ta_end (x : Value) (w : World) : (Instr.typeAssert (.iface 177 x) 20 177 true).run Tryz.prog w = .ok (.tuple #[x, .bool true]) w := by kernel_rfl
theorem pn_in (d : Nat) (a : Addr) (w : World) : (Op.equalIn (d + 1) 90 (.pointer (some a)) (.pointer (some a))).run Tryz.prog w = .ok true w := by
  have hu : Tryz.prog.underlying 90 = some (.pointer 145) := by kernel_rfl
  have hs : (Tryz.prog.info? 145).map (·.size) = some 3 := by kernel_rfl
  cases hq : Tryz.prog.info? 145 with
  | none => rw [hq] at hs; cases hs
  | some i =>
    rw [hq] at hs
    simp at hs
    simp [Op.equalIn, run_underlying hu, sizeOf, typeInfo, hq, hs, sameAddr]
/-- A reader is itself. -/
theorem pn_same (a : Addr) (w : World) : (binOp .neq 90 (.pointer (some a)) (.pointer (some a))).run Tryz.prog w = .ok (.bool false) w := by
  have h : (Op.equal 90 (.pointer (some a)) (.pointer (some a))).run Tryz.prog w = .ok true w := pn_in 9999 a w
  simp only [binOp]
  simp [h]
attribute [local go_sem ↓] ta_end pn_same
set_option maxHeartbeats 1000000 in
/-- The reading was ended. -/
theorem close_thrown (w : World) (b : Nat) (q : Option Addr) (n cap c : Nat) (h : RdC w b q n cap true c) (hc : c ≠ 0) (hc15 : c < 15) : Calls Tryz.prog 93 #[.pointer (some ⟨b, 0, none⟩), .iface 177 (.agg #[.pointer (some ⟨b, 0, none⟩)])] w fun e w' => e = .returned (.int .i64 (c : Int)) ∧ Kp b w w' := by
  obtain ⟨c0, c1, c2, f0, f1, f2⟩ := h
  have hblt := World.block_lt_of_cell? w _ c0
  have k2 : (((w.setCell ⟨b, 0, none⟩ (.slice none 0 0)).setCell ⟨b, 1, none⟩ (.bool false)).alloc (.cells #[.pointer (some ⟨b, 0, none⟩)] 177)).cell? ⟨b, 2, none⟩ = some (.int .i64 (c : Int)) := by
    rw [((Below.refl _ _).alloc (Nat.le_refl _) _).cell (by simpa using hblt), cell_off _ _ _ _ _ (by decide), cell_off _ _ _ _ _ (by decide)]; exact c2
  have hz : ((c : Int) == 0) = false := by simp; omega
  go_enter Tryz.func93, Tryz.ntmps93
  go_wp2
  go_ret
  exact ⟨rfl, (((Kp.refl b w).setCell 0 _).setCell 1 _).alloc _⟩
set_option maxHeartbeats 1000000 in
/-- The reading came to its end. -/
theorem close_idle (w : World) (b : Nat) (q : Option Addr) (n cap : Nat) (h : RdC w b q n cap true 0) : Calls Tryz.prog 93 #[.pointer (some ⟨b, 0, none⟩), .nilIface] w fun e w' => e = .returned (.int .i64 ((if n = 0 then 0 else 6 : Nat) : Int)) ∧ Kp b w w' := by
  obtain ⟨c0, c1, c2, f0, f1, f2⟩ := h
  have k2 : ((w.setCell ⟨b, 0, none⟩ (.slice none 0 0)).setCell ⟨b, 1, none⟩ (.bool false)).cell? ⟨b, 2, none⟩ = some (.int .i64 0) := by
    rw [cell_off _ _ _ _ _ (by decide), cell_off _ _ _ _ _ (by decide)]; exact c2
  by_cases h0 : n = 0
  · subst h0
    go_enter Tryz.func93, Tryz.ntmps93
    go_wp2
    go_ret
    exact ⟨rfl, ((Kp.refl b w).setCell 0 _).setCell 1 _⟩
  · have hRz : decide ((0 : Int) < (n : Int)) = true := decide_eq_true (by omega)
    have hRy : (0 : Int) < (n : Int) := by omega
    rw [if_neg h0]
    go_enter Tryz.func93, Tryz.ntmps93
    go_wp2
    go_ret
    exact ⟨rfl, ((Kp.refl b w).setCell 0 _).setCell 1 _⟩
end Go.Proofs.YtfemgkamgokjcaaGreatDoor
/- Read's deferred closure, which draws its order: what was thrown is recovered, and the reading closed. -/
set_option maxRecDepth 100000
namespace Go.Proofs.YtfemgkamgokjcaaGreatDoor
open Go Go.RowKit
attribute [-go_sem] Sha.exec_store

theorem go_step (md : Region.Mode) (ops : Array Oper) (f t : Nat) (L : Array Bool) (acc : List Nat) : Region.linearise.go md ops (f + 1) t L acc =
    match (Region.ready md ops L)[t % (Region.ready md ops L).length]? with
    | some i => Region.linearise.go md ops f (t / (Region.ready md ops L).length) (L.setIfInBounds i true) (i :: acc)
    | none => acc.reverse := rfl
theorem go_one (md : Region.Mode) (ops : Array Oper) (f t : Nat) (L : Array Bool) (acc : List Nat) (i : Nat) (h : Region.ready md ops L = [i]) : Region.linearise.go md ops (f + 1) t L acc = Region.linearise.go md ops f t (L.setIfInBounds i true) (i :: acc) := by
  rw [go_step, h]
  simp [Nat.mod_one]
/-- Four operations, of which the first two come in any order. -/
theorem order4 (ops : Array Oper) (hs : ops.size = 4) (h0 : Region.ready .any ops #[false, false, false, false] = [0, 1]) (h1 : Region.ready .any ops #[true, false, false, false] = [1]) (h2 : Region.ready .any ops #[false, true, false, false] = [0])
    (h3 : Region.ready .any ops #[true, true, false, false] = [2]) (h4 : Region.ready .any ops #[true, true, true, false] = [3]) (t : Nat) : Region.linearise .any ops t = [0, 1, 2, 3] ∨ Region.linearise .any ops t = [1, 0, 2, 3] := by
  unfold Region.linearise
  rw [hs, show Array.replicate 4 false = #[false, false, false, false] from rfl, go_step, h0]
  rcases Nat.mod_two_eq_zero_or_one t with e | e
  · left
    show (match [0, 1][t % 2]? with | some i => Region.linearise.go .any ops 3 (t / 2) (#[false, false, false, false].setIfInBounds i true) [i] | none => [].reverse) = _
    rw [e]
    show Region.linearise.go .any ops 3 (t / 2) #[true, false, false, false] [0] = _
    rw [go_one _ _ _ _ _ _ 1 h1]
    show Region.linearise.go .any ops 2 (t / 2) #[true, true, false, false] [1, 0] = _
    rw [go_one _ _ _ _ _ _ 2 h3]
    show Region.linearise.go .any ops 1 (t / 2) #[true, true, true, false] [2, 1, 0] = _
    rw [go_one _ _ _ _ _ _ 3 h4]
    rfl
  · right
    show (match [0, 1][t % 2]? with | some i => Region.linearise.go .any ops 3 (t / 2) (#[false, false, false, false].setIfInBounds i true) [i] | none => [].reverse) = _
    rw [e]
    show Region.linearise.go .any ops 3 (t / 2) #[false, true, false, false] [1] = _
    rw [go_one _ _ _ _ _ _ 0 h2]
    show Region.linearise.go .any ops 2 (t / 2) #[true, true, false, false] [0, 1] = _
    rw [go_one _ _ _ _ _ _ 2 h3]
    show Region.linearise.go .any ops 1 (t / 2) #[true, true, true, false] [2, 0, 1] = _
    rw [go_one _ _ _ _ _ _ 3 h4]
    rfl
theorem wpS_region4 {P : Program} {id : Nat} {ops : Array Oper} {Q : Exit → Act → List Frame → World → Prop} {a : Act} {cs : List Frame} {w : World} (hm : P.follows .mixedOrders = true) (hs : ops.size = 4) (h0 : Region.ready .any ops #[false, false, false, false] = [0, 1]) (h1 : Region.ready .any ops #[true, false, false, false] = [1]) (h2 : Region.ready .any ops #[false, true, false, false] = [0])
    (h3 : Region.ready .any ops #[true, true, false, false] = [2]) (h4 : Region.ready .any ops #[true, true, true, false] = [3]) (hA : wpOpsS P ops Q [0, 1, 2, 3] a cs w.drew) (hB : wpOpsS P ops Q [1, 0, 2, 3] a cs w.drew) : (Code.region id ops true).wpS P Q a cs w := by
  have h : ∀ t, wpOpsS P ops Q (Region.schedule (P.follows .mixedOrders) ops t) a cs w.drew := fun t => by
    simp only [Region.schedule, hm, Bool.true_or, if_true]
    rcases order4 ops hs h0 h1 h2 h3 h4 t with e | e
    · rw [e]; exact hA
    · rw [e]; exact hB
  intro b k hb hr
  obtain ⟨e, a', cs', w', q, r⟩ := wp_opsS _ a cs _ (h _) b k hb hr
  exact ⟨e, a', cs', w', q, .of_steps (.one step_region_draw) r⟩
set_option maxHeartbeats 400000 in
/-- The deferred closure where the reading was ended. -/
theorem catch_thrown (b : Nat) (q : Option Addr) (n cap c : Nat) (rb cb : Nat) (old : Value) (w : World) (h : RdC w b q n cap true c) (h0 : c ≠ 0) (h15 : c < 15) (hr : w.cell? ⟨rb, 0, none⟩ = some (.pointer (some ⟨b, 0, none⟩))) (hc : w.cell? ⟨cb, 0, none⟩ = some old) (hf : w.frozen? ⟨cb, 0, none⟩ = false) (hne : cb ≠ b) :
    CallsD Tryz.prog 92 #[.pointer (some ⟨rb, 0, none⟩), .pointer (some ⟨cb, 0, none⟩)] (.panicking [{ v := .iface 177 (.agg #[.pointer (some ⟨b, 0, none⟩)]), recovered := false }]) w fun e u' w' =>
      e = .returned (.tuple #[]) ∧ u' = .panicking [{ v := .iface 177 (.agg #[.pointer (some ⟨b, 0, none⟩)]), recovered := true }] ∧ ∃ w2, Kp b w w2 ∧ w' = w2.setCell ⟨cb, 0, none⟩ (.int .i64 (c : Int)) := by
  have hlt := World.block_lt_of_cell? w _ hc
  have HC := Lib.hid (close_thrown w.drew b q n cap c (h.same rfl) h0 h15)
  refine callsD_of_wpS Tryz.func92 rfl fun c₀ cs hu => ?_
  refine wpS_region4 (by kernel_rfl) rfl (by kernel_rfl) (by kernel_rfl) (by kernel_rfl) (by kernel_rfl) (by kernel_rfl) ?_ ?_
  · simp [wpOpsS, go_sem, recoverD, hu, hr, Tryz.ntmps92, Exit.thenS]
    refine HC.out.mono ?_
    rintro e w2 ⟨rfl, hK⟩
    have k1 : w2.cell? ⟨cb, 0, none⟩ = some old := by rw [hK.cell (by exact hlt) (by exact hne)]; exact hc
    have k2 : w2.frozen? ⟨cb, 0, none⟩ = false := by rw [hK.frozen (by exact hlt) (by exact hne)]; exact hf
    simp [go_sem, k1, k2, bodyPostS, results, Tryz.results92]
    exact ⟨w2, ((Kp.refl b w).drewN 1).trans hK, rfl⟩
  · simp [wpOpsS, go_sem, recoverD, hu, hr, Tryz.ntmps92, Exit.thenS]
    refine HC.out.mono ?_
    rintro e w2 ⟨rfl, hK⟩
    have k1 : w2.cell? ⟨cb, 0, none⟩ = some old := by rw [hK.cell (by exact hlt) (by exact hne)]; exact hc
    have k2 : w2.frozen? ⟨cb, 0, none⟩ = false := by rw [hK.frozen (by exact hlt) (by exact hne)]; exact hf
    simp [go_sem, k1, k2, bodyPostS, results, Tryz.results92]
    exact ⟨w2, ((Kp.refl b w).drewN 1).trans hK, rfl⟩
set_option maxHeartbeats 400000 in
/-- The deferred closure where the reading came to its end. -/
theorem catch_idle (b : Nat) (q : Option Addr) (n cap : Nat) (rb cb : Nat) (old : Value) (w : World) (h : RdC w b q n cap true 0) (hr : w.cell? ⟨rb, 0, none⟩ = some (.pointer (some ⟨b, 0, none⟩))) (hc : w.cell? ⟨cb, 0, none⟩ = some old) (hf : w.frozen? ⟨cb, 0, none⟩ = false) (hne : cb ≠ b) :
    CallsD Tryz.prog 92 #[.pointer (some ⟨rb, 0, none⟩), .pointer (some ⟨cb, 0, none⟩)] .returning w fun e u' w' =>
      e = .returned (.tuple #[]) ∧ u' = .returning ∧ ∃ w2, Kp b w w2 ∧ w' = w2.setCell ⟨cb, 0, none⟩ (.int .i64 ((if n = 0 then 0 else 6 : Nat) : Int)) := by
  have hlt := World.block_lt_of_cell? w _ hc
  have HC := Lib.hid (close_idle w.drew b q n cap (h.same rfl))
  refine callsD_of_wpS Tryz.func92 rfl fun c₀ cs hu => ?_
  refine wpS_region4 (by kernel_rfl) rfl (by kernel_rfl) (by kernel_rfl) (by kernel_rfl) (by kernel_rfl) (by kernel_rfl) ?_ ?_
  · simp [wpOpsS, go_sem, recoverD, hu, hr, Tryz.ntmps92, Exit.thenS]
    refine HC.out.mono ?_
    rintro e w2 ⟨rfl, hK⟩
    have k1 : w2.cell? ⟨cb, 0, none⟩ = some old := by rw [hK.cell (by exact hlt) (by exact hne)]; exact hc
    have k2 : w2.frozen? ⟨cb, 0, none⟩ = false := by rw [hK.frozen (by exact hlt) (by exact hne)]; exact hf
    simp [go_sem, k1, k2, bodyPostS, results, Tryz.results92]
    exact ⟨.returning, by cases c₀; simp_all, rfl, w2, ((Kp.refl b w).drewN 1).trans hK, rfl⟩
  · simp [wpOpsS, go_sem, recoverD, hu, hr, Tryz.ntmps92, Exit.thenS]
    refine HC.out.mono ?_
    rintro e w2 ⟨rfl, hK⟩
    have k1 : w2.cell? ⟨cb, 0, none⟩ = some old := by rw [hK.cell (by exact hlt) (by exact hne)]; exact hc
    have k2 : w2.frozen? ⟨cb, 0, none⟩ = false := by rw [hK.frozen (by exact hlt) (by exact hne)]; exact hf
    simp [go_sem, k1, k2, bodyPostS, results, Tryz.results92]
    exact ⟨.returning, by cases c₀; simp_all, rfl, w2, ((Kp.refl b w).drewN 1).trans hK, rfl⟩
theorem Sl.blk6 {w : World} {p : Option Addr} {l : List (BitVec 8)} (h : Sl w p l) (hl : 0 < l.length) : ∀ c o, p = some ⟨c, o, none⟩ → c < w.heap.size := fun c o e => by
  obtain ⟨c', o', e', hc⟩ := h 0 hl
  rw [e] at e'
  injection e' with e'
  injection e' with e1 e2
  subst e1
  exact World.block_lt_of_cell? w _ hc
theorem sl_full (q : Option Addr) (n cap : Nat) (w : World) (hn : n ≤ cap) : (slT 35 (.slice q n cap) none (some (.int .i64 (n : Int))) (some (.int .i64 (n : Int)))).run Tryz.prog w = .ok (.value (.slice q n n)) w := by
  have h1 := run_sliceAt_slice (P := Tryz.prog) w 35 (.slice q n cap) none (some (.int .i64 (n : Int))) (some (.int .i64 (n : Int))) und35
  rw [run_slice_hm (P := Tryz.prog) w 35 q n cap und35 .i64 .i64 (n : Int) (n : Int) (by omega) (by omega) (by omega), sizeB] at h1
  simp only [slT, Sem.run_bind, h1, Result.andThen_ok, Sem.run_pure]
  simp only [sliced, Int.toNat_natCast, Nat.zero_mul, Nat.sub_zero]
  have := cutA_zero q n
  unfold cutA at this
  rw [this]
attribute [local go_sem] mkFn sl_full
attribute [local go_sem ↓] exec_slice
set_option maxRecDepth 100000 in
set_option maxHeartbeats 4000000 in
theorem read_any (l : List (BitVec 8)) (p : Option Addr) (n cap g : Nat) (caps : Array Value) (w : World) (J : Nat → World → Prop) (hl : l.length = n) (hs : Sl w p l) (hp : p = none → cap = 0) (hnc : n ≤ cap) (hn : n < 1000000)
    (hent : ∀ args w, (callFunc g args).run Tryz.prog w = .ok (.enter g args) w) (hJ : ∀ c x y, J c x → Below w.heap.size x y → J c y)
    (hf : ∀ a w1, Below w.heap.size w w1 → RdP p w.heap.size w1 a l → Calls Tryz.prog g (#[.pointer (some a)] ++ caps) w1 fun e w2 => Loc w.heap.size a.block w1 w2 ∧ ((∃ rest, e = .returned (.tuple #[]) ∧ RdP p w.heap.size w2 a rest ∧ J (if rest = [] then 0 else 6) w2) ∨ (∃ code : Nat, Thrown (ThrP a) code e w2 ∧ J code w2))) :
    Calls Tryz.prog 48 #[.slice p n cap, .func (.func g) #[] caps] w fun e w' => ∃ code : Nat, e = .returned (.int .i64 (code : Int)) ∧ J code w' := by
  go_enter_defers Tryz.func48, Tryz.ntmps48
  have hB3 : Below w.heap.size w (((w.alloc (.cells #[.int .i64 0] 38)).alloc (.cells #[.slice p n n, .bool true, .int .i64 0] 145)).alloc (.cells #[.pointer (some ⟨w.heap.size + 1, 0, none⟩)] 90)) := (((Below.refl _ _).alloc (Nat.le_refl _) _).alloc (by simp [World.size_alloc]) _).alloc (by simp [World.size_alloc]; omega) _
  have hz3 : (((w.alloc (.cells #[.int .i64 0] 38)).alloc (.cells #[.slice p n n, .bool true, .int .i64 0] 145)).alloc (.cells #[.pointer (some ⟨w.heap.size + 1, 0, none⟩)] 90)).heap.size = w.heap.size + 1 + 1 + 1 := by simp [World.size_alloc]
  have c0 : (((w.alloc (.cells #[.int .i64 0] 38)).alloc (.cells #[.slice p n n, .bool true, .int .i64 0] 145)).alloc (.cells #[.pointer (some ⟨w.heap.size + 1, 0, none⟩)] 90)).cell? ⟨w.heap.size, 0, none⟩ = some (.int .i64 0) := by go_simp
  have d0 : (((w.alloc (.cells #[.int .i64 0] 38)).alloc (.cells #[.slice p n n, .bool true, .int .i64 0] 145)).alloc (.cells #[.pointer (some ⟨w.heap.size + 1, 0, none⟩)] 90)).frozen? ⟨w.heap.size, 0, none⟩ = false := by go_simp
  have hrd : RdC (((w.alloc (.cells #[.int .i64 0] 38)).alloc (.cells #[.slice p n n, .bool true, .int .i64 0] 145)).alloc (.cells #[.pointer (some ⟨w.heap.size + 1, 0, none⟩)] 90)) (w.heap.size + 1) p n n true 0 := ⟨by go_simp, by go_simp, by go_simp, by go_simp, by go_simp, by go_simp⟩
  have c2 : (((w.alloc (.cells #[.int .i64 0] 38)).alloc (.cells #[.slice p n n, .bool true, .int .i64 0] 145)).alloc (.cells #[.pointer (some ⟨w.heap.size + 1, 0, none⟩)] 90)).cell? ⟨w.heap.size + 1 + 1, 0, none⟩ = some (.pointer (some ⟨w.heap.size + 1, 0, none⟩)) := by go_simp
  have hnil : p = none → n = 0 := fun e => by
    rcases Nat.eq_zero_or_pos n with h | h
    · exact h
    · obtain ⟨c, o, e2, -⟩ := hs 0 (by omega)
      rw [e] at e2; cases e2
  have HRD := Lib.hid (show RdP p w.heap.size (((w.alloc (.cells #[.int .i64 0] 38)).alloc (.cells #[.slice p n n, .bool true, .int .i64 0] 145)).alloc (.cells #[.pointer (some ⟨w.heap.size + 1, 0, none⟩)] 90)) ⟨w.heap.size + 1, 0, none⟩ l from
    ⟨w.heap.size + 1, p, n, rfl, Nat.le_succ _, by rw [hl]; exact hrd, hs.of_below hB3, hnil, by omega, by omega, fun h c o e => ⟨hs.blk6 h c o e, o, e⟩⟩)
  have HF := Lib.hid (hf ⟨w.heap.size + 1, 0, none⟩ _ hB3 HRD.out)
  have HC := Lib.hid (And.intro c0 (And.intro d0 (And.intro c2 hz3)))
  have HJ := Lib.hid hJ
  have HB3 := Lib.hid hB3
  clear hf HRD c0 d0 c2 hz3 hJ hs hp hB3 hrd
  go_wp2_with fail
  refine HF.out.mono ?_
  clear HF
  generalize (((w.alloc (.cells #[.int .i64 0] 38)).alloc (.cells #[.slice p n n, .bool true, .int .i64 0] 145)).alloc (.cells #[.pointer (some ⟨w.heap.size + 1, 0, none⟩)] 90)) = W3 at *
  generalize hH : w.heap.size = H at *
  rintro e w2 ⟨hLo, h⟩
  have k0 : w2.cell? ⟨H, 0, none⟩ = some (.int .i64 0) := by rw [World.cell?_of_block (w := W3) (hLo.block H (Nat.le_refl _) (by rw [HC.out.2.2.2]; omega) (by show H ≠ H + 1; omega))]; exact HC.out.1
  have k1 : w2.frozen? ⟨H, 0, none⟩ = false := by rw [World.frozen?_of_block (w := W3) (hLo.block H (Nat.le_refl _) (by rw [HC.out.2.2.2]; omega) (by show H ≠ H + 1; omega))]; exact HC.out.2.1
  have k2 : w2.cell? ⟨H + 1 + 1, 0, none⟩ = some (.pointer (some ⟨H + 1, 0, none⟩)) := by rw [World.cell?_of_block (w := W3) (hLo.block (H + 1 + 1) (by omega) (by rw [HC.out.2.2.2]; omega) (by show H + 1 + 1 ≠ H + 1; omega))]; exact HC.out.2.2.1
  have hz2 : H + 1 + 1 + 1 ≤ w2.heap.size := by rw [← HC.out.2.2.2]; exact hLo.size
  have hlast : ∀ (c : Nat) (w4 : World), Kp (H + 1) w2 w4 → J c w2 → J c (w4.setCell ⟨H, 0, none⟩ (.int .i64 (c : Int))) ∧ (w4.setCell ⟨H, 0, none⟩ (.int .i64 (c : Int))).cell? ⟨H, 0, none⟩ = some (.int .i64 (c : Int)) := fun c w4 hK hj => by
    have hb := (hK.below (N := H) (by omega) (by omega)).setCell (show H ≤ (⟨H, 0, none⟩ : Addr).block from Nat.le_refl H) (.int .i64 (c : Int))
    refine ⟨HJ.out c _ _ hj hb, World.cell?_setCell_same _ _ _ (u := .int .i64 0) ?_⟩
    rw [hK.cell (by show H < _; omega) (by show H ≠ H + 1; omega)]; exact k0
  rcases h with ⟨rest, rfl, ⟨b, q2, cap2, hb, hNb, r1, -⟩, hJ2⟩ | ⟨code, ⟨v, ⟨rfl, hc0, hc15, b, q2, n2, cap2, hb, r1⟩, rfl⟩, hJ2⟩
  · injection hb with hb _ _
    subst hb
    have HR1 := Lib.hid r1
    have HJ2 := Lib.hid hJ2
    have HL := Lib.hid hlast
    have H2 := Lib.hid (And.intro k0 (And.intro k1 k2))
    clear r1 hJ2 hlast k0 k1 k2 hLo
    obtain ⟨x, hx⟩ : ∃ x : Nat, (if rest.length = 0 then 0 else 6) = x := ⟨_, rfl⟩
    have hx2 : (if rest = [] then 0 else 6 : Nat) = x := by rw [← hx]; cases rest <;> simp
    have hci := catch_idle (H + 1) q2 rest.length cap2 (H + 1 + 1) H _ w2 HR1.out H2.out.2.2 H2.out.1 H2.out.2.1 (by omega)
    rw [hx] at hci
    have HCI := Lib.hid hci
    rw [hx2] at HJ2
    clear hx hx2 hci
    go_wp2
    refine leaves_cons (f := 92) (args := #[.pointer (some ⟨H + 1 + 1, 0, none⟩), .pointer (some ⟨H, 0, none⟩)]) (by simp) (by simp [go_sem]) ?_
    refine HCI.out.mono ?_
    rintro e u' w'' ⟨rfl, rfl, w4, hK, rfl⟩
    obtain ⟨hj, kk⟩ := HL.out x w4 hK HJ2.out
    simp [Leaves, settle, results, Tryz.results48, go_sem, kk]
    exact ⟨x, rfl, hj⟩
  · injection hb with hb _ _
    subst hb
    dsimp only
    refine leaves_cons (f := 92) (args := #[.pointer (some ⟨H + 1 + 1, 0, none⟩), .pointer (some ⟨H, 0, none⟩)]) (by simp) (by simp [go_sem]) ?_
    refine (catch_thrown (H + 1) q2 n2 cap2 code (H + 1 + 1) H _ w2 r1 hc0 hc15 k2 k0 k1 (by omega)).mono ?_
    rintro e u' w'' ⟨rfl, rfl, w4, hK, rfl⟩
    obtain ⟨hj, kk⟩ := hlast code w4 hK hJ2
    simp [Leaves, settle, results, Tryz.results48, go_sem, kk]
    exact ⟨code, rfl, hj⟩
end Go.Proofs.YtfemgkamgokjcaaGreatDoor
/- The reader's small functions: what lies where, Left, cmp.Or of an error, Fail. -/
set_option maxRecDepth 100000
namespace Go.Proofs.YtfemgkamgokjcaaGreatDoor
open Go Go.RowKit
attribute [-go_sem] Sha.exec_store

theorem rdP_lie (p : Option Addr) (N : Nat) (w : World) (a : Addr) (l : List (BitVec 8)) (h : RdP p N w a l) : N ≤ a.block ∧ a.block < w.heap.size := by
  obtain ⟨b, q, cap, rfl, h1, h2, -⟩ := h
  exact ⟨h1, World.block_lt_of_cell? w _ h2.c0⟩
theorem rdP_stay (p : Option Addr) (N : Nat) (w w' : World) (a : Addr) (l : List (BitVec 8)) (h : RdP p N w a l) (hs : w.heap.size ≤ w'.heap.size) (hb : w'.heap[a.block]? = w.heap[a.block]?) (hp : ∀ c o, p = some ⟨c, o, none⟩ → c < N → w'.heap[c]? = w.heap[c]?) : RdP p N w' a l := by
  obtain ⟨b, q, cap, rfl, h1, h2, h4, h5, h6, h7, h8⟩ := h
  refine ⟨b, q, cap, rfl, h1, h2.same hb, fun j hj => ?_, h5, h6, h7, h8⟩
  obtain ⟨c, o, e, hx⟩ := h4 j hj
  obtain ⟨hc, o', e'⟩ := h8 (by omega) c o e
  exact ⟨c, o, e, by rw [World.cell?_of_block (w := w) (hp c o' e' hc)]; exact hx⟩
set_option maxHeartbeats 1000000 in
/-- cmp.Or of no reason so far, a reason that is told, and ErrForm. -/
theorem or_any (m c x : Nat) (w : World) (hx : (if c = 0 then 6 else c) = x) (h0 : w.cell? ⟨m, 0, none⟩ = some (.int .i64 0)) (h1 : w.cell? ⟨m, 1, none⟩ = some (.int .i64 (c : Int))) (h2 : w.cell? ⟨m, 2, none⟩ = some (.int .i64 6)) :
    Calls Tryz.prog 139 #[.slice (some ⟨m, 0, none⟩) 3 3] w fun e w' => e = .returned (.int .i64 (x : Int)) ∧ w = w' := by
  have HC := Lib.hid (And.intro h0 (And.intro h1 h2))
  clear h0 h1 h2
  go_enter Tryz.func139, Tryz.ntmps139
  go_wp2
  go_loopw [5, 8] (fun vv vi wr => (vi = .int .i64 0 ∨ vi = .int .i64 1 ∨ (vi = .int .i64 2 ∧ c = 0)) ∧ w = wr) (fun vv vi _ => 3 - (intOf vi).toNat)
  case atStart => exact ⟨.inl rfl, rfl⟩
  case round =>
    obtain ⟨hi, rfl⟩ := hrel
    obtain ⟨h0, h1, h2⟩ := HC.out
    rcases hi with rfl | rfl | ⟨rfl, hc⟩
    · clear h1 h2
      go_wp2
      exact ⟨⟨.inr (.inl rfl), trivial⟩, by decide⟩
    · clear h0 h2
      by_cases h : c = 0
      · subst h
        go_wp2
        exact ⟨⟨.inr (.inr ⟨rfl, trivial⟩), trivial⟩, by decide⟩
      · rw [if_neg h] at hx
        subst hx
        have hz : ((c : Int) == 0) = false := by simp; omega
        have hz2 : ((c : Int) != 0) = true := by simp; omega
        go_wp2
        go_ret
        exact ⟨rfl, rfl⟩
    · rw [if_pos hc] at hx
      subst hx
      clear hc
      go_wp2
      go_ret
      exact ⟨rfl, rfl⟩
set_option maxHeartbeats 1000000 in
theorem rdP_fail (p : Option Addr) (N : Nat) (w : World) (a : Addr) (l : List (BitVec 8)) (c : Nat) (h : RdP p N w a l) (hc : c < 15) : Calls Tryz.prog 112 #[.pointer (some a), .int .i64 (c : Int)] w fun e w' => Thrown (ThrP a) (if c = 0 then 6 else c) e w' ∧ Kp a.block w w' := by
  obtain ⟨b, q, cap, rfl, h1, h2, -⟩ := h
  obtain ⟨k0, k1, k2, f0, f1, f2⟩ := h2
  have hblt := World.block_lt_of_cell? w _ k0
  obtain ⟨V, hV⟩ : ∃ V, w.alloc (.cells #[.int .i64 0, .int .i64 (c : Int), .int .i64 6] 38) = V := ⟨_, rfl⟩
  have hB : Below w.heap.size w V := by rw [← hV]; exact (Below.refl _ _).alloc (Nat.le_refl _) _
  obtain ⟨x, hx⟩ : ∃ x : Nat, (if c = 0 then 6 else c) = x := ⟨_, rfl⟩
  have HO := Lib.hid (or_any w.heap.size c x V hx (by rw [← hV]; exact World.cell?_alloc_new _ _ _ _) (by rw [← hV]; exact World.cell?_alloc_new _ _ _ _) (by rw [← hV]; exact World.cell?_alloc_new _ _ _ _))
  have v2 : V.cell? ⟨b, 2, none⟩ = some (.int .i64 0) := by rw [hB.cell (by exact hblt)]; exact k2
  have g2 : V.frozen? ⟨b, 2, none⟩ = false := by rw [hB.frozen (by exact hblt)]; exact f2
  rw [hx]
  have hx15 : x ≠ 0 ∧ x < 15 := by subst hx; split <;> omega
  have HX := Lib.hid hx15
  have HK := Lib.hid (show RdC (V.setCell ⟨b, 2, none⟩ (.int .i64 (x : Int))) b q l.length cap true x ∧ Kp b w (V.setCell ⟨b, 2, none⟩ (.int .i64 (x : Int))) from
    ⟨⟨by rw [cell_off _ _ _ _ _ (by decide), hB.cell (by exact hblt)]; exact k0, by rw [cell_off _ _ _ _ _ (by decide), hB.cell (by exact hblt)]; exact k1, World.cell?_setCell_same _ _ _ v2,
      by rw [World.frozen?_setCell, hB.frozen (by exact hblt)]; exact f0, by rw [World.frozen?_setCell, hB.frozen (by exact hblt)]; exact f1, by rw [World.frozen?_setCell]; exact g2⟩,
     ((Kp.refl b w).of_below hB).setCell 2 _⟩)
  have hV2 := Lib.hid hV
  clear hx hx15 k0 f0 f1 f2 hB
  go_enter Tryz.func112, Tryz.ntmps112
  go_wp2_with fail
  refine HO.out.mono ?_
  rintro e w' ⟨rfl, rfl⟩
  clear hV HO
  go_wp2
  exact ⟨rfl, ⟨_, ⟨rfl, HX.out.1, HX.out.2, b, q, _, cap, rfl, HK.out.1⟩, rfl⟩, HK.out.2⟩
end Go.Proofs.YtfemgkamgokjcaaGreatDoor
/- The program's numbers, read: 'first'. -/
set_option maxRecDepth 100000
namespace Go.Proofs.YtfemgkamgokjcaaGreatDoor
open Go Go.RowKit
attribute [-go_sem] Sha.exec_store

/-- The number at the beginning, and the size of its encoding; 0 and 0 if there is none. -/
def num2 (l : List (BitVec 8)) : Nat × Nat := (num7 l).getD (0, 0)
def pairI (x : Nat × Nat) : Value := .tuple #[.int .i64 (x.1 : Int), .int .i64 (x.2 : Int)]
theorem num2_none {l : List (BitVec 8)} (h : num7 l = none) : num2 l = (0, 0) := by unfold num2; rw [h]; rfl
theorem num2_some {l : List (BitVec 8)} {x : Nat × Nat} (h : num7 l = some x) : num2 l = x := by unfold num2; rw [h]; rfl
/-- Groups that don't meet. -/
theorem or7 (acc t S : Nat) (h : acc < 2 ^ S) (hb : acc + t * 2 ^ S < 9223372036854775808) : bits .or .i64 (acc : Int) ((t * 2 ^ S : Nat) : Int) = ((acc + t * 2 ^ S : Nat) : Int) := by
  show IntKind.i64.wrap ((BitVec.ofInt 64 (acc : Int) ||| BitVec.ofInt 64 ((t * 2 ^ S : Nat) : Int)).toNat : Int) = _
  rw [BitVec.toNat_or, ofInt_u64 acc (by omega), ofInt_u64 (t * 2 ^ S) (by omega), Nat.or_comm, Nat.mul_comm, ← Nat.two_pow_add_eq_or_of_lt h, Nat.add_comm]
  exact Lib.wrap_i64_small _ (by rw [Nat.mul_comm]; exact hb)
attribute [local go_sem] sl_hi
attribute [local go_sem ↓] exec_slice
set_option maxRecDepth 100000 in
set_option maxHeartbeats 4000000 in
theorem first_any (l : List (BitVec 8)) (p : Option Addr) (n cap : Nat) (w : World) (hl : l.length = n) (hs : Sl w p l) (hnc : n ≤ cap) (hn : n < 1000000) : Calls Tryz.prog 111 #[.slice p n cap] w fun e w' => e = .returned (pairI (num2 l)) ∧ w = w' := by
  have HL := Lib.hid hl
  have HS := Lib.hid hs
  clear hl hs
  obtain ⟨m, hm⟩ : ∃ m : Nat, m = min n 9 := ⟨_, rfl⟩
  have hm1 : min (n : Int) 9 = (m : Int) := by omega
  have hmc : m ≤ cap := by omega
  have hm9 : m ≤ 9 := by omega
  have hmn : m ≤ n := by omega
  have HM := Lib.hid hm
  clear hm
  go_enter Tryz.func111, Tryz.ntmps111
  go_wp2
  go_loopw [2, 4, 5, 12] (fun va vi0 vx vi wr => ∃ (i acc : Nat), i ≤ m ∧ vi = .int .i64 i ∧ va = .int .i64 acc ∧ Mid7 l i acc ∧ w = wr) (fun va vi0 vx vi _ => 10 - (intOf vi).toNat)
  case atStart => exact ⟨0, 0, Nat.zero_le _, rfl, rfl, Mid7.zero l, rfl⟩
  case round =>
    obtain ⟨i, acc, him, rfl, rfl, hM, rfl⟩ := hrel
    by_cases hlt : i < m
    · have hltz : (i : Int) < (m : Int) := by omega
      have hld : decide ((i : Int) < (m : Int)) = true := decide_eq_true hltz
      obtain ⟨c0, o0, hpe, hx⟩ := HS.out i (by rw [HL.out]; omega)
      subst hpe
      have hl9 : i < l.length := by rw [HL.out]; omega
      have h9 : i < 9 := by omega
      have hP := pow_le8 (show i ≤ 8 by omega)
      have hacc := hM.lt
      have hcl := (l.getD i 0#8).isLt
      have HLAST := Lib.hid (fun a b => hM.last hl9 h9 a b)
      have HNEXT := Lib.hid (fun a => hM.next hl9 h9 a)
      have HVAIN := Lib.hid (fun a b => hM.vain hl9 h9 a b)
      rw [B_eq'] at hx
      obtain ⟨c, hc⟩ : ∃ c, (l.getD i 0#8).toNat = c := ⟨_, rfl⟩
      rw [hc] at hx hcl HLAST HNEXT HVAIN
      obtain ⟨t, ht⟩ : ∃ t, t = c % 128 := ⟨_, rfl⟩
      have htb : t ≤ 127 := by omega
      rw [← ht] at HNEXT
      obtain ⟨S, hS⟩ : ∃ S, 7 * i = S := ⟨_, rfl⟩
      have hPS : 128 ^ i = 2 ^ S := by rw [← hS, Nat.pow_mul]
      have hO := or7 acc t S (by rw [← hPS]; exact hacc) (by rw [← hPS]; exact sum7 hacc htb hP)
      rw [hPS] at hacc hP HNEXT HLAST
      have hsum := sum7 hacc htb hP
      have t1 : (c : Int) % 128 = (t : Int) := by clear hO; omega
      have t2 : (c : Int).tmod 128 = (t : Int) := by rw [Int.tmod_eq_emod_of_nonneg (by clear hO; omega)]; exact t1
      have t3 : IntKind.u8.wrap (t : Int) = (t : Int) := by rw [IntKind.wrap_u8']; clear hO; omega
      have t4 : IntKind.i64.wrap (t : Int) = (t : Int) := i64w _ (by clear hO t1 t2; omega) (by clear hO t1 t2; omega)
      have s1 : 7 * (i : Int) = (S : Int) := by clear hO t1 t2; omega
      have s2 : wrap64 (S : Int) = (S : Int) := w64 _ (by clear hO t1 t2; omega) (by clear hO t1 t2; omega)
      have s3 : (S : Int) ≤ 64 := by clear hO t1 t2; omega
      have s4 : (0 : Int) ≤ (S : Int) := by clear hO t1 t2; omega
      have s5 : IntKind.i64.wrap (S : Int) = (S : Int) := i64w _ (by clear hO t1 t2; omega) (by clear hO t1 t2; omega)
      obtain ⟨Q, hQ⟩ : ∃ Q, 2 ^ S = Q := ⟨_, rfl⟩
      have s6 : (2 : Int) ^ S = (Q : Int) := by rw [← hQ]; simp
      rw [hQ] at hO hacc hP HNEXT HLAST hsum
      obtain ⟨M, hMM⟩ : ∃ M, t * Q = M := ⟨_, rfl⟩
      rw [hMM] at hsum hO HNEXT
      have m1 : (t : Int) * (Q : Int) = (M : Int) := by rw [← hMM]; simp
      have m2 : IntKind.i64.wrap (M : Int) = (M : Int) := i64n _ (Nat.lt_of_le_of_lt (Nat.le_add_left _ _) hsum)
      have m3 : wrap64 (M : Int) = (M : Int) := w64n _ (Nat.lt_of_le_of_lt (Nat.le_add_left _ _) hsum)
      clear hM hPS hQ hS
      obtain ⟨A2, hA2⟩ : ∃ A2, acc + M = A2 := ⟨_, rfl⟩
      rw [hA2] at hO HNEXT hsum
      have i1 : IntKind.i64.wrap ((i : Int) + 1) = (i : Int) + 1 := i64w _ (by clear t1 t2 m1 m2 m3 hO s6; omega) (by clear t1 t2 m1 m2 m3 hO s6; omega)
      by_cases hc1 : c < 128
      · have hc1z : ¬ (128 : Int) ≤ (c : Int) := by clear t1 t2 m1 m2 m3 hO s6; omega
        have hc1d : decide ((128 : Int) ≤ (c : Int)) = false := decide_eq_false hc1z
        obtain rfl : t = c := by rw [ht]; exact Nat.mod_eq_of_lt hc1
        rw [hMM, hA2] at HLAST
        clear HNEXT hMM hP hacc ht hA2
        by_cases hz : t = 0
        · have hz0 : ((t : Int) == 0) = true := by rw [hz]; rfl
          by_cases hi0 : 0 < i
          · have hT := Lib.hid (num2_none (HVAIN.out hi0 hz))
            have v1z : (0 : Int) < (i : Int) := by clear t1 t2 m1 m2 m3 hO s6; omega
            have v1d : decide ((0 : Int) < (i : Int)) = true := decide_eq_true v1z
            clear HVAIN HLAST hc hz
            go_wp2
            go_ret2
            exact ⟨by rw [hT.out]; rfl, rfl⟩
          · have hT := Lib.hid (num2_some (HLAST.out hc1 (.inl (by clear t1 t2 m1 m2 m3 hO s6; omega))))
            have v1z : ¬ (0 : Int) < (i : Int) := by clear t1 t2 m1 m2 m3 hO s6; omega
            have v1d : decide ((0 : Int) < (i : Int)) = false := decide_eq_false v1z
            clear HVAIN HLAST hc hz
            go_wp2
            go_ret2
            exact ⟨by rw [hT.out]; unfold pairI; simp, rfl⟩
        · have hz0 : ((t : Int) == 0) = false := by simp; exact hz
          have hT := Lib.hid (num2_some (HLAST.out hc1 (.inr hz)))
          clear HVAIN HLAST hc hz
          go_wp2
          go_ret2
          exact ⟨by rw [hT.out]; unfold pairI; simp, rfl⟩
      · have hc1z : (128 : Int) ≤ (c : Int) := by clear t1 t2 m1 m2 m3 hO s6; omega
        have hc1d : decide ((128 : Int) ≤ (c : Int)) = true := decide_eq_true hc1z
        have HN := Lib.hid (HNEXT.out (by clear t1 t2 m1 m2 m3 hO s6; omega))
        clear HLAST HNEXT HVAIN hMM hP hacc ht hc
        go_wp2
        exact ⟨⟨i + 1, A2, by clear t1 t2 m1 m2 m3 hO s6; omega, by go_num, by go_num, HN.out, trivial⟩, by clear t1 t2 m1 m2 m3 hO s6; simp [intOf]; omega⟩
    · have hltz : ¬ (i : Int) < (m : Int) := by omega
      have hld : decide ((i : Int) < (m : Int)) = false := decide_eq_false hltz
      have hT := Lib.hid (num2_none (show num7 l = none from by
        by_cases h : n ≤ 9
        · exact hM.short (by rw [HL.out]; have := HM.out; omega)
        · obtain rfl : i = 9 := by have := HM.out; omega
          exact hM.long))
      clear hM
      go_wp2
      go_ret2
      exact ⟨by rw [hT.out]; rfl, rfl⟩
end Go.Proofs.YtfemgkamgokjcaaGreatDoor
/- copy of bytes into a row of the call's own: as many as the shorter one has. -/
set_option maxRecDepth 100000
namespace Go.Proofs.YtfemgkamgokjcaaGreatDoor
open Go Go.RowKit
attribute [-go_sem] Sha.exec_store

/-- A cut of bytes from any number of them on. -/
theorem slb_lo (q : Option Addr) (n cap k : Nat) (w : World) (hk : k ≤ n) :
    (slT 35 (.slice q n cap) (some (.int .i64 (k : Int))) none none).run Tryz.prog w = .ok (.value (.slice (cutA q cap k) (n - k) (cap - k))) w := by
  have h1 := run_sliceAt_slice (P := Tryz.prog) w 35 (.slice q n cap) (some (.int .i64 (k : Int))) none none und35
  rw [run_slice_l (P := Tryz.prog) w 35 q n cap und35 .i64 (k : Int) (by omega) (by omega), sizeB] at h1
  simp only [slT, Sem.run_bind, h1, Result.andThen_ok, Sem.run_pure]
  simp only [sliced, Int.toNat_natCast, Nat.mul_one, cutA]
/-- What the copy leaves. -/
def copied1 (l : List (BitVec 8)) (t : Nat) (g : Nat → Value) : Nat → Value := fun j => if j < t then B (l.getD j 0#8) else g j
theorem run_copyM (w : World) (ty : TypeId) (E m c : Nat) (g : Nat → Value) (q : Option Addr) (n c' : Nat) (l : List (BitVec 8)) (hR : Row w E 5 m g) (hl : l.length = n) (hsl : Sl w q l) (t : Nat) (ht : t = min m n) :
    ∃ w', (Builtin.copy_ #[35, 35] ty #[.slice (some ⟨E, 0, none⟩) m c, .slice q n c']).run Tryz.prog w = .ok (.int .i64 (t : Int)) w' ∧ Row w' E 5 m (copied1 l t g) ∧ Kp E w w' := by
  by_cases h0 : t = 0
  · subst h0
    have hn : Nat.min n m = 0 := by show min n m = 0; omega
    refine ⟨w, ?_, hR.congr fun j _ => by rw [copied1, if_neg (by omega)], Kp.refl _ _⟩
    have := run_copy_none (P := Tryz.prog) w 35 35 ty 5 (some ⟨E, 0, none⟩) q m c n c' und35 (by kernel_rfl) hn
    rw [this]
    rfl
  · obtain ⟨c0, o0, rfl, hc⟩ := hsl 0 (by omega)
    have hlen : ((l.take t).map B).length = t := by rw [List.length_map, List.length_take]; omega
    have key := run_copy_row (P := Tryz.prog) w 35 35 ty 5 E 0 m c ⟨c0, o0, none⟩ n c' (tab m g) 5 ((l.take t).map B) und35 (by kernel_rfl) hR (by rw [hlen, ht]; exact Nat.min_comm _ _)
      (fun j v hv => by
        have hj : j < t := by
          have := (List.getElem?_eq_some_iff.1 hv).1
          rw [hlen] at this; exact this
        refine hsl.news j v ?_
        rw [List.getElem?_map] at hv ⊢
        rw [List.getElem?_take, if_pos hj] at hv
        exact hv) (by rw [tab_size, hlen]; omega) (one_map _)
    have e : ((tab m g).toList.take 0 ++ (l.take t).map B ++ (tab m g).toList.drop (0 + ((l.take t).map B).length)).toArray = tab m (copied1 l t g) := by
      have := tab_splice m t g (l.take t) (by rw [List.length_take]; omega) (by omega)
      rw [List.append_assoc, this]
      refine tab_congr fun j _ => ?_
      unfold copied1
      by_cases hj : j < t
      · rw [if_pos hj, if_pos hj]; congr 1; simp [List.getD_eq_getElem?_getD, hj]
      · rw [if_neg hj, if_neg hj]
    rw [e, hlen] at key
    exact ⟨_, key, setRow_heap w E _ _ 5 _ hR, ⟨rfl, rfl, rfl, by simp [World.setRow], fun k _ hk => setRow_other w E k _ hk⟩⟩
section
variable {ops : Array Oper} {rest : List Oper} {o : Oper} {a : Act} {Q : Exit → Act → World → Prop} (w : World) (hgd : o.guard = none) (d s : Operand)
    (ho : o.op = .call { callee := .builtin .copy, args := #[d, s], argTypes := #[35, 35] }) (E m c : Nat) (g : Nat → Value) (q : Option Addr) (n c' : Nat) (l : List (BitVec 8))
    (hd : a.eval d = .slice (some ⟨E, 0, none⟩) m c) (hs : a.eval s = .slice q n c') (hR : Row w E 5 m g) (hl : l.length = n) (hsl : Sl w q l) (t : Nat) (ht : t = min m n)
include hgd ho hd hs hR hl hsl ht
theorem wpl_copyM (h : ∀ w', Row w' E 5 m (copied1 l t g) → Kp E w w' → wpList Tryz.prog ops Q rest (a.put o.dst (.int .i64 (t : Int))) w') : wpList Tryz.prog ops Q (o :: rest) a w := by
  refine wpList_plain hgd fun K hK => ?_
  obtain ⟨w', hr, h2, h3⟩ := run_copyM w o.type E m c g q n c' l hR hl hsl t ht
  unfold Oper.wp execOp
  simp only [ho, resolve, invoke, builtin, Sem.run_bind, Sem.run_pure, Result.andThen_ok, List.map_toArray, List.map_cons, List.map_nil, hd, hs, hr]
  exact hK _ _ (h w' h2 h3)
theorem step_copyM {K : Act → World → Prop} {Q : Exit → Act → World → Prop} {F : Prop} (h : ∀ w', Row w' E 5 m (copied1 l t g) → Kp E w w' → K (a.put o.dst (.int .i64 (t : Int))) w') :
    if Region.wanted o (yielded ops a.tmps) = true then Oper.wp Tryz.prog o a w K Q else F := by
  have hw : Region.wanted o (yielded ops a.tmps) = true := by simp [Region.wanted, hgd]
  rw [if_pos hw]
  obtain ⟨w', hr, h2, h3⟩ := run_copyM w o.type E m c g q n c' l hR hl hsl t ht
  unfold Oper.wp execOp
  simp only [ho, resolve, invoke, builtin, Sem.run_bind, Sem.run_pure, Result.andThen_ok, List.map_toArray, List.map_cons, List.map_nil, hd, hs, hr]
  exact h w' h2 h3
end
end Go.Proofs.YtfemgkamgokjcaaGreatDoor
/- The reader's next bytes and numbers. -/
set_option maxRecDepth 100000
namespace Go.Proofs.YtfemgkamgokjcaaGreatDoor
open Go Go.RowKit
attribute [-go_sem] Sha.exec_store

theorem sl_hm (q : Option Addr) (n cap k : Nat) (w : World) (hk : k ≤ cap) : (slT 35 (.slice q n cap) none (some (.int .i64 (k : Int))) (some (.int .i64 (k : Int)))).run Tryz.prog w = .ok (.value (.slice q k k)) w := by
  have h1 := run_sliceAt_slice (P := Tryz.prog) w 35 (.slice q n cap) none (some (.int .i64 (k : Int))) (some (.int .i64 (k : Int))) und35
  rw [run_slice_hm (P := Tryz.prog) w 35 q n cap und35 .i64 .i64 (k : Int) (k : Int) (by omega) (by omega) (by omega), sizeB] at h1
  simp only [slT, Sem.run_bind, h1, Result.andThen_ok, Sem.run_pure]
  simp only [sliced, Int.toNat_natCast, Nat.zero_mul, Nat.sub_zero]
  have := cutA_zero q k
  unfold cutA at this
  rw [this]
attribute [local go_sem] sl_hm slb_lo
attribute [local go_sem ↓] exec_slice
set_option maxRecDepth 100000 in
set_option maxHeartbeats 1000000 in
/-- The next n bytes, or the end of the reading. -/
theorem cut_any (p : Option Addr) (N : Nat) (w : World) (a : Addr) (l : List (BitVec 8)) (n : Nat) (h : RdP p N w a l) : Calls Tryz.prog 98 #[.pointer (some a), .int .i64 (n : Int)] w fun e w' => Kp a.block w w' ∧ ((n ≤ l.length ∧ (∃ q : Option Addr, e = .returned (.slice q n n) ∧ Sl w' q (l.take n) ∧ (q = none → n = 0) ∧ (0 < n → ∀ c o, q = some ⟨c, o, none⟩ → c < N)) ∧ RdP p N w' a (l.drop n)) ∨ (l.length < n ∧ Thrown (ThrP a) 6 e w')) := by
  have HR := Lib.hid h
  obtain ⟨b, q, cap, rfl, h1, hc, h4, h5, h6, h7, h8⟩ := h
  obtain ⟨L, hL⟩ : ∃ L, l.length = L := ⟨_, rfl⟩
  rw [hL] at hc h6 h7 h8 ⊢
  have HL := Lib.hid hL
  have HS := Lib.hid h4
  have H5 := Lib.hid h5
  have H8 := Lib.hid h8
  have HC := Lib.hid hc
  obtain ⟨k0, k1, k2, f0, f1, f2⟩ := hc
  have hblt := World.block_lt_of_cell? w _ k0
  clear h4 h5 h8 hL k1 f1 f2
  by_cases hlt : L < n
  · have hz : decide ((L : Int) < (n : Int)) = true := decide_eq_true (by omega)
    have hz2 : (L : Int) < (n : Int) := by omega
    have HF := Lib.hid (rdP_fail p N w ⟨b, 0, none⟩ l 6 HR.out (by decide))
    clear f0
    go_enter Tryz.func98, Tryz.ntmps98
    go_wp2_with fail
    refine HF.out.mono ?_
    rintro e w' ⟨⟨v, hv, rfl⟩, hK⟩
    exact ⟨rfl, hK, .inr ⟨hlt, v, hv, rfl⟩⟩
  · have hz : decide ((L : Int) < (n : Int)) = false := decide_eq_false (by omega)
    have hz2 : ¬ (L : Int) < (n : Int) := by omega
    have hnL : n ≤ L := by omega
    have hnc : n ≤ cap := by omega
    have k2z : w.cell? ⟨b, 2, none⟩ = some (.int .i64 0) := k2
    clear k2
    go_enter Tryz.func98, Tryz.ntmps98
    go_wp2
    go_ret
    have hfar : 0 < l.length → ∀ c o, q = some ⟨c, o, none⟩ → c ≠ b := fun hl c o e => by have := (H8.out (by rw [← HL.out]; exact hl) c o e).1; omega
    have hsl : Sl (w.setCell ⟨b, 0, none⟩ (.slice (cutA q cap n) (L - n) (cap - n))) q l := fun j hj => by
      obtain ⟨c, o, e, hx⟩ := HS.out j hj
      exact ⟨c, o, e, by rw [World.cell?_setCell_far _ _ _ _ (show b ≠ c from Ne.symm (hfar (by omega) c o e))]; exact hx⟩
    refine ⟨(Kp.refl b w).setCell 0 _, ⟨q, rfl, hsl.take n, fun e => by have := H5.out e; omega, fun hn c o e => (H8.out (by omega) c o e).1⟩, b, cutA q cap n, cap - n, rfl, h1,
      ⟨?_, ?_, ?_, ?_, ?_, ?_⟩, hsl.drop (by rw [HL.out]; exact h6) n, fun e => cutA_none H5.out e, ?_, ?_, fun hl c o e => ?_⟩
    · rw [List.length_drop, HL.out]; exact World.cell?_setCell_same _ _ _ k0
    · rw [cell_off _ _ _ _ _ (by decide)]; exact HC.out.c1
    · rw [cell_off _ _ _ _ _ (by decide)]; exact HC.out.c2
    · rw [World.frozen?_setCell]; exact HC.out.f0
    · rw [World.frozen?_setCell]; exact HC.out.f1
    · rw [World.frozen?_setCell]; exact HC.out.f2
    · rw [List.length_drop, HL.out]; omega
    · rw [List.length_drop, HL.out]; omega
    · rw [List.length_drop, HL.out] at hl
      have hcn : ¬ cap = n := by omega
      unfold cutA at e
      rw [if_neg hcn] at e
      obtain ⟨c0, o0, e0, -⟩ := HS.out 0 (by rw [HL.out]; omega)
      rw [e0] at e
      have e3 : (some (Addr.add ⟨c0, o0, none⟩ n) : Option Addr) = some ⟨c, o, none⟩ := e
      rw [Addr.add_mid] at e3
      injection e3 with e3
      injection e3 with e4 e5
      subst e4
      exact H8.out (by omega) c0 o0 e0
set_option maxHeartbeats 1000000 in
theorem rdP_number (p : Option Addr) (N : Nat) (w : World) (a : Addr) (l : List (BitVec 8)) (most : Int) (h : RdP p N w a l) : Calls Tryz.prog 68 #[.pointer (some a), .int .i64 most] w (RdPost RdP ThrP p N w a l (takeI l most).2.2 (takeI l most).2.1 fun v _ => v = .int .i64 ((takeI l most).1 : Int)) := by
  have HR := Lib.hid h
  have HF := Lib.hid (fun c => rdP_fail p N w a l c HR.out)
  have HC := Lib.hid (fun n => cut_any p N w a l n HR.out)
  obtain ⟨b, q, cap, rfl, h1, hc, h4, h5, h6, h7, h8⟩ := h
  have HFI := Lib.hid (first_any l q l.length cap w rfl h4 h6 h7)
  have k0 := hc.c0
  clear h8 h4 h5 h6 h7 hc h1
  obtain ⟨L, hL⟩ : ∃ L, l.length = L := ⟨_, rfl⟩
  rw [hL] at k0 HFI
  cases e7 : num7 l with
  | none =>
    rw [takeI_none most e7]
    rw [num2_none e7] at HFI
    have HF6 := Lib.hid (HF.out 6 (by decide))
    clear e7 hL
    go_enter Tryz.func68, Tryz.ntmps68
    go_wp2_with fail
    refine HFI.out.mono ?_
    rintro e w' ⟨rfl, rfl⟩
    unfold pairI
    go_wp2_with fail
    refine HF6.out.mono ?_
    rintro e w' ⟨⟨v, hv, rfl⟩, hK⟩
    exact ⟨rfl, hK, .inr ⟨by decide, v, hv, rfl⟩⟩
  | some x =>
    obtain ⟨n, k⟩ := x
    have hi := num7_inv e7
    rw [num2_some e7] at HFI
    have hk0 : 0 < k := by have h := hi.2.2; have := enc7_pos n; omega
    have hk : ((k : Int) == 0) = false := by simp; omega
    by_cases hm : most < (n : Int)
    · rw [takeI_many e7 hm]
      have hmd : decide (most < (n : Int)) = true := decide_eq_true hm
      have HF14 := Lib.hid (HF.out 14 (by decide))
      clear e7 hL hi hk0
      go_enter Tryz.func68, Tryz.ntmps68
      go_wp2_with fail
      refine HFI.out.mono ?_
      rintro e w' ⟨rfl, rfl⟩
      unfold pairI
      go_wp2_with fail
      refine HF14.out.mono ?_
      rintro e w' ⟨⟨v, hv, rfl⟩, hK⟩
      exact ⟨rfl, hK, .inr ⟨by decide, v, hv, rfl⟩⟩
    · rw [takeI_some e7 hm]
      have hmd : decide (most < (n : Int)) = false := decide_eq_false hm
      have HCk := Lib.hid (HC.out k)
      have HKL := Lib.hid hi.2.1
      clear e7 hL hi hk0
      go_enter Tryz.func68, Tryz.ntmps68
      go_wp2_with fail
      refine HFI.out.mono ?_
      rintro e w' ⟨rfl, rfl⟩
      unfold pairI
      go_wp2_with fail
      refine HCk.out.mono ?_
      rintro e w' ⟨hK, ⟨-, ⟨q2, rfl, -⟩, hR⟩ | ⟨hbad, -⟩⟩
      · have HK := Lib.hid hK
        have HR2 := Lib.hid hR
        clear hK hR
        go_wp2
        go_ret
        exact ⟨HK.out, .inl ⟨rfl, ⟨_, rfl, rfl⟩, HR2.out⟩⟩
      · exact absurd HKL.out (by omega)
set_option maxHeartbeats 1000000 in
theorem rdP_count (p : Option Addr) (N : Nat) (w : World) (a : Addr) (l : List (BitVec 8)) (most : Int) (h : RdP p N w a l) : Calls Tryz.prog 69 #[.pointer (some a), .int .i64 most] w (RdPost RdP ThrP p N w a l (takeI l most).2.2 (takeI l most).2.1 fun v _ => v = .int .i64 ((takeI l most).1 : Int)) := by
  have HN := Lib.hid (rdP_number p N w a l most h)
  clear h
  go_enter Tryz.func69, Tryz.ntmps69
  go_wp2_with fail
  refine HN.out.mono ?_
  rintro e w' ⟨hK, ⟨h0, ⟨v, rfl, rfl⟩, hR⟩ | ⟨h0, v, hv, rfl⟩⟩
  · have HX := Lib.hid (And.intro hK (And.intro h0 hR))
    clear hK h0 hR
    go_wp2
    go_ret
    exact ⟨HX.out.1, .inl ⟨HX.out.2.1, ⟨_, rfl, rfl⟩, HX.out.2.2⟩⟩
  · exact ⟨rfl, hK, .inr ⟨h0, v, hv, rfl⟩⟩
end Go.Proofs.YtfemgkamgokjcaaGreatDoor
/- Vectors merged, incremented; the reference's comparison. -/
set_option maxRecDepth 100000
namespace Go.Proofs.YtfemgkamgokjcaaGreatDoor
open Go Go.RowKit
attribute [-go_sem] Sha.exec_store

attribute [local go_sem ↓] exec_boxA exec_loadA exec_indexA exec_allocA exec_storeA exec_buildA exec_eqlA exec_neqA exec_boxV exec_loadV exec_indexV exec_allocV exec_storeV exec_buildV exec_eqlV exec_neqV
attribute [local go_sem] boxA indexA storeNewA buildA eqlA neqA boxV indexV storeNewV buildV eqlV neqV

theorem resV {fn : Func} {p : Tmp} {T : TypeId} (hT : VT T) (h : fn.results = #[.cell p T]) (tmps : Array Value) (w : World) (b : Nat) (T2 : TypeId) (f : Nat → Int) (hp : tmps.getD p undef = .pointer (some ⟨b, 0, none⟩)) (hR : Row w b T2 16 (vf f)) : (results fn tmps).run Tryz.prog w = .ok (vcV f) w := by
  have := results_cell_row (P := Tryz.prog) h tmps w b T2 (tab 16 (vf f)) (0, 0) _ hp hR hT.und rfl (by rw [hT.size, tab_size])
  unfold vcV
  exact this
/-- What the reference's Merge has after k steps. -/
def mxTo (f g : Nat → Int) (k : Nat) : Nat → Int := fun i => if i < k then max (f i) (g i) else f i
theorem mxTo_all (f g : Nat → Int) : ∀ i, i < 16 → mxTo f g 16 i = mxV f g i := fun i hi => by unfold mxTo mxV; rw [if_pos hi]
end Go.Proofs.YtfemgkamgokjcaaGreatDoor
/- Bump and Merge of the program. -/
set_option maxRecDepth 100000
namespace Go.Proofs.YtfemgkamgokjcaaGreatDoor
open Go Go.RowKit
attribute [-go_sem] Sha.exec_store

attribute [local go_sem ↓] exec_boxA exec_loadA exec_indexA exec_allocA exec_storeA exec_buildA exec_eqlA exec_neqA exec_boxV exec_loadV exec_indexV exec_allocV exec_storeV exec_buildV exec_eqlV exec_neqV
attribute [local go_sem] boxA indexA storeNewA buildA eqlA neqA boxV indexV storeNewV buildV eqlV neqV

theorem resV2 {fn : Func} {p q : Tmp} {T : TypeId} (hT : VT T) (h : fn.results = #[.cell p T, .tmp q]) (tmps : Array Value) (w : World) (b : Nat) (T2 : TypeId) (f : Nat → Int) (v : Value) (hp : tmps.getD p undef = .pointer (some ⟨b, 0, none⟩)) (hq : tmps.getD q undef = v) (hR : Row w b T2 16 (vf f)) : (results fn tmps).run Tryz.prog w = .ok (.tuple #[vcV f, v]) w := by
  have hp' : tmps[p]?.getD undef = .pointer (some ⟨b, 0, none⟩) := by simpa using hp
  have hq' : tmps[q]?.getD undef = v := by simpa using hq
  have hl := run_loadVar_row (P := Tryz.prog) w b T2 T (tab 16 (vf f)) (0, 0) _ hR hT.und rfl (by rw [hT.size, tab_size])
  unfold vcV
  simp [results, h, hp', hq', asAddr, hl]
def bmOk (f : Nat → Int) (r : Int) : Bool := decide (0 ≤ r) && decide (r < 16) && decide (f r.toNat < 1099511627776)
def bmV (f : Nat → Int) (r : Int) : Nat → Int := if bmOk f r then (fun i => if i = r.toNat then f i + 1 else f i) else fun _ => 0
def bmE (f : Nat → Int) (r : Int) : Int := if bmOk f r then 0 else 1
theorem bm_no {f : Nat → Int} {r : Int} (h : bmOk f r = false) : bmV f r = (fun _ => 0) ∧ bmE f r = 1 := by unfold bmV bmE; rw [h]; exact ⟨rfl, rfl⟩
theorem bm_yes {f : Nat → Int} {r : Nat} (h : bmOk f r = true) : bmV f r = (fun i => if i = r then f i + 1 else f i) ∧ bmE f r = 0 := by unfold bmV bmE; rw [h]; exact ⟨rfl, rfl⟩
end Go.Proofs.YtfemgkamgokjcaaGreatDoor
/- Slices of vectors; Merge of the program. -/
set_option maxRecDepth 100000
namespace Go.Proofs.YtfemgkamgokjcaaGreatDoor
open Go Go.RowKit
attribute [-go_sem] Sha.exec_store

/-- Vectors lie where a slice begins. -/
structure VecsAt (w : World) (p : Option Addr) (n : Nat) (l : List (Nat → Int)) : Prop where
  len : l.length = n
  at_ : 0 < n → ∃ c o, p = some ⟨c, o, none⟩ ∧ ∀ i (hi : i < l.length), VecAt w c (o + i * 16) l[i]
theorem VecsAt.of_below {w w' : World} {p : Option Addr} {n : Nat} {l : List (Nat → Int)} (h : VecsAt w p n l) (k : Below w.heap.size w w') : VecsAt w' p n l :=
  ⟨h.len, fun hn => by
    obtain ⟨c, o, e, h1⟩ := h.at_ hn
    exact ⟨c, o, e, fun i hi => (h1 i hi).of_below k⟩⟩
theorem VecsAt.nil (w : World) (p : Option Addr) : VecsAt w p 0 [] := ⟨rfl, fun h => absurd h (by decide)⟩
/-- The cells of vectors one after another. -/
def vfs (l : List (Nat → Int)) : Nat → Value := fun i => .int .i64 ((l.getD (i / 16) fun _ => 0) (i % 16))
theorem VecsAt.row {w : World} {b n : Nat} {T : TypeId} {l : List (Nat → Int)} (hl : l.length = n) (h : Row w b T (16 * n) (vfs l)) : VecsAt w (some ⟨b, 0, none⟩) n l :=
  ⟨hl, fun _ => ⟨b, 0, rfl, fun i hi j hj => by
    rw [show 0 + i * 16 + j = i * 16 + j by omega, h.cell (i * 16 + j) (by omega)]
    unfold vfs
    rw [show (i * 16 + j) / 16 = i by omega, show (i * 16 + j) % 16 = j by omega, List.getD_eq_getElem?_getD, List.getElem?_eq_getElem hi]
    rfl⟩⟩
/-- The greatest numbers. -/
def mgL : List (Nat → Int) → Nat → Int
  | [] => fun _ => 0
  | f :: r => r.foldl mxV f
def mgTo (f : Nat → Int) (r : List (Nat → Int)) (k : Nat) : Nat → Int := (r.take k).foldl mxV f
theorem mgTo_succ (f : Nat → Int) (r : List (Nat → Int)) (k : Nat) (hk : k < r.length) : mgTo f r (k + 1) = mxV (mgTo f r k) r[k] := by
  unfold mgTo
  rw [List.take_succ_eq_append_getElem hk, List.foldl_append]
  rfl
attribute [local go_sem ↓] exec_boxA exec_loadA exec_indexA exec_allocA exec_storeA exec_buildA exec_eqlA exec_neqA exec_boxV exec_loadV exec_indexV exec_allocV exec_storeV exec_buildV exec_eqlV exec_neqV
attribute [local go_sem] boxA indexA storeNewA buildA eqlA neqA boxV indexV storeNewV buildV eqlV neqV

end Go.Proofs.YtfemgkamgokjcaaGreatDoor
/- awake of stage 9. -/
set_option maxRecDepth 100000
namespace Go.Proofs.YtfemgkamgokjcaaGreatDoor
open Go Go.RowKit
attribute [-go_sem] Sha.exec_store

attribute [local go_sem ↓] exec_boxA exec_loadA exec_indexA exec_allocA exec_storeA exec_buildA exec_eqlA exec_neqA exec_boxV exec_loadV exec_indexV exec_allocV exec_storeV exec_buildV exec_eqlV exec_neqV
attribute [local go_sem] boxA indexA storeNewA buildA eqlA neqA boxV indexV storeNewV buildV eqlV neqV

def one (k : Nat) : Nat → Int := fun i => if i = k then 1 else 0
/-- A vector as a list of cells: where the order of a region is drawn. -/
theorem vc_list (f : Nat → Int) : ∃ cs : List Value, vcV f = .agg cs.toArray ∧ cs.length = 16 ∧ ∀ (w : World) (b : Nat) (T : TypeId), Row w b T 16 (vf f) → w.rangeAt b 0 cs := by
  refine ⟨(tab 16 (vf f)).toList, ?_, by simp [tab], fun w b T h => h.range⟩
  unfold vcV
  rw [Array.toArray_toList]
theorem one_good : gdV (fun _ => 0) = true := by decide
theorem one_bump1 : vcV (bmV (fun _ => 0) 1) = vcV (one 1) ∧ bmE (fun _ => 0) 1 = 0 := ⟨vcV_congr (by decide), by decide⟩
theorem one_bump2 : vcV (bmV (fun _ => 0) 2) = vcV (one 2) ∧ bmE (fun _ => 0) 2 = 0 := ⟨vcV_congr (by decide), by decide⟩
theorem one_cmp : cmpV (one 1) (one 2) = 2 := by decide
theorem one_mrg : cmpV (one 1) (mgL [one 1, one 2]) = -1 := by decide
end Go.Proofs.YtfemgkamgokjcaaGreatDoor
/- A number in a range, read by package vector. -/
set_option maxRecDepth 100000
namespace Go.Proofs.YtfemgkamgokjcaaGreatDoor
open Go Go.RowKit
attribute [-go_sem] Sha.exec_store

/-- The number at the beginning of bytes if it is in a range, how many bytes it has; the error. -/
def rngI (l : List (BitVec 8)) (lo hi : Int) : Nat × Nat × Nat :=
  match num7 l with
  | none => (0, 0, 6)
  | some (n, k) => if (n : Int) < lo ∨ hi < (n : Int) then (0, 0, 6) else (n, k, 0)
theorem rngI_none {l : List (BitVec 8)} (lo hi : Int) (h : num7 l = none) : rngI l lo hi = (0, 0, 6) := by unfold rngI; rw [h]
theorem rngI_out {l : List (BitVec 8)} {lo hi : Int} {n k : Nat} (h : num7 l = some (n, k)) (hm : (n : Int) < lo ∨ hi < (n : Int)) : rngI l lo hi = (0, 0, 6) := by unfold rngI; rw [h]; exact if_pos hm
theorem rngI_in {l : List (BitVec 8)} {lo hi : Int} {n k : Nat} (h : num7 l = some (n, k)) (hm : ¬ ((n : Int) < lo ∨ hi < (n : Int))) : rngI l lo hi = (n, k, 0) := by unfold rngI; rw [h]; exact if_neg hm
set_option maxRecDepth 100000 in
set_option maxHeartbeats 2000000 in
theorem number9_any (p : Option Addr) (N : Nat) (w : World) (a : Addr) (l : List (BitVec 8)) (lo hi : Int) (h : RdP p N w a l) : Calls Tryz.prog 127 #[.pointer (some a), .int .i64 lo, .int .i64 hi] w (RdPost RdP ThrP p N w a l (rngI l lo hi).2.2 (rngI l lo hi).2.1 fun v _ => v = .int .i64 ((rngI l lo hi).1 : Int)) := by
  have HN := Lib.hid (rdP_number p N w a l 9223372036854775807 h)
  clear h
  cases e7 : num7 l with
  | none =>
    rw [rngI_none lo hi e7]
    rw [takeI_none _ e7] at HN
    clear e7
    go_enter Tryz.func127, Tryz.ntmps127
    go_wp2_with fail
    refine HN.out.mono ?_
    rintro e w' ⟨hK, ⟨hcode, -⟩ | ⟨hc, v, hv, rfl⟩⟩
    · exact absurd hcode (by decide)
    · exact ⟨rfl, hK, .inr ⟨by decide, v, hv, rfl⟩⟩
  | some x =>
    obtain ⟨n, k⟩ := x
    have hi7 := num7_inv e7
    rw [takeI_some e7 (by omega)] at HN
    by_cases h1 : (n : Int) < lo
    · rw [rngI_out e7 (.inl h1)]
      have t1 : decide ((n : Int) < lo) = true := decide_eq_true h1
      clear e7 hi7
      go_enter Tryz.func127, Tryz.ntmps127
      go_wp2_with fail
      refine HN.out.mono ?_
      rintro e w' ⟨hK, ⟨-, ⟨v, rfl, rfl⟩, hR⟩ | ⟨hc, -⟩⟩
      · have HK := Lib.hid hK
        have HF := Lib.hid (rdP_fail p N w' a (l.drop k) 6 hR (by decide))
        clear hK hR
        go_wp2_with fail
        refine HF.out.mono ?_
        rintro e w2 ⟨⟨v, hv, rfl⟩, hK2⟩
        exact ⟨rfl, HK.out.trans hK2, .inr ⟨by decide, v, hv, rfl⟩⟩
      · exact absurd rfl hc
    · have t1 : decide ((n : Int) < lo) = false := decide_eq_false h1
      by_cases h2 : hi < (n : Int)
      · rw [rngI_out e7 (.inr h2)]
        have t2 : decide (hi < (n : Int)) = true := decide_eq_true h2
        clear e7 hi7
        go_enter Tryz.func127, Tryz.ntmps127
        go_wp2_with fail
        refine HN.out.mono ?_
        rintro e w' ⟨hK, ⟨-, ⟨v, rfl, rfl⟩, hR⟩ | ⟨hc, -⟩⟩
        · have HK := Lib.hid hK
          have HF := Lib.hid (rdP_fail p N w' a (l.drop k) 6 hR (by decide))
          clear hK hR
          go_wp2_with fail
          refine HF.out.mono ?_
          rintro e w2 ⟨⟨v, hv, rfl⟩, hK2⟩
          exact ⟨rfl, HK.out.trans hK2, .inr ⟨by decide, v, hv, rfl⟩⟩
        · exact absurd rfl hc
      · rw [rngI_in e7 (by omega)]
        have t2 : decide (hi < (n : Int)) = false := decide_eq_false h2
        clear e7 hi7
        go_enter Tryz.func127, Tryz.ntmps127
        go_wp2_with fail
        refine HN.out.mono ?_
        rintro e w' ⟨hK, ⟨-, ⟨v, rfl, rfl⟩, hR⟩ | ⟨hc, -⟩⟩
        · have HK := Lib.hid hK
          have HR := Lib.hid hR
          clear hK hR
          go_wp2
          go_ret
          exact ⟨HK.out, .inl ⟨rfl, ⟨_, rfl, rfl⟩, HR.out⟩⟩
        · exact absurd rfl hc
end Go.Proofs.YtfemgkamgokjcaaGreatDoor
/- Take of the program. -/
set_option maxRecDepth 100000
namespace Go.Proofs.YtfemgkamgokjcaaGreatDoor
open Go Go.RowKit
attribute [-go_sem] Sha.exec_store

/-- c numbers of a vector at the beginning of bytes, no replica less than a given one: the vector, and what is left. -/
def stepsV : Nat → Nat → List (BitVec 8) → (Nat → Int) → Option ((Nat → Int) × List (BitVec 8))
  | 0, _, l, f => some (f, l)
  | c + 1, least, l, f =>
    if (rngI l least 15).2.2 = 0 then
      if (rngI (l.drop (rngI l least 15).2.1) 1 1099511627776).2.2 = 0 then
        stepsV c ((rngI l least 15).1 + 1) ((l.drop (rngI l least 15).2.1).drop (rngI (l.drop (rngI l least 15).2.1) 1 1099511627776).2.1) (fun i => if i = (rngI l least 15).1 then ((rngI (l.drop (rngI l least 15).2.1) 1 1099511627776).1 : Int) else f i)
      else none
    else none
def takeV (l : List (BitVec 8)) : Option ((Nat → Int) × List (BitVec 8)) :=
  if (rngI l 0 16).2.2 = 0 then stepsV (rngI l 0 16).1 0 (l.drop (rngI l 0 16).2.1) (fun _ => 0) else none
theorem rngI_le {l : List (BitVec 8)} {lo hi : Int} (h : (rngI l lo hi).2.2 = 0) : lo ≤ ((rngI l lo hi).1 : Int) ∧ ((rngI l lo hi).1 : Int) ≤ hi := by
  unfold rngI at h ⊢
  split at h
  · cases h
  · rename_i n k e
    split at h
    · cases h
    · rename_i hh
      rw [if_neg hh]
      show lo ≤ (n : Int) ∧ (n : Int) ≤ hi
      omega
theorem rngI_code {l : List (BitVec 8)} {lo hi : Int} (h : (rngI l lo hi).2.2 ≠ 0) : (rngI l lo hi).2.2 = 6 := by
  unfold rngI at h ⊢
  split
  · rfl
  · rename_i n k e
    split
    · rfl
    · rename_i hh
      rw [e] at h
      simp only [if_neg hh] at h
      exact absurd rfl h
theorem stepsV_one {c least : Nat} {l : List (BitVec 8)} {f : Nat → Int} {r k n k2 : Nat} (h1 : rngI l least 15 = (r, k, 0)) (h2 : rngI (l.drop k) 1 1099511627776 = (n, k2, 0)) : stepsV (c + 1) least l f = stepsV c (r + 1) ((l.drop k).drop k2) (fun i => if i = r then (n : Int) else f i) := by
  rw [stepsV]
  simp only [h1, h2, if_true]
theorem stepsV_no1 {c least : Nat} {l : List (BitVec 8)} {f : Nat → Int} (h1 : (rngI l least 15).2.2 ≠ 0) : stepsV (c + 1) least l f = none := by unfold stepsV; rw [if_neg h1]
theorem stepsV_no2 {c least : Nat} {l : List (BitVec 8)} {f : Nat → Int} {r k : Nat} (h1 : rngI l least 15 = (r, k, 0)) (h2 : (rngI (l.drop k) 1 1099511627776).2.2 ≠ 0) : stepsV (c + 1) least l f = none := by
  unfold stepsV
  simp only [h1, if_true, if_neg h2]
attribute [local go_sem ↓] exec_boxA exec_loadA exec_indexA exec_allocA exec_storeA exec_buildA exec_eqlA exec_neqA exec_boxV exec_loadV exec_indexV exec_allocV exec_storeV exec_buildV exec_eqlV exec_neqV
attribute [local go_sem] boxA indexA storeNewA buildA eqlA neqA boxV indexV storeNewV buildV eqlV neqV

/-- What Take tells. -/
def TakePost (p : Option Addr) (N : Nat) (w : World) (a : Addr) (r : Option ((Nat → Int) × List (BitVec 8))) (e : Ending) (w' : World) : Prop :=
  Kp a.block w w' ∧ match r with
    | some (f, rest) => e = .returned (vcV f) ∧ RdP p N w' a rest
    | none => Thrown (ThrP a) 6 e w'
set_option maxRecDepth 100000 in
set_option maxHeartbeats 8000000 in
theorem take9_any (p : Option Addr) (N : Nat) (w : World) (a : Addr) (l : List (BitVec 8)) (h : RdP p N w a l) : Calls Tryz.prog 96 #[.pointer (some a)] w (TakePost p N w a (takeV l)) := by
  have HL := Lib.hid (rdP_lie _ _ _ _ _ h)
  have HST : Hid (Row ((w.alloc (.cells (tab 16 (vf fun _ => 0)) 31)).alloc (.cells (tab 16 (vf fun _ => 0)) 31)) w.heap.size 31 16 (vf fun _ => 0) ∧ Row ((w.alloc (.cells (tab 16 (vf fun _ => 0)) 31)).alloc (.cells (tab 16 (vf fun _ => 0)) 31)) (w.heap.size + 1) 31 16 (vf fun _ => 0) ∧ Below w.heap.size w ((w.alloc (.cells (tab 16 (vf fun _ => 0)) 31)).alloc (.cells (tab 16 (vf fun _ => 0)) 31))) := Lib.hid (twoRows w 31 (vf fun _ => 0) (vf fun _ => 0) 16)
  have HR := Lib.hid (rdP_stay _ _ _ _ _ _ h HST.out.2.2.size (HST.out.2.2.block _ HL.out.2) fun c o _ hc => HST.out.2.2.block _ (by have := HL.out; omega))
  have HN := Lib.hid (number9_any p N ((w.alloc (.cells (tab 16 (vf fun _ => 0)) 31)).alloc (.cells (tab 16 (vf fun _ => 0)) 31)) a l 0 16 HR.out)
  have HK0 := Lib.hid ((Kp.refl a.block w).of_below HST.out.2.2)
  clear h
  obtain ⟨x, hx⟩ : ∃ x, rngI l 0 16 = x := ⟨_, rfl⟩
  obtain ⟨c, k0, cd⟩ := x
  rw [hx] at HN
  by_cases hcd : cd = 0
  · subst hcd
    have htk : takeV l = stepsV c 0 (l.drop k0) (fun _ => 0) := by unfold takeV; simp only [hx, if_true]
    have hc16 : c ≤ 16 := by have := (rngI_le (l := l) (lo := 0) (hi := 16) (by rw [hx])).2; rw [hx] at this; exact Int.ofNat_le.1 this
    obtain ⟨T, hT⟩ : ∃ T, takeV l = T := ⟨_, rfl⟩
    rw [hT] at htk
    rw [hT]
    have HT := Lib.hid htk
    clear hx hT htk
    go_enter Tryz.func96, Tryz.ntmps96
    go_wp2_with fail
    refine HN.out.mono ?_
    rintro e w1 ⟨hK, ⟨-, ⟨v, rfl, rfl⟩, hR1⟩ | ⟨hc, -⟩⟩
    · have HR1 := Lib.hid hR1
      have HK1 := Lib.hid (HK0.out.trans hK)
      have HA := Lib.hid (show Row w1 w.heap.size 31 16 (vf fun _ => 0) ∧ Row w1 (w.heap.size + 1) 31 16 (vf fun _ => 0) from ⟨HST.out.1.of_kp hK (by have := HL.out; omega), HST.out.2.1.of_kp hK (by have := HL.out; omega)⟩)
      clear hK hR1
      go_wp2
      go_loopw [4, 8] (fun s i wr => ∃ j least : Nat, j ≤ c ∧ i = .int .i64 j ∧ s = .int .i64 least ∧ least ≤ 16 ∧ ∃ f l', stepsV (c - j) least l' f = T ∧ RdP p N wr a l' ∧ Row wr w.heap.size 31 16 (vf fun _ => 0) ∧ Row wr (w.heap.size + 1) 31 16 (vf f) ∧ Kp a.block w wr) (fun s i _ => c - (intOf i).toNat)
      case atStart => exact ⟨0, 0, Nat.zero_le _, rfl, rfl, Nat.zero_le _, _, _, HT.out.symm, HR1.out, HA.out.1, HA.out.2, HK1.out⟩
      case round =>
        clear HR1 HK1 HA
        obtain ⟨j, least, hj, rfl, rfl, hle, f, l', hst, hR, hZ, hF, hK⟩ := hrel
        have HS := Lib.hid hst
        have HRr := Lib.hid hR
        have HZ := Lib.hid hZ
        have HF := Lib.hid hF
        have HK := Lib.hid hK
        clear hst hK hR
        by_cases hjc : j < c
        · have z1 : (j : Int) < (c : Int) := by omega
          have z2 : decide ((j : Int) < (c : Int)) = true := decide_eq_true z1
          have hw := i64v j (by omega)
          have hcj : c - j = (c - (j + 1)) + 1 := by omega
          have HN1 := Lib.hid (number9_any p N wr a l' (least : Int) 15 HRr.out)
          obtain ⟨y, hy⟩ : ∃ y, rngI l' (least : Int) 15 = y := ⟨_, rfl⟩
          obtain ⟨r, k1, c1⟩ := y
          by_cases hc1 : c1 = 0
          · subst hc1
            have hr15 := rngI_le (l := l') (lo := (least : Int)) (hi := 15) (by rw [hy])
            rw [hy] at HN1 hr15
            have hr16 : r < 16 := by have := hr15.2; show r < 16; simp at this; omega
            have HY := Lib.hid hy
            clear hy hr15 hZ hF
            go_wp2_with fail
            refine HN1.out.mono ?_
            rintro e w2 ⟨hK2, ⟨-, ⟨v, rfl, rfl⟩, hR2⟩ | ⟨hc, -⟩⟩
            · have HR2 := Lib.hid hR2
              have HKc := Lib.hid (HK.out.trans hK2)
              have HZ2 := Lib.hid (HZ.out.of_kp hK2 (by have := HL.out; omega))
              have HF2 := Lib.hid (HF.out.of_kp hK2 (by have := HL.out; omega))
              have HN2 := Lib.hid (number9_any p N w2 a (l'.drop k1) 1 1099511627776 hR2)
              obtain ⟨y2, hy2⟩ : ∃ y, rngI (l'.drop k1) 1 1099511627776 = y := ⟨_, rfl⟩
              obtain ⟨n, k2, c2⟩ := y2
              rw [hy2] at HN2
              have HY2 := Lib.hid hy2
              clear hK2 hR2 hy2
              by_cases hc2 : c2 = 0
              · subst hc2
                have HSN := Lib.hid (show stepsV (c - (j + 1)) (r + 1) ((l'.drop k1).drop k2) (fun i => if i = r then (n : Int) else f i) = T by rw [← HS.out, hcj, stepsV_one HY.out HY2.out])
                go_wp2_with fail
                refine HN2.out.mono ?_
                rintro e w3 ⟨hK3, ⟨-, ⟨v, rfl, rfl⟩, hR3⟩ | ⟨hc, -⟩⟩
                · have HKd := Lib.hid (HKc.out.trans hK3)
                  have HZ3 := Lib.hid (HZ2.out.of_kp hK3 (by have := HL.out; omega))
                  have hF3 := HF2.out.of_kp hK3 (by have := HL.out; omega)
                  have HF3 := Lib.hid hF3
                  have x5 : w3.cell? ⟨w.heap.size + 1, r, none⟩ = some (.int .i64 (f r)) := hF3.cell r hr16
                  have x6 := hF3.free r
                  have hwr := i64v r hr16
                  have HR4 := Lib.hid (rdP_stay _ _ _ (w3.setCell ⟨w.heap.size + 1, r, none⟩ (.int .i64 (n : Int))) _ _ hR3 (by simp) (Below.heap_setCell _ _ _ _ (by show a.block ≠ w.heap.size + 1; have := HL.out; omega)) fun c o _ hc => Below.heap_setCell _ _ _ _ (by show c ≠ w.heap.size + 1; have := HL.out; omega))
                  clear hK3 hR3 hF3
                  go_wp2
                  go_roundw
                  case rel => exact ⟨j + 1, r + 1, by omega, by go_num, by go_num, by omega, _, _, HSN.out, HR4.out, HZ3.out.of_block (Below.heap_setCell _ _ _ _ (by show w.heap.size ≠ w.heap.size + 1; omega)), (HF3.out.set r (.int .i64 (n : Int))).congr fun i _ => by
                    unfold vf
                    by_cases e : i = r
                    · simp [e]
                    · simp [e], HKd.out.setNew (by show w.heap.size ≤ w.heap.size + 1; omega) _⟩
                  case measure => simp [intOf]; omega
                · exact absurd rfl hc
              · have hTn : T = none := by rw [← HS.out, hcj]; exact stepsV_no2 HY.out (by rw [HY2.out]; exact hc2)
                have h6 : c2 = 6 := by have := rngI_code (l := l'.drop k1) (lo := 1) (hi := 1099511627776) (by rw [HY2.out]; exact hc2); rw [HY2.out] at this; exact this
                subst h6
                subst hTn
                go_wp2_with fail
                refine HN2.out.mono ?_
                rintro e w3 ⟨hK3, ⟨hcc, -⟩ | ⟨hc, v, hv, rfl⟩⟩
                · exact absurd hcc (by decide)
                · exact ⟨rfl, HKc.out.trans hK3, v, hv, rfl⟩
            · exact absurd rfl hc
          · have hTn : T = none := by rw [← HS.out, hcj]; exact stepsV_no1 (by rw [hy]; exact hc1)
            have h6 : c1 = 6 := by have := rngI_code (l := l') (lo := (least : Int)) (hi := 15) (by rw [hy]; exact hc1); rw [hy] at this; exact this
            rw [hy] at HN1
            subst h6
            subst hTn
            clear hy hZ hF
            go_wp2_with fail
            refine HN1.out.mono ?_
            rintro e w3 ⟨hK3, ⟨hcc, -⟩ | ⟨hc, v, hv, rfl⟩⟩
            · exact absurd hcc (by decide)
            · exact ⟨rfl, HK.out.trans hK3, v, hv, rfl⟩
        · have z1 : ¬ (j : Int) < (c : Int) := by omega
          have z2 : decide ((j : Int) < (c : Int)) = false := decide_eq_false z1
          have hT2 : T = some (f, l') := by rw [← HS.out, show c - j = 0 by omega]; rfl
          subst hT2
          have l3 := loadVT vtV (VecAt.of_row hF (Nat.le_refl _))
          obtain ⟨w5, hs5, hR5, hK5⟩ := storeVT vtV hZ f
          have HR5 := Lib.hid hR5
          have HRd := Lib.hid (rdP_stay _ _ _ w5 _ _ HRr.out hK5.size (hK5.block _ (rdP_lie _ _ _ _ _ HRr.out).2 (by have := HL.out; omega)) fun c o _ hc => hK5.block _ (by have := rdP_lie _ _ _ _ _ HRr.out; omega) (by have := HL.out; omega))
          have HK5 := Lib.hid (show Kp a.block w w5 from ⟨hK5.os.trans HK.out.os, hK5.tape.trans HK.out.tape, hK5.output.trans HK.out.output, Nat.le_trans HK.out.size hK5.size, fun i hi hb => (hK5.block i (Nat.lt_of_lt_of_le hi HK.out.size) (by omega)).trans (HK.out.block i hi hb)⟩)
          clear hZ hF hR5 hK5
          go_wp2
          refine bodyPost_ret (resV vtV rfl _ w5 w.heap.size 31 f rfl HR5.out) rfl ?_
          exact ⟨HK5.out, rfl, HRd.out⟩
    · exact absurd rfl hc
  · have htk : takeV l = none := by unfold takeV; simp only [hx, if_neg hcd]
    have h6 : cd = 6 := by have := rngI_code (l := l) (lo := 0) (hi := 16) (by rw [hx]; exact hcd); rw [hx] at this; exact this
    subst h6
    rw [htk]
    clear hx htk
    go_enter Tryz.func96, Tryz.ntmps96
    go_wp2_with fail
    refine HN.out.mono ?_
    rintro e w1 ⟨hK, ⟨hcc, -⟩ | ⟨hc, v, hv, rfl⟩⟩
    · exact absurd hcc (by decide)
    · exact ⟨rfl, HK0.out.trans hK, v, hv, rfl⟩
end Go.Proofs.YtfemgkamgokjcaaGreatDoor
/- Take of the reference. -/
set_option maxRecDepth 100000
namespace Go.Proofs.YtfemgkamgokjcaaGreatDoor
open Go Go.RowKit
attribute [-go_sem] Sha.exec_store

/-- The vector at the beginning of bytes, by the reference. -/
def takeR (l : List (BitVec 8)) : Option ((Nat → Int) × List (BitVec 8)) :=
  match num7 l with
  | none => none
  | some (c, k) => stepsV c 0 (l.drop k) (fun _ => 0)
theorem stepsV_bound : ∀ (c least : Nat) (l : List (BitVec 8)) (f : Nat → Int), least ≤ 16 → stepsV c least l f ≠ none → c + least ≤ 16
  | 0, least, l, f, h, _ => by omega
  | c + 1, least, l, f, h, hs => by
    by_cases h1 : (rngI l least 15).2.2 = 0
    · obtain ⟨x, hx⟩ : ∃ x, rngI l least 15 = x := ⟨_, rfl⟩
      obtain ⟨r, k, cd⟩ := x
      have hle := rngI_le h1
      rw [hx] at h1 hle
      have h1' : cd = 0 := h1
      subst h1'
      by_cases h2 : (rngI (l.drop k) 1 1099511627776).2.2 = 0
      · obtain ⟨y, hy⟩ : ∃ y, rngI (l.drop k) 1 1099511627776 = y := ⟨_, rfl⟩
        obtain ⟨n, k2, c2⟩ := y
        rw [hy] at h2
        have h2' : c2 = 0 := h2
        subst h2'
        rw [stepsV_one hx hy] at hs
        have hr : (least : Int) ≤ (r : Int) ∧ (r : Int) ≤ 15 := hle
        have := stepsV_bound c (r + 1) _ _ (by omega) hs
        omega
      · exact absurd (stepsV_no2 hx h2) hs
    · exact absurd (stepsV_no1 h1) hs
theorem takeV_eq (l : List (BitVec 8)) : takeV l = takeR l := by
  unfold takeV takeR
  cases e : num7 l with
  | none => rw [rngI_none 0 16 e]; rfl
  | some x =>
    obtain ⟨c, k⟩ := x
    by_cases h : (c : Int) < 0 ∨ 16 < (c : Int)
    · rw [rngI_out e h]
      show none = stepsV c 0 (l.drop k) (fun _ => 0)
      cases hs : stepsV c 0 (l.drop k) (fun _ => 0) with
      | none => rfl
      | some y => have := stepsV_bound c 0 _ _ (by omega) (by rw [hs]; exact fun q => by cases q); omega
    · rw [rngI_in e h]
      rfl
theorem sl_fromB (q : Option Addr) (n cap k : Nat) (w : World) (hk : k ≤ n) :
    (slT 35 (.slice q n cap) (some (.int .i64 (k : Int))) none none).run Tryz.prog w = .ok (.value (.slice (cutA q cap k) (n - k) (cap - k))) w := by
  have h1 := run_sliceAt_slice (P := Tryz.prog) w 35 (.slice q n cap) (some (.int .i64 (k : Int))) none none und35
  rw [run_slice_l (P := Tryz.prog) w 35 q n cap und35 .i64 (k : Int) (by omega) (by omega), sizeB] at h1
  simp only [slT, Sem.run_bind, h1, Result.andThen_ok, Sem.run_pure]
  simp only [sliced, Int.toNat_natCast, Nat.mul_one, cutA]
attribute [local go_sem ↓] exec_boxA exec_loadA exec_indexA exec_allocA exec_storeA exec_buildA exec_eqlA exec_neqA exec_boxV exec_loadV exec_indexV exec_allocV exec_storeV exec_buildV exec_eqlV exec_neqV
attribute [local go_sem] boxA indexA storeNewA buildA eqlA neqA boxV indexV storeNewV buildV eqlV neqV

attribute [local go_sem ↓] exec_slice
theorem resV3 {fn : Func} {p q r : Tmp} {T : TypeId} (hT : VT T) (h : fn.results = #[.cell p T, .tmp q, .tmp r]) (tmps : Array Value) (w : World) (b : Nat) (T2 : TypeId) (f : Nat → Int) (v u : Value) (hp : tmps.getD p undef = .pointer (some ⟨b, 0, none⟩)) (hq : tmps.getD q undef = v) (hr : tmps.getD r undef = u) (hR : Row w b T2 16 (vf f)) : (results fn tmps).run Tryz.prog w = .ok (.tuple #[vcV f, v, u]) w := by
  have hp' : tmps[p]?.getD undef = .pointer (some ⟨b, 0, none⟩) := by simpa using hp
  have hq' : tmps[q]?.getD undef = v := by simpa using hq
  have hr' : tmps[r]?.getD undef = u := by simpa using hr
  have hl := run_loadVar_row (P := Tryz.prog) w b T2 T (tab 16 (vf f)) (0, 0) _ hR hT.und rfl (by rw [hT.size, tab_size])
  unfold vcV
  simp [results, h, hp', hq', hr', asAddr, hl]
/-- What the reference's Take returns. -/
def RTakePost (l : List (BitVec 8)) (w : World) (r : Option ((Nat → Int) × List (BitVec 8))) (e : Ending) (w' : World) : Prop :=
  Below w.heap.size w w' ∧ match r with
    | some (f, rest) => ∃ at_ : Nat, at_ ≤ l.length ∧ rest = l.drop at_ ∧ e = .returned (.tuple #[vcV f, .int .i64 (at_ : Int), .int .i64 0])
    | none => e = .returned (.tuple #[vcV fun _ => 0, .int .i64 0, .int .i64 6])
theorem i64k (i : Nat) (h : i < 9223372036854775807) : IntKind.i64.wrap ((i : Int) + 1) = (i : Int) + 1 := by rw [IntKind.wrap_i64]; omega
theorem i64s9 (a b : Nat) (h : a + b ≤ 10000000) : IntKind.i64.wrap ((a : Int) + (b : Int)) = ((a + b : Nat) : Int) := by rw [IntKind.wrap_i64]; omega
theorem takeI_fits (l : List (BitVec 8)) {n k c : Nat} (h : takeI l 9223372036854775807 = (n, k, c)) : k ≤ l.length := by
  cases e : num7 l with
  | none => rw [takeI_none _ e] at h; injection h with _ h; injection h with h _; omega
  | some x =>
    obtain ⟨a, b⟩ := x
    have hi := num7_inv e
    rw [takeI_some e (by omega)] at h
    injection h with _ h
    injection h with h _
    omega
theorem rngI_of {l : List (BitVec 8)} {n k c : Nat} {lo hi : Int} (h : takeI l 9223372036854775807 = (n, k, c)) : rngI l lo hi = if c = 0 ∧ lo ≤ (n : Int) ∧ (n : Int) ≤ hi then (n, k, 0) else (0, 0, 6) := by
  cases e : num7 l with
  | none =>
    rw [takeI_none _ e] at h
    rw [rngI_none _ _ e, if_neg (by injection h with _ h; injection h with _ h; omega)]
  | some x =>
    obtain ⟨a, b⟩ := x
    have h7 := num7_inv e
    rw [takeI_some e (by omega)] at h
    injection h with h1 h
    injection h with h2 h3
    subst h1 h2 h3
    by_cases g : (a : Int) < lo ∨ hi < (a : Int)
    · rw [rngI_out e g, if_neg (by omega)]
    · rw [rngI_in e g, if_pos (by omega)]
theorem i64m (x : Nat) (h : x < 100000000) : IntKind.i64.wrap (x : Int) = (x : Int) := by rw [IntKind.wrap_i64]; omega
end Go.Proofs.YtfemgkamgokjcaaGreatDoor
/- The encoding of a vector, plain. -/
set_option maxRecDepth 100000
namespace Go.Proofs.YtfemgkamgokjcaaGreatDoor
open Go Go.RowKit
attribute [-go_sem] Sha.exec_store

/-- What is written of the numbers of the first replicas. -/
def bodyV (f : Nat → Int) : Nat → List (BitVec 8)
  | 0 => []
  | i + 1 => if f i = 0 then bodyV f i else bodyV f i ++ enc7 i ++ enc7 (f i).toNat
/-- How many of them are not 0. -/
def cntV (f : Nat → Int) : Nat → Nat
  | 0 => 0
  | i + 1 => if f i = 0 then cntV f i else cntV f i + 1
/-- The encoding of a vector. -/
def encV (f : Nat → Int) : List (BitVec 8) := enc7 (cntV f 16) ++ bodyV f 16
theorem bodyV_zero {f : Nat → Int} {i : Nat} (h : f i = 0) : bodyV f (i + 1) = bodyV f i := by rw [bodyV, if_pos h]
theorem bodyV_one {f : Nat → Int} {i : Nat} (h : f i ≠ 0) : bodyV f (i + 1) = bodyV f i ++ enc7 i ++ enc7 (f i).toNat := by rw [bodyV, if_neg h]
theorem cntV_zero {f : Nat → Int} {i : Nat} (h : f i = 0) : cntV f (i + 1) = cntV f i := by rw [cntV, if_pos h]
theorem cntV_one {f : Nat → Int} {i : Nat} (h : f i ≠ 0) : cntV f (i + 1) = cntV f i + 1 := by rw [cntV, if_neg h]
theorem cntV_le (f : Nat → Int) : ∀ i, cntV f i ≤ i
  | 0 => Nat.le_refl _
  | i + 1 => by
    have := cntV_le f i
    by_cases h : f i = 0
    · rw [cntV_zero h]; omega
    · rw [cntV_one h]; omega
theorem bodyV_congr {f g : Nat → Int} : ∀ i, (∀ j, j < i → f j = g j) → bodyV f i = bodyV g i
  | 0, _ => rfl
  | i + 1, h => by
    have ih := bodyV_congr i (fun j hj => h j (by omega))
    have hi := h i (by omega)
    by_cases h0 : f i = 0
    · rw [bodyV_zero h0, bodyV_zero (by rw [← hi]; exact h0), ih]
    · rw [bodyV_one h0, bodyV_one (by rw [← hi]; exact h0), ih, hi]
theorem cntV_congr {f g : Nat → Int} : ∀ i, (∀ j, j < i → f j = g j) → cntV f i = cntV g i
  | 0, _ => rfl
  | i + 1, h => by
    have ih := cntV_congr i (fun j hj => h j (by omega))
    have hi := h i (by omega)
    by_cases h0 : f i = 0
    · rw [cntV_zero h0, cntV_zero (by rw [← hi]; exact h0), ih]
    · rw [cntV_one h0, cntV_one (by rw [← hi]; exact h0), ih]
theorem encV_congr {f g : Nat → Int} (h : ∀ j, j < 16 → f j = g j) : encV f = encV g := by unfold encV; rw [bodyV_congr 16 h, cntV_congr 16 h]
/-- Where nothing comes from a replica on, nothing is written. -/
theorem bodyV_rest {f : Nat → Int} (k : Nat) (h : ∀ j, k ≤ j → f j = 0) : ∀ d, bodyV f (k + d) = bodyV f k ∧ cntV f (k + d) = cntV f k
  | 0 => ⟨rfl, rfl⟩
  | d + 1 => by
    have ih := bodyV_rest k h d
    have h0 := h (k + d) (by omega)
    rw [show k + (d + 1) = (k + d) + 1 by omega, bodyV_zero h0, cntV_zero h0]
    exact ih
theorem enc7_len40 {n : Nat} (h : n ≤ 1099511627776) : (enc7 n).length ≤ 6 := enc7_len 5 n (by show n < 4398046511104; omega)
theorem bodyV_len {f : Nat → Int} (h : ∀ i, i < 16 → 0 ≤ f i ∧ f i ≤ 1099511627776) : ∀ i, i ≤ 16 → (bodyV f i).length ≤ 7 * i
  | 0, _ => by show 0 ≤ _; omega
  | i + 1, hi => by
    have ih := bodyV_len h i (by omega)
    by_cases h0 : f i = 0
    · rw [bodyV_zero h0]; omega
    · rw [bodyV_one h0]
      have h1 := enc7_len 0 i (by show i < 128; omega)
      have h2 := enc7_len40 (n := (f i).toNat) (by have := h i (by omega); omega)
      simp only [List.length_append]
      omega
theorem encV_len {f : Nat → Int} (h : ∀ i, i < 16 → 0 ≤ f i ∧ f i ≤ 1099511627776) : (encV f).length ≤ 113 := by
  have h1 := bodyV_len h 16 (Nat.le_refl _)
  have h2 := enc7_len 0 (cntV f 16) (by have := cntV_le f 16; show _ < 128; omega)
  unfold encV
  simp only [List.length_append]
  omega
end Go.Proofs.YtfemgkamgokjcaaGreatDoor
/- What was taken as a vector has just the bytes that were taken. -/
set_option maxRecDepth 100000
namespace Go.Proofs.YtfemgkamgokjcaaGreatDoor
open Go Go.RowKit
attribute [-go_sem] Sha.exec_store

theorem rngI_inv {l : List (BitVec 8)} {lo hi : Int} {n k : Nat} (h : rngI l lo hi = (n, k, 0)) : k ≤ l.length ∧ l.take k = enc7 n ∧ lo ≤ (n : Int) ∧ (n : Int) ≤ hi := by
  cases e : num7 l with
  | none => rw [rngI_none lo hi e] at h; injection h with _ h; injection h with _ h; cases h
  | some x =>
    obtain ⟨a, b⟩ := x
    by_cases g : (a : Int) < lo ∨ hi < (a : Int)
    · rw [rngI_out e g] at h; injection h with _ h; injection h with _ h; cases h
    · rw [rngI_in e g] at h
      injection h with h1 h
      injection h with h2 h
      subst h1 h2
      have := num7_inv e
      exact ⟨this.2.1, this.2.2.1, by omega, by omega⟩
theorem stepsV_enc : ∀ (c least : Nat) (l : List (BitVec 8)) (f : Nat → Int) (g : Nat → Int) (rest : List (BitVec 8)), least ≤ 16 → (∀ j, least ≤ j → f j = 0) → (∀ j, j < 16 → 0 ≤ f j ∧ f j ≤ 1099511627776) → stepsV c least l f = some (g, rest) →
    ∃ mid, l = mid ++ rest ∧ bodyV g 16 = bodyV f least ++ mid ∧ cntV g 16 = cntV f least + c ∧ ∀ j, j < 16 → 0 ≤ g j ∧ g j ≤ 1099511627776
  | 0, least, l, f, g, rest, hl, hz, hg, h => by
    injection h with h
    injection h with h1 h2
    subst h1 h2
    have := bodyV_rest least hz (16 - least)
    rw [show least + (16 - least) = 16 by omega] at this
    exact ⟨[], rfl, by rw [this.1, List.append_nil], by rw [this.2]; rfl, hg⟩
  | c + 1, least, l, f, g, rest, hl, hz, hg, h => by
    by_cases h1 : (rngI l least 15).2.2 = 0
    · obtain ⟨x, hx⟩ : ∃ x, rngI l least 15 = x := ⟨_, rfl⟩
      obtain ⟨r, k, cd⟩ := x
      rw [hx] at h1
      have h1' : cd = 0 := h1
      subst h1'
      by_cases h2 : (rngI (l.drop k) 1 1099511627776).2.2 = 0
      · obtain ⟨y, hy⟩ : ∃ y, rngI (l.drop k) 1 1099511627776 = y := ⟨_, rfl⟩
        obtain ⟨n, k2, c2⟩ := y
        rw [hy] at h2
        have h2' : c2 = 0 := h2
        subst h2'
        rw [stepsV_one hx hy] at h
        have i1 := rngI_inv hx
        have i2 := rngI_inv hy
        have hr : least ≤ r ∧ r ≤ 15 := by omega
        have hn : 1 ≤ n ∧ n ≤ 1099511627776 := by omega
        obtain ⟨mid, e1, e2, e3, e4⟩ := stepsV_enc c (r + 1) _ (fun i => if i = r then (n : Int) else f i) g rest (by omega) (fun j hj => by
          show (if j = r then (n : Int) else f j) = 0
          rw [if_neg (by omega)]; exact hz j (by omega)) (fun j hj => by
          show 0 ≤ (if j = r then (n : Int) else f j) ∧ (if j = r then (n : Int) else f j) ≤ 1099511627776
          split
          · omega
          · exact hg j hj) h
        have hb : bodyV (fun i => if i = r then (n : Int) else f i) (r + 1) = bodyV f least ++ enc7 r ++ enc7 n ∧ cntV (fun i => if i = r then (n : Int) else f i) (r + 1) = cntV f least + 1 := by
          have q : (fun i => if i = r then (n : Int) else f i) r = (n : Int) := if_pos rfl
          have q0 : (fun i => if i = r then (n : Int) else f i) r ≠ 0 := by rw [q]; omega
          have hrest := bodyV_rest least hz (r - least)
          rw [show least + (r - least) = r by omega] at hrest
          rw [bodyV_one q0, cntV_one q0, if_pos rfl, bodyV_congr (g := f) r (fun j hj => if_neg (by omega)), cntV_congr (g := f) r (fun j hj => if_neg (by omega)), hrest.1, hrest.2]
          exact ⟨by rw [Int.toNat_natCast], rfl⟩
        refine ⟨enc7 r ++ enc7 n ++ mid, ?_, ?_, ?_, e4⟩
        · rw [← i1.2.1, ← i2.2.1, List.append_assoc, List.append_assoc, ← e1, List.take_append_drop, List.take_append_drop]
        · rw [e2, hb.1]; simp only [List.append_assoc]
        · rw [e3, hb.2]; omega
      · rw [stepsV_no2 hx h2] at h; cases h
    · rw [stepsV_no1 h1] at h; cases h
theorem takeR_enc {l : List (BitVec 8)} {g : Nat → Int} {rest : List (BitVec 8)} (h : takeR l = some (g, rest)) : l = encV g ++ rest ∧ ∀ j, j < 16 → 0 ≤ g j ∧ g j ≤ 1099511627776 := by
  unfold takeR at h
  cases e : num7 l with
  | none => rw [e] at h; cases h
  | some x =>
    obtain ⟨c, k⟩ := x
    rw [e] at h
    obtain ⟨mid, e1, e2, e3, e4⟩ := stepsV_enc c 0 _ _ g rest (by omega) (fun _ _ => rfl) (fun _ _ => ⟨by decide, by decide⟩) h
    have hi := num7_inv e
    refine ⟨?_, e4⟩
    unfold encV
    rw [e2, e3, List.append_assoc]
    show l = enc7 (cntV (fun _ => 0) 0 + c) ++ (([] ++ mid) ++ rest)
    rw [show cntV (fun _ => 0) 0 + c = c from Nat.zero_add _, List.nil_append, ← e1, ← hi.2.2.1, List.take_append_drop]
/-- What is written of a good vector is read as it. -/
theorem stepsV_back {f : Nat → Int} (hf : ∀ j, j < 16 → 0 ≤ f j ∧ f j ≤ 1099511627776) (rest : List (BitVec 8)) : ∀ (d i : Nat) (c : Nat) (l : List (BitVec 8)) (least : Nat), i + d = 16 → least ≤ i → (∀ j, least ≤ j → j < i → f j = 0) → cntV f 16 = cntV f i + c → bodyV f 16 ++ rest = bodyV f i ++ l →
    ∃ g, stepsV c least l (fun j => if j < least then f j else 0) = some (g, rest) ∧ ∀ j, j < 16 → g j = f j
  | 0, i, c, l, least, hi, hl, hz, hc, hb => by
    obtain rfl : i = 16 := by omega
    obtain rfl : c = 0 := by omega
    have hb' := List.append_cancel_left hb
    subst hb'
    exact ⟨_, rfl, fun j hj => by
      show (if j < least then f j else 0) = f j
      by_cases h : j < least
      · rw [if_pos h]
      · rw [if_neg h, hz j (by omega) hj]⟩
  | d + 1, i, c, l, least, hi, hl, hz, hc, hb => by
    by_cases h0 : f i = 0
    · exact stepsV_back hf rest d (i + 1) c l least (by omega) (by omega) (fun j h1 h2 => by
        by_cases e : j = i
        · rw [e]; exact h0
        · exact hz j h1 (by omega)) (by rw [cntV_zero h0]; exact hc) (by rw [bodyV_zero h0]; exact hb)
    · have hfi := hf i (by omega)
      -- the bytes from here on
      have hpre : ∀ e, ∃ t, bodyV f (i + 1 + e) = bodyV f (i + 1) ++ t ∧ cntV f (i + 1) ≤ cntV f (i + 1 + e) := by
        intro e
        induction e with
        | zero => exact ⟨[], (List.append_nil _).symm, Nat.le_refl _⟩
        | succ e ih =>
          obtain ⟨t, ht, htc⟩ := ih
          by_cases g0 : f (i + 1 + e) = 0
          · exact ⟨t, by rw [show i + 1 + (e + 1) = (i + 1 + e) + 1 by omega, bodyV_zero g0, ht], by rw [show i + 1 + (e + 1) = (i + 1 + e) + 1 by omega, cntV_zero g0]; exact htc⟩
          · exact ⟨t ++ enc7 (i + 1 + e) ++ enc7 (f (i + 1 + e)).toNat, by rw [show i + 1 + (e + 1) = (i + 1 + e) + 1 by omega, bodyV_one g0, ht]; simp only [List.append_assoc], by rw [show i + 1 + (e + 1) = (i + 1 + e) + 1 by omega, cntV_one g0]; omega⟩
      obtain ⟨t, ht, htc⟩ := hpre (15 - i)
      rw [show i + 1 + (15 - i) = 16 by omega] at ht htc
      rw [cntV_one h0] at htc
      obtain ⟨c', rfl⟩ : ∃ c', c = c' + 1 := ⟨c - 1, by omega⟩
      have hl' : l = enc7 i ++ (enc7 (f i).toNat ++ (t ++ rest)) := by
        rw [ht, bodyV_one h0] at hb
        simp only [List.append_assoc] at hb
        exact (List.append_cancel_left hb).symm
      have r1 : rngI l least 15 = (i, (enc7 i).length, 0) := by
        rw [hl']
        exact rngI_in (num7_enc i _ (by omega)) (by omega)
      have r2 : rngI (l.drop (enc7 i).length) 1 1099511627776 = ((f i).toNat, (enc7 (f i).toNat).length, 0) := by
        rw [hl', List.drop_left]
        exact rngI_in (num7_enc (f i).toNat _ (by omega)) (by omega)
      rw [stepsV_one r1 r2]
      have hd : (l.drop (enc7 i).length).drop (enc7 (f i).toNat).length = t ++ rest := by rw [hl', List.drop_left, List.drop_left]
      rw [hd]
      have hfun : (fun j => if j = i then (((f i).toNat : Nat) : Int) else if j < least then f j else 0) = fun j => if j < i + 1 then f j else 0 := by
        funext j
        by_cases e : j = i
        · rw [if_pos e, if_pos (by omega), e]; omega
        · rw [if_neg e]
          by_cases e2 : j < least
          · rw [if_pos e2, if_pos (by omega)]
          · rw [if_neg e2]
            by_cases e3 : j < i + 1
            · rw [if_pos e3, hz j (by omega) (by omega)]
            · rw [if_neg e3]
      rw [hfun]
      exact stepsV_back hf rest d (i + 1) c' (t ++ rest) (i + 1) (by omega) (Nat.le_refl _) (fun j h1 h2 => by omega) (by rw [cntV_one h0]; omega) (by rw [ht, List.append_assoc])
theorem takeV_back {f : Nat → Int} (hf : ∀ j, j < 16 → 0 ≤ f j ∧ f j ≤ 1099511627776) (rest : List (BitVec 8)) : ∃ g, takeV (encV f ++ rest) = some (g, rest) ∧ ∀ j, j < 16 → g j = f j := by
  have hc := cntV_le f 16
  have h1 : rngI (encV f ++ rest) 0 16 = (cntV f 16, (enc7 (cntV f 16)).length, 0) := by
    unfold encV
    rw [List.append_assoc]
    exact rngI_in (num7_enc _ _ (by omega)) (by omega)
  have h2 : (encV f ++ rest).drop (enc7 (cntV f 16)).length = bodyV f 16 ++ rest := by unfold encV; rw [List.append_assoc, List.drop_left]
  obtain ⟨g, hg, hgf⟩ := stepsV_back hf rest 16 0 (cntV f 16) (bodyV f 16 ++ rest) 0 rfl (Nat.le_refl _) (fun j h1 h2 => by omega) (by show cntV f 16 = 0 + _; omega) rfl
  refine ⟨g, ?_, hgf⟩
  unfold takeV
  simp only [h1, h2, if_true]
  rw [show (fun _ : Nat => (0 : Int)) = fun j => if j < 0 then f j else 0 from funext fun j => (if_neg (by omega)).symm]
  exact hg
end Go.Proofs.YtfemgkamgokjcaaGreatDoor
/- The encoding of a record, and what is taken of bytes as one; plain functions. -/
set_option maxRecDepth 100000
namespace Go.Proofs.YtfemgkamgokjcaaGreatDoor
open Go Go.RowKit
attribute [-go_sem] Sha.exec_store

abbrev By := List (BitVec 8)
/-- A path's bytes. -/
def pB (p : S8) : By := p.map UInt8.toBitVec
theorem pB_len (p : S8) : (pB p).length = p.length := by unfold pB; rw [List.length_map]
def pS (b : By) : S8 := b.map UInt8.ofBitVec
theorem pS_len (b : By) : (pS b).length = b.length := by unfold pS; rw [List.length_map]
theorem pS_pB (p : S8) : pS (pB p) = p := by
  unfold pS pB
  rw [List.map_map]
  exact (List.map_congr_left fun x _ => by rfl).trans (List.map_id p)
theorem strOf_pS (b : By) : strOf b = mkS (pS b) := by unfold mkS pS strOf; rfl
theorem strOf_pB (p : S8) : strOf (pB p) = mkS p := by rw [strOf_pS, pS_pB]
/-- One step of a reading. -/
def stp {α β : Type} (x : α × Nat × Nat) (l : By) (f : α → By → Except Nat β) : Except Nat β := if x.2.2 = 0 then f x.1 (l.drop x.2.1) else .error x.2.2
theorem stp_ok {α β : Type} {x : α × Nat × Nat} {l : By} {f : α → By → Except Nat β} {a : α} {k : Nat} (h : x = (a, k, 0)) : stp x l f = f a (l.drop k) := by subst h; rfl
theorem stp_no {α β : Type} {x : α × Nat × Nat} {l : By} {f : α → By → Except Nat β} (h : x.2.2 ≠ 0) : stp x l f = .error x.2.2 := by unfold stp; rw [if_neg h]
/-- What a record tells but for where its digests lie. -/
structure RcT where
  path : By
  size : Nat
  time : Nat
  chg : Nat
  ver : Nat → Int
  dead : Bool
  whole : By
  ds : List By
def maxT : Int := 9223372036854775807
/-- k digests at the beginning of bytes. -/
def digsN : Nat → By → Option (List By × By)
  | 0, l => some ([], l)
  | k + 1, l => if l.length < 32 then none else (digsN k (l.drop 32)).map fun x => (l.take 32 :: x.1, x.2)
/-- The record at the beginning of bytes; or the error. -/
def takeRc (l : By) : Except Nat (RcT × By) :=
  stp (nextI l 2 100) l fun x l1 => stp (takeI l1 maxT) l1 fun s l2 => stp (takeI l2 maxT) l2 fun t l3 => stp (takeI l3 maxT) l3 fun c l4 =>
    match takeV l4 with
    | none => .error 6
    | some (f, l5) => stp (nextI l5 3 0) l5 fun d l6 =>
      if d.n = 1 then .ok (⟨x.b, s, t, c, f, true, z32, []⟩, l6)
      else stp (nextI l6 4 0) l6 fun h l7 => stp (takeI l7 64) l7 fun k l8 =>
        match digsN k l8 with
        | none => .error 6
        | some (ds, l9) => .ok (⟨x.b, s, t, c, f, false, h.b, ds⟩, l9)
/-- What goes ahead of a record's last digest. -/
def bodyRc (r : RcT) : By :=
  (enc7 r.path.length ++ r.path) ++ enc7 r.size ++ enc7 r.time ++ enc7 r.chg ++ encV r.ver ++ (if r.dead then [1#8] else ([0#8] ++ r.whole) ++ enc7 r.ds.length ++ r.ds.flatten)
def encRc (r : RcT) : By := bodyRc r ++ digL (bodyRc r)
theorem takeI_encT {n : Nat} (r : By) {most : Int} (h : n < 9223372036854775808) (hm : (n : Int) ≤ most) : takeI (enc7 n ++ r) most = (n, (enc7 n).length, 0) := takeI_some (num7_enc n r h) (by omega)
theorem next_text (b r : By) {most : Int} (h : b.length < 9223372036854775808) (hm : (b.length : Int) ≤ most) : nextI ((enc7 b.length ++ b) ++ r) 2 most = (⟨2, 0, b⟩, (enc7 b.length ++ b).length, 0) := by
  rw [nextI_take (by decide) (by decide), List.append_assoc, takeI_encT _ h hm, if_neg (by simp), if_neg (by omega)]
  dsimp only
  rw [if_neg (by simp), List.drop_left, List.length_append, List.take_left]
theorem next_bytes (b r : By) {most : Int} (h : b.length < 9223372036854775808) (hm : (b.length : Int) ≤ most) : nextI ((enc7 b.length ++ b) ++ r) 1 most = (⟨1, 0, b⟩, (enc7 b.length ++ b).length, 0) := by
  rw [nextI_take (by decide) (by decide), List.append_assoc, takeI_encT _ h hm, if_neg (by simp), if_neg (by omega)]
  dsimp only
  rw [if_neg (by simp), List.drop_left, List.length_append, List.take_left]
theorem next_one (r : By) : nextI (1#8 :: r) 3 0 = (⟨3, 1, []⟩, 1, 0) := by unfold nextI; rw [if_pos rfl, if_neg (by simp)]; rfl
theorem next_zero (r : By) : nextI (0#8 :: r) 3 0 = (⟨3, 0, []⟩, 1, 0) := by unfold nextI; rw [if_pos rfl, if_neg (by simp)]; rfl
theorem next_dig (d r : By) (h : d.length = 32) : nextI (d ++ r) 4 0 = (⟨4, 0, d⟩, 32, 0) := by
  unfold nextI
  rw [if_neg (by decide), if_pos rfl, if_neg (by rw [List.length_append]; omega), List.take_append_of_le_length (by omega), List.take_of_length_le (by omega)]
theorem digsN_back : ∀ (ds : List By) (r : By), (∀ d ∈ ds, d.length = 32) → digsN ds.length (ds.flatten ++ r) = some (ds, r)
  | [], r, _ => rfl
  | d :: ds, r, h => by
    have hd := h d (by simp)
    have ih := digsN_back ds r fun x hx => h x (by simp [hx])
    show (if ((d :: ds).flatten ++ r).length < 32 then none else _) = _
    have e : (d :: ds).flatten ++ r = d ++ (ds.flatten ++ r) := by simp
    rw [e, if_neg (by rw [List.length_append]; omega), List.drop_append_of_le_length (by omega), List.drop_of_length_le (by omega), List.nil_append, ih, List.take_append_of_le_length (by omega), List.take_of_length_le (by omega)]
    rfl
/-- What may be written and read again. -/
structure RcW (r : RcT) : Prop where
  path : r.path.length ≤ 100
  size : r.size < 9223372036854775808
  time : r.time < 9223372036854775808
  chg : r.chg < 9223372036854775808
  ver : ∀ i, i < 16 → 0 ≤ r.ver i ∧ r.ver i ≤ 1099511627776
  whole : r.dead = false → r.whole.length = 32
  ds : r.dead = false → r.ds.length ≤ 64
  each : r.dead = false → ∀ d ∈ r.ds, d.length = 32
/-- A record as it is read. -/
def RcT.nrm (r : RcT) (g : Nat → Int) : RcT := if r.dead then { r with ver := g, whole := z32, ds := [] } else { r with ver := g }
theorem takeRc_back {r : RcT} (h : RcW r) (rest : By) : ∃ g, takeRc (bodyRc r ++ rest) = .ok (r.nrm g, rest) ∧ ∀ j, j < 16 → g j = r.ver j := by
  obtain ⟨h1, h2, h3, h4, h5, h6, h7, h8⟩ := h
  obtain ⟨path, size, time, chg, ver, dead, whole, ds⟩ := r
  dsimp only at *
  obtain ⟨g, hg, hgf⟩ := takeV_back h5 ((if dead then [1#8] else ([0#8] ++ whole) ++ enc7 ds.length ++ ds.flatten) ++ rest)
  refine ⟨g, ?_, hgf⟩
  unfold bodyRc takeRc
  dsimp only
  have e : (enc7 path.length ++ path) ++ enc7 size ++ enc7 time ++ enc7 chg ++ encV ver ++ (if dead = true then [1#8] else ([0#8] ++ whole) ++ enc7 ds.length ++ ds.flatten) ++ rest = (enc7 path.length ++ path) ++ (enc7 size ++ (enc7 time ++ (enc7 chg ++ (encV ver ++ ((if dead = true then [1#8] else ([0#8] ++ whole) ++ enc7 ds.length ++ ds.flatten) ++ rest))))) := by
    simp only [List.append_assoc]
  rw [e, stp_ok (next_text path _ (by omega) (by omega)), List.drop_left, stp_ok (takeI_encT _ h2 (by unfold maxT; omega)), List.drop_left, stp_ok (takeI_encT _ h3 (by unfold maxT; omega)), List.drop_left, stp_ok (takeI_encT _ h4 (by unfold maxT; omega)), List.drop_left, hg]
  dsimp only
  cases dead with
  | true =>
    rw [if_pos rfl, List.singleton_append, stp_ok (next_one rest)]
    dsimp only
    rw [if_pos rfl]
    rfl
  | false =>
    rw [if_neg (by decide), List.append_assoc, List.append_assoc, List.append_assoc, List.singleton_append, stp_ok (next_zero _)]
    dsimp only
    rw [if_neg (by decide), List.drop_succ_cons, List.drop_zero, stp_ok (next_dig _ _ (h6 rfl))]
    have hd : ∀ x : By, (whole ++ x).drop 32 = x := fun x => by rw [List.drop_append_of_le_length (by rw [h6 rfl]; exact Nat.le_refl _), List.drop_of_length_le (by rw [h6 rfl]; exact Nat.le_refl _), List.nil_append]
    rw [hd, stp_ok (takeI_encT _ (by have := h7 rfl; omega) (by have := h7 rfl; omega)), List.drop_left, digsN_back ds rest (h8 rfl)]
    rfl
end Go.Proofs.YtfemgkamgokjcaaGreatDoor
