/- Merged texts: ClsP6, ReadP6, RdrP6, FstP6, CopyB, CopyM, CutP6, Cmp9, Mrg9, Bmp9, Mgl9, Awk9, Nbr9, Tak9, Rtk9, Enc9, Tke9, Its6, Dig6, Rcd10, Enc10. -/
import Derived.Recover
import Derived.Laws.Pointers
import Derived.Test.YtkajeepbelfpiaaGreatDoorCode6
import Derived.Test.YtkajeepbelfpiaaGreatDoorCuts
import Derived.Lib.MinMax
import Derived.Lib.QuoteBits
import Derived.Test.YtkajeepbelfpiaaGreatDoorNextN6
import Derived.Laws.CopyOwn
import Derived.Test.YtkajeepbelfpiaaGreatDoorBytes
import Derived.Deep.RegionLaw
import Derived.Lib.Hide
import Derived.BigQuiet
import Derived.Test.YtkajeepbelfpiaaGreatDoorVec9
import Derived.Deep.RegionHeld3
import Derived.Test.YtkajeepbelfpiaaGreatDoorNum6
import Derived.Deep.AppendLies
import Derived.Laws.Tables
import Derived.Laws.NewDeep
import Derived.Test.YtkajeepbelfpiaaGreatDoorLdT
import Derived.Test.YtkajeepbelfpiaaGreatDoorStr7
import Derived.Test.YtkajeepbelfpiaaGreatDoorSha10
set_option linter.unusedSimpArgs false
set_option linter.unusedVariables false
/- What the program's Reader is in memory; 'close', with which a reading ends. -/
set_option maxRecDepth 100000
namespace Go.Proofs.YtkajeepbelfpiaaGreatDoor
open Go Go.RowKit
attribute [-go_sem] Sha.exec_store

theorem cell_off (w : World) (b i j : Nat) (v : Value) (h : i ≠ j) : (w.setCell ⟨b, i, none⟩ v).cell? ⟨b, j, none⟩ = w.cell? ⟨b, j, none⟩ := World.cell?_setCell_other _ _ _ _ (fun e => h (congrArg Addr.off e))
/-- The cells of the reader in block b: what is left, whether the reading goes on, why it was ended. -/
structure RdC (w : World) (b : Nat) (q : Option Addr) (n cap : Nat) (o : Bool) (c : Nat) : Prop where
  c0 : w.cell? ⟨b, 0, none⟩ = some (.slice q n cap)
  c1 : w.cell? ⟨b, 1, none⟩ = some (.bool o)
  c2 : w.cell? ⟨b, 2, none⟩ = some (.int .i64 (c : Int))
  f0 : w.frozen? ⟨b, 0, none⟩ = false
  f1 : w.frozen? ⟨b, 1, none⟩ = false
  f2 : w.frozen? ⟨b, 2, none⟩ = false
theorem RdC.same {w w' : World} {b : Nat} {q : Option Addr} {n cap : Nat} {o : Bool} {c : Nat} (h : RdC w b q n cap o c) (hb : w'.heap[b]? = w.heap[b]?) : RdC w' b q n cap o c :=
  ⟨by rw [World.cell?_of_block (w := w) hb]; exact h.c0, by rw [World.cell?_of_block (w := w) hb]; exact h.c1, by rw [World.cell?_of_block (w := w) hb]; exact h.c2,
   by rw [World.frozen?_of_block (w := w) hb]; exact h.f0, by rw [World.frozen?_of_block (w := w) hb]; exact h.f1, by rw [World.frozen?_of_block (w := w) hb]; exact h.f2⟩
/-- The reader at a has the bytes l left. -/
def RdP (p : Option Addr) (N : Nat) (w : World) (a : Addr) (l : List (BitVec 8)) : Prop := ∃ (b : Nat) (q : Option Addr) (cap : Nat), a = ⟨b, 0, none⟩ ∧ N ≤ b ∧ RdC w b q l.length cap true 0 ∧ Sl w q l ∧ (q = none → cap = 0) ∧ l.length ≤ cap ∧ l.length < 1000000 ∧ (0 < l.length → ∀ c o, q = some ⟨c, o, none⟩ → c < N ∧ ∃ o', p = some ⟨c, o', none⟩)
/-- What is thrown, and that the reader holds why. -/
def ThrP (a : Addr) (c : Nat) (w : World) (v : Value) : Prop := v = .iface 278 (.agg #[.pointer (some a)]) ∧ c ≠ 0 ∧ c < 15 ∧ ∃ (b : Nat) (q : Option Addr) (n cap : Nat), a = ⟨b, 0, none⟩ ∧ RdC w b q n cap true c
theorem ta_end (x : Value) (w : World) : (Instr.typeAssert (.iface 278 x) 20 278 true).run Tryz.prog w = .ok (.tuple #[x, .bool true]) w := by kernel_rfl
theorem pn_in (d : Nat) (a : Addr) (w : World) : (Op.equalIn (d + 1) 213 (.pointer (some a)) (.pointer (some a))).run Tryz.prog w = .ok true w := by
  have hu : Tryz.prog.underlying 213 = some (.pointer 246) := by kernel_rfl
  have hs : (Tryz.prog.info? 246).map (·.size) = some 3 := by kernel_rfl
  cases hq : Tryz.prog.info? 246 with
  | none => rw [hq] at hs; cases hs
  | some i =>
    rw [hq] at hs
    simp at hs
    simp [Op.equalIn, run_underlying hu, sizeOf, typeInfo, hq, hs, sameAddr]
/-- A reader is itself. -/
theorem pn_same (a : Addr) (w : World) : (binOp .neq 213 (.pointer (some a)) (.pointer (some a))).run Tryz.prog w = .ok (.bool false) w := by
  have h : (Op.equal 213 (.pointer (some a)) (.pointer (some a))).run Tryz.prog w = .ok true w := pn_in 9999 a w
  simp only [binOp]
  simp [h]
attribute [local go_sem ↓] ta_end pn_same
set_option maxHeartbeats 1000000 in
/-- The reading was ended. -/
theorem close_thrown (w : World) (b : Nat) (q : Option Addr) (n cap c : Nat) (h : RdC w b q n cap true c) (hc : c ≠ 0) (hc15 : c < 15) : Calls Tryz.prog 180 #[.pointer (some ⟨b, 0, none⟩), .iface 278 (.agg #[.pointer (some ⟨b, 0, none⟩)])] w fun e w' => e = .returned (.int .i64 (c : Int)) ∧ Kp b w w' := by
  obtain ⟨c0, c1, c2, f0, f1, f2⟩ := h
  have hblt := World.block_lt_of_cell? w _ c0
  have k2 : (((w.setCell ⟨b, 0, none⟩ (.slice none 0 0)).setCell ⟨b, 1, none⟩ (.bool false)).alloc (.cells #[.pointer (some ⟨b, 0, none⟩)] 278)).cell? ⟨b, 2, none⟩ = some (.int .i64 (c : Int)) := by
    rw [((Below.refl _ _).alloc (Nat.le_refl _) _).cell (by simpa using hblt), cell_off _ _ _ _ _ (by decide), cell_off _ _ _ _ _ (by decide)]; exact c2
  have hz : ((c : Int) == 0) = false := by simp; omega
  go_enter Tryz.func180, Tryz.ntmps180
  go_wp2
  go_ret
  exact ⟨rfl, (((Kp.refl b w).setCell 0 _).setCell 1 _).alloc _⟩
set_option maxHeartbeats 1000000 in
/-- The reading came to its end. -/
theorem close_idle (w : World) (b : Nat) (q : Option Addr) (n cap : Nat) (h : RdC w b q n cap true 0) : Calls Tryz.prog 180 #[.pointer (some ⟨b, 0, none⟩), .nilIface] w fun e w' => e = .returned (.int .i64 ((if n = 0 then 0 else 6 : Nat) : Int)) ∧ Kp b w w' := by
  obtain ⟨c0, c1, c2, f0, f1, f2⟩ := h
  have k2 : ((w.setCell ⟨b, 0, none⟩ (.slice none 0 0)).setCell ⟨b, 1, none⟩ (.bool false)).cell? ⟨b, 2, none⟩ = some (.int .i64 0) := by
    rw [cell_off _ _ _ _ _ (by decide), cell_off _ _ _ _ _ (by decide)]; exact c2
  by_cases h0 : n = 0
  · subst h0
    go_enter Tryz.func180, Tryz.ntmps180
    go_wp2
    go_ret
    exact ⟨rfl, ((Kp.refl b w).setCell 0 _).setCell 1 _⟩
  · have hRz : decide ((0 : Int) < (n : Int)) = true := decide_eq_true (by omega)
    have hRy : (0 : Int) < (n : Int) := by omega
    rw [if_neg h0]
    go_enter Tryz.func180, Tryz.ntmps180
    go_wp2
    go_ret
    exact ⟨rfl, ((Kp.refl b w).setCell 0 _).setCell 1 _⟩
end Go.Proofs.YtkajeepbelfpiaaGreatDoor
/- Read's deferred closure, which draws its order: what was thrown is recovered, and the reading closed. -/
set_option maxRecDepth 100000
namespace Go.Proofs.YtkajeepbelfpiaaGreatDoor
open Go Go.RowKit
attribute [-go_sem] Sha.exec_store

theorem go_step (md : Region.Mode) (ops : Array Oper) (f t : Nat) (L : Array Bool) (acc : List Nat) : Region.linearise.go md ops (f + 1) t L acc =
    match (Region.ready md ops L)[t % (Region.ready md ops L).length]? with
    | some i => Region.linearise.go md ops f (t / (Region.ready md ops L).length) (L.setIfInBounds i true) (i :: acc)
    | none => acc.reverse := rfl
theorem go_one (md : Region.Mode) (ops : Array Oper) (f t : Nat) (L : Array Bool) (acc : List Nat) (i : Nat) (h : Region.ready md ops L = [i]) : Region.linearise.go md ops (f + 1) t L acc = Region.linearise.go md ops f t (L.setIfInBounds i true) (i :: acc) := by
  rw [go_step, h]
  simp [Nat.mod_one]
/-- Four operations, of which the first two come in any order. -/
theorem order4 (ops : Array Oper) (hs : ops.size = 4) (h0 : Region.ready .any ops #[false, false, false, false] = [0, 1]) (h1 : Region.ready .any ops #[true, false, false, false] = [1]) (h2 : Region.ready .any ops #[false, true, false, false] = [0])
    (h3 : Region.ready .any ops #[true, true, false, false] = [2]) (h4 : Region.ready .any ops #[true, true, true, false] = [3]) (t : Nat) : Region.linearise .any ops t = [0, 1, 2, 3] ∨ Region.linearise .any ops t = [1, 0, 2, 3] := by
  unfold Region.linearise
  rw [hs, show Array.replicate 4 false = #[false, false, false, false] from rfl, go_step, h0]
  rcases Nat.mod_two_eq_zero_or_one t with e | e
  · left
    show (match [0, 1][t % 2]? with | some i => Region.linearise.go .any ops 3 (t / 2) (#[false, false, false, false].setIfInBounds i true) [i] | none => [].reverse) = _
    rw [e]
    show Region.linearise.go .any ops 3 (t / 2) #[true, false, false, false] [0] = _
    rw [go_one _ _ _ _ _ _ 1 h1]
    show Region.linearise.go .any ops 2 (t / 2) #[true, true, false, false] [1, 0] = _
    rw [go_one _ _ _ _ _ _ 2 h3]
    show Region.linearise.go .any ops 1 (t / 2) #[true, true, true, false] [2, 1, 0] = _
    rw [go_one _ _ _ _ _ _ 3 h4]
    rfl
  · right
    show (match [0, 1][t % 2]? with | some i => Region.linearise.go .any ops 3 (t / 2) (#[false, false, false, false].setIfInBounds i true) [i] | none => [].reverse) = _
    rw [e]
    show Region.linearise.go .any ops 3 (t / 2) #[false, true, false, false] [1] = _
    rw [go_one _ _ _ _ _ _ 0 h2]
    show Region.linearise.go .any ops 2 (t / 2) #[true, true, false, false] [0, 1] = _
    rw [go_one _ _ _ _ _ _ 2 h3]
    show Region.linearise.go .any ops 1 (t / 2) #[true, true, true, false] [2, 0, 1] = _
    rw [go_one _ _ _ _ _ _ 3 h4]
    rfl
theorem wpS_region4 {P : Program} {id : Nat} {ops : Array Oper} {Q : Exit → Act → List Frame → World → Prop} {a : Act} {cs : List Frame} {w : World} (hm : P.follows .mixedOrders = true) (hs : ops.size = 4) (h0 : Region.ready .any ops #[false, false, false, false] = [0, 1]) (h1 : Region.ready .any ops #[true, false, false, false] = [1]) (h2 : Region.ready .any ops #[false, true, false, false] = [0])
    (h3 : Region.ready .any ops #[true, true, false, false] = [2]) (h4 : Region.ready .any ops #[true, true, true, false] = [3]) (hA : wpOpsS P ops Q [0, 1, 2, 3] a cs w.drew) (hB : wpOpsS P ops Q [1, 0, 2, 3] a cs w.drew) : (Code.region id ops true).wpS P Q a cs w := by
  have h : ∀ t, wpOpsS P ops Q (Region.schedule (P.follows .mixedOrders) ops t) a cs w.drew := fun t => by
    simp only [Region.schedule, hm, Bool.true_or, if_true]
    rcases order4 ops hs h0 h1 h2 h3 h4 t with e | e
    · rw [e]; exact hA
    · rw [e]; exact hB
  intro b k hb hr
  obtain ⟨e, a', cs', w', q, r⟩ := wp_opsS _ a cs _ (h _) b k hb hr
  exact ⟨e, a', cs', w', q, .of_steps (.one step_region_draw) r⟩
set_option maxHeartbeats 400000 in
/-- The deferred closure where the reading was ended. -/
theorem catch_thrown (b : Nat) (q : Option Addr) (n cap c : Nat) (rb cb : Nat) (old : Value) (w : World) (h : RdC w b q n cap true c) (h0 : c ≠ 0) (h15 : c < 15) (hr : w.cell? ⟨rb, 0, none⟩ = some (.pointer (some ⟨b, 0, none⟩))) (hc : w.cell? ⟨cb, 0, none⟩ = some old) (hf : w.frozen? ⟨cb, 0, none⟩ = false) (hne : cb ≠ b) :
    CallsD Tryz.prog 179 #[.pointer (some ⟨rb, 0, none⟩), .pointer (some ⟨cb, 0, none⟩)] (.panicking [{ v := .iface 278 (.agg #[.pointer (some ⟨b, 0, none⟩)]), recovered := false }]) w fun e u' w' =>
      e = .returned (.tuple #[]) ∧ u' = .panicking [{ v := .iface 278 (.agg #[.pointer (some ⟨b, 0, none⟩)]), recovered := true }] ∧ ∃ w2, Kp b w w2 ∧ w' = w2.setCell ⟨cb, 0, none⟩ (.int .i64 (c : Int)) := by
  have hlt := World.block_lt_of_cell? w _ hc
  have HC := Lib.hid (close_thrown w.drew b q n cap c (h.same rfl) h0 h15)
  refine callsD_of_wpS Tryz.func179 rfl fun c₀ cs hu => ?_
  refine wpS_region4 (by kernel_rfl) rfl (by kernel_rfl) (by kernel_rfl) (by kernel_rfl) (by kernel_rfl) (by kernel_rfl) ?_ ?_
  · simp [wpOpsS, go_sem, recoverD, hu, hr, Tryz.ntmps179, Exit.thenS]
    refine HC.out.mono ?_
    rintro e w2 ⟨rfl, hK⟩
    have k1 : w2.cell? ⟨cb, 0, none⟩ = some old := by rw [hK.cell (by exact hlt) (by exact hne)]; exact hc
    have k2 : w2.frozen? ⟨cb, 0, none⟩ = false := by rw [hK.frozen (by exact hlt) (by exact hne)]; exact hf
    simp [go_sem, k1, k2, bodyPostS, results, Tryz.results179]
    exact ⟨w2, ((Kp.refl b w).drewN 1).trans hK, rfl⟩
  · simp [wpOpsS, go_sem, recoverD, hu, hr, Tryz.ntmps179, Exit.thenS]
    refine HC.out.mono ?_
    rintro e w2 ⟨rfl, hK⟩
    have k1 : w2.cell? ⟨cb, 0, none⟩ = some old := by rw [hK.cell (by exact hlt) (by exact hne)]; exact hc
    have k2 : w2.frozen? ⟨cb, 0, none⟩ = false := by rw [hK.frozen (by exact hlt) (by exact hne)]; exact hf
    simp [go_sem, k1, k2, bodyPostS, results, Tryz.results179]
    exact ⟨w2, ((Kp.refl b w).drewN 1).trans hK, rfl⟩
set_option maxHeartbeats 400000 in
/-- The deferred closure where the reading came to its end. -/
theorem catch_idle (b : Nat) (q : Option Addr) (n cap : Nat) (rb cb : Nat) (old : Value) (w : World) (h : RdC w b q n cap true 0) (hr : w.cell? ⟨rb, 0, none⟩ = some (.pointer (some ⟨b, 0, none⟩))) (hc : w.cell? ⟨cb, 0, none⟩ = some old) (hf : w.frozen? ⟨cb, 0, none⟩ = false) (hne : cb ≠ b) :
    CallsD Tryz.prog 179 #[.pointer (some ⟨rb, 0, none⟩), .pointer (some ⟨cb, 0, none⟩)] .returning w fun e u' w' =>
      e = .returned (.tuple #[]) ∧ u' = .returning ∧ ∃ w2, Kp b w w2 ∧ w' = w2.setCell ⟨cb, 0, none⟩ (.int .i64 ((if n = 0 then 0 else 6 : Nat) : Int)) := by
  have hlt := World.block_lt_of_cell? w _ hc
  have HC := Lib.hid (close_idle w.drew b q n cap (h.same rfl))
  refine callsD_of_wpS Tryz.func179 rfl fun c₀ cs hu => ?_
  refine wpS_region4 (by kernel_rfl) rfl (by kernel_rfl) (by kernel_rfl) (by kernel_rfl) (by kernel_rfl) (by kernel_rfl) ?_ ?_
  · simp [wpOpsS, go_sem, recoverD, hu, hr, Tryz.ntmps179, Exit.thenS]
    refine HC.out.mono ?_
    rintro e w2 ⟨rfl, hK⟩
    have k1 : w2.cell? ⟨cb, 0, none⟩ = some old := by rw [hK.cell (by exact hlt) (by exact hne)]; exact hc
    have k2 : w2.frozen? ⟨cb, 0, none⟩ = false := by rw [hK.frozen (by exact hlt) (by exact hne)]; exact hf
    simp [go_sem, k1, k2, bodyPostS, results, Tryz.results179]
    exact ⟨.returning, by cases c₀; simp_all, rfl, w2, ((Kp.refl b w).drewN 1).trans hK, rfl⟩
  · simp [wpOpsS, go_sem, recoverD, hu, hr, Tryz.ntmps179, Exit.thenS]
    refine HC.out.mono ?_
    rintro e w2 ⟨rfl, hK⟩
    have k1 : w2.cell? ⟨cb, 0, none⟩ = some old := by rw [hK.cell (by exact hlt) (by exact hne)]; exact hc
    have k2 : w2.frozen? ⟨cb, 0, none⟩ = false := by rw [hK.frozen (by exact hlt) (by exact hne)]; exact hf
    simp [go_sem, k1, k2, bodyPostS, results, Tryz.results179]
    exact ⟨.returning, by cases c₀; simp_all, rfl, w2, ((Kp.refl b w).drewN 1).trans hK, rfl⟩
theorem Sl.blk6 {w : World} {p : Option Addr} {l : List (BitVec 8)} (h : Sl w p l) (hl : 0 < l.length) : ∀ c o, p = some ⟨c, o, none⟩ → c < w.heap.size := fun c o e => by
  obtain ⟨c', o', e', hc⟩ := h 0 hl
  rw [e] at e'
  injection e' with e'
  injection e' with e1 e2
  subst e1
  exact World.block_lt_of_cell? w _ hc
theorem sl_full (q : Option Addr) (n cap : Nat) (w : World) (hn : n ≤ cap) : (slT 56 (.slice q n cap) none (some (.int .i64 (n : Int))) (some (.int .i64 (n : Int)))).run Tryz.prog w = .ok (.value (.slice q n n)) w := by
  have h1 := run_sliceAt_slice (P := Tryz.prog) w 56 (.slice q n cap) none (some (.int .i64 (n : Int))) (some (.int .i64 (n : Int))) und35
  rw [run_slice_hm (P := Tryz.prog) w 56 q n cap und35 .i64 .i64 (n : Int) (n : Int) (by omega) (by omega) (by omega), sizeB] at h1
  simp only [slT, Sem.run_bind, h1, Result.andThen_ok, Sem.run_pure]
  simp only [sliced, Int.toNat_natCast, Nat.zero_mul, Nat.sub_zero]
  have := cutA_zero q n
  unfold cutA at this
  rw [this]
attribute [local go_sem] mkFn sl_full
attribute [local go_sem ↓] exec_slice
end Go.Proofs.YtkajeepbelfpiaaGreatDoor
/- The reader's small functions: what lies where, Left, cmp.Or of an error, Fail. -/
set_option maxRecDepth 100000
namespace Go.Proofs.YtkajeepbelfpiaaGreatDoor
open Go Go.RowKit
attribute [-go_sem] Sha.exec_store

theorem rdP_lie (p : Option Addr) (N : Nat) (w : World) (a : Addr) (l : List (BitVec 8)) (h : RdP p N w a l) : N ≤ a.block ∧ a.block < w.heap.size := by
  obtain ⟨b, q, cap, rfl, h1, h2, -⟩ := h
  exact ⟨h1, World.block_lt_of_cell? w _ h2.c0⟩
theorem rdP_stay (p : Option Addr) (N : Nat) (w w' : World) (a : Addr) (l : List (BitVec 8)) (h : RdP p N w a l) (hs : w.heap.size ≤ w'.heap.size) (hb : w'.heap[a.block]? = w.heap[a.block]?) (hp : ∀ c o, p = some ⟨c, o, none⟩ → c < N → w'.heap[c]? = w.heap[c]?) : RdP p N w' a l := by
  obtain ⟨b, q, cap, rfl, h1, h2, h4, h5, h6, h7, h8⟩ := h
  refine ⟨b, q, cap, rfl, h1, h2.same hb, fun j hj => ?_, h5, h6, h7, h8⟩
  obtain ⟨c, o, e, hx⟩ := h4 j hj
  obtain ⟨hc, o', e'⟩ := h8 (by omega) c o e
  exact ⟨c, o, e, by rw [World.cell?_of_block (w := w) (hp c o' e' hc)]; exact hx⟩
set_option maxHeartbeats 1000000 in
/-- cmp.Or of no reason so far, a reason that is told, and ErrForm. -/
theorem or_any (m c x : Nat) (w : World) (hx : (if c = 0 then 6 else c) = x) (h0 : w.cell? ⟨m, 0, none⟩ = some (.int .i64 0)) (h1 : w.cell? ⟨m, 1, none⟩ = some (.int .i64 (c : Int))) (h2 : w.cell? ⟨m, 2, none⟩ = some (.int .i64 6)) :
    Calls Tryz.prog 212 #[.slice (some ⟨m, 0, none⟩) 3 3] w fun e w' => e = .returned (.int .i64 (x : Int)) ∧ w = w' := by
  have HC := Lib.hid (And.intro h0 (And.intro h1 h2))
  clear h0 h1 h2
  go_enter Tryz.func212, Tryz.ntmps212
  go_wp2
  go_loopw [5, 8] (fun vv vi wr => (vi = .int .i64 0 ∨ vi = .int .i64 1 ∨ (vi = .int .i64 2 ∧ c = 0)) ∧ w = wr) (fun vv vi _ => 3 - (intOf vi).toNat)
  case atStart => exact ⟨.inl rfl, rfl⟩
  case round =>
    obtain ⟨hi, rfl⟩ := hrel
    obtain ⟨h0, h1, h2⟩ := HC.out
    rcases hi with rfl | rfl | ⟨rfl, hc⟩
    · clear h1 h2
      go_wp2
      exact ⟨⟨.inr (.inl rfl), trivial⟩, by decide⟩
    · clear h0 h2
      by_cases h : c = 0
      · subst h
        go_wp2
        exact ⟨⟨.inr (.inr ⟨rfl, trivial⟩), trivial⟩, by decide⟩
      · rw [if_neg h] at hx
        subst hx
        have hz : ((c : Int) == 0) = false := by simp; omega
        have hz2 : ((c : Int) != 0) = true := by simp; omega
        go_wp2
        go_ret
        exact ⟨rfl, rfl⟩
    · rw [if_pos hc] at hx
      subst hx
      clear hc
      go_wp2
      go_ret
      exact ⟨rfl, rfl⟩
set_option maxHeartbeats 1000000 in
theorem rdP_fail (p : Option Addr) (N : Nat) (w : World) (a : Addr) (l : List (BitVec 8)) (c : Nat) (h : RdP p N w a l) (hc : c < 15) : Calls Tryz.prog 182 #[.pointer (some a), .int .i64 (c : Int)] w fun e w' => Thrown (ThrP a) (if c = 0 then 6 else c) e w' ∧ Kp a.block w w' := by
  obtain ⟨b, q, cap, rfl, h1, h2, -⟩ := h
  obtain ⟨k0, k1, k2, f0, f1, f2⟩ := h2
  have hblt := World.block_lt_of_cell? w _ k0
  obtain ⟨V, hV⟩ : ∃ V, w.alloc (.cells #[.int .i64 0, .int .i64 (c : Int), .int .i64 6] 35) = V := ⟨_, rfl⟩
  have hB : Below w.heap.size w V := by rw [← hV]; exact (Below.refl _ _).alloc (Nat.le_refl _) _
  obtain ⟨x, hx⟩ : ∃ x : Nat, (if c = 0 then 6 else c) = x := ⟨_, rfl⟩
  have HO := Lib.hid (or_any w.heap.size c x V hx (by rw [← hV]; exact World.cell?_alloc_new _ _ _ _) (by rw [← hV]; exact World.cell?_alloc_new _ _ _ _) (by rw [← hV]; exact World.cell?_alloc_new _ _ _ _))
  have v2 : V.cell? ⟨b, 2, none⟩ = some (.int .i64 0) := by rw [hB.cell (by exact hblt)]; exact k2
  have g2 : V.frozen? ⟨b, 2, none⟩ = false := by rw [hB.frozen (by exact hblt)]; exact f2
  rw [hx]
  have hx15 : x ≠ 0 ∧ x < 15 := by subst hx; split <;> omega
  have HX := Lib.hid hx15
  have HK := Lib.hid (show RdC (V.setCell ⟨b, 2, none⟩ (.int .i64 (x : Int))) b q l.length cap true x ∧ Kp b w (V.setCell ⟨b, 2, none⟩ (.int .i64 (x : Int))) from
    ⟨⟨by rw [cell_off _ _ _ _ _ (by decide), hB.cell (by exact hblt)]; exact k0, by rw [cell_off _ _ _ _ _ (by decide), hB.cell (by exact hblt)]; exact k1, World.cell?_setCell_same _ _ _ v2,
      by rw [World.frozen?_setCell, hB.frozen (by exact hblt)]; exact f0, by rw [World.frozen?_setCell, hB.frozen (by exact hblt)]; exact f1, by rw [World.frozen?_setCell]; exact g2⟩,
     ((Kp.refl b w).of_below hB).setCell 2 _⟩)
  have hV2 := Lib.hid hV
  clear hx hx15 k0 f0 f1 f2 hB
  go_enter Tryz.func182, Tryz.ntmps182
  go_wp2_with fail
  refine HO.out.mono ?_
  rintro e w' ⟨rfl, rfl⟩
  clear hV HO
  go_wp2
  exact ⟨rfl, ⟨_, ⟨rfl, HX.out.1, HX.out.2, b, q, _, cap, rfl, HK.out.1⟩, rfl⟩, HK.out.2⟩
end Go.Proofs.YtkajeepbelfpiaaGreatDoor
/- The program's numbers, read: 'first'. -/
set_option maxRecDepth 100000
namespace Go.Proofs.YtkajeepbelfpiaaGreatDoor
open Go Go.RowKit
attribute [-go_sem] Sha.exec_store

/-- The number at the beginning, and the size of its encoding; 0 and 0 if there is none. -/
def num2 (l : List (BitVec 8)) : Nat × Nat := (num7 l).getD (0, 0)
def pairI (x : Nat × Nat) : Value := .tuple #[.int .i64 (x.1 : Int), .int .i64 (x.2 : Int)]
theorem num2_none {l : List (BitVec 8)} (h : num7 l = none) : num2 l = (0, 0) := by unfold num2; rw [h]; rfl
theorem num2_some {l : List (BitVec 8)} {x : Nat × Nat} (h : num7 l = some x) : num2 l = x := by unfold num2; rw [h]; rfl
/-- Groups that don't meet. -/
theorem or7 (acc t S : Nat) (h : acc < 2 ^ S) (hb : acc + t * 2 ^ S < 9223372036854775808) : bits .or .i64 (acc : Int) ((t * 2 ^ S : Nat) : Int) = ((acc + t * 2 ^ S : Nat) : Int) := by
  show IntKind.i64.wrap ((BitVec.ofInt 64 (acc : Int) ||| BitVec.ofInt 64 ((t * 2 ^ S : Nat) : Int)).toNat : Int) = _
  rw [BitVec.toNat_or, ofInt_u64 acc (by omega), ofInt_u64 (t * 2 ^ S) (by omega), Nat.or_comm, Nat.mul_comm, ← Nat.two_pow_add_eq_or_of_lt h, Nat.add_comm]
  exact Lib.wrap_i64_small _ (by rw [Nat.mul_comm]; exact hb)
attribute [local go_sem] sl_hi
attribute [local go_sem ↓] exec_slice
set_option maxRecDepth 100000 in
set_option maxHeartbeats 4000000 in
theorem first_any (l : List (BitVec 8)) (p : Option Addr) (n cap : Nat) (w : World) (hl : l.length = n) (hs : Sl w p l) (hnc : n ≤ cap) (hn : n < 1000000) : Calls Tryz.prog 181 #[.slice p n cap] w fun e w' => e = .returned (pairI (num2 l)) ∧ w = w' := by
  have HL := Lib.hid hl
  have HS := Lib.hid hs
  clear hl hs
  obtain ⟨m, hm⟩ : ∃ m : Nat, m = min n 9 := ⟨_, rfl⟩
  have hm1 : min (n : Int) 9 = (m : Int) := by omega
  have hmc : m ≤ cap := by omega
  have hm9 : m ≤ 9 := by omega
  have hmn : m ≤ n := by omega
  have HM := Lib.hid hm
  clear hm
  go_enter Tryz.func181, Tryz.ntmps181
  go_wp2
  go_loopw [2, 4, 5, 12] (fun va vi0 vx vi wr => ∃ (i acc : Nat), i ≤ m ∧ vi = .int .i64 i ∧ va = .int .i64 acc ∧ Mid7 l i acc ∧ w = wr) (fun va vi0 vx vi _ => 10 - (intOf vi).toNat)
  case atStart => exact ⟨0, 0, Nat.zero_le _, rfl, rfl, Mid7.zero l, rfl⟩
  case round =>
    obtain ⟨i, acc, him, rfl, rfl, hM, rfl⟩ := hrel
    by_cases hlt : i < m
    · have hltz : (i : Int) < (m : Int) := by omega
      have hld : decide ((i : Int) < (m : Int)) = true := decide_eq_true hltz
      obtain ⟨c0, o0, hpe, hx⟩ := HS.out i (by rw [HL.out]; omega)
      subst hpe
      have hl9 : i < l.length := by rw [HL.out]; omega
      have h9 : i < 9 := by omega
      have hP := pow_le8 (show i ≤ 8 by omega)
      have hacc := hM.lt
      have hcl := (l.getD i 0#8).isLt
      have HLAST := Lib.hid (fun a b => hM.last hl9 h9 a b)
      have HNEXT := Lib.hid (fun a => hM.next hl9 h9 a)
      have HVAIN := Lib.hid (fun a b => hM.vain hl9 h9 a b)
      rw [B_eq'] at hx
      obtain ⟨c, hc⟩ : ∃ c, (l.getD i 0#8).toNat = c := ⟨_, rfl⟩
      rw [hc] at hx hcl HLAST HNEXT HVAIN
      obtain ⟨t, ht⟩ : ∃ t, t = c % 128 := ⟨_, rfl⟩
      have htb : t ≤ 127 := by omega
      rw [← ht] at HNEXT
      obtain ⟨S, hS⟩ : ∃ S, 7 * i = S := ⟨_, rfl⟩
      have hPS : 128 ^ i = 2 ^ S := by rw [← hS, Nat.pow_mul]
      have hO := or7 acc t S (by rw [← hPS]; exact hacc) (by rw [← hPS]; exact sum7 hacc htb hP)
      rw [hPS] at hacc hP HNEXT HLAST
      have hsum := sum7 hacc htb hP
      have t1 : (c : Int) % 128 = (t : Int) := by clear hO; omega
      have t2 : (c : Int).tmod 128 = (t : Int) := by rw [Int.tmod_eq_emod_of_nonneg (by clear hO; omega)]; exact t1
      have t3 : IntKind.u8.wrap (t : Int) = (t : Int) := by rw [IntKind.wrap_u8']; clear hO; omega
      have t4 : IntKind.i64.wrap (t : Int) = (t : Int) := i64w _ (by clear hO t1 t2; omega) (by clear hO t1 t2; omega)
      have s1 : 7 * (i : Int) = (S : Int) := by clear hO t1 t2; omega
      have s2 : wrap64 (S : Int) = (S : Int) := w64 _ (by clear hO t1 t2; omega) (by clear hO t1 t2; omega)
      have s3 : (S : Int) ≤ 64 := by clear hO t1 t2; omega
      have s4 : (0 : Int) ≤ (S : Int) := by clear hO t1 t2; omega
      have s5 : IntKind.i64.wrap (S : Int) = (S : Int) := i64w _ (by clear hO t1 t2; omega) (by clear hO t1 t2; omega)
      obtain ⟨Q, hQ⟩ : ∃ Q, 2 ^ S = Q := ⟨_, rfl⟩
      have s6 : (2 : Int) ^ S = (Q : Int) := by rw [← hQ]; simp
      rw [hQ] at hO hacc hP HNEXT HLAST hsum
      obtain ⟨M, hMM⟩ : ∃ M, t * Q = M := ⟨_, rfl⟩
      rw [hMM] at hsum hO HNEXT
      have m1 : (t : Int) * (Q : Int) = (M : Int) := by rw [← hMM]; simp
      have m2 : IntKind.i64.wrap (M : Int) = (M : Int) := i64n _ (Nat.lt_of_le_of_lt (Nat.le_add_left _ _) hsum)
      have m3 : wrap64 (M : Int) = (M : Int) := w64n _ (Nat.lt_of_le_of_lt (Nat.le_add_left _ _) hsum)
      clear hM hPS hQ hS
      obtain ⟨A2, hA2⟩ : ∃ A2, acc + M = A2 := ⟨_, rfl⟩
      rw [hA2] at hO HNEXT hsum
      have i1 : IntKind.i64.wrap ((i : Int) + 1) = (i : Int) + 1 := i64w _ (by clear t1 t2 m1 m2 m3 hO s6; omega) (by clear t1 t2 m1 m2 m3 hO s6; omega)
      by_cases hc1 : c < 128
      · have hc1z : ¬ (128 : Int) ≤ (c : Int) := by clear t1 t2 m1 m2 m3 hO s6; omega
        have hc1d : decide ((128 : Int) ≤ (c : Int)) = false := decide_eq_false hc1z
        obtain rfl : t = c := by rw [ht]; exact Nat.mod_eq_of_lt hc1
        rw [hMM, hA2] at HLAST
        clear HNEXT hMM hP hacc ht hA2
        by_cases hz : t = 0
        · have hz0 : ((t : Int) == 0) = true := by rw [hz]; rfl
          by_cases hi0 : 0 < i
          · have hT := Lib.hid (num2_none (HVAIN.out hi0 hz))
            have v1z : (0 : Int) < (i : Int) := by clear t1 t2 m1 m2 m3 hO s6; omega
            have v1d : decide ((0 : Int) < (i : Int)) = true := decide_eq_true v1z
            clear HVAIN HLAST hc hz
            go_wp2
            go_ret2
            exact ⟨by rw [hT.out]; rfl, rfl⟩
          · have hT := Lib.hid (num2_some (HLAST.out hc1 (.inl (by clear t1 t2 m1 m2 m3 hO s6; omega))))
            have v1z : ¬ (0 : Int) < (i : Int) := by clear t1 t2 m1 m2 m3 hO s6; omega
            have v1d : decide ((0 : Int) < (i : Int)) = false := decide_eq_false v1z
            clear HVAIN HLAST hc hz
            go_wp2
            go_ret2
            exact ⟨by rw [hT.out]; unfold pairI; simp, rfl⟩
        · have hz0 : ((t : Int) == 0) = false := by simp; exact hz
          have hT := Lib.hid (num2_some (HLAST.out hc1 (.inr hz)))
          clear HVAIN HLAST hc hz
          go_wp2
          go_ret2
          exact ⟨by rw [hT.out]; unfold pairI; simp, rfl⟩
      · have hc1z : (128 : Int) ≤ (c : Int) := by clear t1 t2 m1 m2 m3 hO s6; omega
        have hc1d : decide ((128 : Int) ≤ (c : Int)) = true := decide_eq_true hc1z
        have HN := Lib.hid (HNEXT.out (by clear t1 t2 m1 m2 m3 hO s6; omega))
        clear HLAST HNEXT HVAIN hMM hP hacc ht hc
        go_wp2
        exact ⟨⟨i + 1, A2, by clear t1 t2 m1 m2 m3 hO s6; omega, by go_num, by go_num, HN.out, trivial⟩, by clear t1 t2 m1 m2 m3 hO s6; simp [intOf]; omega⟩
    · have hltz : ¬ (i : Int) < (m : Int) := by omega
      have hld : decide ((i : Int) < (m : Int)) = false := decide_eq_false hltz
      have hT := Lib.hid (num2_none (show num7 l = none from by
        by_cases h : n ≤ 9
        · exact hM.short (by rw [HL.out]; have := HM.out; omega)
        · obtain rfl : i = 9 := by have := HM.out; omega
          exact hM.long))
      clear hM
      go_wp2
      go_ret2
      exact ⟨by rw [hT.out]; rfl, rfl⟩
end Go.Proofs.YtkajeepbelfpiaaGreatDoor
/- copy of bytes into a row of the call's own. -/
set_option maxRecDepth 100000
namespace Go.Proofs.YtkajeepbelfpiaaGreatDoor
open Go Go.RowKit
attribute [-go_sem] Sha.exec_store

theorem tab_splice (m n : Nat) (g : Nat → Value) (l : List (BitVec 8)) (hl : l.length = n) (hle : n ≤ m) :
    ((tab m g).toList.take 0 ++ (l.map B ++ (tab m g).toList.drop (0 + (l.map B).length))).toArray = tab m (fun j => if j < n then B (l.getD j 0#8) else g j) := by
  subst hl
  unfold tab
  congr 1
  apply List.ext_getElem?
  intro j
  simp only [List.take_zero, List.nil_append, Nat.zero_add, List.length_map]
  rw [List.getElem?_append]
  by_cases h1 : j < l.length
  · have h2 : j < m := by omega
    simp [h1, h2, List.getD_eq_getElem?_getD]
  · rw [if_neg (by simpa using h1)]
    by_cases h2 : j < m
    · have h3 : l.length + (j - l.length) = j := by omega
      simp [h1, h2, h3]
    · have h3 : m ≤ j := by omega
      have h4 : m ≤ l.length + (j - l.length) := by omega
      simp [h3, h4]
end Go.Proofs.YtkajeepbelfpiaaGreatDoor
/- copy of bytes into a row of the call's own: as many as the shorter one has. -/
set_option maxRecDepth 100000
namespace Go.Proofs.YtkajeepbelfpiaaGreatDoor
open Go Go.RowKit
attribute [-go_sem] Sha.exec_store

/-- A cut of bytes from any number of them on. -/
theorem slb_lo (q : Option Addr) (n cap k : Nat) (w : World) (hk : k ≤ n) :
    (slT 56 (.slice q n cap) (some (.int .i64 (k : Int))) none none).run Tryz.prog w = .ok (.value (.slice (cutA q cap k) (n - k) (cap - k))) w := by
  have h1 := run_sliceAt_slice (P := Tryz.prog) w 56 (.slice q n cap) (some (.int .i64 (k : Int))) none none und35
  rw [run_slice_l (P := Tryz.prog) w 56 q n cap und35 .i64 (k : Int) (by omega) (by omega), sizeB] at h1
  simp only [slT, Sem.run_bind, h1, Result.andThen_ok, Sem.run_pure]
  simp only [sliced, Int.toNat_natCast, Nat.mul_one, cutA]
section
variable {ops : Array Oper} {rest : List Oper} {o : Oper} {a : Act} {Q : Exit → Act → World → Prop} (w : World) (hgd : o.guard = none) (d s : Operand)
    (ho : o.op = .call { callee := .builtin .copy, args := #[d, s], argTypes := #[56, 56] }) (E m c : Nat) (g : Nat → Value) (q : Option Addr) (n c' : Nat) (l : List (BitVec 8))
    (hd : a.eval d = .slice (some ⟨E, 0, none⟩) m c) (hs : a.eval s = .slice q n c') (hR : Row w E 5 m g) (hl : l.length = n) (hsl : Sl w q l) (t : Nat) (ht : t = min m n)
include hgd ho hd hs hR hl hsl ht
end
end Go.Proofs.YtkajeepbelfpiaaGreatDoor
/- The reader's next bytes and numbers. -/
set_option maxRecDepth 100000
namespace Go.Proofs.YtkajeepbelfpiaaGreatDoor
open Go Go.RowKit
attribute [-go_sem] Sha.exec_store

theorem sl_hm (q : Option Addr) (n cap k : Nat) (w : World) (hk : k ≤ cap) : (slT 56 (.slice q n cap) none (some (.int .i64 (k : Int))) (some (.int .i64 (k : Int)))).run Tryz.prog w = .ok (.value (.slice q k k)) w := by
  have h1 := run_sliceAt_slice (P := Tryz.prog) w 56 (.slice q n cap) none (some (.int .i64 (k : Int))) (some (.int .i64 (k : Int))) und35
  rw [run_slice_hm (P := Tryz.prog) w 56 q n cap und35 .i64 .i64 (k : Int) (k : Int) (by omega) (by omega) (by omega), sizeB] at h1
  simp only [slT, Sem.run_bind, h1, Result.andThen_ok, Sem.run_pure]
  simp only [sliced, Int.toNat_natCast, Nat.zero_mul, Nat.sub_zero]
  have := cutA_zero q k
  unfold cutA at this
  rw [this]
attribute [local go_sem] sl_hm slb_lo
attribute [local go_sem ↓] exec_slice
set_option maxRecDepth 100000 in
set_option maxHeartbeats 1000000 in
/-- The next n bytes, or the end of the reading. -/
theorem cut_any (p : Option Addr) (N : Nat) (w : World) (a : Addr) (l : List (BitVec 8)) (n : Nat) (h : RdP p N w a l) : Calls Tryz.prog 183 #[.pointer (some a), .int .i64 (n : Int)] w fun e w' => Kp a.block w w' ∧ ((n ≤ l.length ∧ (∃ q : Option Addr, e = .returned (.slice q n n) ∧ Sl w' q (l.take n) ∧ (q = none → n = 0) ∧ (0 < n → ∀ c o, q = some ⟨c, o, none⟩ → c < N)) ∧ RdP p N w' a (l.drop n)) ∨ (l.length < n ∧ Thrown (ThrP a) 6 e w')) := by
  have HR := Lib.hid h
  obtain ⟨b, q, cap, rfl, h1, hc, h4, h5, h6, h7, h8⟩ := h
  obtain ⟨L, hL⟩ : ∃ L, l.length = L := ⟨_, rfl⟩
  rw [hL] at hc h6 h7 h8 ⊢
  have HL := Lib.hid hL
  have HS := Lib.hid h4
  have H5 := Lib.hid h5
  have H8 := Lib.hid h8
  have HC := Lib.hid hc
  obtain ⟨k0, k1, k2, f0, f1, f2⟩ := hc
  have hblt := World.block_lt_of_cell? w _ k0
  clear h4 h5 h8 hL k1 f1 f2
  by_cases hlt : L < n
  · have hz : decide ((L : Int) < (n : Int)) = true := decide_eq_true (by omega)
    have hz2 : (L : Int) < (n : Int) := by omega
    have HF := Lib.hid (rdP_fail p N w ⟨b, 0, none⟩ l 6 HR.out (by decide))
    clear f0
    go_enter Tryz.func183, Tryz.ntmps183
    go_wp2_with fail
    refine HF.out.mono ?_
    rintro e w' ⟨⟨v, hv, rfl⟩, hK⟩
    exact ⟨rfl, hK, .inr ⟨hlt, v, hv, rfl⟩⟩
  · have hz : decide ((L : Int) < (n : Int)) = false := decide_eq_false (by omega)
    have hz2 : ¬ (L : Int) < (n : Int) := by omega
    have hnL : n ≤ L := by omega
    have hnc : n ≤ cap := by omega
    have k2z : w.cell? ⟨b, 2, none⟩ = some (.int .i64 0) := k2
    clear k2
    go_enter Tryz.func183, Tryz.ntmps183
    go_wp2
    go_ret
    have hfar : 0 < l.length → ∀ c o, q = some ⟨c, o, none⟩ → c ≠ b := fun hl c o e => by have := (H8.out (by rw [← HL.out]; exact hl) c o e).1; omega
    have hsl : Sl (w.setCell ⟨b, 0, none⟩ (.slice (cutA q cap n) (L - n) (cap - n))) q l := fun j hj => by
      obtain ⟨c, o, e, hx⟩ := HS.out j hj
      exact ⟨c, o, e, by rw [World.cell?_setCell_far _ _ _ _ (show b ≠ c from Ne.symm (hfar (by omega) c o e))]; exact hx⟩
    refine ⟨(Kp.refl b w).setCell 0 _, ⟨q, rfl, hsl.take n, fun e => by have := H5.out e; omega, fun hn c o e => (H8.out (by omega) c o e).1⟩, b, cutA q cap n, cap - n, rfl, h1,
      ⟨?_, ?_, ?_, ?_, ?_, ?_⟩, hsl.drop (by rw [HL.out]; exact h6) n, fun e => cutA_none H5.out e, ?_, ?_, fun hl c o e => ?_⟩
    · rw [List.length_drop, HL.out]; exact World.cell?_setCell_same _ _ _ k0
    · rw [cell_off _ _ _ _ _ (by decide)]; exact HC.out.c1
    · rw [cell_off _ _ _ _ _ (by decide)]; exact HC.out.c2
    · rw [World.frozen?_setCell]; exact HC.out.f0
    · rw [World.frozen?_setCell]; exact HC.out.f1
    · rw [World.frozen?_setCell]; exact HC.out.f2
    · rw [List.length_drop, HL.out]; omega
    · rw [List.length_drop, HL.out]; omega
    · rw [List.length_drop, HL.out] at hl
      have hcn : ¬ cap = n := by omega
      unfold cutA at e
      rw [if_neg hcn] at e
      obtain ⟨c0, o0, e0, -⟩ := HS.out 0 (by rw [HL.out]; omega)
      rw [e0] at e
      have e3 : (some (Addr.add ⟨c0, o0, none⟩ n) : Option Addr) = some ⟨c, o, none⟩ := e
      rw [Addr.add_mid] at e3
      injection e3 with e3
      injection e3 with e4 e5
      subst e4
      exact H8.out (by omega) c0 o0 e0
set_option maxHeartbeats 1000000 in
theorem rdP_number (p : Option Addr) (N : Nat) (w : World) (a : Addr) (l : List (BitVec 8)) (most : Int) (h : RdP p N w a l) : Calls Tryz.prog 138 #[.pointer (some a), .int .i64 most] w (RdPost RdP ThrP p N w a l (takeI l most).2.2 (takeI l most).2.1 fun v _ => v = .int .i64 ((takeI l most).1 : Int)) := by
  have HR := Lib.hid h
  have HF := Lib.hid (fun c => rdP_fail p N w a l c HR.out)
  have HC := Lib.hid (fun n => cut_any p N w a l n HR.out)
  obtain ⟨b, q, cap, rfl, h1, hc, h4, h5, h6, h7, h8⟩ := h
  have HFI := Lib.hid (first_any l q l.length cap w rfl h4 h6 h7)
  have k0 := hc.c0
  clear h8 h4 h5 h6 h7 hc h1
  obtain ⟨L, hL⟩ : ∃ L, l.length = L := ⟨_, rfl⟩
  rw [hL] at k0 HFI
  cases e7 : num7 l with
  | none =>
    rw [takeI_none most e7]
    rw [num2_none e7] at HFI
    have HF6 := Lib.hid (HF.out 6 (by decide))
    clear e7 hL
    go_enter Tryz.func138, Tryz.ntmps138
    go_wp2_with fail
    refine HFI.out.mono ?_
    rintro e w' ⟨rfl, rfl⟩
    unfold pairI
    go_wp2_with fail
    refine HF6.out.mono ?_
    rintro e w' ⟨⟨v, hv, rfl⟩, hK⟩
    exact ⟨rfl, hK, .inr ⟨by decide, v, hv, rfl⟩⟩
  | some x =>
    obtain ⟨n, k⟩ := x
    have hi := num7_inv e7
    rw [num2_some e7] at HFI
    have hk0 : 0 < k := by have h := hi.2.2; have := enc7_pos n; omega
    have hk : ((k : Int) == 0) = false := by simp; omega
    by_cases hm : most < (n : Int)
    · rw [takeI_many e7 hm]
      have hmd : decide (most < (n : Int)) = true := decide_eq_true hm
      have HF14 := Lib.hid (HF.out 14 (by decide))
      clear e7 hL hi hk0
      go_enter Tryz.func138, Tryz.ntmps138
      go_wp2_with fail
      refine HFI.out.mono ?_
      rintro e w' ⟨rfl, rfl⟩
      unfold pairI
      go_wp2_with fail
      refine HF14.out.mono ?_
      rintro e w' ⟨⟨v, hv, rfl⟩, hK⟩
      exact ⟨rfl, hK, .inr ⟨by decide, v, hv, rfl⟩⟩
    · rw [takeI_some e7 hm]
      have hmd : decide (most < (n : Int)) = false := decide_eq_false hm
      have HCk := Lib.hid (HC.out k)
      have HKL := Lib.hid hi.2.1
      clear e7 hL hi hk0
      go_enter Tryz.func138, Tryz.ntmps138
      go_wp2_with fail
      refine HFI.out.mono ?_
      rintro e w' ⟨rfl, rfl⟩
      unfold pairI
      go_wp2_with fail
      refine HCk.out.mono ?_
      rintro e w' ⟨hK, ⟨-, ⟨q2, rfl, -⟩, hR⟩ | ⟨hbad, -⟩⟩
      · have HK := Lib.hid hK
        have HR2 := Lib.hid hR
        clear hK hR
        go_wp2
        go_ret
        exact ⟨HK.out, .inl ⟨rfl, ⟨_, rfl, rfl⟩, HR2.out⟩⟩
      · exact absurd HKL.out (by omega)
set_option maxHeartbeats 1000000 in
theorem rdP_count (p : Option Addr) (N : Nat) (w : World) (a : Addr) (l : List (BitVec 8)) (most : Int) (h : RdP p N w a l) : Calls Tryz.prog 139 #[.pointer (some a), .int .i64 most] w (RdPost RdP ThrP p N w a l (takeI l most).2.2 (takeI l most).2.1 fun v _ => v = .int .i64 ((takeI l most).1 : Int)) := by
  have HN := Lib.hid (rdP_number p N w a l most h)
  clear h
  go_enter Tryz.func139, Tryz.ntmps139
  go_wp2_with fail
  refine HN.out.mono ?_
  rintro e w' ⟨hK, ⟨h0, ⟨v, rfl, rfl⟩, hR⟩ | ⟨h0, v, hv, rfl⟩⟩
  · have HX := Lib.hid (And.intro hK (And.intro h0 hR))
    clear hK h0 hR
    go_wp2
    go_ret
    exact ⟨HX.out.1, .inl ⟨HX.out.2.1, ⟨_, rfl, rfl⟩, HX.out.2.2⟩⟩
  · exact ⟨rfl, hK, .inr ⟨h0, v, hv, rfl⟩⟩
end Go.Proofs.YtkajeepbelfpiaaGreatDoor
/- What two vectors are to one another. -/
set_option maxRecDepth 100000
namespace Go.Proofs.YtkajeepbelfpiaaGreatDoor
open Go Go.RowKit
attribute [-go_sem] Sha.exec_store

def gdV (f : Nat → Int) : Bool := (List.range 16).all fun i => decide (0 ≤ f i ∧ f i ≤ 1099511627776)
theorem gdV_iff {f : Nat → Int} : gdV f = true ↔ ∀ i, i < 16 → 0 ≤ f i ∧ f i ≤ 1099511627776 := by unfold gdV; simp [List.all_eq_true]
theorem gdV_no {f : Nat → Int} {k : Nat} (hk : k < 16) (h : f k < 0 ∨ 1099511627776 < f k) : gdV f = false := by
  cases e : gdV f with
  | false => rfl
  | true => have := gdV_iff.1 e k hk; omega
theorem i64v (k : Nat) (h : k < 16) : IntKind.i64.wrap ((k : Int) + 1) = (k : Int) + 1 := by rw [IntKind.wrap_i64]; omega
theorem twoRows (w : World) (T : TypeId) (f g : Nat → Value) (n : Nat) : Row ((w.alloc (.cells (tab n f) T)).alloc (.cells (tab n g) T)) w.heap.size T n f ∧ Row ((w.alloc (.cells (tab n f) T)).alloc (.cells (tab n g) T)) (w.heap.size + 1) T n g ∧ Below w.heap.size w ((w.alloc (.cells (tab n f) T)).alloc (.cells (tab n g) T)) := by
  refine ⟨(Row.new w T n f).of_below ((Below.refl _ _).alloc (Nat.le_refl _) _), ?_, ((Below.refl _ _).alloc (Nat.le_refl _) _).alloc (by rw [World.size_alloc]; exact Nat.le_succ _) _⟩
  have := Row.new (w.alloc (.cells (tab n f) T)) T n g
  rw [World.size_alloc] at this
  exact this
attribute [local go_sem ↓] exec_boxA exec_loadA exec_indexA exec_allocA exec_storeA exec_buildA exec_eqlA exec_neqA exec_boxV exec_loadV exec_indexV exec_allocV exec_storeV exec_buildV exec_eqlV exec_neqV
attribute [local go_sem] boxA indexA storeNewA buildA eqlA neqA boxV indexV storeNewV buildV eqlV neqV
set_option maxRecDepth 100000 in
set_option maxHeartbeats 2000000 in
theorem good9_any (f : Nat → Int) (w : World) : Calls Tryz.prog 187 #[vcV f] w fun e w' => e = .returned (.bool (gdV f)) ∧ Below w.heap.size w w' := by
  have r1 := Row.new w 40 16 (vf f)
  have HS := Lib.hid (show Row (w.alloc (.cells (tab 16 (vf f)) 40)) w.heap.size 40 16 (vf f) ∧ Below w.heap.size w (w.alloc (.cells (tab 16 (vf f)) 40)) from ⟨r1, (Below.refl _ _).alloc (Nat.le_refl _) _⟩)
  have l1 := loadVT vtV (VecAt.of_row r1 (Nat.le_refl _))
  clear r1
  go_enter Tryz.func187, Tryz.ntmps187
  go_wp2
  clear l1
  go_loopw [6] (fun i wr => ∃ k : Nat, k ≤ 16 ∧ i = .int .i64 k ∧ (∀ j, j < k → 0 ≤ f j ∧ f j ≤ 1099511627776) ∧ Row wr w.heap.size 40 16 (vf f) ∧ Below w.heap.size w wr) (fun i _ => 16 - (intOf i).toNat)
  case atStart => exact ⟨0, Nat.zero_le _, rfl, fun j hj => absurd hj (by omega), HS.out.1, HS.out.2⟩
  case round =>
    clear HS
    obtain ⟨k, hk, rfl, hall, hR1, hB⟩ := hrel
    have HB := Lib.hid hB
    have HALL := Lib.hid hall
    have HR1 := Lib.hid hR1
    clear hB hall
    by_cases h16 : k < 16
    · have z1 : (k : Int) < 16 := by omega
      have z2 : decide ((k : Int) < 16) = true := decide_eq_true z1
      have hw := i64v k h16
      clear hR1
      by_cases h0 : f k < 0
      · have t1 : decide (f k < 0) = true := decide_eq_true h0
        have HRES := Lib.hid (gdV_no h16 (.inl h0))
        go_wp2
        go_ret
        exact ⟨by rw [HRES.out]; rfl, HB.out⟩
      · have t1 : decide (f k < 0) = false := decide_eq_false h0
        by_cases h1 : 1099511627776 < f k
        · have t2 : decide (1099511627776 < f k) = true := decide_eq_true h1
          have HRES := Lib.hid (gdV_no h16 (.inr h1))
          go_wp2
          go_ret
          exact ⟨by rw [HRES.out]; rfl, HB.out⟩
        · have t2 : decide (1099511627776 < f k) = false := decide_eq_false h1
          have HLT := Lib.hid (show 0 ≤ f k ∧ f k ≤ 1099511627776 by omega)
          go_wp2
          go_roundw
          case rel => exact ⟨k + 1, by omega, by go_num, fun j hj => by
            by_cases e : j = k
            · subst e; exact HLT.out
            · exact HALL.out j (by omega), HR1.out, HB.out⟩
          case measure => simp [intOf]; omega
    · have z1 : ¬ (k : Int) < 16 := by omega
      have z2 : decide ((k : Int) < 16) = false := decide_eq_false z1
      have hres : gdV f = true := gdV_iff.2 fun i hi => HALL.out i (by omega)
      have HRES := Lib.hid hres
      clear hR1 hres
      go_wp2
      go_ret
      exact ⟨by rw [HRES.out]; rfl, HB.out⟩
set_option maxRecDepth 100000 in
set_option maxHeartbeats 2000000 in
theorem refGood9_any (f : Nat → Int) (w : World) : Calls Tryz.prog 50 #[vcV f] w fun e w' => e = .returned (.bool (gdV f)) ∧ Below w.heap.size w w' := by
  have r1 := Row.new w 39 16 (vf f)
  have HS := Lib.hid (show Row (w.alloc (.cells (tab 16 (vf f)) 39)) w.heap.size 39 16 (vf f) ∧ Below w.heap.size w (w.alloc (.cells (tab 16 (vf f)) 39)) from ⟨r1, (Below.refl _ _).alloc (Nat.le_refl _) _⟩)
  clear r1
  go_enter Tryz.func50, Tryz.ntmps50
  go_wp2
  go_loopw [4] (fun i wr => ∃ k : Nat, k ≤ 16 ∧ i = .int .i64 k ∧ (∀ j, j < k → 0 ≤ f j ∧ f j ≤ 1099511627776) ∧ Row wr w.heap.size 39 16 (vf f) ∧ Below w.heap.size w wr) (fun i _ => 16 - (intOf i).toNat)
  case atStart => exact ⟨0, Nat.zero_le _, rfl, fun j hj => absurd hj (by omega), HS.out.1, HS.out.2⟩
  case round =>
    clear HS
    obtain ⟨k, hk, rfl, hall, hR1, hB⟩ := hrel
    have HB := Lib.hid hB
    have HALL := Lib.hid hall
    have HR1 := Lib.hid hR1
    clear hB hall
    by_cases h16 : k < 16
    · have z1 : (k : Int) < 16 := by omega
      have z2 : decide ((k : Int) < 16) = true := decide_eq_true z1
      have hw := i64v k h16
      have x1 : wr.cell? ⟨w.heap.size, k, none⟩ = some (.int .i64 (f k)) := hR1.cell k h16
      clear hR1
      by_cases h0 : f k < 0
      · have t1 : decide (f k < 0) = true := decide_eq_true h0
        have HRES := Lib.hid (gdV_no h16 (.inl h0))
        go_wp2
        go_ret
        exact ⟨by rw [HRES.out]; rfl, HB.out⟩
      · have t1 : decide (f k < 0) = false := decide_eq_false h0
        by_cases h1 : 1099511627776 < f k
        · have t2 : decide (1099511627776 < f k) = true := decide_eq_true h1
          have HRES := Lib.hid (gdV_no h16 (.inr h1))
          go_wp2
          go_ret
          exact ⟨by rw [HRES.out]; rfl, HB.out⟩
        · have t2 : decide (1099511627776 < f k) = false := decide_eq_false h1
          have HLT := Lib.hid (show 0 ≤ f k ∧ f k ≤ 1099511627776 by omega)
          go_wp2
          go_roundw
          case rel => exact ⟨k + 1, by omega, by go_num, fun j hj => by
            by_cases e : j = k
            · subst e; exact HLT.out
            · exact HALL.out j (by omega), HR1.out, HB.out⟩
          case measure => simp [intOf]; omega
    · have z1 : ¬ (k : Int) < 16 := by omega
      have z2 : decide ((k : Int) < 16) = false := decide_eq_false z1
      have hres : gdV f = true := gdV_iff.2 fun i hi => HALL.out i (by omega)
      have HRES := Lib.hid hres
      clear hR1 hres
      go_wp2
      go_ret
      exact ⟨by rw [HRES.out]; rfl, HB.out⟩
end Go.Proofs.YtkajeepbelfpiaaGreatDoor
/- Vectors merged, incremented; the reference's comparison. -/
set_option maxRecDepth 100000
namespace Go.Proofs.YtkajeepbelfpiaaGreatDoor
open Go Go.RowKit
attribute [-go_sem] Sha.exec_store

attribute [local go_sem ↓] exec_boxA exec_loadA exec_indexA exec_allocA exec_storeA exec_buildA exec_eqlA exec_neqA exec_boxV exec_loadV exec_indexV exec_allocV exec_storeV exec_buildV exec_eqlV exec_neqV
attribute [local go_sem] boxA indexA storeNewA buildA eqlA neqA boxV indexV storeNewV buildV eqlV neqV

theorem resV {fn : Func} {p : Tmp} {T : TypeId} (hT : VT T) (h : fn.results = #[.cell p T]) (tmps : Array Value) (w : World) (b : Nat) (T2 : TypeId) (f : Nat → Int) (hp : tmps.getD p undef = .pointer (some ⟨b, 0, none⟩)) (hR : Row w b T2 16 (vf f)) : (results fn tmps).run Tryz.prog w = .ok (vcV f) w := by
  have := results_cell_row (P := Tryz.prog) h tmps w b T2 (tab 16 (vf f)) (0, 0) _ hp hR hT.und rfl (by rw [hT.size, tab_size])
  unfold vcV
  exact this
end Go.Proofs.YtkajeepbelfpiaaGreatDoor
/- Bump and Merge of the program. -/
set_option maxRecDepth 100000
namespace Go.Proofs.YtkajeepbelfpiaaGreatDoor
open Go Go.RowKit
attribute [-go_sem] Sha.exec_store

attribute [local go_sem ↓] exec_boxA exec_loadA exec_indexA exec_allocA exec_storeA exec_buildA exec_eqlA exec_neqA exec_boxV exec_loadV exec_indexV exec_allocV exec_storeV exec_buildV exec_eqlV exec_neqV
attribute [local go_sem] boxA indexA storeNewA buildA eqlA neqA boxV indexV storeNewV buildV eqlV neqV

end Go.Proofs.YtkajeepbelfpiaaGreatDoor
/- Slices of vectors; Merge of the program. -/
set_option maxRecDepth 100000
namespace Go.Proofs.YtkajeepbelfpiaaGreatDoor
open Go Go.RowKit
attribute [-go_sem] Sha.exec_store

/-- Vectors lie where a slice begins. -/
structure VecsAt (w : World) (p : Option Addr) (n : Nat) (l : List (Nat → Int)) : Prop where
  len : l.length = n
  at_ : 0 < n → ∃ c o, p = some ⟨c, o, none⟩ ∧ ∀ i (hi : i < l.length), VecAt w c (o + i * 16) l[i]
theorem VecsAt.of_below {w w' : World} {p : Option Addr} {n : Nat} {l : List (Nat → Int)} (h : VecsAt w p n l) (k : Below w.heap.size w w') : VecsAt w' p n l :=
  ⟨h.len, fun hn => by
    obtain ⟨c, o, e, h1⟩ := h.at_ hn
    exact ⟨c, o, e, fun i hi => (h1 i hi).of_below k⟩⟩
theorem VecsAt.nil (w : World) (p : Option Addr) : VecsAt w p 0 [] := ⟨rfl, fun h => absurd h (by decide)⟩
/-- The cells of vectors one after another. -/
def vfs (l : List (Nat → Int)) : Nat → Value := fun i => .int .i64 ((l.getD (i / 16) fun _ => 0) (i % 16))
theorem VecsAt.row {w : World} {b n : Nat} {T : TypeId} {l : List (Nat → Int)} (hl : l.length = n) (h : Row w b T (16 * n) (vfs l)) : VecsAt w (some ⟨b, 0, none⟩) n l :=
  ⟨hl, fun _ => ⟨b, 0, rfl, fun i hi j hj => by
    rw [show 0 + i * 16 + j = i * 16 + j by omega, h.cell (i * 16 + j) (by omega)]
    unfold vfs
    rw [show (i * 16 + j) / 16 = i by omega, show (i * 16 + j) % 16 = j by omega, List.getD_eq_getElem?_getD, List.getElem?_eq_getElem hi]
    rfl⟩⟩
attribute [local go_sem ↓] exec_boxA exec_loadA exec_indexA exec_allocA exec_storeA exec_buildA exec_eqlA exec_neqA exec_boxV exec_loadV exec_indexV exec_allocV exec_storeV exec_buildV exec_eqlV exec_neqV
attribute [local go_sem] boxA indexA storeNewA buildA eqlA neqA boxV indexV storeNewV buildV eqlV neqV

end Go.Proofs.YtkajeepbelfpiaaGreatDoor
/- awake of stage 9. -/
set_option maxRecDepth 100000
namespace Go.Proofs.YtkajeepbelfpiaaGreatDoor
open Go Go.RowKit
attribute [-go_sem] Sha.exec_store

attribute [local go_sem ↓] exec_boxA exec_loadA exec_indexA exec_allocA exec_storeA exec_buildA exec_eqlA exec_neqA exec_boxV exec_loadV exec_indexV exec_allocV exec_storeV exec_buildV exec_eqlV exec_neqV
attribute [local go_sem] boxA indexA storeNewA buildA eqlA neqA boxV indexV storeNewV buildV eqlV neqV

def one (k : Nat) : Nat → Int := fun i => if i = k then 1 else 0
end Go.Proofs.YtkajeepbelfpiaaGreatDoor
/- A number in a range, read by package vector. -/
set_option maxRecDepth 100000
namespace Go.Proofs.YtkajeepbelfpiaaGreatDoor
open Go Go.RowKit
attribute [-go_sem] Sha.exec_store

/-- The number at the beginning of bytes if it is in a range, how many bytes it has; the error. -/
def rngI (l : List (BitVec 8)) (lo hi : Int) : Nat × Nat × Nat :=
  match num7 l with
  | none => (0, 0, 6)
  | some (n, k) => if (n : Int) < lo ∨ hi < (n : Int) then (0, 0, 6) else (n, k, 0)
theorem rngI_none {l : List (BitVec 8)} (lo hi : Int) (h : num7 l = none) : rngI l lo hi = (0, 0, 6) := by unfold rngI; rw [h]
theorem rngI_out {l : List (BitVec 8)} {lo hi : Int} {n k : Nat} (h : num7 l = some (n, k)) (hm : (n : Int) < lo ∨ hi < (n : Int)) : rngI l lo hi = (0, 0, 6) := by unfold rngI; rw [h]; exact if_pos hm
theorem rngI_in {l : List (BitVec 8)} {lo hi : Int} {n k : Nat} (h : num7 l = some (n, k)) (hm : ¬ ((n : Int) < lo ∨ hi < (n : Int))) : rngI l lo hi = (n, k, 0) := by unfold rngI; rw [h]; exact if_neg hm
set_option maxRecDepth 100000 in
set_option maxHeartbeats 2000000 in
theorem number9_any (p : Option Addr) (N : Nat) (w : World) (a : Addr) (l : List (BitVec 8)) (lo hi : Int) (h : RdP p N w a l) : Calls Tryz.prog 247 #[.pointer (some a), .int .i64 lo, .int .i64 hi] w (RdPost RdP ThrP p N w a l (rngI l lo hi).2.2 (rngI l lo hi).2.1 fun v _ => v = .int .i64 ((rngI l lo hi).1 : Int)) := by
  have HN := Lib.hid (rdP_number p N w a l 9223372036854775807 h)
  clear h
  cases e7 : num7 l with
  | none =>
    rw [rngI_none lo hi e7]
    rw [takeI_none _ e7] at HN
    clear e7
    go_enter Tryz.func247, Tryz.ntmps247
    go_wp2_with fail
    refine HN.out.mono ?_
    rintro e w' ⟨hK, ⟨hcode, -⟩ | ⟨hc, v, hv, rfl⟩⟩
    · exact absurd hcode (by decide)
    · exact ⟨rfl, hK, .inr ⟨by decide, v, hv, rfl⟩⟩
  | some x =>
    obtain ⟨n, k⟩ := x
    have hi7 := num7_inv e7
    rw [takeI_some e7 (by omega)] at HN
    by_cases h1 : (n : Int) < lo
    · rw [rngI_out e7 (.inl h1)]
      have t1 : decide ((n : Int) < lo) = true := decide_eq_true h1
      clear e7 hi7
      go_enter Tryz.func247, Tryz.ntmps247
      go_wp2_with fail
      refine HN.out.mono ?_
      rintro e w' ⟨hK, ⟨-, ⟨v, rfl, rfl⟩, hR⟩ | ⟨hc, -⟩⟩
      · have HK := Lib.hid hK
        have HF := Lib.hid (rdP_fail p N w' a (l.drop k) 6 hR (by decide))
        clear hK hR
        go_wp2_with fail
        refine HF.out.mono ?_
        rintro e w2 ⟨⟨v, hv, rfl⟩, hK2⟩
        exact ⟨rfl, HK.out.trans hK2, .inr ⟨by decide, v, hv, rfl⟩⟩
      · exact absurd rfl hc
    · have t1 : decide ((n : Int) < lo) = false := decide_eq_false h1
      by_cases h2 : hi < (n : Int)
      · rw [rngI_out e7 (.inr h2)]
        have t2 : decide (hi < (n : Int)) = true := decide_eq_true h2
        clear e7 hi7
        go_enter Tryz.func247, Tryz.ntmps247
        go_wp2_with fail
        refine HN.out.mono ?_
        rintro e w' ⟨hK, ⟨-, ⟨v, rfl, rfl⟩, hR⟩ | ⟨hc, -⟩⟩
        · have HK := Lib.hid hK
          have HF := Lib.hid (rdP_fail p N w' a (l.drop k) 6 hR (by decide))
          clear hK hR
          go_wp2_with fail
          refine HF.out.mono ?_
          rintro e w2 ⟨⟨v, hv, rfl⟩, hK2⟩
          exact ⟨rfl, HK.out.trans hK2, .inr ⟨by decide, v, hv, rfl⟩⟩
        · exact absurd rfl hc
      · rw [rngI_in e7 (by omega)]
        have t2 : decide (hi < (n : Int)) = false := decide_eq_false h2
        clear e7 hi7
        go_enter Tryz.func247, Tryz.ntmps247
        go_wp2_with fail
        refine HN.out.mono ?_
        rintro e w' ⟨hK, ⟨-, ⟨v, rfl, rfl⟩, hR⟩ | ⟨hc, -⟩⟩
        · have HK := Lib.hid hK
          have HR := Lib.hid hR
          clear hK hR
          go_wp2
          go_ret
          exact ⟨HK.out, .inl ⟨rfl, ⟨_, rfl, rfl⟩, HR.out⟩⟩
        · exact absurd rfl hc
end Go.Proofs.YtkajeepbelfpiaaGreatDoor
/- Take of the program. -/
set_option maxRecDepth 100000
namespace Go.Proofs.YtkajeepbelfpiaaGreatDoor
open Go Go.RowKit
attribute [-go_sem] Sha.exec_store

/-- c numbers of a vector at the beginning of bytes, no replica less than a given one: the vector, and what is left. -/
def stepsV : Nat → Nat → List (BitVec 8) → (Nat → Int) → Option ((Nat → Int) × List (BitVec 8))
  | 0, _, l, f => some (f, l)
  | c + 1, least, l, f =>
    if (rngI l least 15).2.2 = 0 then
      if (rngI (l.drop (rngI l least 15).2.1) 1 1099511627776).2.2 = 0 then
        stepsV c ((rngI l least 15).1 + 1) ((l.drop (rngI l least 15).2.1).drop (rngI (l.drop (rngI l least 15).2.1) 1 1099511627776).2.1) (fun i => if i = (rngI l least 15).1 then ((rngI (l.drop (rngI l least 15).2.1) 1 1099511627776).1 : Int) else f i)
      else none
    else none
def takeV (l : List (BitVec 8)) : Option ((Nat → Int) × List (BitVec 8)) :=
  if (rngI l 0 16).2.2 = 0 then stepsV (rngI l 0 16).1 0 (l.drop (rngI l 0 16).2.1) (fun _ => 0) else none
theorem rngI_le {l : List (BitVec 8)} {lo hi : Int} (h : (rngI l lo hi).2.2 = 0) : lo ≤ ((rngI l lo hi).1 : Int) ∧ ((rngI l lo hi).1 : Int) ≤ hi := by
  unfold rngI at h ⊢
  split at h
  · cases h
  · rename_i n k e
    split at h
    · cases h
    · rename_i hh
      rw [if_neg hh]
      show lo ≤ (n : Int) ∧ (n : Int) ≤ hi
      omega
theorem rngI_code {l : List (BitVec 8)} {lo hi : Int} (h : (rngI l lo hi).2.2 ≠ 0) : (rngI l lo hi).2.2 = 6 := by
  unfold rngI at h ⊢
  split
  · rfl
  · rename_i n k e
    split
    · rfl
    · rename_i hh
      rw [e] at h
      simp only [if_neg hh] at h
      exact absurd rfl h
theorem stepsV_one {c least : Nat} {l : List (BitVec 8)} {f : Nat → Int} {r k n k2 : Nat} (h1 : rngI l least 15 = (r, k, 0)) (h2 : rngI (l.drop k) 1 1099511627776 = (n, k2, 0)) : stepsV (c + 1) least l f = stepsV c (r + 1) ((l.drop k).drop k2) (fun i => if i = r then (n : Int) else f i) := by
  rw [stepsV]
  simp only [h1, h2, if_true]
theorem stepsV_no1 {c least : Nat} {l : List (BitVec 8)} {f : Nat → Int} (h1 : (rngI l least 15).2.2 ≠ 0) : stepsV (c + 1) least l f = none := by unfold stepsV; rw [if_neg h1]
theorem stepsV_no2 {c least : Nat} {l : List (BitVec 8)} {f : Nat → Int} {r k : Nat} (h1 : rngI l least 15 = (r, k, 0)) (h2 : (rngI (l.drop k) 1 1099511627776).2.2 ≠ 0) : stepsV (c + 1) least l f = none := by
  unfold stepsV
  simp only [h1, if_true, if_neg h2]
attribute [local go_sem ↓] exec_boxA exec_loadA exec_indexA exec_allocA exec_storeA exec_buildA exec_eqlA exec_neqA exec_boxV exec_loadV exec_indexV exec_allocV exec_storeV exec_buildV exec_eqlV exec_neqV
attribute [local go_sem] boxA indexA storeNewA buildA eqlA neqA boxV indexV storeNewV buildV eqlV neqV

/-- What Take tells. -/
def TakePost (p : Option Addr) (N : Nat) (w : World) (a : Addr) (r : Option ((Nat → Int) × List (BitVec 8))) (e : Ending) (w' : World) : Prop :=
  Kp a.block w w' ∧ match r with
    | some (f, rest) => e = .returned (vcV f) ∧ RdP p N w' a rest
    | none => Thrown (ThrP a) 6 e w'
set_option maxRecDepth 100000 in
set_option maxHeartbeats 8000000 in
theorem take9_any (p : Option Addr) (N : Nat) (w : World) (a : Addr) (l : List (BitVec 8)) (h : RdP p N w a l) : Calls Tryz.prog 236 #[.pointer (some a)] w (TakePost p N w a (takeV l)) := by
  have HL := Lib.hid (rdP_lie _ _ _ _ _ h)
  have HST : Hid (Row ((w.alloc (.cells (tab 16 (vf fun _ => 0)) 40)).alloc (.cells (tab 16 (vf fun _ => 0)) 40)) w.heap.size 40 16 (vf fun _ => 0) ∧ Row ((w.alloc (.cells (tab 16 (vf fun _ => 0)) 40)).alloc (.cells (tab 16 (vf fun _ => 0)) 40)) (w.heap.size + 1) 40 16 (vf fun _ => 0) ∧ Below w.heap.size w ((w.alloc (.cells (tab 16 (vf fun _ => 0)) 40)).alloc (.cells (tab 16 (vf fun _ => 0)) 40))) := Lib.hid (twoRows w 40 (vf fun _ => 0) (vf fun _ => 0) 16)
  have HR := Lib.hid (rdP_stay _ _ _ _ _ _ h HST.out.2.2.size (HST.out.2.2.block _ HL.out.2) fun c o _ hc => HST.out.2.2.block _ (by have := HL.out; omega))
  have HN := Lib.hid (number9_any p N ((w.alloc (.cells (tab 16 (vf fun _ => 0)) 40)).alloc (.cells (tab 16 (vf fun _ => 0)) 40)) a l 0 16 HR.out)
  have HK0 := Lib.hid ((Kp.refl a.block w).of_below HST.out.2.2)
  clear h
  obtain ⟨x, hx⟩ : ∃ x, rngI l 0 16 = x := ⟨_, rfl⟩
  obtain ⟨c, k0, cd⟩ := x
  rw [hx] at HN
  by_cases hcd : cd = 0
  · subst hcd
    have htk : takeV l = stepsV c 0 (l.drop k0) (fun _ => 0) := by unfold takeV; simp only [hx, if_true]
    have hc16 : c ≤ 16 := by have := (rngI_le (l := l) (lo := 0) (hi := 16) (by rw [hx])).2; rw [hx] at this; exact Int.ofNat_le.1 this
    obtain ⟨T, hT⟩ : ∃ T, takeV l = T := ⟨_, rfl⟩
    rw [hT] at htk
    rw [hT]
    have HT := Lib.hid htk
    clear hx hT htk
    go_enter Tryz.func236, Tryz.ntmps236
    go_wp2_with fail
    refine HN.out.mono ?_
    rintro e w1 ⟨hK, ⟨-, ⟨v, rfl, rfl⟩, hR1⟩ | ⟨hc, -⟩⟩
    · have HR1 := Lib.hid hR1
      have HK1 := Lib.hid (HK0.out.trans hK)
      have HA := Lib.hid (show Row w1 w.heap.size 40 16 (vf fun _ => 0) ∧ Row w1 (w.heap.size + 1) 40 16 (vf fun _ => 0) from ⟨HST.out.1.of_kp hK (by have := HL.out; omega), HST.out.2.1.of_kp hK (by have := HL.out; omega)⟩)
      clear hK hR1
      go_wp2
      go_loopw [4, 8] (fun s i wr => ∃ j least : Nat, j ≤ c ∧ i = .int .i64 j ∧ s = .int .i64 least ∧ least ≤ 16 ∧ ∃ f l', stepsV (c - j) least l' f = T ∧ RdP p N wr a l' ∧ Row wr w.heap.size 40 16 (vf fun _ => 0) ∧ Row wr (w.heap.size + 1) 40 16 (vf f) ∧ Kp a.block w wr) (fun s i _ => c - (intOf i).toNat)
      case atStart => exact ⟨0, 0, Nat.zero_le _, rfl, rfl, Nat.zero_le _, _, _, HT.out.symm, HR1.out, HA.out.1, HA.out.2, HK1.out⟩
      case round =>
        clear HR1 HK1 HA
        obtain ⟨j, least, hj, rfl, rfl, hle, f, l', hst, hR, hZ, hF, hK⟩ := hrel
        have HS := Lib.hid hst
        have HRr := Lib.hid hR
        have HZ := Lib.hid hZ
        have HF := Lib.hid hF
        have HK := Lib.hid hK
        clear hst hK hR
        by_cases hjc : j < c
        · have z1 : (j : Int) < (c : Int) := by omega
          have z2 : decide ((j : Int) < (c : Int)) = true := decide_eq_true z1
          have hw := i64v j (by omega)
          have hcj : c - j = (c - (j + 1)) + 1 := by omega
          have HN1 := Lib.hid (number9_any p N wr a l' (least : Int) 15 HRr.out)
          obtain ⟨y, hy⟩ : ∃ y, rngI l' (least : Int) 15 = y := ⟨_, rfl⟩
          obtain ⟨r, k1, c1⟩ := y
          by_cases hc1 : c1 = 0
          · subst hc1
            have hr15 := rngI_le (l := l') (lo := (least : Int)) (hi := 15) (by rw [hy])
            rw [hy] at HN1 hr15
            have hr16 : r < 16 := by have := hr15.2; show r < 16; simp at this; omega
            have HY := Lib.hid hy
            clear hy hr15 hZ hF
            go_wp2_with fail
            refine HN1.out.mono ?_
            rintro e w2 ⟨hK2, ⟨-, ⟨v, rfl, rfl⟩, hR2⟩ | ⟨hc, -⟩⟩
            · have HR2 := Lib.hid hR2
              have HKc := Lib.hid (HK.out.trans hK2)
              have HZ2 := Lib.hid (HZ.out.of_kp hK2 (by have := HL.out; omega))
              have HF2 := Lib.hid (HF.out.of_kp hK2 (by have := HL.out; omega))
              have HN2 := Lib.hid (number9_any p N w2 a (l'.drop k1) 1 1099511627776 hR2)
              obtain ⟨y2, hy2⟩ : ∃ y, rngI (l'.drop k1) 1 1099511627776 = y := ⟨_, rfl⟩
              obtain ⟨n, k2, c2⟩ := y2
              rw [hy2] at HN2
              have HY2 := Lib.hid hy2
              clear hK2 hR2 hy2
              by_cases hc2 : c2 = 0
              · subst hc2
                have HSN := Lib.hid (show stepsV (c - (j + 1)) (r + 1) ((l'.drop k1).drop k2) (fun i => if i = r then (n : Int) else f i) = T by rw [← HS.out, hcj, stepsV_one HY.out HY2.out])
                go_wp2_with fail
                refine HN2.out.mono ?_
                rintro e w3 ⟨hK3, ⟨-, ⟨v, rfl, rfl⟩, hR3⟩ | ⟨hc, -⟩⟩
                · have HKd := Lib.hid (HKc.out.trans hK3)
                  have HZ3 := Lib.hid (HZ2.out.of_kp hK3 (by have := HL.out; omega))
                  have hF3 := HF2.out.of_kp hK3 (by have := HL.out; omega)
                  have HF3 := Lib.hid hF3
                  have x5 : w3.cell? ⟨w.heap.size + 1, r, none⟩ = some (.int .i64 (f r)) := hF3.cell r hr16
                  have x6 := hF3.free r
                  have hwr := i64v r hr16
                  have HR4 := Lib.hid (rdP_stay _ _ _ (w3.setCell ⟨w.heap.size + 1, r, none⟩ (.int .i64 (n : Int))) _ _ hR3 (by simp) (Below.heap_setCell _ _ _ _ (by show a.block ≠ w.heap.size + 1; have := HL.out; omega)) fun c o _ hc => Below.heap_setCell _ _ _ _ (by show c ≠ w.heap.size + 1; have := HL.out; omega))
                  clear hK3 hR3 hF3
                  go_wp2
                  go_roundw
                  case rel => exact ⟨j + 1, r + 1, by omega, by go_num, by go_num, by omega, _, _, HSN.out, HR4.out, HZ3.out.of_block (Below.heap_setCell _ _ _ _ (by show w.heap.size ≠ w.heap.size + 1; omega)), (HF3.out.set r (.int .i64 (n : Int))).congr fun i _ => by
                    unfold vf
                    by_cases e : i = r
                    · simp [e]
                    · simp [e], HKd.out.setNew (by show w.heap.size ≤ w.heap.size + 1; omega) _⟩
                  case measure => simp [intOf]; omega
                · exact absurd rfl hc
              · have hTn : T = none := by rw [← HS.out, hcj]; exact stepsV_no2 HY.out (by rw [HY2.out]; exact hc2)
                have h6 : c2 = 6 := by have := rngI_code (l := l'.drop k1) (lo := 1) (hi := 1099511627776) (by rw [HY2.out]; exact hc2); rw [HY2.out] at this; exact this
                subst h6
                subst hTn
                go_wp2_with fail
                refine HN2.out.mono ?_
                rintro e w3 ⟨hK3, ⟨hcc, -⟩ | ⟨hc, v, hv, rfl⟩⟩
                · exact absurd hcc (by decide)
                · exact ⟨rfl, HKc.out.trans hK3, v, hv, rfl⟩
            · exact absurd rfl hc
          · have hTn : T = none := by rw [← HS.out, hcj]; exact stepsV_no1 (by rw [hy]; exact hc1)
            have h6 : c1 = 6 := by have := rngI_code (l := l') (lo := (least : Int)) (hi := 15) (by rw [hy]; exact hc1); rw [hy] at this; exact this
            rw [hy] at HN1
            subst h6
            subst hTn
            clear hy hZ hF
            go_wp2_with fail
            refine HN1.out.mono ?_
            rintro e w3 ⟨hK3, ⟨hcc, -⟩ | ⟨hc, v, hv, rfl⟩⟩
            · exact absurd hcc (by decide)
            · exact ⟨rfl, HK.out.trans hK3, v, hv, rfl⟩
        · have z1 : ¬ (j : Int) < (c : Int) := by omega
          have z2 : decide ((j : Int) < (c : Int)) = false := decide_eq_false z1
          have hT2 : T = some (f, l') := by rw [← HS.out, show c - j = 0 by omega]; rfl
          subst hT2
          have l3 := loadVT vtV (VecAt.of_row hF (Nat.le_refl _))
          obtain ⟨w5, hs5, hR5, hK5⟩ := storeVT vtV hZ f
          have HR5 := Lib.hid hR5
          have HRd := Lib.hid (rdP_stay _ _ _ w5 _ _ HRr.out hK5.size (hK5.block _ (rdP_lie _ _ _ _ _ HRr.out).2 (by have := HL.out; omega)) fun c o _ hc => hK5.block _ (by have := rdP_lie _ _ _ _ _ HRr.out; omega) (by have := HL.out; omega))
          have HK5 := Lib.hid (show Kp a.block w w5 from ⟨hK5.os.trans HK.out.os, hK5.tape.trans HK.out.tape, hK5.output.trans HK.out.output, Nat.le_trans HK.out.size hK5.size, fun i hi hb => (hK5.block i (Nat.lt_of_lt_of_le hi HK.out.size) (by omega)).trans (HK.out.block i hi hb)⟩)
          clear hZ hF hR5 hK5
          go_wp2
          refine bodyPost_ret (resV vtV rfl _ w5 w.heap.size 40 f rfl HR5.out) rfl ?_
          exact ⟨HK5.out, rfl, HRd.out⟩
    · exact absurd rfl hc
  · have htk : takeV l = none := by unfold takeV; simp only [hx, if_neg hcd]
    have h6 : cd = 6 := by have := rngI_code (l := l) (lo := 0) (hi := 16) (by rw [hx]; exact hcd); rw [hx] at this; exact this
    subst h6
    rw [htk]
    clear hx htk
    go_enter Tryz.func236, Tryz.ntmps236
    go_wp2_with fail
    refine HN.out.mono ?_
    rintro e w1 ⟨hK, ⟨hcc, -⟩ | ⟨hc, v, hv, rfl⟩⟩
    · exact absurd hcc (by decide)
    · exact ⟨rfl, HK0.out.trans hK, v, hv, rfl⟩
end Go.Proofs.YtkajeepbelfpiaaGreatDoor
/- Take of the reference. -/
set_option maxRecDepth 100000
namespace Go.Proofs.YtkajeepbelfpiaaGreatDoor
open Go Go.RowKit
attribute [-go_sem] Sha.exec_store

/-- The vector at the beginning of bytes, by the reference. -/
def takeR (l : List (BitVec 8)) : Option ((Nat → Int) × List (BitVec 8)) :=
  match num7 l with
  | none => none
  | some (c, k) => stepsV c 0 (l.drop k) (fun _ => 0)
theorem stepsV_bound : ∀ (c least : Nat) (l : List (BitVec 8)) (f : Nat → Int), least ≤ 16 → stepsV c least l f ≠ none → c + least ≤ 16
  | 0, least, l, f, h, _ => by omega
  | c + 1, least, l, f, h, hs => by
    by_cases h1 : (rngI l least 15).2.2 = 0
    · obtain ⟨x, hx⟩ : ∃ x, rngI l least 15 = x := ⟨_, rfl⟩
      obtain ⟨r, k, cd⟩ := x
      have hle := rngI_le h1
      rw [hx] at h1 hle
      have h1' : cd = 0 := h1
      subst h1'
      by_cases h2 : (rngI (l.drop k) 1 1099511627776).2.2 = 0
      · obtain ⟨y, hy⟩ : ∃ y, rngI (l.drop k) 1 1099511627776 = y := ⟨_, rfl⟩
        obtain ⟨n, k2, c2⟩ := y
        rw [hy] at h2
        have h2' : c2 = 0 := h2
        subst h2'
        rw [stepsV_one hx hy] at hs
        have hr : (least : Int) ≤ (r : Int) ∧ (r : Int) ≤ 15 := hle
        have := stepsV_bound c (r + 1) _ _ (by omega) hs
        omega
      · exact absurd (stepsV_no2 hx h2) hs
    · exact absurd (stepsV_no1 h1) hs
theorem takeV_eq (l : List (BitVec 8)) : takeV l = takeR l := by
  unfold takeV takeR
  cases e : num7 l with
  | none => rw [rngI_none 0 16 e]; rfl
  | some x =>
    obtain ⟨c, k⟩ := x
    by_cases h : (c : Int) < 0 ∨ 16 < (c : Int)
    · rw [rngI_out e h]
      show none = stepsV c 0 (l.drop k) (fun _ => 0)
      cases hs : stepsV c 0 (l.drop k) (fun _ => 0) with
      | none => rfl
      | some y => have := stepsV_bound c 0 _ _ (by omega) (by rw [hs]; exact fun q => by cases q); omega
    · rw [rngI_in e h]
      rfl
attribute [local go_sem ↓] exec_boxA exec_loadA exec_indexA exec_allocA exec_storeA exec_buildA exec_eqlA exec_neqA exec_boxV exec_loadV exec_indexV exec_allocV exec_storeV exec_buildV exec_eqlV exec_neqV
attribute [local go_sem] boxA indexA storeNewA buildA eqlA neqA boxV indexV storeNewV buildV eqlV neqV

attribute [local go_sem ↓] exec_slice
end Go.Proofs.YtkajeepbelfpiaaGreatDoor
/- The encoding of a vector, plain. -/
set_option maxRecDepth 100000
namespace Go.Proofs.YtkajeepbelfpiaaGreatDoor
open Go Go.RowKit
attribute [-go_sem] Sha.exec_store

/-- What is written of the numbers of the first replicas. -/
def bodyV (f : Nat → Int) : Nat → List (BitVec 8)
  | 0 => []
  | i + 1 => if f i = 0 then bodyV f i else bodyV f i ++ enc7 i ++ enc7 (f i).toNat
/-- How many of them are not 0. -/
def cntV (f : Nat → Int) : Nat → Nat
  | 0 => 0
  | i + 1 => if f i = 0 then cntV f i else cntV f i + 1
/-- The encoding of a vector. -/
def encV (f : Nat → Int) : List (BitVec 8) := enc7 (cntV f 16) ++ bodyV f 16
theorem bodyV_zero {f : Nat → Int} {i : Nat} (h : f i = 0) : bodyV f (i + 1) = bodyV f i := by rw [bodyV, if_pos h]
theorem bodyV_one {f : Nat → Int} {i : Nat} (h : f i ≠ 0) : bodyV f (i + 1) = bodyV f i ++ enc7 i ++ enc7 (f i).toNat := by rw [bodyV, if_neg h]
theorem cntV_zero {f : Nat → Int} {i : Nat} (h : f i = 0) : cntV f (i + 1) = cntV f i := by rw [cntV, if_pos h]
theorem cntV_one {f : Nat → Int} {i : Nat} (h : f i ≠ 0) : cntV f (i + 1) = cntV f i + 1 := by rw [cntV, if_neg h]
theorem cntV_le (f : Nat → Int) : ∀ i, cntV f i ≤ i
  | 0 => Nat.le_refl _
  | i + 1 => by
    have := cntV_le f i
    by_cases h : f i = 0
    · rw [cntV_zero h]; omega
    · rw [cntV_one h]; omega
theorem bodyV_congr {f g : Nat → Int} : ∀ i, (∀ j, j < i → f j = g j) → bodyV f i = bodyV g i
  | 0, _ => rfl
  | i + 1, h => by
    have ih := bodyV_congr i (fun j hj => h j (by omega))
    have hi := h i (by omega)
    by_cases h0 : f i = 0
    · rw [bodyV_zero h0, bodyV_zero (by rw [← hi]; exact h0), ih]
    · rw [bodyV_one h0, bodyV_one (by rw [← hi]; exact h0), ih, hi]
theorem cntV_congr {f g : Nat → Int} : ∀ i, (∀ j, j < i → f j = g j) → cntV f i = cntV g i
  | 0, _ => rfl
  | i + 1, h => by
    have ih := cntV_congr i (fun j hj => h j (by omega))
    have hi := h i (by omega)
    by_cases h0 : f i = 0
    · rw [cntV_zero h0, cntV_zero (by rw [← hi]; exact h0), ih]
    · rw [cntV_one h0, cntV_one (by rw [← hi]; exact h0), ih]
/-- Where nothing comes from a replica on, nothing is written. -/
theorem bodyV_rest {f : Nat → Int} (k : Nat) (h : ∀ j, k ≤ j → f j = 0) : ∀ d, bodyV f (k + d) = bodyV f k ∧ cntV f (k + d) = cntV f k
  | 0 => ⟨rfl, rfl⟩
  | d + 1 => by
    have ih := bodyV_rest k h d
    have h0 := h (k + d) (by omega)
    rw [show k + (d + 1) = (k + d) + 1 by omega, bodyV_zero h0, cntV_zero h0]
    exact ih
theorem enc7_len40 {n : Nat} (h : n ≤ 1099511627776) : (enc7 n).length ≤ 6 := enc7_len 5 n (by show n < 4398046511104; omega)
theorem bodyV_len {f : Nat → Int} (h : ∀ i, i < 16 → 0 ≤ f i ∧ f i ≤ 1099511627776) : ∀ i, i ≤ 16 → (bodyV f i).length ≤ 7 * i
  | 0, _ => by show 0 ≤ _; omega
  | i + 1, hi => by
    have ih := bodyV_len h i (by omega)
    by_cases h0 : f i = 0
    · rw [bodyV_zero h0]; omega
    · rw [bodyV_one h0]
      have h1 := enc7_len 0 i (by show i < 128; omega)
      have h2 := enc7_len40 (n := (f i).toNat) (by have := h i (by omega); omega)
      simp only [List.length_append]
      omega
theorem encV_len {f : Nat → Int} (h : ∀ i, i < 16 → 0 ≤ f i ∧ f i ≤ 1099511627776) : (encV f).length ≤ 113 := by
  have h1 := bodyV_len h 16 (Nat.le_refl _)
  have h2 := enc7_len 0 (cntV f 16) (by have := cntV_le f 16; show _ < 128; omega)
  unfold encV
  simp only [List.length_append]
  omega
end Go.Proofs.YtkajeepbelfpiaaGreatDoor
/- What was taken as a vector has just the bytes that were taken. -/
set_option maxRecDepth 100000
namespace Go.Proofs.YtkajeepbelfpiaaGreatDoor
open Go Go.RowKit
attribute [-go_sem] Sha.exec_store

theorem rngI_inv {l : List (BitVec 8)} {lo hi : Int} {n k : Nat} (h : rngI l lo hi = (n, k, 0)) : k ≤ l.length ∧ l.take k = enc7 n ∧ lo ≤ (n : Int) ∧ (n : Int) ≤ hi := by
  cases e : num7 l with
  | none => rw [rngI_none lo hi e] at h; injection h with _ h; injection h with _ h; cases h
  | some x =>
    obtain ⟨a, b⟩ := x
    by_cases g : (a : Int) < lo ∨ hi < (a : Int)
    · rw [rngI_out e g] at h; injection h with _ h; injection h with _ h; cases h
    · rw [rngI_in e g] at h
      injection h with h1 h
      injection h with h2 h
      subst h1 h2
      have := num7_inv e
      exact ⟨this.2.1, this.2.2.1, by omega, by omega⟩
theorem stepsV_enc : ∀ (c least : Nat) (l : List (BitVec 8)) (f : Nat → Int) (g : Nat → Int) (rest : List (BitVec 8)), least ≤ 16 → (∀ j, least ≤ j → f j = 0) → (∀ j, j < 16 → 0 ≤ f j ∧ f j ≤ 1099511627776) → stepsV c least l f = some (g, rest) →
    ∃ mid, l = mid ++ rest ∧ bodyV g 16 = bodyV f least ++ mid ∧ cntV g 16 = cntV f least + c ∧ ∀ j, j < 16 → 0 ≤ g j ∧ g j ≤ 1099511627776
  | 0, least, l, f, g, rest, hl, hz, hg, h => by
    injection h with h
    injection h with h1 h2
    subst h1 h2
    have := bodyV_rest least hz (16 - least)
    rw [show least + (16 - least) = 16 by omega] at this
    exact ⟨[], rfl, by rw [this.1, List.append_nil], by rw [this.2]; rfl, hg⟩
  | c + 1, least, l, f, g, rest, hl, hz, hg, h => by
    by_cases h1 : (rngI l least 15).2.2 = 0
    · obtain ⟨x, hx⟩ : ∃ x, rngI l least 15 = x := ⟨_, rfl⟩
      obtain ⟨r, k, cd⟩ := x
      rw [hx] at h1
      have h1' : cd = 0 := h1
      subst h1'
      by_cases h2 : (rngI (l.drop k) 1 1099511627776).2.2 = 0
      · obtain ⟨y, hy⟩ : ∃ y, rngI (l.drop k) 1 1099511627776 = y := ⟨_, rfl⟩
        obtain ⟨n, k2, c2⟩ := y
        rw [hy] at h2
        have h2' : c2 = 0 := h2
        subst h2'
        rw [stepsV_one hx hy] at h
        have i1 := rngI_inv hx
        have i2 := rngI_inv hy
        have hr : least ≤ r ∧ r ≤ 15 := by omega
        have hn : 1 ≤ n ∧ n ≤ 1099511627776 := by omega
        obtain ⟨mid, e1, e2, e3, e4⟩ := stepsV_enc c (r + 1) _ (fun i => if i = r then (n : Int) else f i) g rest (by omega) (fun j hj => by
          show (if j = r then (n : Int) else f j) = 0
          rw [if_neg (by omega)]; exact hz j (by omega)) (fun j hj => by
          show 0 ≤ (if j = r then (n : Int) else f j) ∧ (if j = r then (n : Int) else f j) ≤ 1099511627776
          split
          · omega
          · exact hg j hj) h
        have hb : bodyV (fun i => if i = r then (n : Int) else f i) (r + 1) = bodyV f least ++ enc7 r ++ enc7 n ∧ cntV (fun i => if i = r then (n : Int) else f i) (r + 1) = cntV f least + 1 := by
          have q : (fun i => if i = r then (n : Int) else f i) r = (n : Int) := if_pos rfl
          have q0 : (fun i => if i = r then (n : Int) else f i) r ≠ 0 := by rw [q]; omega
          have hrest := bodyV_rest least hz (r - least)
          rw [show least + (r - least) = r by omega] at hrest
          rw [bodyV_one q0, cntV_one q0, if_pos rfl, bodyV_congr (g := f) r (fun j hj => if_neg (by omega)), cntV_congr (g := f) r (fun j hj => if_neg (by omega)), hrest.1, hrest.2]
          exact ⟨by rw [Int.toNat_natCast], rfl⟩
        refine ⟨enc7 r ++ enc7 n ++ mid, ?_, ?_, ?_, e4⟩
        · rw [← i1.2.1, ← i2.2.1, List.append_assoc, List.append_assoc, ← e1, List.take_append_drop, List.take_append_drop]
        · rw [e2, hb.1]; simp only [List.append_assoc]
        · rw [e3, hb.2]; omega
      · rw [stepsV_no2 hx h2] at h; cases h
    · rw [stepsV_no1 h1] at h; cases h
theorem takeR_enc {l : List (BitVec 8)} {g : Nat → Int} {rest : List (BitVec 8)} (h : takeR l = some (g, rest)) : l = encV g ++ rest ∧ ∀ j, j < 16 → 0 ≤ g j ∧ g j ≤ 1099511627776 := by
  unfold takeR at h
  cases e : num7 l with
  | none => rw [e] at h; cases h
  | some x =>
    obtain ⟨c, k⟩ := x
    rw [e] at h
    obtain ⟨mid, e1, e2, e3, e4⟩ := stepsV_enc c 0 _ _ g rest (by omega) (fun _ _ => rfl) (fun _ _ => ⟨by decide, by decide⟩) h
    have hi := num7_inv e
    refine ⟨?_, e4⟩
    unfold encV
    rw [e2, e3, List.append_assoc]
    show l = enc7 (cntV (fun _ => 0) 0 + c) ++ (([] ++ mid) ++ rest)
    rw [show cntV (fun _ => 0) 0 + c = c from Nat.zero_add _, List.nil_append, ← e1, ← hi.2.2.1, List.take_append_drop]
end Go.Proofs.YtkajeepbelfpiaaGreatDoor
/- Lists of items in memory. -/
set_option maxRecDepth 100000
namespace Go.Proofs.YtkajeepbelfpiaaGreatDoor
open Go Go.RowKit
attribute [-go_sem] Sha.exec_store

/-- An item as it comes in. -/
structure Rw where
  k : Int
  n : Int
  b : List (BitVec 8)
def rw0 : Rw := ⟨0, 0, []⟩
/-- The item's bytes lie at q. -/
structure Bt (w : World) (x : Rw) (q : Option Addr) (c : Nat) : Prop where
  sl : Sl w q x.b
  nil : q = none → c = 0
  le : x.b.length ≤ c
def ItAt (w : World) (c o : Nat) (x : Rw) : Prop := ∃ q cap, w.cell? ⟨c, o, none⟩ = some (.int .i64 x.k) ∧ w.cell? ⟨c, o + 1, none⟩ = some (.int .i64 x.n) ∧ w.cell? ⟨c, o + 2, none⟩ = some (.slice q x.b.length cap) ∧ Bt w x q cap
/-- Items lie where a slice of their number begins. -/
def Its (w : World) (p : Option Addr) (xs : List Rw) : Prop := ∀ i, i < xs.length → ∃ c o, p = some ⟨c, o, none⟩ ∧ c < w.heap.size ∧ ItAt w c (o + i * 3) (xs.getD i rw0)
section
variable {w w' : World} {p q : Option Addr} {xs : List Rw} {x : Rw} {c o : Nat}
theorem Bt.of_below (h : Bt w x q c) (k : Below w.heap.size w w') : Bt w' x q c := ⟨h.sl.of_below k, h.nil, h.le⟩
theorem ItAt.of_below (h : ItAt w c o x) (hc : c < w.heap.size) (k : Below w.heap.size w w') : ItAt w' c o x := by
  obtain ⟨q, cap, h1, h2, h3, h4⟩ := h
  exact ⟨q, cap, by rw [k.cell (by exact hc)]; exact h1, by rw [k.cell (by exact hc)]; exact h2, by rw [k.cell (by exact hc)]; exact h3, h4.of_below k⟩
theorem Its.of_below (h : Its w p xs) (k : Below w.heap.size w w') : Its w' p xs := fun i hi => by
  obtain ⟨c, o, e, hc, ha⟩ := h i hi
  exact ⟨c, o, e, Nat.lt_of_lt_of_le hc k.size, ha.of_below hc k⟩
theorem Its.nil (w : World) (p : Option Addr) : Its w p [] := fun i hi => absurd hi (by simp)
theorem Its.take (h : Its w p xs) (k : Nat) : Its w p (xs.take k) := fun i hi => by
  have hi' : i < k ∧ i < xs.length := by simp [List.length_take] at hi; omega
  obtain ⟨c, o, e, hc, ha⟩ := h i hi'.2
  exact ⟨c, o, e, hc, by simpa [List.getD_eq_getElem?_getD, hi'.1] using ha⟩
end
section
variable {w w' : World} {base : Nat} {v : Value} {xs : List Rw}
end
end Go.Proofs.YtkajeepbelfpiaaGreatDoor
/- Arrays of 32 bytes: filled by copy, cut whole, read by value. -/
set_option maxRecDepth 100000
namespace Go.Proofs.YtkajeepbelfpiaaGreatDoor
open Go Go.RowKit
attribute [-go_sem] Sha.exec_store

/-- What the copy leaves. -/
def copiedT (l : List (BitVec 8)) (t : Nat) (g : Nat → Value) : Nat → Value := fun j => if j < t then B (l.getD j 0#8) else g j
theorem run_copyT (w : World) (ty T : TypeId) (E m c : Nat) (g : Nat → Value) (q : Option Addr) (n c' : Nat) (l : List (BitVec 8)) (hR : Row w E T m g) (hl : l.length = n) (hsl : Sl w q l) (t : Nat) (ht : t = min m n) :
    ∃ w', (Builtin.copy_ #[56, 56] ty #[.slice (some ⟨E, 0, none⟩) m c, .slice q n c']).run Tryz.prog w = .ok (.int .i64 (t : Int)) w' ∧ Row w' E T m (copiedT l t g) ∧ Kp E w w' := by
  by_cases h0 : t = 0
  · subst h0
    have hn : Nat.min n m = 0 := by show min n m = 0; omega
    refine ⟨w, ?_, hR.congr fun j _ => by rw [copiedT, if_neg (by omega)], Kp.refl _ _⟩
    have := run_copy_none (P := Tryz.prog) w 56 56 ty 5 (some ⟨E, 0, none⟩) q m c n c' und35 (by kernel_rfl) hn
    rw [this]
    rfl
  · obtain ⟨c0, o0, rfl, hc⟩ := hsl 0 (by omega)
    have hlen : ((l.take t).map B).length = t := by rw [List.length_map, List.length_take]; omega
    have key := run_copy_row (P := Tryz.prog) w 56 56 ty 5 E 0 m c ⟨c0, o0, none⟩ n c' (tab m g) T ((l.take t).map B) und35 (by kernel_rfl) hR (by rw [hlen, ht]; exact Nat.min_comm _ _)
      (fun j v hv => by
        have hj : j < t := by
          have := (List.getElem?_eq_some_iff.1 hv).1
          rw [hlen] at this; exact this
        refine hsl.news j v ?_
        rw [List.getElem?_map] at hv ⊢
        rw [List.getElem?_take, if_pos hj] at hv
        exact hv) (by rw [tab_size, hlen]; omega) (one_map _)
    have e : ((tab m g).toList.take 0 ++ (l.take t).map B ++ (tab m g).toList.drop (0 + ((l.take t).map B).length)).toArray = tab m (copiedT l t g) := by
      have := tab_splice m t g (l.take t) (by rw [List.length_take]; omega) (by omega)
      rw [List.append_assoc, this]
      refine tab_congr fun j _ => ?_
      unfold copiedT
      by_cases hj : j < t
      · rw [if_pos hj, if_pos hj]; congr 1; simp [List.getD_eq_getElem?_getD, hj]
      · rw [if_neg hj, if_neg hj]
    rw [e, hlen] at key
    exact ⟨_, key, setRow_heap w E _ _ T _ hR, ⟨rfl, rfl, rfl, by simp [World.setRow], fun k _ hk => setRow_other w E k _ hk⟩⟩
theorem sl_arr (E : Nat) (w : World) : (slT 41 (.pointer (some ⟨E, 0, none⟩)) none none none).run Tryz.prog w = .ok (.value (.slice (some ⟨E, 0, none⟩) 32 32)) w := by
  first
  | kernel_rfl
  | (unfold slT; simp [go_sem, Instr.sliceAt])
/-- The first 32 bytes, noughts behind. -/
def pad32 (b : List (BitVec 8)) : List (BitVec 8) := (List.range 32).map fun i => b.getD i 0#8
theorem pad32_len (b : List (BitVec 8)) : (pad32 b).length = 32 := by simp [pad32]
theorem pad32_get (b : List (BitVec 8)) (j : Nat) (h : j < 32) : (pad32 b).getD j 0#8 = b.getD j 0#8 := by simp [pad32, List.getD_eq_getElem?_getD, h]
theorem pad32_same {b : List (BitVec 8)} (h : b.length = 32) : pad32 b = b := by
  apply List.ext_getElem?
  intro j
  by_cases hj : j < 32
  · simp [pad32, hj, List.getD_eq_getElem?_getD, show j < b.length by omega]
  · rw [List.getElem?_eq_none (by rw [pad32_len]; omega), List.getElem?_eq_none (by omega)]
/-- The row that a copy into noughts leaves. -/
theorem Sl.padded {w : World} {E : Nat} {T : TypeId} {b : List (BitVec 8)} {n t : Nat} (h : Row w E T 32 (copiedT b t (fun _ => B 0#8))) (hn : b.length = n) (ht : t = min 32 n) : Sl w (some ⟨E, 0, none⟩) (pad32 b) :=
  Sl.row h (by rw [pad32_len]; exact Nat.le_refl _) fun j hj => by
    rw [pad32_len] at hj
    rw [pad32_get b j hj]
    unfold copiedT
    split
    · rfl
    · rw [List.getD_eq_getElem?_getD, List.getElem?_eq_none (by omega)]; rfl
theorem info32 : (Tryz.prog.info? 41).map (fun i => (i.zero, i.size)) = some (some (.agg (Array.replicate 32 (Value.int .u8 0))), 32) := by kernel_rfl
theorem und32 : Tryz.prog.underlying 41 = some (.array 32 5) := by kernel_rfl
theorem size32 : (Tryz.prog.info? 41).map (·.size) = some 32 := by kernel_rfl
section
variable (r : Operand → Value) (dst : Option Tmp) (ty : TypeId) (pos : String) (after : Array Edge) (guard : Option (Nat × Bool))
theorem exec_alloc32 (w : World) :
    (execOp r ⟨dst, .alloc 41, ty, pos, after, guard⟩).run Tryz.prog w = .ok (.value (.pointer (some ⟨w.heap.size, 0, none⟩))) (w.alloc (.cells (zb 32) 41)) := by
  have h := (zero_of_info info32).1 w
  rw [← zb_eq] at h
  simp [execOp, Instr.alloc, h, newVar, newRow, Value.cells]
theorem exec_build32 (parts : Array (Nat × Operand)) : execOp r ⟨dst, .build 41 parts, ty, pos, after, guard⟩ = bdT 41 (parts.map fun x => (x.1, r x.2)) := rfl
theorem exec_store32 (p v : Operand) : execOp r ⟨dst, .store 41 p v, ty, pos, after, guard⟩ = stT 41 (r p) (r v) := rfl
theorem exec_load32 (p : Operand) : execOp r ⟨dst, .load 41 p, ty, pos, after, guard⟩ = ldT 41 (r p) := rfl
end
/-- 32 noughts. -/
def z32 : List (BitVec 8) := List.replicate 32 0#8
theorem z32_get (j : Nat) (h : j < 32) : z32.getD j 0#8 = 0#8 := by unfold z32; rw [List.getD_eq_getElem?_getD, List.getElem?_replicate, if_pos h]; rfl
theorem bd32 (w : World) : (bdT 41 #[]).run Tryz.prog w = .ok (.value (digV z32)) w := by
  have e : (tab 32 (dgF z32)) = Array.replicate 32 (Value.int .u8 0) := by
    rw [← zb_eq, zb]
    exact tab_congr fun j hj => by unfold dgF; rw [z32_get j hj]
  unfold digV
  rw [e]
  show (bdT 41 #[]).run Tryz.prog w = .ok (.value (.agg (Array.replicate 32 (Value.int .u8 0)))) w
  kernel_rfl
theorem run_storeAt_new' {P : Program} (w : World) (t e : TypeId) (c c' : Array Value) (hi : (P.info? t).map (·.size) = some c'.size) (ho : c.size = c'.size) (h1 : c'.all (·.oneCell') = true) :
    (Instr.storeAt t (.pointer (some ⟨w.heap.size, 0, none⟩)) (.agg c')).run P (w.alloc (.cells c e)) = .ok () (w.alloc (.cells c' e)) := by
  simp only [Instr.storeAt, Instr.sureAddr, Sem.run_bind, Sem.run_pure, Result.andThen]
  rw [run_storeVar_row _ _ e t c c' (heap_alloc_last w _) hi ho h1, World.setRow_alloc_new]
theorem st_dig (w : World) (N : Nat) (l : List (BitVec 8)) (hN : N = w.heap.size) : (stT 41 (.pointer (some ⟨N, 0, none⟩)) (digV l)).run Tryz.prog (w.alloc (.cells (zb 32) 41)) = .ok .skip (w.alloc (.cells (tab 32 (dgF l)) 41)) := by
  subst hN
  have h := run_storeAt_new' (P := Tryz.prog) w 41 41 (zb 32) (tab 32 (dgF l)) (by rw [size32, tab_size]) (by rw [zb, tab_size, tab_size]) (by simp [tab, dgF, one_B])
  unfold digV
  simp only [stT, Sem.run_bind, h, Result.andThen, Sem.run_pure]
theorem ld_dig {w : World} {b o : Nat} {l : List (BitVec 8)} (h : Sl w (some ⟨b, o, none⟩) l) (hl : l.length = 32) : (ldT 41 (.pointer (some ⟨b, o, none⟩))).run Tryz.prog w = .ok (.value (digV l)) w := by
  have hr : w.rangeAt b o (tab 32 (dgF l)).toList := by
    intro j v hv
    have hj : j < 32 := by
      have := (List.getElem?_eq_some_iff.1 hv).1
      simpa [tab] using this
    obtain ⟨c, o', e, hx⟩ := h j (by omega)
    injection e with e
    injection e with e1 e2
    subst e1 e2
    rw [hx]
    have h2 : (tab 32 (dgF l)).toList[j]? = some (B (l.getD j 0#8)) := by simp [tab, dgF, hj]
    rw [h2] at hv
    exact hv
  have := run_loadAt_mid (P := Tryz.prog) w b o 41 _ _ hr und32 rfl (by rw [size32]; simp [tab])
  unfold digV
  simp only [ldT, Sem.run_bind, this, Result.andThen, Sem.run_pure, Array.toArray_toList]
end Go.Proofs.YtkajeepbelfpiaaGreatDoor
/- Records by value: their cells, the laws of both types. -/
set_option maxRecDepth 100000
namespace Go.Proofs.YtkajeepbelfpiaaGreatDoor
open Go Go.RowKit
attribute [-go_sem] Sha.exec_store

/-- A record: its path, size, times, version, whether it is gone, the digest of all, the header of its digests. -/
structure Rc where
  path : S8
  size : Int
  time : Int
  chg : Int
  ver : Nat → Int
  dead : Bool
  whole : List (BitVec 8)
  q : Option Addr
  n : Nat
  cap : Nat
/-- Its cells. -/
def rcF (r : Rc) (i : Nat) : Value :=
  if i = 0 then .string (mkS r.path) else if i = 1 then .int .i64 r.size else if i = 2 then .int .i64 r.time else if i = 3 then .int .i64 r.chg
  else if i < 20 then .int .i64 (r.ver (i - 4)) else if i = 20 then .bool r.dead else if i < 53 then dgF r.whole (i - 21) else .slice r.q r.n r.cap
def rcV (r : Rc) : Value := .agg (tab 54 (rcF r))
theorem rc_one (r : Rc) (n : Nat) : (tab n (rcF r)).all (·.oneCell') = true := by
  rw [Array.all_eq_true']
  intro x hx
  unfold tab at hx
  simp only [List.mem_toArray, List.mem_map, List.mem_range] at hx
  obtain ⟨i, _, rfl⟩ := hx
  unfold rcF
  split
  · rfl
  · split
    · rfl
    · split
      · rfl
      · split
        · rfl
        · split
          · rfl
          · split
            · rfl
            · split
              · exact one_B _
              · rfl
/-- The zero record. -/
def rc0 : Rc := ⟨[], 0, 0, 0, fun _ => 0, false, z32, none, 0, 0⟩
structure RT (T : TypeId) : Prop where
  und : (Tryz.prog.underlying T).map (·.isRow) = some true
  info : (Tryz.prog.info? T).map (fun i => (i.zero, i.size)) = some (some (.agg (#[.string ⟨#[]⟩, .int .i64 0, .int .i64 0, .int .i64 0] ++ Array.replicate 16 (.int .i64 0) ++ #[.bool false] ++ Array.replicate 32 (.int .u8 0) ++ #[.slice none 0 0])), 54)
theorem RT.size {T : TypeId} (h : RT T) : (Tryz.prog.info? T).map (·.size) = some 54 := by
  have := h.info
  cases hq : Tryz.prog.info? T with
  | none => rw [hq] at this; cases this
  | some i => rw [hq] at this; simp at this; simp [this.2]
theorem rz : (#[.string ⟨#[]⟩, .int .i64 0, .int .i64 0, .int .i64 0] ++ Array.replicate 16 (Value.int .i64 0) ++ #[.bool false] ++ Array.replicate 32 (Value.int .u8 0) ++ #[.slice none 0 0]) = tab 54 (rcF rc0) := by kernel_rfl
section
variable {T : TypeId} (hT : RT T)
include hT
theorem allocRT (r : Operand → Value) (dst : Option Tmp) (ty : TypeId) (pos : String) (after : Array Edge) (guard : Option (Nat × Bool)) (w : World) :
    (execOp r ⟨dst, .alloc T, ty, pos, after, guard⟩).run Tryz.prog w = .ok (.value (.pointer (some ⟨w.heap.size, 0, none⟩))) (w.alloc (.cells (tab 54 (rcF rc0)) T)) := by
  have h := (zero_of_info hT.info).1 w
  rw [rz] at h
  simp [execOp, Instr.alloc, h, newVar, newRow, Value.cells]
theorem boxRT (w : World) (r : Rc) : (bxT T (rcV r)).run Tryz.prog w = .ok (.value (.pointer (some ⟨w.heap.size, 0, none⟩))) (w.alloc (.cells (tab 54 (rcF r)) T)) := by
  have hs := hT.size
  cases hq : Tryz.prog.info? T with
  | none => rw [hq] at hs; cases hs
  | some i =>
    rw [hq] at hs
    simp at hs
    unfold rcV
    simp [bxT, Instr.box, newVar, newRow, Value.cells]
theorem loadRT {T2 : TypeId} {w : World} {b : Nat} {r : Rc} (h : Row w b T2 54 (rcF r)) : (ldT T (.pointer (some ⟨b, 0, none⟩))).run Tryz.prog w = .ok (.value (rcV r)) w := by
  have hr := hT.und
  obtain ⟨d, hu, hd⟩ : ∃ d, Tryz.prog.underlying T = some d ∧ d.isRow = true := by
    cases hq : Tryz.prog.underlying T with
    | none => rw [hq] at hr; cases hr
    | some d => rw [hq] at hr; exact ⟨d, rfl, by simpa using hr⟩
  have := run_loadAt_mid (P := Tryz.prog) w b 0 T _ _ h.range hu hd (by rw [hT.size]; simp [tab])
  unfold rcV
  simp only [ldT, Sem.run_bind, this, Result.andThen, Sem.run_pure, Array.toArray_toList]
theorem storeRT {T2 : TypeId} {w : World} {b : Nat} {g : Nat → Value} (hR : Row w b T2 54 g) (r : Rc) :
    ∃ w', (stT T (.pointer (some ⟨b, 0, none⟩)) (rcV r)).run Tryz.prog w = .ok .skip w' ∧ Row w' b T2 54 (rcF r) ∧ Kp b w w' := by
  have h := run_storeVar_row (P := Tryz.prog) w b T2 T (tab 54 g) (tab 54 (rcF r)) hR (by rw [hT.size, tab_size]) (by rw [tab_size, tab_size]) (rc_one r 54)
  refine ⟨w.setRow b (tab 54 (rcF r)), ?_, setRow_heap w b _ _ T2 _ hR, ⟨rfl, rfl, rfl, by simp [World.setRow], fun k _ hk => setRow_other w b k _ hk⟩⟩
  unfold rcV
  simp only [stT, Instr.storeAt, Instr.sureAddr, Sem.run_bind, Sem.run_pure, Result.andThen, h]
theorem storeNewRT (w : World) (N : Nat) (T2 : TypeId) (g : Nat → Value) (r : Rc) (hN : N = w.heap.size) : (stT T (.pointer (some ⟨N, 0, none⟩)) (rcV r)).run Tryz.prog (w.alloc (.cells (tab 54 g) T2)) = .ok .skip (w.alloc (.cells (tab 54 (rcF r)) T2)) := by
  subst hN
  have h := run_storeAt_newV (P := Tryz.prog) w T T2 (tab 54 g) (tab 54 (rcF r)) (by rw [hT.size, tab_size]) (by rw [tab_size, tab_size]) (rc_one r 54)
  unfold rcV
  simp only [stT, Sem.run_bind, h, Result.andThen, Sem.run_pure]
end
theorem rtM : RT 49 := ⟨by kernel_rfl, by kernel_rfl⟩
theorem rtP : RT 44 := ⟨by kernel_rfl, by kernel_rfl⟩
theorem exec_allocM (r : Operand → Value) (dst : Option Tmp) (ty : TypeId) (pos : String) (after : Array Edge) (guard : Option (Nat × Bool)) (w : World) :
    (execOp r ⟨dst, .alloc 49, ty, pos, after, guard⟩).run Tryz.prog w = .ok (.value (.pointer (some ⟨w.heap.size, 0, none⟩))) (w.alloc (.cells (tab 54 (rcF rc0)) 49)) := allocRT rtM r dst ty pos after guard w
theorem exec_allocP (r : Operand → Value) (dst : Option Tmp) (ty : TypeId) (pos : String) (after : Array Edge) (guard : Option (Nat × Bool)) (w : World) :
    (execOp r ⟨dst, .alloc 44, ty, pos, after, guard⟩).run Tryz.prog w = .ok (.value (.pointer (some ⟨w.heap.size, 0, none⟩))) (w.alloc (.cells (tab 54 (rcF rc0)) 44)) := allocRT rtP r dst ty pos after guard w
theorem exec_boxM (r : Operand → Value) (dst : Option Tmp) (x : Operand) (ty : TypeId) (pos : String) (after : Array Edge) (guard : Option (Nat × Bool)) : execOp r ⟨dst, .box 49 x, ty, pos, after, guard⟩ = bxT 49 (r x) := rfl
theorem exec_boxP (r : Operand → Value) (dst : Option Tmp) (x : Operand) (ty : TypeId) (pos : String) (after : Array Edge) (guard : Option (Nat × Bool)) : execOp r ⟨dst, .box 44 x, ty, pos, after, guard⟩ = bxT 44 (r x) := rfl
theorem boxM (w : World) (r : Rc) : (bxT 49 (rcV r)).run Tryz.prog w = .ok (.value (.pointer (some ⟨w.heap.size, 0, none⟩))) (w.alloc (.cells (tab 54 (rcF r)) 49)) := boxRT rtM w r
theorem boxP (w : World) (r : Rc) : (bxT 44 (rcV r)).run Tryz.prog w = .ok (.value (.pointer (some ⟨w.heap.size, 0, none⟩))) (w.alloc (.cells (tab 54 (rcF r)) 44)) := boxRT rtP w r
section
variable {w : World} {b : Nat} {T : TypeId} {r : Rc} (h : Row w b T 54 (rcF r))
include h
theorem rc_path : w.cell? ⟨b, 0, none⟩ = some (.string (mkS r.path)) := h.cell 0 (by decide)
theorem rc_size : w.cell? ⟨b, 1, none⟩ = some (.int .i64 r.size) := h.cell 1 (by decide)
theorem rc_time : w.cell? ⟨b, 2, none⟩ = some (.int .i64 r.time) := h.cell 2 (by decide)
theorem rc_chg : w.cell? ⟨b, 3, none⟩ = some (.int .i64 r.chg) := h.cell 3 (by decide)
theorem rc_dead : w.cell? ⟨b, 20, none⟩ = some (.bool r.dead) := h.cell 20 (by decide)
theorem rc_blocks : w.cell? ⟨b, 53, none⟩ = some (.slice r.q r.n r.cap) := h.cell 53 (by decide)
theorem rc_ver : VecAt w b 4 r.ver := fun i hi => by
  rw [h.cell (4 + i) (by omega)]
  unfold rcF
  rw [if_neg (by omega), if_neg (by omega), if_neg (by omega), if_neg (by omega), if_pos (by omega), show 4 + i - 4 = i by omega]
theorem rc_whole (hw : r.whole.length = 32) : Sl w (some ⟨b, 21, none⟩) r.whole := fun j hj => by
  refine ⟨b, 21, rfl, ?_⟩
  rw [h.cell (21 + j) (by omega)]
  unfold rcF dgF
  rw [if_neg (by omega), if_neg (by omega), if_neg (by omega), if_neg (by omega), if_neg (by omega), if_neg (by omega), if_pos (by omega), show 21 + j - 21 = j by omega]
end
attribute [irreducible] rcV
end Go.Proofs.YtkajeepbelfpiaaGreatDoor
/- The encoding of a record, and what is taken of bytes as one; plain functions. -/
set_option maxRecDepth 100000
namespace Go.Proofs.YtkajeepbelfpiaaGreatDoor
open Go Go.RowKit
attribute [-go_sem] Sha.exec_store

abbrev By := List (BitVec 8)
/-- A path's bytes. -/
def pB (p : S8) : By := p.map UInt8.toBitVec
theorem pB_len (p : S8) : (pB p).length = p.length := by unfold pB; rw [List.length_map]
def pS (b : By) : S8 := b.map UInt8.ofBitVec
theorem pS_len (b : By) : (pS b).length = b.length := by unfold pS; rw [List.length_map]
theorem pS_pB (p : S8) : pS (pB p) = p := by
  unfold pS pB
  rw [List.map_map]
  exact (List.map_congr_left fun x _ => by rfl).trans (List.map_id p)
theorem strOf_pS (b : By) : strOf b = mkS (pS b) := by unfold mkS pS strOf; rfl
theorem strOf_pB (p : S8) : strOf (pB p) = mkS p := by rw [strOf_pS, pS_pB]
/-- One step of a reading. -/
def stp {α β : Type} (x : α × Nat × Nat) (l : By) (f : α → By → Except Nat β) : Except Nat β := if x.2.2 = 0 then f x.1 (l.drop x.2.1) else .error x.2.2
theorem stp_ok {α β : Type} {x : α × Nat × Nat} {l : By} {f : α → By → Except Nat β} {a : α} {k : Nat} (h : x = (a, k, 0)) : stp x l f = f a (l.drop k) := by subst h; rfl
theorem stp_no {α β : Type} {x : α × Nat × Nat} {l : By} {f : α → By → Except Nat β} (h : x.2.2 ≠ 0) : stp x l f = .error x.2.2 := by unfold stp; rw [if_neg h]
/-- What a record tells but for where its digests lie. -/
structure RcT where
  path : By
  size : Nat
  time : Nat
  chg : Nat
  ver : Nat → Int
  dead : Bool
  whole : By
  ds : List By
def maxT : Int := 9223372036854775807
/-- k digests at the beginning of bytes. -/
def digsN : Nat → By → Option (List By × By)
  | 0, l => some ([], l)
  | k + 1, l => if l.length < 32 then none else (digsN k (l.drop 32)).map fun x => (l.take 32 :: x.1, x.2)
/-- The record at the beginning of bytes; or the error. -/
def takeRc (l : By) : Except Nat (RcT × By) :=
  stp (nextI l 2 100) l fun x l1 => stp (takeI l1 maxT) l1 fun s l2 => stp (takeI l2 maxT) l2 fun t l3 => stp (takeI l3 maxT) l3 fun c l4 =>
    match takeV l4 with
    | none => .error 6
    | some (f, l5) => stp (nextI l5 3 0) l5 fun d l6 =>
      if d.n = 1 then .ok (⟨x.b, s, t, c, f, true, z32, []⟩, l6)
      else stp (nextI l6 4 0) l6 fun h l7 => stp (takeI l7 64) l7 fun k l8 =>
        match digsN k l8 with
        | none => .error 6
        | some (ds, l9) => .ok (⟨x.b, s, t, c, f, false, h.b, ds⟩, l9)
/-- What goes ahead of a record's last digest. -/
def bodyRc (r : RcT) : By :=
  (enc7 r.path.length ++ r.path) ++ enc7 r.size ++ enc7 r.time ++ enc7 r.chg ++ encV r.ver ++ (if r.dead then [1#8] else ([0#8] ++ r.whole) ++ enc7 r.ds.length ++ r.ds.flatten)
def encRc (r : RcT) : By := bodyRc r ++ digL (bodyRc r)
theorem takeI_encT {n : Nat} (r : By) {most : Int} (h : n < 9223372036854775808) (hm : (n : Int) ≤ most) : takeI (enc7 n ++ r) most = (n, (enc7 n).length, 0) := takeI_some (num7_enc n r h) (by omega)
/-- What may be written and read again. -/
structure RcW (r : RcT) : Prop where
  path : r.path.length ≤ 100
  size : r.size < 9223372036854775808
  time : r.time < 9223372036854775808
  chg : r.chg < 9223372036854775808
  ver : ∀ i, i < 16 → 0 ≤ r.ver i ∧ r.ver i ≤ 1099511627776
  whole : r.dead = false → r.whole.length = 32
  ds : r.dead = false → r.ds.length ≤ 64
  each : r.dead = false → ∀ d ∈ r.ds, d.length = 32
end Go.Proofs.YtkajeepbelfpiaaGreatDoor
