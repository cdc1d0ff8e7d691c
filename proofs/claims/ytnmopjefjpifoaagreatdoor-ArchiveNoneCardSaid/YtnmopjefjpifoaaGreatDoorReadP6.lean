/- Read's deferred closure, which draws its order: what was thrown is recovered, and the reading closed. -/
import Derived.Test.YtnmopjefjpifoaaGreatDoorClsP6
set_option linter.unusedSimpArgs false
set_option maxRecDepth 100000
set_option linter.unusedVariables false
namespace Go.Proofs.YtnmopjefjpifoaaGreatDoor
open Go Go.RowKit

theorem go_step (md : Region.Mode) (ops : Array Oper) (f t : Nat) (L : Array Bool) (acc : List Nat) : Region.linearise.go md ops (f + 1) t L acc =
    match (Region.ready md ops L)[t % (Region.ready md ops L).length]? with
    | some i => Region.linearise.go md ops f (t / (Region.ready md ops L).length) (L.setIfInBounds i true) (i :: acc)
    | none => acc.reverse := rfl
theorem go_one (md : Region.Mode) (ops : Array Oper) (f t : Nat) (L : Array Bool) (acc : List Nat) (i : Nat) (h : Region.ready md ops L = [i]) : Region.linearise.go md ops (f + 1) t L acc = Region.linearise.go md ops f t (L.setIfInBounds i true) (i :: acc) := by
  rw [go_step, h]
  simp [Nat.mod_one]
/-- Four operations, of which the first two come in any order. -/
theorem order4 (ops : Array Oper) (hs : ops.size = 4) (h0 : Region.ready .any ops #[false, false, false, false] = [0, 1]) (h1 : Region.ready .any ops #[true, false, false, false] = [1]) (h2 : Region.ready .any ops #[false, true, false, false] = [0])
    (h3 : Region.ready .any ops #[true, true, false, false] = [2]) (h4 : Region.ready .any ops #[true, true, true, false] = [3]) (t : Nat) : Region.linearise .any ops t = [0, 1, 2, 3] ∨ Region.linearise .any ops t = [1, 0, 2, 3] := by
  unfold Region.linearise
  rw [hs, show Array.replicate 4 false = #[false, false, false, false] from rfl, go_step, h0]
  rcases Nat.mod_two_eq_zero_or_one t with e | e
  · left
    show (match [0, 1][t % 2]? with | some i => Region.linearise.go .any ops 3 (t / 2) (#[false, false, false, false].setIfInBounds i true) [i] | none => [].reverse) = _
    rw [e]
    show Region.linearise.go .any ops 3 (t / 2) #[true, false, false, false] [0] = _
    rw [go_one _ _ _ _ _ _ 1 h1]
    show Region.linearise.go .any ops 2 (t / 2) #[true, true, false, false] [1, 0] = _
    rw [go_one _ _ _ _ _ _ 2 h3]
    show Region.linearise.go .any ops 1 (t / 2) #[true, true, true, false] [2, 1, 0] = _
    rw [go_one _ _ _ _ _ _ 3 h4]
    rfl
  · right
    show (match [0, 1][t % 2]? with | some i => Region.linearise.go .any ops 3 (t / 2) (#[false, false, false, false].setIfInBounds i true) [i] | none => [].reverse) = _
    rw [e]
    show Region.linearise.go .any ops 3 (t / 2) #[false, true, false, false] [1] = _
    rw [go_one _ _ _ _ _ _ 0 h2]
    show Region.linearise.go .any ops 2 (t / 2) #[true, true, false, false] [0, 1] = _
    rw [go_one _ _ _ _ _ _ 2 h3]
    show Region.linearise.go .any ops 1 (t / 2) #[true, true, true, false] [2, 0, 1] = _
    rw [go_one _ _ _ _ _ _ 3 h4]
    rfl
theorem wpS_region4 {P : Program} {id : Nat} {ops : Array Oper} {Q : Exit → Act → List Frame → World → Prop} {a : Act} {cs : List Frame} {w : World} (hm : P.follows .mixedOrders = true) (hs : ops.size = 4) (h0 : Region.ready .any ops #[false, false, false, false] = [0, 1]) (h1 : Region.ready .any ops #[true, false, false, false] = [1]) (h2 : Region.ready .any ops #[false, true, false, false] = [0])
    (h3 : Region.ready .any ops #[true, true, false, false] = [2]) (h4 : Region.ready .any ops #[true, true, true, false] = [3]) (hA : wpOpsS P ops Q [0, 1, 2, 3] a cs w.drew) (hB : wpOpsS P ops Q [1, 0, 2, 3] a cs w.drew) : (Code.region id ops true).wpS P Q a cs w := by
  have h : ∀ t, wpOpsS P ops Q (Region.schedule (P.follows .mixedOrders) ops t) a cs w.drew := fun t => by
    simp only [Region.schedule, hm, Bool.true_or, if_true]
    rcases order4 ops hs h0 h1 h2 h3 h4 t with e | e
    · rw [e]; exact hA
    · rw [e]; exact hB
  intro b k hb hr
  obtain ⟨e, a', cs', w', q, r⟩ := wp_opsS _ a cs _ (h _) b k hb hr
  exact ⟨e, a', cs', w', q, .of_steps (.one step_region_draw) r⟩
set_option maxHeartbeats 400000 in
/-- The deferred closure where the reading was ended. -/
theorem catch_thrown (b : Nat) (q : Option Addr) (n cap c : Nat) (rb cb : Nat) (old : Value) (w : World) (h : RdC w b q n cap true c) (h0 : c ≠ 0) (h15 : c < 15) (hr : w.cell? ⟨rb, 0, none⟩ = some (.pointer (some ⟨b, 0, none⟩))) (hc : w.cell? ⟨cb, 0, none⟩ = some old) (hf : w.frozen? ⟨cb, 0, none⟩ = false) (hne : cb ≠ b) :
    CallsD Tryz.prog 129 #[.pointer (some ⟨rb, 0, none⟩), .pointer (some ⟨cb, 0, none⟩)] (.panicking [{ v := .iface 261 (.agg #[.pointer (some ⟨b, 0, none⟩)]), recovered := false }]) w fun e u' w' =>
      e = .returned (.tuple #[]) ∧ u' = .panicking [{ v := .iface 261 (.agg #[.pointer (some ⟨b, 0, none⟩)]), recovered := true }] ∧ ∃ w2, Kp b w w2 ∧ w' = w2.setCell ⟨cb, 0, none⟩ (.int .i64 (c : Int)) := by
  have hlt := World.block_lt_of_cell? w _ hc
  have HC := Lib.hid (close_thrown w.drew b q n cap c (h.same rfl) h0 h15)
  refine callsD_of_wpS Tryz.func129 rfl fun c₀ cs hu => ?_
  refine wpS_region4 (by kernel_rfl) rfl (by kernel_rfl) (by kernel_rfl) (by kernel_rfl) (by kernel_rfl) (by kernel_rfl) ?_ ?_
  · simp [wpOpsS, go_sem, recoverD, hu, hr, Tryz.ntmps129, Exit.thenS]
    refine HC.out.mono ?_
    rintro e w2 ⟨rfl, hK⟩
    have k1 : w2.cell? ⟨cb, 0, none⟩ = some old := by rw [hK.cell (by exact hlt) (by exact hne)]; exact hc
    have k2 : w2.frozen? ⟨cb, 0, none⟩ = false := by rw [hK.frozen (by exact hlt) (by exact hne)]; exact hf
    simp [go_sem, k1, k2, bodyPostS, results, Tryz.results129]
    exact ⟨w2, ((Kp.refl b w).drewN 1).trans hK, rfl⟩
  · simp [wpOpsS, go_sem, recoverD, hu, hr, Tryz.ntmps129, Exit.thenS]
    refine HC.out.mono ?_
    rintro e w2 ⟨rfl, hK⟩
    have k1 : w2.cell? ⟨cb, 0, none⟩ = some old := by rw [hK.cell (by exact hlt) (by exact hne)]; exact hc
    have k2 : w2.frozen? ⟨cb, 0, none⟩ = false := by rw [hK.frozen (by exact hlt) (by exact hne)]; exact hf
    simp [go_sem, k1, k2, bodyPostS, results, Tryz.results129]
    exact ⟨w2, ((Kp.refl b w).drewN 1).trans hK, rfl⟩
set_option maxHeartbeats 400000 in
/-- The deferred closure where the reading came to its end. -/
theorem catch_idle (b : Nat) (q : Option Addr) (n cap : Nat) (rb cb : Nat) (old : Value) (w : World) (h : RdC w b q n cap true 0) (hr : w.cell? ⟨rb, 0, none⟩ = some (.pointer (some ⟨b, 0, none⟩))) (hc : w.cell? ⟨cb, 0, none⟩ = some old) (hf : w.frozen? ⟨cb, 0, none⟩ = false) (hne : cb ≠ b) :
    CallsD Tryz.prog 129 #[.pointer (some ⟨rb, 0, none⟩), .pointer (some ⟨cb, 0, none⟩)] .returning w fun e u' w' =>
      e = .returned (.tuple #[]) ∧ u' = .returning ∧ ∃ w2, Kp b w w2 ∧ w' = w2.setCell ⟨cb, 0, none⟩ (.int .i64 ((if n = 0 then 0 else 6 : Nat) : Int)) := by
  have hlt := World.block_lt_of_cell? w _ hc
  have HC := Lib.hid (close_idle w.drew b q n cap (h.same rfl))
  refine callsD_of_wpS Tryz.func129 rfl fun c₀ cs hu => ?_
  refine wpS_region4 (by kernel_rfl) rfl (by kernel_rfl) (by kernel_rfl) (by kernel_rfl) (by kernel_rfl) (by kernel_rfl) ?_ ?_
  · simp [wpOpsS, go_sem, recoverD, hu, hr, Tryz.ntmps129, Exit.thenS]
    refine HC.out.mono ?_
    rintro e w2 ⟨rfl, hK⟩
    have k1 : w2.cell? ⟨cb, 0, none⟩ = some old := by rw [hK.cell (by exact hlt) (by exact hne)]; exact hc
    have k2 : w2.frozen? ⟨cb, 0, none⟩ = false := by rw [hK.frozen (by exact hlt) (by exact hne)]; exact hf
    simp [go_sem, k1, k2, bodyPostS, results, Tryz.results129]
    exact ⟨.returning, by cases c₀; simp_all, rfl, w2, ((Kp.refl b w).drewN 1).trans hK, rfl⟩
  · simp [wpOpsS, go_sem, recoverD, hu, hr, Tryz.ntmps129, Exit.thenS]
    refine HC.out.mono ?_
    rintro e w2 ⟨rfl, hK⟩
    have k1 : w2.cell? ⟨cb, 0, none⟩ = some old := by rw [hK.cell (by exact hlt) (by exact hne)]; exact hc
    have k2 : w2.frozen? ⟨cb, 0, none⟩ = false := by rw [hK.frozen (by exact hlt) (by exact hne)]; exact hf
    simp [go_sem, k1, k2, bodyPostS, results, Tryz.results129]
    exact ⟨.returning, by cases c₀; simp_all, rfl, w2, ((Kp.refl b w).drewN 1).trans hK, rfl⟩
theorem Sl.blk6 {w : World} {p : Option Addr} {l : List (BitVec 8)} (h : Sl w p l) (hl : 0 < l.length) : ∀ c o, p = some ⟨c, o, none⟩ → c < w.heap.size := fun c o e => by
  obtain ⟨c', o', e', hc⟩ := h 0 hl
  rw [e] at e'
  injection e' with e'
  injection e' with e1 e2
  subst e1
  exact World.block_lt_of_cell? w _ hc
theorem sl_full (q : Option Addr) (n cap : Nat) (w : World) (hn : n ≤ cap) : (slT 53 (.slice q n cap) none (some (.int .i64 (n : Int))) (some (.int .i64 (n : Int)))).run Tryz.prog w = .ok (.value (.slice q n n)) w := by
  have h1 := run_sliceAt_slice (P := Tryz.prog) w 53 (.slice q n cap) none (some (.int .i64 (n : Int))) (some (.int .i64 (n : Int))) und35
  rw [run_slice_hm (P := Tryz.prog) w 53 q n cap und35 .i64 .i64 (n : Int) (n : Int) (by omega) (by omega) (by omega), sizeB] at h1
  simp only [slT, Sem.run_bind, h1, Result.andThen_ok, Sem.run_pure]
  simp only [sliced, Int.toNat_natCast, Nat.zero_mul, Nat.sub_zero]
  have := cutA_zero q n
  unfold cutA at this
  rw [this]
attribute [local go_sem] mkFn sl_full
attribute [local go_sem ↓] exec_slice
set_option maxRecDepth 100000 in
set_option maxHeartbeats 4000000 in
theorem read_any (l : List (BitVec 8)) (p : Option Addr) (n cap g : Nat) (caps : Array Value) (w : World) (J : Nat → World → Prop) (hl : l.length = n) (hs : Sl w p l) (hp : p = none → cap = 0) (hnc : n ≤ cap) (hn : n < 1000000)
    (hent : ∀ args w, (callFunc g args).run Tryz.prog w = .ok (.enter g args) w) (hJ : ∀ c x y, J c x → Below w.heap.size x y → J c y)
    (hf : ∀ a w1, Below w.heap.size w w1 → RdP p w.heap.size w1 a l → Calls Tryz.prog g (#[.pointer (some a)] ++ caps) w1 fun e w2 => Loc w.heap.size a.block w1 w2 ∧ ((∃ rest, e = .returned (.tuple #[]) ∧ RdP p w.heap.size w2 a rest ∧ J (if rest = [] then 0 else 6) w2) ∨ (∃ code : Nat, Thrown (ThrP a) code e w2 ∧ J code w2))) :
    Calls Tryz.prog 63 #[.slice p n cap, .func (.func g) #[] caps] w fun e w' => ∃ code : Nat, e = .returned (.int .i64 (code : Int)) ∧ J code w' := by
  go_enter_defers Tryz.func63, Tryz.ntmps63
  have hB3 : Below w.heap.size w (((w.alloc (.cells #[.int .i64 0] 35)).alloc (.cells #[.slice p n n, .bool true, .int .i64 0] 209)).alloc (.cells #[.pointer (some ⟨w.heap.size + 1, 0, none⟩)] 139)) := (((Below.refl _ _).alloc (Nat.le_refl _) _).alloc (by simp [World.size_alloc]) _).alloc (by simp [World.size_alloc]; omega) _
  have hz3 : (((w.alloc (.cells #[.int .i64 0] 35)).alloc (.cells #[.slice p n n, .bool true, .int .i64 0] 209)).alloc (.cells #[.pointer (some ⟨w.heap.size + 1, 0, none⟩)] 139)).heap.size = w.heap.size + 1 + 1 + 1 := by simp [World.size_alloc]
  have c0 : (((w.alloc (.cells #[.int .i64 0] 35)).alloc (.cells #[.slice p n n, .bool true, .int .i64 0] 209)).alloc (.cells #[.pointer (some ⟨w.heap.size + 1, 0, none⟩)] 139)).cell? ⟨w.heap.size, 0, none⟩ = some (.int .i64 0) := by go_simp
  have d0 : (((w.alloc (.cells #[.int .i64 0] 35)).alloc (.cells #[.slice p n n, .bool true, .int .i64 0] 209)).alloc (.cells #[.pointer (some ⟨w.heap.size + 1, 0, none⟩)] 139)).frozen? ⟨w.heap.size, 0, none⟩ = false := by go_simp
  have hrd : RdC (((w.alloc (.cells #[.int .i64 0] 35)).alloc (.cells #[.slice p n n, .bool true, .int .i64 0] 209)).alloc (.cells #[.pointer (some ⟨w.heap.size + 1, 0, none⟩)] 139)) (w.heap.size + 1) p n n true 0 := ⟨by go_simp, by go_simp, by go_simp, by go_simp, by go_simp, by go_simp⟩
  have c2 : (((w.alloc (.cells #[.int .i64 0] 35)).alloc (.cells #[.slice p n n, .bool true, .int .i64 0] 209)).alloc (.cells #[.pointer (some ⟨w.heap.size + 1, 0, none⟩)] 139)).cell? ⟨w.heap.size + 1 + 1, 0, none⟩ = some (.pointer (some ⟨w.heap.size + 1, 0, none⟩)) := by go_simp
  have hnil : p = none → n = 0 := fun e => by
    rcases Nat.eq_zero_or_pos n with h | h
    · exact h
    · obtain ⟨c, o, e2, -⟩ := hs 0 (by omega)
      rw [e] at e2; cases e2
  have HRD := Lib.hid (show RdP p w.heap.size (((w.alloc (.cells #[.int .i64 0] 35)).alloc (.cells #[.slice p n n, .bool true, .int .i64 0] 209)).alloc (.cells #[.pointer (some ⟨w.heap.size + 1, 0, none⟩)] 139)) ⟨w.heap.size + 1, 0, none⟩ l from
    ⟨w.heap.size + 1, p, n, rfl, Nat.le_succ _, by rw [hl]; exact hrd, hs.of_below hB3, hnil, by omega, by omega, fun h c o e => ⟨hs.blk6 h c o e, o, e⟩⟩)
  have HF := Lib.hid (hf ⟨w.heap.size + 1, 0, none⟩ _ hB3 HRD.out)
  have HC := Lib.hid (And.intro c0 (And.intro d0 (And.intro c2 hz3)))
  have HJ := Lib.hid hJ
  have HB3 := Lib.hid hB3
  clear hf HRD c0 d0 c2 hz3 hJ hs hp hB3 hrd
  go_wp2_with fail
  refine HF.out.mono ?_
  clear HF
  generalize (((w.alloc (.cells #[.int .i64 0] 35)).alloc (.cells #[.slice p n n, .bool true, .int .i64 0] 209)).alloc (.cells #[.pointer (some ⟨w.heap.size + 1, 0, none⟩)] 139)) = W3 at *
  generalize hH : w.heap.size = H at *
  rintro e w2 ⟨hLo, h⟩
  have k0 : w2.cell? ⟨H, 0, none⟩ = some (.int .i64 0) := by rw [World.cell?_of_block (w := W3) (hLo.block H (Nat.le_refl _) (by rw [HC.out.2.2.2]; omega) (by show H ≠ H + 1; omega))]; exact HC.out.1
  have k1 : w2.frozen? ⟨H, 0, none⟩ = false := by rw [World.frozen?_of_block (w := W3) (hLo.block H (Nat.le_refl _) (by rw [HC.out.2.2.2]; omega) (by show H ≠ H + 1; omega))]; exact HC.out.2.1
  have k2 : w2.cell? ⟨H + 1 + 1, 0, none⟩ = some (.pointer (some ⟨H + 1, 0, none⟩)) := by rw [World.cell?_of_block (w := W3) (hLo.block (H + 1 + 1) (by omega) (by rw [HC.out.2.2.2]; omega) (by show H + 1 + 1 ≠ H + 1; omega))]; exact HC.out.2.2.1
  have hz2 : H + 1 + 1 + 1 ≤ w2.heap.size := by rw [← HC.out.2.2.2]; exact hLo.size
  have hlast : ∀ (c : Nat) (w4 : World), Kp (H + 1) w2 w4 → J c w2 → J c (w4.setCell ⟨H, 0, none⟩ (.int .i64 (c : Int))) ∧ (w4.setCell ⟨H, 0, none⟩ (.int .i64 (c : Int))).cell? ⟨H, 0, none⟩ = some (.int .i64 (c : Int)) := fun c w4 hK hj => by
    have hb := (hK.below (N := H) (by omega) (by omega)).setCell (show H ≤ (⟨H, 0, none⟩ : Addr).block from Nat.le_refl H) (.int .i64 (c : Int))
    refine ⟨HJ.out c _ _ hj hb, World.cell?_setCell_same _ _ _ (u := .int .i64 0) ?_⟩
    rw [hK.cell (by show H < _; omega) (by show H ≠ H + 1; omega)]; exact k0
  rcases h with ⟨rest, rfl, ⟨b, q2, cap2, hb, hNb, r1, -⟩, hJ2⟩ | ⟨code, ⟨v, ⟨rfl, hc0, hc15, b, q2, n2, cap2, hb, r1⟩, rfl⟩, hJ2⟩
  · injection hb with hb _ _
    subst hb
    have HR1 := Lib.hid r1
    have HJ2 := Lib.hid hJ2
    have HL := Lib.hid hlast
    have H2 := Lib.hid (And.intro k0 (And.intro k1 k2))
    clear r1 hJ2 hlast k0 k1 k2 hLo
    obtain ⟨x, hx⟩ : ∃ x : Nat, (if rest.length = 0 then 0 else 6) = x := ⟨_, rfl⟩
    have hx2 : (if rest = [] then 0 else 6 : Nat) = x := by rw [← hx]; cases rest <;> simp
    have hci := catch_idle (H + 1) q2 rest.length cap2 (H + 1 + 1) H _ w2 HR1.out H2.out.2.2 H2.out.1 H2.out.2.1 (by omega)
    rw [hx] at hci
    have HCI := Lib.hid hci
    rw [hx2] at HJ2
    clear hx hx2 hci
    go_wp2
    refine leaves_cons (f := 129) (args := #[.pointer (some ⟨H + 1 + 1, 0, none⟩), .pointer (some ⟨H, 0, none⟩)]) (by simp) (by simp [go_sem]) ?_
    refine HCI.out.mono ?_
    rintro e u' w'' ⟨rfl, rfl, w4, hK, rfl⟩
    obtain ⟨hj, kk⟩ := HL.out x w4 hK HJ2.out
    simp [Leaves, settle, results, Tryz.results63, go_sem, kk]
    exact ⟨x, rfl, hj⟩
  · injection hb with hb _ _
    subst hb
    dsimp only
    refine leaves_cons (f := 129) (args := #[.pointer (some ⟨H + 1 + 1, 0, none⟩), .pointer (some ⟨H, 0, none⟩)]) (by simp) (by simp [go_sem]) ?_
    refine (catch_thrown (H + 1) q2 n2 cap2 code (H + 1 + 1) H _ w2 r1 hc0 hc15 k2 k0 k1 (by omega)).mono ?_
    rintro e u' w'' ⟨rfl, rfl, w4, hK, rfl⟩
    obtain ⟨hj, kk⟩ := hlast code w4 hK hJ2
    simp [Leaves, settle, results, Tryz.results63, go_sem, kk]
    exact ⟨code, rfl, hj⟩
end Go.Proofs.YtnmopjefjpifoaaGreatDoor
