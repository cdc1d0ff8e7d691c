/- What the program's Reader is in memory; 'close', with which a reading ends. -/
import Derived.Test.YtnmopjefjpifoaaGreatDoorCode6
import Derived.Test.YtnmopjefjpifoaaGreatDoorCuts
import Derived.Recover
import Derived.Laws.Pointers
set_option linter.unusedSimpArgs false
set_option maxRecDepth 100000
set_option linter.unusedVariables false
namespace Go.Proofs.YtnmopjefjpifoaaGreatDoor
open Go Go.RowKit

theorem cell_off (w : World) (b i j : Nat) (v : Value) (h : i ≠ j) : (w.setCell ⟨b, i, none⟩ v).cell? ⟨b, j, none⟩ = w.cell? ⟨b, j, none⟩ := World.cell?_setCell_other _ _ _ _ (fun e => h (congrArg Addr.off e))
/-- The cells of the reader in block b: what is left, whether the reading goes on, why it was ended. -/
structure RdC (w : World) (b : Nat) (q : Option Addr) (n cap : Nat) (o : Bool) (c : Nat) : Prop where
  c0 : w.cell? ⟨b, 0, none⟩ = some (.slice q n cap)
  c1 : w.cell? ⟨b, 1, none⟩ = some (.bool o)
  c2 : w.cell? ⟨b, 2, none⟩ = some (.int .i64 (c : Int))
  f0 : w.frozen? ⟨b, 0, none⟩ = false
  f1 : w.frozen? ⟨b, 1, none⟩ = false
  f2 : w.frozen? ⟨b, 2, none⟩ = false
theorem RdC.same {w w' : World} {b : Nat} {q : Option Addr} {n cap : Nat} {o : Bool} {c : Nat} (h : RdC w b q n cap o c) (hb : w'.heap[b]? = w.heap[b]?) : RdC w' b q n cap o c :=
  ⟨by rw [World.cell?_of_block (w := w) hb]; exact h.c0, by rw [World.cell?_of_block (w := w) hb]; exact h.c1, by rw [World.cell?_of_block (w := w) hb]; exact h.c2,
   by rw [World.frozen?_of_block (w := w) hb]; exact h.f0, by rw [World.frozen?_of_block (w := w) hb]; exact h.f1, by rw [World.frozen?_of_block (w := w) hb]; exact h.f2⟩
/-- The reader at a has the bytes l left. -/
def RdP (p : Option Addr) (N : Nat) (w : World) (a : Addr) (l : List (BitVec 8)) : Prop := ∃ (b : Nat) (q : Option Addr) (cap : Nat), a = ⟨b, 0, none⟩ ∧ N ≤ b ∧ RdC w b q l.length cap true 0 ∧ Sl w q l ∧ (q = none → cap = 0) ∧ l.length ≤ cap ∧ l.length < 1000000 ∧ (0 < l.length → ∀ c o, q = some ⟨c, o, none⟩ → c < N ∧ ∃ o', p = some ⟨c, o', none⟩)
/-- What is thrown, and that the reader holds why. -/
def ThrP (a : Addr) (c : Nat) (w : World) (v : Value) : Prop := v = .iface 261 (.agg #[.pointer (some a)]) ∧ c ≠ 0 ∧ c < 15 ∧ ∃ (b : Nat) (q : Option Addr) (n cap : Nat), a = ⟨b, 0, none⟩ ∧ RdC w b q n cap true c
theorem ta_end (x : Value) (w : World) : (Instr.typeAssert (.iface 261 x) 20 261 true).run Tryz.prog w = .ok (.tuple #[x, .bool true]) w := by kernel_rfl
theorem pn_in (d : Nat) (a : Addr) (w : World) : (Op.equalIn (d + 1) 139 (.pointer (some a)) (.pointer (some a))).run Tryz.prog w = .ok true w := by
  have hu : Tryz.prog.underlying 139 = some (.pointer 209) := by kernel_rfl
  have hs : (Tryz.prog.info? 209).map (·.size) = some 3 := by kernel_rfl
  cases hq : Tryz.prog.info? 209 with
  | none => rw [hq] at hs; cases hs
  | some i =>
    rw [hq] at hs
    simp at hs
    simp [Op.equalIn, run_underlying hu, sizeOf, typeInfo, hq, hs, sameAddr]
/-- A reader is itself. -/
theorem pn_same (a : Addr) (w : World) : (binOp .neq 139 (.pointer (some a)) (.pointer (some a))).run Tryz.prog w = .ok (.bool false) w := by
  have h : (Op.equal 139 (.pointer (some a)) (.pointer (some a))).run Tryz.prog w = .ok true w := pn_in 9999 a w
  simp only [binOp]
  simp [h]
attribute [local go_sem ↓] ta_end pn_same
set_option maxHeartbeats 1000000 in
/-- The reading was ended. -/
theorem close_thrown (w : World) (b : Nat) (q : Option Addr) (n cap c : Nat) (h : RdC w b q n cap true c) (hc : c ≠ 0) (hc15 : c < 15) : Calls Tryz.prog 130 #[.pointer (some ⟨b, 0, none⟩), .iface 261 (.agg #[.pointer (some ⟨b, 0, none⟩)])] w fun e w' => e = .returned (.int .i64 (c : Int)) ∧ Kp b w w' := by
  obtain ⟨c0, c1, c2, f0, f1, f2⟩ := h
  have hblt := World.block_lt_of_cell? w _ c0
  have k2 : (((w.setCell ⟨b, 0, none⟩ (.slice none 0 0)).setCell ⟨b, 1, none⟩ (.bool false)).alloc (.cells #[.pointer (some ⟨b, 0, none⟩)] 261)).cell? ⟨b, 2, none⟩ = some (.int .i64 (c : Int)) := by
    rw [((Below.refl _ _).alloc (Nat.le_refl _) _).cell (by simpa using hblt), cell_off _ _ _ _ _ (by decide), cell_off _ _ _ _ _ (by decide)]; exact c2
  have hz : ((c : Int) == 0) = false := by simp; omega
  go_enter Tryz.func130, Tryz.ntmps130
  go_wp2
  go_ret
  exact ⟨rfl, (((Kp.refl b w).setCell 0 _).setCell 1 _).alloc _⟩
set_option maxHeartbeats 1000000 in
/-- The reading came to its end. -/
theorem close_idle (w : World) (b : Nat) (q : Option Addr) (n cap : Nat) (h : RdC w b q n cap true 0) : Calls Tryz.prog 130 #[.pointer (some ⟨b, 0, none⟩), .nilIface] w fun e w' => e = .returned (.int .i64 ((if n = 0 then 0 else 6 : Nat) : Int)) ∧ Kp b w w' := by
  obtain ⟨c0, c1, c2, f0, f1, f2⟩ := h
  have k2 : ((w.setCell ⟨b, 0, none⟩ (.slice none 0 0)).setCell ⟨b, 1, none⟩ (.bool false)).cell? ⟨b, 2, none⟩ = some (.int .i64 0) := by
    rw [cell_off _ _ _ _ _ (by decide), cell_off _ _ _ _ _ (by decide)]; exact c2
  by_cases h0 : n = 0
  · subst h0
    go_enter Tryz.func130, Tryz.ntmps130
    go_wp2
    go_ret
    exact ⟨rfl, ((Kp.refl b w).setCell 0 _).setCell 1 _⟩
  · have hRz : decide ((0 : Int) < (n : Int)) = true := decide_eq_true (by omega)
    have hRy : (0 : Int) < (n : Int) := by omega
    rw [if_neg h0]
    go_enter Tryz.func130, Tryz.ntmps130
    go_wp2
    go_ret
    exact ⟨rfl, ((Kp.refl b w).setCell 0 _).setCell 1 _⟩
end Go.Proofs.YtnmopjefjpifoaaGreatDoor
