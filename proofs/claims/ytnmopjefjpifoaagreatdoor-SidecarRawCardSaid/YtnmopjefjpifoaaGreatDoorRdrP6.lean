/- The reader's small functions: what lies where, Left, cmp.Or of an error, Fail. -/
import Derived.Test.YtnmopjefjpifoaaGreatDoorReadP6
set_option linter.unusedSimpArgs false
set_option maxRecDepth 100000
set_option linter.unusedVariables false
namespace Go.Proofs.YtnmopjefjpifoaaGreatDoor
open Go Go.RowKit

theorem rdP_lie (p : Option Addr) (N : Nat) (w : World) (a : Addr) (l : List (BitVec 8)) (h : RdP p N w a l) : N ≤ a.block ∧ a.block < w.heap.size := by
  obtain ⟨b, q, cap, rfl, h1, h2, -⟩ := h
  exact ⟨h1, World.block_lt_of_cell? w _ h2.c0⟩
theorem rdP_stay (p : Option Addr) (N : Nat) (w w' : World) (a : Addr) (l : List (BitVec 8)) (h : RdP p N w a l) (hs : w.heap.size ≤ w'.heap.size) (hb : w'.heap[a.block]? = w.heap[a.block]?) (hp : ∀ c o, p = some ⟨c, o, none⟩ → c < N → w'.heap[c]? = w.heap[c]?) : RdP p N w' a l := by
  obtain ⟨b, q, cap, rfl, h1, h2, h4, h5, h6, h7, h8⟩ := h
  refine ⟨b, q, cap, rfl, h1, h2.same hb, fun j hj => ?_, h5, h6, h7, h8⟩
  obtain ⟨c, o, e, hx⟩ := h4 j hj
  obtain ⟨hc, o', e'⟩ := h8 (by omega) c o e
  exact ⟨c, o, e, by rw [World.cell?_of_block (w := w) (hp c o' e' hc)]; exact hx⟩
set_option maxHeartbeats 1000000 in
/-- cmp.Or of no reason so far, a reason that is told, and ErrForm. -/
theorem or_any (m c x : Nat) (w : World) (hx : (if c = 0 then 6 else c) = x) (h0 : w.cell? ⟨m, 0, none⟩ = some (.int .i64 0)) (h1 : w.cell? ⟨m, 1, none⟩ = some (.int .i64 (c : Int))) (h2 : w.cell? ⟨m, 2, none⟩ = some (.int .i64 6)) :
    Calls Tryz.prog 184 #[.slice (some ⟨m, 0, none⟩) 3 3] w fun e w' => e = .returned (.int .i64 (x : Int)) ∧ w = w' := by
  have HC := Lib.hid (And.intro h0 (And.intro h1 h2))
  clear h0 h1 h2
  go_enter Tryz.func184, Tryz.ntmps184
  go_wp2
  go_loopw [5, 8] (fun vv vi wr => (vi = .int .i64 0 ∨ vi = .int .i64 1 ∨ (vi = .int .i64 2 ∧ c = 0)) ∧ w = wr) (fun vv vi _ => 3 - (intOf vi).toNat)
  case atStart => exact ⟨.inl rfl, rfl⟩
  case round =>
    obtain ⟨hi, rfl⟩ := hrel
    obtain ⟨h0, h1, h2⟩ := HC.out
    rcases hi with rfl | rfl | ⟨rfl, hc⟩
    · clear h1 h2
      go_wp2
      exact ⟨⟨.inr (.inl rfl), trivial⟩, by decide⟩
    · clear h0 h2
      by_cases h : c = 0
      · subst h
        go_wp2
        exact ⟨⟨.inr (.inr ⟨rfl, trivial⟩), trivial⟩, by decide⟩
      · rw [if_neg h] at hx
        subst hx
        have hz : ((c : Int) == 0) = false := by simp; omega
        have hz2 : ((c : Int) != 0) = true := by simp; omega
        go_wp2
        go_ret
        exact ⟨rfl, rfl⟩
    · rw [if_pos hc] at hx
      subst hx
      clear hc
      go_wp2
      go_ret
      exact ⟨rfl, rfl⟩
set_option maxHeartbeats 1000000 in
theorem rdP_fail (p : Option Addr) (N : Nat) (w : World) (a : Addr) (l : List (BitVec 8)) (c : Nat) (h : RdP p N w a l) (hc : c < 15) : Calls Tryz.prog 132 #[.pointer (some a), .int .i64 (c : Int)] w fun e w' => Thrown (ThrP a) (if c = 0 then 6 else c) e w' ∧ Kp a.block w w' := by
  obtain ⟨b, q, cap, rfl, h1, h2, -⟩ := h
  obtain ⟨k0, k1, k2, f0, f1, f2⟩ := h2
  have hblt := World.block_lt_of_cell? w _ k0
  obtain ⟨V, hV⟩ : ∃ V, w.alloc (.cells #[.int .i64 0, .int .i64 (c : Int), .int .i64 6] 35) = V := ⟨_, rfl⟩
  have hB : Below w.heap.size w V := by rw [← hV]; exact (Below.refl _ _).alloc (Nat.le_refl _) _
  obtain ⟨x, hx⟩ : ∃ x : Nat, (if c = 0 then 6 else c) = x := ⟨_, rfl⟩
  have HO := Lib.hid (or_any w.heap.size c x V hx (by rw [← hV]; exact World.cell?_alloc_new _ _ _ _) (by rw [← hV]; exact World.cell?_alloc_new _ _ _ _) (by rw [← hV]; exact World.cell?_alloc_new _ _ _ _))
  have v2 : V.cell? ⟨b, 2, none⟩ = some (.int .i64 0) := by rw [hB.cell (by exact hblt)]; exact k2
  have g2 : V.frozen? ⟨b, 2, none⟩ = false := by rw [hB.frozen (by exact hblt)]; exact f2
  rw [hx]
  have hx15 : x ≠ 0 ∧ x < 15 := by subst hx; split <;> omega
  have HX := Lib.hid hx15
  have HK := Lib.hid (show RdC (V.setCell ⟨b, 2, none⟩ (.int .i64 (x : Int))) b q l.length cap true x ∧ Kp b w (V.setCell ⟨b, 2, none⟩ (.int .i64 (x : Int))) from
    ⟨⟨by rw [cell_off _ _ _ _ _ (by decide), hB.cell (by exact hblt)]; exact k0, by rw [cell_off _ _ _ _ _ (by decide), hB.cell (by exact hblt)]; exact k1, World.cell?_setCell_same _ _ _ v2,
      by rw [World.frozen?_setCell, hB.frozen (by exact hblt)]; exact f0, by rw [World.frozen?_setCell, hB.frozen (by exact hblt)]; exact f1, by rw [World.frozen?_setCell]; exact g2⟩,
     ((Kp.refl b w).of_below hB).setCell 2 _⟩)
  have hV2 := Lib.hid hV
  clear hx hx15 k0 f0 f1 f2 hB
  go_enter Tryz.func132, Tryz.ntmps132
  go_wp2_with fail
  refine HO.out.mono ?_
  rintro e w' ⟨rfl, rfl⟩
  clear hV HO
  go_wp2
  exact ⟨rfl, ⟨_, ⟨rfl, HX.out.1, HX.out.2, b, q, _, cap, rfl, HK.out.1⟩, rfl⟩, HK.out.2⟩
end Go.Proofs.YtnmopjefjpifoaaGreatDoor
