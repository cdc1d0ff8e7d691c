/- Bytes appended to a slice of the call's own: the block afterwards is the old one or a new one. -/
import Derived.Test.YtjpennbmphhipaaDoorBytes
import Derived.OwnWalk
import Derived.RegionTactic
import Derived.Maps.AppendAt
set_option linter.unusedSimpArgs false
set_option maxRecDepth 100000
set_option linter.unusedVariables false
namespace Go.Proofs.YtjpennbmphhipaaDoor
open Go Go.RowKit

theorem append_ownL (w : World) (base : Nat) (ty : TypeId) (v : Value) (l : List (BitVec 8)) (hown : OwnB w base v l) (p : Option Addr) (n cap : Nat) (bs : List (BitVec 8)) (hbl : bs.length = n) (hs : Sl w p bs) (hc : p = none → cap = 0)
    (hn : l.length + n < 1000000000000) (hb : base ≤ w.heap.size) :
    ∃ v' w', (Builtin.append_ #[25, 25] ty #[v, .slice p n cap]).run Tryd.prog w = .ok v' w' ∧ OwnB w' base v' (l ++ bs) ∧ w.grownBy w' v.ownBlock ∧ (v'.ownBlock = v.ownBlock ∨ v'.ownBlock = some w.heap.size) := by
  subst hbl
  obtain ⟨i0, hi, hz0, hz1, hz2⟩ := info_parts info5
  cases p with
  | some a =>
    obtain ⟨v', w', h1, h2, h3, _, h5⟩ := run_append_own_at (P := Tryd.prog) w base 25 ty 5 i0 (.int .u8 0) 1 1 und35 hi hz0 hz1 hz2 rfl (by decide) v l.length (l.map B) hown a bs.length cap (bs.map B) (by simp) hs.news (one_map bs)
      (by simp only [maxLen]; omega) (by omega) hb
    exact ⟨v', w', h1, by unfold OwnB; rw [List.length_append, List.map_append]; exact h2, h3, h5⟩
  | none =>
    have : bs = [] := by
      cases bs with
      | nil => rfl
      | cons x r => obtain ⟨c, o, e, _⟩ := hs 0 (by simp); cases e
    subst this
    obtain rfl := hc rfl
    exact ⟨v, w, run_append_owned_none (P := Tryd.prog) w base 25 ty 5 i0 1 und35 hi v l.length (l.map B) hown, by rw [List.append_nil]; exact hown, World.grownBy.refl _ _, .inl rfl⟩
theorem wpl_appendL {ops : Array Oper} {rest : List Oper} {o : Oper} {a : Act} {Q : Exit → Act → World → Prop} (w : World) (hgd : o.guard = none) (s x : Operand)
    (ho : o.op = .call { callee := .builtin .append, args := #[s, x], argTypes := #[25, 25] })
    (base : Nat) (v : Value) (l : List (BitVec 8)) (hs : a.eval s = v) (hown : OwnB w base v l) (p : Option Addr) (n cap : Nat) (bs : List (BitVec 8)) (hbl : bs.length = n) (hx : a.eval x = .slice p n cap) (hsl : Sl w p bs) (hc : p = none → cap = 0)
    (hn : l.length + n < 1000000000000) (hb : base ≤ w.heap.size)
    (h : ∀ v' w', OwnB w' base v' (l ++ bs) → w.grownBy w' v.ownBlock → (v'.ownBlock = v.ownBlock ∨ v'.ownBlock = some w.heap.size) → wpList Tryd.prog ops Q rest (a.put o.dst v') w') : wpList Tryd.prog ops Q (o :: rest) a w := by
  refine wpList_plain hgd fun K hK => ?_
  obtain ⟨v', w', hr, h2, h3, h4⟩ := append_ownL w base o.type v l hown p n cap bs hbl hsl hc hn hb
  unfold Oper.wp execOp
  simp only [ho, resolve, invoke, builtin, Sem.run_bind, Sem.run_pure, Result.andThen_ok, List.map_toArray, List.map_cons, List.map_nil, hs, hx, hr]
  exact hK _ _ (h v' w' h2 h3 h4)
theorem step_appendL {ops : Array Oper} {o : Oper} {a : Act} {Q : Exit → Act → World → Prop} {K : Act → World → Prop} {Z : Prop} (w : World) (hgd : o.guard = none) (s x : Operand)
    (ho : o.op = .call { callee := .builtin .append, args := #[s, x], argTypes := #[25, 25] })
    (base : Nat) (v : Value) (l : List (BitVec 8)) (hs : a.eval s = v) (hown : OwnB w base v l) (p : Option Addr) (n cap : Nat) (bs : List (BitVec 8)) (hbl : bs.length = n) (hx : a.eval x = .slice p n cap) (hsl : Sl w p bs) (hc : p = none → cap = 0)
    (hn : l.length + n < 1000000000000) (hb : base ≤ w.heap.size)
    (h : ∀ v' w', OwnB w' base v' (l ++ bs) → w.grownBy w' v.ownBlock → (v'.ownBlock = v.ownBlock ∨ v'.ownBlock = some w.heap.size) → K (a.put o.dst v') w') : if Region.wanted o (yielded ops a.tmps) = true then Oper.wp Tryd.prog o a w K Q else Z := by
  have hw : Region.wanted o (yielded ops a.tmps) = true := by simp [Region.wanted, hgd]
  rw [if_pos hw]
  obtain ⟨v', w', hr, h2, h3, h4⟩ := append_ownL w base o.type v l hown p n cap bs hbl hsl hc hn hb
  unfold Oper.wp execOp
  simp only [ho, resolve, invoke, builtin, Sem.run_bind, Sem.run_pure, Result.andThen_ok, List.map_toArray, List.map_cons, List.map_nil, hs, hx, hr]
  exact h v' w' h2 h3 h4
end Go.Proofs.YtjpennbmphhipaaDoor
