/- Lists of structs (of whatever kind, whose cells are numbers, strings, headers) as rows of cells: they lie where a slice begins; one of the call's own is appended to. -/
import Derived.Test.YtllpcllgliknpaaGreatDoorBytes
import Derived.OwnWalk
import Derived.RegionTactic
import Derived.Maps.AppendAt
import Derived.RangeFuncRecord
set_option linter.unusedSimpArgs false
set_option maxRecDepth 100000
set_option linter.unusedVariables false
namespace Go.Proofs.YtllpcllgliknpaaGreatDoor
open Go Go.RowKit

/-- T: slices of E; an element has k cells, z is its zero. -/
structure ElK (T E : TypeId) (z : Value) (k b : Nat) : Prop where
  und : Tryz.prog.underlying T = some (.slice E)
  inf : (Tryz.prog.info? E).map (fun i => (i.zero, i.size, i.bytes)) = some (some z, k, b)
  zc : z.cells.size = k
  pos : 0 < k
  few : b ≤ 200
/-- The cells lie where a slice begins. -/
def LsC (w : World) (p : Option Addr) (cs : List Value) : Prop := ∀ j, j < cs.length → ∃ c o, p = some ⟨c, o, none⟩ ∧ w.cell? ⟨c, o + j, none⟩ = cs[j]?
section
variable {w w' : World} {p : Option Addr} {cs : List Value}
theorem LsC.nil (w : World) (p : Option Addr) : LsC w p [] := fun j hj => absurd hj (by simp)
theorem LsC.lt (h : LsC w p cs) (hl : 0 < cs.length) : ∃ c o, p = some ⟨c, o, none⟩ ∧ c < w.heap.size := by
  obtain ⟨c, o, e, hc⟩ := h 0 hl
  rw [List.getElem?_eq_getElem hl] at hc
  exact ⟨c, o, e, World.block_lt_of_cell? w _ hc⟩
theorem LsC.keep (h : LsC w p cs) (hk : ∀ c o, p = some ⟨c, o, none⟩ → c < w.heap.size → w'.heap[c]? = w.heap[c]?) : LsC w' p cs := fun j hj => by
  obtain ⟨c, o, e, hc⟩ := h j hj
  refine ⟨c, o, e, ?_⟩
  have hlt : c < w.heap.size := by
    rw [List.getElem?_eq_getElem hj] at hc
    exact World.block_lt_of_cell? w _ hc
  rw [World.cell?_of_block (w := w) (hk c o e hlt)]
  exact hc
theorem LsC.of_below (h : LsC w p cs) (hB : Below w.heap.size w w') : LsC w' p cs := h.keep fun c o _ hlt => hB.block c hlt
theorem LsC.news {a : Addr} (h : LsC w (some a) cs) : ∀ j u, cs[j]? = some u → w.cell? (a.add j) = some u := fun j u hu => by
  have hj : j < cs.length := by rw [List.getElem?_eq_some_iff] at hu; exact hu.1
  obtain ⟨c, o, e, hc⟩ := h j hj
  injection e with e
  subst e
  rw [Addr.add_mid]
  exact hc.trans hu
theorem LsC.take (h : LsC w p cs) (m : Nat) : LsC w p (cs.take m) := fun j hj => by
  have hj' : j < m ∧ j < cs.length := by rw [List.length_take] at hj; omega
  obtain ⟨c, o, e, hc⟩ := h j hj'.2
  exact ⟨c, o, e, by rw [List.getElem?_take, if_pos hj'.1]; exact hc⟩
theorem LsC.cell (h : LsC w p cs) {j : Nat} {u : Value} (hu : cs[j]? = some u) : ∃ c o, p = some ⟨c, o, none⟩ ∧ c < w.heap.size ∧ w.cell? ⟨c, o + j, none⟩ = some u := by
  have hj : j < cs.length := by rw [List.getElem?_eq_some_iff] at hu; exact hu.1
  obtain ⟨c, o, e, hc⟩ := h j hj
  rw [hu] at hc
  exact ⟨c, o, e, World.block_lt_of_cell? w _ hc, hc⟩
end
theorem LsC.made (w : World) (cs : List Value) (t : TypeId) : LsC (w.alloc (.cells cs.toArray t)) (some ⟨w.heap.size, 0, none⟩) cs := fun j hj => by
  refine ⟨w.heap.size, 0, rfl, ?_⟩
  have h := World.alloc_heap_new w (.cells cs.toArray t)
  unfold World.cell?
  simp only [h]
  simp
section
variable {w w' : World} {T E : TypeId} {z : Value} {k b base n : Nat} {v : Value} {cs : List Value}
theorem own_keep (h : w.ownsRow base E k v n cs) (hb : ∀ g, v.ownBlock = some g → w'.heap[g]? = w.heap[g]?) : w'.ownsRow base E k v n cs := by
  refine ⟨h.1, ?_⟩
  rcases h.2 with h' | ⟨g, cap, cur, hv, h1, hg, r⟩
  · exact .inl h'
  · exact .inr ⟨g, cap, cur, hv, h1, by rw [hb g (by rw [hv]; rfl)]; exact hg, r⟩
theorem own_below (h : w.ownsRow base E k v n cs) (hB : Below w.heap.size w w') : w'.ownsRow base E k v n cs := own_keep h fun g hg => hB.block g (h.lt g hg).2
theorem own_lower (h : w.ownsRow base E k v n cs) {b2 : Nat} (hb : b2 ≤ base) : w.ownsRow b2 E k v n cs := by
  refine ⟨h.1, ?_⟩
  rcases h.2 with h' | ⟨g, cap, cur, hv, h1, r⟩
  · exact .inl h'
  · exact .inr ⟨g, cap, cur, hv, Nat.le_trans hb h1, r⟩
theorem own_len (h : w.ownsRow base E k v n cs) : cs.length = n * k := h.1
/-- How such a list reads. -/
theorem own_shape (h : w.ownsRow base E k v n cs) : ∃ p cap, v = .slice p n cap ∧ LsC w p cs ∧ (p = none → cap = 0) ∧ n ≤ cap ∧ ∀ c o, p = some ⟨c, o, none⟩ → base ≤ c ∧ c < w.heap.size := by
  have hlt := h.lt
  rcases h.2 with ⟨rfl, hn⟩ | ⟨g, cap, cur, hv, hb, hg, hle, _, hsz, ht⟩
  · have hl := h.1
    rw [hn] at hl
    exact ⟨none, 0, by rw [hn], fun j hj => absurd hj (by omega), fun _ => rfl, by omega, fun c o e => by cases e⟩
  · refine ⟨some ⟨g, 0, none⟩, cap, hv, fun j hj => ⟨g, 0, rfl, ?_⟩, (fun e => by cases e), hle, fun c o e => ?_⟩
    · subst hv
      rw [Nat.zero_add]
      exact h.cellAt j (by rw [← h.1]; exact hj)
    · injection e with e
      injection e with e1 e2
      subst e1
      exact hlt g (by rw [hv]; rfl)
theorem own_empty (w : World) (base : Nat) (hb : base ≤ w.heap.size) : (w.alloc (.cells #[] E)).ownsRow base E k (.slice (some ⟨w.heap.size, 0, none⟩) 0 0) 0 [] :=
  World.ownsRow_made (size := k) w #[] 0 hb (by simp [maxLen]) (by simp)
/-- Elements behind those of an own list. -/
theorem append_ownK (K : ElK T E z k b) (w : World) (base : Nat) (ty : TypeId) (hown : w.ownsRow base E k v n cs) (p : Option Addr) (m c : Nat) (news : List Value) (hnl : news.length = m * k) (hs : LsC w p news) (hp : p = none → c = 0 ∧ m = 0) (h1 : ∀ u ∈ news, u.oneCell' = true)
    (hn : n + m < 100000000) (hb : base ≤ w.heap.size) :
    ∃ v' w', (Builtin.append_ #[T, T] ty #[v, .slice p m c]).run Tryz.prog w = .ok v' w' ∧ w'.ownsRow base E k v' (n + m) (cs ++ news) ∧ w.grownBy w' v.ownBlock ∧ (v'.ownBlock = v.ownBlock ∨ v'.ownBlock = some w.heap.size) := by
  obtain ⟨i0, hi, hz0, hz1, hz2⟩ := info_parts K.inf
  have hbb := K.few
  cases p with
  | some a =>
    obtain ⟨v', w', g1, g2, g3, _, g5⟩ := run_append_own_at (P := Tryz.prog) w base T ty E i0 z k b K.und hi hz0 hz1 hz2 K.zc K.pos v n cs hown a m c news hnl hs.news h1
      (by simp only [maxLen]; omega) (by have : (n + m) * b ≤ (n + m) * 200 := Nat.mul_le_mul_left _ hbb; omega) hb
    exact ⟨v', w', g1, g2, g3, g5⟩
  | none =>
    obtain ⟨rfl, rfl⟩ := hp rfl
    have : news = [] := List.eq_nil_of_length_eq_zero (by simpa using hnl)
    subst this
    exact ⟨v, w, run_append_owned_none (P := Tryz.prog) w base T ty E i0 k K.und hi v n cs hown, by rw [List.append_nil]; exact hown, World.grownBy.refl _ _, .inl rfl⟩
theorem wpl_appendK {ops : Array Oper} {rest : List Oper} {o : Oper} {a : Act} {Q : Exit → Act → World → Prop} (K : ElK T E z k b) (w : World) (hgd : o.guard = none) (s x : Operand)
    (ho : o.op = .call { callee := .builtin .append, args := #[s, x], argTypes := #[T, T] })
    (base : Nat) (hs : a.eval s = v) (hown : w.ownsRow base E k v n cs) (p : Option Addr) (m c : Nat) (news : List Value) (hnl : news.length = m * k) (hx : a.eval x = .slice p m c) (hl : LsC w p news) (hp : p = none → c = 0 ∧ m = 0) (h1 : ∀ u ∈ news, u.oneCell' = true)
    (hn : n + m < 100000000) (hb : base ≤ w.heap.size)
    (h : ∀ v' w', w'.ownsRow base E k v' (n + m) (cs ++ news) → w.grownBy w' v.ownBlock → (v'.ownBlock = v.ownBlock ∨ v'.ownBlock = some w.heap.size) → wpList Tryz.prog ops Q rest (a.put o.dst v') w') : wpList Tryz.prog ops Q (o :: rest) a w := by
  refine wpList_plain hgd fun K' hK => ?_
  obtain ⟨v', w', hr, h2, h3, h4⟩ := append_ownK K w base o.type hown p m c news hnl hl hp h1 hn hb
  unfold Oper.wp execOp
  simp only [ho, resolve, invoke, builtin, Sem.run_bind, Sem.run_pure, Result.andThen_ok, List.map_toArray, List.map_cons, List.map_nil, hs, hx, hr]
  exact hK _ _ (h v' w' h2 h3 h4)
theorem step_appendK {ops : Array Oper} {o : Oper} {a : Act} {Q : Exit → Act → World → Prop} {K' : Act → World → Prop} {Z : Prop} (K : ElK T E z k b) (w : World) (hgd : o.guard = none) (s x : Operand)
    (ho : o.op = .call { callee := .builtin .append, args := #[s, x], argTypes := #[T, T] })
    (base : Nat) (hs : a.eval s = v) (hown : w.ownsRow base E k v n cs) (p : Option Addr) (m c : Nat) (news : List Value) (hnl : news.length = m * k) (hx : a.eval x = .slice p m c) (hl : LsC w p news) (hp : p = none → c = 0 ∧ m = 0) (h1 : ∀ u ∈ news, u.oneCell' = true)
    (hn : n + m < 100000000) (hb : base ≤ w.heap.size)
    (h : ∀ v' w', w'.ownsRow base E k v' (n + m) (cs ++ news) → w.grownBy w' v.ownBlock → (v'.ownBlock = v.ownBlock ∨ v'.ownBlock = some w.heap.size) → K' (a.put o.dst v') w') : if Region.wanted o (yielded ops a.tmps) = true then Oper.wp Tryz.prog o a w K' Q else Z := by
  have hw : Region.wanted o (yielded ops a.tmps) = true := by simp [Region.wanted, hgd]
  rw [if_pos hw]
  obtain ⟨v', w', hr, h2, h3, h4⟩ := append_ownK K w base o.type hown p m c news hnl hl hp h1 hn hb
  unfold Oper.wp execOp
  simp only [ho, resolve, invoke, builtin, Sem.run_bind, Sem.run_pure, Result.andThen_ok, List.map_toArray, List.map_cons, List.map_nil, hs, hx, hr]
  exact h v' w' h2 h3 h4
end
end Go.Proofs.YtllpcllgliknpaaGreatDoor
