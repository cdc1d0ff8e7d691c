/- Slices of slices of bytes: read, and appended to. -/
import Derived.Test.YtkfceloaomlhmaaDoorBytes
import Derived.Deep.LoopGhost
import Derived.Deep.AppendLies
set_option linter.unusedSimpArgs false
set_option maxRecDepth 100000
set_option linter.unusedVariables false
namespace Go.Proofs.YtkfceloaomlhmaaDoor
open Go Go.RowKit

theorem undRows : Tryd.prog.underlying 42 = some (.slice 22) := by kernel_rfl
theorem infoB : (Tryd.prog.info? 22).map (fun i => (i.zero, i.size, i.bytes)) = some (some (.slice none 0 0), 1, 24) := by kernel_rfl
/-- The header q, n, cap is that of a slice that holds l. -/
def Hd (w : World) (u : Value) (l : List (BitVec 8)) : Prop := ∃ q cap, u = .slice q l.length cap ∧ Sl w q l ∧ (q = none → cap = 0) ∧ l.length ≤ cap
/-- Slices of bytes lie where a slice of their number begins. -/
def Prt (w : World) (p : Option Addr) (ls : List (List (BitVec 8))) : Prop :=
  ∀ i, i < ls.length → ∃ c o q cap, p = some ⟨c, o, none⟩ ∧ w.cell? ⟨c, o + i, none⟩ = some (.slice q (ls.getD i []).length cap) ∧ Sl w q (ls.getD i []) ∧ (q = none → cap = 0) ∧ (ls.getD i []).length ≤ cap
theorem Prt.of_below {w w' : World} {p : Option Addr} {ls : List (List (BitVec 8))} (h : Prt w p ls) (k : Below w.heap.size w w') : Prt w' p ls := fun i hi => by
  obtain ⟨c, o, q, cap, h1, h2, h3, h4, h5⟩ := h i hi
  exact ⟨c, o, q, cap, h1, by rw [k.cell (World.block_lt_of_cell? w _ h2)]; exact h2, h3.of_below k, h4, h5⟩
theorem Prt.dr {w w' : World} {p : Option Addr} {ls : List (List (BitVec 8))} (h : Prt w p ls) (k : Dr w w') : Prt w' p ls := by obtain ⟨N, rfl⟩ := k; exact h
theorem Prt.nil (w : World) (p : Option Addr) : Prt w p [] := fun i hi => absurd hi (by simp)
/-- The numbers of rows as a matrix. -/
def mx (ls : List (List (BitVec 8))) (i j : Nat) : BitVec 8 := (ls.getD i []).getD j 0#8
/-- The slice v, among the blocks from base on, holds the headers of rows that hold ls; no row lies in v's own block. -/
def OwnM (w : World) (base : Nat) (v : Value) (ls : List (List (BitVec 8))) : Prop :=
  ∃ vs : List Value, vs.length = ls.length ∧ w.ownsRow base 22 1 v ls.length vs ∧
    ∀ i, i < ls.length → ∃ q cap, vs[i]? = some (.slice q (ls.getD i []).length cap) ∧ Sl w q (ls.getD i []) ∧ (q = none → cap = 0) ∧ (ls.getD i []).length ≤ cap ∧ ∀ a, q = some a → base ≤ a.block ∧ a.block < w.heap.size ∧ v.ownBlock ≠ some a.block
theorem Sl.of_block {w w' : World} {q : Option Addr} {l : List (BitVec 8)} (h : Sl w q l) (k : ∀ a, q = some a → w'.heap[a.block]? = w.heap[a.block]?) : Sl w' q l := fun j hj => by
  obtain ⟨c, o, e, hc⟩ := h j hj
  refine ⟨c, o, e, ?_⟩
  have := k _ e
  rw [World.cell?_of_block (w := w) (w' := w') (a := ⟨c, o + j, none⟩) this]
  exact hc
theorem OwnM.nil (w : World) (base : Nat) : OwnM w base (.slice none 0 0) [] := ⟨[], rfl, ⟨rfl, .inl ⟨rfl, rfl⟩⟩, fun i hi => absurd hi (by simp)⟩
theorem OwnM.keep {w w' : World} {base : Nat} {v : Value} {ls : List (List (BitVec 8))} (h : OwnM w base v ls) (hsz : w.heap.size ≤ w'.heap.size) (k : ∀ g, base ≤ g → g < w.heap.size → w'.heap[g]? = w.heap[g]?) : OwnM w' base v ls := by
  obtain ⟨vs, h1, h2, h3⟩ := h
  refine ⟨vs, h1, ⟨h2.1, ?_⟩, fun i hi => ?_⟩
  · rcases h2.2 with h' | ⟨g, cap, cur, hv, hb, hg, r⟩
    · exact .inl h'
    · have hlt : g < w.heap.size := by
        rcases Nat.lt_or_ge g w.heap.size with h' | h'
        · exact h'
        · rw [Array.getElem?_eq_none h'] at hg; cases hg
      exact .inr ⟨g, cap, cur, hv, hb, by rw [k g hb hlt]; exact hg, r⟩
  · obtain ⟨q, cap, a1, a2, a3, a4, a5⟩ := h3 i hi
    exact ⟨q, cap, a1, a2.of_block (fun a e => k a.block (a5 a e).1 (a5 a e).2.1), a3, a4, fun a e => ⟨(a5 a e).1, Nat.lt_of_lt_of_le (a5 a e).2.1 hsz, (a5 a e).2.2⟩⟩
theorem OwnM.of_below {w w' : World} {base : Nat} {v : Value} {ls : List (List (BitVec 8))} (h : OwnM w base v ls) (k : Below w.heap.size w w') : OwnM w' base v ls := h.keep k.size fun g _ hg => k.block g hg
theorem OwnM.dr {w w' : World} {base : Nat} {v : Value} {ls : List (List (BitVec 8))} (h : OwnM w base v ls) (k : Dr w w') : OwnM w' base v ls := by obtain ⟨N, rfl⟩ := k; exact h
/-- What such a slice reads as. -/
theorem OwnM.prt {w : World} {base : Nat} {v : Value} {ls : List (List (BitVec 8))} (h : OwnM w base v ls) : ∃ p cap, v = .slice p ls.length cap ∧ Prt w p ls ∧ (p = none → cap = 0) ∧ ls.length ≤ cap := by
  obtain ⟨vs, h1, h2, h3⟩ := h
  rcases h2.2 with ⟨hv, hl⟩ | ⟨g, cap, cur, hv, hb, hg, hle, _, hsz, ht⟩
  · exact ⟨none, 0, by rw [hv, hl], fun i hi => absurd hi (by omega), fun _ => rfl, by omega⟩
  · refine ⟨some ⟨g, 0, none⟩, cap, hv, fun i hi => ?_, (fun h => by cases h), hle⟩
    obtain ⟨q, cap', a1, a2, a3, a4, _⟩ := h3 i hi
    refine ⟨g, 0, q, cap', rfl, ?_, a2, a3, a4⟩
    rw [Nat.zero_add, cell_of_row w g i cur 22 (0, 0) hg]
    have e : (cur.toList.take (ls.length * 1))[i]? = vs[i]? := by rw [ht]
    rw [List.getElem?_take, if_pos (by omega), a1] at e
    simpa using e
/-- One row appended. -/
theorem OwnM.push {w : World} {base : Nat} {v : Value} {ls : List (List (BitVec 8))} (h : OwnM w base v ls) (ty : TypeId) (a : Addr) (q : Option Addr) (l : List (BitVec 8)) (n cap : Nat)
    (hc : w.cell? a = some (.slice q n cap)) (hn : l.length = n) (hs : Sl w q l) (hq : q = none → cap = 0) (hle : n ≤ cap) (hqb : ∀ b, q = some b → base ≤ b.block ∧ b.block < w.heap.size ∧ v.ownBlock ≠ some b.block)
    (hlen : ls.length < 100000000) (hb : base ≤ w.heap.size) :
    ∃ g cap' w', (Builtin.append_ #[42, 42] ty #[v, .slice (some a) 1 1]).run Tryd.prog w = .ok (.slice (some ⟨g, 0, none⟩) (ls.length + 1) cap') w' ∧ OwnM w' base (.slice (some ⟨g, 0, none⟩) (ls.length + 1) cap') (ls ++ [l]) ∧ w.grownBy w' v.ownBlock ∧
      (v.ownBlock = some g ∨ g = w.heap.size) ∧ (∀ k, v.ownBlock = some k → base ≤ k ∧ k < w.heap.size) := by
  subst hn
  obtain ⟨vs, h1, h2, h3⟩ := h
  obtain ⟨i0, hi, hz0, hz1, hz2⟩ := info_parts infoB
  obtain ⟨g, cap', w', r1, r2, r3, r4, r5⟩ := run_append_lies (P := Tryd.prog) w 42 ty base 22 i0 (.slice none 0 0) 1 24 undRows hi hz0 hz1 hz2 rfl (by decide) v ls.length vs h2 a 1 1 [.slice q l.length cap] rfl
    (fun j u hu => by
      have : j = 0 := by
        rcases Nat.eq_zero_or_pos j with h | h
        · exact h
        · rw [List.getElem?_eq_none (by simp; omega)] at hu; cases hu
      subst this
      rw [Addr.add_zero', hc]
      simpa using hu)
    (by intro u hu; simp at hu; subst hu; rfl) (by decide) (by simp only [maxLen]; omega) (by omega) hb w.heap.size rfl
  have hkeep : ∀ b : Addr, b.block < w.heap.size → v.ownBlock ≠ some b.block → w'.heap[b.block]? = w.heap[b.block]? ∧ g ≠ b.block := fun b hbl hne =>
    ⟨r3.block b.block hbl (Ne.symm hne), fun e => by
      rcases r4 with r4 | r4
      · exact hne (by rw [r4, e])
      · omega⟩
  refine ⟨g, cap', w', r1, ⟨vs ++ [.slice q l.length cap], by simp [h1], by rw [List.length_append]; exact r2, fun i hi => ?_⟩, r3, r4, fun k hk => World.ownsRow.lt h2 k hk⟩
  have hsz := r3.size
  by_cases hil : i < ls.length
  · obtain ⟨q', cap'', a1, a2, a3, a4, a5⟩ := h3 i hil
    have e : (ls ++ [l]).getD i [] = ls.getD i [] := by simp [List.getD_eq_getElem?_getD, List.getElem?_append_left hil]
    rw [e]
    refine ⟨q', cap'', by rw [List.getElem?_append_left (by omega)]; exact a1, a2.of_block (fun a ea => (hkeep a (a5 a ea).2.1 (a5 a ea).2.2).1), a3, a4, fun a ea => ⟨(a5 a ea).1, Nat.lt_of_lt_of_le (a5 a ea).2.1 hsz, ?_⟩⟩
    intro e'
    exact (hkeep a (a5 a ea).2.1 (a5 a ea).2.2).2 (by simpa [Value.ownBlock] using e')
  · have hi' : i = ls.length := by
      rw [List.length_append] at hi
      have : ([l] : List (List (BitVec 8))).length = 1 := rfl
      omega
    subst hi'
    have e : (ls ++ [l]).getD ls.length [] = l := by simp [List.getD_eq_getElem?_getD]
    rw [e]
    refine ⟨q, cap, by rw [List.getElem?_append_right (by omega), h1]; simp, hs.of_block (fun a ea => (hkeep a (hqb a ea).2.1 (hqb a ea).2.2).1), hq, hle, fun a ea => ⟨(hqb a ea).1, Nat.lt_of_lt_of_le (hqb a ea).2.1 hsz, ?_⟩⟩
    intro e'
    exact (hkeep a (hqb a ea).2.1 (hqb a ea).2.2).2 (by simpa [Value.ownBlock] using e')
theorem wpl_push {ops : Array Oper} {rest : List Oper} {o : Oper} {a : Act} {Q : Exit → Act → World → Prop} (w : World) (hgd : o.guard = none) (s x : Operand)
    (ho : o.op = .call { callee := .builtin .append, args := #[s, x], argTypes := #[42, 42] })
    (base : Nat) (v : Value) (ls : List (List (BitVec 8))) (hs : a.eval s = v) (hown : OwnM w base v ls) (ad : Addr) (hx : a.eval x = .slice (some ad) 1 1) (q : Option Addr) (l : List (BitVec 8)) (n cap : Nat)
    (hc : w.cell? ad = some (.slice q n cap)) (hn : l.length = n) (hsl : Sl w q l) (hq : q = none → cap = 0) (hle : n ≤ cap) (hqb : ∀ b, q = some b → base ≤ b.block ∧ b.block < w.heap.size ∧ v.ownBlock ≠ some b.block)
    (n0 : Nat) (hn0 : ls.length = n0) (hlen : n0 < 100000000) (hb : base ≤ w.heap.size)
    (h : ∀ g cap' w', OwnM w' base (.slice (some ⟨g, 0, none⟩) (n0 + 1) cap') (ls ++ [l]) → w.grownBy w' v.ownBlock → (v.ownBlock = some g ∨ g = w.heap.size) → (∀ k, v.ownBlock = some k → base ≤ k ∧ k < w.heap.size) →
      wpList Tryd.prog ops Q rest (a.put o.dst (.slice (some ⟨g, 0, none⟩) (n0 + 1) cap')) w') : wpList Tryd.prog ops Q (o :: rest) a w := by
  subst hn0
  refine wpList_plain hgd fun K hK => ?_
  obtain ⟨g, cap', w', hr, h2, h3, h4, h5⟩ := hown.push o.type ad q l n cap hc hn hsl hq hle hqb hlen hb
  unfold Oper.wp execOp
  simp only [ho, resolve, invoke, builtin, Sem.run_bind, Sem.run_pure, Result.andThen_ok, List.map_toArray, List.map_cons, List.map_nil, hs, hx, hr]
  exact hK _ _ (h g cap' w' h2 h3 h4 h5)
end Go.Proofs.YtkfceloaomlhmaaDoor
