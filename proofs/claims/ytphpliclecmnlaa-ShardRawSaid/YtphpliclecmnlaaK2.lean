/- Merged texts: Bytes, Prt, Rows3, Upto, Stores, Det, Mp, GoodB, Perm. -/
import Derived.Test.YtphpliclecmnlaaRows
import Derived.Test.YtphpliclecmnlaaK1
import Derived.Deep.LoopGhost
import Derived.Deep.AppendLies
import Derived.WalkKit
import Derived.Lib.Walk
set_option linter.unusedSimpArgs false
set_option linter.unusedVariables false
/- Bytes appended to a slice of the call's own; slices of bytes as strings. -/
namespace Go.Proofs.Ytphpliclecmnlaa
open Go Go.RowKit

theorem info5 : (Try.prog.info? 5).map (fun i => (i.zero, i.size, i.bytes)) = some (some (.int .u8 0), 1, 1) := by kernel_rfl
theorem und35 : Try.prog.underlying 38 = some (.slice 5) := by kernel_rfl
/-- The slice v, among the blocks from base on, holds the bytes l. -/
def OwnB (w : World) (base : Nat) (v : Value) (l : List (BitVec 8)) : Prop := w.ownsRow base 5 1 v l.length (l.map B)
theorem Sl.news {w : World} {a : Addr} {l : List (BitVec 8)} (h : Sl w (some a) l) : ∀ j u, (l.map B)[j]? = some u → w.cell? (a.add j) = some u := fun j u hu => by
  have hj : j < l.length := by
    have := (List.getElem?_eq_some_iff.1 hu).1
    simpa using this
  obtain ⟨c, o, e, hc⟩ := h j hj
  injection e with e
  subst e
  rw [Addr.add_mid, hc]
  simp [hj] at hu
  simp [hj, hu]
theorem one_map (l : List (BitVec 8)) : ∀ u ∈ l.map B, u.oneCell' = true := by
  intro u hu
  simp only [List.mem_map] at hu
  obtain ⟨x, _, rfl⟩ := hu
  exact one_B x
theorem append_own (w : World) (base : Nat) (ty : TypeId) (v : Value) (l : List (BitVec 8)) (hown : OwnB w base v l) (p : Option Addr) (n cap : Nat) (bs : List (BitVec 8)) (hbl : bs.length = n) (hs : Sl w p bs) (hc : p = none → cap = 0)
    (hn : l.length + n < 1000000000000) (hb : base ≤ w.heap.size) :
    ∃ v' w', (Builtin.append_ #[38, 38] ty #[v, .slice p n cap]).run Try.prog w = .ok v' w' ∧ OwnB w' base v' (l ++ bs) ∧ w.grownBy w' v.ownBlock := by
  subst hbl
  obtain ⟨i0, hi, hz0, hz1, hz2⟩ := info_parts info5
  cases p with
  | some a =>
    obtain ⟨v', w', h1, h2, h3, _⟩ := run_append_own (P := Try.prog) w base 38 ty 5 i0 (.int .u8 0) 1 1 und35 hi hz0 hz1 hz2 rfl (by decide) v l.length (l.map B) hown a bs.length cap (bs.map B) (by simp) hs.news (one_map bs)
      (by simp only [maxLen]; omega) (by omega) hb
    exact ⟨v', w', h1, by unfold OwnB; rw [List.length_append, List.map_append]; exact h2, h3⟩
  | none =>
    have : bs = [] := by
      cases bs with
      | nil => rfl
      | cons x r => obtain ⟨c, o, e, _⟩ := hs 0 (by simp); cases e
    subst this
    obtain rfl := hc rfl
    exact ⟨v, w, run_append_owned_none (P := Try.prog) w base 38 ty 5 i0 1 und35 hi v l.length (l.map B) hown, by rw [List.append_nil]; exact hown, World.grownBy.refl _ _⟩
theorem wpl_append {ops : Array Oper} {rest : List Oper} {o : Oper} {a : Act} {Q : Exit → Act → World → Prop} (w : World) (hgd : o.guard = none) (s x : Operand)
    (ho : o.op = .call { callee := .builtin .append, args := #[s, x], argTypes := #[38, 38] })
    (base : Nat) (v : Value) (l : List (BitVec 8)) (hs : a.eval s = v) (hown : OwnB w base v l) (p : Option Addr) (n cap : Nat) (bs : List (BitVec 8)) (hbl : bs.length = n) (hx : a.eval x = .slice p n cap) (hsl : Sl w p bs) (hc : p = none → cap = 0)
    (hn : l.length + n < 1000000000000) (hb : base ≤ w.heap.size)
    (h : ∀ v' w', OwnB w' base v' (l ++ bs) → w.grownBy w' v.ownBlock → wpList Try.prog ops Q rest (a.put o.dst v') w') : wpList Try.prog ops Q (o :: rest) a w := by
  refine wpList_plain hgd fun K hK => ?_
  obtain ⟨v', w', hr, h2, h3⟩ := append_own w base o.type v l hown p n cap bs hbl hsl hc hn hb
  unfold Oper.wp execOp
  simp only [ho, resolve, invoke, builtin, Sem.run_bind, Sem.run_pure, Result.andThen_ok, List.map_toArray, List.map_cons, List.map_nil, hs, hx, hr]
  exact hK _ _ (h v' w' h2 h3)
section
variable {w w' : World} {base : Nat} {v : Value} {l : List (BitVec 8)}
theorem OwnB.shape (h : OwnB w base v l) : ∃ p cap, v = .slice p l.length cap ∧ Sl w p l ∧ (p = none → cap = 0) ∧ l.length ≤ cap := by
  rcases h.2 with ⟨hv, hl⟩ | ⟨g, cap, cur, hv, _, hg, hle, _, hsz, ht⟩
  · refine ⟨none, 0, by rw [hv, hl], fun j hj => absurd hj (by omega), fun _ => rfl, by omega⟩
  · refine ⟨some ⟨g, 0, none⟩, cap, hv, fun j hj => ⟨g, 0, rfl, ?_⟩, (fun h => by cases h), hle⟩
    rw [Nat.zero_add, cell_of_row w g j cur 5 (0, 0) hg]
    have h1 : (cur.toList.take (l.length * 1))[j]? = (l.map B)[j]? := by rw [ht]
    rw [List.getElem?_take, if_pos (by omega)] at h1
    simpa [hj] using h1
theorem OwnB.lt (h : OwnB w base v l) : ∀ k, v.ownBlock = some k → base ≤ k ∧ k < w.heap.size := World.ownsRow.lt h
theorem OwnB.keep (h : OwnB w base v l) (hb : ∀ k, v.ownBlock = some k → w'.heap[k]? = w.heap[k]?) : OwnB w' base v l := by
  refine ⟨h.1, ?_⟩
  rcases h.2 with h' | ⟨g, cap, cur, hv, h1, hg, r⟩
  · exact .inl h'
  · exact .inr ⟨g, cap, cur, hv, h1, by rw [hb g (by rw [hv]; rfl)]; exact hg, r⟩
theorem OwnB.of_below (h : OwnB w base v l) (k : Below w.heap.size w w') : OwnB w' base v l := h.keep fun g hg => k.block g (h.lt g hg).2
theorem OwnB.empty (w : World) (base : Nat) (hb : base ≤ w.heap.size) : OwnB (w.alloc (.cells #[] 5)) base (.slice (some ⟨w.heap.size, 0, none⟩) 0 0) [] := by
  have := World.ownsRow_lit (e := 5) (size := 1) (base := base) w #[] 0 hb (by simp only [maxLen]; omega) (by simp)
  unfold OwnB
  simpa using this
end
/-- Bytes as a string. -/
def strOf (l : List (BitVec 8)) : ByteArray := ⟨(l.map UInt8.ofBitVec).toArray⟩
theorem conv_str (w : World) (p : Option Addr) (l : List (BitVec 8)) (n cap : Nat) (h : Sl w p l) (hl : l.length = n) (hp : p = none → cap = 0) :
    (convert 38 9 (.slice p n cap)).run Try.prog w = .ok (.string (strOf l)) w := by
  subst hl
  cases p with
  | none =>
    have : l = [] := by
      cases l with
      | nil => rfl
      | cons x r => obtain ⟨c, o, e, _⟩ := h 0 (by simp); cases e
    subst this
    show (convert 38 9 (.slice none 0 cap)).run Try.prog w = _
    rw [run_convert_bytes_string (P := Try.prog) w 38 9 5 none 0 cap und35 (by kernel_rfl) (by kernel_rfl)]
    rfl
  | some a =>
    have := run_convert_bytes_back (P := Try.prog) w 38 9 5 a cap (l.map UInt8.ofBitVec) und35 (by kernel_rfl) (by kernel_rfl) (fun j hj => by
      have hj' : j < l.length := by simpa using hj
      obtain ⟨c', o', e, hc⟩ := h j hj'
      injection e with e
      subst e
      rw [Addr.add_mid, hc]
      simp [hj', B_eq'])
    rw [List.length_map] at this
    exact this
end Go.Proofs.Ytphpliclecmnlaa
/- Slices of slices of bytes: read, and appended to. -/
namespace Go.Proofs.Ytphpliclecmnlaa
open Go Go.RowKit

theorem undRows : Try.prog.underlying 23 = some (.slice 38) := by kernel_rfl
theorem infoB : (Try.prog.info? 38).map (fun i => (i.zero, i.size, i.bytes)) = some (some (.slice none 0 0), 1, 24) := by kernel_rfl
/-- The header q, n, cap is that of a slice that holds l. -/
def Hd (w : World) (u : Value) (l : List (BitVec 8)) : Prop := ∃ q cap, u = .slice q l.length cap ∧ Sl w q l ∧ (q = none → cap = 0) ∧ l.length ≤ cap
/-- Slices of bytes lie where a slice of their number begins. -/
def Prt (w : World) (p : Option Addr) (ls : List (List (BitVec 8))) : Prop :=
  ∀ i, i < ls.length → ∃ c o q cap, p = some ⟨c, o, none⟩ ∧ w.cell? ⟨c, o + i, none⟩ = some (.slice q (ls.getD i []).length cap) ∧ Sl w q (ls.getD i []) ∧ (q = none → cap = 0) ∧ (ls.getD i []).length ≤ cap
theorem Prt.of_below {w w' : World} {p : Option Addr} {ls : List (List (BitVec 8))} (h : Prt w p ls) (k : Below w.heap.size w w') : Prt w' p ls := fun i hi => by
  obtain ⟨c, o, q, cap, h1, h2, h3, h4, h5⟩ := h i hi
  exact ⟨c, o, q, cap, h1, by rw [k.cell (World.block_lt_of_cell? w _ h2)]; exact h2, h3.of_below k, h4, h5⟩
theorem Prt.dr {w w' : World} {p : Option Addr} {ls : List (List (BitVec 8))} (h : Prt w p ls) (k : Dr w w') : Prt w' p ls := by obtain ⟨N, rfl⟩ := k; exact h
theorem Prt.nil (w : World) (p : Option Addr) : Prt w p [] := fun i hi => absurd hi (by simp)
/-- The numbers of rows as a matrix. -/
def mx (ls : List (List (BitVec 8))) (i j : Nat) : BitVec 8 := (ls.getD i []).getD j 0#8
/-- The slice v, among the blocks from base on, holds the headers of rows that hold ls; no row lies in v's own block. -/
def OwnM (w : World) (base : Nat) (v : Value) (ls : List (List (BitVec 8))) : Prop :=
  ∃ vs : List Value, vs.length = ls.length ∧ w.ownsRow base 38 1 v ls.length vs ∧
    ∀ i, i < ls.length → ∃ q cap, vs[i]? = some (.slice q (ls.getD i []).length cap) ∧ Sl w q (ls.getD i []) ∧ (q = none → cap = 0) ∧ (ls.getD i []).length ≤ cap ∧ ∀ a, q = some a → base ≤ a.block ∧ a.block < w.heap.size ∧ v.ownBlock ≠ some a.block
theorem Sl.of_block {w w' : World} {q : Option Addr} {l : List (BitVec 8)} (h : Sl w q l) (k : ∀ a, q = some a → w'.heap[a.block]? = w.heap[a.block]?) : Sl w' q l := fun j hj => by
  obtain ⟨c, o, e, hc⟩ := h j hj
  refine ⟨c, o, e, ?_⟩
  have := k _ e
  rw [World.cell?_of_block (w := w) (w' := w') (a := ⟨c, o + j, none⟩) this]
  exact hc
theorem OwnM.nil (w : World) (base : Nat) : OwnM w base (.slice none 0 0) [] := ⟨[], rfl, ⟨rfl, .inl ⟨rfl, rfl⟩⟩, fun i hi => absurd hi (by simp)⟩
theorem OwnM.keep {w w' : World} {base : Nat} {v : Value} {ls : List (List (BitVec 8))} (h : OwnM w base v ls) (hsz : w.heap.size ≤ w'.heap.size) (k : ∀ g, base ≤ g → g < w.heap.size → w'.heap[g]? = w.heap[g]?) : OwnM w' base v ls := by
  obtain ⟨vs, h1, h2, h3⟩ := h
  refine ⟨vs, h1, ⟨h2.1, ?_⟩, fun i hi => ?_⟩
  · rcases h2.2 with h' | ⟨g, cap, cur, hv, hb, hg, r⟩
    · exact .inl h'
    · have hlt : g < w.heap.size := by
        rcases Nat.lt_or_ge g w.heap.size with h' | h'
        · exact h'
        · rw [Array.getElem?_eq_none h'] at hg; cases hg
      exact .inr ⟨g, cap, cur, hv, hb, by rw [k g hb hlt]; exact hg, r⟩
  · obtain ⟨q, cap, a1, a2, a3, a4, a5⟩ := h3 i hi
    exact ⟨q, cap, a1, a2.of_block (fun a e => k a.block (a5 a e).1 (a5 a e).2.1), a3, a4, fun a e => ⟨(a5 a e).1, Nat.lt_of_lt_of_le (a5 a e).2.1 hsz, (a5 a e).2.2⟩⟩
theorem OwnM.of_below {w w' : World} {base : Nat} {v : Value} {ls : List (List (BitVec 8))} (h : OwnM w base v ls) (k : Below w.heap.size w w') : OwnM w' base v ls := h.keep k.size fun g _ hg => k.block g hg
theorem OwnM.dr {w w' : World} {base : Nat} {v : Value} {ls : List (List (BitVec 8))} (h : OwnM w base v ls) (k : Dr w w') : OwnM w' base v ls := by obtain ⟨N, rfl⟩ := k; exact h
/-- What such a slice reads as. -/
theorem OwnM.prt {w : World} {base : Nat} {v : Value} {ls : List (List (BitVec 8))} (h : OwnM w base v ls) : ∃ p cap, v = .slice p ls.length cap ∧ Prt w p ls ∧ (p = none → cap = 0) ∧ ls.length ≤ cap := by
  obtain ⟨vs, h1, h2, h3⟩ := h
  rcases h2.2 with ⟨hv, hl⟩ | ⟨g, cap, cur, hv, hb, hg, hle, _, hsz, ht⟩
  · exact ⟨none, 0, by rw [hv, hl], fun i hi => absurd hi (by omega), fun _ => rfl, by omega⟩
  · refine ⟨some ⟨g, 0, none⟩, cap, hv, fun i hi => ?_, (fun h => by cases h), hle⟩
    obtain ⟨q, cap', a1, a2, a3, a4, _⟩ := h3 i hi
    refine ⟨g, 0, q, cap', rfl, ?_, a2, a3, a4⟩
    rw [Nat.zero_add, cell_of_row w g i cur 38 (0, 0) hg]
    have e : (cur.toList.take (ls.length * 1))[i]? = vs[i]? := by rw [ht]
    rw [List.getElem?_take, if_pos (by omega), a1] at e
    simpa using e
/-- One row appended. -/
theorem OwnM.push {w : World} {base : Nat} {v : Value} {ls : List (List (BitVec 8))} (h : OwnM w base v ls) (ty : TypeId) (a : Addr) (q : Option Addr) (l : List (BitVec 8)) (n cap : Nat)
    (hc : w.cell? a = some (.slice q n cap)) (hn : l.length = n) (hs : Sl w q l) (hq : q = none → cap = 0) (hle : n ≤ cap) (hqb : ∀ b, q = some b → base ≤ b.block ∧ b.block < w.heap.size ∧ v.ownBlock ≠ some b.block)
    (hlen : ls.length < 100000000) (hb : base ≤ w.heap.size) :
    ∃ g cap' w', (Builtin.append_ #[23, 23] ty #[v, .slice (some a) 1 1]).run Try.prog w = .ok (.slice (some ⟨g, 0, none⟩) (ls.length + 1) cap') w' ∧ OwnM w' base (.slice (some ⟨g, 0, none⟩) (ls.length + 1) cap') (ls ++ [l]) ∧ w.grownBy w' v.ownBlock ∧
      (v.ownBlock = some g ∨ g = w.heap.size) ∧ (∀ k, v.ownBlock = some k → base ≤ k ∧ k < w.heap.size) := by
  subst hn
  obtain ⟨vs, h1, h2, h3⟩ := h
  obtain ⟨i0, hi, hz0, hz1, hz2⟩ := info_parts infoB
  obtain ⟨g, cap', w', r1, r2, r3, r4, r5⟩ := run_append_lies (P := Try.prog) w 23 ty base 38 i0 (.slice none 0 0) 1 24 undRows hi hz0 hz1 hz2 rfl (by decide) v ls.length vs h2 a 1 1 [.slice q l.length cap] rfl
    (fun j u hu => by
      have : j = 0 := by
        rcases Nat.eq_zero_or_pos j with h | h
        · exact h
        · rw [List.getElem?_eq_none (by simp; omega)] at hu; cases hu
      subst this
      rw [Addr.add_zero', hc]
      simpa using hu)
    (by intro u hu; simp at hu; subst hu; rfl) (by decide) (by simp only [maxLen]; omega) (by omega) hb w.heap.size rfl
  have hkeep : ∀ b : Addr, b.block < w.heap.size → v.ownBlock ≠ some b.block → w'.heap[b.block]? = w.heap[b.block]? ∧ g ≠ b.block := fun b hbl hne =>
    ⟨r3.block b.block hbl (Ne.symm hne), fun e => by
      rcases r4 with r4 | r4
      · exact hne (by rw [r4, e])
      · omega⟩
  refine ⟨g, cap', w', r1, ⟨vs ++ [.slice q l.length cap], by simp [h1], by rw [List.length_append]; exact r2, fun i hi => ?_⟩, r3, r4, fun k hk => World.ownsRow.lt h2 k hk⟩
  have hsz := r3.size
  by_cases hil : i < ls.length
  · obtain ⟨q', cap'', a1, a2, a3, a4, a5⟩ := h3 i hil
    have e : (ls ++ [l]).getD i [] = ls.getD i [] := by simp [List.getD_eq_getElem?_getD, List.getElem?_append_left hil]
    rw [e]
    refine ⟨q', cap'', by rw [List.getElem?_append_left (by omega)]; exact a1, a2.of_block (fun a ea => (hkeep a (a5 a ea).2.1 (a5 a ea).2.2).1), a3, a4, fun a ea => ⟨(a5 a ea).1, Nat.lt_of_lt_of_le (a5 a ea).2.1 hsz, ?_⟩⟩
    intro e'
    exact (hkeep a (a5 a ea).2.1 (a5 a ea).2.2).2 (by simpa [Value.ownBlock] using e')
  · have hi' : i = ls.length := by
      rw [List.length_append] at hi
      have : ([l] : List (List (BitVec 8))).length = 1 := rfl
      omega
    subst hi'
    have e : (ls ++ [l]).getD ls.length [] = l := by simp [List.getD_eq_getElem?_getD]
    rw [e]
    refine ⟨q, cap, by rw [List.getElem?_append_right (by omega), h1]; simp, hs.of_block (fun a ea => (hkeep a (hqb a ea).2.1 (hqb a ea).2.2).1), hq, hle, fun a ea => ⟨(hqb a ea).1, Nat.lt_of_lt_of_le (hqb a ea).2.1 hsz, ?_⟩⟩
    intro e'
    exact (hkeep a (hqb a ea).2.1 (hqb a ea).2.2).2 (by simpa [Value.ownBlock] using e')
theorem wpl_push {ops : Array Oper} {rest : List Oper} {o : Oper} {a : Act} {Q : Exit → Act → World → Prop} (w : World) (hgd : o.guard = none) (s x : Operand)
    (ho : o.op = .call { callee := .builtin .append, args := #[s, x], argTypes := #[23, 23] })
    (base : Nat) (v : Value) (ls : List (List (BitVec 8))) (hs : a.eval s = v) (hown : OwnM w base v ls) (ad : Addr) (hx : a.eval x = .slice (some ad) 1 1) (q : Option Addr) (l : List (BitVec 8)) (n cap : Nat)
    (hc : w.cell? ad = some (.slice q n cap)) (hn : l.length = n) (hsl : Sl w q l) (hq : q = none → cap = 0) (hle : n ≤ cap) (hqb : ∀ b, q = some b → base ≤ b.block ∧ b.block < w.heap.size ∧ v.ownBlock ≠ some b.block)
    (n0 : Nat) (hn0 : ls.length = n0) (hlen : n0 < 100000000) (hb : base ≤ w.heap.size)
    (h : ∀ g cap' w', OwnM w' base (.slice (some ⟨g, 0, none⟩) (n0 + 1) cap') (ls ++ [l]) → w.grownBy w' v.ownBlock → (v.ownBlock = some g ∨ g = w.heap.size) → (∀ k, v.ownBlock = some k → base ≤ k ∧ k < w.heap.size) →
      wpList Try.prog ops Q rest (a.put o.dst (.slice (some ⟨g, 0, none⟩) (n0 + 1) cap')) w') : wpList Try.prog ops Q (o :: rest) a w := by
  subst hn0
  refine wpList_plain hgd fun K hK => ?_
  obtain ⟨g, cap', w', hr, h2, h3, h4, h5⟩ := hown.push o.type ad q l n cap hc hn hsl hq hle hqb hlen hb
  unfold Oper.wp execOp
  simp only [ho, resolve, invoke, builtin, Sem.run_bind, Sem.run_pure, Result.andThen_ok, List.map_toArray, List.map_cons, List.map_nil, hs, hx, hr]
  exact hK _ _ (h g cap' w' h2 h3 h4 h5)
end Go.Proofs.Ytphpliclecmnlaa
/- Rows of bytes: one of them, strings of bytes, equal rows; a slice of rows that is returned. -/
namespace Go.Proofs.Ytphpliclecmnlaa
open Go Go.RowKit

theorem Prt.at_ {w : World} {p : Option Addr} {ls : List (List (BitVec 8))} (h : Prt w p ls) (i : Nat) (hi : i < ls.length) :
    ∃ c o q cap, p = some ⟨c, o, none⟩ ∧ c < w.heap.size ∧ w.cell? ⟨c, o + i, none⟩ = some (.slice q (ls.getD i []).length cap) ∧ Sl w q (ls.getD i []) ∧ (q = none → cap = 0) ∧ (ls.getD i []).length ≤ cap := by
  obtain ⟨c, o, q, cap, h1, h2, h3⟩ := h i hi
  exact ⟨c, o, q, cap, h1, World.block_lt_of_cell? w _ h2, h2, h3⟩
theorem strOf_inj {l m : List (BitVec 8)} (h : strOf l = strOf m) : l = m := by
  unfold strOf at h
  injection h with h
  have h2 : l.map UInt8.ofBitVec = m.map UInt8.ofBitVec := by simpa using h
  exact List.map_inj_right (fun a b e => by injection e) |>.1 h2
theorem str_list (l : List (BitVec 8)) : (strOf l).toList = l.map UInt8.ofBitVec := by
  rw [ByteArray.toList_eq]; simp [strOf]
theorem str_ne (l m : List (BitVec 8)) (h : l ≠ m) : ((strOf l).toList == (strOf m).toList) = false := by
  rw [beq_eq_false_iff_ne, str_list, str_list]
  intro e
  exact h (List.map_inj_right (fun a b e => by injection e) |>.1 e)
def sameB (la lb : List (List (BitVec 8))) : Bool := decide (la = lb)
theorem rows_ext {la lb : List (List (BitVec 8))} (hl : la.length = lb.length) (h : ∀ i, i < la.length → la.getD i [] = lb.getD i []) : la = lb := by
  apply List.ext_getElem hl
  intro i h1 h2
  have := h i h1
  simpa [List.getD_eq_getElem?_getD, h1, h2] using this
/-- A slice of rows of the call's own is returned, and nothing that was there has changed. -/
def RetM (N : Nat) (w : World) (ls : List (List (BitVec 8))) (e : Ending) (w' : World) : Prop := ∃ v, e = .returned v ∧ OwnM w' N v ls ∧ Below N w w'
theorem OwnM.lt {w : World} {base : Nat} {v : Value} {ls : List (List (BitVec 8))} (h : OwnM w base v ls) : ∀ k, v.ownBlock = some k → base ≤ k ∧ k < w.heap.size := by
  obtain ⟨vs, _, h2, _⟩ := h
  exact World.ownsRow.lt h2
theorem bs0 (w : World) : (bsT 38 0 #[]).run Try.prog w = .ok (.value (.slice (some ⟨w.heap.size, 0, none⟩) 0 0)) (w.alloc (.cells #[] 5)) := by kernel_rfl
theorem bsR (q : Option Addr) (n c : Nat) (w : World) : (bsT 23 1 #[(0, .slice q n c)]).run Try.prog w = .ok (.value (.slice (some ⟨w.heap.size, 0, none⟩) 1 1)) (w.alloc (.cells #[.slice q n c] 38)) := by
  cases q <;> kernel_rfl
theorem range_snoc {α : Type} (f : Nat → α) (k : Nat) : (List.range (k + 1)).map f = (List.range k).map f ++ [f k] := by rw [List.range_succ, List.map_append]; rfl
end Go.Proofs.Ytphpliclecmnlaa
/- Rows of bytes that are filled one by one. -/
namespace Go.Proofs.Ytphpliclecmnlaa
open Go Go.RowKit

/-- What a row holds when k of its bytes are reckoned. -/
def upto (f : Nat → BitVec 8) (k j : Nat) : Value := if j < k then B (f j) else B 0#8
theorem upto_zero (f : Nat → BitVec 8) (j : Nat) : B 0#8 = upto f 0 j := by rw [upto, if_neg (by omega)]
theorem upto_step (f : Nat → BitVec 8) (k j : Nat) : (if j = k then B (f k) else upto f k j) = upto f (k + 1) j := by
  unfold upto
  by_cases h : j = k
  · subst h; rw [if_pos rfl, if_pos (by omega)]
  · rw [if_neg h]
    by_cases h1 : j < k
    · rw [if_pos h1, if_pos (by omega)]
    · rw [if_neg h1, if_neg (by omega)]
theorem upto_full (f : Nat → BitVec 8) (n j : Nat) (h : j < n) : upto f n j = B (f j) := by rw [upto, if_pos h]
end Go.Proofs.Ytphpliclecmnlaa
/- Stores of bytes and ints, and slices of bytes that are made. -/
namespace Go.Proofs.Ytphpliclecmnlaa
open Go Go.RowKit

theorem convIB (n : Nat) (w : World) : (convert 3 5 (.int .i64 (n : Int))).run Try.prog w = .ok (B (BitVec.ofNat 8 n)) w :=
  run_convert_IB w 3 5 n (by kernel_rfl) (by kernel_rfl)
theorem st_B (a : Addr) (x : BitVec 8) (w : World) (hcell : (w.cell? a).isSome = true) (hf : w.frozen? a = false) : (stT 5 (.pointer (some a)) (B x)).run Try.prog w = .ok .skip (w.setCell a (B x)) :=
  stT_one 5 a (B x) w (one_B x) (cells_B x) (by kernel_rfl) hcell hf
theorem st_I (a : Addr) (x : Int) (w : World) (hcell : (w.cell? a).isSome = true) (hf : w.frozen? a = false) : (stT 3 (.pointer (some a)) (.int .i64 x)).run Try.prog w = .ok .skip (w.setCell a (.int .i64 x)) :=
  stT_one 3 a _ w rfl rfl (by kernel_rfl) hcell hf
theorem st_b (a : Addr) (x : Int) (w : World) (hcell : (w.cell? a).isSome = true) (hf : w.frozen? a = false) : (stT 5 (.pointer (some a)) (.int .u8 x)).run Try.prog w = .ok .skip (w.setCell a (.int .u8 x)) :=
  stT_one 5 a _ w rfl rfl (by kernel_rfl) hcell hf
theorem mkB (n : Nat) (w : World) (hn : n < 4294967296) : (mkT 38 (.int .i64 (n : Int)) (.int .i64 (n : Int))).run Try.prog w = .ok (.value (.slice (some ⟨w.heap.size, 0, none⟩) n n)) (w.alloc (.cells (zb n) 5)) := by
  have hi : (Try.prog.info? 5).map (fun i => (i.zero, i.size, i.bytes)) = some (some (.int .u8 0), 1, 1) := by kernel_rfl
  cases hq : Try.prog.info? 5 with
  | none => simp [hq] at hi
  | some i =>
    rw [hq] at hi
    simp only [Option.map_some, Option.some.injEq, Prod.mk.injEq] at hi
    obtain ⟨h1, h2, h3⟩ := hi
    have := run_make (P := Try.prog) w 38 5 i (.int .u8 0) (by kernel_rfl) hq h1 .i64 .i64 n n (by omega) (Int.le_refl _) (by rw [h3]; omega) (by omega)
    rw [h2] at this
    simp only [Int.toNat_natCast, Nat.mul_one] at this
    simp only [mkT, Sem.run_bind, this, Result.andThen_ok, Sem.run_pure]
    congr 2
    rw [zb_eq]
    congr 1
    apply Array.ext_getElem?
    intro j
    by_cases hj : j < n <;> simp [madeCells, Value.cells, hj, Nat.mod_one]
end Go.Proofs.Ytphpliclecmnlaa
/- Determinants over GF(2^8), by the first row; what row steps do to them; Cauchy matrices; nothing of the program. -/
namespace Go.Proofs.Ytphpliclecmnlaa

def skip (k j : Nat) : Nat := if j < k then j else j + 1
theorem skip_lt {k j n : Nat} (h : j < n) : skip k j < n + 1 := by unfold skip; split <;> omega
def minor (a : Mx) (k : Nat) : Mx := fun i j => a (i + 1) (skip k j)
def det : Nat → Mx → BitVec 8
  | 0, _ => 1#8
  | n + 1, a => xs (n + 1) (fun k => gm (a 0 k) (det n (minor a k)))
theorem det_succ (n : Nat) (a : Mx) : det (n + 1) a = xs (n + 1) (fun k => gm (a 0 k) (det n (minor a k))) := rfl
theorem det_congr {n : Nat} {a b : Mx} (h : ∀ i k, i < n → k < n → a i k = b i k) : det n a = det n b := by
  induction n generalizing a b with
  | zero => rfl
  | succ n ih =>
    rw [det_succ, det_succ]
    refine xs_congr fun k hk => ?_
    rw [h 0 k (by omega) hk, ih (a := minor a k) (b := minor b k) fun i j hi hj => h (i + 1) (skip k j) (by omega) (skip_lt hj)]
/-- A row in the place of another. -/
def setr (a : Mx) (p : Nat) (u : Nat → BitVec 8) : Mx := fun i k => if i = p then u k else a i k
theorem minor_setr (a : Mx) (p : Nat) (u : Nat → BitVec 8) (k : Nat) : minor (setr a (p + 1) u) k = setr (minor a k) p (fun j => u (skip k j)) := by
  funext i j
  unfold minor setr
  by_cases h : i = p
  · subst h; simp
  · rw [if_neg (by omega), if_neg h]
theorem minor_setr0 (a : Mx) (u : Nat → BitVec 8) (k : Nat) : minor (setr a 0 u) k = minor a k := by
  funext i j
  unfold minor setr
  rw [if_neg (by omega)]
theorem det_add (n p : Nat) (hp : p < n) (a : Mx) (u v : Nat → BitVec 8) : det n (setr a p (fun k => u k ^^^ v k)) = det n (setr a p u) ^^^ det n (setr a p v) := by
  induction n generalizing p a u v with
  | zero => omega
  | succ n ih =>
    rw [det_succ, det_succ, det_succ, ← xs_add]
    refine xs_congr fun k hk => ?_
    cases p with
    | zero =>
      rw [minor_setr0, minor_setr0, minor_setr0]
      show gm (if 0 = 0 then u k ^^^ v k else a 0 k) _ = gm (if 0 = 0 then u k else a 0 k) _ ^^^ gm (if 0 = 0 then v k else a 0 k) _
      rw [if_pos rfl, if_pos rfl, if_pos rfl, gm_xor_l]
    | succ p =>
      rw [minor_setr, minor_setr, minor_setr, ih p (by omega)]
      show gm (if 0 = p + 1 then _ else a 0 k) _ = gm (if 0 = p + 1 then _ else a 0 k) _ ^^^ gm (if 0 = p + 1 then _ else a 0 k) _
      rw [if_neg (by omega), if_neg (by omega), if_neg (by omega), gm_xor]
theorem det_mul (n p : Nat) (hp : p < n) (a : Mx) (c : BitVec 8) (u : Nat → BitVec 8) : det n (setr a p (fun k => gm c (u k))) = gm c (det n (setr a p u)) := by
  induction n generalizing p a u with
  | zero => omega
  | succ n ih =>
    rw [det_succ, det_succ, ← xs_mul]
    refine xs_congr fun k hk => ?_
    cases p with
    | zero =>
      rw [minor_setr0, minor_setr0]
      show gm (if 0 = 0 then gm c (u k) else a 0 k) _ = gm c (gm (if 0 = 0 then u k else a 0 k) _)
      rw [if_pos rfl, if_pos rfl, gm_assoc]
    | succ p =>
      rw [minor_setr, minor_setr, ih p (by omega)]
      show gm (if 0 = p + 1 then _ else a 0 k) _ = gm c (gm (if 0 = p + 1 then _ else a 0 k) _)
      rw [if_neg (by omega), if_neg (by omega), ← gm_assoc, gm_comm (a 0 k) c, gm_assoc]
theorem setr_same (a : Mx) (p : Nat) : setr a p (a p) = a := by
  funext i k; unfold setr; split
  · rename_i h; rw [h]
  · rfl
/-! Equal rows -/
theorem xs_skip (n k : Nat) (hk : k ≤ n) (F : Nat → BitVec 8) : xs n (fun l => F (skip k l)) = xs (n + 1) (fun m => if k = m then 0#8 else F m) := by
  induction n with
  | zero =>
    obtain rfl : k = 0 := by omega
    show 0#8 = 0#8 ^^^ (if 0 = 0 then 0#8 else F 0)
    rw [if_pos rfl]; rfl
  | succ n ih =>
    show _ = xs (n + 1) (fun m => if k = m then 0#8 else F m) ^^^ (if k = n + 1 then 0#8 else F (n + 1))
    by_cases h : k = n + 1
    · rw [if_pos h, BitVec.xor_zero]
      refine xs_congr fun l hl => ?_
      rw [if_neg (by omega), skip, if_pos (by omega)]
    · rw [if_neg h, ← ih (by omega)]
      show xs n (fun l => F (skip k l)) ^^^ F (skip k n) = _
      rw [show skip k n = n + 1 from if_neg (by omega)]
def avoid (k m j : Nat) : Nat := if j < min k m then j else if j + 1 < max k m then j + 1 else j + 2
theorem avoid_comm (k m j : Nat) : avoid k m j = avoid m k j := by unfold avoid; rw [Nat.min_comm, Nat.max_comm]
theorem skip_skip (k l j : Nat) : skip k (skip l j) = avoid k (skip k l) j := by
  unfold skip avoid
  by_cases h1 : l < k
  · rw [if_pos h1, Nat.min_eq_right (by omega), Nat.max_eq_left (by omega)]
    by_cases h2 : j < l
    · rw [if_pos h2, if_pos (by omega), if_pos h2]
    · rw [if_neg h2, if_neg h2]
  · rw [if_neg h1, Nat.min_eq_left (by omega), Nat.max_eq_right (by omega)]
    by_cases h2 : j < l
    · rw [if_pos h2]
      by_cases h3 : j < k
      · rw [if_pos h3, if_pos h3]
      · rw [if_neg h3, if_neg h3, if_pos (by omega)]
    · rw [if_neg h2, if_neg (by omega), if_neg (by omega), if_neg (by omega)]
theorem det_adj (n p : Nat) (hp : p + 1 < n) (a : Mx) (h : ∀ k, k < n → a p k = a (p + 1) k) : det n a = 0#8 := by
  induction n generalizing p a with
  | zero => omega
  | succ n ih =>
    cases p with
    | succ p =>
      rw [det_succ]
      refine xs_zero' fun k hk => ?_
      rw [ih p (by omega) (minor a k) (fun j hj => h (skip k j) (skip_lt hj)), gm_zr]
    | zero =>
      obtain ⟨n, rfl⟩ := Nat.exists_eq_succ_of_ne_zero (show n ≠ 0 by omega)
      have e : ∀ k, k < n + 2 → gm (a 0 k) (det (n + 1) (minor a k)) = xs (n + 2) (fun m => if k = m then 0#8 else gm (a 0 k) (gm (a 0 m) (det n fun i j => a (i + 2) (avoid k m j)))) := fun k hk => by
        rw [det_succ, ← xs_mul, ← xs_skip (n + 1) k (by omega) (fun m => gm (a 0 k) (gm (a 0 m) (det n fun i j => a (i + 2) (avoid k m j))))]
        refine xs_congr fun l hl => ?_
        have e1 : minor a k 0 l = a 0 (skip k l) := (h (skip k l) (skip_lt hl)).symm
        have e2 : minor (minor a k) l = fun i j => a (i + 2) (avoid k (skip k l) j) := by
          funext i j
          show a (i + 1 + 1) (skip k (skip l j)) = _
          rw [skip_skip]
        rw [e1, e2]
      rw [det_succ, xs_congr e]
      refine xs_sym (n + 2) _ (fun i j _ _ => ?_) (fun i _ => if_pos rfl)
      by_cases hij : i = j
      · subst hij; rfl
      · rw [if_neg hij, if_neg (Ne.symm hij), ← gm_assoc, ← gm_assoc, gm_comm (a 0 i)]
        congr 2
        funext r s
        rw [avoid_comm]
/-- Two rows by name. -/
theorem det_pair (n p q : Nat) (hp : p < n) (hq : q < n) (hpq : p ≠ q) (halt : ∀ b : Mx, (∀ k, k < n → b p k = b q k) → det n b = 0#8) (a : Mx) : det n (rswap p q a) = det n a := by
  have two : ∀ (u v : Nat → BitVec 8), det n (setr (setr a p u) q v) = det n (setr (setr a p v) q u) := fun u v => by
    have hz : ∀ w : Nat → BitVec 8, det n (setr (setr a p w) q w) = 0#8 := fun w => halt _ fun k _ => by
      unfold setr
      rw [if_neg hpq, if_pos rfl, if_pos rfl]
    have hc : ∀ w z : Nat → BitVec 8, setr (setr a p w) q z = setr (setr a q z) p w := fun w z => by
      funext i k
      unfold setr
      by_cases h1 : i = p
      · subst h1; rw [if_neg hpq, if_pos rfl]; simp
      · by_cases h2 : i = q
        · subst h2; simp [h1]
        · simp [h1, h2]
    have h0 := hz (fun k => u k ^^^ v k)
    rw [det_add n q hq, hc, det_add n p hp, ← hc, ← hc, hz u, BitVec.zero_xor] at h0
    rw [hc (fun k => u k ^^^ v k) v, det_add n p hp, ← hc, ← hc, hz v, BitVec.xor_zero] at h0
    exact (xor_eq_zero _ _ h0).symm
  have e1 : a = setr (setr a p (a p)) q (a q) := by rw [setr_same, setr_same]
  have e2 : rswap p q a = setr (setr a p (a q)) q (a p) := by
    funext i k
    unfold rswap setr swp
    by_cases h2 : i = q
    · subst h2
      rw [if_neg (Ne.symm hpq), if_pos rfl, if_pos rfl]
    · by_cases h1 : i = p
      · subst h1; rw [if_pos rfl, if_neg h2, if_pos rfl]
      · rw [if_neg h1, if_neg h2, if_neg h2, if_neg h1]
  rw [e2, two, ← e1]
theorem det_alt (n : Nat) (d : Nat) : ∀ (p : Nat) (a : Mx), p + 1 + d < n → (∀ k, k < n → a p k = a (p + 1 + d) k) → det n a = 0#8 := by
  induction d with
  | zero => exact fun p a hp h => det_adj n p hp a h
  | succ d ih =>
    intro p a hp h
    rw [← det_pair n (p + 1 + d) (p + 1 + (d + 1)) (by omega) hp (by omega) (fun b hb => det_adj n (p + 1 + d) hp b hb) a]
    refine ih p _ (by omega) fun k hk => ?_
    show a (swp _ _ p) k = a (swp _ _ (p + 1 + d)) k
    unfold swp
    rw [if_neg (by omega), if_neg (by omega), if_pos rfl]
    exact h k hk
theorem det_equal (n p q : Nat) (hp : p < n) (hq : q < n) (hpq : p ≠ q) (a : Mx) (h : ∀ k, k < n → a p k = a q k) : det n a = 0#8 := by
  rcases Nat.lt_or_gt_of_ne hpq with hl | hl
  · obtain ⟨d, rfl⟩ := Nat.exists_eq_add_of_le (show p + 1 ≤ q from hl)
    exact det_alt n d p a hq h
  · obtain ⟨d, rfl⟩ := Nat.exists_eq_add_of_le (show q + 1 ≤ p from hl)
    exact det_alt n d q a hp fun k hk => (h k hk).symm
theorem det_rswap (n p q : Nat) (hp : p < n) (hq : q < n) (a : Mx) : det n (rswap p q a) = det n a := by
  by_cases h : p = q
  · subst h
    refine det_congr fun i k _ _ => ?_
    show a (swp p p i) k = a i k
    unfold swp
    by_cases e : i = p
    · rw [if_pos e, e]
    · rw [if_neg e, if_neg e]
  · exact det_pair n p q hp hq h (fun b hb => det_equal n p q hp hq h b hb) a
theorem det_rscale (n p : Nat) (hp : p < n) (c : BitVec 8) (a : Mx) : det n (rscale p c a) = gm c (det n a) := by
  have e : rscale p c a = setr a p (fun k => gm c (a p k)) := by
    funext i k
    unfold rscale setr
    by_cases h : i = p
    · subst h; simp
    · simp [h]
  rw [e, det_mul n p hp, setr_same]
theorem det_radd (n p q : Nat) (hp : p < n) (hq : q < n) (hpq : p ≠ q) (c : BitVec 8) (a : Mx) : det n (radd p q c a) = det n a := by
  have e : radd p q c a = setr a q (fun k => a q k ^^^ gm c (a p k)) := by
    funext i k
    unfold radd setr
    by_cases h : i = q
    · subst h; simp
    · simp [h]
  rw [e, det_add n q hq, setr_same, det_mul n q hq, det_equal n p q hp hq hpq (setr a q (a p)) (fun k _ => by unfold setr; rw [if_neg hpq, if_pos rfl]), gm_zr, BitVec.xor_zero]
/-- Steps that multiply the determinant by a number that is not 0. -/
def Steps (n : Nat) (T U : Mx → Mx) : Prop := Rop n T U ∧ ∃ c, c ≠ 0#8 ∧ ∀ a, det n (T a) = gm c (det n a)
theorem Steps.refl (n : Nat) : Steps n (fun X => X) (fun X => X) := ⟨Rop.refl n, 1#8, by decide, fun a => (gm_one _).symm⟩
theorem Steps.trans {n : Nat} {T U T' U' : Mx → Mx} (h : Steps n T U) (g : Steps n T' U') : Steps n (fun X => T' (T X)) (fun X => U (U' X)) := by
  obtain ⟨h1, c, hc, h2⟩ := h
  obtain ⟨g1, d, hd, g2⟩ := g
  exact ⟨h1.trans g1, gm d c, gm_ne d c hd hc, fun a => by rw [g2, h2, gm_assoc]⟩
theorem steps_swap (n p q : Nat) (hp : p < n) (hq : q < n) : Steps n (rswap p q) (rswap p q) := ⟨rop_swap n p q hp hq, 1#8, by decide, fun a => by rw [det_rswap n p q hp hq, gm_one]⟩
theorem steps_scale (n p : Nat) (hp : p < n) (c : BitVec 8) (hc : c ≠ 0#8) : Steps n (rscale p c) (rscale p (gi c)) := ⟨rop_scale n p c hc, c, hc, det_rscale n p hp c⟩
theorem steps_add (n p q : Nat) (hp : p < n) (hq : q < n) (hpq : p ≠ q) (c : BitVec 8) : Steps n (radd p q c) (radd p q c) := ⟨rop_add n p q c hpq hp hq, 1#8, by decide, fun a => by rw [det_radd n p q hp hq hpq, gm_one]⟩
/-! Where the steps end -/
theorem det_id (n : Nat) (a : Mx) (h : ∀ i k, i < n → k < n → a i k = id1 i k) : det n a = 1#8 := by
  induction n generalizing a with
  | zero => rfl
  | succ n ih =>
    rw [det_succ, xs_one (n + 1) 0 (by omega)]
    · rw [h 0 0 (by omega) (by omega), ih (minor a 0)]
      · rfl
      · intro i k hi hk
        show a (i + 1) (skip 0 k) = id1 i k
        rw [show skip 0 k = k + 1 from if_neg (by omega), h _ _ (by omega) (by omega)]
        unfold id1
        by_cases e : i = k
        · rw [if_pos e, if_pos (by omega)]
        · rw [if_neg e, if_neg (by omega)]
    · intro i hi hne
      rw [h 0 i (by omega) hi, id1, if_neg (Ne.symm hne), gm_zl]
theorem det_zero_column (n : Nat) (hn : 0 < n) (a : Mx) (h : ∀ i, i < n → a i 0 = 0#8) : det n a = 0#8 := by
  induction n generalizing a with
  | zero => omega
  | succ n ih =>
    rw [det_succ]
    refine xs_zero' fun k hk => ?_
    by_cases h0 : k = 0
    · subst h0; rw [h 0 (by omega), gm_zl]
    · rw [ih (by omega) (minor a k) (fun i hi => by
        show a (i + 1) (skip k 0) = 0#8
        rw [show skip k 0 = 0 from if_pos (by omega)]
        exact h _ (by omega)), gm_zr]
/-- The first k columns are the unit's, and in the next one there is nothing from row k on. -/
def Stuck (n k : Nat) (a : Mx) : Prop := k < n ∧ (∀ i j, i < n → j < k → a i j = id1 i j) ∧ ∀ i, k ≤ i → i < n → a i k = 0#8
theorem det_stuck (n k : Nat) (a : Mx) (h : Stuck n k a) : det n a = 0#8 := by
  induction k generalizing n a with
  | zero => exact det_zero_column n h.1 a fun i hi => h.2.2 i (by omega) hi
  | succ k ih =>
    obtain ⟨hk, hu, hz⟩ := h
    obtain ⟨n, rfl⟩ := Nat.exists_eq_succ_of_ne_zero (show n ≠ 0 by omega)
    rw [det_succ]
    refine xs_zero' fun c hc => ?_
    by_cases h0 : c = 0
    · subst h0
      rw [ih n (minor a 0) ⟨by omega, fun i j hi hj => ?_, fun i hi hin => ?_⟩, gm_zr]
      · show a (i + 1) (skip 0 j) = id1 i j
        rw [show skip 0 j = j + 1 from if_neg (by omega), hu _ _ (by omega) (by omega)]
        unfold id1
        by_cases e : i = j
        · rw [if_pos e, if_pos (by omega)]
        · rw [if_neg e, if_neg (by omega)]
      · show a (i + 1) (skip 0 k) = 0#8
        rw [show skip 0 k = k + 1 from if_neg (by omega)]
        exact hz _ (by omega) (by omega)
    · rw [det_zero_column n (by omega) (minor a c) (fun i hi => by
        show a (i + 1) (skip c 0) = 0#8
        rw [show skip c 0 = 0 from if_pos (by omega), hu _ _ (by omega) (by omega), id1, if_neg (by omega)]), gm_zr]
/-- Steps that end in the unit: the determinant is not 0; steps that are stuck: it is 0, and some numbers, not all 0, are taken to nothing. -/
theorem Steps.unit {n : Nat} {T U : Mx → Mx} (h : Steps n T U) (a : Mx) (ha : ∀ i k, i < n → k < n → T a i k = id1 i k) : det n a ≠ 0#8 := by
  obtain ⟨_, c, _, h2⟩ := h
  intro e
  have := h2 a
  rw [det_id n _ ha, e, gm_zr] at this
  exact absurd this (by decide)
theorem Steps.stuck {n k : Nat} {T U : Mx → Mx} (h : Steps n T U) (a : Mx) (ha : Stuck n k (T a)) : det n a = 0#8 := by
  obtain ⟨_, c, hc, h2⟩ := h
  have := h2 a
  rw [det_stuck n k _ ha] at this
  exact gm_eq_zero c _ hc this.symm
theorem Steps.kernel {n k : Nat} {T U : Mx → Mx} (h : Steps n T U) (a : Mx) (ha : Stuck n k (T a)) :
    ∃ v : Nat → BitVec 8, v k = 1#8 ∧ ∀ i, i < n → xs n (fun j => gm (a i j) (v j)) = 0#8 := by
  obtain ⟨hr, _⟩ := h
  obtain ⟨hk, hu, hz⟩ := ha
  refine ⟨fun j => if j < k then T a j k else if j = k then 1#8 else 0#8, by simp, fun i hi => ?_⟩
  have key : ∀ i, i < n → mm n (T a) (fun j _ => if j < k then T a j k else if j = k then 1#8 else 0#8) i 0 = 0#8 := fun i hi => by
    have e : ∀ j, j < n → gm (T a i j) (if j < k then T a j k else if j = k then 1#8 else 0#8) = (if j = i then (if i < k then T a i k else 0#8) else 0#8) ^^^ (if j = k then T a i k else 0#8) := fun j hj => by
      by_cases h1 : j < k
      · rw [if_pos h1, hu i j hi h1, if_neg (show ¬ j = k by omega), BitVec.xor_zero, id1]
        by_cases h2 : j = i
        · subst h2; rw [if_pos rfl, if_pos rfl, if_pos h1, gm_one]
        · rw [if_neg (Ne.symm h2), if_neg h2, gm_zl]
      · rw [if_neg h1]
        have hz0 : (if j = i then (if i < k then T a i k else 0#8) else 0#8) = 0#8 := by
          by_cases h2 : j = i
          · rw [if_pos h2, if_neg (by omega)]
          · rw [if_neg h2]
        rw [hz0, BitVec.zero_xor]
        by_cases h3 : j = k
        · subst h3; rw [if_pos rfl, if_pos rfl, gm_one_r]
        · rw [if_neg h3, if_neg h3, gm_zr]
    unfold mm
    rw [xs_congr e, xs_add, xs_one n i hi _ (fun j _ hj => if_neg hj), xs_one n k hk _ (fun j _ hj => if_neg hj), if_pos rfl, if_pos rfl]
    by_cases h1 : i < k
    · rw [if_pos h1, xor_self']
    · rw [if_neg h1, BitVec.zero_xor]
      exact hz i (by omega) hi
  have h1 := hr.congr' (mm n (T a) (fun j _ => if j < k then T a j k else if j = k then 1#8 else 0#8)) (fun _ _ => 0#8) 0 key i hi
  have h2 : mm n (U (T a)) (fun j _ => if j < k then T a j k else if j = k then 1#8 else 0#8) i 0 = U (mm n (T a) (fun j _ => if j < k then T a j k else if j = k then 1#8 else 0#8)) i 0 := hr.left' n (T a) _ i 0
  rw [funext2 (hr.back a)] at h2
  have h3 : U (fun _ _ => 0#8) i 0 = 0#8 := by
    have := hr.left' 0 (fun _ _ => 0#8) (fun _ _ => 0#8) i 0
    exact this.symm
  show mm n a (fun j _ => if j < k then T a j k else if j = k then 1#8 else 0#8) i 0 = 0#8
  rw [h2, h1, h3]
/-! Cauchy -/
theorem gi_mul (a b : BitVec 8) (ha : a ≠ 0#8) (hb : b ≠ 0#8) : gi (gm a b) = gm (gi a) (gi b) := by
  refine (gi_of (gm a b) _ (gm_ne a b ha hb) ?_).symm
  have : gm (gm a b) (gm (gi a) (gi b)) = gm (gm a (gi a)) (gm b (gi b)) := by
    rw [gm_assoc, ← gm_assoc b, gm_comm b (gi a), gm_assoc (gi a), ← gm_assoc]
  rw [this, gm_gi a ha, gm_gi b hb, gm_one]
/-- Two fractions with numerator 1 added. -/
theorem gi_add (a b : BitVec 8) (ha : a ≠ 0#8) (hb : b ≠ 0#8) : gi a ^^^ gi b = gm (a ^^^ b) (gm (gi a) (gi b)) := by
  rw [gm_xor_l, ← gm_assoc a, gm_gi a ha, gm_one, gm_comm (gi a), ← gm_assoc b, gm_gi b hb, gm_one, BitVec.xor_comm]
theorem xor_ne (x y : BitVec 8) (h : x ≠ y) : x ^^^ y ≠ 0#8 := fun e => h (xor_eq_zero x y e)
/-- A Cauchy matrix of different numbers takes nothing but nothing to nothing. -/
theorem cauchy_kernel (n : Nat) (x y : Nat → BitVec 8) (hx : ∀ i j, i < n → j < n → i ≠ j → x i ≠ x j) (hy : ∀ i j, i < n → j < n → i ≠ j → y i ≠ y j) (hxy : ∀ i j, i < n → j < n → x i ≠ y j)
    (v : Nat → BitVec 8) (h : ∀ i, i < n → xs n (fun j => gm (gi (x i ^^^ y j)) (v j)) = 0#8) : ∀ j, j < n → v j = 0#8 := by
  induction n generalizing v with
  | zero => intro j hj; omega
  | succ n ih =>
    have hs : ∀ i, i < n + 1 → xs n (fun j => gm (gi (x i ^^^ y j)) (gm (y n ^^^ y j) (v j))) = xs (n + 1) v := fun i hi => by
      have h0 := h i hi
      have h1 : gm (x i ^^^ y n) (xs (n + 1) (fun j => gm (gi (x i ^^^ y j)) (v j))) = 0#8 := by rw [h0, gm_zr]
      rw [← xs_mul] at h1
      have hn := xor_ne _ _ (hxy i n hi (by omega))
      have e : ∀ j, j < n → gm (x i ^^^ y n) (gm (gi (x i ^^^ y j)) (v j)) = v j ^^^ gm (gi (x i ^^^ y j)) (gm (y n ^^^ y j) (v j)) := fun j hj => by
        have hj0 := xor_ne _ _ (hxy i j hi (by omega))
        have e1 : x i ^^^ y n = (x i ^^^ y j) ^^^ (y n ^^^ y j) := by
          rw [show (x i ^^^ y j) ^^^ (y n ^^^ y j) = (x i ^^^ y n) ^^^ (y j ^^^ y j) by ac_rfl, xor_self', BitVec.xor_zero]
        rw [e1, gm_xor_l, ← gm_assoc, gm_gi _ hj0, gm_one, ← gm_assoc, gm_comm (y n ^^^ y j), gm_assoc]
      have h2 : xs (n + 1) (fun j => gm (x i ^^^ y n) (gm (gi (x i ^^^ y j)) (v j))) = xs n (fun j => gm (x i ^^^ y n) (gm (gi (x i ^^^ y j)) (v j))) ^^^ gm (x i ^^^ y n) (gm (gi (x i ^^^ y n)) (v n)) := rfl
      rw [h2, xs_congr e, xs_add, ← gm_assoc, gm_gi _ hn, gm_one] at h1
      refine (xor_eq_zero _ _ ?_).symm
      rw [← h1]
      show (xs n v ^^^ v n) ^^^ _ = _
      ac_rfl
    have hv : ∀ j, j < n → v j = 0#8 := fun j hj => by
      have hw := ih (fun i j hi hj => hx i j (by omega) (by omega)) (fun i j hi hj => hy i j (by omega) (by omega)) (fun i j hi hj => hxy i j (by omega) (by omega))
        (fun j => gm (gi (x n ^^^ y j)) (gm (y n ^^^ y j) (v j))) (fun i hi => by
          have hxn := xor_ne _ _ (hx i n (by omega) (by omega) (by omega))
          refine gm_eq_zero _ _ hxn ?_
          rw [← xs_mul]
          have e : ∀ j, j < n → gm (x i ^^^ x n) (gm (gi (x i ^^^ y j)) (gm (gi (x n ^^^ y j)) (gm (y n ^^^ y j) (v j)))) = gm (gi (x i ^^^ y j)) (gm (y n ^^^ y j) (v j)) ^^^ gm (gi (x n ^^^ y j)) (gm (y n ^^^ y j) (v j)) := fun j hj => by
            have a1 := xor_ne _ _ (hxy i j (by omega) (by omega))
            have a2 := xor_ne _ _ (hxy n j (by omega) (by omega))
            have e1 : x i ^^^ x n = (x i ^^^ y j) ^^^ (x n ^^^ y j) := by
              rw [show (x i ^^^ y j) ^^^ (x n ^^^ y j) = (x i ^^^ x n) ^^^ (y j ^^^ y j) by ac_rfl, xor_self', BitVec.xor_zero]
            rw [← gm_assoc (gi (x i ^^^ y j)), ← gm_assoc, e1, ← gi_add _ _ a1 a2, gm_xor_l]
          rw [xs_congr e, xs_add, hs i (by omega), hs n (by omega), xor_self'])
        j hj
      have a2 := xor_ne _ _ (hxy n j (by omega) (by omega))
      have a3 := xor_ne _ _ (hy n j (by omega) (by omega) (by omega))
      exact gm_eq_zero _ _ a3 (gm_eq_zero _ _ (gi_ne _) hw)
    intro j hj
    rcases Nat.lt_or_ge j n with hl | hl
    · exact hv j hl
    · obtain rfl : j = n := by omega
      have h0 := h 0 (by omega)
      have h1 : xs (j + 1) (fun l => gm (gi (x 0 ^^^ y l)) (v l)) = gm (gi (x 0 ^^^ y j)) (v j) := by
        show xs j _ ^^^ _ = _
        rw [xs_zero' fun l hl => by rw [hv l hl, gm_zr], BitVec.zero_xor]
      rw [h1] at h0
      exact gm_eq_zero _ _ (gi_ne _) h0
end Go.Proofs.Ytphpliclecmnlaa
/- A matrix that the call makes: a block of headers, a block for each row. -/
namespace Go.Proofs.Ytphpliclecmnlaa
open Go Go.RowKit

/-- Headers: the first k rows are made, the others nil. -/
def hdr (k m : Nat) (D : Nat → Nat) (i : Nat) : Value := if i < k then .slice (some ⟨D i, 0, none⟩) m m else .slice none 0 0
/-- Block G holds the headers of n rows, of which k are made: row i lies in block D i and holds m numbers of a. -/
structure Mp (w : World) (N G n k m : Nat) (D : Nat → Nat) (a : Mx) : Prop where
  hds : Row w G 38 n (hdr k m D)
  row : ∀ i, i < k → Row w (D i) 5 m (fun j => B (a i j))
  inj : ∀ i j, i < k → j < k → i ≠ j → D i ≠ D j
  ne : ∀ i, i < k → D i ≠ G
  lo : ∀ i, i < k → N ≤ D i
  loG : N ≤ G
/-- A matrix as rows. -/
def rowL (m : Nat) (a : Mx) (i : Nat) : List (BitVec 8) := (List.range m).map (a i)
def rowsL (n m : Nat) (a : Mx) : List (List (BitVec 8)) := (List.range n).map (rowL m a)
theorem rowL_length (m : Nat) (a : Mx) (i : Nat) : (rowL m a i).length = m := by simp [rowL]
theorem rowL_get (m : Nat) (a : Mx) (i j : Nat) (h : j < m) : (rowL m a i).getD j 0#8 = a i j := by simp [rowL, List.getD_eq_getElem?_getD, h]
theorem rowsL_length (n m : Nat) (a : Mx) : (rowsL n m a).length = n := by simp [rowsL]
theorem rowsL_get (n m : Nat) (a : Mx) (i : Nat) (h : i < n) : (rowsL n m a).getD i [] = rowL m a i := by simp [rowsL, List.getD_eq_getElem?_getD, h]
theorem rowsL_mx (n m : Nat) (a : Mx) (i j : Nat) (h : i < n) (k : j < m) : mx (rowsL n m a) i j = a i j := by unfold mx; rw [rowsL_get _ _ _ _ h, rowL_get _ _ _ _ k]
theorem rowsL_len (n m : Nat) (a : Mx) (i : Nat) (h : i < n) : ((rowsL n m a).getD i []).length = m := by rw [rowsL_get _ _ _ _ h, rowL_length]
theorem rowL_congr {m : Nat} {a b : Mx} {i : Nat} (h : ∀ j, j < m → a i j = b i j) : rowL m a i = rowL m b i := by
  unfold rowL; apply List.map_congr_left; intro j hj; exact h j (by simpa using hj)
theorem rowsL_congr {n m : Nat} {a b : Mx} (h : ∀ i j, i < n → j < m → a i j = b i j) : rowsL n m a = rowsL n m b := by
  unfold rowsL; apply List.map_congr_left; intro i hi; exact rowL_congr fun j hj => h i j (by simpa using hi) hj
def setD (D : Nat → Nat) (i E : Nat) : Nat → Nat := fun j => if j = i then E else D j
section
variable {w w' : World} {N G n k m : Nat} {D : Nat → Nat} {a b : Mx}
theorem Mp.ltG (h : Mp w N G n k m D a) : G < w.heap.size := h.hds.lt
theorem Mp.lt (h : Mp w N G n k m D a) (i : Nat) (hi : i < k) : D i < w.heap.size := (h.row i hi).lt
theorem Mp.of_below (h : Mp w N G n k m D a) (g : Below w.heap.size w w') : Mp w' N G n k m D a :=
  ⟨h.hds.of_below g, fun i hi => (h.row i hi).of_below g, h.inj, h.ne, h.lo, h.loG⟩
theorem Mp.dr (h : Mp w N G n k m D a) (g : Dr w w') : Mp w' N G n k m D a := by
  obtain ⟨M, rfl⟩ := g
  exact ⟨h.hds, h.row, h.inj, h.ne, h.lo, h.loG⟩
theorem Mp.drewN (h : Mp w N G n k m D a) (q : Nat) : Mp (w.drewN q) N G n k m D a := h.dr ((Dr.refl _).drewN q)
theorem Mp.congr (h : Mp w N G n k m D a) (e : ∀ i j, i < k → j < m → a i j = b i j) : Mp w N G n k m D b :=
  ⟨h.hds, fun i hi => (h.row i hi).congr fun j hj => by rw [e i j hi hj], h.inj, h.ne, h.lo, h.loG⟩
theorem Mp.cellH (h : Mp w N G n k m D a) (i : Nat) (hi : i < k) (hn : i < n) : w.cell? ⟨G, i, none⟩ = some (.slice (some ⟨D i, 0, none⟩) m m) := by
  rw [h.hds.cell i hn, hdr, if_pos hi]
theorem Mp.free (h : Mp w N G n k m D a) (i : Nat) : w.frozen? ⟨G, i, none⟩ = false := h.hds.free i
theorem Mp.cell (h : Mp w N G n k m D a) (i j : Nat) (hi : i < k) (hj : j < m) : w.cell? ⟨D i, j, none⟩ = some (B (a i j)) := (h.row i hi).cell j hj
theorem Mp.sl (h : Mp w N G n k m D a) (i : Nat) (hi : i < k) : Sl w (some ⟨D i, 0, none⟩) (rowL m a i) :=
  Sl.row (h.row i hi) (by rw [rowL_length]; exact Nat.le_refl _) fun j hj => by rw [rowL_length] at hj; rw [rowL_get _ _ _ _ hj]
theorem Mp.prt (h : Mp w N G n n m D a) : Prt w (some ⟨G, 0, none⟩) (rowsL n m a) := fun i hi => by
  rw [rowsL_length] at hi
  rw [rowsL_get _ _ _ _ hi]
  refine ⟨G, 0, some ⟨D i, 0, none⟩, m, rfl, ?_, h.sl i hi, (fun e => by cases e), by rw [rowL_length]; exact Nat.le_refl _⟩
  rw [Nat.zero_add, h.cellH i hi hi, rowL_length]
/-- No row is made. -/
theorem Mp.zero (h : Row w G 38 n (fun _ => .slice none 0 0)) (hN : N ≤ G) : Mp w N G n 0 m D a :=
  ⟨h.congr fun i _ => by rw [hdr, if_neg (by omega)], fun i hi => by omega, fun i j hi => by omega, fun i hi => by omega, fun i hi => by omega, hN⟩
/-- Another header at i, of a row that lies in block E. -/
theorem Mp.put (h : Mp w N G n k m D a) (i E : Nat) (r : Nat → BitVec 8) (hr : Row w E 5 m (fun j => B (r j))) (k' : Nat) (hk' : k' = k ∧ i < k ∨ k' = k + 1 ∧ i = k) (hE : ∀ j, j < k → j ≠ i → D j ≠ E) (hG : E ≠ G) (hN : N ≤ E) :
    Mp (w.setCell ⟨G, i, none⟩ (.slice (some ⟨E, 0, none⟩) m m)) N G n k' m (setD D i E) (setr a i r) := by
  have keep : ∀ b, b ≠ G → (w.setCell ⟨G, i, none⟩ (.slice (some ⟨E, 0, none⟩) m m)).heap[b]? = w.heap[b]? := fun b hb => Below.heap_setCell _ _ _ _ hb
  refine ⟨(h.hds.set i _).congr fun j hj => ?_, fun j hj => ?_, fun p q hp hq hpq => ?_, fun j hj => ?_, fun j hj => ?_, h.loG⟩
  · unfold hdr setD
    by_cases e : j = i
    · subst e; rw [if_pos rfl, if_pos (by omega), if_pos rfl]
    · rw [if_neg e]
      by_cases e2 : j < k
      · rw [if_pos e2, if_pos (by omega), if_neg e]
      · rw [if_neg e2, if_neg (by omega)]
  · by_cases e : j = i
    · subst e
      have e1 : setD D j E j = E := if_pos rfl
      rw [e1]
      exact (hr.of_block (keep E hG)).congr fun x _ => by rw [setr, if_pos rfl]
    · have e1 : setD D i E j = D j := if_neg e
      rw [e1]
      exact ((h.row j (by omega)).of_block (keep _ (h.ne j (by omega)))).congr fun x _ => by rw [setr, if_neg e]
  · unfold setD
    by_cases e1 : p = i
    · rw [if_pos e1, if_neg (by omega)]; exact (hE q (by omega) (by omega)).symm
    · rw [if_neg e1]
      by_cases e2 : q = i
      · rw [if_pos e2]; exact hE p (by omega) e1
      · rw [if_neg e2]; exact h.inj p q (by omega) (by omega) hpq
  · unfold setD
    by_cases e : j = i
    · rw [if_pos e]; exact hG
    · rw [if_neg e]; exact h.ne j (by omega)
  · unfold setD
    by_cases e : j = i
    · rw [if_pos e]; exact hN
    · rw [if_neg e]; exact h.lo j (by omega)
/-- One row has other numbers. -/
theorem Mp.alter (h : Mp w N G n k m D a) (i : Nat) (hi : i < k) (r : Nat → BitVec 8) (hk : Kp (D i) w w') (hr : Row w' (D i) 5 m (fun j => B (r j))) : Mp w' N G n k m D (setr a i r) := by
  refine ⟨h.hds.of_kp hk (Ne.symm (h.ne i hi)), fun j hj => ?_, h.inj, h.ne, h.lo, h.loG⟩
  by_cases e : j = i
  · subst e
    exact hr.congr fun x _ => by rw [setr, if_pos rfl]
  · exact ((h.row j hj).of_kp hk (h.inj j i hj hi e)).congr fun x _ => by rw [setr, if_neg e]
/-- Two headers exchanged. -/
theorem Mp.swap (h : Mp w N G n k m D a) (p q : Nat) (hp : p < k) (hq : q < k) :
    Mp ((w.setCell ⟨G, p, none⟩ (.slice (some ⟨D q, 0, none⟩) m m)).setCell ⟨G, q, none⟩ (.slice (some ⟨D p, 0, none⟩) m m)) N G n k m (fun i => D (swp p q i)) (rswap p q a) := by
  have keep : ∀ b, b ≠ G → ((w.setCell ⟨G, p, none⟩ (.slice (some ⟨D q, 0, none⟩) m m)).setCell ⟨G, q, none⟩ (.slice (some ⟨D p, 0, none⟩) m m)).heap[b]? = w.heap[b]? := fun b hb => by
    rw [Below.heap_setCell _ _ _ _ hb, Below.heap_setCell _ _ _ _ hb]
  have hs : ∀ i, i < k → swp p q i < k := fun i hi => by unfold swp; split; exact hq; split; exact hp; exact hi
  refine ⟨((h.hds.set p _).set q _).congr fun j hj => ?_, fun j hj => ?_, fun x y hx hy hxy => ?_, fun j hj => h.ne _ (hs j hj), fun j hj => h.lo _ (hs j hj), h.loG⟩
  · unfold hdr swp
    by_cases e1 : j = p
    · subst e1
      by_cases e2 : j = q
      · subst e2; simp [hp]
      · simp [e2, hp]
    · by_cases e2 : j = q
      · subst e2; simp [e1, hq]
      · simp [e1, e2]
  · exact (h.row _ (hs j hj)).of_block (keep _ (h.ne _ (hs j hj)))
  · refine h.inj _ _ (hs x hx) (hs y hy) fun e => hxy ?_
    have := congrArg (swp p q) e
    rwa [swp_swp, swp_swp] at this
end
theorem run_make_rows (t : TypeId) (h : Try.prog.underlying t = some (.slice 38)) (n : Nat) (w : World) (hn : n < 100000000) : (mkT t (.int .i64 (n : Int)) (.int .i64 (n : Int))).run Try.prog w = .ok (.value (.slice (some ⟨w.heap.size, 0, none⟩) n n)) (w.alloc (.cells (tab n (fun _ => .slice none 0 0)) 38)) := by
  have hi := infoB
  cases hq : Try.prog.info? 38 with
  | none => simp [hq] at hi
  | some i =>
    rw [hq] at hi
    simp only [Option.map_some, Option.some.injEq, Prod.mk.injEq] at hi
    obtain ⟨h1, h2, h3⟩ := hi
    have := run_make (P := Try.prog) w t 38 i (.slice none 0 0) h hq h1 .i64 .i64 n n (by omega) (Int.le_refl _) (by rw [h3]; omega) (by omega)
    rw [h2] at this
    simp only [Int.toNat_natCast, Nat.mul_one] at this
    simp only [mkT, Sem.run_bind, this, Result.andThen_ok, Sem.run_pure]
    congr 2
    rw [tab_const]
    congr 1
    apply Array.ext_getElem?
    intro j
    by_cases hj : j < n <;> simp [madeCells, Value.cells, hj, Nat.mod_one]
theorem mkR (n : Nat) (w : World) (hn : n < 100000000) : (mkT 23 (.int .i64 (n : Int)) (.int .i64 (n : Int))).run Try.prog w = .ok (.value (.slice (some ⟨w.heap.size, 0, none⟩) n n)) (w.alloc (.cells (tab n (fun _ => .slice none 0 0)) 38)) :=
  run_make_rows _ undRows n w hn
theorem mkM (n : Nat) (w : World) (hn : n < 100000000) : (mkT 50 (.int .i64 (n : Int)) (.int .i64 (n : Int))).run Try.prog w = .ok (.value (.slice (some ⟨w.heap.size, 0, none⟩) n n)) (w.alloc (.cells (tab n (fun _ => .slice none 0 0)) 38)) :=
  run_make_rows _ (by kernel_rfl) n w hn
theorem st_H (a : Addr) (q : Option Addr) (n c : Nat) (w : World) (hcell : (w.cell? a).isSome = true) (hf : w.frozen? a = false) : (stT 38 (.pointer (some a)) (.slice q n c)).run Try.prog w = .ok .skip (w.setCell a (.slice q n c)) :=
  stT_one 38 a _ w rfl rfl (by kernel_rfl) hcell hf
end Go.Proofs.Ytphpliclecmnlaa
/- What a matrix is; matrices that are returned. -/
namespace Go.Proofs.Ytphpliclecmnlaa
open Go Go.RowKit

/-- A matrix: 1 to 64 rows, all of one length from 1 to 64. -/
def goodB (ls : List (List (BitVec 8))) : Bool := decide (1 ≤ ls.length ∧ ls.length ≤ 64 ∧ 1 ≤ (ls.getD 0 []).length ∧ (ls.getD 0 []).length ≤ 64 ∧ ∀ i, i < ls.length → (ls.getD i []).length = (ls.getD 0 []).length)
/-- A matrix of the call's own and OK are returned; nothing that was there has changed. -/
def RetOk (N : Nat) (w : World) (n m : Nat) (a : Mx) (e : Ending) (w' : World) : Prop :=
  ∃ G D, e = .returned (.tuple #[.slice (some ⟨G, 0, none⟩) n n, .int .i64 0]) ∧ Mp w' N G n n m D a ∧ Below N w w'
/-- Nothing and an error are returned. -/
def RetNo (N : Nat) (w : World) (t : Int) (e : Ending) (w' : World) : Prop := e = .returned (.tuple #[.slice none 0 0, .int .i64 t]) ∧ Below N w w'
theorem Prt.head {w : World} {p : Option Addr} {ls : List (List (BitVec 8))} (h : Prt w p ls) (h0 : 0 < ls.length) : ∃ c o q cap, p = some ⟨c, o, none⟩ ∧ c < w.heap.size ∧ w.cell? ⟨c, o, none⟩ = some (.slice q (ls.getD 0 []).length cap) := by
  obtain ⟨c, o, q, cap, h1, h2, h3, -, -⟩ := h.at_ 0 h0
  exact ⟨c, o, q, cap, h1, h2, by rwa [Nat.add_zero] at h3⟩
structure Good (ls : List (List (BitVec 8))) (n m : Nat) : Prop where
  len : ls.length = n
  lo : 1 ≤ n
  hi : n ≤ 64
  mlo : 1 ≤ m
  mhi : m ≤ 64
  rows : ∀ i, i < n → (ls.getD i []).length = m
theorem Good.of {ls : List (List (BitVec 8))} (h : goodB ls = true) : Good ls ls.length (ls.getD 0 []).length := by
  obtain ⟨h1, h2, h3, h4, h5⟩ := of_decide_eq_true h
  exact ⟨rfl, h1, h2, h3, h4, h5⟩
theorem Good.true_ {ls : List (List (BitVec 8))} {n m : Nat} (h : Good ls n m) : goodB ls = true := by
  obtain ⟨rfl, h1, h2, h3, h4, h5⟩ := h
  have h0 := h5 0 (by omega)
  exact decide_eq_true ⟨h1, h2, by omega, by omega, fun i hi => by rw [h5 i hi, h0]⟩
theorem Good.head {ls : List (List (BitVec 8))} {n m : Nat} (h : Good ls n m) : (ls.getD 0 []).length = m := h.rows 0 (by have := h.lo; omega)
theorem Good.mats {n m : Nat} (a : Mx) (h1 : 1 ≤ n) (h2 : n ≤ 64) (h3 : 1 ≤ m) (h4 : m ≤ 64) : Good (rowsL n m a) n m := ⟨rowsL_length _ _ _, h1, h2, h3, h4, fun i hi => rowsL_len _ _ _ _ hi⟩
end Go.Proofs.Ytphpliclecmnlaa
/- How many rows may there be. -/
namespace Go.Proofs.Ytphpliclecmnlaa
open Go Go.RowKit

def permB (x : Int) : Bool := decide (1 ≤ x ∧ x ≤ 64)
set_option maxHeartbeats 1000000 in
theorem permitted_any (x : Int) (w : World) : Calls Try.prog 39 #[.int .i64 x] w fun e w' => e = .returned (.bool (permB x)) ∧ w = w' := by
  by_cases h1 : 1 ≤ x
  · have hd1 : decide ((1 : Int) ≤ x) = true := decide_eq_true h1
    have hf : Hid (permB x = decide (x ≤ 64)) := by
      show permB x = _
      unfold permB
      rw [decide_eq_decide]; exact ⟨fun h => h.2, fun h => ⟨h1, h⟩⟩
    clear h1
    go_enter Try.func39, Try.ntmps39
    go_wp2
    go_ret
    exact ⟨by rw [hf.out]; rfl, rfl⟩
  · have hd1 : decide ((1 : Int) ≤ x) = false := decide_eq_false h1
    have hf : Hid (permB x = false) := decide_eq_false fun h => h1 h.1
    clear h1
    go_enter Try.func39, Try.ntmps39
    go_wp2
    go_ret
    exact ⟨by rw [hf.out]; rfl, rfl⟩
end Go.Proofs.Ytphpliclecmnlaa
