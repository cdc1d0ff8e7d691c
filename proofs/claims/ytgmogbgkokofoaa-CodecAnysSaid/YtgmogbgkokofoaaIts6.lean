/- Lists of items in memory. -/
import Derived.Test.YtgmogbgkokofoaaCode6
import Derived.Deep.AppendLies
import Derived.Lib.MinMax
set_option linter.unusedSimpArgs false
set_option linter.unusedVariables false
namespace Go.Proofs.Ytgmogbgkokofoaa
open Go Go.RowKit

theorem Sl.blk' {w : World} {p : Option Addr} {l : List (BitVec 8)} (h : Sl w p l) (hl : 0 < l.length) : ∀ c o, p = some ⟨c, o, none⟩ → c < w.heap.size := fun c o e => by
  obtain ⟨c', o', e', hc⟩ := h 0 hl
  rw [e] at e'
  injection e' with e'
  injection e' with e1 e2
  subst e1
  exact World.block_lt_of_cell? w _ hc
/-- An item as it comes in. -/
structure Rw where
  k : Int
  n : Int
  b : List (BitVec 8)
def It.raw (x : It) : Rw := ⟨x.k, x.n, x.b⟩
def rw0 : Rw := ⟨0, 0, []⟩
/-- The item's bytes lie at q. -/
structure Bt (w : World) (x : Rw) (q : Option Addr) (c : Nat) : Prop where
  sl : Sl w q x.b
  nil : q = none → c = 0
  le : x.b.length ≤ c
def ItAt (w : World) (c o : Nat) (x : Rw) : Prop := ∃ q cap, w.cell? ⟨c, o, none⟩ = some (.int .i64 x.k) ∧ w.cell? ⟨c, o + 1, none⟩ = some (.int .i64 x.n) ∧ w.cell? ⟨c, o + 2, none⟩ = some (.slice q x.b.length cap) ∧ Bt w x q cap
/-- Items lie where a slice of their number begins. -/
def Its (w : World) (p : Option Addr) (xs : List Rw) : Prop := ∀ i, i < xs.length → ∃ c o, p = some ⟨c, o, none⟩ ∧ c < w.heap.size ∧ ItAt w c (o + i * 3) (xs.getD i rw0)
section
variable {w w' : World} {p q : Option Addr} {xs : List Rw} {x : Rw} {c o : Nat}
theorem Bt.of_below (h : Bt w x q c) (k : Below w.heap.size w w') : Bt w' x q c := ⟨h.sl.of_below k, h.nil, h.le⟩
theorem ItAt.of_below (h : ItAt w c o x) (hc : c < w.heap.size) (k : Below w.heap.size w w') : ItAt w' c o x := by
  obtain ⟨q, cap, h1, h2, h3, h4⟩ := h
  exact ⟨q, cap, by rw [k.cell (by exact hc)]; exact h1, by rw [k.cell (by exact hc)]; exact h2, by rw [k.cell (by exact hc)]; exact h3, h4.of_below k⟩
theorem Its.of_below (h : Its w p xs) (k : Below w.heap.size w w') : Its w' p xs := fun i hi => by
  obtain ⟨c, o, e, hc, ha⟩ := h i hi
  exact ⟨c, o, e, Nat.lt_of_lt_of_le hc k.size, ha.of_below hc k⟩
theorem Its.nil (w : World) (p : Option Addr) : Its w p [] := fun i hi => absurd hi (by simp)
theorem Its.take (h : Its w p xs) (k : Nat) : Its w p (xs.take k) := fun i hi => by
  have hi' : i < k ∧ i < xs.length := by simp [List.length_take] at hi; omega
  obtain ⟨c, o, e, hc, ha⟩ := h i hi'.2
  exact ⟨c, o, e, hc, by simpa [List.getD_eq_getElem?_getD, hi'.1] using ha⟩
end
theorem infoI : (Try.prog.info? 29).map (fun i => (i.zero, i.size, i.bytes)) = some (some (.agg #[.int .i64 0, .int .i64 0, .slice none 0 0]), 3, 40) := by kernel_rfl
theorem undI : Try.prog.underlying 22 = some (.slice 29) := by kernel_rfl
/-- The slice v, among the blocks from base on, holds the items xs; their bytes lie elsewhere. -/
def OwnI (w : World) (base : Nat) (v : Value) (xs : List Rw) : Prop := ∃ cs : List Value, w.ownsRow base 29 3 v xs.length cs ∧ ∀ i, i < xs.length → ∃ q c, cs[i * 3]? = some (.int .i64 (xs.getD i rw0).k) ∧ cs[i * 3 + 1]? = some (.int .i64 (xs.getD i rw0).n) ∧ cs[i * 3 + 2]? = some (.slice q (xs.getD i rw0).b.length c) ∧ Bt w (xs.getD i rw0) q c ∧ (0 < (xs.getD i rw0).b.length → ∀ d o, q = some ⟨d, o, none⟩ → base ≤ d ∧ v.ownBlock ≠ some d)
section
variable {w w' : World} {base : Nat} {v : Value} {xs : List Rw}
theorem OwnI.nil (w : World) (base : Nat) : OwnI w base (.slice none 0 0) [] := ⟨[], World.ownsRow_nil w base _ 3, fun i hi => absurd hi (by simp)⟩
theorem OwnI.lt (h : OwnI w base v xs) : ∀ k, v.ownBlock = some k → base ≤ k ∧ k < w.heap.size := by
  obtain ⟨cs, h1, -⟩ := h
  exact World.ownsRow.lt h1
theorem ownsRow_keep {e : TypeId} {size n : Nat} {cs : List Value} (h : w.ownsRow base e size v n cs) (hb : ∀ k, v.ownBlock = some k → w'.heap[k]? = w.heap[k]?) : w'.ownsRow base e size v n cs := by
  refine ⟨h.1, ?_⟩
  rcases h.2 with h' | ⟨g, cap, cur, hv, h1, hg, r⟩
  · exact .inl h'
  · exact .inr ⟨g, cap, cur, hv, h1, by rw [hb g (by rw [hv]; rfl)]; exact hg, r⟩
theorem OwnI.of_below (h : OwnI w base v xs) (k : Below w.heap.size w w') : OwnI w' base v xs := by
  have hlt := h.lt
  obtain ⟨cs, h1, h2⟩ := h
  refine ⟨cs, ownsRow_keep h1 fun g hg => k.block g (hlt g hg).2, fun i hi => ?_⟩
  obtain ⟨q, c, e1, e2, e3, hb, hd⟩ := h2 i hi
  exact ⟨q, c, e1, e2, e3, hb.of_below k, hd⟩
theorem OwnI.lower (h : OwnI w base v xs) {b2 : Nat} (hb : b2 ≤ base) : OwnI w b2 v xs := by
  obtain ⟨cs, ⟨h0, h1⟩, h2⟩ := h
  refine ⟨cs, ⟨h0, ?_⟩, fun i hi => by obtain ⟨q, c, e1, e2, e3, e4, e5⟩ := h2 i hi; exact ⟨q, c, e1, e2, e3, e4, fun hl d o e => ⟨Nat.le_trans hb (e5 hl d o e).1, (e5 hl d o e).2⟩⟩⟩
  rcases h1 with h' | ⟨g, cap, cur, hv, h1, r⟩
  · exact .inl h'
  · exact .inr ⟨g, cap, cur, hv, by omega, r⟩
theorem OwnI.keep (h : OwnI w base v xs) (hs : w.heap.size ≤ w'.heap.size) (k : ∀ d, base ≤ d → d < w.heap.size → w'.heap[d]? = w.heap[d]?) : OwnI w' base v xs := by
  have hlt := h.lt
  obtain ⟨cs, h1, h2⟩ := h
  refine ⟨cs, ownsRow_keep h1 fun g hg => k g (hlt g hg).1 (hlt g hg).2, fun i hi => ?_⟩
  obtain ⟨q, c, e1, e2, e3, hb, hd⟩ := h2 i hi
  refine ⟨q, c, e1, e2, e3, ⟨fun j hj => ?_, hb.nil, hb.le⟩, hd⟩
  obtain ⟨d, o, e, hx⟩ := hb.sl j hj
  refine ⟨d, o, e, ?_⟩
  rw [World.cell?_of_block (w := w) (k d (hd (by omega) d o e).1 (World.block_lt_of_cell? w _ hx))]
  exact hx
theorem OwnI.far (h : OwnI w base v xs) {y : Nat} (hy : y < base) (o : Nat) (u : Value) : OwnI (w.setCell ⟨y, o, none⟩ u) base v xs :=
  h.keep (by simp) fun d hd _ => Below.heap_setCell _ _ _ _ (by show d ≠ y; omega)
theorem OwnI.shape (h : OwnI w base v xs) : ∃ p cap, v = .slice p xs.length cap ∧ Its w p xs ∧ (p = none → cap = 0) ∧ xs.length ≤ cap := by
  obtain ⟨cs, h1, h2⟩ := h
  rcases h1.2 with ⟨hv, hl⟩ | ⟨g, cap, cur, hv, hb, hg, hle, _, hsz, ht⟩
  · refine ⟨none, 0, by rw [hv, hl], fun j hj => absurd hj (by omega), fun _ => rfl, by omega⟩
  · have hlt : g < w.heap.size := by
      rcases Nat.lt_or_ge g w.heap.size with h' | h'
      · exact h'
      · rw [Array.getElem?_eq_none h'] at hg; cases hg
    have hc : ∀ j, j < xs.length * 3 → w.cell? ⟨g, j, none⟩ = cs[j]? := fun j hj => by
      rw [cell_of_row w g j cur _ (0, 0) hg, ← ht, List.getElem?_take, if_pos hj]
      simp
    refine ⟨some ⟨g, 0, none⟩, cap, hv, fun j hj => ?_, (fun h => by cases h), hle⟩
    obtain ⟨q, c, e1, e2, e3, hbt, -⟩ := h2 j hj
    refine ⟨g, 0, rfl, hlt, q, c, ?_, ?_, ?_, hbt⟩
    · rw [Nat.zero_add, hc _ (by omega)]; exact e1
    · rw [Nat.zero_add, hc _ (by omega)]; exact e2
    · rw [Nat.zero_add, hc _ (by omega)]; exact e3
theorem OwnI.append (h : OwnI w base v xs) (ty : TypeId) (g : Nat) (y : Rw) (q : Option Addr) (c c2 : Nat) (e0 : w.cell? ⟨g, 0, none⟩ = some (.int .i64 y.k)) (e1 : w.cell? ⟨g, 1, none⟩ = some (.int .i64 y.n)) (e2 : w.cell? ⟨g, 2, none⟩ = some (.slice q y.b.length c))
    (hb : Bt w y q c) (hne : 0 < y.b.length → ∀ d o, q = some ⟨d, o, none⟩ → base ≤ d ∧ v.ownBlock ≠ some d) (hn : xs.length < 1000000) (hbase : base ≤ w.heap.size) :
    ∃ v' w', (Builtin.append_ #[22, 22] ty #[v, .slice (some ⟨g, 0, none⟩) 1 c2]).run Try.prog w = .ok v' w' ∧ OwnI w' base v' (xs ++ [y]) ∧ w.grownBy w' v.ownBlock := by
  have hlt := h.lt
  obtain ⟨cs, h1, h2⟩ := h
  obtain ⟨i0, hi, hz0, hz1, hz2⟩ := info_parts infoI
  obtain ⟨g', cap', w', hr, ho, hg, hor, hgl⟩ := run_append_lies (P := Try.prog) w 22 ty base 29 i0 (.agg #[.int .i64 0, .int .i64 0, .slice none 0 0]) 3 40 undI hi hz0 hz1 hz2 rfl (by decide) v xs.length cs h1 ⟨g, 0, none⟩ 1 c2
    [.int .i64 y.k, .int .i64 y.n, .slice q y.b.length c] rfl (by
      intro j u hu
      match j, hu with
      | 0, hu => rw [Addr.add_mid, ← hu]; exact e0
      | 1, hu => rw [Addr.add_mid, ← hu]; exact e1
      | 2, hu => rw [Addr.add_mid, ← hu]; exact e2
      | j + 3, hu => simp at hu) (by
      intro u hu
      simp at hu
      rcases hu with rfl | rfl | rfl <;> rfl) (by decide) (by simp only [maxLen]; omega) (by omega) hbase _ rfl
  have hcl : cs.length = xs.length * 3 := h1.1
  have hbk : ∀ d, d < w.heap.size → v.ownBlock ≠ some d → w'.heap[d]? = w.heap[d]? := fun d hd hne => hg.block d hd (Ne.symm hne)
  have hbt : ∀ (z : Rw) (q : Option Addr) (c : Nat), Bt w z q c → (0 < z.b.length → ∀ d o, q = some ⟨d, o, none⟩ → base ≤ d ∧ v.ownBlock ≠ some d) → Bt w' z q c ∧ (0 < z.b.length → ∀ d o, q = some ⟨d, o, none⟩ → base ≤ d ∧ (Value.slice (some ⟨g', 0, none⟩) (xs.length + 1) cap').ownBlock ≠ some d) := by
    intro z q c hz hd
    refine ⟨⟨fun j hj => ?_, hz.nil, hz.le⟩, fun hl d o e => ?_⟩
    · obtain ⟨d, o, e, hx⟩ := hz.sl j hj
      refine ⟨d, o, e, ?_⟩
      rw [World.cell?_of_block (w := w) (hbk d (World.block_lt_of_cell? w _ hx) (hd (by omega) d o e).2)]
      exact hx
    · have hdl := hz.sl.blk' hl d o e
      refine ⟨(hd hl d o e).1, ?_⟩
      intro he
      have he : g' = d := by simpa [Value.ownBlock] using he
      rcases hor with h' | h'
      · exact (hd hl d o e).2 (by rw [h', he])
      · omega
  refine ⟨_, w', hr, ⟨cs ++ [.int .i64 y.k, .int .i64 y.n, .slice q y.b.length c], by rw [List.length_append]; exact ho, fun i hi => ?_⟩, hg⟩
  rw [List.length_append] at hi
  by_cases hix : i < xs.length
  · obtain ⟨q', c', f1, f2, f3, f4, f5⟩ := h2 i hix
    have hgd : (xs ++ [y]).getD i rw0 = xs.getD i rw0 := by simp [List.getD_eq_getElem?_getD, List.getElem?_append_left hix]
    rw [hgd]
    obtain ⟨b1, b2⟩ := hbt _ _ _ f4 f5
    exact ⟨q', c', by rw [List.getElem?_append_left (by omega)]; exact f1, by rw [List.getElem?_append_left (by omega)]; exact f2, by rw [List.getElem?_append_left (by omega)]; exact f3, b1, b2⟩
  · have hie : i = xs.length := by simp at hi; omega
    subst hie
    have hgd : (xs ++ [y]).getD xs.length rw0 = y := by simp [List.getD_eq_getElem?_getD]
    rw [hgd]
    obtain ⟨b1, b2⟩ := hbt _ _ _ hb hne
    refine ⟨q, c, ?_, ?_, ?_, b1, b2⟩
    · rw [List.getElem?_append_right (by omega), hcl, Nat.sub_self]; rfl
    · rw [List.getElem?_append_right (by omega), hcl, Nat.add_sub_cancel_left]; rfl
    · rw [List.getElem?_append_right (by omega), hcl, Nat.add_sub_cancel_left]; rfl
end
theorem wpl_appendI {ops : Array Oper} {rest : List Oper} {o : Oper} {a : Act} {Q : Exit → Act → World → Prop} (w : World) (hgd : o.guard = none) (s x : Operand)
    (ho : o.op = .call { callee := .builtin .append, args := #[s, x], argTypes := #[22, 22] })
    (base : Nat) (v : Value) (xs : List Rw) (hs : a.eval s = v) (hown : OwnI w base v xs) (g : Nat) (y : Rw) (q : Option Addr) (c c2 : Nat) (hx : a.eval x = .slice (some ⟨g, 0, none⟩) 1 c2) (e0 : w.cell? ⟨g, 0, none⟩ = some (.int .i64 y.k)) (e1 : w.cell? ⟨g, 1, none⟩ = some (.int .i64 y.n)) (e2 : w.cell? ⟨g, 2, none⟩ = some (.slice q y.b.length c))
    (hb : Bt w y q c) (hne : 0 < y.b.length → ∀ d o, q = some ⟨d, o, none⟩ → base ≤ d ∧ v.ownBlock ≠ some d) (hn : xs.length < 1000000) (hbase : base ≤ w.heap.size)
    (h : ∀ v' w', OwnI w' base v' (xs ++ [y]) → w.grownBy w' v.ownBlock → wpList Try.prog ops Q rest (a.put o.dst v') w') : wpList Try.prog ops Q (o :: rest) a w := by
  refine wpList_plain hgd fun K hK => ?_
  obtain ⟨v', w', hr, h2, h3⟩ := hown.append o.type g y q c c2 e0 e1 e2 hb hne hn hbase
  unfold Oper.wp execOp
  simp only [ho, resolve, invoke, builtin, Sem.run_bind, Sem.run_pure, Result.andThen_ok, List.map_toArray, List.map_cons, List.map_nil, hs, hx, hr]
  exact hK _ _ (h v' w' h2 h3)
end Go.Proofs.Ytgmogbgkokofoaa
