/- Shards that are just as many as the data make all; headers of rows that lay there before, appended. -/
import Derived.Test.YtphpliclecmnlaaK10
set_option linter.unusedSimpArgs false
set_option linter.unusedVariables false
namespace Go.Proofs.Ytphpliclecmnlaa
open Go Go.RowKit

theorem picks_nodup {m : Nat} {l : List Nat} (h : Picks m l) : l.Nodup := by
  refine List.pairwise_iff_getElem.2 fun i j hi hj hij e => ?_
  have := (h j hj).2 i hij
  simp only [List.getD_eq_getElem?_getD, List.getElem?_eq_getElem hi, List.getElem?_eq_getElem hj, Option.getD_some] at this
  exact this e.symm
/-- Different numbers at which f holds, as many as there are: all of them. -/
theorem picks_full {n k : Nat} {l : List Nat} {f : Nat → Bool} (h : Picks n l) (hl : l.length = k) (hf : ∀ t, t < k → f (l.getD t 0) = true) (hc : (pick f n).length = k) (i : Nat) (hi : i < n) (h2 : f i = true) : ∃ t, t < k ∧ l.getD t 0 = i := by
  by_cases hm : i ∈ l
  · obtain ⟨t, ht, e⟩ := List.getElem_of_mem hm
    exact ⟨t, by omega, by rw [List.getD_eq_getElem?_getD, List.getElem?_eq_getElem ht]; exact e⟩
  · exfalso
    have hn : (i :: l).Nodup := List.nodup_cons.2 ⟨hm, picks_nodup h⟩
    have hs : (i :: l) ⊆ pick f n := fun x hx => by
      rcases List.mem_cons.1 hx with e | e
      · rw [e]; exact pick_mem.2 ⟨hi, h2⟩
      · obtain ⟨t, ht, e2⟩ := List.getElem_of_mem e
        have e3 : l.getD t 0 = x := by rw [List.getD_eq_getElem?_getD, List.getElem?_eq_getElem ht]; exact e2
        rw [← e3]
        exact pick_mem.2 ⟨(h t ht).1, hf t (by omega)⟩
    have := hn.length_le_of_subset hs
    rw [List.length_cons, hc] at this
    omega
theorem dec_even {k m : Nat} {ls : List (List (BitVec 8))} {th : List Bool} {out : List (List (BitVec 8))} (h : DecOk k m ls th out) (hk : 1 ≤ k) : evB out (k + m) = true := by
  obtain ⟨L, o1, o2, -⟩ := h
  exact decide_eq_true ⟨o1, fun i hi => by rw [o2 i (by omega), o2 0 (by omega)]⟩
/-- If there are just as many as the data, all that is told fits together. -/
theorem dec_exact {k m : Nat} {ls : List (List (BitVec 8))} {th : List Bool} {out : List (List (BitVec 8))} (hk : 1 ≤ k) (h : DecOk k m ls th out) (hc : (pick (fun i => th.getD i false) (k + m)).length = k) : chkI k m out = 0 := by
  have hev := dec_even h hk
  obtain ⟨L, o1, o2, o3, D, rl, p1, p2, p3, o4⟩ := h
  have hall : ∀ i x, i < k + m → x < L → mx out i x = mm k (ext k) D i x := fun i x hi hx => by
    rw [o4 i x hi hx]
    by_cases hth : th.getD i false = true
    · rw [if_pos hth]
      obtain ⟨t, ht, e⟩ := picks_full (f := fun i => th.getD i false) p1 p2 (fun t ht => (p3 t ht).1) hc i hi hth
      have := (p3 t ht).2 x hx
      rw [e] at this
      exact this.symm
    · rw [if_neg hth]
  have hD : ∀ i x, i < k → x < L → mx out i x = D i x := fun i x hi hx => by
    rw [hall i x (by omega) hx]
    have e2 : mm k (ext k) D i x = mm k id1 D i x := mm_congr (fun j _ => by unfold ext; rw [if_pos hi]) (fun _ _ => rfl)
    rw [e2, mm_id_l k _ i x hi]
  unfold chkI
  rw [if_pos hev, if_pos]
  have htk : ∀ i, i < k → (out.take k).getD i [] = out.getD i [] := fun i hi => by simp [List.getD_eq_getElem?_getD, hi]
  have hdk : ∀ i, (out.drop k).getD i [] = out.getD (k + i) [] := fun i => by simp [List.getD_eq_getElem?_getD, List.getElem?_drop]
  have hL0 : ((out.take k).getD 0 []).length = L := by rw [htk 0 (by omega), o2 0 (by omega)]
  refine lists_ext (n := m) (L := L) (by rw [List.length_drop, o1]; omega) (parL_length _ _ _) (fun i hi => by rw [hdk, o2 (k + i) (by omega)]) (fun i hi => by rw [parL_len _ _ _ _ hi, hL0]) fun i x hi hx => ?_
  have e1 : mx (out.drop k) i x = mx out (k + i) x := by unfold mx; rw [hdk]
  have e2 : mx (parL k m (out.take k)) i x = mm k (cau k) (mx (out.take k)) i x := rowsL_mx _ _ _ _ _ hi (by rw [hL0]; exact hx)
  rw [e1, e2, hall (k + i) x (by omega) hx]
  unfold mm
  refine xs_congr fun j hj => ?_
  have e3 : ext k (k + i) j = cau k i j := by unfold ext; rw [if_neg (by omega), Nat.add_sub_cancel_left]
  have e4 : mx (out.take k) j x = D j x := by rw [← hD j x hj hx]; unfold mx; rw [htk j hj]
  rw [e3, e4]
/-- The slice v, among the blocks from base on, holds the headers of rows that lie below base. -/
def OwnP (w : World) (base : Nat) (v : Value) (ls : List (List (BitVec 8))) : Prop :=
  ∃ vs : List Value, vs.length = ls.length ∧ w.ownsRow base 38 1 v ls.length vs ∧
    ∀ i, i < ls.length → ∃ q cap, vs[i]? = some (.slice q (ls.getD i []).length cap) ∧ (q = none → cap = 0) ∧ (ls.getD i []).length ≤ cap ∧ ∀ j, j < (ls.getD i []).length → ∃ c o, q = some ⟨c, o, none⟩ ∧ c < base ∧ w.cell? ⟨c, o + j, none⟩ = some (B ((ls.getD i []).getD j 0#8))
theorem OwnP.nil (w : World) (base : Nat) : OwnP w base (.slice none 0 0) [] := ⟨[], rfl, ⟨rfl, .inl ⟨rfl, rfl⟩⟩, fun i hi => absurd hi (by simp)⟩
theorem OwnP.lt {w : World} {base : Nat} {v : Value} {ls : List (List (BitVec 8))} (h : OwnP w base v ls) : ∀ k, v.ownBlock = some k → base ≤ k ∧ k < w.heap.size := by
  obtain ⟨vs, _, h2, _⟩ := h
  exact World.ownsRow.lt h2
theorem OwnP.of_below {w w' : World} {base : Nat} {v : Value} {ls : List (List (BitVec 8))} (h : OwnP w base v ls) (k : Below w.heap.size w w') : OwnP w' base v ls := by
  obtain ⟨vs, h1, h2, h3⟩ := h
  refine ⟨vs, h1, owns_keep h2 fun g hg => k.block g (World.ownsRow.lt h2 g hg).2, fun i hi => ?_⟩
  obtain ⟨q, cap, a1, a2, a3, a4⟩ := h3 i hi
  refine ⟨q, cap, a1, a2, a3, fun j hj => ?_⟩
  obtain ⟨c, o, e, hc, hx⟩ := a4 j hj
  exact ⟨c, o, e, hc, by rw [k.cell (World.block_lt_of_cell? w _ hx)]; exact hx⟩
theorem OwnP.prt {w : World} {base : Nat} {v : Value} {ls : List (List (BitVec 8))} (h : OwnP w base v ls) : ∃ p cap, v = .slice p ls.length cap ∧ Prt w p ls ∧ (p = none → cap = 0) ∧ ls.length ≤ cap := by
  obtain ⟨vs, h1, h2, h3⟩ := h
  rcases h2.2 with ⟨hv, hl⟩ | ⟨g, cap, cur, hv, hb, hg, hle, _, hsz, ht⟩
  · exact ⟨none, 0, by rw [hv, hl], fun i hi => absurd hi (by omega), fun _ => rfl, by omega⟩
  · refine ⟨some ⟨g, 0, none⟩, cap, hv, fun i hi => ?_, (fun h => by cases h), hle⟩
    obtain ⟨q, cap', a1, a2, a3, a4⟩ := h3 i hi
    refine ⟨g, 0, q, cap', rfl, ?_, fun j hj => ?_, a2, a3⟩
    · rw [Nat.zero_add, cell_of_row w g i cur 38 (0, 0) hg]
      have e : (cur.toList.take (ls.length * 1))[i]? = vs[i]? := by rw [ht]
      rw [List.getElem?_take, if_pos (by omega), a1] at e
      simpa using e
    · obtain ⟨c, o, e, _, hx⟩ := a4 j hj
      exact ⟨c, o, e, hx⟩
/-- One header appended. -/
theorem OwnP.push {w : World} {base : Nat} {v : Value} {ls : List (List (BitVec 8))} (h : OwnP w base v ls) (ty : TypeId) (a : Addr) (q : Option Addr) (l : List (BitVec 8)) (n cap : Nat)
    (hc : w.cell? a = some (.slice q n cap)) (hn : l.length = n) (hq : q = none → cap = 0) (hle : n ≤ cap) (hs : ∀ j, j < n → ∃ c o, q = some ⟨c, o, none⟩ ∧ c < base ∧ w.cell? ⟨c, o + j, none⟩ = some (B (l.getD j 0#8)))
    (hlen : ls.length < 100000000) (hb : base ≤ w.heap.size) :
    ∃ g cap' w', (Builtin.append_ #[23, 23] ty #[v, .slice (some a) 1 1]).run Try.prog w = .ok (.slice (some ⟨g, 0, none⟩) (ls.length + 1) cap') w' ∧ OwnP w' base (.slice (some ⟨g, 0, none⟩) (ls.length + 1) cap') (ls ++ [l]) ∧ w.grownBy w' v.ownBlock ∧
      (v.ownBlock = some g ∨ g = w.heap.size) := by
  subst hn
  have hlt := h.lt
  obtain ⟨vs, h1, h2, h3⟩ := h
  obtain ⟨i0, hi, hz0, hz1, hz2⟩ := info_parts infoB
  obtain ⟨g, cap', w', r1, r2, r3, r4, r5⟩ := run_append_lies (P := Try.prog) w 23 ty base 38 i0 (.slice none 0 0) 1 24 undRows hi hz0 hz1 hz2 rfl (by decide) v ls.length vs h2 a 1 1 [.slice q l.length cap] rfl
    (fun j u hu => by
      have : j = 0 := by
        rcases Nat.eq_zero_or_pos j with h | h
        · exact h
        · rw [List.getElem?_eq_none (by simp; omega)] at hu; cases hu
      subst this
      rw [Addr.add_zero', hc]
      simpa using hu)
    (by intro u hu; simp at hu; subst hu; rfl) (by decide) (by simp only [maxLen]; omega) (by omega) hb w.heap.size rfl
  have hbel : Below base w w' := (Below.refl base w).grown r3 (by omega) (fun k hk => (hlt k hk).1)
  refine ⟨g, cap', w', r1, ⟨vs ++ [.slice q l.length cap], by simp [h1], by rw [List.length_append]; exact r2, fun i hi => ?_⟩, r3, r4⟩
  by_cases hil : i < ls.length
  · obtain ⟨q', cap'', a1, a2, a3, a4⟩ := h3 i hil
    have e : (ls ++ [l]).getD i [] = ls.getD i [] := by simp [List.getD_eq_getElem?_getD, List.getElem?_append_left hil]
    rw [e]
    refine ⟨q', cap'', by rw [List.getElem?_append_left (by omega)]; exact a1, a2, a3, fun j hj => ?_⟩
    obtain ⟨c, o, e2, hcb, hx⟩ := a4 j hj
    exact ⟨c, o, e2, hcb, by rw [hbel.cell (by exact hcb)]; exact hx⟩
  · have hi' : i = ls.length := by
      rw [List.length_append] at hi
      have : ([l] : List (List (BitVec 8))).length = 1 := rfl
      omega
    subst hi'
    have e : (ls ++ [l]).getD ls.length [] = l := by simp [List.getD_eq_getElem?_getD]
    rw [e]
    refine ⟨q, cap, by rw [List.getElem?_append_right (by omega), h1]; simp, hq, hle, fun j hj => ?_⟩
    obtain ⟨c, o, e2, hcb, hx⟩ := hs j hj
    exact ⟨c, o, e2, hcb, by rw [hbel.cell (by exact hcb)]; exact hx⟩
theorem wpl_pushP {ops : Array Oper} {rest : List Oper} {o : Oper} {a : Act} {Q : Exit → Act → World → Prop} (w : World) (hgd : o.guard = none) (s x : Operand)
    (ho : o.op = .call { callee := .builtin .append, args := #[s, x], argTypes := #[23, 23] })
    (base : Nat) (v : Value) (ls : List (List (BitVec 8))) (hs : a.eval s = v) (hown : OwnP w base v ls) (ad : Addr) (hx : a.eval x = .slice (some ad) 1 1) (q : Option Addr) (l : List (BitVec 8)) (n cap : Nat)
    (hc : w.cell? ad = some (.slice q n cap)) (hn : l.length = n) (hq : q = none → cap = 0) (hle : n ≤ cap) (hsl : ∀ j, j < n → ∃ c o, q = some ⟨c, o, none⟩ ∧ c < base ∧ w.cell? ⟨c, o + j, none⟩ = some (B (l.getD j 0#8)))
    (n0 : Nat) (hn0 : ls.length = n0) (hlen : n0 < 100000000) (hb : base ≤ w.heap.size)
    (h : ∀ g cap' w', OwnP w' base (.slice (some ⟨g, 0, none⟩) (n0 + 1) cap') (ls ++ [l]) → w.grownBy w' v.ownBlock → wpList Try.prog ops Q rest (a.put o.dst (.slice (some ⟨g, 0, none⟩) (n0 + 1) cap')) w') : wpList Try.prog ops Q (o :: rest) a w := by
  subst hn0
  refine wpList_plain hgd fun K hK => ?_
  obtain ⟨g, cap', w', hr, h2, h3, h4⟩ := hown.push o.type ad q l n cap hc hn hq hle hsl hlen hb
  unfold Oper.wp execOp
  simp only [ho, resolve, invoke, builtin, Sem.run_bind, Sem.run_pure, Result.andThen_ok, List.map_toArray, List.map_cons, List.map_nil, hs, hx, hr]
  exact hK _ _ (h g cap' w' h2 h3)
end Go.Proofs.Ytphpliclecmnlaa
