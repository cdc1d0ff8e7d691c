/- Slices of bytes of the call's own, whose headers are appended one by one. -/
import Derived.Test.YtjpennbmphhipaaBlk10
import Derived.Test.YtjpennbmphhipaaOwnK8
import Derived.Test.YtjpennbmphhipaaCloneP
set_option linter.unusedSimpArgs false
set_option linter.unusedVariables false
namespace Go.Proofs.Ytjpennbmphhipaa
open Go Go.RowKit Go.Shelf

theorem elR : ElK 36 22 (.slice none 0 0) 1 24 := ⟨by kernel_rfl, by kernel_rfl, rfl, by decide, by decide⟩
/-- The slice v, among the blocks from N on, holds slices of the bytes bs, whose blocks are not v's. -/
def Hds (w : World) (N : Nat) (v : Value) (bs : List (List (BitVec 8))) : Prop :=
  ∃ hs : List Value, w.ownsRow N 22 1 v bs.length hs ∧ ∀ i, i < bs.length → ∃ p cap, hs[i]? = some (.slice p (bs.getD i []).length cap) ∧ Sl w p (bs.getD i []) ∧ (p = none → cap = 0) ∧ ∀ c o, p = some ⟨c, o, none⟩ → N ≤ c ∧ c < w.heap.size ∧ v.ownBlock ≠ some c
theorem Hds.nil (w : World) (N : Nat) : Hds w N (.slice none 0 0) [] := ⟨[], ⟨rfl, .inl ⟨rfl, rfl⟩⟩, fun i h => absurd h (by simp)⟩
theorem Sl.keepP {w w' : World} {p : Option Addr} {l : List (BitVec 8)} (h : Sl w p l) (hk : ∀ c o, p = some ⟨c, o, none⟩ → c < w.heap.size → w'.heap[c]? = w.heap[c]?) : Sl w' p l := fun j hj => by
  obtain ⟨c, o, e, hc⟩ := h j hj
  exact ⟨c, o, e, by rw [World.cell?_of_block (w := w) (hk c o e (World.block_lt_of_cell? w _ hc))]; exact hc⟩
theorem Hds.keep {w w' : World} {N : Nat} {v : Value} {bs : List (List (BitVec 8))} (h : Hds w N v bs) (hs : w.heap.size ≤ w'.heap.size) (hb : ∀ c, N ≤ c → c < w.heap.size → w'.heap[c]? = w.heap[c]?) : Hds w' N v bs := by
  obtain ⟨cs, h1, h2⟩ := h
  refine ⟨cs, own_keep h1 (fun g hg => hb g (h1.lt g hg).1 (h1.lt g hg).2), fun i hi => ?_⟩
  obtain ⟨p, cap, e1, e2, e3, e4⟩ := h2 i hi
  exact ⟨p, cap, e1, e2.keepP (fun c o e hlt => hb c (e4 c o e).1 hlt), e3, fun c o e => ⟨(e4 c o e).1, Nat.lt_of_lt_of_le (e4 c o e).2.1 hs, (e4 c o e).2.2⟩⟩
theorem Hds.of_below {w w' : World} {N : Nat} {v : Value} {bs : List (List (BitVec 8))} (h : Hds w N v bs) (k : Below w.heap.size w w') : Hds w' N v bs := h.keep k.size fun c _ hc => k.block c hc
theorem Hds.far {w : World} {N b : Nat} {v : Value} {bs : List (List (BitVec 8))} (h : Hds w N v bs) (hb : b < N) {o : Nat} {x : Value} : Hds (w.setCell ⟨b, o, none⟩ x) N v bs := h.keep (by simp) fun c hc _ => Below.heap_setCell _ _ _ _ (by show c ≠ b; omega)
theorem Hds.put {w : World} {N k : Nat} {o : Obj} {v : Value} {bs : List (List (BitVec 8))} (h : Hds w N v bs) (hlt : k < w.heap.size) (hk : k < N := by omega) : Hds (w.putObj k o) N v bs := h.keep (below_putP (N := k) o (Nat.le_refl _) hlt).size fun c hc _ => World.putObj_heap_other (by omega)
theorem Hds.lower {w : World} {N M : Nat} {v : Value} {bs : List (List (BitVec 8))} (h : Hds w N v bs) (hM : M ≤ N) : Hds w M v bs := by
  obtain ⟨cs, h1, h2⟩ := h
  refine ⟨cs, own_lower h1 hM, fun i hi => ?_⟩
  obtain ⟨p, cap, e1, e2, e3, e4⟩ := h2 i hi
  exact ⟨p, cap, e1, e2, e3, fun c o e => ⟨Nat.le_trans hM (e4 c o e).1, (e4 c o e).2⟩⟩
theorem Hds.push {w w' : World} {N : Nat} {v v' : Value} {bs : List (List (BitVec 8))} {cs : List Value} {p : Option Addr} {cap : Nat} {r : List (BitVec 8)} (h1 : w.ownsRow N 22 1 v bs.length cs)
    (h2 : ∀ i, i < bs.length → ∃ p cap, cs[i]? = some (.slice p (bs.getD i []).length cap) ∧ Sl w p (bs.getD i []) ∧ (p = none → cap = 0) ∧ ∀ c o, p = some ⟨c, o, none⟩ → N ≤ c ∧ c < w.heap.size ∧ v.ownBlock ≠ some c)
    (hs : Sl w p r) (hp : p = none → cap = 0) (hb : ∀ c o, p = some ⟨c, o, none⟩ → N ≤ c ∧ c < w.heap.size ∧ v.ownBlock ≠ some c)
    (hO : w'.ownsRow N 22 1 v' (bs.length + 1) (cs ++ [.slice p r.length cap])) (hg : w.grownBy w' v.ownBlock) (hor : v'.ownBlock = v.ownBlock ∨ v'.ownBlock = some w.heap.size) : Hds w' N v' (bs ++ [r]) := by
  have hcl : cs.length = bs.length := by have := h1.1; omega
  have key : ∀ c, c < w.heap.size → v.ownBlock ≠ some c → w'.heap[c]? = w.heap[c]? ∧ v'.ownBlock ≠ some c := fun c h3 h4 =>
    ⟨hg.block c h3 (fun e => h4 e.symm), fun e => by
      rcases hor with e2 | e2
      · exact h4 (by rw [← e2]; exact e)
      · rw [e2] at e; injection e with e; omega⟩
  refine ⟨cs ++ [.slice p r.length cap], by rw [List.length_append]; exact hO, fun i hi => ?_⟩
  by_cases h : i < bs.length
  · obtain ⟨p', cap', e1, e2, e3, e4⟩ := h2 i h
    have hgd : (bs ++ [r]).getD i [] = bs.getD i [] := by simp [List.getD_eq_getElem?_getD, List.getElem?_append_left h]
    rw [hgd]
    exact ⟨p', cap', by rw [List.getElem?_append_left (by omega)]; exact e1, e2.keepP (fun c o e hlt => (key c hlt (e4 c o e).2.2).1), e3, fun c o e => ⟨(e4 c o e).1, Nat.lt_of_lt_of_le (e4 c o e).2.1 hg.size, (key c (e4 c o e).2.1 (e4 c o e).2.2).2⟩⟩
  · have hi' : i = bs.length := by rw [List.length_append] at hi; simp at hi; omega
    subst hi'
    have hgd : (bs ++ [r]).getD bs.length [] = r := by simp [List.getD_eq_getElem?_getD]
    rw [hgd]
    exact ⟨p, cap, by rw [← hcl]; simp, hs.keepP (fun c o e hlt => (key c hlt (hb c o e).2.2).1), hp, fun c o e => ⟨(hb c o e).1, Nat.lt_of_lt_of_le (hb c o e).2.1 hg.size, (key c (hb c o e).2.1 (hb c o e).2.2).2⟩⟩
/-- Such a slice's shape. -/
theorem Hds.shape {w : World} {N : Nat} {v : Value} {bs : List (List (BitVec 8))} (h : Hds w N v bs) : ∃ p cap, v = .slice p bs.length cap ∧ (p = none → cap = 0) ∧ bs.length ≤ cap ∧ (∀ c o, p = some ⟨c, o, none⟩ → N ≤ c ∧ c < w.heap.size) ∧
    ∀ i, i < bs.length → ∃ c o q d, p = some ⟨c, o, none⟩ ∧ w.cell? ⟨c, o + i, none⟩ = some (.slice q (bs.getD i []).length d) ∧ Sl w q (bs.getD i []) ∧ (q = none → d = 0) := by
  obtain ⟨cs, h1, h2⟩ := h
  obtain ⟨p, cap, e, h3, h4, h5, h6⟩ := own_shape h1
  refine ⟨p, cap, e, h4, h5, h6, fun i hi => ?_⟩
  obtain ⟨q, d, e1, e2, e3, -⟩ := h2 i hi
  obtain ⟨c, o, ep, hlt, hc⟩ := h3.cell e1
  exact ⟨c, o, q, d, ep, hc, e2, e3⟩
theorem blen_le (n i : Nat) : blen n i ≤ 256 := by unfold blen; omega
theorem clone_blk (l : List (BitVec 8)) (q : Option Addr) (n cap i : Nat) (u : World) (hl : l.length = n) (hs : Sl u q l) (hq : q = none → cap = 0) (hc : n ≤ cap) (hi : 256 * i < n) : Calls Try.prog 23 #[blkS q n i] u (fun e w' => GivesB u (blkL l i) e w') := by
  have h1 : (blkL l i).length = blen n i := by rw [blkL_len, hl]
  have h2 := blkL_sl hs i
  have h3 := blen_le n i
  have h4 : q.map (·.add (256 * i)) = none → blen n i = 0 := fun e => by
    cases q with
    | none => have := hq rfl; omega
    | some a => cases e
  unfold blkS
  generalize blen n i = m at *
  generalize q.map (·.add (256 * i)) = q' at *
  exact clone_any (blkL l i) q' m m u h1 h2 h4 (Nat.le_refl _) (by omega)
theorem new_cP (w : World) (v : Value) (T : TypeId) : (w.alloc (.cells #[v] T)).cell? ⟨w.heap.size, 0, none⟩ = some v ∧ (w.alloc (.cells #[v] T)).frozen? ⟨w.heap.size, 0, none⟩ = false := ⟨World.cell?_alloc_new _ _ _ _, by go_simp⟩
theorem pre_range {k : Nat} {pre : List Nat} {x : Nat} (h : pre ++ [x] <+: List.range k) : x < k ∧ pre.length < k ∧ x = pre.length := by
  obtain ⟨t, e⟩ := h
  have h1 : (List.range k)[pre.length]? = some x := by rw [← e]; simp
  have hl : pre.length < k := by
    have := (List.getElem?_eq_some_iff.1 h1).1
    simpa using this
  rw [List.getElem?_range hl] at h1
  injection h1 with h1
  omega
theorem others_belowP {W W' : World} (h : Below W.heap.size W W') : KeepsOthers W W' := ⟨h.size, fun k o hk _ => by rw [h.block k (Array.getElem?_eq_some_iff.1 hk).1]; exact hk⟩
theorem KeepsOthers.grown_own {w w' : World} {base k n : Nat} {E : TypeId} {v : Value} {cs : List Value} (h : w.ownsRow base E k v n cs) (hg : w.grownBy w' v.ownBlock) : KeepsOthers w w' := ⟨hg.size, fun j o hj hc => by
  have hlt := (Array.getElem?_eq_some_iff.1 hj).1
  rcases h.2 with ⟨hv, _⟩ | ⟨g, cap, cur, hv, _, hgv, _⟩
  · rw [hg.block j hlt (by rw [hv]; exact fun e => by cases e)]; exact hj
  · by_cases e : j = g
    · subst e
      rw [hgv] at hj
      injection hj with hj
      subst hj
      cases hc
    · rw [hg.block j hlt (by rw [hv]; exact fun e2 => e (by injection e2))]; exact hj⟩
theorem stepIn_appendK {F : Fence} {m : Nat} {ops : Array Oper} {o : Oper} {a : Act} {Q : Exit → Act → World → Prop} {K' : Act → World → Prop} {Z : Prop} {T E : TypeId} {z : Value} {k b n : Nat} {v : Value} {cs : List Value} (K : ElK T E z k b) (w : World) (hgd : o.guard = none) (s x : Operand)
    (ho : o.op = .call { callee := .builtin .append, args := #[s, x], argTypes := #[T, T] })
    (base : Nat) (hs : a.eval s = v) (hown : w.ownsRow base E k v n cs) (p : Option Addr) (m' c : Nat) (news : List Value) (hnl : news.length = m' * k) (hx : a.eval x = .slice p m' c) (hl : LsC w p news) (hp : p = none → c = 0 ∧ m' = 0) (h1 : ∀ u ∈ news, u.oneCell' = true)
    (hn : n + m' < 100000000) (hb : base ≤ w.heap.size)
    (h : ∀ v' w', w'.ownsRow base E k v' (n + m') (cs ++ news) → w.grownBy w' v.ownBlock → (v'.ownBlock = v.ownBlock ∨ v'.ownBlock = some w.heap.size) → K' (a.put o.dst v') w') : if Region.wanted o (yielded ops a.tmps) = true then Oper.wpIn F m Try.prog o a w K' Q else Z := by
  have hw : Region.wanted o (yielded ops a.tmps) = true := by simp [Region.wanted, hgd]
  rw [if_pos hw]
  obtain ⟨v', w', hr, h2, h3, h4⟩ := append_ownK K w base o.type hown p m' c news hnl hl hp h1 hn hb
  have hsem : o.semAt F.round a.eval = execOp a.eval o := Oper.semAt_eq _ _ _ (fun c e => by rw [ho] at e; cases e)
  unfold Oper.wpIn
  refine ⟨fun f hf => ?_, ?_⟩
  · exfalso
    unfold Oper.about at hf
    simp only [ho, resolve, Sem.run_bind, Sem.run_pure, Result.andThen_ok, Target.leads] at hf
    cases hf
  · rw [hsem]
    unfold execOp
    simp only [ho, resolve, invoke, builtin, Sem.run_bind, Sem.run_pure, Result.andThen_ok, List.map_toArray, List.map_cons, List.map_nil, hs, hx, hr]
    exact h v' w' h2 h3 h4
end Go.Proofs.Ytjpennbmphhipaa
