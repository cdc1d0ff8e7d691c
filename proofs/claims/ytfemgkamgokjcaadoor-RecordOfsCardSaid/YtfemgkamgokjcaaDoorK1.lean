/- Merged texts: CloneP, Hds10, Cut10, Cuts10, ClsP6, ReadP6, RdrP6, FstP6, CopyM, CutP6, Mrg9, Bmp9, Mgl9. -/
import Derived.OwnWalk
import Derived.Test.YtfemgkamgokjcaaDoorRef6
import Derived.Test.YtfemgkamgokjcaaDoorBlk10
import Derived.Test.YtfemgkamgokjcaaDoorOwnK8
import Derived.Recover
import Derived.Laws.Pointers
import Derived.Test.YtfemgkamgokjcaaDoorCode6
import Derived.Test.YtfemgkamgokjcaaDoorCuts
import Derived.Lib.MinMax
import Derived.Lib.QuoteBits
import Derived.Test.YtfemgkamgokjcaaDoorNextN6
import Derived.Deep.RegionLaw
import Derived.Test.YtfemgkamgokjcaaDoorCopyB
import Derived.Test.YtfemgkamgokjcaaDoorCmp9
set_option linter.unusedSimpArgs false
set_option linter.unusedVariables false
/- bytes.Clone. -/
set_option maxRecDepth 100000
namespace Go.Proofs.YtfemgkamgokjcaaDoor
open Go Go.RowKit

theorem nil_yes (w : World) : (binOp BinOp.eql 27 (.slice none 0 0) (.slice none 0 0)).run Tryd.prog w = .ok (.bool true) w := by kernel_rfl
theorem nil_no (a : Addr) (n cap : Nat) (w : World) : (binOp BinOp.eql 27 (.slice (some a) n cap) (.slice none 0 0)).run Tryd.prog w = .ok (.bool false) w := by kernel_rfl
attribute [local go_sem] nil_yes nil_no
set_option maxHeartbeats 1000000 in
theorem clone_any (l : List (BitVec 8)) (p : Option Addr) (n cap : Nat) (w : World) (hl : l.length = n) (hs : Sl w p l) (hp : p = none → cap = 0) (hnc : n ≤ cap) (hn : n < 2000000000) : Calls Tryd.prog 39 #[.slice p n cap] w (fun e w' => GivesB w l e w') := by
  cases p with
  | none =>
    obtain rfl := hp rfl
    obtain rfl : n = 0 := by omega
    have hl0 : l = [] := List.eq_nil_of_length_eq_zero hl
    subst hl0
    clear hs hp hnc hn hl
    go_enter Tryd.func39, Tryd.ntmps39
    go_wp2
    go_ret
    exact ⟨_, rfl, ⟨rfl, .inl ⟨rfl, rfl⟩⟩, Below.refl _ _⟩
  | some a =>
    have HSE := Lib.hid (hs.of_below (show Below w.heap.size w (w.alloc (.cells #[] 5)) from (Below.refl _ _).alloc (Nat.le_refl _) _))
    have HO := Lib.hid (OwnB.empty w w.heap.size (Nat.le_refl _))
    have HB := Lib.hid (show Below w.heap.size w (w.alloc (.cells #[] 5)) from (Below.refl _ _).alloc (Nat.le_refl _) _)
    have HL := Lib.hid hl
    have hsz : w.heap.size ≤ (w.alloc (.cells #[] 5)).heap.size := by rw [World.size_alloc]; omega
    clear hs hp hl
    go_enter Tryd.func39, Tryd.ntmps39
    go_wp2_with (first | (refine wpl_append _ rfl (.tmp 5) (.tmp 6) rfl w.heap.size (.slice (some ⟨w.heap.size, 0, none⟩) 0 0) [] rfl HO.out (some a) n cap l HL.out rfl HSE.out (fun h => by cases h) (by simp; omega) hsz ?_; rintro v3 w3 hO3 hg3; rw [List.nil_append] at hO3; have HO3 := Lib.hid hO3; have HG3 := Lib.hid hg3; clear hO3 hg3))
    go_wp2
    go_ret
    exact ⟨_, rfl, HO3.out, HB.out.grown HG3.out hsz (fun k hk => by have : w.heap.size = k := (by simpa [Value.ownBlock] using hk); omega)⟩
end Go.Proofs.YtfemgkamgokjcaaDoor
/- Slices of bytes of the call's own, whose headers are appended one by one. -/
set_option maxRecDepth 100000
namespace Go.Proofs.YtfemgkamgokjcaaDoor
open Go Go.RowKit Go.Shelf

theorem elR : ElK 52 27 (.slice none 0 0) 1 24 := ⟨by kernel_rfl, by kernel_rfl, rfl, by decide, by decide⟩
/-- The slice v, among the blocks from N on, holds slices of the bytes bs, whose blocks are not v's. -/
def Hds (w : World) (N : Nat) (v : Value) (bs : List (List (BitVec 8))) : Prop :=
  ∃ hs : List Value, w.ownsRow N 27 1 v bs.length hs ∧ ∀ i, i < bs.length → ∃ p cap, hs[i]? = some (.slice p (bs.getD i []).length cap) ∧ Sl w p (bs.getD i []) ∧ (p = none → cap = 0) ∧ ∀ c o, p = some ⟨c, o, none⟩ → N ≤ c ∧ c < w.heap.size ∧ v.ownBlock ≠ some c
theorem Hds.nil (w : World) (N : Nat) : Hds w N (.slice none 0 0) [] := ⟨[], ⟨rfl, .inl ⟨rfl, rfl⟩⟩, fun i h => absurd h (by simp)⟩
theorem Sl.keepP {w w' : World} {p : Option Addr} {l : List (BitVec 8)} (h : Sl w p l) (hk : ∀ c o, p = some ⟨c, o, none⟩ → c < w.heap.size → w'.heap[c]? = w.heap[c]?) : Sl w' p l := fun j hj => by
  obtain ⟨c, o, e, hc⟩ := h j hj
  exact ⟨c, o, e, by rw [World.cell?_of_block (w := w) (hk c o e (World.block_lt_of_cell? w _ hc))]; exact hc⟩
theorem Hds.keep {w w' : World} {N : Nat} {v : Value} {bs : List (List (BitVec 8))} (h : Hds w N v bs) (hs : w.heap.size ≤ w'.heap.size) (hb : ∀ c, N ≤ c → c < w.heap.size → w'.heap[c]? = w.heap[c]?) : Hds w' N v bs := by
  obtain ⟨cs, h1, h2⟩ := h
  refine ⟨cs, own_keep h1 (fun g hg => hb g (h1.lt g hg).1 (h1.lt g hg).2), fun i hi => ?_⟩
  obtain ⟨p, cap, e1, e2, e3, e4⟩ := h2 i hi
  exact ⟨p, cap, e1, e2.keepP (fun c o e hlt => hb c (e4 c o e).1 hlt), e3, fun c o e => ⟨(e4 c o e).1, Nat.lt_of_lt_of_le (e4 c o e).2.1 hs, (e4 c o e).2.2⟩⟩
theorem Hds.of_below {w w' : World} {N : Nat} {v : Value} {bs : List (List (BitVec 8))} (h : Hds w N v bs) (k : Below w.heap.size w w') : Hds w' N v bs := h.keep k.size fun c _ hc => k.block c hc
theorem Hds.far {w : World} {N b : Nat} {v : Value} {bs : List (List (BitVec 8))} (h : Hds w N v bs) (hb : b < N) {o : Nat} {x : Value} : Hds (w.setCell ⟨b, o, none⟩ x) N v bs := h.keep (by simp) fun c hc _ => Below.heap_setCell _ _ _ _ (by show c ≠ b; omega)
theorem Hds.put {w : World} {N k : Nat} {o : Obj} {v : Value} {bs : List (List (BitVec 8))} (h : Hds w N v bs) (hlt : k < w.heap.size) (hk : k < N := by omega) : Hds (w.putObj k o) N v bs := h.keep (below_putP (N := k) o (Nat.le_refl _) hlt).size fun c hc _ => World.putObj_heap_other (by omega)
theorem Hds.lower {w : World} {N M : Nat} {v : Value} {bs : List (List (BitVec 8))} (h : Hds w N v bs) (hM : M ≤ N) : Hds w M v bs := by
  obtain ⟨cs, h1, h2⟩ := h
  refine ⟨cs, own_lower h1 hM, fun i hi => ?_⟩
  obtain ⟨p, cap, e1, e2, e3, e4⟩ := h2 i hi
  exact ⟨p, cap, e1, e2, e3, fun c o e => ⟨Nat.le_trans hM (e4 c o e).1, (e4 c o e).2⟩⟩
theorem Hds.push {w w' : World} {N : Nat} {v v' : Value} {bs : List (List (BitVec 8))} {cs : List Value} {p : Option Addr} {cap : Nat} {r : List (BitVec 8)} (h1 : w.ownsRow N 27 1 v bs.length cs)
    (h2 : ∀ i, i < bs.length → ∃ p cap, cs[i]? = some (.slice p (bs.getD i []).length cap) ∧ Sl w p (bs.getD i []) ∧ (p = none → cap = 0) ∧ ∀ c o, p = some ⟨c, o, none⟩ → N ≤ c ∧ c < w.heap.size ∧ v.ownBlock ≠ some c)
    (hs : Sl w p r) (hp : p = none → cap = 0) (hb : ∀ c o, p = some ⟨c, o, none⟩ → N ≤ c ∧ c < w.heap.size ∧ v.ownBlock ≠ some c)
    (hO : w'.ownsRow N 27 1 v' (bs.length + 1) (cs ++ [.slice p r.length cap])) (hg : w.grownBy w' v.ownBlock) (hor : v'.ownBlock = v.ownBlock ∨ v'.ownBlock = some w.heap.size) : Hds w' N v' (bs ++ [r]) := by
  have hcl : cs.length = bs.length := by have := h1.1; omega
  have key : ∀ c, c < w.heap.size → v.ownBlock ≠ some c → w'.heap[c]? = w.heap[c]? ∧ v'.ownBlock ≠ some c := fun c h3 h4 =>
    ⟨hg.block c h3 (fun e => h4 e.symm), fun e => by
      rcases hor with e2 | e2
      · exact h4 (by rw [← e2]; exact e)
      · rw [e2] at e; injection e with e; omega⟩
  refine ⟨cs ++ [.slice p r.length cap], by rw [List.length_append]; exact hO, fun i hi => ?_⟩
  by_cases h : i < bs.length
  · obtain ⟨p', cap', e1, e2, e3, e4⟩ := h2 i h
    have hgd : (bs ++ [r]).getD i [] = bs.getD i [] := by simp [List.getD_eq_getElem?_getD, List.getElem?_append_left h]
    rw [hgd]
    exact ⟨p', cap', by rw [List.getElem?_append_left (by omega)]; exact e1, e2.keepP (fun c o e hlt => (key c hlt (e4 c o e).2.2).1), e3, fun c o e => ⟨(e4 c o e).1, Nat.lt_of_lt_of_le (e4 c o e).2.1 hg.size, (key c (e4 c o e).2.1 (e4 c o e).2.2).2⟩⟩
  · have hi' : i = bs.length := by rw [List.length_append] at hi; simp at hi; omega
    subst hi'
    have hgd : (bs ++ [r]).getD bs.length [] = r := by simp [List.getD_eq_getElem?_getD]
    rw [hgd]
    exact ⟨p, cap, by rw [← hcl]; simp, hs.keepP (fun c o e hlt => (key c hlt (hb c o e).2.2).1), hp, fun c o e => ⟨(hb c o e).1, Nat.lt_of_lt_of_le (hb c o e).2.1 hg.size, (key c (hb c o e).2.1 (hb c o e).2.2).2⟩⟩
/-- Such a slice's shape. -/
theorem Hds.shape {w : World} {N : Nat} {v : Value} {bs : List (List (BitVec 8))} (h : Hds w N v bs) : ∃ p cap, v = .slice p bs.length cap ∧ (p = none → cap = 0) ∧ bs.length ≤ cap ∧ (∀ c o, p = some ⟨c, o, none⟩ → N ≤ c ∧ c < w.heap.size) ∧
    ∀ i, i < bs.length → ∃ c o q d, p = some ⟨c, o, none⟩ ∧ w.cell? ⟨c, o + i, none⟩ = some (.slice q (bs.getD i []).length d) ∧ Sl w q (bs.getD i []) ∧ (q = none → d = 0) := by
  obtain ⟨cs, h1, h2⟩ := h
  obtain ⟨p, cap, e, h3, h4, h5, h6⟩ := own_shape h1
  refine ⟨p, cap, e, h4, h5, h6, fun i hi => ?_⟩
  obtain ⟨q, d, e1, e2, e3, -⟩ := h2 i hi
  obtain ⟨c, o, ep, hlt, hc⟩ := h3.cell e1
  exact ⟨c, o, q, d, ep, hc, e2, e3⟩
theorem blen_le (n i : Nat) : blen n i ≤ 256 := by unfold blen; omega
theorem clone_blk (l : List (BitVec 8)) (q : Option Addr) (n cap i : Nat) (u : World) (hl : l.length = n) (hs : Sl u q l) (hq : q = none → cap = 0) (hc : n ≤ cap) (hi : 256 * i < n) : Calls Tryd.prog 39 #[blkS q n i] u (fun e w' => GivesB u (blkL l i) e w') := by
  have h1 : (blkL l i).length = blen n i := by rw [blkL_len, hl]
  have h2 := blkL_sl hs i
  have h3 := blen_le n i
  have h4 : q.map (·.add (256 * i)) = none → blen n i = 0 := fun e => by
    cases q with
    | none => have := hq rfl; omega
    | some a => cases e
  unfold blkS
  generalize blen n i = m at *
  generalize q.map (·.add (256 * i)) = q' at *
  exact clone_any (blkL l i) q' m m u h1 h2 h4 (Nat.le_refl _) (by omega)
theorem new_cP (w : World) (v : Value) (T : TypeId) : (w.alloc (.cells #[v] T)).cell? ⟨w.heap.size, 0, none⟩ = some v ∧ (w.alloc (.cells #[v] T)).frozen? ⟨w.heap.size, 0, none⟩ = false := ⟨World.cell?_alloc_new _ _ _ _, by go_simp⟩
theorem pre_range {k : Nat} {pre : List Nat} {x : Nat} (h : pre ++ [x] <+: List.range k) : x < k ∧ pre.length < k ∧ x = pre.length := by
  obtain ⟨t, e⟩ := h
  have h1 : (List.range k)[pre.length]? = some x := by rw [← e]; simp
  have hl : pre.length < k := by
    have := (List.getElem?_eq_some_iff.1 h1).1
    simpa using this
  rw [List.getElem?_range hl] at h1
  injection h1 with h1
  omega
theorem others_belowP {W W' : World} (h : Below W.heap.size W W') : KeepsOthers W W' := ⟨h.size, fun k o hk _ => by rw [h.block k (Array.getElem?_eq_some_iff.1 hk).1]; exact hk⟩
theorem KeepsOthers.grown_own {w w' : World} {base k n : Nat} {E : TypeId} {v : Value} {cs : List Value} (h : w.ownsRow base E k v n cs) (hg : w.grownBy w' v.ownBlock) : KeepsOthers w w' := ⟨hg.size, fun j o hj hc => by
  have hlt := (Array.getElem?_eq_some_iff.1 hj).1
  rcases h.2 with ⟨hv, _⟩ | ⟨g, cap, cur, hv, _, hgv, _⟩
  · rw [hg.block j hlt (by rw [hv]; exact fun e => by cases e)]; exact hj
  · by_cases e : j = g
    · subst e
      rw [hgv] at hj
      injection hj with hj
      subst hj
      cases hc
    · rw [hg.block j hlt (by rw [hv]; exact fun e2 => e (by injection e2))]; exact hj⟩
theorem stepIn_appendK {F : Fence} {m : Nat} {ops : Array Oper} {o : Oper} {a : Act} {Q : Exit → Act → World → Prop} {K' : Act → World → Prop} {Z : Prop} {T E : TypeId} {z : Value} {k b n : Nat} {v : Value} {cs : List Value} (K : ElK T E z k b) (w : World) (hgd : o.guard = none) (s x : Operand)
    (ho : o.op = .call { callee := .builtin .append, args := #[s, x], argTypes := #[T, T] })
    (base : Nat) (hs : a.eval s = v) (hown : w.ownsRow base E k v n cs) (p : Option Addr) (m' c : Nat) (news : List Value) (hnl : news.length = m' * k) (hx : a.eval x = .slice p m' c) (hl : LsC w p news) (hp : p = none → c = 0 ∧ m' = 0) (h1 : ∀ u ∈ news, u.oneCell' = true)
    (hn : n + m' < 100000000) (hb : base ≤ w.heap.size)
    (h : ∀ v' w', w'.ownsRow base E k v' (n + m') (cs ++ news) → w.grownBy w' v.ownBlock → (v'.ownBlock = v.ownBlock ∨ v'.ownBlock = some w.heap.size) → K' (a.put o.dst v') w') : if Region.wanted o (yielded ops a.tmps) = true then Oper.wpIn F m Tryd.prog o a w K' Q else Z := by
  have hw : Region.wanted o (yielded ops a.tmps) = true := by simp [Region.wanted, hgd]
  rw [if_pos hw]
  obtain ⟨v', w', hr, h2, h3, h4⟩ := append_ownK K w base o.type hown p m' c news hnl hl hp h1 hn hb
  have hsem : o.semAt F.round a.eval = execOp a.eval o := Oper.semAt_eq _ _ _ (fun c e => by rw [ho] at e; cases e)
  unfold Oper.wpIn
  refine ⟨fun f hf => ?_, ?_⟩
  · exfalso
    unfold Oper.about at hf
    simp only [ho, resolve, Sem.run_bind, Sem.run_pure, Result.andThen_ok, Target.leads] at hf
    cases hf
  · rw [hsem]
    unfold execOp
    simp only [ho, resolve, invoke, builtin, Sem.run_bind, Sem.run_pure, Result.andThen_ok, List.map_toArray, List.map_cons, List.map_nil, hs, hx, hr]
    exact h v' w' h2 h3 h4
end Go.Proofs.YtfemgkamgokjcaaDoor
/- record.Cut. -/
set_option maxRecDepth 100000
namespace Go.Proofs.YtfemgkamgokjcaaDoor
open Go Go.RowKit Go.Shelf

attribute [local go_sem] Oper.semAt_some
/-- What the walk of Cut carries. -/
def InvC (w : World) (N : Nat) (l : List (BitVec 8)) (pre : List Nat) (A : World) : Prop :=
  ∃ v, A.cell? ⟨N, 0, none⟩ = some v ∧ A.frozen? ⟨N, 0, none⟩ = false ∧ Hds A (N + 4) v (pre.map (blkL l)) ∧ Below w.heap.size w A ∧ N + 2 ≤ A.heap.size
theorem InvC.of_below {w : World} {N : Nat} {l : List (BitVec 8)} {pre : List Nat} {A A' : World} (h : InvC w N l pre A) (hw : w.heap.size ≤ N) (hB : Below A.heap.size A A') : InvC w N l pre A' := by
  obtain ⟨v, h1, h2, h3, h4, h5⟩ := h
  have hlt := World.block_lt_of_cell? A _ h1
  exact ⟨v, by rw [hB.cell (by exact hlt)]; exact h1, by rw [hB.frozen (by exact hlt)]; exact h2, h3.of_below hB, h4.trans (hB.mono h4.size), Nat.le_trans h5 hB.size⟩
theorem InvC.bears (w : World) (N : Nat) (l : List (BitVec 8)) (hw : w.heap.size = N) : BearsP (N + 2) (InvC w N l) :=
  ⟨fun pre A o h => h.of_below (by omega) ((Below.refl _ _).alloc (Nat.le_refl _) _),
   fun pre A o hlt h => by
    obtain ⟨v, h1, h2, h3, h4, h5⟩ := h
    have hB := below_putP (N := N + 2 + 1) o (Nat.le_refl _) hlt
    exact ⟨v, by rw [hB.cell (by show N < _; omega)]; exact h1, by rw [hB.frozen (by show N < _; omega)]; exact h2, h3.put hlt, h4.trans (hB.mono (by omega)), Nat.le_trans h5 hB.size⟩,
   fun pre A k h => h.of_below (by omega) ((show Dr A (A.drewN k) from ⟨k, rfl⟩).below _)⟩
set_option maxRecDepth 100000 in
set_option maxHeartbeats 4000000 in
theorem cut_any10 (l : List (BitVec 8)) (q : Option Addr) (n cap : Nat) (w : World) (hl : l.length = n) (hs : Sl w q l) (hq : q = none → cap = 0) (hc : n ≤ cap) (hn : n < 1000000) :
    Calls Tryd.prog 20 #[.slice q n cap] w fun e w' => ∃ v, e = .returned v ∧ Hds w' w.heap.size v ((List.range (nblk n)).map (blkL l)) ∧ Below w.heap.size w w' := by
  refine (callsIn_wide (n := 7)).1 ?_
  refine callsIn_of_wp_marks Tryd.func20 rfl trivial ?_ rfl
  simp only [Tryd.ntmps20, List.size_toArray, List.length_cons, List.length_nil, Nat.reduceAdd, Nat.reduceSub, Array.replicate_succ, Array.replicate_zero, List.push_toArray, List.append_toArray, List.nil_append, List.cons_append]
  have HSL := Lib.hid hs
  have HLN := Lib.hid hl
  have HQ := Lib.hid hq
  clear hs hl hq
  gi_wp2_with (refine ⟨trivial, ?_⟩; gi_at_call 28; refine (callsIn_wide.2 (blocks_any q n cap _)).mono ?_; rintro e w' ⟨rfl, rfl⟩)
  obtain ⟨N, hN⟩ : ∃ N, w.heap.size = N := ⟨_, rfl⟩
  obtain ⟨W1, hW1⟩ : ∃ W1, w.alloc (.cells #[.slice none 0 0] 52) = W1 := ⟨_, rfl⟩
  obtain ⟨W2, hW2⟩ : ∃ W2, W1.alloc (.cells #[.slice q n cap] 27) = W2 := ⟨_, rfl⟩
  have s1 : W1.heap.size = N + 1 := by rw [← hW1]; simp [hN]
  have s2 : W2.heap.size = N + 2 := by rw [← hW2]; simp [s1]
  have hB1 : Below w.heap.size w W1 := by rw [← hW1]; exact (Below.refl _ _).alloc (Nat.le_refl _) _
  have hB2 : Below W1.heap.size W1 W2 := by rw [← hW2]; exact (Below.refl _ _).alloc (Nat.le_refl _) _
  obtain ⟨c0, f0⟩ := new_cP w (.slice none 0 0) 52
  rw [hW1, hN] at c0 f0
  have c1 : W2.cell? ⟨N + 1, 0, none⟩ = some (.slice q n cap) := by rw [← hW2, ← s1]; exact World.cell?_alloc_new _ _ _ _
  have c0' : W2.cell? ⟨N, 0, none⟩ = some (.slice none 0 0) := by rw [hB2.cell (by show N < _; omega)]; exact c0
  have f0' : W2.frozen? ⟨N, 0, none⟩ = false := by rw [hB2.frozen (by show N < _; omega)]; exact f0
  have inv0 : InvC w N l [] W2 := ⟨_, c0', f0', Hds.nil _ _, hB1.trans (hB2.mono hB1.size), by omega⟩
  have HSEQ := Lib.hid (blocks_seq 6 (by decide) (N + 1) q n cap W2 c1 hn hc)
  rw [hW1, hW2]
  try rw [hN]
  clear hW1 hW2 hB1 hB2 c0 f0 c1 c0' f0'
  refine range_pure (m := 7) (by decide) (gf := 52) (lb := #[.pointer (some ⟨N + 1, 0, none⟩)]) (by rfl) (enters_of Tryd.func52 (by kernel_rfl) rfl)
    (encs := fun i : Nat => #[.int .i64 (i : Int), blkS q n i]) (fun _ => rfl) (b := N + 1) (by omega) HSEQ.out
    (InvC w N l) (fun _ _ => False) (by have := InvC.bears w N l hN; rw [← s2] at this; exact this) (fun _ _ _ _ h => h) inv0
    (fun i => { tmps := #[.slice q n cap, undef, .slice none 0 0, .pointer (some ⟨N, 0, none⟩), undef, blkS q n i, .slice q n cap, .func (.func 52) #[] #[.pointer (some ⟨N + 1, 0, none⟩)], .int .i64 (i : Int), blkS q n i, undef, undef, undef, undef, undef, undef], defers := [] }) ?assign ?body ?done ?stop
  case assign =>
    intro L x A K hK
    gi_wp2
    exact hK
  case body =>
    rintro L pre i A hpx hNA hinv
    rw [s2] at hNA
    have hNA : N + 4 ≤ A.heap.size := hNA
    obtain ⟨v, hcx, hfx, hHd, hBE, -⟩ := hinv
    obtain ⟨hs, hOW, hrows⟩ := hHd
    have hik := pre_range hpx
    have hlen : pre.length + 1 < 100000000 := by have := hik.2.1; unfold nblk at this; omega
    have hvlt : ∀ g, v.ownBlock = some g → N + 4 ≤ g ∧ g < A.heap.size := fun g hg => hOW.lt g hg
    have HOW := Lib.hid hOW
    have HBE := Lib.hid hBE
    have hi256 : 256 * i < n := nblk_lt hik.1
    have HCL := Lib.hid (fun (u : World) (hu : Below A.heap.size A u) => clone_blk l q n cap i u HLN.out (HSL.out.of_below (hBE.trans (hu.mono hBE.size))) HQ.out hc hi256)
    have HHD := Lib.hid (fun (x y : World) (v' : Value) (p : Option Addr) (c : Nat) (hX : Below A.heap.size A x) (h1 : Sl x p (blkL l i)) (h2 : p = none → c = 0) (h3 : ∀ c o, p = some ⟨c, o, none⟩ → A.heap.size ≤ c ∧ c < x.heap.size)
        (h4 : y.ownsRow (N + 4) 27 1 v' ((pre.map (blkL l)).length + 1) (hs ++ [.slice p (blkL l i).length c])) (h5 : x.grownBy y v.ownBlock) (h6 : v'.ownBlock = v.ownBlock ∨ v'.ownBlock = some x.heap.size) => (Hds.push (own_below hOW hX) (fun j hj => by
          obtain ⟨p', cap', e1, e2, e3, e4⟩ := hrows j hj
          exact ⟨p', cap', e1, e2.of_below hX, e3, fun c o e => ⟨(e4 c o e).1, Nat.lt_of_lt_of_le (e4 c o e).2.1 hX.size, (e4 c o e).2.2⟩⟩) h1 h2 (fun c o e => ⟨by have := (h3 c o e).1; omega, (h3 c o e).2, fun e2 => by have := (hvlt c e2).2; have := (h3 c o e).1; omega⟩) h4 h5 h6 : Hds y (N + 4) v' (pre.map (blkL l) ++ [blkL l i])))
    have HX := Lib.hid (show Below A.heap.size A A.drew from (Below.refl _ _).drew)
    have hcx : A.drew.cell? ⟨N, 0, none⟩ = some v := hcx
    have hfx : A.drew.frozen? ⟨N, 0, none⟩ = false := hfx
    have hcy := hcx
    clear hOW hrows hBE hpx hvlt hik
    gi_wp2
    refine wpIn_region_any (by kernel_rfl) ?_
    try (change wpAnyIn _ _ _ _ _ _ _ _ _ (World.drew _))
    generalize A.drew = x at *
    refine wpAnyIn_ready (rs := [0, 1]) (by kernel_rfl) (by simp) ?_
    refine (AllReadyIn.cons (by simp only [List.getElem?_toArray, List.getElem?_cons_succ, List.getElem?_cons_zero]; exact rfl) (fun K hK => ?_) (AllReadyIn.cons (by simp only [List.getElem?_toArray, List.getElem?_cons_succ, List.getElem?_cons_zero]; exact rfl) (fun K hK => ?_) AllReadyIn.nil))
    · go_simp
      refine hK _ _ ?_
      clear hK K
      try simp only [Act.put, List.setIfInBounds_toArray, List.set_cons_zero, List.set_cons_succ]
      refine wpAnyIn_ready (rs := [1]) (by kernel_rfl) (by simp) ?_
      refine (AllReadyIn.cons (by simp only [List.getElem?_toArray, List.getElem?_cons_succ, List.getElem?_cons_zero]; exact rfl) (fun K hK => ?_) AllReadyIn.nil)
      go_simp
      refine hK _ _ ?_
      clear hK K
      try simp only [Act.put, List.setIfInBounds_toArray, List.set_cons_zero, List.set_cons_succ]
      refine wpAnyIn_ready (rs := [2]) (by kernel_rfl) (by simp) ?_
      refine (AllReadyIn.cons (by simp only [List.getElem?_toArray, List.getElem?_cons_succ, List.getElem?_cons_zero]; exact rfl) (fun K hK => ?_) AllReadyIn.nil)
      go_simp
      refine ⟨trivial, (CallsIn.inRound L (callsIn_wide.2 (HCL.out _ HX.out))).mono ?_⟩
      rintro e x2 ⟨v2, rfl, hO2, hB2⟩
      obtain ⟨p2, c2, rfl, hs2, hp2, hc2⟩ := hO2.shape
      have hcx := (show x2.cell? ⟨N, 0, none⟩ = some v from by rw [hB2.cell (by exact World.block_lt_of_cell? x _ hcx)]; exact hcx)
      have hfx := (show x2.frozen? ⟨N, 0, none⟩ = false from by rw [hB2.frozen (by exact World.block_lt_of_cell? x _ hcy)]; exact hfx)
      have hcy := hcx
      have hO2 := hO2.lower (b2 := A.heap.size) HX.out.size
      have HX := Lib.hid (HX.out.trans (hB2.mono HX.out.size))
      have H2 := Lib.hid (And.intro hO2 (And.intro hs2 hp2))
      have HZ2 := Lib.hid hB2.size
      clear hO2 hB2 hs2 hp2 hc2
      refine hK _ _ ?_
      clear hK K
      try simp only [Act.put, List.setIfInBounds_toArray, List.set_cons_zero, List.set_cons_succ]
      refine wpAnyIn_ready (rs := [3]) (by kernel_rfl) (by simp) ?_
      refine (AllReadyIn.cons (by simp only [List.getElem?_toArray, List.getElem?_cons_succ, List.getElem?_cons_zero]; exact rfl) (fun K hK => ?_) AllReadyIn.nil)
      go_simp
      obtain ⟨x23, hy⟩ : ∃ y, (x2.alloc (.cells #[.slice p2 (blkL l i).length c2] 27)) = y := ⟨_, rfl⟩
      have hBa : Below x2.heap.size x2 x23 := by rw [← hy]; exact (Below.refl _ _).alloc (Nat.le_refl _) _
      have hcx := (show x23.cell? ⟨N, 0, none⟩ = some v from by rw [hBa.cell (by exact World.block_lt_of_cell? x2 _ hcx)]; exact hcx)
      have hfx := (show x23.frozen? ⟨N, 0, none⟩ = false from by rw [hBa.frozen (by exact World.block_lt_of_cell? x2 _ hcy)]; exact hfx)
      have hcy := hcx
      have HX := Lib.hid (HX.out.trans (hBa.mono HX.out.size))
      have HH := Lib.hid (show LsC x23 (some ⟨x2.heap.size, 0, none⟩) [.slice p2 (blkL l i).length c2] from by rw [← hy]; exact LsC.made _ [Value.slice p2 (blkL l i).length c2] _)
      have H2 := Lib.hid (And.intro (H2.out.1.of_below hBa) (And.intro (H2.out.2.1.of_below hBa) H2.out.2.2))
      refine hK _ _ ?_
      clear hK K
      rw [hy]
      clear hy hBa
      try simp only [Act.put, List.setIfInBounds_toArray, List.set_cons_zero, List.set_cons_succ]
      refine wpAnyIn_ready (rs := [4]) (by kernel_rfl) (by simp) ?_
      refine (AllReadyIn.cons (by simp only [List.getElem?_toArray, List.getElem?_cons_succ, List.getElem?_cons_zero]; exact rfl) (fun K hK => ?_) AllReadyIn.nil)
      have hO := own_below HOW.out HX.out
      refine stepIn_appendK elR x23 rfl (.tmp 10) (.tmp 13) rfl (N + 4) rfl hO _ 1 1 [.slice p2 (blkL l i).length c2] rfl rfl HH.out (fun h => by cases h) (fun u hu => by rw [List.mem_singleton] at hu; subst hu; rfl) (by rw [List.length_map]; omega) (Nat.le_trans hNA HX.out.size) ?_
      rintro v' x234 hO' hg hor
      have hHd := HHD.out x23 x234 v' p2 c2 HX.out H2.out.2.1 H2.out.2.2 (fun c o e => H2.out.1.lt c (by rw [e]; rfl)) hO' hg hor
      have hne : some N ≠ v.ownBlock := fun e => by have := (World.ownsRow.lt hO N e.symm).1; omega
      have hcx := (show x234.cell? ⟨N, 0, none⟩ = some v from hg.cell hcx hne)
      have hfx := (show x234.frozen? ⟨N, 0, none⟩ = false from by rw [World.frozen?_of_block (w := x23) (hg.block N (by exact World.block_lt_of_cell? x23 _ hcy) hne)]; exact hfx)
      have HBB := Lib.hid (show x234.heap[N + 1]? = A.heap[N + 1]? from by
        rw [hg.block (N + 1) (by have := HX.out.size; omega) (fun e => by have := (World.ownsRow.lt hO (N + 1) e.symm).1; omega)]
        exact HX.out.block _ (by omega))
      have HBW := Lib.hid (HBE.out.trans ((HX.out.mono (by omega)).grown hg (by have := HX.out.size; omega) (fun k hk => by have := (World.ownsRow.lt hO k hk).1; omega)))
      have HKO := Lib.hid ((others_belowP HX.out).trans (KeepsOthers.grown_own hO hg))
      have HHD2 := Lib.hid hHd
      have hv4 : ∃ p n c, v' = .slice p n c := by obtain ⟨p', c', e', -⟩ := own_shape hO'; exact ⟨_, _, _, e'⟩
      obtain ⟨p4, n4, c4, rfl⟩ := hv4
      have HZ4 := Lib.hid (show N + 4 ≤ x234.heap.size from Nat.le_trans (Nat.le_trans hNA HX.out.size) hg.size)
      clear hO hO' hg hor hHd hne
      refine hK _ _ ?_
      clear hK K
      try simp only [Act.put, List.setIfInBounds_toArray, List.set_cons_zero, List.set_cons_succ]
      refine wpAnyIn_ready (rs := [5]) (by kernel_rfl) (by simp) ?_
      refine (AllReadyIn.cons (by simp only [List.getElem?_toArray, List.getElem?_cons_succ, List.getElem?_cons_zero]; exact rfl) (fun K hK => ?_) AllReadyIn.nil)
      go_simp
      refine hK _ _ ?_
      clear hK K
      try simp only [Act.put, List.setIfInBounds_toArray, List.set_cons_zero, List.set_cons_succ]
      refine wpAnyIn_done (by kernel_rfl) ?_ _
      refine ⟨HKO.out.trans (KeepsOthers.setCell _ _ _), (Below.heap_setCell _ _ _ _ (show N + 1 ≠ N by omega)).trans HBB.out, _, World.cell?_setCell_same _ _ _ hcx, by rw [World.frozen?_setCell]; exact hfx, ?_, HBW.out.setCell (show w.heap.size ≤ (⟨N, 0, none⟩ : Addr).block by rw [hN]; exact Nat.le_refl _) _, by have := HZ4.out; simp; omega⟩
      rw [List.map_append]
      exact HHD2.out.far (by omega)
    · go_simp
      refine hK _ _ ?_
      clear hK K
      try simp only [Act.put, List.setIfInBounds_toArray, List.set_cons_zero, List.set_cons_succ]
      refine wpAnyIn_ready (rs := [0, 2]) (by kernel_rfl) (by simp) ?_
      refine (AllReadyIn.cons (by simp only [List.getElem?_toArray, List.getElem?_cons_succ, List.getElem?_cons_zero]; exact rfl) (fun K hK => ?_) (AllReadyIn.cons (by simp only [List.getElem?_toArray, List.getElem?_cons_succ, List.getElem?_cons_zero]; exact rfl) (fun K hK => ?_) AllReadyIn.nil))
      · go_simp
        refine hK _ _ ?_
        clear hK K
        try simp only [Act.put, List.setIfInBounds_toArray, List.set_cons_zero, List.set_cons_succ]
        refine wpAnyIn_ready (rs := [2]) (by kernel_rfl) (by simp) ?_
        refine (AllReadyIn.cons (by simp only [List.getElem?_toArray, List.getElem?_cons_succ, List.getElem?_cons_zero]; exact rfl) (fun K hK => ?_) AllReadyIn.nil)
        go_simp
        refine ⟨trivial, (CallsIn.inRound L (callsIn_wide.2 (HCL.out _ HX.out))).mono ?_⟩
        rintro e x2 ⟨v2, rfl, hO2, hB2⟩
        obtain ⟨p2, c2, rfl, hs2, hp2, hc2⟩ := hO2.shape
        have hcx := (show x2.cell? ⟨N, 0, none⟩ = some v from by rw [hB2.cell (by exact World.block_lt_of_cell? x _ hcx)]; exact hcx)
        have hfx := (show x2.frozen? ⟨N, 0, none⟩ = false from by rw [hB2.frozen (by exact World.block_lt_of_cell? x _ hcy)]; exact hfx)
        have hcy := hcx
        have hO2 := hO2.lower (b2 := A.heap.size) HX.out.size
        have HX := Lib.hid (HX.out.trans (hB2.mono HX.out.size))
        have H2 := Lib.hid (And.intro hO2 (And.intro hs2 hp2))
        have HZ2 := Lib.hid hB2.size
        clear hO2 hB2 hs2 hp2 hc2
        refine hK _ _ ?_
        clear hK K
        try simp only [Act.put, List.setIfInBounds_toArray, List.set_cons_zero, List.set_cons_succ]
        refine wpAnyIn_ready (rs := [3]) (by kernel_rfl) (by simp) ?_
        refine (AllReadyIn.cons (by simp only [List.getElem?_toArray, List.getElem?_cons_succ, List.getElem?_cons_zero]; exact rfl) (fun K hK => ?_) AllReadyIn.nil)
        go_simp
        obtain ⟨x23, hy⟩ : ∃ y, (x2.alloc (.cells #[.slice p2 (blkL l i).length c2] 27)) = y := ⟨_, rfl⟩
        have hBa : Below x2.heap.size x2 x23 := by rw [← hy]; exact (Below.refl _ _).alloc (Nat.le_refl _) _
        have hcx := (show x23.cell? ⟨N, 0, none⟩ = some v from by rw [hBa.cell (by exact World.block_lt_of_cell? x2 _ hcx)]; exact hcx)
        have hfx := (show x23.frozen? ⟨N, 0, none⟩ = false from by rw [hBa.frozen (by exact World.block_lt_of_cell? x2 _ hcy)]; exact hfx)
        have hcy := hcx
        have HX := Lib.hid (HX.out.trans (hBa.mono HX.out.size))
        have HH := Lib.hid (show LsC x23 (some ⟨x2.heap.size, 0, none⟩) [.slice p2 (blkL l i).length c2] from by rw [← hy]; exact LsC.made _ [Value.slice p2 (blkL l i).length c2] _)
        have H2 := Lib.hid (And.intro (H2.out.1.of_below hBa) (And.intro (H2.out.2.1.of_below hBa) H2.out.2.2))
        refine hK _ _ ?_
        clear hK K
        rw [hy]
        clear hy hBa
        try simp only [Act.put, List.setIfInBounds_toArray, List.set_cons_zero, List.set_cons_succ]
        refine wpAnyIn_ready (rs := [4]) (by kernel_rfl) (by simp) ?_
        refine (AllReadyIn.cons (by simp only [List.getElem?_toArray, List.getElem?_cons_succ, List.getElem?_cons_zero]; exact rfl) (fun K hK => ?_) AllReadyIn.nil)
        have hO := own_below HOW.out HX.out
        refine stepIn_appendK elR x23 rfl (.tmp 10) (.tmp 13) rfl (N + 4) rfl hO _ 1 1 [.slice p2 (blkL l i).length c2] rfl rfl HH.out (fun h => by cases h) (fun u hu => by rw [List.mem_singleton] at hu; subst hu; rfl) (by rw [List.length_map]; omega) (Nat.le_trans hNA HX.out.size) ?_
        rintro v' x234 hO' hg hor
        have hHd := HHD.out x23 x234 v' p2 c2 HX.out H2.out.2.1 H2.out.2.2 (fun c o e => H2.out.1.lt c (by rw [e]; rfl)) hO' hg hor
        have hne : some N ≠ v.ownBlock := fun e => by have := (World.ownsRow.lt hO N e.symm).1; omega
        have hcx := (show x234.cell? ⟨N, 0, none⟩ = some v from hg.cell hcx hne)
        have hfx := (show x234.frozen? ⟨N, 0, none⟩ = false from by rw [World.frozen?_of_block (w := x23) (hg.block N (by exact World.block_lt_of_cell? x23 _ hcy) hne)]; exact hfx)
        have HBB := Lib.hid (show x234.heap[N + 1]? = A.heap[N + 1]? from by
          rw [hg.block (N + 1) (by have := HX.out.size; omega) (fun e => by have := (World.ownsRow.lt hO (N + 1) e.symm).1; omega)]
          exact HX.out.block _ (by omega))
        have HBW := Lib.hid (HBE.out.trans ((HX.out.mono (by omega)).grown hg (by have := HX.out.size; omega) (fun k hk => by have := (World.ownsRow.lt hO k hk).1; omega)))
        have HKO := Lib.hid ((others_belowP HX.out).trans (KeepsOthers.grown_own hO hg))
        have HHD2 := Lib.hid hHd
        have hv4 : ∃ p n c, v' = .slice p n c := by obtain ⟨p', c', e', -⟩ := own_shape hO'; exact ⟨_, _, _, e'⟩
        obtain ⟨p4, n4, c4, rfl⟩ := hv4
        have HZ4 := Lib.hid (show N + 4 ≤ x234.heap.size from Nat.le_trans (Nat.le_trans hNA HX.out.size) hg.size)
        clear hO hO' hg hor hHd hne
        refine hK _ _ ?_
        clear hK K
        try simp only [Act.put, List.setIfInBounds_toArray, List.set_cons_zero, List.set_cons_succ]
        refine wpAnyIn_ready (rs := [5]) (by kernel_rfl) (by simp) ?_
        refine (AllReadyIn.cons (by simp only [List.getElem?_toArray, List.getElem?_cons_succ, List.getElem?_cons_zero]; exact rfl) (fun K hK => ?_) AllReadyIn.nil)
        go_simp
        refine hK _ _ ?_
        clear hK K
        try simp only [Act.put, List.setIfInBounds_toArray, List.set_cons_zero, List.set_cons_succ]
        refine wpAnyIn_done (by kernel_rfl) ?_ _
        refine ⟨HKO.out.trans (KeepsOthers.setCell _ _ _), (Below.heap_setCell _ _ _ _ (show N + 1 ≠ N by omega)).trans HBB.out, _, World.cell?_setCell_same _ _ _ hcx, by rw [World.frozen?_setCell]; exact hfx, ?_, HBW.out.setCell (show w.heap.size ≤ (⟨N, 0, none⟩ : Addr).block by rw [hN]; exact Nat.le_refl _) _, by have := HZ4.out; simp; omega⟩
        rw [List.map_append]
        exact HHD2.out.far (by omega)
      · go_simp
        refine ⟨trivial, (CallsIn.inRound L (callsIn_wide.2 (HCL.out _ HX.out))).mono ?_⟩
        rintro e x2 ⟨v2, rfl, hO2, hB2⟩
        obtain ⟨p2, c2, rfl, hs2, hp2, hc2⟩ := hO2.shape
        have hcx := (show x2.cell? ⟨N, 0, none⟩ = some v from by rw [hB2.cell (by exact World.block_lt_of_cell? x _ hcx)]; exact hcx)
        have hfx := (show x2.frozen? ⟨N, 0, none⟩ = false from by rw [hB2.frozen (by exact World.block_lt_of_cell? x _ hcy)]; exact hfx)
        have hcy := hcx
        have hO2 := hO2.lower (b2 := A.heap.size) HX.out.size
        have HX := Lib.hid (HX.out.trans (hB2.mono HX.out.size))
        have H2 := Lib.hid (And.intro hO2 (And.intro hs2 hp2))
        have HZ2 := Lib.hid hB2.size
        clear hO2 hB2 hs2 hp2 hc2
        refine hK _ _ ?_
        clear hK K
        try simp only [Act.put, List.setIfInBounds_toArray, List.set_cons_zero, List.set_cons_succ]
        refine wpAnyIn_ready (rs := [0, 3]) (by kernel_rfl) (by simp) ?_
        refine (AllReadyIn.cons (by simp only [List.getElem?_toArray, List.getElem?_cons_succ, List.getElem?_cons_zero]; exact rfl) (fun K hK => ?_) (AllReadyIn.cons (by simp only [List.getElem?_toArray, List.getElem?_cons_succ, List.getElem?_cons_zero]; exact rfl) (fun K hK => ?_) AllReadyIn.nil))
        · go_simp
          refine hK _ _ ?_
          clear hK K
          try simp only [Act.put, List.setIfInBounds_toArray, List.set_cons_zero, List.set_cons_succ]
          refine wpAnyIn_ready (rs := [3]) (by kernel_rfl) (by simp) ?_
          refine (AllReadyIn.cons (by simp only [List.getElem?_toArray, List.getElem?_cons_succ, List.getElem?_cons_zero]; exact rfl) (fun K hK => ?_) AllReadyIn.nil)
          go_simp
          obtain ⟨x23, hy⟩ : ∃ y, (x2.alloc (.cells #[.slice p2 (blkL l i).length c2] 27)) = y := ⟨_, rfl⟩
          have hBa : Below x2.heap.size x2 x23 := by rw [← hy]; exact (Below.refl _ _).alloc (Nat.le_refl _) _
          have hcx := (show x23.cell? ⟨N, 0, none⟩ = some v from by rw [hBa.cell (by exact World.block_lt_of_cell? x2 _ hcx)]; exact hcx)
          have hfx := (show x23.frozen? ⟨N, 0, none⟩ = false from by rw [hBa.frozen (by exact World.block_lt_of_cell? x2 _ hcy)]; exact hfx)
          have hcy := hcx
          have HX := Lib.hid (HX.out.trans (hBa.mono HX.out.size))
          have HH := Lib.hid (show LsC x23 (some ⟨x2.heap.size, 0, none⟩) [.slice p2 (blkL l i).length c2] from by rw [← hy]; exact LsC.made _ [Value.slice p2 (blkL l i).length c2] _)
          have H2 := Lib.hid (And.intro (H2.out.1.of_below hBa) (And.intro (H2.out.2.1.of_below hBa) H2.out.2.2))
          refine hK _ _ ?_
          clear hK K
          rw [hy]
          clear hy hBa
          try simp only [Act.put, List.setIfInBounds_toArray, List.set_cons_zero, List.set_cons_succ]
          refine wpAnyIn_ready (rs := [4]) (by kernel_rfl) (by simp) ?_
          refine (AllReadyIn.cons (by simp only [List.getElem?_toArray, List.getElem?_cons_succ, List.getElem?_cons_zero]; exact rfl) (fun K hK => ?_) AllReadyIn.nil)
          have hO := own_below HOW.out HX.out
          refine stepIn_appendK elR x23 rfl (.tmp 10) (.tmp 13) rfl (N + 4) rfl hO _ 1 1 [.slice p2 (blkL l i).length c2] rfl rfl HH.out (fun h => by cases h) (fun u hu => by rw [List.mem_singleton] at hu; subst hu; rfl) (by rw [List.length_map]; omega) (Nat.le_trans hNA HX.out.size) ?_
          rintro v' x234 hO' hg hor
          have hHd := HHD.out x23 x234 v' p2 c2 HX.out H2.out.2.1 H2.out.2.2 (fun c o e => H2.out.1.lt c (by rw [e]; rfl)) hO' hg hor
          have hne : some N ≠ v.ownBlock := fun e => by have := (World.ownsRow.lt hO N e.symm).1; omega
          have hcx := (show x234.cell? ⟨N, 0, none⟩ = some v from hg.cell hcx hne)
          have hfx := (show x234.frozen? ⟨N, 0, none⟩ = false from by rw [World.frozen?_of_block (w := x23) (hg.block N (by exact World.block_lt_of_cell? x23 _ hcy) hne)]; exact hfx)
          have HBB := Lib.hid (show x234.heap[N + 1]? = A.heap[N + 1]? from by
            rw [hg.block (N + 1) (by have := HX.out.size; omega) (fun e => by have := (World.ownsRow.lt hO (N + 1) e.symm).1; omega)]
            exact HX.out.block _ (by omega))
          have HBW := Lib.hid (HBE.out.trans ((HX.out.mono (by omega)).grown hg (by have := HX.out.size; omega) (fun k hk => by have := (World.ownsRow.lt hO k hk).1; omega)))
          have HKO := Lib.hid ((others_belowP HX.out).trans (KeepsOthers.grown_own hO hg))
          have HHD2 := Lib.hid hHd
          have hv4 : ∃ p n c, v' = .slice p n c := by obtain ⟨p', c', e', -⟩ := own_shape hO'; exact ⟨_, _, _, e'⟩
          obtain ⟨p4, n4, c4, rfl⟩ := hv4
          have HZ4 := Lib.hid (show N + 4 ≤ x234.heap.size from Nat.le_trans (Nat.le_trans hNA HX.out.size) hg.size)
          clear hO hO' hg hor hHd hne
          refine hK _ _ ?_
          clear hK K
          try simp only [Act.put, List.setIfInBounds_toArray, List.set_cons_zero, List.set_cons_succ]
          refine wpAnyIn_ready (rs := [5]) (by kernel_rfl) (by simp) ?_
          refine (AllReadyIn.cons (by simp only [List.getElem?_toArray, List.getElem?_cons_succ, List.getElem?_cons_zero]; exact rfl) (fun K hK => ?_) AllReadyIn.nil)
          go_simp
          refine hK _ _ ?_
          clear hK K
          try simp only [Act.put, List.setIfInBounds_toArray, List.set_cons_zero, List.set_cons_succ]
          refine wpAnyIn_done (by kernel_rfl) ?_ _
          refine ⟨HKO.out.trans (KeepsOthers.setCell _ _ _), (Below.heap_setCell _ _ _ _ (show N + 1 ≠ N by omega)).trans HBB.out, _, World.cell?_setCell_same _ _ _ hcx, by rw [World.frozen?_setCell]; exact hfx, ?_, HBW.out.setCell (show w.heap.size ≤ (⟨N, 0, none⟩ : Addr).block by rw [hN]; exact Nat.le_refl _) _, by have := HZ4.out; simp; omega⟩
          rw [List.map_append]
          exact HHD2.out.far (by omega)
        · go_simp
          obtain ⟨x23, hy⟩ : ∃ y, (x2.alloc (.cells #[.slice p2 (blkL l i).length c2] 27)) = y := ⟨_, rfl⟩
          have hBa : Below x2.heap.size x2 x23 := by rw [← hy]; exact (Below.refl _ _).alloc (Nat.le_refl _) _
          have hcx := (show x23.cell? ⟨N, 0, none⟩ = some v from by rw [hBa.cell (by exact World.block_lt_of_cell? x2 _ hcx)]; exact hcx)
          have hfx := (show x23.frozen? ⟨N, 0, none⟩ = false from by rw [hBa.frozen (by exact World.block_lt_of_cell? x2 _ hcy)]; exact hfx)
          have hcy := hcx
          have HX := Lib.hid (HX.out.trans (hBa.mono HX.out.size))
          have HH := Lib.hid (show LsC x23 (some ⟨x2.heap.size, 0, none⟩) [.slice p2 (blkL l i).length c2] from by rw [← hy]; exact LsC.made _ [Value.slice p2 (blkL l i).length c2] _)
          have H2 := Lib.hid (And.intro (H2.out.1.of_below hBa) (And.intro (H2.out.2.1.of_below hBa) H2.out.2.2))
          refine hK _ _ ?_
          clear hK K
          rw [hy]
          clear hy hBa
          try simp only [Act.put, List.setIfInBounds_toArray, List.set_cons_zero, List.set_cons_succ]
          refine wpAnyIn_ready (rs := [0]) (by kernel_rfl) (by simp) ?_
          refine (AllReadyIn.cons (by simp only [List.getElem?_toArray, List.getElem?_cons_succ, List.getElem?_cons_zero]; exact rfl) (fun K hK => ?_) AllReadyIn.nil)
          go_simp
          refine hK _ _ ?_
          clear hK K
          try simp only [Act.put, List.setIfInBounds_toArray, List.set_cons_zero, List.set_cons_succ]
          refine wpAnyIn_ready (rs := [4]) (by kernel_rfl) (by simp) ?_
          refine (AllReadyIn.cons (by simp only [List.getElem?_toArray, List.getElem?_cons_succ, List.getElem?_cons_zero]; exact rfl) (fun K hK => ?_) AllReadyIn.nil)
          have hO := own_below HOW.out HX.out
          refine stepIn_appendK elR x23 rfl (.tmp 10) (.tmp 13) rfl (N + 4) rfl hO _ 1 1 [.slice p2 (blkL l i).length c2] rfl rfl HH.out (fun h => by cases h) (fun u hu => by rw [List.mem_singleton] at hu; subst hu; rfl) (by rw [List.length_map]; omega) (Nat.le_trans hNA HX.out.size) ?_
          rintro v' x234 hO' hg hor
          have hHd := HHD.out x23 x234 v' p2 c2 HX.out H2.out.2.1 H2.out.2.2 (fun c o e => H2.out.1.lt c (by rw [e]; rfl)) hO' hg hor
          have hne : some N ≠ v.ownBlock := fun e => by have := (World.ownsRow.lt hO N e.symm).1; omega
          have hcx := (show x234.cell? ⟨N, 0, none⟩ = some v from hg.cell hcx hne)
          have hfx := (show x234.frozen? ⟨N, 0, none⟩ = false from by rw [World.frozen?_of_block (w := x23) (hg.block N (by exact World.block_lt_of_cell? x23 _ hcy) hne)]; exact hfx)
          have HBB := Lib.hid (show x234.heap[N + 1]? = A.heap[N + 1]? from by
            rw [hg.block (N + 1) (by have := HX.out.size; omega) (fun e => by have := (World.ownsRow.lt hO (N + 1) e.symm).1; omega)]
            exact HX.out.block _ (by omega))
          have HBW := Lib.hid (HBE.out.trans ((HX.out.mono (by omega)).grown hg (by have := HX.out.size; omega) (fun k hk => by have := (World.ownsRow.lt hO k hk).1; omega)))
          have HKO := Lib.hid ((others_belowP HX.out).trans (KeepsOthers.grown_own hO hg))
          have HHD2 := Lib.hid hHd
          have hv4 : ∃ p n c, v' = .slice p n c := by obtain ⟨p', c', e', -⟩ := own_shape hO'; exact ⟨_, _, _, e'⟩
          obtain ⟨p4, n4, c4, rfl⟩ := hv4
          have HZ4 := Lib.hid (show N + 4 ≤ x234.heap.size from Nat.le_trans (Nat.le_trans hNA HX.out.size) hg.size)
          clear hO hO' hg hor hHd hne
          refine hK _ _ ?_
          clear hK K
          try simp only [Act.put, List.setIfInBounds_toArray, List.set_cons_zero, List.set_cons_succ]
          refine wpAnyIn_ready (rs := [5]) (by kernel_rfl) (by simp) ?_
          refine (AllReadyIn.cons (by simp only [List.getElem?_toArray, List.getElem?_cons_succ, List.getElem?_cons_zero]; exact rfl) (fun K hK => ?_) AllReadyIn.nil)
          go_simp
          refine hK _ _ ?_
          clear hK K
          try simp only [Act.put, List.setIfInBounds_toArray, List.set_cons_zero, List.set_cons_succ]
          refine wpAnyIn_done (by kernel_rfl) ?_ _
          refine ⟨HKO.out.trans (KeepsOthers.setCell _ _ _), (Below.heap_setCell _ _ _ _ (show N + 1 ≠ N by omega)).trans HBB.out, _, World.cell?_setCell_same _ _ _ hcx, by rw [World.frozen?_setCell]; exact hfx, ?_, HBW.out.setCell (show w.heap.size ≤ (⟨N, 0, none⟩ : Addr).block by rw [hN]; exact Nat.le_refl _) _, by have := HZ4.out; simp; omega⟩
          rw [List.map_append]
          exact HHD2.out.far (by omega)
  case done =>
    rintro D A hD hinv hK
    obtain ⟨v, hcx, hfx, hHd, hBE, -⟩ := hinv
    have HD := Lib.hid hHd
    have HBE := Lib.hid hBE
    clear hHd hBE hfx inv0
    gi_wp2
    refine ⟨by simp, .inl ⟨_, _, rfl, run_takeDeferred hK, ?_⟩⟩
    have hDl := (Array.getElem?_eq_some_iff.1 hK).1
    refine ⟨v, ?_, v, rfl, (HD.out.put hDl (by omega)).lower (by omega), HBE.out.trans (below_putP _ (by omega) hDl)⟩
    simp [results, Tryd.f20, go_sem]
  case stop =>
    rintro D pre A hD hpre hF hK
    exact hF.elim
end Go.Proofs.YtfemgkamgokjcaaDoor
/- Slices of slices of bytes, as they read; the blocks of bytes one behind the other. -/
set_option maxRecDepth 100000
namespace Go.Proofs.YtfemgkamgokjcaaDoor
open Go Go.RowKit

def blks (l : List (BitVec 8)) : List (List (BitVec 8)) := (List.range (nblk l.length)).map (blkL l)
theorem blks_len (l : List (BitVec 8)) : (blks l).length = nblk l.length := by unfold blks; simp
theorem blks_append {l m : List (BitVec 8)} {k : Nat} (h : l.length = 256 * k) : blks (l ++ m) = blks l ++ blks m := by
  unfold blks
  have e1 : nblk l.length = k := by rw [h]; unfold nblk; omega
  have e2 : nblk (l ++ m).length = k + nblk m.length := by rw [List.length_append, h]; unfold nblk; omega
  rw [e1, e2, List.range_add, List.map_append, List.map_map]
  congr 1
  · refine List.map_congr_left fun i hi => ?_
    have hi' : i < k := List.mem_range.1 hi
    unfold blkL
    rw [List.drop_append_of_le_length (by omega), List.take_append_of_le_length (by rw [List.length_drop]; omega)]
  · refine List.map_congr_left fun i _ => ?_
    show blkL (l ++ m) (k + i) = blkL m i
    unfold blkL
    rw [List.drop_append, List.drop_eq_nil_of_le (by omega), List.nil_append, show 256 * (k + i) - l.length = 256 * i by omega]
/-- The headers hs are those of the bytes bs. -/
def Hrows (w : World) (hs : List Value) (bs : List (List (BitVec 8))) : Prop := ∀ i, i < bs.length → ∃ p cap, hs[i]? = some (.slice p (bs.getD i []).length cap) ∧ Sl w p (bs.getD i []) ∧ (p = none → cap = 0)
theorem Hrows.append {w : World} {hs hs' : List Value} {bs bs' : List (List (BitVec 8))} (h : Hrows w hs bs) (h' : Hrows w hs' bs') (hl : hs.length = bs.length) : Hrows w (hs ++ hs') (bs ++ bs') := fun i hi => by
  rw [List.length_append] at hi
  by_cases c : i < bs.length
  · obtain ⟨p, cap, e1, e2, e3⟩ := h i c
    have hg : (bs ++ bs').getD i [] = bs.getD i [] := by simp [List.getD_eq_getElem?_getD, List.getElem?_append_left c]
    rw [hg]
    exact ⟨p, cap, by rw [List.getElem?_append_left (by omega)]; exact e1, e2, e3⟩
  · obtain ⟨p, cap, e1, e2, e3⟩ := h' (i - bs.length) (by omega)
    have hg : (bs ++ bs').getD i [] = bs'.getD (i - bs.length) [] := by simp [List.getD_eq_getElem?_getD, List.getElem?_append_right (Nat.le_of_not_lt c)]
    rw [hg]
    exact ⟨p, cap, by rw [List.getElem?_append_right (by omega), hl]; exact e1, e2, e3⟩
theorem Hrows.of_below {w w' : World} {hs : List Value} {bs : List (List (BitVec 8))} (h : Hrows w hs bs) (k : Below w.heap.size w w') : Hrows w' hs bs := fun i hi => by
  obtain ⟨p, cap, e1, e2, e3⟩ := h i hi
  exact ⟨p, cap, e1, e2.of_below k, e3⟩
theorem Hds.open {w : World} {N : Nat} {v : Value} {bs : List (List (BitVec 8))} (h : Hds w N v bs) : ∃ hs p cap, v = .slice p bs.length cap ∧ hs.length = bs.length ∧ LsC w p hs ∧ (p = none → cap = 0 ∧ bs.length = 0) ∧ bs.length ≤ cap ∧ Hrows w hs bs ∧ (∀ u ∈ hs, u.oneCell' = true) := by
  obtain ⟨hs, h1, h2⟩ := h
  obtain ⟨p, cap, e, h3, h4, h5, -⟩ := own_shape h1
  have hl : hs.length = bs.length := by have := h1.1; omega
  refine ⟨hs, p, cap, e, hl, h3, fun e => ⟨h4 e, by have := h4 e; omega⟩, h5, fun i hi => ?_, fun u hu => ?_⟩
  · obtain ⟨q, d, e1, e2, e3, -⟩ := h2 i hi
    exact ⟨q, d, e1, e2, e3⟩
  · obtain ⟨i, hi, e⟩ := List.getElem_of_mem hu
    obtain ⟨q, d, e1, -⟩ := h2 i (by omega)
    rw [List.getElem?_eq_getElem hi, e] at e1
    injection e1 with e1
    rw [e1]
    rfl
/-- A header that is read. -/
theorem Hrows.cell {w : World} {hs : List Value} {bs : List (List (BitVec 8))} {p : Option Addr} (h : Hrows w hs bs) (hl : LsC w p hs) (i : Nat) (hi : i < bs.length) : ∃ c o q d, p = some ⟨c, o, none⟩ ∧ w.cell? ⟨c, o + i, none⟩ = some (.slice q (bs.getD i []).length d) ∧ Sl w q (bs.getD i []) ∧ (q = none → d = 0) := by
  obtain ⟨q, d, e1, e2, e3⟩ := h i hi
  obtain ⟨c, o, ep, -, hc⟩ := hl.cell e1
  exact ⟨c, o, q, d, ep, hc, e2, e3⟩
end Go.Proofs.YtfemgkamgokjcaaDoor
/- What the program's Reader is in memory; 'close', with which a reading ends. -/
set_option maxRecDepth 100000
namespace Go.Proofs.YtfemgkamgokjcaaDoor
open Go Go.RowKit

theorem cell_off (w : World) (b i j : Nat) (v : Value) (h : i ≠ j) : (w.setCell ⟨b, i, none⟩ v).cell? ⟨b, j, none⟩ = w.cell? ⟨b, j, none⟩ := World.cell?_setCell_other _ _ _ _ (fun e => h (congrArg Addr.off e))
/-- The cells of the reader in block b: what is left, whether the reading goes on, why it was ended. -/
structure RdC (w : World) (b : Nat) (q : Option Addr) (n cap : Nat) (o : Bool) (c : Nat) : Prop where
  c0 : w.cell? ⟨b, 0, none⟩ = some (.slice q n cap)
  c1 : w.cell? ⟨b, 1, none⟩ = some (.bool o)
  c2 : w.cell? ⟨b, 2, none⟩ = some (.int .i64 (c : Int))
  f0 : w.frozen? ⟨b, 0, none⟩ = false
  f1 : w.frozen? ⟨b, 1, none⟩ = false
  f2 : w.frozen? ⟨b, 2, none⟩ = false
theorem RdC.same {w w' : World} {b : Nat} {q : Option Addr} {n cap : Nat} {o : Bool} {c : Nat} (h : RdC w b q n cap o c) (hb : w'.heap[b]? = w.heap[b]?) : RdC w' b q n cap o c :=
  ⟨by rw [World.cell?_of_block (w := w) hb]; exact h.c0, by rw [World.cell?_of_block (w := w) hb]; exact h.c1, by rw [World.cell?_of_block (w := w) hb]; exact h.c2,
   by rw [World.frozen?_of_block (w := w) hb]; exact h.f0, by rw [World.frozen?_of_block (w := w) hb]; exact h.f1, by rw [World.frozen?_of_block (w := w) hb]; exact h.f2⟩
/-- The reader at a has the bytes l left. -/
def RdP (p : Option Addr) (N : Nat) (w : World) (a : Addr) (l : List (BitVec 8)) : Prop := ∃ (b : Nat) (q : Option Addr) (cap : Nat), a = ⟨b, 0, none⟩ ∧ N ≤ b ∧ RdC w b q l.length cap true 0 ∧ Sl w q l ∧ (q = none → cap = 0) ∧ l.length ≤ cap ∧ l.length < 1000000 ∧ (0 < l.length → ∀ c o, q = some ⟨c, o, none⟩ → c < N ∧ ∃ o', p = some ⟨c, o', none⟩)
/-- What is thrown, and that the reader holds why. -/
def ThrP (a : Addr) (c : Nat) (w : World) (v : Value) : Prop := v = .iface 103 (.agg #[.pointer (some a)]) ∧ c ≠ 0 ∧ c < 15 ∧ ∃ (b : Nat) (q : Option Addr) (n cap : Nat), a = ⟨b, 0, none⟩ ∧ RdC w b q n cap true c
theorem ta_end (x : Value) (w : World) : (Instr.typeAssert (.iface 103 x) 20 103 true).run Tryd.prog w = .ok (.tuple #[x, .bool true]) w := by kernel_rfl
theorem pn_in (d : Nat) (a : Addr) (w : World) : (Op.equalIn (d + 1) 69 (.pointer (some a)) (.pointer (some a))).run Tryd.prog w = .ok true w := by
  have hu : Tryd.prog.underlying 69 = some (.pointer 85) := by kernel_rfl
  have hs : (Tryd.prog.info? 85).map (·.size) = some 3 := by kernel_rfl
  cases hq : Tryd.prog.info? 85 with
  | none => rw [hq] at hs; cases hs
  | some i =>
    rw [hq] at hs
    simp at hs
    simp [Op.equalIn, run_underlying hu, sizeOf, typeInfo, hq, hs, sameAddr]
/-- A reader is itself. -/
theorem pn_same (a : Addr) (w : World) : (binOp .neq 69 (.pointer (some a)) (.pointer (some a))).run Tryd.prog w = .ok (.bool false) w := by
  have h : (Op.equal 69 (.pointer (some a)) (.pointer (some a))).run Tryd.prog w = .ok true w := pn_in 9999 a w
  simp only [binOp]
  simp [h]
attribute [local go_sem ↓] ta_end pn_same
set_option maxHeartbeats 1000000 in
/-- The reading was ended. -/
theorem close_thrown (w : World) (b : Nat) (q : Option Addr) (n cap c : Nat) (h : RdC w b q n cap true c) (hc : c ≠ 0) (hc15 : c < 15) : Calls Tryd.prog 54 #[.pointer (some ⟨b, 0, none⟩), .iface 103 (.agg #[.pointer (some ⟨b, 0, none⟩)])] w fun e w' => e = .returned (.int .i64 (c : Int)) ∧ Kp b w w' := by
  obtain ⟨c0, c1, c2, f0, f1, f2⟩ := h
  have hblt := World.block_lt_of_cell? w _ c0
  have k2 : (((w.setCell ⟨b, 0, none⟩ (.slice none 0 0)).setCell ⟨b, 1, none⟩ (.bool false)).alloc (.cells #[.pointer (some ⟨b, 0, none⟩)] 103)).cell? ⟨b, 2, none⟩ = some (.int .i64 (c : Int)) := by
    rw [((Below.refl _ _).alloc (Nat.le_refl _) _).cell (by simpa using hblt), cell_off _ _ _ _ _ (by decide), cell_off _ _ _ _ _ (by decide)]; exact c2
  have hz : ((c : Int) == 0) = false := by simp; omega
  go_enter Tryd.func54, Tryd.ntmps54
  go_wp2
  go_ret
  exact ⟨rfl, (((Kp.refl b w).setCell 0 _).setCell 1 _).alloc _⟩
set_option maxHeartbeats 1000000 in
/-- The reading came to its end. -/
theorem close_idle (w : World) (b : Nat) (q : Option Addr) (n cap : Nat) (h : RdC w b q n cap true 0) : Calls Tryd.prog 54 #[.pointer (some ⟨b, 0, none⟩), .nilIface] w fun e w' => e = .returned (.int .i64 ((if n = 0 then 0 else 6 : Nat) : Int)) ∧ Kp b w w' := by
  obtain ⟨c0, c1, c2, f0, f1, f2⟩ := h
  have k2 : ((w.setCell ⟨b, 0, none⟩ (.slice none 0 0)).setCell ⟨b, 1, none⟩ (.bool false)).cell? ⟨b, 2, none⟩ = some (.int .i64 0) := by
    rw [cell_off _ _ _ _ _ (by decide), cell_off _ _ _ _ _ (by decide)]; exact c2
  by_cases h0 : n = 0
  · subst h0
    go_enter Tryd.func54, Tryd.ntmps54
    go_wp2
    go_ret
    exact ⟨rfl, ((Kp.refl b w).setCell 0 _).setCell 1 _⟩
  · have hRz : decide ((0 : Int) < (n : Int)) = true := decide_eq_true (by omega)
    have hRy : (0 : Int) < (n : Int) := by omega
    rw [if_neg h0]
    go_enter Tryd.func54, Tryd.ntmps54
    go_wp2
    go_ret
    exact ⟨rfl, ((Kp.refl b w).setCell 0 _).setCell 1 _⟩
end Go.Proofs.YtfemgkamgokjcaaDoor
/- Read's deferred closure, which draws its order: what was thrown is recovered, and the reading closed. -/
set_option maxRecDepth 100000
namespace Go.Proofs.YtfemgkamgokjcaaDoor
open Go Go.RowKit

theorem go_step (md : Region.Mode) (ops : Array Oper) (f t : Nat) (L : Array Bool) (acc : List Nat) : Region.linearise.go md ops (f + 1) t L acc =
    match (Region.ready md ops L)[t % (Region.ready md ops L).length]? with
    | some i => Region.linearise.go md ops f (t / (Region.ready md ops L).length) (L.setIfInBounds i true) (i :: acc)
    | none => acc.reverse := rfl
theorem go_one (md : Region.Mode) (ops : Array Oper) (f t : Nat) (L : Array Bool) (acc : List Nat) (i : Nat) (h : Region.ready md ops L = [i]) : Region.linearise.go md ops (f + 1) t L acc = Region.linearise.go md ops f t (L.setIfInBounds i true) (i :: acc) := by
  rw [go_step, h]
  simp [Nat.mod_one]
/-- Four operations, of which the first two come in any order. -/
theorem order4 (ops : Array Oper) (hs : ops.size = 4) (h0 : Region.ready .any ops #[false, false, false, false] = [0, 1]) (h1 : Region.ready .any ops #[true, false, false, false] = [1]) (h2 : Region.ready .any ops #[false, true, false, false] = [0])
    (h3 : Region.ready .any ops #[true, true, false, false] = [2]) (h4 : Region.ready .any ops #[true, true, true, false] = [3]) (t : Nat) : Region.linearise .any ops t = [0, 1, 2, 3] ∨ Region.linearise .any ops t = [1, 0, 2, 3] := by
  unfold Region.linearise
  rw [hs, show Array.replicate 4 false = #[false, false, false, false] from rfl, go_step, h0]
  rcases Nat.mod_two_eq_zero_or_one t with e | e
  · left
    show (match [0, 1][t % 2]? with | some i => Region.linearise.go .any ops 3 (t / 2) (#[false, false, false, false].setIfInBounds i true) [i] | none => [].reverse) = _
    rw [e]
    show Region.linearise.go .any ops 3 (t / 2) #[true, false, false, false] [0] = _
    rw [go_one _ _ _ _ _ _ 1 h1]
    show Region.linearise.go .any ops 2 (t / 2) #[true, true, false, false] [1, 0] = _
    rw [go_one _ _ _ _ _ _ 2 h3]
    show Region.linearise.go .any ops 1 (t / 2) #[true, true, true, false] [2, 1, 0] = _
    rw [go_one _ _ _ _ _ _ 3 h4]
    rfl
  · right
    show (match [0, 1][t % 2]? with | some i => Region.linearise.go .any ops 3 (t / 2) (#[false, false, false, false].setIfInBounds i true) [i] | none => [].reverse) = _
    rw [e]
    show Region.linearise.go .any ops 3 (t / 2) #[false, true, false, false] [1] = _
    rw [go_one _ _ _ _ _ _ 0 h2]
    show Region.linearise.go .any ops 2 (t / 2) #[true, true, false, false] [0, 1] = _
    rw [go_one _ _ _ _ _ _ 2 h3]
    show Region.linearise.go .any ops 1 (t / 2) #[true, true, true, false] [2, 0, 1] = _
    rw [go_one _ _ _ _ _ _ 3 h4]
    rfl
theorem wpS_region4 {P : Program} {id : Nat} {ops : Array Oper} {Q : Exit → Act → List Frame → World → Prop} {a : Act} {cs : List Frame} {w : World} (hm : P.follows .mixedOrders = true) (hs : ops.size = 4) (h0 : Region.ready .any ops #[false, false, false, false] = [0, 1]) (h1 : Region.ready .any ops #[true, false, false, false] = [1]) (h2 : Region.ready .any ops #[false, true, false, false] = [0])
    (h3 : Region.ready .any ops #[true, true, false, false] = [2]) (h4 : Region.ready .any ops #[true, true, true, false] = [3]) (hA : wpOpsS P ops Q [0, 1, 2, 3] a cs w.drew) (hB : wpOpsS P ops Q [1, 0, 2, 3] a cs w.drew) : (Code.region id ops true).wpS P Q a cs w := by
  have h : ∀ t, wpOpsS P ops Q (Region.schedule (P.follows .mixedOrders) ops t) a cs w.drew := fun t => by
    simp only [Region.schedule, hm, Bool.true_or, if_true]
    rcases order4 ops hs h0 h1 h2 h3 h4 t with e | e
    · rw [e]; exact hA
    · rw [e]; exact hB
  intro b k hb hr
  obtain ⟨e, a', cs', w', q, r⟩ := wp_opsS _ a cs _ (h _) b k hb hr
  exact ⟨e, a', cs', w', q, .of_steps (.one step_region_draw) r⟩
set_option maxHeartbeats 400000 in
/-- The deferred closure where the reading was ended. -/
theorem catch_thrown (b : Nat) (q : Option Addr) (n cap c : Nat) (rb cb : Nat) (old : Value) (w : World) (h : RdC w b q n cap true c) (h0 : c ≠ 0) (h15 : c < 15) (hr : w.cell? ⟨rb, 0, none⟩ = some (.pointer (some ⟨b, 0, none⟩))) (hc : w.cell? ⟨cb, 0, none⟩ = some old) (hf : w.frozen? ⟨cb, 0, none⟩ = false) (hne : cb ≠ b) :
    CallsD Tryd.prog 53 #[.pointer (some ⟨rb, 0, none⟩), .pointer (some ⟨cb, 0, none⟩)] (.panicking [{ v := .iface 103 (.agg #[.pointer (some ⟨b, 0, none⟩)]), recovered := false }]) w fun e u' w' =>
      e = .returned (.tuple #[]) ∧ u' = .panicking [{ v := .iface 103 (.agg #[.pointer (some ⟨b, 0, none⟩)]), recovered := true }] ∧ ∃ w2, Kp b w w2 ∧ w' = w2.setCell ⟨cb, 0, none⟩ (.int .i64 (c : Int)) := by
  have hlt := World.block_lt_of_cell? w _ hc
  have HC := Lib.hid (close_thrown w.drew b q n cap c (h.same rfl) h0 h15)
  refine callsD_of_wpS Tryd.func53 rfl fun c₀ cs hu => ?_
  refine wpS_region4 (by kernel_rfl) rfl (by kernel_rfl) (by kernel_rfl) (by kernel_rfl) (by kernel_rfl) (by kernel_rfl) ?_ ?_
  · simp [wpOpsS, go_sem, recoverD, hu, hr, Tryd.ntmps53, Exit.thenS]
    refine HC.out.mono ?_
    rintro e w2 ⟨rfl, hK⟩
    have k1 : w2.cell? ⟨cb, 0, none⟩ = some old := by rw [hK.cell (by exact hlt) (by exact hne)]; exact hc
    have k2 : w2.frozen? ⟨cb, 0, none⟩ = false := by rw [hK.frozen (by exact hlt) (by exact hne)]; exact hf
    simp [go_sem, k1, k2, bodyPostS, results, Tryd.results53]
    exact ⟨w2, ((Kp.refl b w).drewN 1).trans hK, rfl⟩
  · simp [wpOpsS, go_sem, recoverD, hu, hr, Tryd.ntmps53, Exit.thenS]
    refine HC.out.mono ?_
    rintro e w2 ⟨rfl, hK⟩
    have k1 : w2.cell? ⟨cb, 0, none⟩ = some old := by rw [hK.cell (by exact hlt) (by exact hne)]; exact hc
    have k2 : w2.frozen? ⟨cb, 0, none⟩ = false := by rw [hK.frozen (by exact hlt) (by exact hne)]; exact hf
    simp [go_sem, k1, k2, bodyPostS, results, Tryd.results53]
    exact ⟨w2, ((Kp.refl b w).drewN 1).trans hK, rfl⟩
set_option maxHeartbeats 400000 in
/-- The deferred closure where the reading came to its end. -/
theorem catch_idle (b : Nat) (q : Option Addr) (n cap : Nat) (rb cb : Nat) (old : Value) (w : World) (h : RdC w b q n cap true 0) (hr : w.cell? ⟨rb, 0, none⟩ = some (.pointer (some ⟨b, 0, none⟩))) (hc : w.cell? ⟨cb, 0, none⟩ = some old) (hf : w.frozen? ⟨cb, 0, none⟩ = false) (hne : cb ≠ b) :
    CallsD Tryd.prog 53 #[.pointer (some ⟨rb, 0, none⟩), .pointer (some ⟨cb, 0, none⟩)] .returning w fun e u' w' =>
      e = .returned (.tuple #[]) ∧ u' = .returning ∧ ∃ w2, Kp b w w2 ∧ w' = w2.setCell ⟨cb, 0, none⟩ (.int .i64 ((if n = 0 then 0 else 6 : Nat) : Int)) := by
  have hlt := World.block_lt_of_cell? w _ hc
  have HC := Lib.hid (close_idle w.drew b q n cap (h.same rfl))
  refine callsD_of_wpS Tryd.func53 rfl fun c₀ cs hu => ?_
  refine wpS_region4 (by kernel_rfl) rfl (by kernel_rfl) (by kernel_rfl) (by kernel_rfl) (by kernel_rfl) (by kernel_rfl) ?_ ?_
  · simp [wpOpsS, go_sem, recoverD, hu, hr, Tryd.ntmps53, Exit.thenS]
    refine HC.out.mono ?_
    rintro e w2 ⟨rfl, hK⟩
    have k1 : w2.cell? ⟨cb, 0, none⟩ = some old := by rw [hK.cell (by exact hlt) (by exact hne)]; exact hc
    have k2 : w2.frozen? ⟨cb, 0, none⟩ = false := by rw [hK.frozen (by exact hlt) (by exact hne)]; exact hf
    simp [go_sem, k1, k2, bodyPostS, results, Tryd.results53]
    exact ⟨.returning, by cases c₀; simp_all, rfl, w2, ((Kp.refl b w).drewN 1).trans hK, rfl⟩
  · simp [wpOpsS, go_sem, recoverD, hu, hr, Tryd.ntmps53, Exit.thenS]
    refine HC.out.mono ?_
    rintro e w2 ⟨rfl, hK⟩
    have k1 : w2.cell? ⟨cb, 0, none⟩ = some old := by rw [hK.cell (by exact hlt) (by exact hne)]; exact hc
    have k2 : w2.frozen? ⟨cb, 0, none⟩ = false := by rw [hK.frozen (by exact hlt) (by exact hne)]; exact hf
    simp [go_sem, k1, k2, bodyPostS, results, Tryd.results53]
    exact ⟨.returning, by cases c₀; simp_all, rfl, w2, ((Kp.refl b w).drewN 1).trans hK, rfl⟩
theorem Sl.blk6 {w : World} {p : Option Addr} {l : List (BitVec 8)} (h : Sl w p l) (hl : 0 < l.length) : ∀ c o, p = some ⟨c, o, none⟩ → c < w.heap.size := fun c o e => by
  obtain ⟨c', o', e', hc⟩ := h 0 hl
  rw [e] at e'
  injection e' with e'
  injection e' with e1 e2
  subst e1
  exact World.block_lt_of_cell? w _ hc
theorem sl_full (q : Option Addr) (n cap : Nat) (w : World) (hn : n ≤ cap) : (slT 27 (.slice q n cap) none (some (.int .i64 (n : Int))) (some (.int .i64 (n : Int)))).run Tryd.prog w = .ok (.value (.slice q n n)) w := by
  have h1 := run_sliceAt_slice (P := Tryd.prog) w 27 (.slice q n cap) none (some (.int .i64 (n : Int))) (some (.int .i64 (n : Int))) und35
  rw [run_slice_hm (P := Tryd.prog) w 27 q n cap und35 .i64 .i64 (n : Int) (n : Int) (by omega) (by omega) (by omega), sizeB] at h1
  simp only [slT, Sem.run_bind, h1, Result.andThen_ok, Sem.run_pure]
  simp only [sliced, Int.toNat_natCast, Nat.zero_mul, Nat.sub_zero]
  have := cutA_zero q n
  unfold cutA at this
  rw [this]
attribute [local go_sem] mkFn sl_full
attribute [local go_sem ↓] exec_slice
set_option maxRecDepth 100000 in
set_option maxHeartbeats 4000000 in
theorem read_any (l : List (BitVec 8)) (p : Option Addr) (n cap g : Nat) (caps : Array Value) (w : World) (J : Nat → World → Prop) (hl : l.length = n) (hs : Sl w p l) (hp : p = none → cap = 0) (hnc : n ≤ cap) (hn : n < 1000000)
    (hent : ∀ args w, (callFunc g args).run Tryd.prog w = .ok (.enter g args) w) (hJ : ∀ c x y, J c x → Below w.heap.size x y → J c y)
    (hf : ∀ a w1, Below w.heap.size w w1 → RdP p w.heap.size w1 a l → Calls Tryd.prog g (#[.pointer (some a)] ++ caps) w1 fun e w2 => Loc w.heap.size a.block w1 w2 ∧ ((∃ rest, e = .returned (.tuple #[]) ∧ RdP p w.heap.size w2 a rest ∧ J (if rest = [] then 0 else 6) w2) ∨ (∃ code : Nat, Thrown (ThrP a) code e w2 ∧ J code w2))) :
    Calls Tryd.prog 34 #[.slice p n cap, .func (.func g) #[] caps] w fun e w' => ∃ code : Nat, e = .returned (.int .i64 (code : Int)) ∧ J code w' := by
  go_enter_defers Tryd.func34, Tryd.ntmps34
  have hB3 : Below w.heap.size w (((w.alloc (.cells #[.int .i64 0] 34)).alloc (.cells #[.slice p n n, .bool true, .int .i64 0] 85)).alloc (.cells #[.pointer (some ⟨w.heap.size + 1, 0, none⟩)] 69)) := (((Below.refl _ _).alloc (Nat.le_refl _) _).alloc (by simp [World.size_alloc]) _).alloc (by simp [World.size_alloc]; omega) _
  have hz3 : (((w.alloc (.cells #[.int .i64 0] 34)).alloc (.cells #[.slice p n n, .bool true, .int .i64 0] 85)).alloc (.cells #[.pointer (some ⟨w.heap.size + 1, 0, none⟩)] 69)).heap.size = w.heap.size + 1 + 1 + 1 := by simp [World.size_alloc]
  have c0 : (((w.alloc (.cells #[.int .i64 0] 34)).alloc (.cells #[.slice p n n, .bool true, .int .i64 0] 85)).alloc (.cells #[.pointer (some ⟨w.heap.size + 1, 0, none⟩)] 69)).cell? ⟨w.heap.size, 0, none⟩ = some (.int .i64 0) := by go_simp
  have d0 : (((w.alloc (.cells #[.int .i64 0] 34)).alloc (.cells #[.slice p n n, .bool true, .int .i64 0] 85)).alloc (.cells #[.pointer (some ⟨w.heap.size + 1, 0, none⟩)] 69)).frozen? ⟨w.heap.size, 0, none⟩ = false := by go_simp
  have hrd : RdC (((w.alloc (.cells #[.int .i64 0] 34)).alloc (.cells #[.slice p n n, .bool true, .int .i64 0] 85)).alloc (.cells #[.pointer (some ⟨w.heap.size + 1, 0, none⟩)] 69)) (w.heap.size + 1) p n n true 0 := ⟨by go_simp, by go_simp, by go_simp, by go_simp, by go_simp, by go_simp⟩
  have c2 : (((w.alloc (.cells #[.int .i64 0] 34)).alloc (.cells #[.slice p n n, .bool true, .int .i64 0] 85)).alloc (.cells #[.pointer (some ⟨w.heap.size + 1, 0, none⟩)] 69)).cell? ⟨w.heap.size + 1 + 1, 0, none⟩ = some (.pointer (some ⟨w.heap.size + 1, 0, none⟩)) := by go_simp
  have hnil : p = none → n = 0 := fun e => by
    rcases Nat.eq_zero_or_pos n with h | h
    · exact h
    · obtain ⟨c, o, e2, -⟩ := hs 0 (by omega)
      rw [e] at e2; cases e2
  have HRD := Lib.hid (show RdP p w.heap.size (((w.alloc (.cells #[.int .i64 0] 34)).alloc (.cells #[.slice p n n, .bool true, .int .i64 0] 85)).alloc (.cells #[.pointer (some ⟨w.heap.size + 1, 0, none⟩)] 69)) ⟨w.heap.size + 1, 0, none⟩ l from
    ⟨w.heap.size + 1, p, n, rfl, Nat.le_succ _, by rw [hl]; exact hrd, hs.of_below hB3, hnil, by omega, by omega, fun h c o e => ⟨hs.blk6 h c o e, o, e⟩⟩)
  have HF := Lib.hid (hf ⟨w.heap.size + 1, 0, none⟩ _ hB3 HRD.out)
  have HC := Lib.hid (And.intro c0 (And.intro d0 (And.intro c2 hz3)))
  have HJ := Lib.hid hJ
  have HB3 := Lib.hid hB3
  clear hf HRD c0 d0 c2 hz3 hJ hs hp hB3 hrd
  go_wp2_with fail
  refine HF.out.mono ?_
  clear HF
  generalize (((w.alloc (.cells #[.int .i64 0] 34)).alloc (.cells #[.slice p n n, .bool true, .int .i64 0] 85)).alloc (.cells #[.pointer (some ⟨w.heap.size + 1, 0, none⟩)] 69)) = W3 at *
  generalize hH : w.heap.size = H at *
  rintro e w2 ⟨hLo, h⟩
  have k0 : w2.cell? ⟨H, 0, none⟩ = some (.int .i64 0) := by rw [World.cell?_of_block (w := W3) (hLo.block H (Nat.le_refl _) (by rw [HC.out.2.2.2]; omega) (by show H ≠ H + 1; omega))]; exact HC.out.1
  have k1 : w2.frozen? ⟨H, 0, none⟩ = false := by rw [World.frozen?_of_block (w := W3) (hLo.block H (Nat.le_refl _) (by rw [HC.out.2.2.2]; omega) (by show H ≠ H + 1; omega))]; exact HC.out.2.1
  have k2 : w2.cell? ⟨H + 1 + 1, 0, none⟩ = some (.pointer (some ⟨H + 1, 0, none⟩)) := by rw [World.cell?_of_block (w := W3) (hLo.block (H + 1 + 1) (by omega) (by rw [HC.out.2.2.2]; omega) (by show H + 1 + 1 ≠ H + 1; omega))]; exact HC.out.2.2.1
  have hz2 : H + 1 + 1 + 1 ≤ w2.heap.size := by rw [← HC.out.2.2.2]; exact hLo.size
  have hlast : ∀ (c : Nat) (w4 : World), Kp (H + 1) w2 w4 → J c w2 → J c (w4.setCell ⟨H, 0, none⟩ (.int .i64 (c : Int))) ∧ (w4.setCell ⟨H, 0, none⟩ (.int .i64 (c : Int))).cell? ⟨H, 0, none⟩ = some (.int .i64 (c : Int)) := fun c w4 hK hj => by
    have hb := (hK.below (N := H) (by omega) (by omega)).setCell (show H ≤ (⟨H, 0, none⟩ : Addr).block from Nat.le_refl H) (.int .i64 (c : Int))
    refine ⟨HJ.out c _ _ hj hb, World.cell?_setCell_same _ _ _ (u := .int .i64 0) ?_⟩
    rw [hK.cell (by show H < _; omega) (by show H ≠ H + 1; omega)]; exact k0
  rcases h with ⟨rest, rfl, ⟨b, q2, cap2, hb, hNb, r1, -⟩, hJ2⟩ | ⟨code, ⟨v, ⟨rfl, hc0, hc15, b, q2, n2, cap2, hb, r1⟩, rfl⟩, hJ2⟩
  · injection hb with hb _ _
    subst hb
    have HR1 := Lib.hid r1
    have HJ2 := Lib.hid hJ2
    have HL := Lib.hid hlast
    have H2 := Lib.hid (And.intro k0 (And.intro k1 k2))
    clear r1 hJ2 hlast k0 k1 k2 hLo
    obtain ⟨x, hx⟩ : ∃ x : Nat, (if rest.length = 0 then 0 else 6) = x := ⟨_, rfl⟩
    have hx2 : (if rest = [] then 0 else 6 : Nat) = x := by rw [← hx]; cases rest <;> simp
    have hci := catch_idle (H + 1) q2 rest.length cap2 (H + 1 + 1) H _ w2 HR1.out H2.out.2.2 H2.out.1 H2.out.2.1 (by omega)
    rw [hx] at hci
    have HCI := Lib.hid hci
    rw [hx2] at HJ2
    clear hx hx2 hci
    go_wp2
    refine leaves_cons (f := 53) (args := #[.pointer (some ⟨H + 1 + 1, 0, none⟩), .pointer (some ⟨H, 0, none⟩)]) (by simp) (by simp [go_sem]) ?_
    refine HCI.out.mono ?_
    rintro e u' w'' ⟨rfl, rfl, w4, hK, rfl⟩
    obtain ⟨hj, kk⟩ := HL.out x w4 hK HJ2.out
    simp [Leaves, settle, results, Tryd.results34, go_sem, kk]
    exact ⟨x, rfl, hj⟩
  · injection hb with hb _ _
    subst hb
    dsimp only
    refine leaves_cons (f := 53) (args := #[.pointer (some ⟨H + 1 + 1, 0, none⟩), .pointer (some ⟨H, 0, none⟩)]) (by simp) (by simp [go_sem]) ?_
    refine (catch_thrown (H + 1) q2 n2 cap2 code (H + 1 + 1) H _ w2 r1 hc0 hc15 k2 k0 k1 (by omega)).mono ?_
    rintro e u' w'' ⟨rfl, rfl, w4, hK, rfl⟩
    obtain ⟨hj, kk⟩ := hlast code w4 hK hJ2
    simp [Leaves, settle, results, Tryd.results34, go_sem, kk]
    exact ⟨code, rfl, hj⟩
end Go.Proofs.YtfemgkamgokjcaaDoor
/- The reader's small functions: what lies where, Left, cmp.Or of an error, Fail. -/
set_option maxRecDepth 100000
namespace Go.Proofs.YtfemgkamgokjcaaDoor
open Go Go.RowKit

theorem rdP_lie (p : Option Addr) (N : Nat) (w : World) (a : Addr) (l : List (BitVec 8)) (h : RdP p N w a l) : N ≤ a.block ∧ a.block < w.heap.size := by
  obtain ⟨b, q, cap, rfl, h1, h2, -⟩ := h
  exact ⟨h1, World.block_lt_of_cell? w _ h2.c0⟩
theorem rdP_stay (p : Option Addr) (N : Nat) (w w' : World) (a : Addr) (l : List (BitVec 8)) (h : RdP p N w a l) (hs : w.heap.size ≤ w'.heap.size) (hb : w'.heap[a.block]? = w.heap[a.block]?) (hp : ∀ c o, p = some ⟨c, o, none⟩ → c < N → w'.heap[c]? = w.heap[c]?) : RdP p N w' a l := by
  obtain ⟨b, q, cap, rfl, h1, h2, h4, h5, h6, h7, h8⟩ := h
  refine ⟨b, q, cap, rfl, h1, h2.same hb, fun j hj => ?_, h5, h6, h7, h8⟩
  obtain ⟨c, o, e, hx⟩ := h4 j hj
  obtain ⟨hc, o', e'⟩ := h8 (by omega) c o e
  exact ⟨c, o, e, by rw [World.cell?_of_block (w := w) (hp c o' e' hc)]; exact hx⟩
set_option maxHeartbeats 1000000 in
/-- cmp.Or of no reason so far, a reason that is told, and ErrForm. -/
theorem or_any (m c x : Nat) (w : World) (hx : (if c = 0 then 6 else c) = x) (h0 : w.cell? ⟨m, 0, none⟩ = some (.int .i64 0)) (h1 : w.cell? ⟨m, 1, none⟩ = some (.int .i64 (c : Int))) (h2 : w.cell? ⟨m, 2, none⟩ = some (.int .i64 6)) :
    Calls Tryd.prog 81 #[.slice (some ⟨m, 0, none⟩) 3 3] w fun e w' => e = .returned (.int .i64 (x : Int)) ∧ w = w' := by
  have HC := Lib.hid (And.intro h0 (And.intro h1 h2))
  clear h0 h1 h2
  go_enter Tryd.func81, Tryd.ntmps81
  go_wp2
  go_loopw [5, 8] (fun vv vi wr => (vi = .int .i64 0 ∨ vi = .int .i64 1 ∨ (vi = .int .i64 2 ∧ c = 0)) ∧ w = wr) (fun vv vi _ => 3 - (intOf vi).toNat)
  case atStart => exact ⟨.inl rfl, rfl⟩
  case round =>
    obtain ⟨hi, rfl⟩ := hrel
    obtain ⟨h0, h1, h2⟩ := HC.out
    rcases hi with rfl | rfl | ⟨rfl, hc⟩
    · clear h1 h2
      go_wp2
      exact ⟨⟨.inr (.inl rfl), trivial⟩, by decide⟩
    · clear h0 h2
      by_cases h : c = 0
      · subst h
        go_wp2
        exact ⟨⟨.inr (.inr ⟨rfl, trivial⟩), trivial⟩, by decide⟩
      · rw [if_neg h] at hx
        subst hx
        have hz : ((c : Int) == 0) = false := by simp; omega
        have hz2 : ((c : Int) != 0) = true := by simp; omega
        go_wp2
        go_ret
        exact ⟨rfl, rfl⟩
    · rw [if_pos hc] at hx
      subst hx
      clear hc
      go_wp2
      go_ret
      exact ⟨rfl, rfl⟩
set_option maxHeartbeats 1000000 in
theorem rdP_fail (p : Option Addr) (N : Nat) (w : World) (a : Addr) (l : List (BitVec 8)) (c : Nat) (h : RdP p N w a l) (hc : c < 15) : Calls Tryd.prog 74 #[.pointer (some a), .int .i64 (c : Int)] w fun e w' => Thrown (ThrP a) (if c = 0 then 6 else c) e w' ∧ Kp a.block w w' := by
  obtain ⟨b, q, cap, rfl, h1, h2, -⟩ := h
  obtain ⟨k0, k1, k2, f0, f1, f2⟩ := h2
  have hblt := World.block_lt_of_cell? w _ k0
  obtain ⟨V, hV⟩ : ∃ V, w.alloc (.cells #[.int .i64 0, .int .i64 (c : Int), .int .i64 6] 34) = V := ⟨_, rfl⟩
  have hB : Below w.heap.size w V := by rw [← hV]; exact (Below.refl _ _).alloc (Nat.le_refl _) _
  obtain ⟨x, hx⟩ : ∃ x : Nat, (if c = 0 then 6 else c) = x := ⟨_, rfl⟩
  have HO := Lib.hid (or_any w.heap.size c x V hx (by rw [← hV]; exact World.cell?_alloc_new _ _ _ _) (by rw [← hV]; exact World.cell?_alloc_new _ _ _ _) (by rw [← hV]; exact World.cell?_alloc_new _ _ _ _))
  have v2 : V.cell? ⟨b, 2, none⟩ = some (.int .i64 0) := by rw [hB.cell (by exact hblt)]; exact k2
  have g2 : V.frozen? ⟨b, 2, none⟩ = false := by rw [hB.frozen (by exact hblt)]; exact f2
  rw [hx]
  have hx15 : x ≠ 0 ∧ x < 15 := by subst hx; split <;> omega
  have HX := Lib.hid hx15
  have HK := Lib.hid (show RdC (V.setCell ⟨b, 2, none⟩ (.int .i64 (x : Int))) b q l.length cap true x ∧ Kp b w (V.setCell ⟨b, 2, none⟩ (.int .i64 (x : Int))) from
    ⟨⟨by rw [cell_off _ _ _ _ _ (by decide), hB.cell (by exact hblt)]; exact k0, by rw [cell_off _ _ _ _ _ (by decide), hB.cell (by exact hblt)]; exact k1, World.cell?_setCell_same _ _ _ v2,
      by rw [World.frozen?_setCell, hB.frozen (by exact hblt)]; exact f0, by rw [World.frozen?_setCell, hB.frozen (by exact hblt)]; exact f1, by rw [World.frozen?_setCell]; exact g2⟩,
     ((Kp.refl b w).of_below hB).setCell 2 _⟩)
  have hV2 := Lib.hid hV
  clear hx hx15 k0 f0 f1 f2 hB
  go_enter Tryd.func74, Tryd.ntmps74
  go_wp2_with fail
  refine HO.out.mono ?_
  rintro e w' ⟨rfl, rfl⟩
  clear hV HO
  go_wp2
  exact ⟨rfl, ⟨_, ⟨rfl, HX.out.1, HX.out.2, b, q, _, cap, rfl, HK.out.1⟩, rfl⟩, HK.out.2⟩
end Go.Proofs.YtfemgkamgokjcaaDoor
/- The program's numbers, read: 'first'. -/
set_option maxRecDepth 100000
namespace Go.Proofs.YtfemgkamgokjcaaDoor
open Go Go.RowKit

/-- The number at the beginning, and the size of its encoding; 0 and 0 if there is none. -/
def num2 (l : List (BitVec 8)) : Nat × Nat := (num7 l).getD (0, 0)
def pairI (x : Nat × Nat) : Value := .tuple #[.int .i64 (x.1 : Int), .int .i64 (x.2 : Int)]
theorem num2_none {l : List (BitVec 8)} (h : num7 l = none) : num2 l = (0, 0) := by unfold num2; rw [h]; rfl
theorem num2_some {l : List (BitVec 8)} {x : Nat × Nat} (h : num7 l = some x) : num2 l = x := by unfold num2; rw [h]; rfl
/-- Groups that don't meet. -/
theorem or7 (acc t S : Nat) (h : acc < 2 ^ S) (hb : acc + t * 2 ^ S < 9223372036854775808) : bits .or .i64 (acc : Int) ((t * 2 ^ S : Nat) : Int) = ((acc + t * 2 ^ S : Nat) : Int) := by
  show IntKind.i64.wrap ((BitVec.ofInt 64 (acc : Int) ||| BitVec.ofInt 64 ((t * 2 ^ S : Nat) : Int)).toNat : Int) = _
  rw [BitVec.toNat_or, ofInt_u64 acc (by omega), ofInt_u64 (t * 2 ^ S) (by omega), Nat.or_comm, Nat.mul_comm, ← Nat.two_pow_add_eq_or_of_lt h, Nat.add_comm]
  exact Lib.wrap_i64_small _ (by rw [Nat.mul_comm]; exact hb)
attribute [local go_sem] sl_hi
attribute [local go_sem ↓] exec_slice
set_option maxRecDepth 100000 in
set_option maxHeartbeats 4000000 in
theorem first_any (l : List (BitVec 8)) (p : Option Addr) (n cap : Nat) (w : World) (hl : l.length = n) (hs : Sl w p l) (hnc : n ≤ cap) (hn : n < 1000000) : Calls Tryd.prog 80 #[.slice p n cap] w fun e w' => e = .returned (pairI (num2 l)) ∧ w = w' := by
  have HL := Lib.hid hl
  have HS := Lib.hid hs
  clear hl hs
  obtain ⟨m, hm⟩ : ∃ m : Nat, m = min n 9 := ⟨_, rfl⟩
  have hm1 : min (n : Int) 9 = (m : Int) := by omega
  have hmc : m ≤ cap := by omega
  have hm9 : m ≤ 9 := by omega
  have hmn : m ≤ n := by omega
  have HM := Lib.hid hm
  clear hm
  go_enter Tryd.func80, Tryd.ntmps80
  go_wp2
  go_loopw [2, 4, 5, 12] (fun va vi0 vx vi wr => ∃ (i acc : Nat), i ≤ m ∧ vi = .int .i64 i ∧ va = .int .i64 acc ∧ Mid7 l i acc ∧ w = wr) (fun va vi0 vx vi _ => 10 - (intOf vi).toNat)
  case atStart => exact ⟨0, 0, Nat.zero_le _, rfl, rfl, Mid7.zero l, rfl⟩
  case round =>
    obtain ⟨i, acc, him, rfl, rfl, hM, rfl⟩ := hrel
    by_cases hlt : i < m
    · have hltz : (i : Int) < (m : Int) := by omega
      have hld : decide ((i : Int) < (m : Int)) = true := decide_eq_true hltz
      obtain ⟨c0, o0, hpe, hx⟩ := HS.out i (by rw [HL.out]; omega)
      subst hpe
      have hl9 : i < l.length := by rw [HL.out]; omega
      have h9 : i < 9 := by omega
      have hP := pow_le8 (show i ≤ 8 by omega)
      have hacc := hM.lt
      have hcl := (l.getD i 0#8).isLt
      have HLAST := Lib.hid (fun a b => hM.last hl9 h9 a b)
      have HNEXT := Lib.hid (fun a => hM.next hl9 h9 a)
      have HVAIN := Lib.hid (fun a b => hM.vain hl9 h9 a b)
      rw [B_eq'] at hx
      obtain ⟨c, hc⟩ : ∃ c, (l.getD i 0#8).toNat = c := ⟨_, rfl⟩
      rw [hc] at hx hcl HLAST HNEXT HVAIN
      obtain ⟨t, ht⟩ : ∃ t, t = c % 128 := ⟨_, rfl⟩
      have htb : t ≤ 127 := by omega
      rw [← ht] at HNEXT
      obtain ⟨S, hS⟩ : ∃ S, 7 * i = S := ⟨_, rfl⟩
      have hPS : 128 ^ i = 2 ^ S := by rw [← hS, Nat.pow_mul]
      have hO := or7 acc t S (by rw [← hPS]; exact hacc) (by rw [← hPS]; exact sum7 hacc htb hP)
      rw [hPS] at hacc hP HNEXT HLAST
      have hsum := sum7 hacc htb hP
      have t1 : (c : Int) % 128 = (t : Int) := by clear hO; omega
      have t2 : (c : Int).tmod 128 = (t : Int) := by rw [Int.tmod_eq_emod_of_nonneg (by clear hO; omega)]; exact t1
      have t3 : IntKind.u8.wrap (t : Int) = (t : Int) := by rw [IntKind.wrap_u8']; clear hO; omega
      have t4 : IntKind.i64.wrap (t : Int) = (t : Int) := i64w _ (by clear hO t1 t2; omega) (by clear hO t1 t2; omega)
      have s1 : 7 * (i : Int) = (S : Int) := by clear hO t1 t2; omega
      have s2 : wrap64 (S : Int) = (S : Int) := w64 _ (by clear hO t1 t2; omega) (by clear hO t1 t2; omega)
      have s3 : (S : Int) ≤ 64 := by clear hO t1 t2; omega
      have s4 : (0 : Int) ≤ (S : Int) := by clear hO t1 t2; omega
      have s5 : IntKind.i64.wrap (S : Int) = (S : Int) := i64w _ (by clear hO t1 t2; omega) (by clear hO t1 t2; omega)
      obtain ⟨Q, hQ⟩ : ∃ Q, 2 ^ S = Q := ⟨_, rfl⟩
      have s6 : (2 : Int) ^ S = (Q : Int) := by rw [← hQ]; simp
      rw [hQ] at hO hacc hP HNEXT HLAST hsum
      obtain ⟨M, hMM⟩ : ∃ M, t * Q = M := ⟨_, rfl⟩
      rw [hMM] at hsum hO HNEXT
      have m1 : (t : Int) * (Q : Int) = (M : Int) := by rw [← hMM]; simp
      have m2 : IntKind.i64.wrap (M : Int) = (M : Int) := i64n _ (Nat.lt_of_le_of_lt (Nat.le_add_left _ _) hsum)
      have m3 : wrap64 (M : Int) = (M : Int) := w64n _ (Nat.lt_of_le_of_lt (Nat.le_add_left _ _) hsum)
      clear hM hPS hQ hS
      obtain ⟨A2, hA2⟩ : ∃ A2, acc + M = A2 := ⟨_, rfl⟩
      rw [hA2] at hO HNEXT hsum
      have i1 : IntKind.i64.wrap ((i : Int) + 1) = (i : Int) + 1 := i64w _ (by clear t1 t2 m1 m2 m3 hO s6; omega) (by clear t1 t2 m1 m2 m3 hO s6; omega)
      by_cases hc1 : c < 128
      · have hc1z : ¬ (128 : Int) ≤ (c : Int) := by clear t1 t2 m1 m2 m3 hO s6; omega
        have hc1d : decide ((128 : Int) ≤ (c : Int)) = false := decide_eq_false hc1z
        obtain rfl : t = c := by rw [ht]; exact Nat.mod_eq_of_lt hc1
        rw [hMM, hA2] at HLAST
        clear HNEXT hMM hP hacc ht hA2
        by_cases hz : t = 0
        · have hz0 : ((t : Int) == 0) = true := by rw [hz]; rfl
          by_cases hi0 : 0 < i
          · have hT := Lib.hid (num2_none (HVAIN.out hi0 hz))
            have v1z : (0 : Int) < (i : Int) := by clear t1 t2 m1 m2 m3 hO s6; omega
            have v1d : decide ((0 : Int) < (i : Int)) = true := decide_eq_true v1z
            clear HVAIN HLAST hc hz
            go_wp2
            go_ret2
            exact ⟨by rw [hT.out]; rfl, rfl⟩
          · have hT := Lib.hid (num2_some (HLAST.out hc1 (.inl (by clear t1 t2 m1 m2 m3 hO s6; omega))))
            have v1z : ¬ (0 : Int) < (i : Int) := by clear t1 t2 m1 m2 m3 hO s6; omega
            have v1d : decide ((0 : Int) < (i : Int)) = false := decide_eq_false v1z
            clear HVAIN HLAST hc hz
            go_wp2
            go_ret2
            exact ⟨by rw [hT.out]; unfold pairI; simp, rfl⟩
        · have hz0 : ((t : Int) == 0) = false := by simp; exact hz
          have hT := Lib.hid (num2_some (HLAST.out hc1 (.inr hz)))
          clear HVAIN HLAST hc hz
          go_wp2
          go_ret2
          exact ⟨by rw [hT.out]; unfold pairI; simp, rfl⟩
      · have hc1z : (128 : Int) ≤ (c : Int) := by clear t1 t2 m1 m2 m3 hO s6; omega
        have hc1d : decide ((128 : Int) ≤ (c : Int)) = true := decide_eq_true hc1z
        have HN := Lib.hid (HNEXT.out (by clear t1 t2 m1 m2 m3 hO s6; omega))
        clear HLAST HNEXT HVAIN hMM hP hacc ht hc
        go_wp2
        exact ⟨⟨i + 1, A2, by clear t1 t2 m1 m2 m3 hO s6; omega, by go_num, by go_num, HN.out, trivial⟩, by clear t1 t2 m1 m2 m3 hO s6; simp [intOf]; omega⟩
    · have hltz : ¬ (i : Int) < (m : Int) := by omega
      have hld : decide ((i : Int) < (m : Int)) = false := decide_eq_false hltz
      have hT := Lib.hid (num2_none (show num7 l = none from by
        by_cases h : n ≤ 9
        · exact hM.short (by rw [HL.out]; have := HM.out; omega)
        · obtain rfl : i = 9 := by have := HM.out; omega
          exact hM.long))
      clear hM
      go_wp2
      go_ret2
      exact ⟨by rw [hT.out]; rfl, rfl⟩
end Go.Proofs.YtfemgkamgokjcaaDoor
/- copy of bytes into a row of the call's own: as many as the shorter one has. -/
set_option maxRecDepth 100000
namespace Go.Proofs.YtfemgkamgokjcaaDoor
open Go Go.RowKit

/-- A cut of bytes from any number of them on. -/
theorem slb_lo (q : Option Addr) (n cap k : Nat) (w : World) (hk : k ≤ n) :
    (slT 27 (.slice q n cap) (some (.int .i64 (k : Int))) none none).run Tryd.prog w = .ok (.value (.slice (cutA q cap k) (n - k) (cap - k))) w := by
  have h1 := run_sliceAt_slice (P := Tryd.prog) w 27 (.slice q n cap) (some (.int .i64 (k : Int))) none none und35
  rw [run_slice_l (P := Tryd.prog) w 27 q n cap und35 .i64 (k : Int) (by omega) (by omega), sizeB] at h1
  simp only [slT, Sem.run_bind, h1, Result.andThen_ok, Sem.run_pure]
  simp only [sliced, Int.toNat_natCast, Nat.mul_one, cutA]
/-- What the copy leaves. -/
def copied1 (l : List (BitVec 8)) (t : Nat) (g : Nat → Value) : Nat → Value := fun j => if j < t then B (l.getD j 0#8) else g j
theorem run_copyM (w : World) (ty : TypeId) (E m c : Nat) (g : Nat → Value) (q : Option Addr) (n c' : Nat) (l : List (BitVec 8)) (hR : Row w E 5 m g) (hl : l.length = n) (hsl : Sl w q l) (t : Nat) (ht : t = min m n) :
    ∃ w', (Builtin.copy_ #[27, 27] ty #[.slice (some ⟨E, 0, none⟩) m c, .slice q n c']).run Tryd.prog w = .ok (.int .i64 (t : Int)) w' ∧ Row w' E 5 m (copied1 l t g) ∧ Kp E w w' := by
  by_cases h0 : t = 0
  · subst h0
    have hn : Nat.min n m = 0 := by show min n m = 0; omega
    refine ⟨w, ?_, hR.congr fun j _ => by rw [copied1, if_neg (by omega)], Kp.refl _ _⟩
    have := run_copy_none (P := Tryd.prog) w 27 27 ty 5 (some ⟨E, 0, none⟩) q m c n c' und35 (by kernel_rfl) hn
    rw [this]
    rfl
  · obtain ⟨c0, o0, rfl, hc⟩ := hsl 0 (by omega)
    have hlen : ((l.take t).map B).length = t := by rw [List.length_map, List.length_take]; omega
    have key := run_copy_row (P := Tryd.prog) w 27 27 ty 5 E 0 m c ⟨c0, o0, none⟩ n c' (tab m g) 5 ((l.take t).map B) und35 (by kernel_rfl) hR (by rw [hlen, ht]; exact Nat.min_comm _ _)
      (fun j v hv => by
        have hj : j < t := by
          have := (List.getElem?_eq_some_iff.1 hv).1
          rw [hlen] at this; exact this
        refine hsl.news j v ?_
        rw [List.getElem?_map] at hv ⊢
        rw [List.getElem?_take, if_pos hj] at hv
        exact hv) (by rw [tab_size, hlen]; omega) (one_map _)
    have e : ((tab m g).toList.take 0 ++ (l.take t).map B ++ (tab m g).toList.drop (0 + ((l.take t).map B).length)).toArray = tab m (copied1 l t g) := by
      have := tab_splice m t g (l.take t) (by rw [List.length_take]; omega) (by omega)
      rw [List.append_assoc, this]
      refine tab_congr fun j _ => ?_
      unfold copied1
      by_cases hj : j < t
      · rw [if_pos hj, if_pos hj]; congr 1; simp [List.getD_eq_getElem?_getD, hj]
      · rw [if_neg hj, if_neg hj]
    rw [e, hlen] at key
    exact ⟨_, key, setRow_heap w E _ _ 5 _ hR, ⟨rfl, rfl, rfl, by simp [World.setRow], fun k _ hk => setRow_other w E k _ hk⟩⟩
section
variable {ops : Array Oper} {rest : List Oper} {o : Oper} {a : Act} {Q : Exit → Act → World → Prop} (w : World) (hgd : o.guard = none) (d s : Operand)
    (ho : o.op = .call { callee := .builtin .copy, args := #[d, s], argTypes := #[27, 27] }) (E m c : Nat) (g : Nat → Value) (q : Option Addr) (n c' : Nat) (l : List (BitVec 8))
    (hd : a.eval d = .slice (some ⟨E, 0, none⟩) m c) (hs : a.eval s = .slice q n c') (hR : Row w E 5 m g) (hl : l.length = n) (hsl : Sl w q l) (t : Nat) (ht : t = min m n)
include hgd ho hd hs hR hl hsl ht
theorem wpl_copyM (h : ∀ w', Row w' E 5 m (copied1 l t g) → Kp E w w' → wpList Tryd.prog ops Q rest (a.put o.dst (.int .i64 (t : Int))) w') : wpList Tryd.prog ops Q (o :: rest) a w := by
  refine wpList_plain hgd fun K hK => ?_
  obtain ⟨w', hr, h2, h3⟩ := run_copyM w o.type E m c g q n c' l hR hl hsl t ht
  unfold Oper.wp execOp
  simp only [ho, resolve, invoke, builtin, Sem.run_bind, Sem.run_pure, Result.andThen_ok, List.map_toArray, List.map_cons, List.map_nil, hd, hs, hr]
  exact hK _ _ (h w' h2 h3)
theorem step_copyM {K : Act → World → Prop} {Q : Exit → Act → World → Prop} {F : Prop} (h : ∀ w', Row w' E 5 m (copied1 l t g) → Kp E w w' → K (a.put o.dst (.int .i64 (t : Int))) w') :
    if Region.wanted o (yielded ops a.tmps) = true then Oper.wp Tryd.prog o a w K Q else F := by
  have hw : Region.wanted o (yielded ops a.tmps) = true := by simp [Region.wanted, hgd]
  rw [if_pos hw]
  obtain ⟨w', hr, h2, h3⟩ := run_copyM w o.type E m c g q n c' l hR hl hsl t ht
  unfold Oper.wp execOp
  simp only [ho, resolve, invoke, builtin, Sem.run_bind, Sem.run_pure, Result.andThen_ok, List.map_toArray, List.map_cons, List.map_nil, hd, hs, hr]
  exact h w' h2 h3
end
end Go.Proofs.YtfemgkamgokjcaaDoor
/- The reader's next bytes and numbers. -/
set_option maxRecDepth 100000
namespace Go.Proofs.YtfemgkamgokjcaaDoor
open Go Go.RowKit

theorem sl_hm (q : Option Addr) (n cap k : Nat) (w : World) (hk : k ≤ cap) : (slT 27 (.slice q n cap) none (some (.int .i64 (k : Int))) (some (.int .i64 (k : Int)))).run Tryd.prog w = .ok (.value (.slice q k k)) w := by
  have h1 := run_sliceAt_slice (P := Tryd.prog) w 27 (.slice q n cap) none (some (.int .i64 (k : Int))) (some (.int .i64 (k : Int))) und35
  rw [run_slice_hm (P := Tryd.prog) w 27 q n cap und35 .i64 .i64 (k : Int) (k : Int) (by omega) (by omega) (by omega), sizeB] at h1
  simp only [slT, Sem.run_bind, h1, Result.andThen_ok, Sem.run_pure]
  simp only [sliced, Int.toNat_natCast, Nat.zero_mul, Nat.sub_zero]
  have := cutA_zero q k
  unfold cutA at this
  rw [this]
attribute [local go_sem] sl_hm slb_lo
attribute [local go_sem ↓] exec_slice
set_option maxRecDepth 100000 in
set_option maxHeartbeats 1000000 in
/-- The next n bytes, or the end of the reading. -/
theorem cut_any (p : Option Addr) (N : Nat) (w : World) (a : Addr) (l : List (BitVec 8)) (n : Nat) (h : RdP p N w a l) : Calls Tryd.prog 60 #[.pointer (some a), .int .i64 (n : Int)] w fun e w' => Kp a.block w w' ∧ ((n ≤ l.length ∧ (∃ q : Option Addr, e = .returned (.slice q n n) ∧ Sl w' q (l.take n) ∧ (q = none → n = 0) ∧ (0 < n → ∀ c o, q = some ⟨c, o, none⟩ → c < N)) ∧ RdP p N w' a (l.drop n)) ∨ (l.length < n ∧ Thrown (ThrP a) 6 e w')) := by
  have HR := Lib.hid h
  obtain ⟨b, q, cap, rfl, h1, hc, h4, h5, h6, h7, h8⟩ := h
  obtain ⟨L, hL⟩ : ∃ L, l.length = L := ⟨_, rfl⟩
  rw [hL] at hc h6 h7 h8 ⊢
  have HL := Lib.hid hL
  have HS := Lib.hid h4
  have H5 := Lib.hid h5
  have H8 := Lib.hid h8
  have HC := Lib.hid hc
  obtain ⟨k0, k1, k2, f0, f1, f2⟩ := hc
  have hblt := World.block_lt_of_cell? w _ k0
  clear h4 h5 h8 hL k1 f1 f2
  by_cases hlt : L < n
  · have hz : decide ((L : Int) < (n : Int)) = true := decide_eq_true (by omega)
    have hz2 : (L : Int) < (n : Int) := by omega
    have HF := Lib.hid (rdP_fail p N w ⟨b, 0, none⟩ l 6 HR.out (by decide))
    clear f0
    go_enter Tryd.func60, Tryd.ntmps60
    go_wp2_with fail
    refine HF.out.mono ?_
    rintro e w' ⟨⟨v, hv, rfl⟩, hK⟩
    exact ⟨rfl, hK, .inr ⟨hlt, v, hv, rfl⟩⟩
  · have hz : decide ((L : Int) < (n : Int)) = false := decide_eq_false (by omega)
    have hz2 : ¬ (L : Int) < (n : Int) := by omega
    have hnL : n ≤ L := by omega
    have hnc : n ≤ cap := by omega
    have k2z : w.cell? ⟨b, 2, none⟩ = some (.int .i64 0) := k2
    clear k2
    go_enter Tryd.func60, Tryd.ntmps60
    go_wp2
    go_ret
    have hfar : 0 < l.length → ∀ c o, q = some ⟨c, o, none⟩ → c ≠ b := fun hl c o e => by have := (H8.out (by rw [← HL.out]; exact hl) c o e).1; omega
    have hsl : Sl (w.setCell ⟨b, 0, none⟩ (.slice (cutA q cap n) (L - n) (cap - n))) q l := fun j hj => by
      obtain ⟨c, o, e, hx⟩ := HS.out j hj
      exact ⟨c, o, e, by rw [World.cell?_setCell_far _ _ _ _ (show b ≠ c from Ne.symm (hfar (by omega) c o e))]; exact hx⟩
    refine ⟨(Kp.refl b w).setCell 0 _, ⟨q, rfl, hsl.take n, fun e => by have := H5.out e; omega, fun hn c o e => (H8.out (by omega) c o e).1⟩, b, cutA q cap n, cap - n, rfl, h1,
      ⟨?_, ?_, ?_, ?_, ?_, ?_⟩, hsl.drop (by rw [HL.out]; exact h6) n, fun e => cutA_none H5.out e, ?_, ?_, fun hl c o e => ?_⟩
    · rw [List.length_drop, HL.out]; exact World.cell?_setCell_same _ _ _ k0
    · rw [cell_off _ _ _ _ _ (by decide)]; exact HC.out.c1
    · rw [cell_off _ _ _ _ _ (by decide)]; exact HC.out.c2
    · rw [World.frozen?_setCell]; exact HC.out.f0
    · rw [World.frozen?_setCell]; exact HC.out.f1
    · rw [World.frozen?_setCell]; exact HC.out.f2
    · rw [List.length_drop, HL.out]; omega
    · rw [List.length_drop, HL.out]; omega
    · rw [List.length_drop, HL.out] at hl
      have hcn : ¬ cap = n := by omega
      unfold cutA at e
      rw [if_neg hcn] at e
      obtain ⟨c0, o0, e0, -⟩ := HS.out 0 (by rw [HL.out]; omega)
      rw [e0] at e
      have e3 : (some (Addr.add ⟨c0, o0, none⟩ n) : Option Addr) = some ⟨c, o, none⟩ := e
      rw [Addr.add_mid] at e3
      injection e3 with e3
      injection e3 with e4 e5
      subst e4
      exact H8.out (by omega) c0 o0 e0
set_option maxHeartbeats 1000000 in
theorem rdP_number (p : Option Addr) (N : Nat) (w : World) (a : Addr) (l : List (BitVec 8)) (most : Int) (h : RdP p N w a l) : Calls Tryd.prog 72 #[.pointer (some a), .int .i64 most] w (RdPost RdP ThrP p N w a l (takeI l most).2.2 (takeI l most).2.1 fun v _ => v = .int .i64 ((takeI l most).1 : Int)) := by
  have HR := Lib.hid h
  have HF := Lib.hid (fun c => rdP_fail p N w a l c HR.out)
  have HC := Lib.hid (fun n => cut_any p N w a l n HR.out)
  obtain ⟨b, q, cap, rfl, h1, hc, h4, h5, h6, h7, h8⟩ := h
  have HFI := Lib.hid (first_any l q l.length cap w rfl h4 h6 h7)
  have k0 := hc.c0
  clear h8 h4 h5 h6 h7 hc h1
  obtain ⟨L, hL⟩ : ∃ L, l.length = L := ⟨_, rfl⟩
  rw [hL] at k0 HFI
  cases e7 : num7 l with
  | none =>
    rw [takeI_none most e7]
    rw [num2_none e7] at HFI
    have HF6 := Lib.hid (HF.out 6 (by decide))
    clear e7 hL
    go_enter Tryd.func72, Tryd.ntmps72
    go_wp2_with fail
    refine HFI.out.mono ?_
    rintro e w' ⟨rfl, rfl⟩
    unfold pairI
    go_wp2_with fail
    refine HF6.out.mono ?_
    rintro e w' ⟨⟨v, hv, rfl⟩, hK⟩
    exact ⟨rfl, hK, .inr ⟨by decide, v, hv, rfl⟩⟩
  | some x =>
    obtain ⟨n, k⟩ := x
    have hi := num7_inv e7
    rw [num2_some e7] at HFI
    have hk0 : 0 < k := by have h := hi.2.2; have := enc7_pos n; omega
    have hk : ((k : Int) == 0) = false := by simp; omega
    by_cases hm : most < (n : Int)
    · rw [takeI_many e7 hm]
      have hmd : decide (most < (n : Int)) = true := decide_eq_true hm
      have HF14 := Lib.hid (HF.out 14 (by decide))
      clear e7 hL hi hk0
      go_enter Tryd.func72, Tryd.ntmps72
      go_wp2_with fail
      refine HFI.out.mono ?_
      rintro e w' ⟨rfl, rfl⟩
      unfold pairI
      go_wp2_with fail
      refine HF14.out.mono ?_
      rintro e w' ⟨⟨v, hv, rfl⟩, hK⟩
      exact ⟨rfl, hK, .inr ⟨by decide, v, hv, rfl⟩⟩
    · rw [takeI_some e7 hm]
      have hmd : decide (most < (n : Int)) = false := decide_eq_false hm
      have HCk := Lib.hid (HC.out k)
      have HKL := Lib.hid hi.2.1
      clear e7 hL hi hk0
      go_enter Tryd.func72, Tryd.ntmps72
      go_wp2_with fail
      refine HFI.out.mono ?_
      rintro e w' ⟨rfl, rfl⟩
      unfold pairI
      go_wp2_with fail
      refine HCk.out.mono ?_
      rintro e w' ⟨hK, ⟨-, ⟨q2, rfl, -⟩, hR⟩ | ⟨hbad, -⟩⟩
      · have HK := Lib.hid hK
        have HR2 := Lib.hid hR
        clear hK hR
        go_wp2
        go_ret
        exact ⟨HK.out, .inl ⟨rfl, ⟨_, rfl, rfl⟩, HR2.out⟩⟩
      · exact absurd HKL.out (by omega)
set_option maxHeartbeats 1000000 in
theorem rdP_count (p : Option Addr) (N : Nat) (w : World) (a : Addr) (l : List (BitVec 8)) (most : Int) (h : RdP p N w a l) : Calls Tryd.prog 59 #[.pointer (some a), .int .i64 most] w (RdPost RdP ThrP p N w a l (takeI l most).2.2 (takeI l most).2.1 fun v _ => v = .int .i64 ((takeI l most).1 : Int)) := by
  have HN := Lib.hid (rdP_number p N w a l most h)
  clear h
  go_enter Tryd.func59, Tryd.ntmps59
  go_wp2_with fail
  refine HN.out.mono ?_
  rintro e w' ⟨hK, ⟨h0, ⟨v, rfl, rfl⟩, hR⟩ | ⟨h0, v, hv, rfl⟩⟩
  · have HX := Lib.hid (And.intro hK (And.intro h0 hR))
    clear hK h0 hR
    go_wp2
    go_ret
    exact ⟨HX.out.1, .inl ⟨HX.out.2.1, ⟨_, rfl, rfl⟩, HX.out.2.2⟩⟩
  · exact ⟨rfl, hK, .inr ⟨h0, v, hv, rfl⟩⟩
end Go.Proofs.YtfemgkamgokjcaaDoor
/- Vectors merged, incremented; the reference's comparison. -/
set_option maxRecDepth 100000
namespace Go.Proofs.YtfemgkamgokjcaaDoor
open Go Go.RowKit

attribute [local go_sem ↓] exec_boxA exec_loadA exec_indexA exec_allocA exec_storeA exec_buildA exec_eqlA exec_neqA exec_boxV exec_loadV exec_indexV exec_allocV exec_storeV exec_buildV exec_eqlV exec_neqV
attribute [local go_sem] boxA indexA storeNewA buildA eqlA neqA boxV indexV storeNewV buildV eqlV neqV

theorem resV {fn : Func} {p : Tmp} {T : TypeId} (hT : VT T) (h : fn.results = #[.cell p T]) (tmps : Array Value) (w : World) (b : Nat) (T2 : TypeId) (f : Nat → Int) (hp : tmps.getD p undef = .pointer (some ⟨b, 0, none⟩)) (hR : Row w b T2 16 (vf f)) : (results fn tmps).run Tryd.prog w = .ok (vcV f) w := by
  have := results_cell_row (P := Tryd.prog) h tmps w b T2 (tab 16 (vf f)) (0, 0) _ hp hR hT.und rfl (by rw [hT.size, tab_size])
  unfold vcV
  exact this
/-- What the reference's Merge has after k steps. -/
def mxTo (f g : Nat → Int) (k : Nat) : Nat → Int := fun i => if i < k then max (f i) (g i) else f i
theorem mxTo_all (f g : Nat → Int) : ∀ i, i < 16 → mxTo f g 16 i = mxV f g i := fun i hi => by unfold mxTo mxV; rw [if_pos hi]
end Go.Proofs.YtfemgkamgokjcaaDoor
/- Bump and Merge of the program. -/
set_option maxRecDepth 100000
namespace Go.Proofs.YtfemgkamgokjcaaDoor
open Go Go.RowKit

attribute [local go_sem ↓] exec_boxA exec_loadA exec_indexA exec_allocA exec_storeA exec_buildA exec_eqlA exec_neqA exec_boxV exec_loadV exec_indexV exec_allocV exec_storeV exec_buildV exec_eqlV exec_neqV
attribute [local go_sem] boxA indexA storeNewA buildA eqlA neqA boxV indexV storeNewV buildV eqlV neqV

theorem resV2 {fn : Func} {p q : Tmp} {T : TypeId} (hT : VT T) (h : fn.results = #[.cell p T, .tmp q]) (tmps : Array Value) (w : World) (b : Nat) (T2 : TypeId) (f : Nat → Int) (v : Value) (hp : tmps.getD p undef = .pointer (some ⟨b, 0, none⟩)) (hq : tmps.getD q undef = v) (hR : Row w b T2 16 (vf f)) : (results fn tmps).run Tryd.prog w = .ok (.tuple #[vcV f, v]) w := by
  have hp' : tmps[p]?.getD undef = .pointer (some ⟨b, 0, none⟩) := by simpa using hp
  have hq' : tmps[q]?.getD undef = v := by simpa using hq
  have hl := run_loadVar_row (P := Tryd.prog) w b T2 T (tab 16 (vf f)) (0, 0) _ hR hT.und rfl (by rw [hT.size, tab_size])
  unfold vcV
  simp [results, h, hp', hq', asAddr, hl]
def bmOk (f : Nat → Int) (r : Int) : Bool := decide (0 ≤ r) && decide (r < 16) && decide (f r.toNat < 1099511627776)
def bmV (f : Nat → Int) (r : Int) : Nat → Int := if bmOk f r then (fun i => if i = r.toNat then f i + 1 else f i) else fun _ => 0
def bmE (f : Nat → Int) (r : Int) : Int := if bmOk f r then 0 else 1
theorem bm_no {f : Nat → Int} {r : Int} (h : bmOk f r = false) : bmV f r = (fun _ => 0) ∧ bmE f r = 1 := by unfold bmV bmE; rw [h]; exact ⟨rfl, rfl⟩
theorem bm_yes {f : Nat → Int} {r : Nat} (h : bmOk f r = true) : bmV f r = (fun i => if i = r then f i + 1 else f i) ∧ bmE f r = 0 := by unfold bmV bmE; rw [h]; exact ⟨rfl, rfl⟩
end Go.Proofs.YtfemgkamgokjcaaDoor
/- Slices of vectors; Merge of the program. -/
set_option maxRecDepth 100000
namespace Go.Proofs.YtfemgkamgokjcaaDoor
open Go Go.RowKit

/-- Vectors lie where a slice begins. -/
structure VecsAt (w : World) (p : Option Addr) (n : Nat) (l : List (Nat → Int)) : Prop where
  len : l.length = n
  at_ : 0 < n → ∃ c o, p = some ⟨c, o, none⟩ ∧ ∀ i (hi : i < l.length), VecAt w c (o + i * 16) l[i]
theorem VecsAt.of_below {w w' : World} {p : Option Addr} {n : Nat} {l : List (Nat → Int)} (h : VecsAt w p n l) (k : Below w.heap.size w w') : VecsAt w' p n l :=
  ⟨h.len, fun hn => by
    obtain ⟨c, o, e, h1⟩ := h.at_ hn
    exact ⟨c, o, e, fun i hi => (h1 i hi).of_below k⟩⟩
theorem VecsAt.nil (w : World) (p : Option Addr) : VecsAt w p 0 [] := ⟨rfl, fun h => absurd h (by decide)⟩
/-- The cells of vectors one after another. -/
def vfs (l : List (Nat → Int)) : Nat → Value := fun i => .int .i64 ((l.getD (i / 16) fun _ => 0) (i % 16))
theorem VecsAt.row {w : World} {b n : Nat} {T : TypeId} {l : List (Nat → Int)} (hl : l.length = n) (h : Row w b T (16 * n) (vfs l)) : VecsAt w (some ⟨b, 0, none⟩) n l :=
  ⟨hl, fun _ => ⟨b, 0, rfl, fun i hi j hj => by
    rw [show 0 + i * 16 + j = i * 16 + j by omega, h.cell (i * 16 + j) (by omega)]
    unfold vfs
    rw [show (i * 16 + j) / 16 = i by omega, show (i * 16 + j) % 16 = j by omega, List.getD_eq_getElem?_getD, List.getElem?_eq_getElem hi]
    rfl⟩⟩
/-- The greatest numbers. -/
def mgL : List (Nat → Int) → Nat → Int
  | [] => fun _ => 0
  | f :: r => r.foldl mxV f
def mgTo (f : Nat → Int) (r : List (Nat → Int)) (k : Nat) : Nat → Int := (r.take k).foldl mxV f
theorem mgTo_succ (f : Nat → Int) (r : List (Nat → Int)) (k : Nat) (hk : k < r.length) : mgTo f r (k + 1) = mxV (mgTo f r k) r[k] := by
  unfold mgTo
  rw [List.take_succ_eq_append_getElem hk, List.foldl_append]
  rfl
attribute [local go_sem ↓] exec_boxA exec_loadA exec_indexA exec_allocA exec_storeA exec_buildA exec_eqlA exec_neqA exec_boxV exec_loadV exec_indexV exec_allocV exec_storeV exec_buildV exec_eqlV exec_neqV
attribute [local go_sem] boxA indexA storeNewA buildA eqlA neqA boxV indexV storeNewV buildV eqlV neqV

end Go.Proofs.YtfemgkamgokjcaaDoor
