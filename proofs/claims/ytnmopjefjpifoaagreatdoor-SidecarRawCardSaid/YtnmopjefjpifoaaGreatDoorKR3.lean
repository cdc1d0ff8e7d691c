/- Merged texts: Sid12, CloneP, Hds10, Cut10, Cuts10, CopyM, CutP6, Cmp9, Mrg9, Bmp9, Mgl9, Awk9, Nbr9, Tak9, Rtk9, Enc9, Tke9, Its6, Dig6. -/
import Derived.Test.YtnmopjefjpifoaaGreatDoorKR2
import Derived.Test.YtnmopjefjpifoaaGreatDoorSha10
import Derived.OwnWalk
import Derived.Test.YtnmopjefjpifoaaGreatDoorRef6
import Derived.Test.YtnmopjefjpifoaaGreatDoorOwnK8
import Derived.Deep.RegionLaw
import Derived.Test.YtnmopjefjpifoaaGreatDoorCuts
import Derived.Test.YtnmopjefjpifoaaGreatDoorFstP6
import Derived.Lib.Hide
import Derived.BigQuiet
import Derived.Test.YtnmopjefjpifoaaGreatDoorVec9
import Derived.Lib.MinMax
import Derived.Deep.RegionHeld3
import Derived.Test.YtnmopjefjpifoaaGreatDoorNum6
import Derived.Deep.AppendLies
import Derived.Test.YtnmopjefjpifoaaGreatDoorCode6
import Derived.Laws.Tables
import Derived.Laws.NewDeep
import Derived.Test.YtnmopjefjpifoaaGreatDoorLdT
set_option linter.unusedSimpArgs false
set_option linter.unusedVariables false
/- The plain sidecar: the blocks of a stripe, their parity, what a sidecar holds. -/
set_option maxRecDepth 100000
namespace Go.Proofs.YtnmopjefjpifoaaGreatDoor
open Go Go.RowKit
attribute [-go_sem] Sha.exec_store

/-- How many stripes. -/
def nstr (n : Nat) : Nat := (n + 1023) / 1024
/-- A block, complete. -/
def padL (b : List (BitVec 8)) : List (BitVec 8) := b ++ zs12 (256 - b.length)
/-- All blocks. -/
def allB (l : List (BitVec 8)) : List (List (BitVec 8)) := (List.range (nblk l.length)).map (blkL l)
/-- The blocks of a stripe. -/
def strB (l : List (BitVec 8)) (s : Nat) : List (List (BitVec 8)) := ((allB l).drop (4 * s)).take 4
/-- Their parity. -/
def parB (bs : List (List (BitVec 8))) : List (List (BitVec 8)) := rowsL 2 256 (mm bs.length (cau bs.length) (mx (bs.map padL)))
def entL (r : List (BitVec 8)) : List (BitVec 8) := r ++ digL r
def strE (l : List (BitVec 8)) (s : Nat) : List (BitVec 8) := ((parB (strB l s)).map entL).flatten
/-- A sidecar. -/
def mkSd (l : List (BitVec 8)) : List (BitVec 8) := digL l ++ ((List.range (nstr l.length)).map (strE l)).flatten
theorem padL_len {b : List (BitVec 8)} (h : b.length ≤ 256) : (padL b).length = 256 := by unfold padL zs12; simp; omega
theorem allB_len (l : List (BitVec 8)) : (allB l).length = nblk l.length := by unfold allB; simp
theorem allB_get (l : List (BitVec 8)) (i : Nat) (h : i < nblk l.length) : (allB l).getD i [] = blkL l i := by unfold allB; simp [List.getD_eq_getElem?_getD, h]
theorem nstr_blk (n s : Nat) : s < nstr n ↔ 4 * s < nblk n := by unfold nstr nblk; omega
theorem strB_len (l : List (BitVec 8)) (s : Nat) : (strB l s).length = min 4 (nblk l.length - 4 * s) := by unfold strB; rw [List.length_take, List.length_drop, allB_len]
theorem strB_get (l : List (BitVec 8)) (s i : Nat) (h : i < (strB l s).length) : (strB l s).getD i [] = blkL l (4 * s + i) := by
  have h1 := strB_len l s
  unfold strB
  rw [List.getD_eq_getElem?_getD, List.getElem?_take, if_pos (by omega), List.getElem?_drop]
  have := allB_get l (4 * s + i) (by omega)
  rw [List.getD_eq_getElem?_getD] at this
  exact this
theorem blk_le (l : List (BitVec 8)) (i : Nat) : (blkL l i).length ≤ 256 := by rw [blkL_len]; unfold blen; omega
theorem strB_row (l : List (BitVec 8)) (s i : Nat) : ((strB l s).getD i []).length ≤ 256 := by
  by_cases h : i < (strB l s).length
  · rw [strB_get l s i h]; exact blk_le l _
  · rw [List.getD_eq_getElem?_getD, List.getElem?_eq_none (by omega)]; simp
theorem parB_len (bs : List (List (BitVec 8))) : (parB bs).length = 2 := by unfold parB; rw [rowsL_length]
theorem parB_row (bs : List (List (BitVec 8))) (i : Nat) (h : i < 2) : ((parB bs).getD i []).length = 256 := by unfold parB; rw [rowsL_get _ _ _ _ h, rowL_length]
theorem entL_len {r : List (BitVec 8)} (h : r.length = 256) : (entL r).length = 288 := by unfold entL; rw [List.length_append, digL_len, h]
theorem two_rows {ls : List (List (BitVec 8))} (h : ls.length = 2) : ls = [ls.getD 0 [], ls.getD 1 []] := by
  match ls, h with
  | [a, b], _ => rfl
theorem strE_eq (l : List (BitVec 8)) (s : Nat) : strE l s = entL ((parB (strB l s)).getD 0 []) ++ entL ((parB (strB l s)).getD 1 []) := by
  unfold strE
  rw [two_rows (parB_len (strB l s))]
  simp
theorem strE_len (l : List (BitVec 8)) (s : Nat) : (strE l s).length = 576 := by
  rw [strE_eq, List.length_append, entL_len (parB_row _ 0 (by decide)), entL_len (parB_row _ 1 (by decide))]
theorem flat_str (l : List (BitVec 8)) (k : Nat) : (((List.range k).map (strE l)).flatten).length = 576 * k := by
  induction k with
  | zero => rfl
  | succ k ih => rw [List.range_succ, List.map_append, List.flatten_append, List.length_append, ih]; simp [strE_len]; omega
theorem flat_snoc (l : List (BitVec 8)) (k : Nat) : ((List.range (k + 1)).map (strE l)).flatten = ((List.range k).map (strE l)).flatten ++ strE l k := by
  rw [List.range_succ, List.map_append, List.flatten_append]; simp
end Go.Proofs.YtnmopjefjpifoaaGreatDoor
/- bytes.Clone. -/
set_option maxRecDepth 100000
namespace Go.Proofs.YtnmopjefjpifoaaGreatDoor
open Go Go.RowKit
attribute [-go_sem] Sha.exec_store

theorem nil_yes (w : World) : (binOp BinOp.eql 53 (.slice none 0 0) (.slice none 0 0)).run Tryz.prog w = .ok (.bool true) w := by kernel_rfl
theorem nil_no (a : Addr) (n cap : Nat) (w : World) : (binOp BinOp.eql 53 (.slice (some a) n cap) (.slice none 0 0)).run Tryz.prog w = .ok (.bool false) w := by kernel_rfl
attribute [local go_sem] nil_yes nil_no
set_option maxHeartbeats 1000000 in
theorem clone_any (l : List (BitVec 8)) (p : Option Addr) (n cap : Nat) (w : World) (hl : l.length = n) (hs : Sl w p l) (hp : p = none → cap = 0) (hnc : n ≤ cap) (hn : n < 2000000000) : Calls Tryz.prog 62 #[.slice p n cap] w (fun e w' => GivesB w l e w') := by
  cases p with
  | none =>
    obtain rfl := hp rfl
    obtain rfl : n = 0 := by omega
    have hl0 : l = [] := List.eq_nil_of_length_eq_zero hl
    subst hl0
    clear hs hp hnc hn hl
    go_enter Tryz.func62, Tryz.ntmps62
    go_wp2
    go_ret
    exact ⟨_, rfl, ⟨rfl, .inl ⟨rfl, rfl⟩⟩, Below.refl _ _⟩
  | some a =>
    have HSE := Lib.hid (hs.of_below (show Below w.heap.size w (w.alloc (.cells #[] 5)) from (Below.refl _ _).alloc (Nat.le_refl _) _))
    have HO := Lib.hid (OwnB.empty w w.heap.size (Nat.le_refl _))
    have HB := Lib.hid (show Below w.heap.size w (w.alloc (.cells #[] 5)) from (Below.refl _ _).alloc (Nat.le_refl _) _)
    have HL := Lib.hid hl
    have hsz : w.heap.size ≤ (w.alloc (.cells #[] 5)).heap.size := by rw [World.size_alloc]; omega
    clear hs hp hl
    go_enter Tryz.func62, Tryz.ntmps62
    go_wp2_with (first | (refine wpl_append _ rfl (.tmp 5) (.tmp 6) rfl w.heap.size (.slice (some ⟨w.heap.size, 0, none⟩) 0 0) [] rfl HO.out (some a) n cap l HL.out rfl HSE.out (fun h => by cases h) (by simp; omega) hsz ?_; rintro v3 w3 hO3 hg3; rw [List.nil_append] at hO3; have HO3 := Lib.hid hO3; have HG3 := Lib.hid hg3; clear hO3 hg3))
    go_wp2
    go_ret
    exact ⟨_, rfl, HO3.out, HB.out.grown HG3.out hsz (fun k hk => by have : w.heap.size = k := (by simpa [Value.ownBlock] using hk); omega)⟩
end Go.Proofs.YtnmopjefjpifoaaGreatDoor
/- Slices of bytes of the call's own, whose headers are appended one by one. -/
set_option maxRecDepth 100000
namespace Go.Proofs.YtnmopjefjpifoaaGreatDoor
open Go Go.RowKit Go.Shelf
attribute [-go_sem] Sha.exec_store

theorem elR : ElK 73 53 (.slice none 0 0) 1 24 := ⟨by kernel_rfl, by kernel_rfl, rfl, by decide, by decide⟩
/-- The slice v, among the blocks from N on, holds slices of the bytes bs, whose blocks are not v's. -/
def Hds (w : World) (N : Nat) (v : Value) (bs : List (List (BitVec 8))) : Prop :=
  ∃ hs : List Value, w.ownsRow N 53 1 v bs.length hs ∧ ∀ i, i < bs.length → ∃ p cap, hs[i]? = some (.slice p (bs.getD i []).length cap) ∧ Sl w p (bs.getD i []) ∧ (p = none → cap = 0) ∧ ∀ c o, p = some ⟨c, o, none⟩ → N ≤ c ∧ c < w.heap.size ∧ v.ownBlock ≠ some c
theorem Hds.nil (w : World) (N : Nat) : Hds w N (.slice none 0 0) [] := ⟨[], ⟨rfl, .inl ⟨rfl, rfl⟩⟩, fun i h => absurd h (by simp)⟩
theorem Sl.keepP {w w' : World} {p : Option Addr} {l : List (BitVec 8)} (h : Sl w p l) (hk : ∀ c o, p = some ⟨c, o, none⟩ → c < w.heap.size → w'.heap[c]? = w.heap[c]?) : Sl w' p l := fun j hj => by
  obtain ⟨c, o, e, hc⟩ := h j hj
  exact ⟨c, o, e, by rw [World.cell?_of_block (w := w) (hk c o e (World.block_lt_of_cell? w _ hc))]; exact hc⟩
theorem Hds.keep {w w' : World} {N : Nat} {v : Value} {bs : List (List (BitVec 8))} (h : Hds w N v bs) (hs : w.heap.size ≤ w'.heap.size) (hb : ∀ c, N ≤ c → c < w.heap.size → w'.heap[c]? = w.heap[c]?) : Hds w' N v bs := by
  obtain ⟨cs, h1, h2⟩ := h
  refine ⟨cs, own_keep h1 (fun g hg => hb g (h1.lt g hg).1 (h1.lt g hg).2), fun i hi => ?_⟩
  obtain ⟨p, cap, e1, e2, e3, e4⟩ := h2 i hi
  exact ⟨p, cap, e1, e2.keepP (fun c o e hlt => hb c (e4 c o e).1 hlt), e3, fun c o e => ⟨(e4 c o e).1, Nat.lt_of_lt_of_le (e4 c o e).2.1 hs, (e4 c o e).2.2⟩⟩
theorem Hds.of_below {w w' : World} {N : Nat} {v : Value} {bs : List (List (BitVec 8))} (h : Hds w N v bs) (k : Below w.heap.size w w') : Hds w' N v bs := h.keep k.size fun c _ hc => k.block c hc
theorem Hds.far {w : World} {N b : Nat} {v : Value} {bs : List (List (BitVec 8))} (h : Hds w N v bs) (hb : b < N) {o : Nat} {x : Value} : Hds (w.setCell ⟨b, o, none⟩ x) N v bs := h.keep (by simp) fun c hc _ => Below.heap_setCell _ _ _ _ (by show c ≠ b; omega)
theorem Hds.put {w : World} {N k : Nat} {o : Obj} {v : Value} {bs : List (List (BitVec 8))} (h : Hds w N v bs) (hlt : k < w.heap.size) (hk : k < N := by omega) : Hds (w.putObj k o) N v bs := h.keep (below_putP (N := k) o (Nat.le_refl _) hlt).size fun c hc _ => World.putObj_heap_other (by omega)
theorem Hds.lower {w : World} {N M : Nat} {v : Value} {bs : List (List (BitVec 8))} (h : Hds w N v bs) (hM : M ≤ N) : Hds w M v bs := by
  obtain ⟨cs, h1, h2⟩ := h
  refine ⟨cs, own_lower h1 hM, fun i hi => ?_⟩
  obtain ⟨p, cap, e1, e2, e3, e4⟩ := h2 i hi
  exact ⟨p, cap, e1, e2, e3, fun c o e => ⟨Nat.le_trans hM (e4 c o e).1, (e4 c o e).2⟩⟩
theorem Hds.push {w w' : World} {N : Nat} {v v' : Value} {bs : List (List (BitVec 8))} {cs : List Value} {p : Option Addr} {cap : Nat} {r : List (BitVec 8)} (h1 : w.ownsRow N 53 1 v bs.length cs)
    (h2 : ∀ i, i < bs.length → ∃ p cap, cs[i]? = some (.slice p (bs.getD i []).length cap) ∧ Sl w p (bs.getD i []) ∧ (p = none → cap = 0) ∧ ∀ c o, p = some ⟨c, o, none⟩ → N ≤ c ∧ c < w.heap.size ∧ v.ownBlock ≠ some c)
    (hs : Sl w p r) (hp : p = none → cap = 0) (hb : ∀ c o, p = some ⟨c, o, none⟩ → N ≤ c ∧ c < w.heap.size ∧ v.ownBlock ≠ some c)
    (hO : w'.ownsRow N 53 1 v' (bs.length + 1) (cs ++ [.slice p r.length cap])) (hg : w.grownBy w' v.ownBlock) (hor : v'.ownBlock = v.ownBlock ∨ v'.ownBlock = some w.heap.size) : Hds w' N v' (bs ++ [r]) := by
  have hcl : cs.length = bs.length := by have := h1.1; omega
  have key : ∀ c, c < w.heap.size → v.ownBlock ≠ some c → w'.heap[c]? = w.heap[c]? ∧ v'.ownBlock ≠ some c := fun c h3 h4 =>
    ⟨hg.block c h3 (fun e => h4 e.symm), fun e => by
      rcases hor with e2 | e2
      · exact h4 (by rw [← e2]; exact e)
      · rw [e2] at e; injection e with e; omega⟩
  refine ⟨cs ++ [.slice p r.length cap], by rw [List.length_append]; exact hO, fun i hi => ?_⟩
  by_cases h : i < bs.length
  · obtain ⟨p', cap', e1, e2, e3, e4⟩ := h2 i h
    have hgd : (bs ++ [r]).getD i [] = bs.getD i [] := by simp [List.getD_eq_getElem?_getD, List.getElem?_append_left h]
    rw [hgd]
    exact ⟨p', cap', by rw [List.getElem?_append_left (by omega)]; exact e1, e2.keepP (fun c o e hlt => (key c hlt (e4 c o e).2.2).1), e3, fun c o e => ⟨(e4 c o e).1, Nat.lt_of_lt_of_le (e4 c o e).2.1 hg.size, (key c (e4 c o e).2.1 (e4 c o e).2.2).2⟩⟩
  · have hi' : i = bs.length := by rw [List.length_append] at hi; simp at hi; omega
    subst hi'
    have hgd : (bs ++ [r]).getD bs.length [] = r := by simp [List.getD_eq_getElem?_getD]
    rw [hgd]
    exact ⟨p, cap, by rw [← hcl]; simp, hs.keepP (fun c o e hlt => (key c hlt (hb c o e).2.2).1), hp, fun c o e => ⟨(hb c o e).1, Nat.lt_of_lt_of_le (hb c o e).2.1 hg.size, (key c (hb c o e).2.1 (hb c o e).2.2).2⟩⟩
/-- Such a slice's shape. -/
theorem Hds.shape {w : World} {N : Nat} {v : Value} {bs : List (List (BitVec 8))} (h : Hds w N v bs) : ∃ p cap, v = .slice p bs.length cap ∧ (p = none → cap = 0) ∧ bs.length ≤ cap ∧ (∀ c o, p = some ⟨c, o, none⟩ → N ≤ c ∧ c < w.heap.size) ∧
    ∀ i, i < bs.length → ∃ c o q d, p = some ⟨c, o, none⟩ ∧ w.cell? ⟨c, o + i, none⟩ = some (.slice q (bs.getD i []).length d) ∧ Sl w q (bs.getD i []) ∧ (q = none → d = 0) := by
  obtain ⟨cs, h1, h2⟩ := h
  obtain ⟨p, cap, e, h3, h4, h5, h6⟩ := own_shape h1
  refine ⟨p, cap, e, h4, h5, h6, fun i hi => ?_⟩
  obtain ⟨q, d, e1, e2, e3, -⟩ := h2 i hi
  obtain ⟨c, o, ep, hlt, hc⟩ := h3.cell e1
  exact ⟨c, o, q, d, ep, hc, e2, e3⟩
theorem blen_le (n i : Nat) : blen n i ≤ 256 := by unfold blen; omega
theorem clone_blk (l : List (BitVec 8)) (q : Option Addr) (n cap i : Nat) (u : World) (hl : l.length = n) (hs : Sl u q l) (hq : q = none → cap = 0) (hc : n ≤ cap) (hi : 256 * i < n) : Calls Tryz.prog 62 #[blkS q n i] u (fun e w' => GivesB u (blkL l i) e w') := by
  have h1 : (blkL l i).length = blen n i := by rw [blkL_len, hl]
  have h2 := blkL_sl hs i
  have h3 := blen_le n i
  have h4 : q.map (·.add (256 * i)) = none → blen n i = 0 := fun e => by
    cases q with
    | none => have := hq rfl; omega
    | some a => cases e
  unfold blkS
  generalize blen n i = m at *
  generalize q.map (·.add (256 * i)) = q' at *
  exact clone_any (blkL l i) q' m m u h1 h2 h4 (Nat.le_refl _) (by omega)
theorem new_cP (w : World) (v : Value) (T : TypeId) : (w.alloc (.cells #[v] T)).cell? ⟨w.heap.size, 0, none⟩ = some v ∧ (w.alloc (.cells #[v] T)).frozen? ⟨w.heap.size, 0, none⟩ = false := ⟨World.cell?_alloc_new _ _ _ _, by go_simp⟩
theorem pre_range {k : Nat} {pre : List Nat} {x : Nat} (h : pre ++ [x] <+: List.range k) : x < k ∧ pre.length < k ∧ x = pre.length := by
  obtain ⟨t, e⟩ := h
  have h1 : (List.range k)[pre.length]? = some x := by rw [← e]; simp
  have hl : pre.length < k := by
    have := (List.getElem?_eq_some_iff.1 h1).1
    simpa using this
  rw [List.getElem?_range hl] at h1
  injection h1 with h1
  omega
theorem others_belowP {W W' : World} (h : Below W.heap.size W W') : KeepsOthers W W' := ⟨h.size, fun k o hk _ => by rw [h.block k (Array.getElem?_eq_some_iff.1 hk).1]; exact hk⟩
theorem KeepsOthers.grown_own {w w' : World} {base k n : Nat} {E : TypeId} {v : Value} {cs : List Value} (h : w.ownsRow base E k v n cs) (hg : w.grownBy w' v.ownBlock) : KeepsOthers w w' := ⟨hg.size, fun j o hj hc => by
  have hlt := (Array.getElem?_eq_some_iff.1 hj).1
  rcases h.2 with ⟨hv, _⟩ | ⟨g, cap, cur, hv, _, hgv, _⟩
  · rw [hg.block j hlt (by rw [hv]; exact fun e => by cases e)]; exact hj
  · by_cases e : j = g
    · subst e
      rw [hgv] at hj
      injection hj with hj
      subst hj
      cases hc
    · rw [hg.block j hlt (by rw [hv]; exact fun e2 => e (by injection e2))]; exact hj⟩
theorem stepIn_appendK {F : Fence} {m : Nat} {ops : Array Oper} {o : Oper} {a : Act} {Q : Exit → Act → World → Prop} {K' : Act → World → Prop} {Z : Prop} {T E : TypeId} {z : Value} {k b n : Nat} {v : Value} {cs : List Value} (K : ElK T E z k b) (w : World) (hgd : o.guard = none) (s x : Operand)
    (ho : o.op = .call { callee := .builtin .append, args := #[s, x], argTypes := #[T, T] })
    (base : Nat) (hs : a.eval s = v) (hown : w.ownsRow base E k v n cs) (p : Option Addr) (m' c : Nat) (news : List Value) (hnl : news.length = m' * k) (hx : a.eval x = .slice p m' c) (hl : LsC w p news) (hp : p = none → c = 0 ∧ m' = 0) (h1 : ∀ u ∈ news, u.oneCell' = true)
    (hn : n + m' < 100000000) (hb : base ≤ w.heap.size)
    (h : ∀ v' w', w'.ownsRow base E k v' (n + m') (cs ++ news) → w.grownBy w' v.ownBlock → (v'.ownBlock = v.ownBlock ∨ v'.ownBlock = some w.heap.size) → K' (a.put o.dst v') w') : if Region.wanted o (yielded ops a.tmps) = true then Oper.wpIn F m Tryz.prog o a w K' Q else Z := by
  have hw : Region.wanted o (yielded ops a.tmps) = true := by simp [Region.wanted, hgd]
  rw [if_pos hw]
  obtain ⟨v', w', hr, h2, h3, h4⟩ := append_ownK K w base o.type hown p m' c news hnl hl hp h1 hn hb
  have hsem : o.semAt F.round a.eval = execOp a.eval o := Oper.semAt_eq _ _ _ (fun c e => by rw [ho] at e; cases e)
  unfold Oper.wpIn
  refine ⟨fun f hf => ?_, ?_⟩
  · exfalso
    unfold Oper.about at hf
    simp only [ho, resolve, Sem.run_bind, Sem.run_pure, Result.andThen_ok, Target.leads] at hf
    cases hf
  · rw [hsem]
    unfold execOp
    simp only [ho, resolve, invoke, builtin, Sem.run_bind, Sem.run_pure, Result.andThen_ok, List.map_toArray, List.map_cons, List.map_nil, hs, hx, hr]
    exact h v' w' h2 h3 h4
end Go.Proofs.YtnmopjefjpifoaaGreatDoor
/- record.Cut. -/
set_option maxRecDepth 100000
namespace Go.Proofs.YtnmopjefjpifoaaGreatDoor
open Go Go.RowKit Go.Shelf
attribute [-go_sem] Sha.exec_store

attribute [local go_sem] Oper.semAt_some
/-- What the walk of Cut carries. -/
def InvC (w : World) (N : Nat) (l : List (BitVec 8)) (pre : List Nat) (A : World) : Prop :=
  ∃ v, A.cell? ⟨N, 0, none⟩ = some v ∧ A.frozen? ⟨N, 0, none⟩ = false ∧ Hds A (N + 4) v (pre.map (blkL l)) ∧ Below w.heap.size w A ∧ N + 2 ≤ A.heap.size
theorem InvC.of_below {w : World} {N : Nat} {l : List (BitVec 8)} {pre : List Nat} {A A' : World} (h : InvC w N l pre A) (hw : w.heap.size ≤ N) (hB : Below A.heap.size A A') : InvC w N l pre A' := by
  obtain ⟨v, h1, h2, h3, h4, h5⟩ := h
  have hlt := World.block_lt_of_cell? A _ h1
  exact ⟨v, by rw [hB.cell (by exact hlt)]; exact h1, by rw [hB.frozen (by exact hlt)]; exact h2, h3.of_below hB, h4.trans (hB.mono h4.size), Nat.le_trans h5 hB.size⟩
theorem InvC.bears (w : World) (N : Nat) (l : List (BitVec 8)) (hw : w.heap.size = N) : BearsP (N + 2) (InvC w N l) :=
  ⟨fun pre A o h => h.of_below (by omega) ((Below.refl _ _).alloc (Nat.le_refl _) _),
   fun pre A o hlt h => by
    obtain ⟨v, h1, h2, h3, h4, h5⟩ := h
    have hB := below_putP (N := N + 2 + 1) o (Nat.le_refl _) hlt
    exact ⟨v, by rw [hB.cell (by show N < _; omega)]; exact h1, by rw [hB.frozen (by show N < _; omega)]; exact h2, h3.put hlt, h4.trans (hB.mono (by omega)), Nat.le_trans h5 hB.size⟩,
   fun pre A k h => h.of_below (by omega) ((show Dr A (A.drewN k) from ⟨k, rfl⟩).below _)⟩
set_option maxRecDepth 100000 in
set_option maxHeartbeats 4000000 in
theorem cut_any10 (l : List (BitVec 8)) (q : Option Addr) (n cap : Nat) (w : World) (hl : l.length = n) (hs : Sl w q l) (hq : q = none → cap = 0) (hc : n ≤ cap) (hn : n < 1000000) :
    Calls Tryz.prog 151 #[.slice q n cap] w fun e w' => ∃ v, e = .returned v ∧ Hds w' w.heap.size v ((List.range (nblk n)).map (blkL l)) ∧ Below w.heap.size w w' := by
  refine (callsIn_wide (n := 7)).1 ?_
  refine callsIn_of_wp_marks Tryz.func151 rfl trivial ?_ rfl
  simp only [Tryz.ntmps151, List.size_toArray, List.length_cons, List.length_nil, Nat.reduceAdd, Nat.reduceSub, Array.replicate_succ, Array.replicate_zero, List.push_toArray, List.append_toArray, List.nil_append, List.cons_append]
  have HSL := Lib.hid hs
  have HLN := Lib.hid hl
  have HQ := Lib.hid hq
  clear hs hl hq
  gi_wp2_with (refine ⟨trivial, ?_⟩; gi_at_call 154; refine (callsIn_wide.2 (blocks_any q n cap _)).mono ?_; rintro e w' ⟨rfl, rfl⟩)
  obtain ⟨N, hN⟩ : ∃ N, w.heap.size = N := ⟨_, rfl⟩
  obtain ⟨W1, hW1⟩ : ∃ W1, w.alloc (.cells #[.slice none 0 0] 73) = W1 := ⟨_, rfl⟩
  obtain ⟨W2, hW2⟩ : ∃ W2, W1.alloc (.cells #[.slice q n cap] 53) = W2 := ⟨_, rfl⟩
  have s1 : W1.heap.size = N + 1 := by rw [← hW1]; simp [hN]
  have s2 : W2.heap.size = N + 2 := by rw [← hW2]; simp [s1]
  have hB1 : Below w.heap.size w W1 := by rw [← hW1]; exact (Below.refl _ _).alloc (Nat.le_refl _) _
  have hB2 : Below W1.heap.size W1 W2 := by rw [← hW2]; exact (Below.refl _ _).alloc (Nat.le_refl _) _
  obtain ⟨c0, f0⟩ := new_cP w (.slice none 0 0) 73
  rw [hW1, hN] at c0 f0
  have c1 : W2.cell? ⟨N + 1, 0, none⟩ = some (.slice q n cap) := by rw [← hW2, ← s1]; exact World.cell?_alloc_new _ _ _ _
  have c0' : W2.cell? ⟨N, 0, none⟩ = some (.slice none 0 0) := by rw [hB2.cell (by show N < _; omega)]; exact c0
  have f0' : W2.frozen? ⟨N, 0, none⟩ = false := by rw [hB2.frozen (by show N < _; omega)]; exact f0
  have inv0 : InvC w N l [] W2 := ⟨_, c0', f0', Hds.nil _ _, hB1.trans (hB2.mono hB1.size), by omega⟩
  have HSEQ := Lib.hid (blocks_seq 6 (by decide) (N + 1) q n cap W2 c1 hn hc)
  rw [hW1, hW2]
  try rw [hN]
  clear hW1 hW2 hB1 hB2 c0 f0 c1 c0' f0'
  refine range_pure (m := 7) (by decide) (gf := 204) (lb := #[.pointer (some ⟨N + 1, 0, none⟩)]) (by rfl) (enters_of Tryz.func204 (by kernel_rfl) rfl)
    (encs := fun i : Nat => #[.int .i64 (i : Int), blkS q n i]) (fun _ => rfl) (b := N + 1) (by omega) HSEQ.out
    (InvC w N l) (fun _ _ => False) (by have := InvC.bears w N l hN; rw [← s2] at this; exact this) (fun _ _ _ _ h => h) inv0
    (fun i => { tmps := #[.slice q n cap, undef, .slice none 0 0, .pointer (some ⟨N, 0, none⟩), undef, blkS q n i, .slice q n cap, .func (.func 204) #[] #[.pointer (some ⟨N + 1, 0, none⟩)], .int .i64 (i : Int), blkS q n i, undef, undef, undef, undef, undef, undef], defers := [] }) ?assign ?body ?done ?stop
  case assign =>
    intro L x A K hK
    gi_wp2
    exact hK
  case body =>
    rintro L pre i A hpx hNA hinv
    rw [s2] at hNA
    have hNA : N + 4 ≤ A.heap.size := hNA
    obtain ⟨v, hcx, hfx, hHd, hBE, -⟩ := hinv
    obtain ⟨hs, hOW, hrows⟩ := hHd
    have hik := pre_range hpx
    have hlen : pre.length + 1 < 100000000 := by have := hik.2.1; unfold nblk at this; omega
    have hvlt : ∀ g, v.ownBlock = some g → N + 4 ≤ g ∧ g < A.heap.size := fun g hg => hOW.lt g hg
    have HOW := Lib.hid hOW
    have HBE := Lib.hid hBE
    have hi256 : 256 * i < n := nblk_lt hik.1
    have HCL := Lib.hid (fun (u : World) (hu : Below A.heap.size A u) => clone_blk l q n cap i u HLN.out (HSL.out.of_below (hBE.trans (hu.mono hBE.size))) HQ.out hc hi256)
    have HHD := Lib.hid (fun (x y : World) (v' : Value) (p : Option Addr) (c : Nat) (hX : Below A.heap.size A x) (h1 : Sl x p (blkL l i)) (h2 : p = none → c = 0) (h3 : ∀ c o, p = some ⟨c, o, none⟩ → A.heap.size ≤ c ∧ c < x.heap.size)
        (h4 : y.ownsRow (N + 4) 53 1 v' ((pre.map (blkL l)).length + 1) (hs ++ [.slice p (blkL l i).length c])) (h5 : x.grownBy y v.ownBlock) (h6 : v'.ownBlock = v.ownBlock ∨ v'.ownBlock = some x.heap.size) => (Hds.push (own_below hOW hX) (fun j hj => by
          obtain ⟨p', cap', e1, e2, e3, e4⟩ := hrows j hj
          exact ⟨p', cap', e1, e2.of_below hX, e3, fun c o e => ⟨(e4 c o e).1, Nat.lt_of_lt_of_le (e4 c o e).2.1 hX.size, (e4 c o e).2.2⟩⟩) h1 h2 (fun c o e => ⟨by have := (h3 c o e).1; omega, (h3 c o e).2, fun e2 => by have := (hvlt c e2).2; have := (h3 c o e).1; omega⟩) h4 h5 h6 : Hds y (N + 4) v' (pre.map (blkL l) ++ [blkL l i])))
    have HX := Lib.hid (show Below A.heap.size A A.drew from (Below.refl _ _).drew)
    have hcx : A.drew.cell? ⟨N, 0, none⟩ = some v := hcx
    have hfx : A.drew.frozen? ⟨N, 0, none⟩ = false := hfx
    have hcy := hcx
    clear hOW hrows hBE hpx hvlt hik
    gi_wp2
    refine wpIn_region_any (by kernel_rfl) ?_
    try (change wpAnyIn _ _ _ _ _ _ _ _ _ (World.drew _))
    generalize A.drew = x at *
    refine wpAnyIn_ready (rs := [0, 1]) (by kernel_rfl) (by simp) ?_
    refine (AllReadyIn.cons (by simp only [List.getElem?_toArray, List.getElem?_cons_succ, List.getElem?_cons_zero]; exact rfl) (fun K hK => ?_) (AllReadyIn.cons (by simp only [List.getElem?_toArray, List.getElem?_cons_succ, List.getElem?_cons_zero]; exact rfl) (fun K hK => ?_) AllReadyIn.nil))
    · go_simp
      refine hK _ _ ?_
      clear hK K
      try simp only [Act.put, List.setIfInBounds_toArray, List.set_cons_zero, List.set_cons_succ]
      refine wpAnyIn_ready (rs := [1]) (by kernel_rfl) (by simp) ?_
      refine (AllReadyIn.cons (by simp only [List.getElem?_toArray, List.getElem?_cons_succ, List.getElem?_cons_zero]; exact rfl) (fun K hK => ?_) AllReadyIn.nil)
      go_simp
      refine hK _ _ ?_
      clear hK K
      try simp only [Act.put, List.setIfInBounds_toArray, List.set_cons_zero, List.set_cons_succ]
      refine wpAnyIn_ready (rs := [2]) (by kernel_rfl) (by simp) ?_
      refine (AllReadyIn.cons (by simp only [List.getElem?_toArray, List.getElem?_cons_succ, List.getElem?_cons_zero]; exact rfl) (fun K hK => ?_) AllReadyIn.nil)
      go_simp
      refine ⟨trivial, (CallsIn.inRound L (callsIn_wide.2 (HCL.out _ HX.out))).mono ?_⟩
      rintro e x2 ⟨v2, rfl, hO2, hB2⟩
      obtain ⟨p2, c2, rfl, hs2, hp2, hc2⟩ := hO2.shape
      have hcx := (show x2.cell? ⟨N, 0, none⟩ = some v from by rw [hB2.cell (by exact World.block_lt_of_cell? x _ hcx)]; exact hcx)
      have hfx := (show x2.frozen? ⟨N, 0, none⟩ = false from by rw [hB2.frozen (by exact World.block_lt_of_cell? x _ hcy)]; exact hfx)
      have hcy := hcx
      have hO2 := hO2.lower (b2 := A.heap.size) HX.out.size
      have HX := Lib.hid (HX.out.trans (hB2.mono HX.out.size))
      have H2 := Lib.hid (And.intro hO2 (And.intro hs2 hp2))
      have HZ2 := Lib.hid hB2.size
      clear hO2 hB2 hs2 hp2 hc2
      refine hK _ _ ?_
      clear hK K
      try simp only [Act.put, List.setIfInBounds_toArray, List.set_cons_zero, List.set_cons_succ]
      refine wpAnyIn_ready (rs := [3]) (by kernel_rfl) (by simp) ?_
      refine (AllReadyIn.cons (by simp only [List.getElem?_toArray, List.getElem?_cons_succ, List.getElem?_cons_zero]; exact rfl) (fun K hK => ?_) AllReadyIn.nil)
      go_simp
      obtain ⟨x23, hy⟩ : ∃ y, (x2.alloc (.cells #[.slice p2 (blkL l i).length c2] 53)) = y := ⟨_, rfl⟩
      have hBa : Below x2.heap.size x2 x23 := by rw [← hy]; exact (Below.refl _ _).alloc (Nat.le_refl _) _
      have hcx := (show x23.cell? ⟨N, 0, none⟩ = some v from by rw [hBa.cell (by exact World.block_lt_of_cell? x2 _ hcx)]; exact hcx)
      have hfx := (show x23.frozen? ⟨N, 0, none⟩ = false from by rw [hBa.frozen (by exact World.block_lt_of_cell? x2 _ hcy)]; exact hfx)
      have hcy := hcx
      have HX := Lib.hid (HX.out.trans (hBa.mono HX.out.size))
      have HH := Lib.hid (show LsC x23 (some ⟨x2.heap.size, 0, none⟩) [.slice p2 (blkL l i).length c2] from by rw [← hy]; exact LsC.made _ [Value.slice p2 (blkL l i).length c2] _)
      have H2 := Lib.hid (And.intro (H2.out.1.of_below hBa) (And.intro (H2.out.2.1.of_below hBa) H2.out.2.2))
      refine hK _ _ ?_
      clear hK K
      rw [hy]
      clear hy hBa
      try simp only [Act.put, List.setIfInBounds_toArray, List.set_cons_zero, List.set_cons_succ]
      refine wpAnyIn_ready (rs := [4]) (by kernel_rfl) (by simp) ?_
      refine (AllReadyIn.cons (by simp only [List.getElem?_toArray, List.getElem?_cons_succ, List.getElem?_cons_zero]; exact rfl) (fun K hK => ?_) AllReadyIn.nil)
      have hO := own_below HOW.out HX.out
      refine stepIn_appendK elR x23 rfl (.tmp 10) (.tmp 13) rfl (N + 4) rfl hO _ 1 1 [.slice p2 (blkL l i).length c2] rfl rfl HH.out (fun h => by cases h) (fun u hu => by rw [List.mem_singleton] at hu; subst hu; rfl) (by rw [List.length_map]; omega) (Nat.le_trans hNA HX.out.size) ?_
      rintro v' x234 hO' hg hor
      have hHd := HHD.out x23 x234 v' p2 c2 HX.out H2.out.2.1 H2.out.2.2 (fun c o e => H2.out.1.lt c (by rw [e]; rfl)) hO' hg hor
      have hne : some N ≠ v.ownBlock := fun e => by have := (World.ownsRow.lt hO N e.symm).1; omega
      have hcx := (show x234.cell? ⟨N, 0, none⟩ = some v from hg.cell hcx hne)
      have hfx := (show x234.frozen? ⟨N, 0, none⟩ = false from by rw [World.frozen?_of_block (w := x23) (hg.block N (by exact World.block_lt_of_cell? x23 _ hcy) hne)]; exact hfx)
      have HBB := Lib.hid (show x234.heap[N + 1]? = A.heap[N + 1]? from by
        rw [hg.block (N + 1) (by have := HX.out.size; omega) (fun e => by have := (World.ownsRow.lt hO (N + 1) e.symm).1; omega)]
        exact HX.out.block _ (by omega))
      have HBW := Lib.hid (HBE.out.trans ((HX.out.mono (by omega)).grown hg (by have := HX.out.size; omega) (fun k hk => by have := (World.ownsRow.lt hO k hk).1; omega)))
      have HKO := Lib.hid ((others_belowP HX.out).trans (KeepsOthers.grown_own hO hg))
      have HHD2 := Lib.hid hHd
      have hv4 : ∃ p n c, v' = .slice p n c := by obtain ⟨p', c', e', -⟩ := own_shape hO'; exact ⟨_, _, _, e'⟩
      obtain ⟨p4, n4, c4, rfl⟩ := hv4
      have HZ4 := Lib.hid (show N + 4 ≤ x234.heap.size from Nat.le_trans (Nat.le_trans hNA HX.out.size) hg.size)
      clear hO hO' hg hor hHd hne
      refine hK _ _ ?_
      clear hK K
      try simp only [Act.put, List.setIfInBounds_toArray, List.set_cons_zero, List.set_cons_succ]
      refine wpAnyIn_ready (rs := [5]) (by kernel_rfl) (by simp) ?_
      refine (AllReadyIn.cons (by simp only [List.getElem?_toArray, List.getElem?_cons_succ, List.getElem?_cons_zero]; exact rfl) (fun K hK => ?_) AllReadyIn.nil)
      go_simp
      refine hK _ _ ?_
      clear hK K
      try simp only [Act.put, List.setIfInBounds_toArray, List.set_cons_zero, List.set_cons_succ]
      refine wpAnyIn_done (by kernel_rfl) ?_ _
      refine ⟨HKO.out.trans (KeepsOthers.setCell _ _ _), (Below.heap_setCell _ _ _ _ (show N + 1 ≠ N by omega)).trans HBB.out, _, World.cell?_setCell_same _ _ _ hcx, by rw [World.frozen?_setCell]; exact hfx, ?_, HBW.out.setCell (show w.heap.size ≤ (⟨N, 0, none⟩ : Addr).block by rw [hN]; exact Nat.le_refl _) _, by have := HZ4.out; simp; omega⟩
      rw [List.map_append]
      exact HHD2.out.far (by omega)
    · go_simp
      refine hK _ _ ?_
      clear hK K
      try simp only [Act.put, List.setIfInBounds_toArray, List.set_cons_zero, List.set_cons_succ]
      refine wpAnyIn_ready (rs := [0, 2]) (by kernel_rfl) (by simp) ?_
      refine (AllReadyIn.cons (by simp only [List.getElem?_toArray, List.getElem?_cons_succ, List.getElem?_cons_zero]; exact rfl) (fun K hK => ?_) (AllReadyIn.cons (by simp only [List.getElem?_toArray, List.getElem?_cons_succ, List.getElem?_cons_zero]; exact rfl) (fun K hK => ?_) AllReadyIn.nil))
      · go_simp
        refine hK _ _ ?_
        clear hK K
        try simp only [Act.put, List.setIfInBounds_toArray, List.set_cons_zero, List.set_cons_succ]
        refine wpAnyIn_ready (rs := [2]) (by kernel_rfl) (by simp) ?_
        refine (AllReadyIn.cons (by simp only [List.getElem?_toArray, List.getElem?_cons_succ, List.getElem?_cons_zero]; exact rfl) (fun K hK => ?_) AllReadyIn.nil)
        go_simp
        refine ⟨trivial, (CallsIn.inRound L (callsIn_wide.2 (HCL.out _ HX.out))).mono ?_⟩
        rintro e x2 ⟨v2, rfl, hO2, hB2⟩
        obtain ⟨p2, c2, rfl, hs2, hp2, hc2⟩ := hO2.shape
        have hcx := (show x2.cell? ⟨N, 0, none⟩ = some v from by rw [hB2.cell (by exact World.block_lt_of_cell? x _ hcx)]; exact hcx)
        have hfx := (show x2.frozen? ⟨N, 0, none⟩ = false from by rw [hB2.frozen (by exact World.block_lt_of_cell? x _ hcy)]; exact hfx)
        have hcy := hcx
        have hO2 := hO2.lower (b2 := A.heap.size) HX.out.size
        have HX := Lib.hid (HX.out.trans (hB2.mono HX.out.size))
        have H2 := Lib.hid (And.intro hO2 (And.intro hs2 hp2))
        have HZ2 := Lib.hid hB2.size
        clear hO2 hB2 hs2 hp2 hc2
        refine hK _ _ ?_
        clear hK K
        try simp only [Act.put, List.setIfInBounds_toArray, List.set_cons_zero, List.set_cons_succ]
        refine wpAnyIn_ready (rs := [3]) (by kernel_rfl) (by simp) ?_
        refine (AllReadyIn.cons (by simp only [List.getElem?_toArray, List.getElem?_cons_succ, List.getElem?_cons_zero]; exact rfl) (fun K hK => ?_) AllReadyIn.nil)
        go_simp
        obtain ⟨x23, hy⟩ : ∃ y, (x2.alloc (.cells #[.slice p2 (blkL l i).length c2] 53)) = y := ⟨_, rfl⟩
        have hBa : Below x2.heap.size x2 x23 := by rw [← hy]; exact (Below.refl _ _).alloc (Nat.le_refl _) _
        have hcx := (show x23.cell? ⟨N, 0, none⟩ = some v from by rw [hBa.cell (by exact World.block_lt_of_cell? x2 _ hcx)]; exact hcx)
        have hfx := (show x23.frozen? ⟨N, 0, none⟩ = false from by rw [hBa.frozen (by exact World.block_lt_of_cell? x2 _ hcy)]; exact hfx)
        have hcy := hcx
        have HX := Lib.hid (HX.out.trans (hBa.mono HX.out.size))
        have HH := Lib.hid (show LsC x23 (some ⟨x2.heap.size, 0, none⟩) [.slice p2 (blkL l i).length c2] from by rw [← hy]; exact LsC.made _ [Value.slice p2 (blkL l i).length c2] _)
        have H2 := Lib.hid (And.intro (H2.out.1.of_below hBa) (And.intro (H2.out.2.1.of_below hBa) H2.out.2.2))
        refine hK _ _ ?_
        clear hK K
        rw [hy]
        clear hy hBa
        try simp only [Act.put, List.setIfInBounds_toArray, List.set_cons_zero, List.set_cons_succ]
        refine wpAnyIn_ready (rs := [4]) (by kernel_rfl) (by simp) ?_
        refine (AllReadyIn.cons (by simp only [List.getElem?_toArray, List.getElem?_cons_succ, List.getElem?_cons_zero]; exact rfl) (fun K hK => ?_) AllReadyIn.nil)
        have hO := own_below HOW.out HX.out
        refine stepIn_appendK elR x23 rfl (.tmp 10) (.tmp 13) rfl (N + 4) rfl hO _ 1 1 [.slice p2 (blkL l i).length c2] rfl rfl HH.out (fun h => by cases h) (fun u hu => by rw [List.mem_singleton] at hu; subst hu; rfl) (by rw [List.length_map]; omega) (Nat.le_trans hNA HX.out.size) ?_
        rintro v' x234 hO' hg hor
        have hHd := HHD.out x23 x234 v' p2 c2 HX.out H2.out.2.1 H2.out.2.2 (fun c o e => H2.out.1.lt c (by rw [e]; rfl)) hO' hg hor
        have hne : some N ≠ v.ownBlock := fun e => by have := (World.ownsRow.lt hO N e.symm).1; omega
        have hcx := (show x234.cell? ⟨N, 0, none⟩ = some v from hg.cell hcx hne)
        have hfx := (show x234.frozen? ⟨N, 0, none⟩ = false from by rw [World.frozen?_of_block (w := x23) (hg.block N (by exact World.block_lt_of_cell? x23 _ hcy) hne)]; exact hfx)
        have HBB := Lib.hid (show x234.heap[N + 1]? = A.heap[N + 1]? from by
          rw [hg.block (N + 1) (by have := HX.out.size; omega) (fun e => by have := (World.ownsRow.lt hO (N + 1) e.symm).1; omega)]
          exact HX.out.block _ (by omega))
        have HBW := Lib.hid (HBE.out.trans ((HX.out.mono (by omega)).grown hg (by have := HX.out.size; omega) (fun k hk => by have := (World.ownsRow.lt hO k hk).1; omega)))
        have HKO := Lib.hid ((others_belowP HX.out).trans (KeepsOthers.grown_own hO hg))
        have HHD2 := Lib.hid hHd
        have hv4 : ∃ p n c, v' = .slice p n c := by obtain ⟨p', c', e', -⟩ := own_shape hO'; exact ⟨_, _, _, e'⟩
        obtain ⟨p4, n4, c4, rfl⟩ := hv4
        have HZ4 := Lib.hid (show N + 4 ≤ x234.heap.size from Nat.le_trans (Nat.le_trans hNA HX.out.size) hg.size)
        clear hO hO' hg hor hHd hne
        refine hK _ _ ?_
        clear hK K
        try simp only [Act.put, List.setIfInBounds_toArray, List.set_cons_zero, List.set_cons_succ]
        refine wpAnyIn_ready (rs := [5]) (by kernel_rfl) (by simp) ?_
        refine (AllReadyIn.cons (by simp only [List.getElem?_toArray, List.getElem?_cons_succ, List.getElem?_cons_zero]; exact rfl) (fun K hK => ?_) AllReadyIn.nil)
        go_simp
        refine hK _ _ ?_
        clear hK K
        try simp only [Act.put, List.setIfInBounds_toArray, List.set_cons_zero, List.set_cons_succ]
        refine wpAnyIn_done (by kernel_rfl) ?_ _
        refine ⟨HKO.out.trans (KeepsOthers.setCell _ _ _), (Below.heap_setCell _ _ _ _ (show N + 1 ≠ N by omega)).trans HBB.out, _, World.cell?_setCell_same _ _ _ hcx, by rw [World.frozen?_setCell]; exact hfx, ?_, HBW.out.setCell (show w.heap.size ≤ (⟨N, 0, none⟩ : Addr).block by rw [hN]; exact Nat.le_refl _) _, by have := HZ4.out; simp; omega⟩
        rw [List.map_append]
        exact HHD2.out.far (by omega)
      · go_simp
        refine ⟨trivial, (CallsIn.inRound L (callsIn_wide.2 (HCL.out _ HX.out))).mono ?_⟩
        rintro e x2 ⟨v2, rfl, hO2, hB2⟩
        obtain ⟨p2, c2, rfl, hs2, hp2, hc2⟩ := hO2.shape
        have hcx := (show x2.cell? ⟨N, 0, none⟩ = some v from by rw [hB2.cell (by exact World.block_lt_of_cell? x _ hcx)]; exact hcx)
        have hfx := (show x2.frozen? ⟨N, 0, none⟩ = false from by rw [hB2.frozen (by exact World.block_lt_of_cell? x _ hcy)]; exact hfx)
        have hcy := hcx
        have hO2 := hO2.lower (b2 := A.heap.size) HX.out.size
        have HX := Lib.hid (HX.out.trans (hB2.mono HX.out.size))
        have H2 := Lib.hid (And.intro hO2 (And.intro hs2 hp2))
        have HZ2 := Lib.hid hB2.size
        clear hO2 hB2 hs2 hp2 hc2
        refine hK _ _ ?_
        clear hK K
        try simp only [Act.put, List.setIfInBounds_toArray, List.set_cons_zero, List.set_cons_succ]
        refine wpAnyIn_ready (rs := [0, 3]) (by kernel_rfl) (by simp) ?_
        refine (AllReadyIn.cons (by simp only [List.getElem?_toArray, List.getElem?_cons_succ, List.getElem?_cons_zero]; exact rfl) (fun K hK => ?_) (AllReadyIn.cons (by simp only [List.getElem?_toArray, List.getElem?_cons_succ, List.getElem?_cons_zero]; exact rfl) (fun K hK => ?_) AllReadyIn.nil))
        · go_simp
          refine hK _ _ ?_
          clear hK K
          try simp only [Act.put, List.setIfInBounds_toArray, List.set_cons_zero, List.set_cons_succ]
          refine wpAnyIn_ready (rs := [3]) (by kernel_rfl) (by simp) ?_
          refine (AllReadyIn.cons (by simp only [List.getElem?_toArray, List.getElem?_cons_succ, List.getElem?_cons_zero]; exact rfl) (fun K hK => ?_) AllReadyIn.nil)
          go_simp
          obtain ⟨x23, hy⟩ : ∃ y, (x2.alloc (.cells #[.slice p2 (blkL l i).length c2] 53)) = y := ⟨_, rfl⟩
          have hBa : Below x2.heap.size x2 x23 := by rw [← hy]; exact (Below.refl _ _).alloc (Nat.le_refl _) _
          have hcx := (show x23.cell? ⟨N, 0, none⟩ = some v from by rw [hBa.cell (by exact World.block_lt_of_cell? x2 _ hcx)]; exact hcx)
          have hfx := (show x23.frozen? ⟨N, 0, none⟩ = false from by rw [hBa.frozen (by exact World.block_lt_of_cell? x2 _ hcy)]; exact hfx)
          have hcy := hcx
          have HX := Lib.hid (HX.out.trans (hBa.mono HX.out.size))
          have HH := Lib.hid (show LsC x23 (some ⟨x2.heap.size, 0, none⟩) [.slice p2 (blkL l i).length c2] from by rw [← hy]; exact LsC.made _ [Value.slice p2 (blkL l i).length c2] _)
          have H2 := Lib.hid (And.intro (H2.out.1.of_below hBa) (And.intro (H2.out.2.1.of_below hBa) H2.out.2.2))
          refine hK _ _ ?_
          clear hK K
          rw [hy]
          clear hy hBa
          try simp only [Act.put, List.setIfInBounds_toArray, List.set_cons_zero, List.set_cons_succ]
          refine wpAnyIn_ready (rs := [4]) (by kernel_rfl) (by simp) ?_
          refine (AllReadyIn.cons (by simp only [List.getElem?_toArray, List.getElem?_cons_succ, List.getElem?_cons_zero]; exact rfl) (fun K hK => ?_) AllReadyIn.nil)
          have hO := own_below HOW.out HX.out
          refine stepIn_appendK elR x23 rfl (.tmp 10) (.tmp 13) rfl (N + 4) rfl hO _ 1 1 [.slice p2 (blkL l i).length c2] rfl rfl HH.out (fun h => by cases h) (fun u hu => by rw [List.mem_singleton] at hu; subst hu; rfl) (by rw [List.length_map]; omega) (Nat.le_trans hNA HX.out.size) ?_
          rintro v' x234 hO' hg hor
          have hHd := HHD.out x23 x234 v' p2 c2 HX.out H2.out.2.1 H2.out.2.2 (fun c o e => H2.out.1.lt c (by rw [e]; rfl)) hO' hg hor
          have hne : some N ≠ v.ownBlock := fun e => by have := (World.ownsRow.lt hO N e.symm).1; omega
          have hcx := (show x234.cell? ⟨N, 0, none⟩ = some v from hg.cell hcx hne)
          have hfx := (show x234.frozen? ⟨N, 0, none⟩ = false from by rw [World.frozen?_of_block (w := x23) (hg.block N (by exact World.block_lt_of_cell? x23 _ hcy) hne)]; exact hfx)
          have HBB := Lib.hid (show x234.heap[N + 1]? = A.heap[N + 1]? from by
            rw [hg.block (N + 1) (by have := HX.out.size; omega) (fun e => by have := (World.ownsRow.lt hO (N + 1) e.symm).1; omega)]
            exact HX.out.block _ (by omega))
          have HBW := Lib.hid (HBE.out.trans ((HX.out.mono (by omega)).grown hg (by have := HX.out.size; omega) (fun k hk => by have := (World.ownsRow.lt hO k hk).1; omega)))
          have HKO := Lib.hid ((others_belowP HX.out).trans (KeepsOthers.grown_own hO hg))
          have HHD2 := Lib.hid hHd
          have hv4 : ∃ p n c, v' = .slice p n c := by obtain ⟨p', c', e', -⟩ := own_shape hO'; exact ⟨_, _, _, e'⟩
          obtain ⟨p4, n4, c4, rfl⟩ := hv4
          have HZ4 := Lib.hid (show N + 4 ≤ x234.heap.size from Nat.le_trans (Nat.le_trans hNA HX.out.size) hg.size)
          clear hO hO' hg hor hHd hne
          refine hK _ _ ?_
          clear hK K
          try simp only [Act.put, List.setIfInBounds_toArray, List.set_cons_zero, List.set_cons_succ]
          refine wpAnyIn_ready (rs := [5]) (by kernel_rfl) (by simp) ?_
          refine (AllReadyIn.cons (by simp only [List.getElem?_toArray, List.getElem?_cons_succ, List.getElem?_cons_zero]; exact rfl) (fun K hK => ?_) AllReadyIn.nil)
          go_simp
          refine hK _ _ ?_
          clear hK K
          try simp only [Act.put, List.setIfInBounds_toArray, List.set_cons_zero, List.set_cons_succ]
          refine wpAnyIn_done (by kernel_rfl) ?_ _
          refine ⟨HKO.out.trans (KeepsOthers.setCell _ _ _), (Below.heap_setCell _ _ _ _ (show N + 1 ≠ N by omega)).trans HBB.out, _, World.cell?_setCell_same _ _ _ hcx, by rw [World.frozen?_setCell]; exact hfx, ?_, HBW.out.setCell (show w.heap.size ≤ (⟨N, 0, none⟩ : Addr).block by rw [hN]; exact Nat.le_refl _) _, by have := HZ4.out; simp; omega⟩
          rw [List.map_append]
          exact HHD2.out.far (by omega)
        · go_simp
          obtain ⟨x23, hy⟩ : ∃ y, (x2.alloc (.cells #[.slice p2 (blkL l i).length c2] 53)) = y := ⟨_, rfl⟩
          have hBa : Below x2.heap.size x2 x23 := by rw [← hy]; exact (Below.refl _ _).alloc (Nat.le_refl _) _
          have hcx := (show x23.cell? ⟨N, 0, none⟩ = some v from by rw [hBa.cell (by exact World.block_lt_of_cell? x2 _ hcx)]; exact hcx)
          have hfx := (show x23.frozen? ⟨N, 0, none⟩ = false from by rw [hBa.frozen (by exact World.block_lt_of_cell? x2 _ hcy)]; exact hfx)
          have hcy := hcx
          have HX := Lib.hid (HX.out.trans (hBa.mono HX.out.size))
          have HH := Lib.hid (show LsC x23 (some ⟨x2.heap.size, 0, none⟩) [.slice p2 (blkL l i).length c2] from by rw [← hy]; exact LsC.made _ [Value.slice p2 (blkL l i).length c2] _)
          have H2 := Lib.hid (And.intro (H2.out.1.of_below hBa) (And.intro (H2.out.2.1.of_below hBa) H2.out.2.2))
          refine hK _ _ ?_
          clear hK K
          rw [hy]
          clear hy hBa
          try simp only [Act.put, List.setIfInBounds_toArray, List.set_cons_zero, List.set_cons_succ]
          refine wpAnyIn_ready (rs := [0]) (by kernel_rfl) (by simp) ?_
          refine (AllReadyIn.cons (by simp only [List.getElem?_toArray, List.getElem?_cons_succ, List.getElem?_cons_zero]; exact rfl) (fun K hK => ?_) AllReadyIn.nil)
          go_simp
          refine hK _ _ ?_
          clear hK K
          try simp only [Act.put, List.setIfInBounds_toArray, List.set_cons_zero, List.set_cons_succ]
          refine wpAnyIn_ready (rs := [4]) (by kernel_rfl) (by simp) ?_
          refine (AllReadyIn.cons (by simp only [List.getElem?_toArray, List.getElem?_cons_succ, List.getElem?_cons_zero]; exact rfl) (fun K hK => ?_) AllReadyIn.nil)
          have hO := own_below HOW.out HX.out
          refine stepIn_appendK elR x23 rfl (.tmp 10) (.tmp 13) rfl (N + 4) rfl hO _ 1 1 [.slice p2 (blkL l i).length c2] rfl rfl HH.out (fun h => by cases h) (fun u hu => by rw [List.mem_singleton] at hu; subst hu; rfl) (by rw [List.length_map]; omega) (Nat.le_trans hNA HX.out.size) ?_
          rintro v' x234 hO' hg hor
          have hHd := HHD.out x23 x234 v' p2 c2 HX.out H2.out.2.1 H2.out.2.2 (fun c o e => H2.out.1.lt c (by rw [e]; rfl)) hO' hg hor
          have hne : some N ≠ v.ownBlock := fun e => by have := (World.ownsRow.lt hO N e.symm).1; omega
          have hcx := (show x234.cell? ⟨N, 0, none⟩ = some v from hg.cell hcx hne)
          have hfx := (show x234.frozen? ⟨N, 0, none⟩ = false from by rw [World.frozen?_of_block (w := x23) (hg.block N (by exact World.block_lt_of_cell? x23 _ hcy) hne)]; exact hfx)
          have HBB := Lib.hid (show x234.heap[N + 1]? = A.heap[N + 1]? from by
            rw [hg.block (N + 1) (by have := HX.out.size; omega) (fun e => by have := (World.ownsRow.lt hO (N + 1) e.symm).1; omega)]
            exact HX.out.block _ (by omega))
          have HBW := Lib.hid (HBE.out.trans ((HX.out.mono (by omega)).grown hg (by have := HX.out.size; omega) (fun k hk => by have := (World.ownsRow.lt hO k hk).1; omega)))
          have HKO := Lib.hid ((others_belowP HX.out).trans (KeepsOthers.grown_own hO hg))
          have HHD2 := Lib.hid hHd
          have hv4 : ∃ p n c, v' = .slice p n c := by obtain ⟨p', c', e', -⟩ := own_shape hO'; exact ⟨_, _, _, e'⟩
          obtain ⟨p4, n4, c4, rfl⟩ := hv4
          have HZ4 := Lib.hid (show N + 4 ≤ x234.heap.size from Nat.le_trans (Nat.le_trans hNA HX.out.size) hg.size)
          clear hO hO' hg hor hHd hne
          refine hK _ _ ?_
          clear hK K
          try simp only [Act.put, List.setIfInBounds_toArray, List.set_cons_zero, List.set_cons_succ]
          refine wpAnyIn_ready (rs := [5]) (by kernel_rfl) (by simp) ?_
          refine (AllReadyIn.cons (by simp only [List.getElem?_toArray, List.getElem?_cons_succ, List.getElem?_cons_zero]; exact rfl) (fun K hK => ?_) AllReadyIn.nil)
          go_simp
          refine hK _ _ ?_
          clear hK K
          try simp only [Act.put, List.setIfInBounds_toArray, List.set_cons_zero, List.set_cons_succ]
          refine wpAnyIn_done (by kernel_rfl) ?_ _
          refine ⟨HKO.out.trans (KeepsOthers.setCell _ _ _), (Below.heap_setCell _ _ _ _ (show N + 1 ≠ N by omega)).trans HBB.out, _, World.cell?_setCell_same _ _ _ hcx, by rw [World.frozen?_setCell]; exact hfx, ?_, HBW.out.setCell (show w.heap.size ≤ (⟨N, 0, none⟩ : Addr).block by rw [hN]; exact Nat.le_refl _) _, by have := HZ4.out; simp; omega⟩
          rw [List.map_append]
          exact HHD2.out.far (by omega)
  case done =>
    rintro D A hD hinv hK
    obtain ⟨v, hcx, hfx, hHd, hBE, -⟩ := hinv
    have HD := Lib.hid hHd
    have HBE := Lib.hid hBE
    clear hHd hBE hfx inv0
    gi_wp2
    refine ⟨by simp, .inl ⟨_, _, rfl, run_takeDeferred hK, ?_⟩⟩
    have hDl := (Array.getElem?_eq_some_iff.1 hK).1
    refine ⟨v, ?_, v, rfl, (HD.out.put hDl (by omega)).lower (by omega), HBE.out.trans (below_putP _ (by omega) hDl)⟩
    simp [results, Tryz.f151, go_sem]
  case stop =>
    rintro D pre A hD hpre hF hK
    exact hF.elim
end Go.Proofs.YtnmopjefjpifoaaGreatDoor
/- Slices of slices of bytes, as they read; the blocks of bytes one behind the other. -/
set_option maxRecDepth 100000
namespace Go.Proofs.YtnmopjefjpifoaaGreatDoor
open Go Go.RowKit
attribute [-go_sem] Sha.exec_store

/-- The headers hs are those of the bytes bs. -/
def Hrows (w : World) (hs : List Value) (bs : List (List (BitVec 8))) : Prop := ∀ i, i < bs.length → ∃ p cap, hs[i]? = some (.slice p (bs.getD i []).length cap) ∧ Sl w p (bs.getD i []) ∧ (p = none → cap = 0)
theorem Hrows.append {w : World} {hs hs' : List Value} {bs bs' : List (List (BitVec 8))} (h : Hrows w hs bs) (h' : Hrows w hs' bs') (hl : hs.length = bs.length) : Hrows w (hs ++ hs') (bs ++ bs') := fun i hi => by
  rw [List.length_append] at hi
  by_cases c : i < bs.length
  · obtain ⟨p, cap, e1, e2, e3⟩ := h i c
    have hg : (bs ++ bs').getD i [] = bs.getD i [] := by simp [List.getD_eq_getElem?_getD, List.getElem?_append_left c]
    rw [hg]
    exact ⟨p, cap, by rw [List.getElem?_append_left (by omega)]; exact e1, e2, e3⟩
  · obtain ⟨p, cap, e1, e2, e3⟩ := h' (i - bs.length) (by omega)
    have hg : (bs ++ bs').getD i [] = bs'.getD (i - bs.length) [] := by simp [List.getD_eq_getElem?_getD, List.getElem?_append_right (Nat.le_of_not_lt c)]
    rw [hg]
    exact ⟨p, cap, by rw [List.getElem?_append_right (by omega), hl]; exact e1, e2, e3⟩
theorem Hrows.of_below {w w' : World} {hs : List Value} {bs : List (List (BitVec 8))} (h : Hrows w hs bs) (k : Below w.heap.size w w') : Hrows w' hs bs := fun i hi => by
  obtain ⟨p, cap, e1, e2, e3⟩ := h i hi
  exact ⟨p, cap, e1, e2.of_below k, e3⟩
theorem Hds.open {w : World} {N : Nat} {v : Value} {bs : List (List (BitVec 8))} (h : Hds w N v bs) : ∃ hs p cap, v = .slice p bs.length cap ∧ hs.length = bs.length ∧ LsC w p hs ∧ (p = none → cap = 0 ∧ bs.length = 0) ∧ bs.length ≤ cap ∧ Hrows w hs bs ∧ (∀ u ∈ hs, u.oneCell' = true) := by
  obtain ⟨hs, h1, h2⟩ := h
  obtain ⟨p, cap, e, h3, h4, h5, -⟩ := own_shape h1
  have hl : hs.length = bs.length := by have := h1.1; omega
  refine ⟨hs, p, cap, e, hl, h3, fun e => ⟨h4 e, by have := h4 e; omega⟩, h5, fun i hi => ?_, fun u hu => ?_⟩
  · obtain ⟨q, d, e1, e2, e3, -⟩ := h2 i hi
    exact ⟨q, d, e1, e2, e3⟩
  · obtain ⟨i, hi, e⟩ := List.getElem_of_mem hu
    obtain ⟨q, d, e1, -⟩ := h2 i (by omega)
    rw [List.getElem?_eq_getElem hi, e] at e1
    injection e1 with e1
    rw [e1]
    rfl
/-- A header that is read. -/
theorem Hrows.cell {w : World} {hs : List Value} {bs : List (List (BitVec 8))} {p : Option Addr} (h : Hrows w hs bs) (hl : LsC w p hs) (i : Nat) (hi : i < bs.length) : ∃ c o q d, p = some ⟨c, o, none⟩ ∧ w.cell? ⟨c, o + i, none⟩ = some (.slice q (bs.getD i []).length d) ∧ Sl w q (bs.getD i []) ∧ (q = none → d = 0) := by
  obtain ⟨q, d, e1, e2, e3⟩ := h i hi
  obtain ⟨c, o, ep, -, hc⟩ := hl.cell e1
  exact ⟨c, o, q, d, ep, hc, e2, e3⟩
end Go.Proofs.YtnmopjefjpifoaaGreatDoor
/- copy of bytes into a row of the call's own: as many as the shorter one has. -/
set_option maxRecDepth 100000
namespace Go.Proofs.YtnmopjefjpifoaaGreatDoor
open Go Go.RowKit
attribute [-go_sem] Sha.exec_store

/-- A cut of bytes from any number of them on. -/
theorem slb_lo (q : Option Addr) (n cap k : Nat) (w : World) (hk : k ≤ n) :
    (slT 53 (.slice q n cap) (some (.int .i64 (k : Int))) none none).run Tryz.prog w = .ok (.value (.slice (cutA q cap k) (n - k) (cap - k))) w := by
  have h1 := run_sliceAt_slice (P := Tryz.prog) w 53 (.slice q n cap) (some (.int .i64 (k : Int))) none none und35
  rw [run_slice_l (P := Tryz.prog) w 53 q n cap und35 .i64 (k : Int) (by omega) (by omega), sizeB] at h1
  simp only [slT, Sem.run_bind, h1, Result.andThen_ok, Sem.run_pure]
  simp only [sliced, Int.toNat_natCast, Nat.mul_one, cutA]
/-- What the copy leaves. -/
def copied1 (l : List (BitVec 8)) (t : Nat) (g : Nat → Value) : Nat → Value := fun j => if j < t then B (l.getD j 0#8) else g j
theorem run_copyM (w : World) (ty : TypeId) (E m c : Nat) (g : Nat → Value) (q : Option Addr) (n c' : Nat) (l : List (BitVec 8)) (hR : Row w E 5 m g) (hl : l.length = n) (hsl : Sl w q l) (t : Nat) (ht : t = min m n) :
    ∃ w', (Builtin.copy_ #[53, 53] ty #[.slice (some ⟨E, 0, none⟩) m c, .slice q n c']).run Tryz.prog w = .ok (.int .i64 (t : Int)) w' ∧ Row w' E 5 m (copied1 l t g) ∧ Kp E w w' := by
  by_cases h0 : t = 0
  · subst h0
    have hn : Nat.min n m = 0 := by show min n m = 0; omega
    refine ⟨w, ?_, hR.congr fun j _ => by rw [copied1, if_neg (by omega)], Kp.refl _ _⟩
    have := run_copy_none (P := Tryz.prog) w 53 53 ty 5 (some ⟨E, 0, none⟩) q m c n c' und35 (by kernel_rfl) hn
    rw [this]
    rfl
  · obtain ⟨c0, o0, rfl, hc⟩ := hsl 0 (by omega)
    have hlen : ((l.take t).map B).length = t := by rw [List.length_map, List.length_take]; omega
    have key := run_copy_row (P := Tryz.prog) w 53 53 ty 5 E 0 m c ⟨c0, o0, none⟩ n c' (tab m g) 5 ((l.take t).map B) und35 (by kernel_rfl) hR (by rw [hlen, ht]; exact Nat.min_comm _ _)
      (fun j v hv => by
        have hj : j < t := by
          have := (List.getElem?_eq_some_iff.1 hv).1
          rw [hlen] at this; exact this
        refine hsl.news j v ?_
        rw [List.getElem?_map] at hv ⊢
        rw [List.getElem?_take, if_pos hj] at hv
        exact hv) (by rw [tab_size, hlen]; omega) (one_map _)
    have e : ((tab m g).toList.take 0 ++ (l.take t).map B ++ (tab m g).toList.drop (0 + ((l.take t).map B).length)).toArray = tab m (copied1 l t g) := by
      have := tab_splice m t g (l.take t) (by rw [List.length_take]; omega) (by omega)
      rw [List.append_assoc, this]
      refine tab_congr fun j _ => ?_
      unfold copied1
      by_cases hj : j < t
      · rw [if_pos hj, if_pos hj]; congr 1; simp [List.getD_eq_getElem?_getD, hj]
      · rw [if_neg hj, if_neg hj]
    rw [e, hlen] at key
    exact ⟨_, key, setRow_heap w E _ _ 5 _ hR, ⟨rfl, rfl, rfl, by simp [World.setRow], fun k _ hk => setRow_other w E k _ hk⟩⟩
section
variable {ops : Array Oper} {rest : List Oper} {o : Oper} {a : Act} {Q : Exit → Act → World → Prop} (w : World) (hgd : o.guard = none) (d s : Operand)
    (ho : o.op = .call { callee := .builtin .copy, args := #[d, s], argTypes := #[53, 53] }) (E m c : Nat) (g : Nat → Value) (q : Option Addr) (n c' : Nat) (l : List (BitVec 8))
    (hd : a.eval d = .slice (some ⟨E, 0, none⟩) m c) (hs : a.eval s = .slice q n c') (hR : Row w E 5 m g) (hl : l.length = n) (hsl : Sl w q l) (t : Nat) (ht : t = min m n)
include hgd ho hd hs hR hl hsl ht
theorem wpl_copyM (h : ∀ w', Row w' E 5 m (copied1 l t g) → Kp E w w' → wpList Tryz.prog ops Q rest (a.put o.dst (.int .i64 (t : Int))) w') : wpList Tryz.prog ops Q (o :: rest) a w := by
  refine wpList_plain hgd fun K hK => ?_
  obtain ⟨w', hr, h2, h3⟩ := run_copyM w o.type E m c g q n c' l hR hl hsl t ht
  unfold Oper.wp execOp
  simp only [ho, resolve, invoke, builtin, Sem.run_bind, Sem.run_pure, Result.andThen_ok, List.map_toArray, List.map_cons, List.map_nil, hd, hs, hr]
  exact hK _ _ (h w' h2 h3)
end
end Go.Proofs.YtnmopjefjpifoaaGreatDoor
/- The reader's next bytes and numbers. -/
set_option maxRecDepth 100000
namespace Go.Proofs.YtnmopjefjpifoaaGreatDoor
open Go Go.RowKit
attribute [-go_sem] Sha.exec_store

theorem sl_hm (q : Option Addr) (n cap k : Nat) (w : World) (hk : k ≤ cap) : (slT 53 (.slice q n cap) none (some (.int .i64 (k : Int))) (some (.int .i64 (k : Int)))).run Tryz.prog w = .ok (.value (.slice q k k)) w := by
  have h1 := run_sliceAt_slice (P := Tryz.prog) w 53 (.slice q n cap) none (some (.int .i64 (k : Int))) (some (.int .i64 (k : Int))) und35
  rw [run_slice_hm (P := Tryz.prog) w 53 q n cap und35 .i64 .i64 (k : Int) (k : Int) (by omega) (by omega) (by omega), sizeB] at h1
  simp only [slT, Sem.run_bind, h1, Result.andThen_ok, Sem.run_pure]
  simp only [sliced, Int.toNat_natCast, Nat.zero_mul, Nat.sub_zero]
  have := cutA_zero q k
  unfold cutA at this
  rw [this]
attribute [local go_sem] sl_hm slb_lo
attribute [local go_sem ↓] exec_slice
end Go.Proofs.YtnmopjefjpifoaaGreatDoor
/- What two vectors are to one another. -/
set_option maxRecDepth 100000
namespace Go.Proofs.YtnmopjefjpifoaaGreatDoor
open Go Go.RowKit
attribute [-go_sem] Sha.exec_store

def gdV (f : Nat → Int) : Bool := (List.range 16).all fun i => decide (0 ≤ f i ∧ f i ≤ 1099511627776)
theorem gdV_iff {f : Nat → Int} : gdV f = true ↔ ∀ i, i < 16 → 0 ≤ f i ∧ f i ≤ 1099511627776 := by unfold gdV; simp [List.all_eq_true]
theorem gdV_no {f : Nat → Int} {k : Nat} (hk : k < 16) (h : f k < 0 ∨ 1099511627776 < f k) : gdV f = false := by
  cases e : gdV f with
  | false => rfl
  | true => have := gdV_iff.1 e k hk; omega
theorem i64v (k : Nat) (h : k < 16) : IntKind.i64.wrap ((k : Int) + 1) = (k : Int) + 1 := by rw [IntKind.wrap_i64]; omega
attribute [local go_sem ↓] exec_boxA exec_loadA exec_indexA exec_allocA exec_storeA exec_buildA exec_eqlA exec_neqA exec_boxV exec_loadV exec_indexV exec_allocV exec_storeV exec_buildV exec_eqlV exec_neqV
attribute [local go_sem] boxA indexA storeNewA buildA eqlA neqA boxV indexV storeNewV buildV eqlV neqV
set_option maxRecDepth 100000 in
set_option maxHeartbeats 2000000 in
theorem good9_any (f : Nat → Int) (w : World) : Calls Tryz.prog 227 #[vcV f] w fun e w' => e = .returned (.bool (gdV f)) ∧ Below w.heap.size w w' := by
  have r1 := Row.new w 40 16 (vf f)
  have HS := Lib.hid (show Row (w.alloc (.cells (tab 16 (vf f)) 40)) w.heap.size 40 16 (vf f) ∧ Below w.heap.size w (w.alloc (.cells (tab 16 (vf f)) 40)) from ⟨r1, (Below.refl _ _).alloc (Nat.le_refl _) _⟩)
  have l1 := loadVT vtV (VecAt.of_row r1 (Nat.le_refl _))
  clear r1
  go_enter Tryz.func227, Tryz.ntmps227
  go_wp2
  clear l1
  go_loopw [6] (fun i wr => ∃ k : Nat, k ≤ 16 ∧ i = .int .i64 k ∧ (∀ j, j < k → 0 ≤ f j ∧ f j ≤ 1099511627776) ∧ Row wr w.heap.size 40 16 (vf f) ∧ Below w.heap.size w wr) (fun i _ => 16 - (intOf i).toNat)
  case atStart => exact ⟨0, Nat.zero_le _, rfl, fun j hj => absurd hj (by omega), HS.out.1, HS.out.2⟩
  case round =>
    clear HS
    obtain ⟨k, hk, rfl, hall, hR1, hB⟩ := hrel
    have HB := Lib.hid hB
    have HALL := Lib.hid hall
    have HR1 := Lib.hid hR1
    clear hB hall
    by_cases h16 : k < 16
    · have z1 : (k : Int) < 16 := by omega
      have z2 : decide ((k : Int) < 16) = true := decide_eq_true z1
      have hw := i64v k h16
      clear hR1
      by_cases h0 : f k < 0
      · have t1 : decide (f k < 0) = true := decide_eq_true h0
        have HRES := Lib.hid (gdV_no h16 (.inl h0))
        go_wp2
        go_ret
        exact ⟨by rw [HRES.out]; rfl, HB.out⟩
      · have t1 : decide (f k < 0) = false := decide_eq_false h0
        by_cases h1 : 1099511627776 < f k
        · have t2 : decide (1099511627776 < f k) = true := decide_eq_true h1
          have HRES := Lib.hid (gdV_no h16 (.inr h1))
          go_wp2
          go_ret
          exact ⟨by rw [HRES.out]; rfl, HB.out⟩
        · have t2 : decide (1099511627776 < f k) = false := decide_eq_false h1
          have HLT := Lib.hid (show 0 ≤ f k ∧ f k ≤ 1099511627776 by omega)
          go_wp2
          go_roundw
          case rel => exact ⟨k + 1, by omega, by go_num, fun j hj => by
            by_cases e : j = k
            · subst e; exact HLT.out
            · exact HALL.out j (by omega), HR1.out, HB.out⟩
          case measure => simp [intOf]; omega
    · have z1 : ¬ (k : Int) < 16 := by omega
      have z2 : decide ((k : Int) < 16) = false := decide_eq_false z1
      have hres : gdV f = true := gdV_iff.2 fun i hi => HALL.out i (by omega)
      have HRES := Lib.hid hres
      clear hR1 hres
      go_wp2
      go_ret
      exact ⟨by rw [HRES.out]; rfl, HB.out⟩
set_option maxRecDepth 100000 in
set_option maxHeartbeats 2000000 in
theorem refGood9_any (f : Nat → Int) (w : World) : Calls Tryz.prog 74 #[vcV f] w fun e w' => e = .returned (.bool (gdV f)) ∧ Below w.heap.size w w' := by
  have r1 := Row.new w 39 16 (vf f)
  have HS := Lib.hid (show Row (w.alloc (.cells (tab 16 (vf f)) 39)) w.heap.size 39 16 (vf f) ∧ Below w.heap.size w (w.alloc (.cells (tab 16 (vf f)) 39)) from ⟨r1, (Below.refl _ _).alloc (Nat.le_refl _) _⟩)
  clear r1
  go_enter Tryz.func74, Tryz.ntmps74
  go_wp2
  go_loopw [4] (fun i wr => ∃ k : Nat, k ≤ 16 ∧ i = .int .i64 k ∧ (∀ j, j < k → 0 ≤ f j ∧ f j ≤ 1099511627776) ∧ Row wr w.heap.size 39 16 (vf f) ∧ Below w.heap.size w wr) (fun i _ => 16 - (intOf i).toNat)
  case atStart => exact ⟨0, Nat.zero_le _, rfl, fun j hj => absurd hj (by omega), HS.out.1, HS.out.2⟩
  case round =>
    clear HS
    obtain ⟨k, hk, rfl, hall, hR1, hB⟩ := hrel
    have HB := Lib.hid hB
    have HALL := Lib.hid hall
    have HR1 := Lib.hid hR1
    clear hB hall
    by_cases h16 : k < 16
    · have z1 : (k : Int) < 16 := by omega
      have z2 : decide ((k : Int) < 16) = true := decide_eq_true z1
      have hw := i64v k h16
      have x1 : wr.cell? ⟨w.heap.size, k, none⟩ = some (.int .i64 (f k)) := hR1.cell k h16
      clear hR1
      by_cases h0 : f k < 0
      · have t1 : decide (f k < 0) = true := decide_eq_true h0
        have HRES := Lib.hid (gdV_no h16 (.inl h0))
        go_wp2
        go_ret
        exact ⟨by rw [HRES.out]; rfl, HB.out⟩
      · have t1 : decide (f k < 0) = false := decide_eq_false h0
        by_cases h1 : 1099511627776 < f k
        · have t2 : decide (1099511627776 < f k) = true := decide_eq_true h1
          have HRES := Lib.hid (gdV_no h16 (.inr h1))
          go_wp2
          go_ret
          exact ⟨by rw [HRES.out]; rfl, HB.out⟩
        · have t2 : decide (1099511627776 < f k) = false := decide_eq_false h1
          have HLT := Lib.hid (show 0 ≤ f k ∧ f k ≤ 1099511627776 by omega)
          go_wp2
          go_roundw
          case rel => exact ⟨k + 1, by omega, by go_num, fun j hj => by
            by_cases e : j = k
            · subst e; exact HLT.out
            · exact HALL.out j (by omega), HR1.out, HB.out⟩
          case measure => simp [intOf]; omega
    · have z1 : ¬ (k : Int) < 16 := by omega
      have z2 : decide ((k : Int) < 16) = false := decide_eq_false z1
      have hres : gdV f = true := gdV_iff.2 fun i hi => HALL.out i (by omega)
      have HRES := Lib.hid hres
      clear hR1 hres
      go_wp2
      go_ret
      exact ⟨by rw [HRES.out]; rfl, HB.out⟩
end Go.Proofs.YtnmopjefjpifoaaGreatDoor
/- Vectors merged, incremented; the reference's comparison. -/
set_option maxRecDepth 100000
namespace Go.Proofs.YtnmopjefjpifoaaGreatDoor
open Go Go.RowKit
attribute [-go_sem] Sha.exec_store

attribute [local go_sem ↓] exec_boxA exec_loadA exec_indexA exec_allocA exec_storeA exec_buildA exec_eqlA exec_neqA exec_boxV exec_loadV exec_indexV exec_allocV exec_storeV exec_buildV exec_eqlV exec_neqV
attribute [local go_sem] boxA indexA storeNewA buildA eqlA neqA boxV indexV storeNewV buildV eqlV neqV

end Go.Proofs.YtnmopjefjpifoaaGreatDoor
/- Bump and Merge of the program. -/
set_option maxRecDepth 100000
namespace Go.Proofs.YtnmopjefjpifoaaGreatDoor
open Go Go.RowKit
attribute [-go_sem] Sha.exec_store

attribute [local go_sem ↓] exec_boxA exec_loadA exec_indexA exec_allocA exec_storeA exec_buildA exec_eqlA exec_neqA exec_boxV exec_loadV exec_indexV exec_allocV exec_storeV exec_buildV exec_eqlV exec_neqV
attribute [local go_sem] boxA indexA storeNewA buildA eqlA neqA boxV indexV storeNewV buildV eqlV neqV

end Go.Proofs.YtnmopjefjpifoaaGreatDoor
/- Slices of vectors; Merge of the program. -/
set_option maxRecDepth 100000
namespace Go.Proofs.YtnmopjefjpifoaaGreatDoor
open Go Go.RowKit
attribute [-go_sem] Sha.exec_store

/-- Vectors lie where a slice begins. -/
structure VecsAt (w : World) (p : Option Addr) (n : Nat) (l : List (Nat → Int)) : Prop where
  len : l.length = n
  at_ : 0 < n → ∃ c o, p = some ⟨c, o, none⟩ ∧ ∀ i (hi : i < l.length), VecAt w c (o + i * 16) l[i]
theorem VecsAt.of_below {w w' : World} {p : Option Addr} {n : Nat} {l : List (Nat → Int)} (h : VecsAt w p n l) (k : Below w.heap.size w w') : VecsAt w' p n l :=
  ⟨h.len, fun hn => by
    obtain ⟨c, o, e, h1⟩ := h.at_ hn
    exact ⟨c, o, e, fun i hi => (h1 i hi).of_below k⟩⟩
theorem VecsAt.nil (w : World) (p : Option Addr) : VecsAt w p 0 [] := ⟨rfl, fun h => absurd h (by decide)⟩
/-- The cells of vectors one after another. -/
def vfs (l : List (Nat → Int)) : Nat → Value := fun i => .int .i64 ((l.getD (i / 16) fun _ => 0) (i % 16))
theorem VecsAt.row {w : World} {b n : Nat} {T : TypeId} {l : List (Nat → Int)} (hl : l.length = n) (h : Row w b T (16 * n) (vfs l)) : VecsAt w (some ⟨b, 0, none⟩) n l :=
  ⟨hl, fun _ => ⟨b, 0, rfl, fun i hi j hj => by
    rw [show 0 + i * 16 + j = i * 16 + j by omega, h.cell (i * 16 + j) (by omega)]
    unfold vfs
    rw [show (i * 16 + j) / 16 = i by omega, show (i * 16 + j) % 16 = j by omega, List.getD_eq_getElem?_getD, List.getElem?_eq_getElem hi]
    rfl⟩⟩
attribute [local go_sem ↓] exec_boxA exec_loadA exec_indexA exec_allocA exec_storeA exec_buildA exec_eqlA exec_neqA exec_boxV exec_loadV exec_indexV exec_allocV exec_storeV exec_buildV exec_eqlV exec_neqV
attribute [local go_sem] boxA indexA storeNewA buildA eqlA neqA boxV indexV storeNewV buildV eqlV neqV

end Go.Proofs.YtnmopjefjpifoaaGreatDoor
/- awake of stage 9. -/
set_option maxRecDepth 100000
namespace Go.Proofs.YtnmopjefjpifoaaGreatDoor
open Go Go.RowKit
attribute [-go_sem] Sha.exec_store

attribute [local go_sem ↓] exec_boxA exec_loadA exec_indexA exec_allocA exec_storeA exec_buildA exec_eqlA exec_neqA exec_boxV exec_loadV exec_indexV exec_allocV exec_storeV exec_buildV exec_eqlV exec_neqV
attribute [local go_sem] boxA indexA storeNewA buildA eqlA neqA boxV indexV storeNewV buildV eqlV neqV

def one (k : Nat) : Nat → Int := fun i => if i = k then 1 else 0
end Go.Proofs.YtnmopjefjpifoaaGreatDoor
/- A number in a range, read by package vector. -/
set_option maxRecDepth 100000
namespace Go.Proofs.YtnmopjefjpifoaaGreatDoor
open Go Go.RowKit
attribute [-go_sem] Sha.exec_store

end Go.Proofs.YtnmopjefjpifoaaGreatDoor
/- Take of the program. -/
set_option maxRecDepth 100000
namespace Go.Proofs.YtnmopjefjpifoaaGreatDoor
open Go Go.RowKit
attribute [-go_sem] Sha.exec_store

attribute [local go_sem ↓] exec_boxA exec_loadA exec_indexA exec_allocA exec_storeA exec_buildA exec_eqlA exec_neqA exec_boxV exec_loadV exec_indexV exec_allocV exec_storeV exec_buildV exec_eqlV exec_neqV
attribute [local go_sem] boxA indexA storeNewA buildA eqlA neqA boxV indexV storeNewV buildV eqlV neqV

end Go.Proofs.YtnmopjefjpifoaaGreatDoor
/- Take of the reference. -/
set_option maxRecDepth 100000
namespace Go.Proofs.YtnmopjefjpifoaaGreatDoor
open Go Go.RowKit
attribute [-go_sem] Sha.exec_store

attribute [local go_sem ↓] exec_boxA exec_loadA exec_indexA exec_allocA exec_storeA exec_buildA exec_eqlA exec_neqA exec_boxV exec_loadV exec_indexV exec_allocV exec_storeV exec_buildV exec_eqlV exec_neqV
attribute [local go_sem] boxA indexA storeNewA buildA eqlA neqA boxV indexV storeNewV buildV eqlV neqV

attribute [local go_sem ↓] exec_slice
end Go.Proofs.YtnmopjefjpifoaaGreatDoor
/- The encoding of a vector, plain. -/
set_option maxRecDepth 100000
namespace Go.Proofs.YtnmopjefjpifoaaGreatDoor
open Go Go.RowKit
attribute [-go_sem] Sha.exec_store

end Go.Proofs.YtnmopjefjpifoaaGreatDoor
/- What was taken as a vector has just the bytes that were taken. -/
set_option maxRecDepth 100000
namespace Go.Proofs.YtnmopjefjpifoaaGreatDoor
open Go Go.RowKit
attribute [-go_sem] Sha.exec_store

end Go.Proofs.YtnmopjefjpifoaaGreatDoor
/- Lists of items in memory. -/
set_option maxRecDepth 100000
namespace Go.Proofs.YtnmopjefjpifoaaGreatDoor
open Go Go.RowKit
attribute [-go_sem] Sha.exec_store

/-- An item as it comes in. -/
structure Rw where
  k : Int
  n : Int
  b : List (BitVec 8)
def rw0 : Rw := ⟨0, 0, []⟩
/-- The item's bytes lie at q. -/
structure Bt (w : World) (x : Rw) (q : Option Addr) (c : Nat) : Prop where
  sl : Sl w q x.b
  nil : q = none → c = 0
  le : x.b.length ≤ c
def ItAt (w : World) (c o : Nat) (x : Rw) : Prop := ∃ q cap, w.cell? ⟨c, o, none⟩ = some (.int .i64 x.k) ∧ w.cell? ⟨c, o + 1, none⟩ = some (.int .i64 x.n) ∧ w.cell? ⟨c, o + 2, none⟩ = some (.slice q x.b.length cap) ∧ Bt w x q cap
/-- Items lie where a slice of their number begins. -/
def Its (w : World) (p : Option Addr) (xs : List Rw) : Prop := ∀ i, i < xs.length → ∃ c o, p = some ⟨c, o, none⟩ ∧ c < w.heap.size ∧ ItAt w c (o + i * 3) (xs.getD i rw0)
section
variable {w w' : World} {p q : Option Addr} {xs : List Rw} {x : Rw} {c o : Nat}
theorem Bt.of_below (h : Bt w x q c) (k : Below w.heap.size w w') : Bt w' x q c := ⟨h.sl.of_below k, h.nil, h.le⟩
theorem ItAt.of_below (h : ItAt w c o x) (hc : c < w.heap.size) (k : Below w.heap.size w w') : ItAt w' c o x := by
  obtain ⟨q, cap, h1, h2, h3, h4⟩ := h
  exact ⟨q, cap, by rw [k.cell (by exact hc)]; exact h1, by rw [k.cell (by exact hc)]; exact h2, by rw [k.cell (by exact hc)]; exact h3, h4.of_below k⟩
theorem Its.of_below (h : Its w p xs) (k : Below w.heap.size w w') : Its w' p xs := fun i hi => by
  obtain ⟨c, o, e, hc, ha⟩ := h i hi
  exact ⟨c, o, e, Nat.lt_of_lt_of_le hc k.size, ha.of_below hc k⟩
theorem Its.nil (w : World) (p : Option Addr) : Its w p [] := fun i hi => absurd hi (by simp)
theorem Its.take (h : Its w p xs) (k : Nat) : Its w p (xs.take k) := fun i hi => by
  have hi' : i < k ∧ i < xs.length := by simp [List.length_take] at hi; omega
  obtain ⟨c, o, e, hc, ha⟩ := h i hi'.2
  exact ⟨c, o, e, hc, by simpa [List.getD_eq_getElem?_getD, hi'.1] using ha⟩
end
section
variable {w w' : World} {base : Nat} {v : Value} {xs : List Rw}
end
end Go.Proofs.YtnmopjefjpifoaaGreatDoor
/- Arrays of 32 bytes: filled by copy, cut whole, read by value. -/
set_option maxRecDepth 100000
namespace Go.Proofs.YtnmopjefjpifoaaGreatDoor
open Go Go.RowKit
attribute [-go_sem] Sha.exec_store

theorem sl_arr (E : Nat) (w : World) : (slT 41 (.pointer (some ⟨E, 0, none⟩)) none none none).run Tryz.prog w = .ok (.value (.slice (some ⟨E, 0, none⟩) 32 32)) w := by
  first
  | kernel_rfl
  | (unfold slT; simp [go_sem, Instr.sliceAt])
theorem info32 : (Tryz.prog.info? 41).map (fun i => (i.zero, i.size)) = some (some (.agg (Array.replicate 32 (Value.int .u8 0))), 32) := by kernel_rfl
theorem und32 : Tryz.prog.underlying 41 = some (.array 32 5) := by kernel_rfl
theorem size32 : (Tryz.prog.info? 41).map (·.size) = some 32 := by kernel_rfl
section
variable (r : Operand → Value) (dst : Option Tmp) (ty : TypeId) (pos : String) (after : Array Edge) (guard : Option (Nat × Bool))
theorem exec_alloc32 (w : World) :
    (execOp r ⟨dst, .alloc 41, ty, pos, after, guard⟩).run Tryz.prog w = .ok (.value (.pointer (some ⟨w.heap.size, 0, none⟩))) (w.alloc (.cells (zb 32) 41)) := by
  have h := (zero_of_info info32).1 w
  rw [← zb_eq] at h
  simp [execOp, Instr.alloc, h, newVar, newRow, Value.cells]
theorem exec_build32 (parts : Array (Nat × Operand)) : execOp r ⟨dst, .build 41 parts, ty, pos, after, guard⟩ = bdT 41 (parts.map fun x => (x.1, r x.2)) := rfl
theorem exec_load32 (p : Operand) : execOp r ⟨dst, .load 41 p, ty, pos, after, guard⟩ = ldT 41 (r p) := rfl
end
/-- 32 noughts. -/
def z32 : List (BitVec 8) := List.replicate 32 0#8
theorem z32_get (j : Nat) (h : j < 32) : z32.getD j 0#8 = 0#8 := by unfold z32; rw [List.getD_eq_getElem?_getD, List.getElem?_replicate, if_pos h]; rfl
theorem bd32 (w : World) : (bdT 41 #[]).run Tryz.prog w = .ok (.value (digV z32)) w := by
  have e : (tab 32 (dgF z32)) = Array.replicate 32 (Value.int .u8 0) := by
    rw [← zb_eq, zb]
    exact tab_congr fun j hj => by unfold dgF; rw [z32_get j hj]
  unfold digV
  rw [e]
  show (bdT 41 #[]).run Tryz.prog w = .ok (.value (.agg (Array.replicate 32 (Value.int .u8 0)))) w
  kernel_rfl
theorem run_storeAt_new' {P : Program} (w : World) (t e : TypeId) (c c' : Array Value) (hi : (P.info? t).map (·.size) = some c'.size) (ho : c.size = c'.size) (h1 : c'.all (·.oneCell') = true) :
    (Instr.storeAt t (.pointer (some ⟨w.heap.size, 0, none⟩)) (.agg c')).run P (w.alloc (.cells c e)) = .ok () (w.alloc (.cells c' e)) := by
  simp only [Instr.storeAt, Instr.sureAddr, Sem.run_bind, Sem.run_pure, Result.andThen]
  rw [run_storeVar_row _ _ e t c c' (heap_alloc_last w _) hi ho h1, World.setRow_alloc_new]
theorem st_dig (w : World) (N : Nat) (l : List (BitVec 8)) (hN : N = w.heap.size) : (stT 41 (.pointer (some ⟨N, 0, none⟩)) (digV l)).run Tryz.prog (w.alloc (.cells (zb 32) 41)) = .ok .skip (w.alloc (.cells (tab 32 (dgF l)) 41)) := by
  subst hN
  have h := run_storeAt_new' (P := Tryz.prog) w 41 41 (zb 32) (tab 32 (dgF l)) (by rw [size32, tab_size]) (by rw [zb, tab_size, tab_size]) (by simp [tab, dgF, one_B])
  unfold digV
  simp only [stT, Sem.run_bind, h, Result.andThen, Sem.run_pure]
theorem ld_dig {w : World} {b o : Nat} {l : List (BitVec 8)} (h : Sl w (some ⟨b, o, none⟩) l) (hl : l.length = 32) : (ldT 41 (.pointer (some ⟨b, o, none⟩))).run Tryz.prog w = .ok (.value (digV l)) w := by
  have hr : w.rangeAt b o (tab 32 (dgF l)).toList := by
    intro j v hv
    have hj : j < 32 := by
      have := (List.getElem?_eq_some_iff.1 hv).1
      simpa [tab] using this
    obtain ⟨c, o', e, hx⟩ := h j (by omega)
    injection e with e
    injection e with e1 e2
    subst e1 e2
    rw [hx]
    have h2 : (tab 32 (dgF l)).toList[j]? = some (B (l.getD j 0#8)) := by simp [tab, dgF, hj]
    rw [h2] at hv
    exact hv
  have := run_loadAt_mid (P := Tryz.prog) w b o 41 _ _ hr und32 rfl (by rw [size32]; simp [tab])
  unfold digV
  simp only [ldT, Sem.run_bind, this, Result.andThen, Sem.run_pure, Array.toArray_toList]
end Go.Proofs.YtnmopjefjpifoaaGreatDoor
