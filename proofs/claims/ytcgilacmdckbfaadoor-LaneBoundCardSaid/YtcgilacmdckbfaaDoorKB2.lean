/- Merged texts: Rpt14, Rnx14, Nxe14, Nxs14, Rll14, Set14, Rlr14, Rlb14, Isw14, Blk14, Isp14. -/
import Derived.Test.YtcgilacmdckbfaaDoorKB1
import Derived.Test.YtcgilacmdckbfaaDoorPut14
import Derived.Test.YtcgilacmdckbfaaDoorSrt14
import Derived.BigQuiet
import Derived.BigRegion
import Derived.Test.YtcgilacmdckbfaaDoorLnx14
import Derived.Test.YtcgilacmdckbfaaDoorLst14
set_option linter.unusedSimpArgs false
set_option linter.unusedVariables false
/- darnerref14.Put. -/
set_option maxRecDepth 100000
namespace Go.Proofs.YtcgilacmdckbfaaDoor
open Go Go.RowKit

def putR (M : List Rf) (p : S8) (n : Int) : List Rf := if putC p n = 0 then dropR M p ++ [⟨p, n.toNat, 0, -1⟩] else M
theorem twoCells {w : World} {b : Nat} {x y : Value} {t : TypeId} (h : w.heap[b]? = some (.cells #[x, y] t (0, 0))) : w.cell? ⟨b, 0, none⟩ = some x ∧ w.cell? ⟨b, 1, none⟩ = some y ∧ w.frozen? ⟨b, 0, none⟩ = false ∧ w.frozen? ⟨b, 1, none⟩ = false := by
  refine ⟨?_, ?_, ?_, ?_⟩ <;> simp [World.cell?, World.frozen?, h]
end Go.Proofs.YtcgilacmdckbfaaDoor
/- darnerref14.next, plain. -/
set_option maxRecDepth 100000
namespace Go.Proofs.YtcgilacmdckbfaaDoor
open Go Go.RowKit

theorem ltF_irrefl (f : Fl) : ¬ ltF f f := by
  rintro (a | ⟨-, a⟩)
  · omega
  · exact List.lt_irrefl _ a
/-- What next has found among the first k files. -/
def NxE (M : List Rf) (k : Nat) (o : Int) : Prop := (o = -1 ∧ ∀ j, j < k → isE (M.getD j rf0) = false) ∨ ∃ i : Nat, o = (i : Int) ∧ i < k ∧ isE (M.getD i rf0) = true ∧ ∀ j, j < i → isE (M.getD j rf0) = false
def NxS (c : Int) (M : List Rf) (k : Nat) (o : Int) : Prop := (o = -1 ∧ ∀ j, j < k → isS c (M.getD j rf0) = false) ∨ ∃ i : Nat, o = (i : Int) ∧ i < k ∧ isS c (M.getD i rf0) = true ∧ ∀ j, j < k → isS c (M.getD j rf0) = true → ¬ ltF (flR (M.getD j rf0)) (flR (M.getD i rf0))
def NxI (e : Bool) (c : Int) (M : List Rf) (k : Nat) (o : Int) : Prop := bif e then NxE M k o else NxS c M k o
theorem NxE.take {M : List Rf} {k : Nat} {o : Int} (h : NxE M k o) (hx : isE (M.getD k rf0) = true) (ho : o < 0) : NxE M (k + 1) (k : Int) := by
  rcases h with ⟨-, h⟩ | ⟨i, rfl, -⟩
  · exact .inr ⟨k, rfl, by omega, hx, h⟩
  · omega
theorem NxS.first {c : Int} {M : List Rf} {k : Nat} {o : Int} (h : NxS c M k o) (hx : isS c (M.getD k rf0) = true) (ho : o < 0) : NxS c M (k + 1) (k : Int) := by
  rcases h with ⟨-, h⟩ | ⟨i, rfl, -⟩
  · refine .inr ⟨k, rfl, by omega, hx, fun j hj hs => ?_⟩
    rcases Nat.lt_succ_iff_lt_or_eq.1 hj with h1 | rfl
    · rw [h j h1] at hs; cases hs
    · exact ltF_irrefl _
  · omega
theorem NxS.more {c : Int} {M : List Rf} {k i : Nat} (h : NxS c M k (i : Int)) (hl : ¬ ltF (flR (M.getD k rf0)) (flR (M.getD i rf0))) : NxS c M (k + 1) (i : Int) := by
  rcases h with ⟨h, -⟩ | ⟨i', e, h1, h2, h3⟩
  · omega
  · have : i = i' := by omega
    subst this
    refine .inr ⟨i, rfl, by omega, h2, fun j hj hs => ?_⟩
    rcases Nat.lt_succ_iff_lt_or_eq.1 hj with h4 | rfl
    · exact h3 j h4 hs
    · exact hl
theorem NxS.at {c : Int} {M : List Rf} {k : Nat} {o : Int} (h : NxS c M k o) (ho : ¬ o < 0) : ∃ i : Nat, o = (i : Int) ∧ i < k ∧ isS c (M.getD i rf0) = true := by
  rcases h with ⟨rfl, -⟩ | ⟨i, rfl, h1, h2, -⟩
  · exact absurd (by decide) ho
  · exact ⟨i, rfl, h1, h2⟩
end Go.Proofs.YtcgilacmdckbfaaDoor
/- darnerref14.next. -/
set_option maxRecDepth 100000
namespace Go.Proofs.YtcgilacmdckbfaaDoor
open Go Go.RowKit

end Go.Proofs.YtcgilacmdckbfaaDoor
/- darnerref14.next, of the scrub lane. -/
set_option maxRecDepth 100000
namespace Go.Proofs.YtcgilacmdckbfaaDoor
open Go Go.RowKit

end Go.Proofs.YtcgilacmdckbfaaDoor
/- What a round of darnerref14.lane does, plain. -/
set_option maxRecDepth 100000
namespace Go.Proofs.YtcgilacmdckbfaaDoor
open Go

/-- How the list is bounded. -/
def OkM (M : List Rf) : Prop := ∀ x ∈ M, -1 ≤ x.last ∧ x.blocks ≤ 64 ∧ x.done ≤ x.blocks
theorem OkM.set {M : List Rf} (h : OkM M) (i : Nat) {y : Rf} (hy : -1 ≤ y.last ∧ y.blocks ≤ 64 ∧ y.done ≤ y.blocks) : OkM (M.set i y) := fun x hx => by
  rcases List.mem_or_eq_of_mem_set hx with h1 | rfl
  · exact h x h1
  · exact hy
/-- What a lane's files are to the list: what next finds is their first; it is finished, or done in part. -/
structure LaneP (e : Bool) (c : Nat) (P : List Rf → List Fl → List Fl → Prop) : Prop where
  none : ∀ M rest fin, P M rest fin → NxI e (c : Int) M M.length (-1) → rest = []
  some : ∀ M rest fin (i : Nat), P M rest fin → NxI e (c : Int) M M.length (i : Int) → i < M.length ∧ ∃ q, rest = flR (M.getD i rf0) :: q ∧
    P (M.set i { M.getD i rf0 with done := 0, last := (c : Int) }) q (fin ++ [⟨(M.getD i rf0).path, (M.getD i rf0).blocks, 0, c⟩]) ∧ ∀ d, P (M.set i { M.getD i rf0 with done := d }) ({ flR (M.getD i rf0) with done := d } :: q) fin
end Go.Proofs.YtcgilacmdckbfaaDoor
/- A store of one cell into cells that lie in a row. -/
set_option maxRecDepth 100000
namespace Go.Proofs.YtcgilacmdckbfaaDoor
open Go Go.RowKit

theorem cells_at {w : World} {g o : Nat} {u : Value} (h : w.cell? ⟨g, o, none⟩ = some u) : ∃ cur t fz, w.heap[g]? = some (.cells cur t fz) ∧ cur[o]? = some u := by
  unfold World.cell? at h
  split at h <;> first | (rename_i h'; simp_all) | simp_all
theorem cell_same {w : World} {g o : Nat} {u v : Value} (h : w.cell? ⟨g, o, none⟩ = some u) : (w.setCell ⟨g, o, none⟩ v).cell? ⟨g, o, none⟩ = some v := by
  obtain ⟨cur, t, fz, h1, h2⟩ := cells_at h
  have hlt := (Array.getElem?_eq_some_iff.1 h2).1
  simp [World.cell?, World.setCell, Array.getElem?_modify, h1, hlt]
theorem cell_other {w : World} {g o o' : Nat} {v : Value} (h : o ≠ o') : (w.setCell ⟨g, o, none⟩ v).cell? ⟨g, o', none⟩ = w.cell? ⟨g, o', none⟩ := by
  simp only [World.cell?, World.setCell, Array.getElem?_modify]
  cases hh : w.heap[g]? with
  | none => simp [hh]
  | some b => cases b <;> simp [hh, Array.getElem?_setIfInBounds, h]
theorem LsC.set {w : World} {g o : Nat} {cs : List Value} (h : LsC w (some ⟨g, o, none⟩) cs) {j : Nat} (hj : j < cs.length) (v : Value) : LsC (w.setCell ⟨g, o + j, none⟩ v) (some ⟨g, o, none⟩) (cs.set j v) := fun k hk => by
  rw [List.length_set] at hk
  refine ⟨g, o, rfl, ?_⟩
  obtain ⟨c', o', e, hc⟩ := h k hk
  injection e with e
  injection e with e1 e2
  subst e1 e2
  by_cases hjk : j = k
  · subst hjk
    rw [cell_same (hc.trans (List.getElem?_eq_getElem hk)), List.getElem?_set_self hj]
  · rw [cell_other (by omega), hc, List.getElem?_set_ne hjk]
end Go.Proofs.YtcgilacmdckbfaaDoor
/- One round of darnerref14.lane, plain. -/
set_option maxRecDepth 100000
namespace Go.Proofs.YtcgilacmdckbfaaDoor
open Go

/-- The file behind a round in which d blocks of it are done. -/
def stepR (c : Nat) (x : Rf) (d : Nat) : Rf := if x.done + d = x.blocks then { x with done := 0, last := (c : Int) } else { x with done := x.done + d }
def stepW (e : Bool) (x : Rf) (d : Nat) : Wk := ⟨x.path, x.done, x.done + d, e, decide (x.done + d = x.blocks)⟩
theorem LaneP.round {e : Bool} {c : Nat} {P : List Rf → List Fl → List Fl → Prop} (hP : LaneP e c P) {M : List Rf} {rest fin Q : List Fl} {out : List Wk} {left L0 i : Nat} (hM : OkM M) (h : P M rest fin)
    (hn : NxI e (c : Int) M M.length (i : Int)) (hW : WInv c e Q L0 rest left out fin) (hgo : ¬ (left = 0 ∧ (M.getD i rf0).done < (M.getD i rf0).blocks)) :
    ∃ rest' fin', P (M.set i (stepR c (M.getD i rf0) (min left ((M.getD i rf0).blocks - (M.getD i rf0).done)))) rest' fin' ∧ OkM (M.set i (stepR c (M.getD i rf0) (min left ((M.getD i rf0).blocks - (M.getD i rf0).done)))) ∧
      WInv c e Q L0 rest' (left - min left ((M.getD i rf0).blocks - (M.getD i rf0).done)) (out ++ [stepW e (M.getD i rf0) (min left ((M.getD i rf0).blocks - (M.getD i rf0).done))]) fin' := by
  obtain ⟨hi, q, hq, h1, h2⟩ := hP.some M rest fin i h hn
  have hx : M.getD i rf0 ∈ M := by rw [List.getD_eq_getElem?_getD, List.getElem?_eq_getElem hi]; exact List.getElem_mem hi
  obtain ⟨b1, b2, b3⟩ := hM _ hx
  generalize M.getD i rf0 = x at *
  subst hq
  have hg : 0 < left ∨ (flR x).done = (flR x).blocks := by
    show 0 < left ∨ x.done = x.blocks
    omega
  by_cases hf : x.blocks ≤ x.done + left
  · have e1 : min left (x.blocks - x.done) = x.blocks - x.done := by omega
    have e2 : x.done + (x.blocks - x.done) = x.blocks := by omega
    rw [e1]
    unfold stepR stepW
    rw [e2, if_pos rfl]
    refine ⟨_, _, h1, hM.set i ⟨by show (-1 : Int) ≤ (c : Int); omega, b2, Nat.zero_le _⟩, ?_⟩
    have := WInv.finish hW hg hf
    simpa [flR] using this
  · have e1 : min left (x.blocks - x.done) = left := by omega
    have e2 : ¬ x.done + left = x.blocks := by omega
    rw [e1]
    unfold stepR stepW
    rw [if_neg e2, decide_eq_false e2, Nat.sub_self]
    refine ⟨_, _, h2 (x.done + left), hM.set i ⟨b1, b2, by show x.done + left ≤ x.blocks; omega⟩, ?_⟩
    exact WInv.part hW hg hf
theorem LaneP.stop {e : Bool} {c : Nat} {P : List Rf → List Fl → List Fl → Prop} (hP : LaneP e c P) {M : List Rf} {rest fin Q : List Fl} {out : List Wk} {left L0 i : Nat} (h : P M rest fin)
    (hn : NxI e (c : Int) M M.length (i : Int)) (hW : WInv c e Q L0 rest left out fin) (hgo : left = 0 ∧ (M.getD i rf0).done < (M.getD i rf0).blocks) : workL c e Q L0 = ⟨rest, left, out, fin⟩ := by
  obtain ⟨hi, q, hq, -⟩ := hP.some M rest fin i h hn
  subst hq
  refine hW.stop fun f hf => ?_
  have hf' : f = flR (M.getD i rf0) := by simpa using hf.symm
  subst hf'
  exact ⟨hgo.1, by show (M.getD i rf0).done ≠ (M.getD i rf0).blocks; omega⟩
theorem LaneP.done {e : Bool} {c : Nat} {P : List Rf → List Fl → List Fl → Prop} (hP : LaneP e c P) {M : List Rf} {rest fin Q : List Fl} {out : List Wk} {left L0 : Nat} (h : P M rest fin)
    (hn : NxI e (c : Int) M M.length (-1)) (hW : WInv c e Q L0 rest left out fin) : workL c e Q L0 = ⟨rest, left, out, fin⟩ := by
  have := hP.none M rest fin h hn
  subst this
  exact hW.stop fun f hf => by simp at hf
end Go.Proofs.YtcgilacmdckbfaaDoor
/- Helpers for darnerref14.lane: boxes of four and five cells, stores into them. -/
set_option maxRecDepth 100000
namespace Go.Proofs.YtcgilacmdckbfaaDoor
open Go Go.RowKit

theorem five14 {w : World} {b : Nat} {a0 a1 a2 a3 a4 : Value} {t : TypeId} (h : w.heap[b]? = some (.cells #[a0, a1, a2, a3, a4] t (0, 0))) : w.cell? ⟨b, 0, none⟩ = some a0 ∧ w.cell? ⟨b, 1, none⟩ = some a1 ∧ w.cell? ⟨b, 2, none⟩ = some a2 ∧ w.cell? ⟨b, 3, none⟩ = some a3 ∧ w.cell? ⟨b, 4, none⟩ = some a4 ∧ ∀ j, w.frozen? ⟨b, j, none⟩ = false := by
  refine ⟨?_, ?_, ?_, ?_, ?_, fun j => ?_⟩ <;> simp [World.cell?, World.frozen?, h]
theorem setAt14 {w : World} {b j : Nat} {cs : Array Value} {t : TypeId} {fz : Nat × Nat} {v : Value} (h : w.heap[b]? = some (.cells cs t fz)) : (w.setCell ⟨b, j, none⟩ v).heap[b]? = some (.cells (cs.setIfInBounds j v) t fz) := by
  simp [World.setCell, Array.getElem?_modify, h]
theorem setOff14 {w : World} {b j k : Nat} {v : Value} (h : k ≠ b) : (w.setCell ⟨b, j, none⟩ v).heap[k]? = w.heap[k]? := by
  simp [World.setCell, Array.getElem?_modify, Ne.symm h]
theorem own_full14 {w : World} {E : TypeId} {k base n : Nat} {v : Value} {cs : List Value} (h : w.ownsRow base E k v n cs) (hn : 0 < n) :
    ∃ g cap, v = .slice (some ⟨g, 0, none⟩) n cap ∧ base ≤ g ∧ g < w.heap.size ∧ n ≤ cap ∧ LsC w (some ⟨g, 0, none⟩) cs ∧ (∀ j, j < cs.length → w.cell? ⟨g, j, none⟩ = cs[j]?) ∧ ∀ j, w.frozen? ⟨g, j, none⟩ = false := by
  obtain ⟨p, cap, e, hls, hnil, hle, hb⟩ := own_shape h
  rcases h.2 with ⟨_, hn0⟩ | ⟨g, cap2, cur, hv, hb2, hg, hle2, _, hsz, ht⟩
  · omega
  · rw [hv] at e
    injection e with e1 e2 e3
    rw [← e1] at hls
    refine ⟨g, cap2, hv, hb2, (hb g 0 e1.symm).2, hle2, hls, fun j hj => ?_, fun j => ?_⟩
    · obtain ⟨c, o, ec, hc⟩ := hls j hj
      injection ec with ec
      injection ec with ec1 ec2
      rw [← ec1, ← ec2, Nat.zero_add] at hc
      exact hc
    · unfold World.frozen?
      simp [hg]
end Go.Proofs.YtcgilacmdckbfaaDoor
/- The same work: darnerlaw14.is. -/
set_option maxRecDepth 100000
namespace Go.Proofs.YtcgilacmdckbfaaDoor
open Go Go.RowKit

end Go.Proofs.YtcgilacmdckbfaaDoor
/- (*Lanes).Blocks. -/
set_option maxRecDepth 100000
namespace Go.Proofs.YtcgilacmdckbfaaDoor
open Go Go.RowKit

def blk (l : List Fl) : Nat := (l.map (·.blocks)).sum
theorem blk_le (l : List Fl) (h : ∀ f, f ∈ l → f.blocks ≤ 64) : blk l ≤ l.length * 64 := by
  unfold blk
  induction l with
  | nil => simp
  | cons f l ih => have h1 := h f (by simp); have h2 := ih (fun g hg => h g (by simp [hg])); simp only [List.map_cons, List.sum_cons, List.length_cons]; omega
theorem blk_take (l : List Fl) (j : Nat) (hj : j < l.length) : blk (l.take (j + 1)) = blk (l.take j) + (l.getD j fl0).blocks := by
  unfold blk
  rw [List.take_succ_eq_append_getElem hj, List.map_append, List.sum_append, List.getD_eq_getElem?_getD, List.getElem?_eq_getElem hj]
  simp
theorem blk_part (l : List Fl) (j : Nat) : blk (l.take j) ≤ blk l := by
  have : blk l = blk (l.take j) + blk (l.drop j) := by
    unfold blk
    rw [← List.sum_append, ← List.map_append, List.take_append_drop]
  omega
/-- The k-th of the two lanes, and the blocks of those before it. -/
def laneK (s : Ln) (k : Nat) : List Fl := if k = 0 then s.en else s.sc
def sumK (s : Ln) (k : Nat) : Nat := if k = 0 then 0 else if k = 1 then blk s.en else blk s.en + blk s.sc
theorem sumK_next (s : Ln) (k : Nat) (hk : k < 2) : sumK s (k + 1) = sumK s k + blk (laneK s k) := by
  unfold sumK laneK
  rcases (by omega : k = 0 ∨ k = 1) with rfl | rfl <;> simp
set_option maxHeartbeats 4000000 in
theorem blocks_any {w : World} {b : Nat} {F : Nat → Prop} {s : Ln} (h : LnAt w b F s) (hn : s.en.length < 100000) (hm : s.sc.length < 100000) (hk : ∀ f, f ∈ s.en ++ s.sc → f.blocks ≤ 64) :
    Calls Tryd.prog 19 #[.pointer (some ⟨b, 0, none⟩)] w fun e w' => e = .returned (.int .i64 ((blk s.en + blk s.sc : Nat) : Int)) ∧ Below w.heap.size w w' := by
  obtain ⟨v1, v2, g1, g2, g3, -⟩ := h
  obtain ⟨p1, cap1, e1, hl1, hp1, hcap1, -⟩ := own_shape g2
  obtain ⟨p2, cap2, e2, hl2, hp2, hcap2, -⟩ := own_shape g3
  subst e1 e2
  have c1 := (lnCells g1).2.1
  have c2 := (lnCells g1).2.2.1
  have hS1 : blk s.en ≤ s.en.length * 64 := blk_le _ fun f hf => hk f (List.mem_append_left _ hf)
  have hS2 : blk s.sc ≤ s.sc.length * 64 := blk_le _ fun f hf => hk f (List.mem_append_right _ hf)
  obtain ⟨W2, hW2⟩ : ∃ W, (w.alloc (.cells #[.slice p1 s.en.length cap1, .slice p2 s.sc.length cap2] TF)).drew = W := ⟨_, rfl⟩
  have hB2 : Below w.heap.size w W2 := by rw [← hW2]; exact ((Below.refl _ w).alloc (Nat.le_refl _) _).drew
  obtain ⟨bs, hbs⟩ : ∃ y, w.heap.size = y := ⟨_, rfl⟩
  have hh2 : W2.heap[bs]? = some (.cells #[.slice p1 s.en.length cap1, .slice p2 s.sc.length cap2] TF (0, 0)) := by rw [← hW2, ← hbs]; exact World.alloc_heap_new _ _
  have HQ := Lib.hid (show ∀ u, Below W2.heap.size W2 u → ∀ k, k < 2 → ∃ p cap, u.cell? ⟨bs, k, none⟩ = some (.slice p (laneK s k).length cap) ∧ LsC u p (flsC (laneK s k)) ∧ (laneK s k).length ≤ cap ∧ (laneK s k).length < 100000 ∧ blk (laneK s k) ≤ 6400000 ∧ sumK s k ≤ 6400000 from fun u hu k hk2 => by
    have h2 := (hu.block bs (Array.getElem?_eq_some_iff.1 hh2).1).trans hh2
    obtain ⟨k0, k1, -, -⟩ := twoCells h2
    have hb : Below w.heap.size w u := hB2.trans (hu.mono hB2.size)
    rcases (by omega : k = 0 ∨ k = 1) with rfl | rfl
    · exact ⟨p1, cap1, k0, hl1.of_below hb, hcap1, hn, by unfold laneK; simp only [if_true]; omega, by unfold sumK; simp⟩
    · exact ⟨p2, cap2, k1, hl2.of_below hb, hcap2, hm, by unfold laneK; simp only [if_neg (show ¬ (1 : Nat) = 0 by decide)]; omega, by unfold sumK; simp only [if_neg (show ¬ (1 : Nat) = 0 by decide), if_true]; omega⟩)
  have HB2 := Lib.hid hB2
  have HFIN := Lib.hid (show sumK s 2 = blk s.en + blk s.sc from rfl)
  clear g1 g2 g3 hl1 hl2 hS1 hS2 hB2 hh2 hk
  go_enter Tryd.func19, Tryd.ntmps19
  go_wp2
  go_region
  clear hW2 hbs c1 c2
  go_wp2
  go_loopw [3, 18] (fun v3 v18 wr => ∃ k : Nat, k ≤ 2 ∧ v18 = .int .i64 (k : Int) ∧ v3 = .int .i64 (sumK s k : Int) ∧ Below W2.heap.size W2 wr) (fun _ v18 _ => 2 - (intOf v18).toNat)
  case atStart => exact ⟨0, by omega, rfl, rfl, Below.refl _ _⟩
  case round =>
    rename World => wa
    obtain ⟨k, hk2, rfl, rfl, hBa⟩ := hrel
    have HBA := Lib.hid hBa
    by_cases hlt : k < 2
    · have y1 : (k : Int) < 2 := by omega
      have y2 : decide ((k : Int) < 2) = true := decide_eq_true y1
      have hw6 : IntKind.i64.wrap ((k : Int) + 1) = (k : Int) + 1 := by rw [IntKind.wrap_i64]; omega
      obtain ⟨p, cap, q0, hls, hcap, hlen, hbl, hsm⟩ := HQ.out wa hBa k hlt
      have HSN := Lib.hid (sumK_next s k hlt)
      obtain ⟨q, hq⟩ : ∃ q, laneK s k = q := ⟨_, rfl⟩
      obtain ⟨S, hS⟩ : ∃ S, sumK s k = S := ⟨_, rfl⟩
      rw [hq] at q0 hls hcap hlen hbl HSN
      rw [hS] at hsm HSN
      rw [hS]
      obtain ⟨n, hnn⟩ : ∃ n, q.length = n := ⟨_, rfl⟩
      rw [hnn] at q0 hcap hlen
      have HN := Lib.hid hnn
      have HL := Lib.hid (fun u (hu : Below wa.heap.size wa u) => hls.of_below hu)
      have HBL := Lib.hid (fun j => Nat.le_trans (blk_part q j) hbl)
      clear hls hbl hnn hBa
      go_wp2
      go_loopw [3, 24] (fun v3 v24 wr => ∃ j : Nat, j ≤ n ∧ v24 = .int .i64 (j : Int) ∧ v3 = .int .i64 ((S + blk (q.take j) : Nat) : Int) ∧ Below wa.heap.size wa wr) (fun _ v24 _ => n - (intOf v24).toNat)
      case atStart => exact ⟨0, by omega, rfl, rfl, Below.refl _ _⟩
      case round =>
        rename World => wb
        obtain ⟨j, hj, rfl, rfl, hBb⟩ := hrel
        have HBB := Lib.hid hBb
        have hbj := HBL.out j
        obtain ⟨T, hT⟩ : ∃ T, S + blk (q.take j) = T := ⟨_, rfl⟩
        have hT2 : T ≤ 12800000 := by omega
        rw [hT]
        have HT := Lib.hid hT
        by_cases hlj : j < n
        · have y3 : (j : Int) < (n : Int) := by omega
          have y4 : decide ((j : Int) < (n : Int)) = true := decide_eq_true y3
          have hw7 : IntKind.i64.wrap ((j : Int) + 1) = (j : Int) + 1 := by rw [IntKind.wrap_i64]; omega
          obtain ⟨f, hf⟩ : ∃ f, q.getD j fl0 = f := ⟨_, rfl⟩
          have hlu := HL.out wb hBb
          obtain ⟨c, o, e, x0⟩ := hlu (j * 4) (by rw [flsC_len, HN.out]; omega)
          subst e
          have cells' : ∀ i, i < 4 → wb.cell? ⟨c, o + j * 4 + i, none⟩ = (flC f)[i]? := fun i hi => by
            obtain ⟨c', o', e, hc⟩ := hlu (j * 4 + i) (by rw [flsC_len, HN.out]; omega)
            injection e with e
            injection e with e1 e2
            subst e1 e2
            rw [Nat.add_assoc, hc, flsC_get q j i (by rw [HN.out]; exact hlj) hi, hf]
          clear x0
          have x0 := cells' 0 (by decide)
          have x1 := cells' 1 (by decide)
          have x2 := cells' 2 (by decide)
          have x3 := cells' 3 (by decide)
          change _ = some (Value.string (mkS f.path)) at x0
          change _ = some (Value.int .i64 (f.blocks : Int)) at x1
          change _ = some (Value.int .i64 (f.done : Int)) at x2
          change _ = some (Value.int .i64 (f.tick : Int)) at x3
          rw [Nat.add_zero] at x0
          have HTK := Lib.hid (show S + blk (q.take (j + 1)) = T + f.blocks from by rw [blk_take q j (by rw [HN.out]; exact hlj), hf, ← HT.out]; omega)
          have hfb : T + f.blocks ≤ 12800000 := by have h1 := HBL.out (j + 1); have h2 := HTK.out; omega
          have hw8 : IntKind.i64.wrap ((T : Int) + (f.blocks : Int)) = (T : Int) + (f.blocks : Int) := by rw [IntKind.wrap_i64]; omega
          obtain ⟨W5, hW5⟩ : ∃ W, wb.alloc (.cells #[.string (mkS f.path), .int .i64 (f.blocks : Int), .int .i64 (f.done : Int), .int .i64 (f.tick : Int)] EF) = W := ⟨_, rfl⟩
          have hB5 : Below wa.heap.size wa W5 := by rw [← hW5]; exact hBb.alloc hBb.size _
          obtain ⟨bm, hbm⟩ : ∃ y, wb.heap.size = y := ⟨_, rfl⟩
          have z1 : W5.cell? ⟨bm, 1, none⟩ = some (.int .i64 (f.blocks : Int)) := by rw [← hW5, ← hbm]; unfold World.cell?; rw [World.alloc_heap_new]; simp
          have HB5 := Lib.hid hB5
          clear cells' hf hlu hBb hB5 hT hbj
          go_wp2
          refine ⟨⟨j + 1, by omega, by go_num, by rw [HTK.out]; push_cast; rfl, HB5.out⟩, by simp [intOf]; omega⟩
        · have y3 : ¬ (j : Int) < (n : Int) := by omega
          have y4 : decide ((j : Int) < (n : Int)) = false := decide_eq_false y3
          have hjn : j = n := by omega
          have HTE := Lib.hid (show T = sumK s (k + 1) from by rw [HSN.out, ← HT.out, hjn, ← HN.out, List.take_length])
          clear hBb hT hbj
          go_wp2
          refine ⟨⟨k + 1, by omega, by go_num, by rw [HTE.out], HBA.out.trans (HBB.out.mono HBA.out.size)⟩, by simp [intOf]; omega⟩
    · have y1 : ¬ (k : Int) < 2 := by omega
      have y2 : decide ((k : Int) < 2) = false := decide_eq_false y1
      have hkk : k = 2 := by omega
      clear hBa
      go_wp2
      go_ret
      refine ⟨by show Ending.returned (Value.int .i64 ((sumK s 2 : Nat) : Int)) = _; rw [HFIN.out, Int.natCast_add], HB2.out.trans (HBA.out.mono HB2.out.size)⟩
end Go.Proofs.YtcgilacmdckbfaaDoor
/- The program's lanes and the document's list, plain. -/
set_option maxRecDepth 100000
namespace Go.Proofs.YtcgilacmdckbfaaDoor
open Go

theorem nd_uniq (M : List Rf) (h : (M.map (·.path)).Nodup) : ∀ x ∈ M, ∀ y ∈ M, x.path = y.path → x = y := by
  induction M with
  | nil => intro x hx; cases hx
  | cons a M ih =>
    rw [List.map_cons, List.nodup_cons] at h
    intro x hx y hy e
    rcases List.mem_cons.1 hx with rfl | hx' <;> rcases List.mem_cons.1 hy with rfl | hy'
    · rfl
    · exact absurd (List.mem_map.2 ⟨_, hy', e.symm⟩) h.1
    · exact absurd (List.mem_map.2 ⟨_, hx', e⟩) h.1
    · exact ih h.2 x hx' y hy' e
theorem getD_memF {M : List Fl} {k : Nat} (hk : k < M.length) : M.getD k fl0 ∈ M := by
  rw [List.getD_eq_getElem?_getD, List.getElem?_eq_getElem hk]; exact List.getElem_mem hk
theorem RelQ.memE {M : List Rf} {en S : List Fl} (h : RelQ M en S) {f : Fl} : f ∈ en ↔ ∃ x ∈ M, isE x = true ∧ flR x = f := by
  rw [← h.e, List.mem_map]
  constructor
  · rintro ⟨x, hx, rfl⟩; obtain ⟨h1, h2⟩ := List.mem_filter.1 hx; exact ⟨x, h1, h2, rfl⟩
  · rintro ⟨x, h1, h2, rfl⟩; exact ⟨x, List.mem_filter.2 ⟨h1, h2⟩, rfl⟩
theorem RelQ.memS {M : List Rf} {en S : List Fl} (h : RelQ M en S) {f : Fl} : f ∈ S ↔ ∃ x ∈ M, isE x = false ∧ flR x = f := by
  rw [← h.s.mem_iff, List.mem_map]
  constructor
  · rintro ⟨x, hx, rfl⟩; obtain ⟨h1, h2⟩ := List.mem_filter.1 hx; exact ⟨x, h1, by simpa using h2, rfl⟩
  · rintro ⟨x, h1, h2, rfl⟩; exact ⟨x, List.mem_filter.2 ⟨h1, by simpa using h2⟩, rfl⟩
/-- Last tells of each file of the list what the document does. -/
theorem RelQ.last {M : List Rf} {s : Ln} (h : RelQ M s.en s.sc) (hm : ∀ x ∈ M, -1 ≤ x.last) {x : Rf} (hx : x ∈ M) : lastV s x.path = x.last ∧ lastE s x.path = 0 := by
  unfold lastV lastE
  rcases findI_spec s.en x.path with ⟨h1, h2⟩ | ⟨i, h1, h2, h3⟩
  · simp only [h1, show ¬ (0 : Int) ≤ -1 by decide, if_false]
    have hE : isE x = false := by
      cases hh : isE x with
      | false => rfl
      | true => exact absurd rfl (h2 (flR x) (h.memE.2 ⟨x, hx, hh, rfl⟩))
    rcases findI_spec s.sc x.path with ⟨g1, g2⟩ | ⟨i, g1, g2, g3⟩
    · exact absurd rfl (g2 (flR x) (h.memS.2 ⟨x, hx, hE, rfl⟩))
    · simp only [g1, show (0 : Int) ≤ (i : Int) by omega, if_true, Int.toNat_natCast]
      obtain ⟨y, hy, hy1, hy2⟩ := h.memS.1 (getD_memF g2)
      rw [← hy2] at g3 ⊢
      have : y = x := nd_uniq M h.nd y hy x hx g3
      subst this
      unfold isE at hE
      have := of_decide_eq_false hE
      refine ⟨?_, by simp⟩
      unfold flR
      simp only
      omega
  · rw [h1, if_pos (by omega), if_pos (by omega)]
    obtain ⟨y, hy, hy1, hy2⟩ := h.memE.1 (getD_memF h2)
    rw [← hy2] at h3
    have : y = x := nd_uniq M h.nd y hy x hx h3
    subst this
    unfold isE at hy1
    have h4 := of_decide_eq_true hy1
    have h5 := hm y hx
    exact ⟨by omega, by simp⟩
def cntE (M : List Rf) (k : Nat) : Nat := ((M.take k).filter isE).length
def sumM (M : List Rf) (k : Nat) : Nat := ((M.take k).map (·.blocks)).sum
theorem take_next {M : List Rf} {k : Nat} (hk : k < M.length) : M.take (k + 1) = M.take k ++ [M.getD k rf0] := by
  rw [List.take_succ_eq_append_getElem hk, List.getD_eq_getElem?_getD, List.getElem?_eq_getElem hk]; rfl
theorem RelQ.at {M : List Rf} {en S : List Fl} (h : RelQ M en S) {k : Nat} (hk : k < M.length) (hx : isE (M.getD k rf0) = true) : cntE M k < en.length ∧ en.getD (cntE M k) fl0 = flR (M.getD k rf0) := by
  have e : en = ((M.take k).filter isE).map flR ++ flR (M.getD k rf0) :: ((M.drop (k + 1)).filter isE).map flR := by
    rw [← h.e]
    conv => lhs; rw [← List.take_append_drop (k + 1) M, take_next hk]
    generalize M.getD k rf0 = x at hx ⊢
    simp [List.filter_append, List.filter_cons, hx]
  have hl : (((M.take k).filter isE).map flR).length = cntE M k := by unfold cntE; rw [List.length_map]
  rw [e]
  refine ⟨by rw [List.length_append, hl, List.length_cons]; omega, ?_⟩
  rw [List.getD_eq_getElem?_getD, List.getElem?_append_right (by omega), hl, Nat.sub_self]
  rfl
theorem RelQ.sum {M : List Rf} {en S : List Fl} (h : RelQ M en S) : sumM M M.length = blk en + blk S := by
  have hS : blk S = ((M.filter fun x => !isE x).map (·.blocks)).sum := by
    unfold blk
    rw [← (h.s.map (·.blocks)).sum_nat, List.map_map]
    rfl
  have hE : blk en = ((M.filter isE).map (·.blocks)).sum := by
    unfold blk
    rw [← h.e, List.map_map]
    rfl
  rw [hS, hE]
  unfold sumM
  rw [List.take_length]
  clear h hS hE
  induction M with
  | nil => rfl
  | cons a M ih =>
    cases ha : isE a <;> simp [List.filter_cons, ha, ih] <;> omega
theorem RelQ.len {M : List Rf} {en S : List Fl} (h : RelQ M en S) : en.length + S.length = M.length := by
  have h1 := h.s.length_eq
  rw [List.length_map] at h1
  have h2 : en.length = (M.filter isE).length := by rw [← h.e, List.length_map]
  rw [h2, ← h1]
  clear h h1 h2
  induction M with
  | nil => rfl
  | cons a M ih => cases ha : isE a <;> simp [List.filter_cons, ha] <;> omega
end Go.Proofs.YtcgilacmdckbfaaDoor
