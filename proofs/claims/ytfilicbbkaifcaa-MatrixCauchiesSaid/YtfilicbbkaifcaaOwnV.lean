/- Slices of ints of the call's own, two side by side; a matrix whose rows are appended to. -/
import Derived.Test.YtfilicbbkaifcaaMp
import Derived.Deep.RegionLaw
set_option linter.unusedSimpArgs false
set_option linter.unusedVariables false
namespace Go.Proofs.Ytfilicbbkaifcaa
open Go Go.RowKit

theorem infoI : (Try.prog.info? 3).map (fun i => (i.zero, i.size, i.bytes)) = some (some (.int .i64 0), 1, 8) := by kernel_rfl
theorem undI : Try.prog.underlying 44 = some (.slice 3) := by kernel_rfl
def vI (n : Nat) : Value := .int .i64 (n : Int)
/-- The slice v, among the blocks from base on, holds the ints l. -/
def OwnI (w : World) (base : Nat) (v : Value) (l : List Nat) : Prop := w.ownsRow base 3 1 v l.length (l.map vI)
section
variable {w w' : World} {base : Nat} {v : Value} {l : List Nat}
theorem OwnI.lt (h : OwnI w base v l) : ∀ k, v.ownBlock = some k → base ≤ k ∧ k < w.heap.size := World.ownsRow.lt h
theorem OwnI.keep (h : OwnI w base v l) (hb : ∀ k, v.ownBlock = some k → w'.heap[k]? = w.heap[k]?) : OwnI w' base v l := by
  refine ⟨h.1, ?_⟩
  rcases h.2 with h' | ⟨g, cap, cur, hv, h1, hg, r⟩
  · exact .inl h'
  · exact .inr ⟨g, cap, cur, hv, h1, by rw [hb g (by rw [hv]; rfl)]; exact hg, r⟩
theorem OwnI.of_below (h : OwnI w base v l) (k : Below w.heap.size w w') : OwnI w' base v l := h.keep fun g hg => k.block g (h.lt g hg).2
theorem OwnI.nil (w : World) (base : Nat) : OwnI w base (.slice none 0 0) [] := ⟨rfl, .inl ⟨rfl, rfl⟩⟩
theorem OwnI.cells (h : OwnI w base v l) : ∃ p cap, v = .slice p l.length cap ∧ ∀ j, j < l.length → ∃ g, p = some ⟨g, 0, none⟩ ∧ w.cell? ⟨g, j, none⟩ = some (.int .i64 ((l.getD j 0 : Nat) : Int)) := by
  rcases h.2 with ⟨hv, hl⟩ | ⟨g, cap, cur, hv, _, hg, hle, _, hsz, ht⟩
  · exact ⟨none, 0, by rw [hv, hl], fun j hj => absurd hj (by omega)⟩
  · refine ⟨some ⟨g, 0, none⟩, cap, hv, fun j hj => ⟨g, rfl, ?_⟩⟩
    rw [cell_of_row w g j cur 3 (0, 0) hg]
    have h1 : (cur.toList.take (l.length * 1))[j]? = (l.map vI)[j]? := by rw [ht]
    rw [List.getElem?_take, if_pos (by omega)] at h1
    simpa [hj, vI] using h1
end
/-- Two such slices, apart from each other. -/
structure Pr (w : World) (N : Nat) (r s : Value) (rl sl : List Nat) : Prop where
  own1 : OwnI w N r rl
  own2 : OwnI w N s sl
  sep : ∀ g, r.ownBlock = some g → s.ownBlock ≠ some g
section
variable {w w' : World} {N : Nat} {r s : Value} {rl sl : List Nat}
theorem Pr.symm (h : Pr w N r s rl sl) : Pr w N s r sl rl := ⟨h.own2, h.own1, fun g e1 e2 => h.sep g e2 e1⟩
theorem Pr.nil (w : World) (N : Nat) : Pr w N (.slice none 0 0) (.slice none 0 0) [] [] := ⟨OwnI.nil w N, OwnI.nil w N, fun g e => by cases e⟩
theorem Pr.of_below (h : Pr w N r s rl sl) (k : Below w.heap.size w w') : Pr w' N r s rl sl := ⟨h.own1.of_below k, h.own2.of_below k, h.sep⟩
theorem Pr.push (h : Pr w N r s rl sl) {g n c : Nat} {rl' : List Nat} (hO : OwnI w' N (.slice (some ⟨g, 0, none⟩) n c) rl') (hg : w.grownBy w' r.ownBlock) (hor : r.ownBlock = some g ∨ g = w.heap.size) : Pr w' N (.slice (some ⟨g, 0, none⟩) n c) s rl' sl := by
  refine ⟨hO, h.own2.keep fun k hk => hg.block k (h.own2.lt k hk).2 fun e => h.sep k e.symm hk, fun k hk e => ?_⟩
  have hk' : g = k := by simpa [Value.ownBlock] using hk
  subst hk'
  rcases hor with h1 | h1
  · exact h.sep g h1 e
  · have := (h.own2.lt g e).2
    omega
end
theorem bs1I (x : Int) (w : World) : (bsT 44 1 #[(0, .int .i64 x)]).run Try.prog w = .ok (.value (.slice (some ⟨w.heap.size, 0, none⟩) 1 1)) (w.alloc (.cells #[.int .i64 x] 3)) := by kernel_rfl
theorem bs1B (x : BitVec 8) (w : World) : (bsT 35 1 #[(0, B x)]).run Try.prog w = .ok (.value (.slice (some ⟨w.heap.size, 0, none⟩) 1 1)) (w.alloc (.cells #[B x] 5)) := by kernel_rfl
/-- One int appended. -/
theorem wpl_pushI {ops : Array Oper} {rest : List Oper} {o : Oper} {a : Act} {Q : Exit → Act → World → Prop} (w : World) (hgd : o.guard = none) (s x : Operand)
    (ho : o.op = .call { callee := .builtin .append, args := #[s, x], argTypes := #[44, 44] })
    (base : Nat) (v : Value) (l : List Nat) (hs : a.eval s = v) (hown : OwnI w base v l) (ad : Addr) (hx : a.eval x = .slice (some ad) 1 1) (u : Nat) (hc : w.cell? ad = some (.int .i64 (u : Int)))
    (n0 : Nat) (hn0 : l.length = n0) (hlen : n0 < 100000000) (hb : base ≤ w.heap.size)
    (h : ∀ g cap' w', OwnI w' base (.slice (some ⟨g, 0, none⟩) (n0 + 1) cap') (l ++ [u]) → w.grownBy w' v.ownBlock → (v.ownBlock = some g ∨ g = w.heap.size) → wpList Try.prog ops Q rest (a.put o.dst (.slice (some ⟨g, 0, none⟩) (n0 + 1) cap')) w') : wpList Try.prog ops Q (o :: rest) a w := by
  subst hn0
  obtain ⟨i0, hi, hz0, hz1, hz2⟩ := info_parts infoI
  exact wpList_append_lies (P := Try.prog) (w := w) hgd s x 44 ho base 3 i0 (.int .i64 0) 1 8 undI hi hz0 hz1 hz2 rfl (by decide) v l.length (l.map vI) hs hown ad 1 1 [vI u] hx rfl
    (fun j u' hu => by
      have : j = 0 := by
        rcases Nat.eq_zero_or_pos j with h | h
        · exact h
        · rw [List.getElem?_eq_none (by simp; omega)] at hu; cases hu
      subst this
      rw [Addr.add_zero', hc]
      simpa [vI] using hu)
    (by intro u' hu; simp at hu; subst hu; rfl) (by decide) (by simp only [maxLen]; omega) (by omega) hb w.heap.size rfl
    (fun g cap' w' h2 h3 h4 _ => h g cap' w' (by unfold OwnI; rw [List.length_append, List.map_append]; exact h2) h3 h4)
/-- One byte appended, at a step of a region that draws its order. -/
theorem step_pushB {ops : Array Oper} {o : Oper} {a : Act} {w : World} {K : Act → World → Prop} {Q : Exit → Act → World → Prop} {E : Prop} (hgd : o.guard = none) (s x : Operand)
    (ho : o.op = .call { callee := .builtin .append, args := #[s, x], argTypes := #[35, 35] })
    (base : Nat) (v : Value) (l : List (BitVec 8)) (hs : a.eval s = v) (hown : OwnB w base v l) (ad : Addr) (hx : a.eval x = .slice (some ad) 1 1) (u : BitVec 8) (hc : w.cell? ad = some (B u))
    (n0 : Nat) (hn0 : l.length = n0) (hlen : n0 < 100000000) (hb : base ≤ w.heap.size)
    (h : ∀ g cap' w', OwnB w' base (.slice (some ⟨g, 0, none⟩) (n0 + 1) cap') (l ++ [u]) → w.grownBy w' v.ownBlock → (v.ownBlock = some g ∨ g = w.heap.size) → K (a.put o.dst (.slice (some ⟨g, 0, none⟩) (n0 + 1) cap')) w') :
    if Region.wanted o (yielded ops a.tmps) = true then Oper.wp Try.prog o a w K Q else E := by
  subst hn0
  obtain ⟨i0, hi, hz0, hz1, hz2⟩ := info_parts info5
  exact step_append_lies (P := Try.prog) (w := w) hgd s x 35 ho base 5 i0 (.int .u8 0) 1 1 und35 hi hz0 hz1 hz2 rfl (by decide) v l.length (l.map B) hs hown ad 1 1 [B u] hx rfl
    (fun j u' hu => by
      have : j = 0 := by
        rcases Nat.eq_zero_or_pos j with h | h
        · exact h
        · rw [List.getElem?_eq_none (by simp; omega)] at hu; cases hu
      subst this
      rw [Addr.add_zero', hc]
      simpa using hu)
    (by intro u' hu; simp at hu; subst hu; exact one_B u) (by decide) (by simp only [maxLen]; omega) (by omega) hb w.heap.size rfl
    (fun g cap' w' h2 h3 h4 _ => h g cap' w' (by unfold OwnB; rw [List.length_append, List.map_append]; exact h2) h3 h4)
/-- Block G holds the headers of t rows that are appended to. -/
structure Ct (w : World) (N G t : Nat) (V : Nat → Value) (L : Nat → List (BitVec 8)) : Prop where
  hds : Row w G 35 t V
  own : ∀ i, i < t → OwnB w N (V i) (L i)
  sep : ∀ i j, i < t → j < t → i ≠ j → ∀ g, (V i).ownBlock = some g → (V j).ownBlock ≠ some g
  neG : ∀ i, i < t → (V i).ownBlock ≠ some G
  loG : N ≤ G
def setV (V : Nat → Value) (i : Nat) (v : Value) : Nat → Value := fun j => if j = i then v else V j
def setL (L : Nat → List (BitVec 8)) (i : Nat) (l : List (BitVec 8)) : Nat → List (BitVec 8) := fun j => if j = i then l else L j
section
variable {w w' : World} {N G t : Nat} {V : Nat → Value} {L L' : Nat → List (BitVec 8)}
theorem OwnB.nilB (w : World) (base : Nat) : OwnB w base (.slice none 0 0) [] := ⟨rfl, .inl ⟨rfl, rfl⟩⟩
theorem Ct.zero (h : Row w G 35 t (fun _ => .slice none 0 0)) (hN : N ≤ G) : Ct w N G t (fun _ => .slice none 0 0) (fun _ => []) :=
  ⟨h, fun i _ => OwnB.nilB w N, (fun i j _ _ _ g e => by cases e), (fun i _ e => by cases e), hN⟩
theorem Ct.congr (h : Ct w N G t V L) (e : ∀ i, i < t → L i = L' i) : Ct w N G t V L' := ⟨h.hds, fun i hi => by rw [← e i hi]; exact h.own i hi, h.sep, h.neG, h.loG⟩
theorem Ct.of_below (h : Ct w N G t V L) (k : Below w.heap.size w w') : Ct w' N G t V L := ⟨h.hds.of_below k, fun i hi => (h.own i hi).of_below k, h.sep, h.neG, h.loG⟩
theorem Ct.push (h : Ct w N G t V L) (i : Nat) (hi : i < t) {g n c : Nat} {l : List (BitVec 8)} (hO : OwnB w' N (.slice (some ⟨g, 0, none⟩) n c) l) (hg : w.grownBy w' (V i).ownBlock) (hor : (V i).ownBlock = some g ∨ g = w.heap.size) :
    Ct (w'.setCell ⟨G, i, none⟩ (.slice (some ⟨g, 0, none⟩) n c)) N G t (setV V i (.slice (some ⟨g, 0, none⟩) n c)) (setL L i l) := by
  have hGl := h.hds.lt
  have hgG : g ≠ G := by
    rcases hor with h1 | h1
    · intro e; subst e; exact h.neG i hi h1
    · omega
  have hrow : Row w' G 35 t V := h.hds.of_block (hg.block G hGl (Ne.symm (h.neG i hi)))
  have ob : (Value.slice (some ⟨g, 0, none⟩) n c).ownBlock = some g := rfl
  have far : ∀ j, j < t → j ≠ i → (V j).ownBlock ≠ some g := fun j hj hne e => by
    rcases hor with h1 | h1
    · exact h.sep i j hi hj (Ne.symm hne) g h1 e
    · have := ((h.own j hj).lt g e).2
      omega
  refine ⟨(hrow.set i _).congr fun j _ => rfl, fun j hj => ?_, fun p q hp hq hpq k e1 e2 => ?_, fun j hj => ?_, h.loG⟩
  · unfold setV setL
    by_cases e : j = i
    · rw [if_pos e, if_pos e]
      exact hO.keep fun k hk => Below.heap_setCell _ _ _ _ (by rw [ob] at hk; injection hk with hk; subst hk; exact hgG)
    · rw [if_neg e, if_neg e]
      refine (h.own j hj).keep fun k hk => ?_
      rw [Below.heap_setCell _ _ _ _ (show k ≠ G from fun e => by subst e; exact h.neG j hj hk)]
      exact hg.block k ((h.own j hj).lt k hk).2 fun e2 => h.sep i j hi hj (Ne.symm e) k e2.symm hk
  · unfold setV at e1 e2
    by_cases h1 : p = i
    · rw [if_pos h1, ob] at e1
      rw [if_neg (by omega)] at e2
      injection e1 with e1
      subst e1
      exact far q hq (by omega) e2
    · rw [if_neg h1] at e1
      by_cases h2 : q = i
      · rw [if_pos h2, ob] at e2
        injection e2 with e2
        subst e2
        exact far p hp h1 e1
      · rw [if_neg h2] at e2
        exact h.sep p q hp hq hpq k e1 e2
  · unfold setV
    by_cases e : j = i
    · rw [if_pos e, ob]
      intro e2
      injection e2 with e2
      exact hgG e2
    · rw [if_neg e]; exact h.neG j hj
theorem Ct.prt (h : Ct w N G t V L) : Prt w (some ⟨G, 0, none⟩) ((List.range t).map L) := fun i hi => by
  have hi' : i < t := by simpa using hi
  have e : ((List.range t).map L).getD i [] = L i := by simp [List.getD_eq_getElem?_getD, hi']
  rw [e]
  obtain ⟨q, c, hv, hs, hq, hle⟩ := (h.own i hi').shape
  exact ⟨G, 0, q, c, rfl, by rw [Nat.zero_add, h.hds.cell i hi', hv], hs, hq, hle⟩
end
end Go.Proofs.Ytfilicbbkaifcaa
