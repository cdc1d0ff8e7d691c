/- Merged texts: Rtk14, Ist14, Nam14, Ord14, Lpi14, Bnd14, Lbi14, Map8. -/
import Derived.Test.YtcgilacmdckbfaaDoorKB3
import Derived.Test.YtcgilacmdckbfaaDoorTck14
import Derived.Deep.RegionHeld3
import Derived.BigQuiet
import Derived.Test.YtcgilacmdckbfaaDoorKB2
import Derived.Test.YtcgilacmdckbfaaDoorLnx14
import Derived.Test.YtcgilacmdckbfaaDoorBytes
import Derived.Test.YtcgilacmdckbfaaDoorPut14
import Derived.MapKept
import Derived.Maps.Range
import Derived.Maps.Keyed
import Derived.Maps.RangeWalk
import Derived.RangeFuncRecord
import Derived.Deep.QuietTactic
import Derived.ChangeMaps4
import Derived.Test.YtcgilacmdckbfaaDoorStr7
set_option linter.unusedSimpArgs false
set_option linter.unusedVariables false
/- darnerref14.Tick. -/
set_option maxRecDepth 100000
namespace Go.Proofs.YtcgilacmdckbfaaDoor
open Go Go.RowKit

end Go.Proofs.YtcgilacmdckbfaaDoor
/- darnerlaw14.Is: true. -/
set_option maxRecDepth 100000
namespace Go.Proofs.YtcgilacmdckbfaaDoor
open Go Go.RowKit

end Go.Proofs.YtcgilacmdckbfaaDoor
/- darnerlaw14.LaneOrders' names. -/
set_option maxRecDepth 100000
namespace Go.Proofs.YtcgilacmdckbfaaDoor
open Go Go.RowKit

def nmI (i : Nat) : S8 := [UInt8.ofNat (97 + i)]
end Go.Proofs.YtcgilacmdckbfaaDoor
/- LaneOrders, in plain terms; lanes of a statement's own. -/
set_option maxRecDepth 100000
namespace Go.Proofs.YtcgilacmdckbfaaDoor
open Go Go.RowKit

/-- Lanes that the statement made since w. -/
def St14 (w u : World) (b : Nat) (s : Ln) : Prop := LnAt u b (Nw w) s ∧ Below w.heap.size w u
theorem St14.next {w u u' : World} {b : Nat} {s s' : Ln} (h : St14 w u b s) (hL : LnAt u' b (newF (Nw w) u u') s') (hK : KpF (Nw w) u u') : St14 w u' b s' :=
  ⟨hL.mono fun g _ hg => by
    rcases hg with hg | hg
    · exact hg
    · exact Nat.le_trans h.2.size hg.1, h.2.trans (hK.below (fun k hk => hk) h.2.size)⟩
theorem St14.mono {w w' u : World} {b : Nat} {s : Ln} (h : St14 w' u b s) (hB : Below w.heap.size w w') : St14 w u b s := ⟨h.1.mono fun g _ hg => Nat.le_trans hB.size hg, hB.trans (h.2.mono hB.size)⟩
/-- The files that are put first. -/
def enI (Bn : Nat → Nat) (k : Nat) : List Fl := (List.range k).map fun i => ⟨nmI i, Bn i, 0, 0⟩
theorem enI_len (Bn : Nat → Nat) (k : Nat) : (enI Bn k).length = k := by simp [enI]
theorem enI_get (Bn : Nat → Nat) (k i : Nat) (hi : i < k) : (enI Bn k).getD i fl0 = ⟨nmI i, Bn i, 0, 0⟩ := by simp [enI, List.getD_eq_getElem?_getD, hi]
/-- The lanes, while the ticks go. -/
structure OrI (n h t nx : Nat) (s : Ln) : Prop where
  ck : s.clock = t
  oe : okL s.en
  os : okL s.sc
  ln : s.en.length + s.sc.length = n
  nxt : nx + s.en.length = n
  nm : ∀ i, i < s.en.length → (s.en.getD i fl0).path = nmI (nx + i)
  pr : s.en = [] ∨ remL s.en + t * h ≤ 64 * n
theorem OrI.start (Bn : Nat → Nat) (n h : Nat) (hb : ∀ i, Bn i ≤ 64) : OrI n h 0 0 ⟨0, enI Bn n, []⟩ := by
  have ok : okL (enI Bn n) := fun f hf => by
    unfold enI at hf
    obtain ⟨i, hi, rfl⟩ := List.mem_map.1 hf
    exact ⟨Nat.zero_le _, hb i⟩
  refine ⟨rfl, ok, (fun f hf => by cases hf), by simp [enI_len], by simp [enI_len], fun i hi => ?_, .inr ?_⟩
  · rw [enI_get Bn n i (by simpa [enI_len] using hi), Nat.zero_add]
  · have := remL_le _ ok
    rw [enI_len] at this
    simpa using this
theorem OrI.tick {n h t nx : Nat} {s : Ln} (o : OrI n h t nx s) {ns : List Fl} (hp : ns.Perm (tickFin s h)) : OrI n h (t + 1) (nx + (tickA s h).fin.length) (tickS s h ns) := by
  obtain ⟨a1, a2, a3, a4, a5, a6, a7, a8⟩ := workL_enrol (s.clock + 1) true s.en h o.oe
  have okA := workL_ok (s.clock + 1) true s.en h o.oe
  have okB := workL_ok (s.clock + 1) false s.sc ((tickA s h).left + h) o.os
  have lb := congrArg List.length (workL_paths (s.clock + 1) false s.sc ((tickA s h).left + h)).1
  simp only [List.length_append, List.length_map] at lb
  have hln := hp.length_eq
  unfold tickFin at hln
  rw [List.length_append] at hln
  have ho := o.ln
  have hx := o.nxt
  refine ⟨by show s.clock + 1 = t + 1; rw [o.ck], okA.1, fun f hf => ?_, ?_, ?_, fun i hi => ?_, ?_⟩
  · rcases List.mem_append.1 hf with h1 | h1
    · exact okB.1 f h1
    · rcases List.mem_append.1 (hp.mem_iff.1 h1) with h2 | h2
      · exact okA.2.1 f h2
      · exact okB.2.1 f h2
  · show (tickA s h).rest.length + ((tickB s h).rest ++ ns).length = n
    rw [List.length_append]
    have e1 : s.en.length = (tickA s h).fin.length + (tickA s h).rest.length := a4
    have e2 : s.sc.length = (tickB s h).fin.length + (tickB s h).rest.length := lb
    omega
  · show nx + (tickA s h).fin.length + (tickA s h).rest.length = n
    unfold tickA at *
    omega
  · have h1 := a5 i hi
    have h2 := o.nm ((tickA s h).fin.length + i) (by
      have hi' : i < (tickA s h).rest.length := hi
      unfold tickA at *
      omega)
    show ((tickA s h).rest.getD i fl0).path = _
    rw [Nat.add_assoc, ← h2]
    exact h1
  · show (tickA s h).rest = [] ∨ remL (tickA s h).rest + (t + 1) * h ≤ 64 * n
    rcases a8 with a8 | a8
    · exact .inl a8
    · rcases o.pr with hpr | hpr
      · left
        unfold tickA
        rw [hpr]
        rfl
      · right
        rw [Nat.add_mul]
        unfold tickA at *
        omega
theorem OrI.done {n h t nx : Nat} {s : Ln} (o : OrI n h t nx s) (ht : 64 * n < t * h) : s.en = [] ∧ nx = n := by
  have h1 : s.en = [] := by
    rcases o.pr with h1 | h1
    · exact h1
    · omega
  have := o.nxt
  rw [h1] at this
  exact ⟨h1, by simpa using this⟩
end Go.Proofs.YtcgilacmdckbfaaDoor
/- LanePlays, in plain terms: how the program's lanes and the document's stand to each other, step by step. -/
set_option maxRecDepth 100000
namespace Go.Proofs.YtcgilacmdckbfaaDoor
open Go

/-- After k calls. -/
structure LpI (s : Ln) (M : List Rf) (k : Nat) : Prop where
  rel : RelQ M s.en s.sc
  om : OkM M
  srt : s.sc.Pairwise ltF
  tk : ∀ f ∈ s.sc, f.tick ≤ s.clock
  len : M.length ≤ k
  ck : s.clock ≤ k
theorem LpI.zero : LpI ln0 [] 0 := ⟨⟨rfl, List.Perm.refl _, List.nodup_nil⟩, (fun x hx => by cases hx), List.Pairwise.nil, (fun f hf => by cases hf), Nat.le_refl _, Nat.le_refl _⟩
theorem LpI.more {s : Ln} {M : List Rf} {k : Nat} (h : LpI s M k) : LpI s M (k + 1) := ⟨h.rel, h.om, h.srt, h.tk, Nat.le_succ_of_le h.len, Nat.le_succ_of_le h.ck⟩
theorem part_perm (M : List Rf) : (M.filter isE ++ M.filter fun x => !isE x).Perm M := by
  induction M with
  | nil => exact List.Perm.refl _
  | cons x M ih =>
    rw [List.filter_cons, List.filter_cons]
    cases h : isE x with
    | true => simp only [if_true, Bool.not_true, Bool.false_eq_true, if_false, List.cons_append]; exact ih.cons x
    | false => simp only [Bool.false_eq_true, if_false, Bool.not_false, if_true]; exact List.perm_middle.trans (ih.cons x)
theorem RelQ.both {M : List Rf} {en S : List Fl} (h : RelQ M en S) : (en ++ S).Perm (M.map flR) := by
  have h1 : (en ++ S).Perm ((M.filter isE).map flR ++ (M.filter fun x => !isE x).map flR) := by
    rw [h.e]
    exact h.s.symm.append_left en
  refine h1.trans ?_
  rw [← List.map_append]
  exact (part_perm M).map flR
theorem RelQ.paths {M : List Rf} {en S : List Fl} (h : RelQ M en S) : ((en ++ S).map (·.path)).Perm (M.map (·.path)) := by
  have := h.both.map (·.path)
  rw [List.map_map] at this
  exact this
theorem LpI.okLn {s : Ln} {M : List Rf} {k : Nat} (h : LpI s M k) : okLn s := (h.rel.paths.nodup_iff).2 h.rel.nd
theorem LpI.okB {s : Ln} {M : List Rf} {k : Nat} (h : LpI s M k) {f : Fl} (hf : f ∈ s.en ++ s.sc) : okF f := by
  obtain ⟨x, hx, rfl⟩ := List.mem_map.1 (h.rel.both.mem_iff.1 hf)
  have := h.om x hx
  exact ⟨this.2.2, this.2.1⟩
theorem OkM.drop {M : List Rf} (h : OkM M) (p : S8) : OkM (dropR M p) := fun x hx => h x (List.mem_filter.1 hx).1
theorem LpI.drop {s : Ln} {M : List Rf} {k : Nat} (h : LpI s M k) (p : S8) : LpI (dropS s p) (dropR M p) k := by
  refine ⟨h.rel.drop p, h.om.drop p, h.srt.sublist List.filter_sublist, fun f hf => h.tk f (List.mem_filter.1 hf).1, Nat.le_trans (List.length_filter_le _ _) h.len, h.ck⟩
theorem LpI.put {s : Ln} {M : List Rf} {k : Nat} (h : LpI s M k) (p : S8) (n : Int) : LpI (putS s p n) (putR M p n) (k + 1) := by
  unfold putS putR
  by_cases hc : putC p n = 0
  · rw [if_pos hc, if_pos hc]
    have hn : 0 ≤ n ∧ n ≤ 64 := by
      unfold putC at hc
      split at hc
      · cases hc
      · split at hc
        · cases hc
        · omega
    have hd := h.drop p
    refine ⟨hd.rel.put p n.toNat (fun x hx => of_decide_eq_true (List.mem_filter.1 hx).2), fun x hx => ?_, hd.srt, hd.tk, ?_, Nat.le_succ_of_le h.ck⟩
    · rcases List.mem_append.1 hx with hx | hx
      · exact hd.om x hx
      · obtain rfl : x = ⟨p, n.toNat, 0, -1⟩ := by simpa using hx
        exact ⟨Int.le_refl _, by show n.toNat ≤ 64; omega, Nat.zero_le _⟩
    · rw [List.length_append]
      exact Nat.succ_le_succ hd.len
  · rw [if_neg hc, if_neg hc]
    exact h.more
theorem path_tri (a b : S8) : a < b ∨ a = b ∨ b < a := by
  by_cases h1 : a < b
  · exact .inl h1
  · by_cases h2 : b < a
    · exact .inr (.inr h2)
    · exact .inr (.inl (List.le_antisymm (List.not_lt.1 h2) (List.not_lt.1 h1)))
theorem ltF_map {l l' : List Fl} (h : l.map (fun f => (f.tick, f.path)) = l'.map (fun f => (f.tick, f.path))) (hs : l'.Pairwise ltF) : l.Pairwise ltF := by
  have h1 : (l'.map (fun f => (f.tick, f.path))).Pairwise (fun a b => a.1 < b.1 ∨ a.1 = b.1 ∧ a.2 < b.2) := by rw [List.pairwise_map]; exact hs
  rw [← h, List.pairwise_map] at h1
  exact h1
theorem LpI.tick {s : Ln} {M M' : List Rf} {k : Nat} (h : LpI s M k) (b : Nat) {ns : List Fl} (hr : RelQ M' (tickA s b).rest ((tickB s b).rest ++ tickFin s b)) (ho : OkM M') (hl : M'.length = M.length) (hp : ns.Perm (tickFin s b)) (hb : byPath ns) : LpI (tickS s b ns) M' (k + 1) := by
  have hr' : RelQ M' (tickS s b ns).en (tickS s b ns).sc := hr.perm (hp.symm.append_left _)
  obtain ⟨w1, -⟩ := workL_rest (s.clock + 1) false s.sc ((tickA s b).left + b)
  have hfin : ∀ f ∈ tickFin s b, f.tick = s.clock + 1 := fun f hf => by
    rcases List.mem_append.1 hf with h1 | h1
    · exact ((workL_rest (s.clock + 1) true s.en b).2 f h1).1
    · exact ((workL_rest (s.clock + 1) false s.sc ((tickA s b).left + b)).2 f h1).1
  have hrt : ∀ f ∈ (tickB s b).rest, f.tick ≤ s.clock := fun f hf => by
    have h1 : (f.tick, f.path) ∈ (tickB s b).rest.map (fun f => (f.tick, f.path)) := List.mem_map.2 ⟨f, hf, rfl⟩
    unfold tickB at h1
    rw [w1] at h1
    obtain ⟨g, hg, e⟩ := List.mem_map.1 h1
    have h2 := h.tk g (List.mem_of_mem_drop hg)
    injection e with e1 e2
    omega
  have hns : ∀ f ∈ ns, f.tick = s.clock + 1 := fun f hf => hfin f (hp.mem_iff.1 hf)
  refine ⟨hr', ho, ?_, fun f hf => ?_, by rw [hl]; exact Nat.le_succ_of_le h.len, Nat.succ_le_succ h.ck⟩
  · show ((tickB s b).rest ++ ns).Pairwise ltF
    rw [List.pairwise_append]
    refine ⟨?_, ?_, fun f hf g hg => .inl (by have := hrt f hf; have := hns g hg; omega)⟩
    · unfold tickB
      exact ltF_map w1 (h.srt.sublist (List.drop_sublist _ _))
    · have hnd : (ns.map (·.path)).Nodup := by
        have h1 := (hr'.paths.nodup_iff).2 hr'.nd
        refine h1.sublist ?_
        rw [List.map_append]
        refine List.Sublist.trans ?_ (List.sublist_append_right _ _)
        show (ns.map (·.path)).Sublist (((tickB s b).rest ++ ns).map (·.path))
        rw [List.map_append]
        exact List.sublist_append_right _ _
      rw [List.nodup_iff_pairwise_ne, List.pairwise_map] at hnd
      refine (hb.and hnd).imp_of_mem fun {f g} hf hg hfg => .inr ⟨by rw [hns f hf, hns g hg], ?_⟩
      rcases path_tri f.path g.path with h1 | h1 | h1
      · exact h1
      · exact absurd h1 hfg.2
      · exact absurd h1 hfg.1
  · rcases List.mem_append.1 hf with h1 | h1
    · exact Nat.le_succ_of_le (hrt f h1)
    · exact Nat.le_of_eq (hns f h1)
end Go.Proofs.YtcgilacmdckbfaaDoor
/- LaneBound, in plain terms: within so many ticks each file is finished, and each of its blocks is done. -/
set_option maxRecDepth 100000
namespace Go.Proofs.YtcgilacmdckbfaaDoor
open Go

/-- Whether work covers a block. -/
def covW (out : List Wk) (p : S8) (j : Nat) : Bool := out.any fun x => decide (x.path = p) && (decide (x.lo ≤ j) && decide (j < x.hi))
theorem covW_cons {x : Wk} {out : List Wk} {p : S8} {j : Nat} (h : covW out p j = true) : covW (x :: out) p j = true := by
  unfold covW at h ⊢
  rw [List.any_cons, h, Bool.or_true]
theorem covW_head {x : Wk} {out : List Wk} {j : Nat} (h1 : x.lo ≤ j) (h2 : j < x.hi) : covW (x :: out) x.path j = true := by
  unfold covW
  rw [List.any_cons, decide_eq_true rfl, decide_eq_true h1, decide_eq_true h2]
  rfl
theorem covW_app {a b : List Wk} {p : S8} {j : Nat} : covW (a ++ b) p j = (covW a p j || covW b p j) := by unfold covW; rw [List.any_append]
/-- What lies ahead of a file, and of it itself up to a block. -/
def needQ (q : List Fl) (i : Nat) (f : Fl) (m : Nat) : Nat := remL (q.take i) + (m - f.done)
theorem remL_cons (f : Fl) (q : List Fl) : remL (f :: q) = (f.blocks - f.done) + remL q := by simp [remL]
theorem work_need (tk : Nat) (en : Bool) (q : List Fl) (hq : okL q) (L i : Nat) (f : Fl) (m : Nat) (hf : q[i]? = some f) (h1 : f.done ≤ m) (h2 : m ≤ f.blocks) :
    (needQ q i f m ≤ L → (∀ j, f.done ≤ j → j < m → covW (workL tk en q L).out f.path j = true) ∧ (m = f.blocks → ∃ g ∈ (workL tk en q L).fin, g.path = f.path ∧ g.blocks = f.blocks ∧ g.done = 0 ∧ g.tick = tk)) ∧
    (L < needQ q i f m → ∃ i' f', (workL tk en q L).rest[i']? = some f' ∧ f'.path = f.path ∧ f'.blocks = f.blocks ∧ f'.tick = f.tick ∧ f.done ≤ f'.done ∧ f'.done ≤ m ∧ needQ (workL tk en q L).rest i' f' m + L = needQ q i f m ∧ ∀ j, f.done ≤ j → j < f'.done → covW (workL tk en q L).out f.path j = true) := by
  induction q generalizing L i with
  | nil => simp at hf
  | cons f0 q ih =>
    have hq0 := (hq f0 (by simp)).1
    have hq' : okL q := fun g hg => hq g (by simp [hg])
    cases i with
    | zero =>
      obtain rfl : f0 = f := by simpa using hf
      have hn : needQ (f0 :: q) 0 f0 m = m - f0.done := by simp [needQ, remL]
      rw [hn]
      simp only [workL]
      refine ⟨fun hL => ?_, fun hL => ?_⟩
      · split
        · split
          · rename_i c1 c2
            refine ⟨fun j j1 j2 => covW_head j1 (by show j < f0.blocks; omega), fun _ => ⟨_, List.mem_cons_self, rfl, rfl, rfl, rfl⟩⟩
          · rename_i c1 c2
            refine ⟨fun j j1 j2 => covW_head j1 (by show j < f0.done + L; omega), fun e => by omega⟩
        · rename_i c1
          refine ⟨fun j j1 j2 => by omega, fun e => by omega⟩
      · split
        · split
          · omega
          · refine ⟨0, { f0 with done := f0.done + L }, rfl, rfl, rfl, rfl, Nat.le_add_right _ _, by show f0.done + L ≤ m; omega, ?_, fun j j1 j2 => covW_head j1 j2⟩
            simp [needQ, remL]
            omega
        · refine ⟨0, f0, rfl, rfl, rfl, rfl, Nat.le_refl _, h1, ?_, fun j j1 j2 => absurd j2 (Nat.not_lt.2 j1)⟩
          simp [needQ, remL]
          omega
    | succ i =>
      have hf' : q[i]? = some f := by simpa using hf
      have hn : needQ (f0 :: q) (i + 1) f m = (f0.blocks - f0.done) + needQ q i f m := by
        unfold needQ
        rw [List.take_succ_cons, remL_cons]
        omega
      rw [hn]
      simp only [workL]
      split
      · split
        · rename_i c1 c2
          obtain ⟨a1, a2⟩ := ih hq' (L - (f0.blocks - f0.done)) i hf'
          refine ⟨fun hL => ?_, fun hL => ?_⟩
          · obtain ⟨b1, b2⟩ := a1 (by omega)
            refine ⟨fun j j1 j2 => covW_cons (b1 j j1 j2), fun e => ?_⟩
            obtain ⟨g, hg, r⟩ := b2 e
            exact ⟨g, List.mem_cons_of_mem _ hg, r⟩
          · have hlt : L - (f0.blocks - f0.done) < needQ q i f m := Nat.sub_lt_left_of_lt_add (Nat.sub_le_iff_le_add'.2 c2) hL
            obtain ⟨i', f', b1, b2, b3, b4, b5, b6, b7, b8⟩ := a2 hlt
            exact ⟨i', f', b1, b2, b3, b4, b5, b6, by show needQ (workL tk en q (L - (f0.blocks - f0.done))).rest i' f' m + L = _; omega, fun j j1 j2 => covW_cons (b8 j j1 j2)⟩
        · rename_i c1 c2
          refine ⟨fun hL => by exfalso; omega, fun hL => ?_⟩
          refine ⟨i + 1, f, by simpa using hf', rfl, rfl, rfl, Nat.le_refl _, h1, ?_, fun j j1 j2 => absurd j2 (Nat.not_lt.2 j1)⟩
          unfold needQ
          rw [List.take_succ_cons, remL_cons]
          show (f0.blocks - (f0.done + L)) + remL (q.take i) + (m - f.done) + L = _
          omega
      · rename_i c1
        refine ⟨fun hL => by exfalso; omega, fun hL => ?_⟩
        refine ⟨i + 1, f, by simpa using hf', rfl, rfl, rfl, Nat.le_refl _, h1, ?_, fun j j1 j2 => absurd j2 (Nat.not_lt.2 j1)⟩
        unfold needQ
        rw [List.take_succ_cons, remL_cons]
        omega
theorem remL_take {q : List Fl} {i : Nat} {f : Fl} (h : q[i]? = some f) : remL (q.take i) + f.blocks ≤ blk q := by
  induction q generalizing i with
  | nil => simp at h
  | cons a q ih =>
    have hb : blk (a :: q) = a.blocks + blk q := by simp [blk]
    cases i with
    | zero =>
      obtain rfl : a = f := by simpa using h
      rw [hb, List.take_zero]
      show 0 + a.blocks ≤ _
      omega
    | succ i =>
      have := ih (i := i) (by simpa using h)
      rw [hb, List.take_succ_cons, remL_cons]
      omega
/-- Of one file, that had so many blocks done: how far it is after t ticks. -/
def FileI (B h fr : Nat) (p : S8) (bl d0 t : Nat) (s : Ln) (C : S8 → Nat → Bool) : Prop :=
  (∃ l, (l = s.en ∨ l = s.sc) ∧ ∃ (i : Nat) (f : Fl), l[i]? = some f ∧ f.path = p ∧ f.blocks = bl ∧ d0 ≤ f.done ∧ f.done ≤ bl ∧ (∀ j, d0 ≤ j → j < f.done → C p j = true) ∧ needQ l i f bl + t * h ≤ B ∧ (0 < d0 → needQ l i f bl + t * h ≤ bl - d0)) ∨
  (∃ (i : Nat) (g : Fl), s.sc[i]? = some g ∧ g.path = p ∧ g.blocks = bl ∧ g.done ≤ bl ∧ fr < g.tick ∧ (∀ j, d0 ≤ j → j < bl → C p j = true) ∧
    ((∀ j, j < d0 → C p j = true) ∨ (g.done ≤ d0 ∧ (∀ j, j < g.done → C p j = true) ∧ needQ s.sc i g d0 + t * h ≤ B + h)))
/-- What all files together keep. -/
structure BndI (B h fr : Nat) (s : Ln) : Prop where
  oe : okL s.en
  os : okL s.sc
  tot : blk s.en + blk s.sc = B
  ck : fr ≤ s.clock
theorem blk_app (a b : List Fl) : blk (a ++ b) = blk a + blk b := by simp [blk]
theorem blk_perm {a b : List Fl} (h : a.Perm b) : blk a = blk b := (h.map fun f : Fl => f.blocks).sum_nat
theorem blk_work (tk : Nat) (en : Bool) (q : List Fl) (L : Nat) : blk (workL tk en q L).fin + blk (workL tk en q L).rest = blk q := by
  have h := congrArg List.sum (workL_paths tk en q L).2
  rw [List.sum_append] at h
  exact h.symm
theorem BndI.tick {B h fr : Nat} {s : Ln} (I : BndI B h fr s) {ns : List Fl} (hp : ns.Perm (tickFin s h)) : BndI B h fr (tickS s h ns) := by
  have a := workL_ok (s.clock + 1) true s.en h I.oe
  have b := workL_ok (s.clock + 1) false s.sc ((tickA s h).left + h) I.os
  refine ⟨a.1, fun f hf => ?_, ?_, Nat.le_succ_of_le I.ck⟩
  · rcases List.mem_append.1 hf with h1 | h1
    · exact b.1 f h1
    · rcases List.mem_append.1 (hp.mem_iff.1 h1) with h2 | h2
      · exact a.2.1 f h2
      · exact b.2.1 f h2
  · have h1 := blk_work (s.clock + 1) true s.en h
    have h2 := blk_work (s.clock + 1) false s.sc ((tickA s h).left + h)
    have h3 := blk_perm hp
    unfold tickFin at h3
    rw [blk_app] at h3
    show blk (tickA s h).rest + blk ((tickB s h).rest ++ ns) = B
    rw [blk_app]
    have := I.tot
    unfold tickB at *
    unfold tickA at *
    omega
/-- A file that has just been finished. -/
theorem FileI.fresh {B h fr : Nat} {s : Ln} (I : BndI B h fr s) {ns : List Fl} (hp : ns.Perm (tickFin s h)) {p : S8} {bl d0 t : Nat} {C : S8 → Nat → Bool} {g : Fl} (hg : g ∈ tickFin s h) (g1 : g.path = p) (g2 : g.blocks = bl) (g3 : g.done = 0) (g4 : g.tick = s.clock + 1)
    (hd : d0 ≤ bl) (hc : ∀ j, d0 ≤ j → j < bl → C p j = true) (ht : 0 < d0 → t * h ≤ bl - d0) : FileI B h fr p bl d0 (t + 1) (tickS s h ns) C := by
  have hm : g ∈ (tickS s h ns).sc := List.mem_append_right _ (hp.mem_iff.2 hg)
  obtain ⟨i, hi⟩ := List.mem_iff_getElem?.1 hm
  refine .inr ⟨i, g, hi, g1, g2, by omega, by have := I.ck; omega, hc, ?_⟩
  by_cases h0 : d0 = 0
  · exact .inl fun j hj => by omega
  · refine .inr ⟨by omega, fun j hj => by omega, ?_⟩
    have h1 := remL_take hi
    have h2 := (I.tick hp).tot
    have h3 := ht (by omega)
    have h4 : (t + 1) * h = t * h + h := by rw [Nat.add_mul, Nat.one_mul]
    unfold needQ
    omega
theorem FileI.tick {B h fr : Nat} {s : Ln} (I : BndI B h fr s) {ns : List Fl} (hp : ns.Perm (tickFin s h)) {p : S8} {bl d0 t : Nat} {C : S8 → Nat → Bool} (hd : d0 ≤ bl) (F : FileI B h fr p bl d0 t s C) :
    FileI B h fr p bl d0 (t + 1) (tickS s h ns) (fun q j => C q j || covW (tickOut s h) q j) := by
  have h4 : (t + 1) * h = t * h + h := by rw [Nat.add_mul, Nat.one_mul]
  have cl : ∀ {q : S8} {j : Nat}, C q j = true → (C q j || covW (tickOut s h) q j) = true := fun e => by rw [e]; rfl
  have ca : ∀ {q : S8} {j : Nat}, covW (tickA s h).out q j = true → (C q j || covW (tickOut s h) q j) = true := fun e => by unfold tickOut; rw [covW_app, e]; simp
  have cb : ∀ {q : S8} {j : Nat}, covW (tickB s h).out q j = true → (C q j || covW (tickOut s h) q j) = true := fun e => by unfold tickOut; rw [covW_app, e]; simp
  rcases F with ⟨l, hl, i, f, hf, rfl, rfl, f1, f2, f3, f4, f5⟩ | ⟨i, g, hg, rfl, rfl, g1, g2, g3, g4⟩
  · rcases hl with rfl | rfl
    · obtain ⟨a1, a2⟩ := work_need (s.clock + 1) true s.en I.oe h i f f.blocks hf f2 (Nat.le_refl _)
      by_cases hn : needQ s.en i f f.blocks ≤ h
      · obtain ⟨b1, b2⟩ := a1 hn
        obtain ⟨g, hg, k1, k2, k3, k4⟩ := b2 rfl
        refine FileI.fresh I hp (List.mem_append_left _ hg) k1 k2 k3 k4 hd (fun j j1 j2 => ?_) (fun h0 => by have := f5 h0; omega)
        by_cases hj : j < f.done
        · exact cl (f3 j j1 hj)
        · exact ca (b1 j (by omega) j2)
      · obtain ⟨i', f', b1, b2, b3, b4, b5, b6, b7, b8⟩ := a2 (by omega)
        refine .inl ⟨_, .inl rfl, i', f', b1, b2, b3, by omega, b6, fun j j1 j2 => ?_, ?_, fun h0 => ?_⟩
        · by_cases hj : j < f.done
          · exact cl (f3 j j1 hj)
          · exact ca (b8 j (by omega) j2)
        · show needQ (tickA s h).rest i' f' f.blocks + (t + 1) * h ≤ B
          unfold tickA
          omega
        · have := f5 h0
          show needQ (tickA s h).rest i' f' f.blocks + (t + 1) * h ≤ _
          unfold tickA
          omega
    · obtain ⟨a1, a2⟩ := work_need (s.clock + 1) false s.sc I.os ((tickA s h).left + h) i f f.blocks hf f2 (Nat.le_refl _)
      by_cases hn : needQ s.sc i f f.blocks ≤ (tickA s h).left + h
      · obtain ⟨b1, b2⟩ := a1 hn
        obtain ⟨g, hg, k1, k2, k3, k4⟩ := b2 rfl
        refine FileI.fresh I hp (List.mem_append_right _ hg) k1 k2 k3 k4 hd (fun j j1 j2 => ?_) (fun h0 => by have := f5 h0; omega)
        by_cases hj : j < f.done
        · exact cl (f3 j j1 hj)
        · exact cb (b1 j (by omega) j2)
      · obtain ⟨i', f', b1, b2, b3, b4, b5, b6, b7, b8⟩ := a2 (by omega)
        have hlt : i' < (tickB s h).rest.length := (List.getElem?_eq_some_iff.1 b1).1
        have e1 : (tickS s h ns).sc[i']? = some f' := by
          show ((tickB s h).rest ++ ns)[i']? = _
          rw [List.getElem?_append_left hlt]
          exact b1
        have e2 : needQ (tickS s h ns).sc i' f' f.blocks = needQ (tickB s h).rest i' f' f.blocks := by
          unfold needQ
          show remL (((tickB s h).rest ++ ns).take i') + _ = _
          rw [List.take_append_of_le_length (Nat.le_of_lt hlt)]
        refine .inl ⟨_, .inr rfl, i', f', e1, b2, b3, by omega, b6, fun j j1 j2 => ?_, ?_, fun h0 => ?_⟩
        · by_cases hj : j < f.done
          · exact cl (f3 j j1 hj)
          · exact cb (b8 j (by omega) j2)
        · rw [e2]; unfold tickB; omega
        · have := f5 h0
          rw [e2]; unfold tickB; omega
  · -- the file in the scrub lane, wherever it is behind this tick
    obtain ⟨a1, a2⟩ := work_need (s.clock + 1) false s.sc I.os ((tickA s h).left + h) i g g.blocks hg g1 (Nat.le_refl _)
    have hloc : ∃ (i' : Nat) (g' : Fl), (tickS s h ns).sc[i']? = some g' ∧ g'.path = g.path ∧ g'.blocks = g.blocks ∧ g'.done ≤ g.blocks ∧ fr < g'.tick := by
      by_cases hn : needQ s.sc i g g.blocks ≤ (tickA s h).left + h
      · obtain ⟨-, b2⟩ := a1 hn
        obtain ⟨g', hg', k1, k2, k3, k4⟩ := b2 rfl
        obtain ⟨i', hi'⟩ := List.mem_iff_getElem?.1 (show g' ∈ (tickS s h ns).sc from List.mem_append_right _ (hp.mem_iff.2 (List.mem_append_right _ hg')))
        exact ⟨i', g', hi', k1, k2, by omega, by have := I.ck; omega⟩
      · obtain ⟨i', f', b1, b2, b3, b4, b5, b6, b7, b8⟩ := a2 (by omega)
        have hlt : i' < (tickB s h).rest.length := (List.getElem?_eq_some_iff.1 b1).1
        refine ⟨i', f', ?_, b2, b3, b6, by omega⟩
        show ((tickB s h).rest ++ ns)[i']? = _
        rw [List.getElem?_append_left hlt]
        exact b1
    have hrest : ∀ j, d0 ≤ j → j < g.blocks → (C g.path j || covW (tickOut s h) g.path j) = true := fun j j1 j2 => cl (g3 j j1 j2)
    rcases g4 with g4 | ⟨k1, k2, k3⟩
    · obtain ⟨i', g', e1, e2, e3, e4, e5⟩ := hloc
      exact .inr ⟨i', g', e1, e2, e3, e4, e5, hrest, .inl fun j hj => cl (g4 j hj)⟩
    · obtain ⟨c1, c2⟩ := work_need (s.clock + 1) false s.sc I.os ((tickA s h).left + h) i g d0 hg k1 hd
      by_cases hn : needQ s.sc i g d0 ≤ (tickA s h).left + h
      · obtain ⟨i', g', e1, e2, e3, e4, e5⟩ := hloc
        refine .inr ⟨i', g', e1, e2, e3, e4, e5, hrest, .inl fun j hj => ?_⟩
        by_cases hj2 : j < g.done
        · exact cl (k2 j hj2)
        · exact cb ((c1 hn).1 j (by omega) hj)
      · obtain ⟨i', f', b1, b2, b3, b4, b5, b6, b7, b8⟩ := c2 (by omega)
        have hlt : i' < (tickB s h).rest.length := (List.getElem?_eq_some_iff.1 b1).1
        have e1 : (tickS s h ns).sc[i']? = some f' := by
          show ((tickB s h).rest ++ ns)[i']? = _
          rw [List.getElem?_append_left hlt]
          exact b1
        have e2 : needQ (tickS s h ns).sc i' f' d0 = needQ (tickB s h).rest i' f' d0 := by
          unfold needQ
          show remL (((tickB s h).rest ++ ns).take i') + _ = _
          rw [List.take_append_of_le_length (Nat.le_of_lt hlt)]
        refine .inr ⟨i', f', e1, b2, b3, by omega, by omega, hrest, .inr ⟨b6, fun j hj => ?_, ?_⟩⟩
        · by_cases hj2 : j < g.done
          · exact cl (k2 j hj2)
          · exact cb (b8 j (by omega) hj)
        · rw [e2]; unfold tickB; omega
/-- Behind the last tick. -/
theorem FileI.done {B h fr : Nat} {p : S8} {bl d0 t : Nat} {s : Ln} {C : S8 → Nat → Bool} (F : FileI B h fr p bl d0 t s C) (hh : 1 ≤ h) (ht : B + 2 * h ≤ t * h) : (∃ g ∈ s.sc, g.path = p ∧ fr < g.tick) ∧ ∀ j, j < bl → C p j = true := by
  rcases F with ⟨l, hl, i, f, -, -, -, -, -, -, f4, -⟩ | ⟨i, g, hg, g0, -, -, g2, g3, g4⟩
  · omega
  · refine ⟨⟨g, List.mem_of_getElem? hg, g0, g2⟩, fun j hj => ?_⟩
    by_cases h1 : d0 ≤ j
    · exact g3 j h1 hj
    · rcases g4 with g4 | ⟨-, -, k3⟩
      · exact g4 j (by omega)
      · omega
end Go.Proofs.YtcgilacmdckbfaaDoor
/- LaneBound, in plain terms: what the calls ahead of the ticks keep. -/
set_option maxRecDepth 100000
namespace Go.Proofs.YtcgilacmdckbfaaDoor
open Go

/-- Only the first file of a lane may be done in part. -/
def HeadO (l : List Fl) : Prop := ∀ f ∈ l.tail, f.done = 0
theorem HeadO.at {l : List Fl} (h : HeadO l) {i : Nat} {f : Fl} (hf : l[i]? = some f) (hd : 0 < f.done) : i = 0 := by
  cases i with
  | zero => rfl
  | succ i =>
    cases l with
    | nil => simp at hf
    | cons a l =>
      have h1 : l[i]? = some f := by simpa using hf
      have := h f (List.mem_of_getElem? h1)
      omega
theorem HeadO.filter {l : List Fl} (h : HeadO l) (g : Fl → Bool) : HeadO (l.filter g) := by
  cases l with
  | nil => intro f hf; cases hf
  | cons a l =>
    have h' : ∀ f ∈ l, f.done = 0 := h
    intro f hf
    rw [List.filter_cons] at hf
    split at hf
    · exact h' f (List.mem_filter.1 hf).1
    · exact h' f (List.mem_filter.1 (List.mem_of_mem_tail hf)).1
theorem HeadO.app {l m : List Fl} (h : HeadO l) (hm : ∀ f ∈ m, f.done = 0) : HeadO (l ++ m) := by
  intro f hf
  cases l with
  | nil => exact hm f (List.mem_of_mem_tail hf)
  | cons a l =>
    rcases List.mem_append.1 (show f ∈ l ++ m from hf) with h1 | h1
    · exact h f h1
    · exact hm f h1
theorem HeadO.work {tk : Nat} {en : Bool} {q : List Fl} {L : Nat} (h : HeadO q) : HeadO (workL tk en q L).rest := by
  induction q generalizing L with
  | nil => exact h
  | cons a q ih =>
    have hq : ∀ f ∈ q, f.done = 0 := h
    simp only [workL]
    split
    · split
      · exact ih (fun f hf => hq f (List.mem_of_mem_tail hf))
      · exact hq
    · exact h
theorem fin_zero (tk : Nat) (en : Bool) (q : List Fl) (L : Nat) : ∀ f ∈ (workL tk en q L).fin, f.done = 0 := fun f hf => ((workL_rest tk en q L).2 f hf).2
/-- Paths and blocks. -/
def pbL (l : List Fl) : List (S8 × Nat) := l.map fun f => (f.path, f.blocks)
theorem pb_work (tk : Nat) (en : Bool) (q : List Fl) (L : Nat) : pbL q = pbL ((workL tk en q L).fin ++ (workL tk en q L).rest) := by
  induction q generalizing L with
  | nil => rfl
  | cons f q ih =>
    simp only [workL]
    split
    · split
      · have := ih (L - (f.blocks - f.done))
        unfold pbL at this ⊢
        rw [List.map_cons, this]
        rfl
      · rfl
    · rfl
theorem pb_tick (s : Ln) (h : Nat) {ns : List Fl} (hp : ns.Perm (tickFin s h)) : (pbL ((tickS s h ns).en ++ (tickS s h ns).sc)).Perm (pbL (s.en ++ s.sc)) := by
  have h1 := pb_work (s.clock + 1) true s.en h
  have h2 := pb_work (s.clock + 1) false s.sc ((tickA s h).left + h)
  have e : (pbL (s.en ++ s.sc)).Perm (pbL (((tickA s h).fin ++ (tickA s h).rest) ++ ((tickB s h).fin ++ (tickB s h).rest))) := by
    unfold pbL at h1 h2 ⊢
    rw [List.map_append, h1, h2, ← List.map_append]
    exact List.Perm.refl _
  refine List.Perm.trans ?_ e.symm
  refine List.Perm.map _ ?_
  show ((tickA s h).rest ++ ((tickB s h).rest ++ ns)).Perm _
  refine ((hp.append_left _).append_left _).trans ?_
  unfold tickFin
  generalize (tickA s h).rest = A
  generalize (tickB s h).rest = B
  generalize (tickA s h).fin = C
  generalize (tickB s h).fin = D
  have p1 : (A ++ (B ++ (C ++ D))).Perm (A ++ (C ++ (D ++ B))) := List.Perm.append_left A (List.perm_append_comm.trans (List.Perm.of_eq (by rw [List.append_assoc])))
  refine p1.trans ?_
  rw [← List.append_assoc A C]
  exact List.Perm.append_right (D ++ B) List.perm_append_comm
/-- After k calls. -/
structure LbI (s : Ln) (k : Nat) : Prop where
  nd : okLn s
  oe : okL s.en
  os : okL s.sc
  he : HeadO s.en
  hs : HeadO s.sc
  len : s.en.length + s.sc.length ≤ k
  ck : s.clock ≤ k
theorem LbI.zero : LbI ln0 0 := ⟨List.nodup_nil, (fun f hf => by cases hf), (fun f hf => by cases hf), (fun f hf => by cases hf), (fun f hf => by cases hf), Nat.le_refl _, Nat.le_refl _⟩
theorem LbI.more {s : Ln} {k : Nat} (h : LbI s k) : LbI s (k + 1) := ⟨h.nd, h.oe, h.os, h.he, h.hs, Nat.le_succ_of_le h.len, Nat.le_succ_of_le h.ck⟩
theorem drop_app (a b : List Fl) (p : S8) : dropF (a ++ b) p = dropF a p ++ dropF b p := by unfold dropF; rw [List.filter_append]
theorem LbI.drop {s : Ln} {k : Nat} (h : LbI s k) (p : S8) : LbI (dropS s p) k := by
  refine ⟨?_, fun f hf => h.oe f (List.mem_filter.1 hf).1, fun f hf => h.os f (List.mem_filter.1 hf).1, h.he.filter _, h.hs.filter _, ?_, h.ck⟩
  · show ((dropF s.en p ++ dropF s.sc p).map (·.path)).Nodup
    rw [← drop_app]
    exact List.Nodup.sublist (List.filter_sublist.map _) h.nd
  · have h1 := List.length_filter_le (fun f : Fl => decide (f.path ≠ p)) s.en
    have h2 := List.length_filter_le (fun f : Fl => decide (f.path ≠ p)) s.sc
    have h3 := h.len
    show (dropF s.en p).length + (dropF s.sc p).length ≤ k
    unfold dropF
    omega
theorem put_pb {s : Ln} {p : S8} {n : Int} (hc : putC p n = 0) : ((putS s p n).en ++ (putS s p n).sc).Perm ((⟨p, n.toNat, 0, 0⟩ : Fl) :: dropF (s.en ++ s.sc) p) := by
  unfold putS
  rw [if_pos hc, drop_app]
  show ((dropF s.en p ++ ([⟨p, n.toNat, 0, 0⟩] : List Fl)) ++ dropF s.sc p).Perm _
  rw [List.append_assoc]
  exact List.perm_middle
theorem LbI.put {s : Ln} {k : Nat} (h : LbI s k) (p : S8) (n : Int) : LbI (putS s p n) (k + 1) := by
  by_cases hc : putC p n = 0
  · have hn : 0 ≤ n ∧ n ≤ 64 := by
      unfold putC at hc
      split at hc
      · cases hc
      · split at hc
        · cases hc
        · omega
    have hd := h.drop p
    have hpm := put_pb (s := s) hc
    have e : putS s p n = ⟨s.clock, dropF s.en p ++ [⟨p, n.toNat, 0, 0⟩], dropF s.sc p⟩ := by unfold putS; rw [if_pos hc]
    refine ⟨?_, ?_, ?_, ?_, ?_, ?_, ?_⟩
    · unfold okLn
      rw [(hpm.map (·.path)).nodup_iff, List.map_cons, List.nodup_cons]
      refine ⟨fun hm => ?_, List.Nodup.sublist (List.filter_sublist.map _) h.nd⟩
      obtain ⟨f, hf, e⟩ := List.mem_map.1 hm
      exact of_decide_eq_true (List.mem_filter.1 hf).2 e
    · rw [e]
      intro f hf
      rcases List.mem_append.1 hf with h1 | h1
      · exact hd.oe f h1
      · obtain rfl : f = ⟨p, n.toNat, 0, 0⟩ := by simpa using h1
        exact ⟨Nat.zero_le _, by show n.toNat ≤ 64; omega⟩
    · rw [e]; exact hd.os
    · rw [e]; exact hd.he.app (fun f hf => by obtain rfl : f = ⟨p, n.toNat, 0, 0⟩ := by simpa using hf
                                              rfl)
    · rw [e]; exact hd.hs
    · have h1 := hd.len
      rw [e]
      show (dropF s.en p ++ _).length + (dropF s.sc p).length ≤ _
      rw [List.length_append]
      have h2 : (dropF s.en p).length + (dropF s.sc p).length ≤ k := h1
      simp only [List.length_singleton]
      omega
    · rw [e]; exact Nat.le_succ_of_le h.ck
  · unfold putS
    rw [if_neg hc]
    exact h.more
theorem LbI.tick {s : Ln} {k : Nat} (I : LbI s k) (h : Nat) {ns : List Fl} (hp : ns.Perm (tickFin s h)) : LbI (tickS s h ns) (k + 1) := by
  have hpb := pb_tick s h hp
  have hb : BndI (blk s.en + blk s.sc) h s.clock s := ⟨I.oe, I.os, rfl, Nat.le_refl _⟩
  have hb' := hb.tick hp
  refine ⟨?_, hb'.oe, hb'.os, I.he.work, I.hs.work.app (fun f hf => ?_), ?_, Nat.succ_le_succ I.ck⟩
  · have h1 := hpb.map (·.1)
    unfold pbL at h1
    rw [List.map_map, List.map_map] at h1
    exact (h1.nodup_iff).2 I.nd
  · rcases List.mem_append.1 (hp.mem_iff.1 hf) with h1 | h1
    · exact fin_zero _ _ _ _ f h1
    · exact fin_zero _ _ _ _ f h1
  · have h1 := hpb.length_eq
    unfold pbL at h1
    rw [List.length_map, List.length_map, List.length_append, List.length_append] at h1
    have := I.len
    omega
/-- Each file, as the ticks begin. -/
theorem LbI.start {s : Ln} {k h : Nat} (I : LbI s k) {f : Fl} (hf : f ∈ s.en ++ s.sc) : FileI (blk s.en + blk s.sc) h s.clock f.path f.blocks f.done 0 s (fun _ _ => false) := by
  have go : ∀ l, (l = s.en ∨ l = s.sc) → HeadO l → okL l → f ∈ l → FileI (blk s.en + blk s.sc) h s.clock f.path f.blocks f.done 0 s (fun _ _ => false) := fun l hl hh ho hm => by
    obtain ⟨i, hi⟩ := List.mem_iff_getElem?.1 hm
    have h1 := remL_take hi
    have h2 := (ho f hm).1
    have h3 : blk l ≤ blk s.en + blk s.sc := by rcases hl with rfl | rfl <;> omega
    refine .inl ⟨l, hl, i, f, hi, rfl, rfl, Nat.le_refl _, h2, fun j j1 j2 => absurd j2 (Nat.not_lt.2 j1), ?_, fun hd => ?_⟩
    · unfold needQ; omega
    · have := hh.at hi hd
      subst this
      unfold needQ
      rw [List.take_zero]
      show 0 + (f.blocks - f.done) + 0 * h ≤ _
      omega
  rcases List.mem_append.1 hf with h1 | h1
  · exact go s.en (.inl rfl) I.he I.oe h1
  · exact go s.sc (.inr rfl) I.hs I.os h1
end Go.Proofs.YtcgilacmdckbfaaDoor
/- Maps from strings in memory: a block holds a map whose entries, in whatever order they lie, are these. -/
set_option maxRecDepth 100000
namespace Go.Proofs.YtcgilacmdckbfaaDoor
open Go Go.RowKit Go.MapKept
open Go.ChangeMaps (setBlock)

/-- What a list of keys and values has at a key. -/
def findV (l : List (S8 × Value)) (p : S8) : Option Value := (l.find? fun x => x.1 == p).map (·.2)
def delV (l : List (S8 × Value)) (p : S8) : List (S8 × Value) := l.filter fun x => x.1 != p
def putV (l : List (S8 × Value)) (p : S8) (v : Value) : List (S8 × Value) := (p, v) :: delV l p
def kvE (e : MapEntry) : Value × Value := (e.key, e.val)
def kvS (p : S8 × Value) : Value × Value := (.string (mkS p.1), p.2)
structure MpOk (es : Array MapEntry) (clock : Nat) (l : List (S8 × Value)) : Prop where
  st : Stamped es clock
  kv : (es.toList.map kvE).Perm (l.map kvS)
/-- Block b is a map of these. -/
def MpB (w : World) (b : Nat) (l : List (S8 × Value)) : Prop := ∃ es clock, w.heap[b]? = some (.map es clock) ∧ MpOk es clock l
theorem keyV_inj {a b : S8} : (Value.string (mkS a) = Value.string (mkS b)) ↔ a = b := by
  rw [Value.string.injEq, mkS_inj]
section
variable {es : Array MapEntry} {clock : Nat} {l : List (S8 × Value)}
theorem MpOk.born (h : MpOk es clock l) : (es.toList.map (·.born)).Nodup := ((stamped_iff es clock).1 h.st).2.1
theorem MpOk.apart (h : MpOk es clock l) : es.toList.Pairwise (fun x y => x.key ≠ y.key) := ((stamped_iff es clock).1 h.st).2.2
theorem MpOk.of_perm (h : MpOk es clock l) {l' : List (S8 × Value)} (hp : l.Perm l') : MpOk es clock l' := ⟨h.st, h.kv.trans (hp.map _)⟩
theorem MpOk.mem (h : MpOk es clock l) {e : MapEntry} (he : e ∈ es.toList) : ∃ p v, (p, v) ∈ l ∧ e.key = .string (mkS p) ∧ e.val = v := by
  have : kvE e ∈ l.map kvS := h.kv.mem_iff.1 (List.mem_map.2 ⟨e, he, rfl⟩)
  obtain ⟨x, hx, e2⟩ := List.mem_map.1 this
  rw [kvS, kvE, Prod.mk.injEq] at e2
  exact ⟨x.1, x.2, hx, e2.1.symm, e2.2.symm⟩
theorem MpOk.size (h : MpOk es clock l) : es.size = l.length := by
  have := h.kv.length_eq
  simpa using this
theorem MpOk.keys (h : MpOk es clock l) : (l.map (·.1)).Nodup := by
  have h1 : ((es.toList.map kvE).map (·.1)).Nodup := by
    rw [List.map_map]
    show (es.toList.map (·.key)).Nodup
    rw [List.Nodup, List.pairwise_map]
    exact h.apart
  have h2 : ((l.map kvS).map (·.1)).Nodup := ((h.kv.map (·.1)).nodup_iff).1 h1
  rw [List.map_map] at h2
  rw [List.Nodup, List.pairwise_map] at h2 ⊢
  exact h2.imp fun hne e => hne (by show Value.string _ = Value.string _; rw [e])
theorem MpOk.isKey (h : MpOk es clock l) : ∀ x ∈ es.toList, IsKey .string x.key := fun x hx => by
  obtain ⟨p, v, _, e, _⟩ := h.mem hx
  rw [e]
  trivial
end
theorem findV_mem {l : List (S8 × Value)} (hk : (l.map (·.1)).Nodup) {p : S8} {v : Value} (h : (p, v) ∈ l) : findV l p = some v := by
  unfold findV
  induction l with
  | nil => exact absurd h (by simp)
  | cons x r ih =>
    rw [List.map_cons, List.nodup_cons] at hk
    rw [List.find?_cons]
    rcases List.mem_cons.1 h with h1 | h1
    · rw [← h1]
      simp
    · have : (x.1 == p) = false := by
        rw [beq_eq_false_iff_ne]
        intro e
        exact hk.1 (by rw [e]; exact List.mem_map.2 ⟨_, h1, rfl⟩)
      rw [this]
      exact ih hk.2 h1
theorem findV_none {l : List (S8 × Value)} {p : S8} (h : ∀ x ∈ l, x.1 ≠ p) : findV l p = none := by
  unfold findV
  rw [List.find?_eq_none.2 (fun x hx => by simpa using h x hx)]
  rfl
section
variable {w w' : World} {b : Nat} {l : List (S8 × Value)}
theorem MpB.lt (h : MpB w b l) : b < w.heap.size := by
  obtain ⟨es, clock, hb, _⟩ := h
  exact (Array.getElem?_eq_some_iff.1 hb).1
theorem MpB.keep (h : MpB w b l) (hk : w'.heap[b]? = w.heap[b]?) : MpB w' b l := by
  obtain ⟨es, clock, hb, r⟩ := h
  exact ⟨es, clock, by rw [hk]; exact hb, r⟩
theorem MpB.of_below (h : MpB w b l) (hB : Below w.heap.size w w') : MpB w' b l := h.keep (hB.block b h.lt)
theorem MpB.of_perm (h : MpB w b l) {l' : List (S8 × Value)} (hp : l.Perm l') : MpB w b l' := by
  obtain ⟨es, clock, hb, r⟩ := h
  exact ⟨es, clock, hb, r.of_perm hp⟩
theorem MpB.keys (h : MpB w b l) : (l.map (·.1)).Nodup := by
  obtain ⟨es, clock, hb, r⟩ := h
  exact r.keys
theorem MpB.made (w : World) : MpB (w.alloc (.map #[] 0)) w.heap.size [] := ⟨#[], 0, World.alloc_heap_new w _, stamped_empty 0, by simp⟩
end
theorem setB_at {w : World} {b : Nat} {o : Obj} (h : b < w.heap.size) : (setBlock w b o).heap[b]? = some o := by simp [setBlock, h]
theorem setB_else {w : World} {b k : Nat} {o : Obj} (h : k ≠ b) : (setBlock w b o).heap[k]? = w.heap[k]? := by simp [setBlock, Array.getElem?_setIfInBounds, Ne.symm h]
theorem setB_size {w : World} {b : Nat} {o : Obj} : (setBlock w b o).heap.size = w.heap.size := by simp [setBlock]
theorem setB_grown {w : World} {b : Nat} {o : Obj} : w.grownBy (setBlock w b o) (some b) := ⟨rfl, rfl, rfl, by rw [setB_size]; exact Nat.le_refl _, fun k hk hne => setB_else (fun e => hne (by rw [e]))⟩
section
variable {P : Program} {T K E : TypeId} (hT : P.underlying T = some (.map K E)) (hK : P.underlying K = some .string)
variable {w : World} {b : Nat} {l : List (S8 × Value)}
include hT hK
theorem run_lookup8 {z : Value} (hz : (zeroValue E).run P w = .ok z w) (h : MpB w b l) (p : S8) (c : Bool) :
    (Instr.lookup T (.map (some b)) (.string (mkS p)) c).run P w = .ok (if c then .tuple #[(findV l p).getD z, .bool (findV l p).isSome] else (findV l p).getD z) w := by
  obtain ⟨es, clock, hb, r⟩ := h
  have hkey : IsKey .string (.string (mkS p)) := trivial
  rcases findNow_spec hkey es.toList 0 r.isKey with ⟨h1, h2⟩ | ⟨j, e, h1, h2, h3⟩
  · have hf : findV l p = none := findV_none fun x hx e => by
      have : kvS x ∈ es.toList.map kvE := r.kv.mem_iff.2 (List.mem_map.2 ⟨x, hx, rfl⟩)
      obtain ⟨y, hy, e2⟩ := List.mem_map.1 this
      rw [kvS, kvE, Prod.mk.injEq] at e2
      exact h2 y hy (by rw [e2.1, e])
    rw [hf]
    simp [Instr.lookup, run_underlying hT, MapKept.run_getObj_map hb, run_checkKey hK hkey, run_findKey hK h1, hz, Result.andThen]
  · have hm : e ∈ es.toList := List.mem_of_getElem? h2
    obtain ⟨q, v, hq, e1, e2⟩ := r.mem hm
    have hqp : q = p := keyV_inj.1 (by rw [← e1, h3])
    subst hqp
    have hf : findV l q = some e.val := by rw [e2]; exact findV_mem r.keys hq
    rw [hf]
    simp [Instr.lookup, run_underlying hT, MapKept.run_getObj_map hb, run_checkKey hK hkey, run_findKey hK h1, Result.andThen]
theorem run_update8 (h : MpB w b l) (p : S8) (v : Value) : ∃ w', (Instr.mapUpdate T (.map (some b)) (.string (mkS p)) v).run P w = .ok () w' ∧ MpB w' b (putV l p v) ∧ w.grownBy w' (some b) ∧ w'.heap.size = w.heap.size := by
  classical
  have hlt := h.lt
  obtain ⟨es, clock, hb, r⟩ := h
  have hkey : IsKey .string (.string (mkS p)) := trivial
  rcases findNow_spec hkey es.toList 0 r.isKey with ⟨h1, h2⟩ | ⟨j, e, h1, h2, h3⟩
  · refine ⟨setBlock w b (.map (es.push { key := .string (mkS p), val := v, born := clock }) (clock + 1)), ?_, ⟨_, _, setB_at hlt, stamped_push r.st h2, ?_⟩, setB_grown, setB_size⟩
    · simp [Instr.mapUpdate, run_underlying hT, MapKept.run_getObj_map hb, run_checkKey hK hkey, run_findKey hK h1, MapKept.run_setObj_map _ hb, Result.andThen, setBlock]
    · have hd : delV l p = l := by
        unfold delV
        rw [List.filter_eq_self]
        intro x hx
        have : kvS x ∈ es.toList.map kvE := r.kv.mem_iff.2 (List.mem_map.2 ⟨x, hx, rfl⟩)
        obtain ⟨y, hy, e2⟩ := List.mem_map.1 this
        rw [kvS, kvE, Prod.mk.injEq] at e2
        simp only [bne_iff_ne, ne_eq]
        intro e3
        exact h2 y hy (by rw [e2.1, e3])
      rw [Array.toList_push, List.map_append, putV, hd, List.map_cons]
      refine List.Perm.trans ?_ (List.perm_append_singleton _ _)
      exact r.kv.append (List.Perm.refl _)
  · have hj : es[j]? = some e := by simpa using h2
    have hjl : j < es.toList.length := (List.getElem?_eq_some_iff.1 h2).1
    have hkf : ∀ e', es[j]? = some e' → ({ e' with key := .string (mkS p), val := v } : MapEntry).key = e'.key := fun e' he' => by rw [hj] at he'; cases he'; exact h3.symm
    have hlist : (es.modify j (fun e' => { e' with key := .string (mkS p), val := v })).toList = es.toList.set j { e with key := .string (mkS p), val := v } := by
      apply List.ext_getElem?
      intro i
      rw [Array.getElem?_toList, Array.getElem?_modify, List.getElem?_set]
      by_cases hi : j = i
      · subst hi
        rw [if_pos rfl, if_pos rfl, hj]
        simp at hjl
        simp [hjl]
      · rw [if_neg hi, if_neg hi, Array.getElem?_toList]
    refine ⟨setBlock w b (.map (es.modify j fun e' => { e' with key := .string (mkS p), val := v }) clock), ?_, ⟨_, _, setB_at hlt, stamped_modify r.st _ _ (fun _ _ => rfl) (fun e' _ he' => hkf e' he'), ?_⟩, setB_grown, setB_size⟩
    · simp [Instr.mapUpdate, run_underlying hT, MapKept.run_getObj_map hb, run_checkKey hK hkey, run_findKey hK h1, hj, h3, run_keyThatStays hkey, MapKept.run_setObj_map _ hb, Result.andThen, setBlock]
    · rw [hlist]
      have q1 : (es.toList.set j { e with key := .string (mkS p), val := v }).Perm ({ e with key := .string (mkS p), val := v } :: es.toList.eraseIdx j) := by
        exact ChangeMaps.set_perm _ _ hjl _
      have q2 : es.toList.Perm (e :: es.toList.eraseIdx j) := by
        have q5 := ChangeMaps.set_perm es.toList j hjl e
        have q6 : es.toList.set j e = es.toList := by
          rw [List.getElem?_eq_getElem hjl] at h2
          injection h2 with h2
          rw [← h2, List.set_getElem_self]
        rw [q6] at q5
        exact q5
      refine ((q1.map kvE).trans ?_)
      rw [List.map_cons, putV, List.map_cons]
      refine List.Perm.cons _ ?_
      have q3 : ((e :: es.toList.eraseIdx j).map kvE).Perm (l.map kvS) := (q2.symm.map kvE).trans r.kv
      have q4 := q3.filter (fun x => decide (x.1 ≠ Value.string (mkS p)))
      have a1 : (es.toList.eraseIdx j).Pairwise (fun x y => x.key ≠ y.key) ∧ ∀ x ∈ es.toList.eraseIdx j, e.key ≠ x.key := by
        have := (q2.pairwise_iff (R := fun x y : MapEntry => x.key ≠ y.key) (fun {a b} h => Ne.symm h)).1 r.apart
        rw [List.pairwise_cons] at this
        exact ⟨this.2, this.1⟩
      rw [List.map_cons, List.filter_cons_of_neg (by simp [kvE, h3]), List.filter_eq_self.2 (fun x hx => by
        obtain ⟨y, hy, rfl⟩ := List.mem_map.1 hx
        simp only [decide_eq_true_eq]
        intro e3
        exact a1.2 y hy (by rw [h3]; exact e3.symm))] at q4
      refine q4.trans ?_
      rw [List.filter_map]
      refine (List.Perm.of_eq ?_).map kvS
      unfold delV
      refine List.filter_congr fun x _ => ?_
      simp only [Function.comp, kvS]
      rw [Bool.eq_iff_iff]
      simp [mkS_inj]
theorem run_delete8 {ty : TypeId} (h : MpB w b l) (p : S8) : ∃ w', (Builtin.delete_ #[T, K] ty #[.map (some b), .string (mkS p)]).run P w = .ok (.tuple #[]) w' ∧ MpB w' b (delV l p) ∧ w.grownBy w' (some b) ∧ w'.heap.size = w.heap.size := by
  classical
  have hlt := h.lt
  obtain ⟨es, clock, hb, r⟩ := h
  have hkey : IsKey .string (.string (mkS p)) := trivial
  have q0 : ((es.toList.map kvE).filter (fun x => decide (x.1 ≠ Value.string (mkS p)))).Perm ((delV l p).map kvS) := by
    refine (r.kv.filter _).trans ?_
    rw [List.filter_map]
    refine (List.Perm.of_eq ?_).map kvS
    unfold delV
    refine List.filter_congr fun x _ => ?_
    simp only [Function.comp, kvS]
    rw [Bool.eq_iff_iff]
    simp [mkS_inj]
  rcases findNow_spec hkey es.toList 0 r.isKey with ⟨h1, h2⟩ | ⟨j, e, h1, h2, h3⟩
  · refine ⟨setBlock w b (.map es clock), ?_, ⟨_, _, setB_at hlt, r.st, ?_⟩, setB_grown, setB_size⟩
    · simp [Builtin.delete_, run_underlying hT, MapKept.run_getObj_map hb, run_checkKey hK hkey, run_findKey hK h1, MapKept.run_setObj_map _ hb, Result.andThen, setBlock]
    · rw [List.filter_eq_self.2 (fun x hx => by
        obtain ⟨y, hy, rfl⟩ := List.mem_map.1 hx
        simp only [decide_eq_true_eq]
        exact h2 y hy)] at q0
      exact q0
  · have hjl : j < es.toList.length := (List.getElem?_eq_some_iff.1 h2).1
    have hjs : j < es.size := by simpa using hjl
    have hsub : (es.eraseIdxIfInBounds j).toList = es.toList.eraseIdx j := by
      unfold Array.eraseIdxIfInBounds
      rw [dif_pos hjs]
      simp
    have q2 : es.toList.Perm (e :: es.toList.eraseIdx j) := by
      have q5 := ChangeMaps.set_perm es.toList j hjl e
      have q6 : es.toList.set j e = es.toList := by
        rw [List.getElem?_eq_getElem hjl] at h2
        injection h2 with h2
        rw [← h2, List.set_getElem_self]
      rw [q6] at q5
      exact q5
    refine ⟨setBlock w b (.map (es.eraseIdxIfInBounds j) clock), ?_, ⟨_, _, setB_at hlt, stamped_erase r.st j, ?_⟩, setB_grown, setB_size⟩
    · simp [Builtin.delete_, run_underlying hT, MapKept.run_getObj_map hb, run_checkKey hK hkey, run_findKey hK h1, MapKept.run_setObj_map _ hb, Result.andThen, setBlock]
    · rw [hsub]
      have a1 : ∀ x ∈ es.toList.eraseIdx j, e.key ≠ x.key := by
        have := (q2.pairwise_iff (R := fun x y : MapEntry => x.key ≠ y.key) (fun {a b} h => Ne.symm h)).1 r.apart
        rw [List.pairwise_cons] at this
        exact this.1
      have q3 := ((q2.map kvE).filter (fun x => decide (x.1 ≠ Value.string (mkS p))))
      have q7 : ((es.toList.eraseIdx j).map kvE).filter (fun x => decide (x.1 ≠ Value.string (mkS p))) = (es.toList.eraseIdx j).map kvE := List.filter_eq_self.2 (fun x hx => by
        obtain ⟨y, hy, rfl⟩ := List.mem_map.1 hx
        simp only [decide_eq_true_eq]
        intro e3
        exact a1 y hy (by rw [h3]; exact e3.symm))
      rw [List.map_cons, List.filter_cons_of_neg (by simp [kvE, h3]), q7] at q3
      exact q3.symm.trans q0
omit hK in
end
end Go.Proofs.YtcgilacmdckbfaaDoor
