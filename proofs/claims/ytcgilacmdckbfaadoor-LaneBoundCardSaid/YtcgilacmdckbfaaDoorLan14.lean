/- Lanes, in plain terms: what is done with a queue, a tick. -/
import Derived.Test.YtcgilacmdckbfaaDoorPth7
set_option linter.unusedSimpArgs false
set_option maxRecDepth 100000
set_option linter.unusedVariables false
namespace Go.Proofs.YtcgilacmdckbfaaDoor
open Go

/-- A file of a lane. -/
structure Fl where
  path : S8
  blocks : Nat
  done : Nat
  tick : Nat
/-- A piece of work. -/
structure Wk where
  path : S8
  lo : Nat
  hi : Nat
  en : Bool
  fin : Bool
def fl0 : Fl := ⟨[], 0, 0, 0⟩
def wk0 : Wk := ⟨[], 0, 0, false, false⟩
instance : Inhabited Fl := ⟨fl0⟩
instance : Inhabited Wk := ⟨wk0⟩
/-- A queue, worked on: what is left of it, of the budget; the work, what is finished. -/
structure Wr where
  rest : List Fl
  left : Nat
  out : List Wk
  fin : List Fl
def workL (tk : Nat) (en : Bool) : List Fl → Nat → Wr
  | [], left => ⟨[], left, [], []⟩
  | f :: q, left =>
    if 0 < left ∨ f.done = f.blocks then
      if f.blocks ≤ f.done + left then
        let r := workL tk en q (left - (f.blocks - f.done))
        ⟨r.rest, r.left, ⟨f.path, f.done, f.blocks, en, true⟩ :: r.out, ⟨f.path, f.blocks, 0, tk⟩ :: r.fin⟩
      else ⟨{ f with done := f.done + left } :: q, 0, [⟨f.path, f.done, f.done + left, en, false⟩], []⟩
    else ⟨f :: q, left, [], []⟩
/-- Files as they lie in a lane. -/
def okF (f : Fl) : Prop := f.done ≤ f.blocks ∧ f.blocks ≤ 64
def okL (l : List Fl) : Prop := ∀ f ∈ l, okF f
theorem workL_stop (tk : Nat) (en : Bool) (q : List Fl) (left : Nat) (h : ∀ f ∈ q.head?, left = 0 ∧ f.done ≠ f.blocks) : workL tk en q left = ⟨q, left, [], []⟩ := by
  cases q with
  | nil => rfl
  | cons f q =>
    have := h f (by simp)
    simp only [workL]
    rw [if_neg (by omega)]
theorem workL_ok (tk : Nat) (en : Bool) (q : List Fl) (left : Nat) (h : okL q) : okL (workL tk en q left).rest ∧ okL (workL tk en q left).fin ∧ (workL tk en q left).left ≤ left := by
  induction q generalizing left with
  | nil => exact ⟨h, (fun f hf => by cases hf), Nat.le_refl _⟩
  | cons f q ih =>
    have hf := h f (by simp)
    have hq : okL q := fun g hg => h g (by simp [hg])
    simp only [workL]
    split
    · split
      · have hh := ih (left - (f.blocks - f.done)) hq
        refine ⟨hh.1, fun g hg => ?_, Nat.le_trans hh.2.2 (Nat.sub_le _ _)⟩
        simp only [List.mem_cons] at hg
        rcases hg with rfl | hg
        · exact ⟨Nat.zero_le _, hf.2⟩
        · exact hh.2.1 g hg
      · refine ⟨fun g hg => ?_, (fun g hg => by cases hg), Nat.zero_le _⟩
        simp only [List.mem_cons] at hg
        rcases hg with rfl | hg
        · have := hf.2
          exact ⟨by show f.done + left ≤ f.blocks; omega, this⟩
        · exact hq g hg
    · exact ⟨h, (fun g hg => by cases hg), Nat.le_refl _⟩
/-- The files of a queue are those that are left and those that are finished. -/
theorem workL_paths (tk : Nat) (en : Bool) (q : List Fl) (left : Nat) : q.map (·.path) = (workL tk en q left).fin.map (·.path) ++ (workL tk en q left).rest.map (·.path) ∧ q.map (·.blocks) = (workL tk en q left).fin.map (·.blocks) ++ (workL tk en q left).rest.map (·.blocks) := by
  induction q generalizing left with
  | nil => exact ⟨rfl, rfl⟩
  | cons f q ih =>
    simp only [workL]
    split
    · split
      · have hh := ih (left - (f.blocks - f.done))
        exact ⟨by simp [hh.1], by simp [hh.2]⟩
      · exact ⟨by simp, by simp⟩
    · exact ⟨by simp, by simp⟩
theorem workL_out_le (tk : Nat) (en : Bool) (q : List Fl) (left : Nat) : (workL tk en q left).out.length ≤ q.length := by
  induction q generalizing left with
  | nil => exact Nat.le_refl _
  | cons f q ih =>
    simp only [workL]
    split
    · split
      · have hh := ih (left - (f.blocks - f.done))
        simp only [List.length_cons]
        omega
      · simp
    · simp
/-- How far a queue is worked on. -/
def WInv (tk : Nat) (en : Bool) (Q : List Fl) (L0 : Nat) (rest : List Fl) (left : Nat) (out : List Wk) (fin : List Fl) : Prop :=
  workL tk en Q L0 = ⟨(workL tk en rest left).rest, (workL tk en rest left).left, out ++ (workL tk en rest left).out, fin ++ (workL tk en rest left).fin⟩
theorem WInv.start (tk : Nat) (en : Bool) (Q : List Fl) (L0 : Nat) : WInv tk en Q L0 Q L0 [] [] := by
  unfold WInv; rfl
theorem WInv.finish {tk : Nat} {en : Bool} {Q : List Fl} {L0 : Nat} {f : Fl} {q : List Fl} {left : Nat} {out : List Wk} {fin : List Fl} (h : WInv tk en Q L0 (f :: q) left out fin) (h1 : 0 < left ∨ f.done = f.blocks) (h2 : f.blocks ≤ f.done + left) :
    WInv tk en Q L0 q (left - (f.blocks - f.done)) (out ++ [⟨f.path, f.done, f.blocks, en, true⟩]) (fin ++ [⟨f.path, f.blocks, 0, tk⟩]) := by
  unfold WInv at *
  rw [h]
  simp only [workL]
  rw [if_pos h1, if_pos h2]
  simp
theorem WInv.part {tk : Nat} {en : Bool} {Q : List Fl} {L0 : Nat} {f : Fl} {q : List Fl} {left : Nat} {out : List Wk} {fin : List Fl} (h : WInv tk en Q L0 (f :: q) left out fin) (h1 : 0 < left ∨ f.done = f.blocks) (h2 : ¬ f.blocks ≤ f.done + left) :
    WInv tk en Q L0 ({ f with done := f.done + left } :: q) 0 (out ++ [⟨f.path, f.done, f.done + left, en, false⟩]) fin := by
  unfold WInv at *
  rw [workL_stop tk en ({ f with done := f.done + left } :: q) 0 (fun g hg => by
    have : g = { f with done := f.done + left } := by simpa using hg.symm
    subst this
    exact ⟨rfl, by show f.done + left ≠ f.blocks; omega⟩)]
  rw [h]
  simp only [workL]
  rw [if_pos h1, if_neg h2]
  simp
theorem WInv.stop {tk : Nat} {en : Bool} {Q : List Fl} {L0 : Nat} {rest : List Fl} {left : Nat} {out : List Wk} {fin : List Fl} (h : WInv tk en Q L0 rest left out fin) (hs : ∀ f ∈ rest.head?, left = 0 ∧ f.done ≠ f.blocks) : workL tk en Q L0 = ⟨rest, left, out, fin⟩ := by
  unfold WInv at h
  rw [h, workL_stop tk en rest left hs]
  simp
/-- What is left keeps its ticks and paths; what is finished has this tick. -/
theorem workL_rest (tk : Nat) (en : Bool) (q : List Fl) (left : Nat) : (workL tk en q left).rest.map (fun f => (f.tick, f.path)) = (q.drop (workL tk en q left).fin.length).map (fun f => (f.tick, f.path)) ∧ ∀ f ∈ (workL tk en q left).fin, f.tick = tk ∧ f.done = 0 := by
  induction q generalizing left with
  | nil => exact ⟨rfl, fun f hf => by cases hf⟩
  | cons f q ih =>
    simp only [workL]
    split
    · split
      · have hh := ih (left - (f.blocks - f.done))
        refine ⟨by simpa using hh.1, fun g hg => ?_⟩
        rcases List.mem_cons.1 hg with rfl | hg
        · exact ⟨rfl, rfl⟩
        · exact hh.2 g hg
      · exact ⟨by simp, fun g hg => by cases hg⟩
    · exact ⟨by simp, fun g hg => by cases hg⟩
/-- Both lanes, and the clock. -/
structure Ln where
  clock : Nat
  en : List Fl
  sc : List Fl
def ln0 : Ln := ⟨0, [], []⟩
def tickA (s : Ln) (h : Nat) : Wr := workL (s.clock + 1) true s.en h
def tickB (s : Ln) (h : Nat) : Wr := workL (s.clock + 1) false s.sc ((tickA s h).left + h)
def tickFin (s : Ln) (h : Nat) : List Fl := (tickA s h).fin ++ (tickB s h).fin
def tickOut (s : Ln) (h : Nat) : List Wk := (tickA s h).out ++ (tickB s h).out
def tickS (s : Ln) (h : Nat) (ns : List Fl) : Ln := ⟨s.clock + 1, (tickA s h).rest, (tickB s h).rest ++ ns⟩
/-- What is to be done yet in a queue. -/
def remL (l : List Fl) : Nat := (l.map fun f => f.blocks - f.done).sum
def sumW (l : List Wk) : Nat := (l.map fun x => x.hi - x.lo).sum
/-- The enrol lane, worked on: the work goes file by file, all but the last are finished; either all is done, or all of the budget is used. -/
theorem workL_enrol (tk : Nat) (en : Bool) (q : List Fl) (left : Nat) (h : okL q) :
    let r := workL tk en q left
    r.fin.length ≤ r.out.length ∧ r.out.length ≤ r.fin.length + 1 ∧
    (∀ i, i < r.out.length → (r.out.getD i wk0).path = (q.getD i fl0).path ∧ (r.out.getD i wk0).en = en ∧ (r.out.getD i wk0).lo ≤ (r.out.getD i wk0).hi ∧ (r.out.getD i wk0).hi ≤ 64 ∧ ((r.out.getD i wk0).fin = decide (i < r.fin.length))) ∧
    q.length = r.fin.length + r.rest.length ∧ (∀ i, i < r.rest.length → (r.rest.getD i fl0).path = (q.getD (r.fin.length + i) fl0).path) ∧
    sumW r.out + r.left = left ∧ remL r.rest + sumW r.out = remL q ∧ (r.rest = [] ∨ r.left = 0) := by
  induction q generalizing left with
  | nil => exact ⟨Nat.le_refl _, by simp [workL], (fun i hi => by simp [workL] at hi), rfl, (fun i hi => by simp [workL] at hi), by simp [workL, sumW], by simp [workL, remL, sumW], .inl rfl⟩
  | cons f q ih =>
    have hf := h f (by simp)
    have hq : okL q := fun g hg => h g (by simp [hg])
    simp only [workL]
    split
    · split
      · rename_i h1 h2
        obtain ⟨a1, a2, a3, a4, a5, a6, a7, a8⟩ := ih (left - (f.blocks - f.done)) hq
        refine ⟨by simpa using a1, by simp; omega, fun i hi => ?_, by simp; omega, fun i hi => ?_, ?_, ?_, a8⟩
        · cases i with
          | zero => simpa using ⟨hf.1, hf.2⟩
          | succ i =>
            have := a3 i (by simpa using hi)
            simpa using this
        · have := a5 i hi
          simp only [List.length_cons]
          rw [show (workL tk en q (left - (f.blocks - f.done))).fin.length + 1 + i = ((workL tk en q (left - (f.blocks - f.done))).fin.length + i) + 1 by omega]
          simpa using this
        · simp only [sumW, List.map_cons, List.sum_cons] at a6 ⊢
          omega
        · simp only [sumW, remL, List.map_cons, List.sum_cons] at a7 ⊢
          omega
      · rename_i h1 h2
        refine ⟨by simp, by simp, fun i hi => ?_, by simp, fun i hi => ?_, by simp [sumW], ?_, .inr rfl⟩
        · have : i = 0 := by simpa using hi
          subst this
          have := hf.2
          simp
          omega
        · cases i with
          | zero => simp
          | succ i => simp
        · simp only [sumW, remL, List.map_cons, List.sum_cons, List.map_nil, List.sum_nil]
          omega
    · refine ⟨by simp, by simp, (fun i hi => by simp at hi), by simp, fun i hi => by simp, by simp [sumW], by simp [sumW], ?_⟩
      right
      show left = 0
      omega
theorem remL_le (l : List Fl) (h : okL l) : remL l ≤ 64 * l.length := by
  induction l with
  | nil => simp [remL]
  | cons f l ih =>
    have hf := h f (by simp)
    have := ih fun g hg => h g (by simp [hg])
    simp only [remL, List.map_cons, List.sum_cons, List.length_cons] at this ⊢
    have := hf.2
    omega
end Go.Proofs.YtcgilacmdckbfaaDoor
