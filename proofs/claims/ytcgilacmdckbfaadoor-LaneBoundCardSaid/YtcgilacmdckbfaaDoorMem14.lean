/- Lanes in memory; the frame of calls that change several blocks. -/
import Derived.Test.YtcgilacmdckbfaaDoorLan14
import Derived.Test.YtcgilacmdckbfaaDoorOwnK8
import Derived.Test.YtcgilacmdckbfaaDoorStr7
import Derived.Deep.RegionLaw
import Derived.Lib.SliceRun
set_option linter.unusedSimpArgs false
set_option maxRecDepth 100000
set_option linter.unusedVariables false
namespace Go.Proofs.YtcgilacmdckbfaaDoor
open Go Go.RowKit

/-- All blocks but those of S are as they were. -/
structure KpF (S : Nat → Prop) (w w' : World) : Prop where
  os : w'.os = w.os
  tape : w'.tape = w.tape
  output : w'.output = w.output
  size : w.heap.size ≤ w'.heap.size
  block : ∀ k, k < w.heap.size → ¬ S k → w'.heap[k]? = w.heap[k]?
theorem KpF.refl (S : Nat → Prop) (w : World) : KpF S w w := ⟨rfl, rfl, rfl, Nat.le_refl _, fun _ _ _ => rfl⟩
theorem KpF.trans {S : Nat → Prop} {x y z : World} (h : KpF S x y) (k : KpF S y z) : KpF S x z :=
  ⟨k.os.trans h.os, k.tape.trans h.tape, k.output.trans h.output, Nat.le_trans h.size k.size, fun i hi hb => (k.block i (Nat.lt_of_lt_of_le hi h.size) hb).trans (h.block i hi hb)⟩
theorem KpF.mono {S T : Nat → Prop} {x y : World} (h : KpF S x y) (hs : ∀ k, k < x.heap.size → S k → T k) : KpF T x y := ⟨h.os, h.tape, h.output, h.size, fun i hi hb => h.block i hi fun hc => hb (hs i hi hc)⟩
theorem KpF.of_below {S : Nat → Prop} {N : Nat} {x y : World} (h : Below N x y) (hs : ∀ k, N ≤ k → k < x.heap.size → S k) : KpF S x y :=
  ⟨h.os, h.tape, h.output, h.size, fun i hi hb => h.block i (by rcases Nat.lt_or_ge i N with h1 | h1; exact h1; exact absurd (hs i h1 hi) hb)⟩
theorem KpF.of_new {S : Nat → Prop} {x y : World} (h : Below x.heap.size x y) : KpF S x y := .of_below h fun k h1 h2 => absurd h2 (by omega)
theorem KpF.of_grown {S : Nat → Prop} {x y : World} {o : Option Nat} (h : x.grownBy y o) (hs : ∀ k, o = some k → S k) : KpF S x y :=
  ⟨h.os, h.tape, h.output, h.size, fun i hi hb => h.block i hi fun e => hb (hs i e.symm)⟩
theorem KpF.below {S : Nat → Prop} {N : Nat} {x y : World} (h : KpF S x y) (hs : ∀ k, S k → N ≤ k) (hN : N ≤ x.heap.size) : Below N x y :=
  ⟨h.os, h.tape, h.output, h.size, fun i hi => h.block i (by omega) fun hc => absurd (hs i hc) (by omega)⟩
theorem KpF.drew {S : Nat → Prop} (w : World) : KpF S w w.drew := ⟨rfl, rfl, rfl, Nat.le_refl _, fun _ _ _ => rfl⟩
theorem KpF.alloc {S : Nat → Prop} (w : World) (o : Obj) : KpF S w (w.alloc o) := .of_new ((Below.refl _ w).alloc (Nat.le_refl _) o)
/-- A store into a block of S. -/
theorem KpF.setCell {S : Nat → Prop} (w : World) (a : Addr) (v : Value) (hs : S a.block) : KpF S w (w.setCell a v) := by
  refine ⟨rfl, rfl, rfl, by simp [World.setCell], fun k hk hn => ?_⟩
  have hne : a.block ≠ k := fun e => hn (e ▸ hs)
  simp only [World.setCell, Array.getElem?_modify, if_neg hne]
/-- The files, the work as cells. -/
def flC (f : Fl) : List Value := [.string (mkS f.path), .int .i64 (f.blocks : Int), .int .i64 (f.done : Int), .int .i64 (f.tick : Int)]
def flsC (l : List Fl) : List Value := l.flatMap flC
def wkC (x : Wk) : List Value := [.string (mkS x.path), .int .i64 (x.lo : Int), .int .i64 (x.hi : Int), .bool x.en, .bool x.fin]
def wksC (l : List Wk) : List Value := l.flatMap wkC
theorem flsC_len (l : List Fl) : (flsC l).length = l.length * 4 := by
  unfold flsC
  induction l with
  | nil => rfl
  | cons f l ih => rw [List.flatMap_cons, List.length_append, ih]; simp [flC]; omega
theorem wksC_len (l : List Wk) : (wksC l).length = l.length * 5 := by
  unfold wksC
  induction l with
  | nil => rfl
  | cons f l ih => rw [List.flatMap_cons, List.length_append, ih]; simp [wkC]; omega
theorem flsC_app (a b : List Fl) : flsC (a ++ b) = flsC a ++ flsC b := by unfold flsC; rw [List.flatMap_append]
theorem wksC_app (a b : List Wk) : wksC (a ++ b) = wksC a ++ wksC b := by unfold wksC; rw [List.flatMap_append]
theorem flsC_one (f : Fl) : flsC [f] = flC f := by simp [flsC]
theorem wksC_one (f : Wk) : wksC [f] = wkC f := by simp [wksC]
theorem flsC_get (l : List Fl) (i j : Nat) (hi : i < l.length) (hj : j < 4) : (flsC l)[i * 4 + j]? = (flC (l.getD i fl0))[j]? := by
  induction l generalizing i with
  | nil => simp at hi
  | cons f l ih =>
    unfold flsC
    rw [List.flatMap_cons]
    cases i with
    | zero => rw [List.getElem?_append_left (by simp [flC]; omega)]; simp
    | succ i =>
      rw [List.getElem?_append_right (by simp [flC]; omega)]
      have : (i + 1) * 4 + j - (flC f).length = i * 4 + j := by simp [flC]; omega
      rw [this]
      exact ih i (by simpa using hi)
theorem wksC_get (l : List Wk) (i j : Nat) (hi : i < l.length) (hj : j < 5) : (wksC l)[i * 5 + j]? = (wkC (l.getD i wk0))[j]? := by
  induction l generalizing i with
  | nil => simp at hi
  | cons f l ih =>
    unfold wksC
    rw [List.flatMap_cons]
    cases i with
    | zero => rw [List.getElem?_append_left (by simp [wkC]; omega)]; simp
    | succ i =>
      rw [List.getElem?_append_right (by simp [wkC]; omega)]
      have : (i + 1) * 5 + j - (wkC f).length = i * 5 + j := by simp [wkC]; omega
      rw [this]
      exact ih i (by simpa using hi)
theorem flC_one (f : Fl) : ∀ u ∈ flC f, u.oneCell' = true := by
  intro u hu; simp [flC] at hu; rcases hu with rfl | rfl | rfl | rfl <;> rfl
theorem wkC_one (f : Wk) : ∀ u ∈ wkC f, u.oneCell' = true := by
  intro u hu; simp [wkC] at hu; rcases hu with rfl | rfl | rfl | rfl | rfl <;> rfl
theorem flsC_oneCell (l : List Fl) : ∀ u ∈ flsC l, u.oneCell' = true := by
  intro u hu
  obtain ⟨f, -, hf⟩ := List.mem_flatMap.1 hu
  exact flC_one f u hf
abbrev TF : TypeId := 67
abbrev EF : TypeId := 74
abbrev TW : TypeId := 42
abbrev EW : TypeId := 55
def zF : Value := .agg #[.string ⟨#[]⟩, .int .i64 0, .int .i64 0, .int .i64 0]
def zW : Value := .agg #[.string ⟨#[]⟩, .int .i64 0, .int .i64 0, .bool false, .bool false]
theorem elF : ElK TF EF zF 4 40 := ⟨by kernel_rfl, by kernel_rfl, rfl, by decide, by decide⟩
theorem elW : ElK TW EW zW 5 40 := ⟨by kernel_rfl, by kernel_rfl, rfl, by decide, by decide⟩
/-- Lanes in block b; all their blocks are of F. -/
def LnAt (w : World) (b : Nat) (F : Nat → Prop) (s : Ln) : Prop :=
  ∃ v1 v2, w.heap[b]? = some (.cells #[.int .i64 (s.clock : Int), v1, v2] 69 (0, 0)) ∧ w.ownsRow 0 EF 4 v1 s.en.length (flsC s.en) ∧ w.ownsRow 0 EF 4 v2 s.sc.length (flsC s.sc) ∧
    F b ∧ (∀ g, v1.ownBlock = some g → F g ∧ g ≠ b) ∧ (∀ g, v2.ownBlock = some g → F g ∧ g ≠ b ∧ v1.ownBlock ≠ some g)
theorem own_kpF {w w' : World} {E : TypeId} {base k n : Nat} {v : Value} {cs : List Value} {S : Nat → Prop} (h : w.ownsRow base E k v n cs) (hK : KpF S w w') (hs : ∀ g, v.ownBlock = some g → ¬ S g) : w'.ownsRow base E k v n cs :=
  own_keep h fun g hg => hK.block g (h.lt g hg).2 (hs g hg)
theorem LnAt.lt {w : World} {b : Nat} {F : Nat → Prop} {s : Ln} (h : LnAt w b F s) : b < w.heap.size := by
  obtain ⟨v1, v2, h1, -⟩ := h
  exact (Array.getElem?_eq_some_iff.1 h1).1
theorem LnAt.keep {w w' : World} {b : Nat} {F S : Nat → Prop} {s : Ln} (h : LnAt w b F s) (hK : KpF S w w') (hs : ∀ g, F g → ¬ S g) : LnAt w' b F s := by
  have hlt := h.lt
  obtain ⟨v1, v2, h1, h2, h3, h4, h5, h6⟩ := h
  exact ⟨v1, v2, (hK.block b hlt (hs b h4)).trans h1, own_kpF h2 hK fun g hg => hs g (h5 g hg).1, own_kpF h3 hK fun g hg => hs g (h6 g hg).1, h4, h5, h6⟩
theorem LnAt.of_new {w w' : World} {b : Nat} {F : Nat → Prop} {s : Ln} (h : LnAt w b F s) (hB : Below w.heap.size w w') : LnAt w' b F s := by
  have hlt := h.lt
  obtain ⟨v1, v2, h1, h2, h3, h4, h5, h6⟩ := h
  exact ⟨v1, v2, (hB.block b hlt).trans h1, own_below h2 hB, own_below h3 hB, h4, h5, h6⟩
theorem LnAt.mono {w : World} {b : Nat} {F T : Nat → Prop} {s : Ln} (h : LnAt w b F s) (hs : ∀ g, g < w.heap.size → F g → T g) : LnAt w b T s := by
  have hlt := h.lt
  obtain ⟨v1, v2, h1, h2, h3, h4, h5, h6⟩ := h
  exact ⟨v1, v2, h1, h2, h3, hs b hlt h4, fun g hg => ⟨hs g (h2.lt g hg).2 (h5 g hg).1, (h5 g hg).2⟩, fun g hg => ⟨hs g (h3.lt g hg).2 (h6 g hg).1, (h6 g hg).2⟩⟩
/-- What is of F, or new since w. -/
def newF (F : Nat → Prop) (w w' : World) (g : Nat) : Prop := F g ∨ (w.heap.size ≤ g ∧ g < w'.heap.size)
end Go.Proofs.YtcgilacmdckbfaaDoor
