/- A tick's steps in memory. -/
import Derived.Test.YtcgilacmdckbfaaDoorSrt14
set_option linter.unusedSimpArgs false
set_option maxRecDepth 100000
set_option linter.unusedVariables false
namespace Go.Proofs.YtcgilacmdckbfaaDoor
open Go Go.RowKit

theorem KpF.then_new {F S : Nat → Prop} {w u u' : World} (h : KpF F w u) (k : KpF S u u') (hs : ∀ g, S g → w.heap.size ≤ g) : KpF F w u' :=
  ⟨k.os.trans h.os, k.tape.trans h.tape, k.output.trans h.output, Nat.le_trans h.size k.size, fun i hi hn => (k.block i (Nat.lt_of_lt_of_le hi h.size) (fun e => absurd (hs i e) (by omega))).trans (h.block i hi hn)⟩
/-- Lanes' blocks, when a tick begins. -/
def LnF (w : World) (b : Nat) (F : Nat → Prop) (o1 o2 : Option Nat) : Prop :=
  F b ∧ b < w.heap.size ∧ (∀ g, o1 = some g → F g ∧ g ≠ b ∧ g < w.heap.size) ∧ (∀ g, o2 = some g → F g ∧ g ≠ b ∧ o1 ≠ some g ∧ g < w.heap.size)
abbrev Nw (w : World) : Nat → Prop := fun g => w.heap.size ≤ g
/-- In the midst of a tick. -/
def TkI (w u : World) (b sb : Nat) (F : Nat → Prop) (ck : Nat) (v1 v2 : Value) (en sc : List Fl) (tk left : Nat) (out : List Wk) (fin : List Fl) : Prop :=
  u.heap[b]? = some (.cells #[.int .i64 (ck : Int), v1, v2] 69 (0, 0)) ∧ u.ownsRow 0 EF 4 v1 en.length (flsC en) ∧ u.ownsRow 0 EF 4 v2 sc.length (flsC sc) ∧ ShAt u sb (Nw w) tk left out fin ∧ KpF F w u
section
variable {w u u' : World} {b sb ck tk left : Nat} {F : Nat → Prop} {v1 v2 : Value} {en sc : List Fl} {out : List Wk} {fin : List Fl}
theorem newNw (h : KpF F w u) {g : Nat} (hg : newF (Nw w) u u' g) : Nw w g := by
  rcases hg with hg | hg
  · exact hg
  · exact Nat.le_trans h.size hg.1
/-- A step that changes what is new alone, and what S names. -/
theorem TkI.step {S : Nat → Prop} (h : TkI w u b sb F ck v1 v2 en sc tk left out fin) (hK : KpF S u u') (hb : ¬ S b) (hS : ∀ g, g < w.heap.size → S g → F g) : u'.heap[b]? = some (.cells #[.int .i64 (ck : Int), v1, v2] 69 (0, 0)) ∧ KpF F w u' :=
  ⟨(hK.block b (Array.getElem?_eq_some_iff.1 h.1).1 hb).trans h.1, ⟨hK.os.trans h.2.2.2.2.os, hK.tape.trans h.2.2.2.2.tape, hK.output.trans h.2.2.2.2.output, Nat.le_trans h.2.2.2.2.size hK.size, fun i hi hn => (hK.block i (Nat.lt_of_lt_of_le hi h.2.2.2.2.size) (fun e => hn (hS i hi e))).trans (h.2.2.2.2.block i hi hn)⟩⟩
theorem TkI.work1 {R : Wr} {v1' : Value} {tk' : Nat} (h : TkI w u b sb F ck v1 v2 en sc tk left out fin) (hF : LnF w b F v1.ownBlock v2.ownBlock) (hW : WrkP u sb tk (Nw w) v1 R out fin v1' u') :
    TkI w (u'.setCell ⟨b, 1, none⟩ v1') b sb F ck v1' v2 R.rest sc tk R.left (out ++ R.out) (fin ++ R.fin) ∧ LnF w b F v1'.ownBlock v2.ownBlock := by
  obtain ⟨f1, f2, f3, f4⟩ := hF
  obtain ⟨k1, k2, k3, k4⟩ := hW
  have hs := h.step k4 (fun e => by
    rcases e with e | e
    · exact absurd f2 (by unfold Nw at e; omega)
    · exact (f3 b e).2.1 rfl) (fun g hg e => by
    rcases e with e | e
    · exact absurd hg (by unfold Nw at e; omega)
    · exact (f3 g e).1)
  have hks : KpF (fun g => g = b) u' (u'.setCell ⟨b, 1, none⟩ v1') := KpF.setCell u' _ v1' rfl
  refine ⟨⟨lnSet1 hs.1, own_kpF k1 hks fun g hg => (f3 g (by rw [← k2]; exact hg)).2.1, own_kpF (own_kpF h.2.2.1 k4 fun g hg e => ?_) hks fun g hg => (f4 g hg).2.1, (k3.mono fun g _ hg => newNw h.2.2.2.2 hg).keep hks (fun g hg e => by unfold Nw at hg; omega), hs.2.trans (hks.mono fun g _ e => e ▸ f1)⟩, f1, f2, by rw [k2]; exact f3, by rw [k2]; exact f4⟩
  rcases e with e | e
  · exact absurd (f4 g hg).2.2.2 (by unfold Nw at e; omega)
  · exact (f4 g hg).2.2.1 e
theorem TkI.work2 {R : Wr} {v2' : Value} (h : TkI w u b sb F ck v1 v2 en sc tk left out fin) (hF : LnF w b F v1.ownBlock v2.ownBlock) (hW : WrkP u sb tk (Nw w) v2 R out fin v2' u') :
    TkI w (u'.setCell ⟨b, 2, none⟩ v2') b sb F ck v1 v2' en R.rest tk R.left (out ++ R.out) (fin ++ R.fin) ∧ LnF w b F v1.ownBlock v2'.ownBlock := by
  obtain ⟨f1, f2, f3, f4⟩ := hF
  obtain ⟨k1, k2, k3, k4⟩ := hW
  have hs := h.step k4 (fun e => by
    rcases e with e | e
    · exact absurd f2 (by unfold Nw at e; omega)
    · exact (f4 b e).2.1 rfl) (fun g hg e => by
    rcases e with e | e
    · exact absurd hg (by unfold Nw at e; omega)
    · exact (f4 g e).1)
  have hks : KpF (fun g => g = b) u' (u'.setCell ⟨b, 2, none⟩ v2') := KpF.setCell u' _ v2' rfl
  refine ⟨⟨lnSet2 hs.1, own_kpF (own_kpF h.2.1 k4 fun g hg e => ?_) hks fun g hg => (f3 g hg).2.1, own_kpF k1 hks fun g hg => (f4 g (by rw [← k2]; exact hg)).2.1, (k3.mono fun g _ hg => newNw h.2.2.2.2 hg).keep hks (fun g hg e => by unfold Nw at hg; omega), hs.2.trans (hks.mono fun g _ e => e ▸ f1)⟩, f1, f2, f3, by rw [k2]; exact f4⟩
  rcases e with e | e
  · exact absurd (f3 g hg).2.2 (by unfold Nw at e; omega)
  · exact (f4 g e).2.2.1 hg
theorem TkI.setLeft (h : TkI w u b sb F ck v1 v2 en sc tk left out fin) (hF : LnF w b F v1.ownBlock v2.ownBlock) (L : Nat) : TkI w (u.setCell ⟨sb, 1, none⟩ (.int .i64 (L : Int))) b sb F ck v1 v2 en sc tk L out fin := by
  obtain ⟨f1, f2, f3, f4⟩ := hF
  obtain ⟨h1, h2, h3, ⟨vd, vf, s1, s2, s3, s4, s5, s6⟩, h5⟩ := h
  have hks : KpF (fun g => g = sb) u (u.setCell ⟨sb, 1, none⟩ (.int .i64 (L : Int))) := KpF.setCell u _ _ rfl
  have hsb : w.heap.size ≤ sb := s4
  refine ⟨(hks.block b (Array.getElem?_eq_some_iff.1 h1).1 (by omega)).trans h1, own_kpF h2 hks fun g hg => by have := (f3 g hg).2.2; omega, own_kpF h3 hks fun g hg => by have := (f4 g hg).2.2.2; omega,
    ⟨vd, vf, shSet1 s1, own_kpF s2 hks fun g hg => (s5 g hg).2, own_kpF s3 hks fun g hg => (s6 g hg).2.1, s4, s5, s6⟩, h5.then_new hks fun g hg => by rw [hg]; exact hsb⟩
/-- The finished files are sorted. -/
theorem TkI.sorted {l : List Fl} {vd vf : Value} (h : TkI w u b sb F ck v1 v2 en sc tk left out fin) (hF : LnF w b F v1.ownBlock v2.ownBlock)
    (s1 : u.heap[sb]? = some (.cells #[.int .i64 (tk : Int), .int .i64 (left : Int), vd, vf] 80 (0, 0))) (s2 : u.ownsRow 0 EW 5 vd out.length (wksC out)) (s4 : w.heap.size ≤ sb) (s5 : ∀ g, vd.ownBlock = some g → w.heap.size ≤ g ∧ g ≠ sb)
    (s6 : ∀ g, vf.ownBlock = some g → w.heap.size ≤ g ∧ g ≠ sb ∧ vd.ownBlock ≠ some g) (hl : u'.ownsRow 0 EF 4 vf l.length (flsC l)) (hK : KpF (fun g => vf.ownBlock = some g) u u') :
    u'.heap[b]? = some (.cells #[.int .i64 (ck : Int), v1, v2] 69 (0, 0)) ∧ u'.ownsRow 0 EF 4 v1 en.length (flsC en) ∧ u'.ownsRow 0 EF 4 v2 sc.length (flsC sc) ∧ u'.heap[sb]? = some (.cells #[.int .i64 (tk : Int), .int .i64 (left : Int), vd, vf] 80 (0, 0)) ∧ u'.ownsRow 0 EW 5 vd out.length (wksC out) ∧ KpF F w u' := by
  obtain ⟨f1, f2, f3, f4⟩ := hF
  obtain ⟨h1, h2, h3, -, h5⟩ := h
  refine ⟨(hK.block b (Array.getElem?_eq_some_iff.1 h1).1 (fun e => absurd (s6 b e).1 (by omega))).trans h1, own_kpF h2 hK fun g hg e => absurd (s6 g e).1 (by have := (f3 g hg).2.2; omega), own_kpF h3 hK fun g hg e => absurd (s6 g e).1 (by have := (f4 g hg).2.2.2; omega),
    (hK.block sb (Array.getElem?_eq_some_iff.1 s1).1 (fun e => (s6 sb e).2.1 rfl)).trans s1, own_kpF s2 hK fun g hg e => (s6 g e).2.2 hg, h5.then_new hK fun g hg => (s6 g hg).1⟩
theorem TkI.begin {s : Ln} (g1 : w.heap[b]? = some (.cells #[.int .i64 (s.clock : Int), v1, v2] 69 (0, 0))) (g2 : w.ownsRow 0 EF 4 v1 s.en.length (flsC s.en)) (g3 : w.ownsRow 0 EF 4 v2 s.sc.length (flsC s.sc)) (hF : LnF w b F v1.ownBlock v2.ownBlock) (ck h : Nat) :
    TkI w ((w.setCell ⟨b, 0, none⟩ (.int .i64 (ck : Int))).alloc (.cells #[.int .i64 (ck : Int), .int .i64 (h : Int), .slice none 0 0, .slice none 0 0] 80)) b w.heap.size F ck v1 v2 s.en s.sc ck h [] [] := by
  obtain ⟨f1, f2, f3, f4⟩ := hF
  have hks : KpF (fun g => g = b) w (w.setCell ⟨b, 0, none⟩ (.int .i64 (ck : Int))) := KpF.setCell w _ _ rfl
  obtain ⟨W1, hW1⟩ : ∃ W, w.setCell ⟨b, 0, none⟩ (.int .i64 (ck : Int)) = W := ⟨_, rfl⟩
  have hh := lnSet0 (u := .int .i64 (ck : Int)) g1
  rw [hW1] at hks hh ⊢
  have hsz : W1.heap.size = w.heap.size := by rw [← hW1]; simp [World.setCell]
  have hB := (Below.refl W1.heap.size W1).alloc (Nat.le_refl _) (.cells #[.int .i64 (ck : Int), .int .i64 (h : Int), .slice none 0 0, .slice none 0 0] 80)
  refine ⟨(hB.block b (by omega)).trans hh, own_below (own_kpF g2 hks fun g hg => (f3 g hg).2.1) hB, own_below (own_kpF g3 hks fun g hg => (f4 g hg).2.1) hB,
    ⟨.slice none 0 0, .slice none 0 0, by rw [← hsz]; exact World.alloc_heap_new _ _, ⟨rfl, .inl ⟨rfl, rfl⟩⟩, ⟨rfl, .inl ⟨rfl, rfl⟩⟩, Nat.le_refl _, (fun g hg => by cases hg), (fun g hg => by cases hg)⟩, (hks.mono fun k _ e => by rw [e]; exact f1).trans (KpF.of_new hB)⟩
/-- The finished files are appended, and the lanes' slice is laid. -/
theorem TkI.finish {l : List Fl} {vd v4 : Value} {w4 : World} (hF : LnF w b F v1.ownBlock v2.ownBlock)
    (h1 : u.heap[b]? = some (.cells #[.int .i64 (ck : Int), v1, v2] 69 (0, 0))) (h2 : u.ownsRow 0 EF 4 v1 en.length (flsC en)) (s2 : u.ownsRow 0 EW 5 vd out.length (wksC out)) (h5 : KpF F w u)
    (s5 : ∀ g, vd.ownBlock = some g → w.heap.size ≤ g) (hK : KpF (fun g => v2.ownBlock = some g) u w4) (hD : w4.ownsRow 0 EF 4 v4 l.length (flsC l)) (hob : ∀ g, v4.ownBlock = some g → v2.ownBlock = some g ∨ u.heap.size ≤ g) :
    LnAt (w4.setCell ⟨b, 2, none⟩ v4) b (newF F w (w4.setCell ⟨b, 2, none⟩ v4)) ⟨ck, en, l⟩ ∧ KpF F w (w4.setCell ⟨b, 2, none⟩ v4) ∧ (w4.setCell ⟨b, 2, none⟩ v4).ownsRow w.heap.size EW 5 vd out.length (wksC out) := by
  obtain ⟨f1, f2, f3, f4⟩ := hF
  have hks : KpF (fun g => g = b) w4 (w4.setCell ⟨b, 2, none⟩ v4) := KpF.setCell w4 _ _ rfl
  have hsz : (w4.setCell ⟨b, 2, none⟩ v4).heap.size = w4.heap.size := by simp [World.setCell]
  have hh := (hK.block b (Array.getElem?_eq_some_iff.1 h1).1 (fun e => (f4 b e).2.1 rfl)).trans h1
  refine ⟨⟨v1, v4, lnSet2 hh, own_kpF (own_kpF h2 hK fun g hg e => (f4 g e).2.2.1 hg) hks fun g hg => (f3 g hg).2.1, own_kpF hD hks fun g hg => ?_, .inl f1, fun g hg => ⟨.inl (f3 g hg).1, (f3 g hg).2.1⟩, fun g hg => ?_⟩, ?_, ?_⟩
  · rcases hob g hg with h | h
    · exact (f4 g h).2.1
    · have := h5.size; omega
  · rcases hob g hg with h | h
    · exact ⟨.inl (f4 g h).1, (f4 g h).2.1, (f4 g h).2.2.1⟩
    · have := h5.size
      exact ⟨.inr ⟨by omega, by rw [hsz]; exact (hD.lt g hg).2⟩, by omega, fun e => by have := (f3 g e).2.2; omega⟩
  · exact (h5.trans (hK.mono fun k hk e => (f4 k e).1)).trans (hks.mono fun k _ e => by rw [e]; exact f1)
  · refine own_kpF (own_kpF (?_ : u.ownsRow w.heap.size EW 5 vd out.length (wksC out)) hK fun g hg e => ?_) hks fun g hg => ?_
    · refine ⟨s2.1, ?_⟩
      rcases s2.2 with h' | ⟨g, cap, cur, hv, -, r⟩
      · exact .inl h'
      · exact .inr ⟨g, cap, cur, hv, s5 g (by rw [hv]; rfl), r⟩
    · have := s5 g hg
      have := (f4 g e).2.2.2
      omega
    · have := s5 g hg
      omega
end
end Go.Proofs.YtcgilacmdckbfaaDoor
