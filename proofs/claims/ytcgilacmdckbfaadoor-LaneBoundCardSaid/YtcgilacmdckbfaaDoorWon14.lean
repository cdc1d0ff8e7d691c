/- (*lane.shift).workOn. -/
import Derived.Test.YtcgilacmdckbfaaDoorPut14
import Derived.StillTail
import Derived.BigRegion
import Derived.Deep.RegionHeld3
set_option linter.unusedSimpArgs false
set_option maxRecDepth 100000
set_option linter.unusedVariables false
namespace Go.Proofs.YtcgilacmdckbfaaDoor
open Go Go.RowKit

/-- A shift in block b. -/
def ShAt (w : World) (b : Nat) (F : Nat → Prop) (tk left : Nat) (out : List Wk) (fin : List Fl) : Prop :=
  ∃ vd vf, w.heap[b]? = some (.cells #[.int .i64 (tk : Int), .int .i64 (left : Int), vd, vf] 80 (0, 0)) ∧ w.ownsRow 0 EW 5 vd out.length (wksC out) ∧ w.ownsRow 0 EF 4 vf fin.length (flsC fin) ∧
    F b ∧ (∀ g, vd.ownBlock = some g → F g ∧ g ≠ b) ∧ (∀ g, vf.ownBlock = some g → F g ∧ g ≠ b ∧ vd.ownBlock ≠ some g)
theorem shCells {w : World} {b : Nat} {x y z u : Value} {t : TypeId} (h : w.heap[b]? = some (.cells #[x, y, z, u] t (0, 0))) :
    w.cell? ⟨b, 0, none⟩ = some x ∧ w.cell? ⟨b, 1, none⟩ = some y ∧ w.cell? ⟨b, 2, none⟩ = some z ∧ w.cell? ⟨b, 3, none⟩ = some u ∧ ∀ o, w.frozen? ⟨b, o, none⟩ = false := by
  refine ⟨?_, ?_, ?_, ?_, fun o => ?_⟩ <;> simp [World.cell?, World.frozen?, h]
theorem shSet1 {w : World} {b : Nat} {x y z u v : Value} {t : TypeId} (h : w.heap[b]? = some (.cells #[x, y, z, u] t (0, 0))) : (w.setCell ⟨b, 1, none⟩ v).heap[b]? = some (.cells #[x, v, z, u] t (0, 0)) := by
  simp [World.setCell, Array.getElem?_modify, h]
theorem shSet2 {w : World} {b : Nat} {x y z u v : Value} {t : TypeId} (h : w.heap[b]? = some (.cells #[x, y, z, u] t (0, 0))) : (w.setCell ⟨b, 2, none⟩ v).heap[b]? = some (.cells #[x, y, v, u] t (0, 0)) := by
  simp [World.setCell, Array.getElem?_modify, h]
theorem shSet3 {w : World} {b : Nat} {x y z u v : Value} {t : TypeId} (h : w.heap[b]? = some (.cells #[x, y, z, u] t (0, 0))) : (w.setCell ⟨b, 3, none⟩ v).heap[b]? = some (.cells #[x, y, z, v] t (0, 0)) := by
  simp [World.setCell, Array.getElem?_modify, h]
/-- A file in the midst of a block. -/
def FlAt (w : World) (q o : Nat) (cur : Array Value) (f : Fl) : Prop := w.heap[q]? = some (.cells cur EF (0, 0)) ∧ cur[o]? = some (.string (mkS f.path)) ∧ cur[o + 1]? = some (.int .i64 (f.blocks : Int)) ∧ cur[o + 2]? = some (.int .i64 (f.done : Int))
theorem flCells {w : World} {q o : Nat} {cur : Array Value} {f : Fl} (h : FlAt w q o cur f) : w.cell? ⟨q, o, none⟩ = some (.string (mkS f.path)) ∧ w.cell? ⟨q, o + 1, none⟩ = some (.int .i64 (f.blocks : Int)) ∧ w.cell? ⟨q, o + 2, none⟩ = some (.int .i64 (f.done : Int)) ∧ ∀ u, w.frozen? ⟨q, u, none⟩ = false := by
  obtain ⟨h1, h2, h3, h4⟩ := h
  refine ⟨?_, ?_, ?_, fun u => ?_⟩ <;> simp [World.cell?, World.frozen?, h1, h2, h3, h4]
theorem flSet {w : World} {q o : Nat} {cur : Array Value} {f : Fl} (h : FlAt w q o cur f) (d : Nat) : FlAt (w.setCell ⟨q, o + 2, none⟩ (.int .i64 (d : Int))) q o (cur.setIfInBounds (o + 2) (.int .i64 (d : Int))) { f with done := d } := by
  obtain ⟨h1, h2, h3, h4⟩ := h
  have hlt : o + 2 < cur.size := (Array.getElem?_eq_some_iff.1 h4).1
  refine ⟨by simp [World.setCell, Array.getElem?_modify, h1], ?_, ?_, ?_⟩
  · rw [Array.getElem?_setIfInBounds, if_neg (by omega)]; exact h2
  · rw [Array.getElem?_setIfInBounds, if_neg (by omega)]; exact h3
  · simp [hlt]
theorem FlAt.keep {w w' : World} {q o : Nat} {cur : Array Value} {f : Fl} (h : FlAt w q o cur f) (hk : w'.heap[q]? = w.heap[q]?) : FlAt w' q o cur f := ⟨hk.trans h.1, h.2⟩
/-- What workOn leaves. -/
def WonP (w : World) (b q o tk left : Nat) (F : Nat → Prop) (cur : Array Value) (f : Fl) (en : Bool) (out : List Wk) (fin : List Fl) (M : Nat) (e : Ending) (w' : World) : Prop :=
  e = .returned (.bool (decide (M = f.blocks))) ∧ FlAt w' q o (cur.setIfInBounds (o + 2) (.int .i64 (M : Int))) { f with done := M } ∧
    ShAt w' b (newF F w w') tk (left - (M - f.done)) (out ++ [⟨f.path, f.done, M, en, decide (M = f.blocks)⟩]) (if M = f.blocks then fin ++ [⟨f.path, f.blocks, 0, tk⟩] else fin) ∧ KpF (fun g => F g ∨ g = q) w w'
theorem shUpd2 {W x w4 : World} {b tk L : Nat} {F : Nat → Prop} {out' : List Wk} {fin : List Fl} {vd vf v4 : Value}
    (h1 : W.heap[b]? = some (.cells #[.int .i64 (tk : Int), .int .i64 (L : Int), vd, vf] 80 (0, 0))) (h3 : W.ownsRow 0 EF 4 vf fin.length (flsC fin))
    (h4 : F b) (h5 : ∀ g, vd.ownBlock = some g → F g ∧ g ≠ b) (h6 : ∀ g, vf.ownBlock = some g → F g ∧ g ≠ b ∧ vd.ownBlock ≠ some g)
    (hB : Below W.heap.size W x) (hK : KpF (fun g => vd.ownBlock = some g) x w4) (hD : w4.ownsRow 0 EW 5 v4 out'.length (wksC out')) (hob : ∀ g, v4.ownBlock = some g → vd.ownBlock = some g ∨ W.heap.size ≤ g) :
    ShAt (w4.setCell ⟨b, 2, none⟩ v4) b (newF F W (w4.setCell ⟨b, 2, none⟩ v4)) tk L out' fin ∧ KpF F W (w4.setCell ⟨b, 2, none⟩ v4) := by
  have hlt : b < W.heap.size := (Array.getElem?_eq_some_iff.1 h1).1
  have hb1 : b < x.heap.size := Nat.lt_of_lt_of_le hlt hB.size
  have hh2 := (hK.block b hb1 (fun e => (h5 b e).2 rfl)).trans ((hB.block b hlt).trans h1)
  have hsz : (w4.setCell ⟨b, 2, none⟩ v4).heap.size = w4.heap.size := by simp [World.setCell]
  have hks : KpF (fun g => g = b) w4 (w4.setCell ⟨b, 2, none⟩ v4) := KpF.setCell w4 _ v4 rfl
  refine ⟨⟨v4, vf, shSet2 hh2, own_kpF hD hks fun g hg => ?_, own_kpF (own_kpF (own_below h3 hB) hK fun g hg => (h6 g hg).2.2) hks fun g hg => (h6 g hg).2.1, .inl h4, fun g hg => ?_, fun g hg => ⟨.inl (h6 g hg).1, (h6 g hg).2.1, fun e => ?_⟩⟩, ?_⟩
  · rcases hob g hg with h | h
    · exact (h5 g h).2
    · omega
  · rcases hob g hg with h | h
    · exact ⟨.inl (h5 g h).1, (h5 g h).2⟩
    · exact ⟨.inr ⟨h, by rw [hsz]; exact (hD.lt g hg).2⟩, by omega⟩
  · rcases hob g e with h | h
    · exact (h6 g hg).2.2 h
    · exact absurd (h3.lt g hg).2 (by omega)
  · exact ((KpF.of_new hB).trans (hK.mono fun k _ hk => (h5 k hk).1)).trans (hks.mono fun k _ hk => by rw [hk]; exact h4)
theorem shUpd3 {W x w4 : World} {b tk L : Nat} {F : Nat → Prop} {out : List Wk} {fin' : List Fl} {vd vf v4 : Value}
    (h1 : W.heap[b]? = some (.cells #[.int .i64 (tk : Int), .int .i64 (L : Int), vd, vf] 80 (0, 0))) (h2 : W.ownsRow 0 EW 5 vd out.length (wksC out))
    (h4 : F b) (h5 : ∀ g, vd.ownBlock = some g → F g ∧ g ≠ b) (h6 : ∀ g, vf.ownBlock = some g → F g ∧ g ≠ b ∧ vd.ownBlock ≠ some g)
    (hB : Below W.heap.size W x) (hK : KpF (fun g => vf.ownBlock = some g) x w4) (hD : w4.ownsRow 0 EF 4 v4 fin'.length (flsC fin')) (hob : ∀ g, v4.ownBlock = some g → vf.ownBlock = some g ∨ W.heap.size ≤ g) :
    ShAt (w4.setCell ⟨b, 3, none⟩ v4) b (newF F W (w4.setCell ⟨b, 3, none⟩ v4)) tk L out fin' ∧ KpF F W (w4.setCell ⟨b, 3, none⟩ v4) := by
  have hlt : b < W.heap.size := (Array.getElem?_eq_some_iff.1 h1).1
  have hb1 : b < x.heap.size := Nat.lt_of_lt_of_le hlt hB.size
  have hh2 := (hK.block b hb1 (fun e => (h6 b e).2.1 rfl)).trans ((hB.block b hlt).trans h1)
  have hsz : (w4.setCell ⟨b, 3, none⟩ v4).heap.size = w4.heap.size := by simp [World.setCell]
  have hks : KpF (fun g => g = b) w4 (w4.setCell ⟨b, 3, none⟩ v4) := KpF.setCell w4 _ v4 rfl
  refine ⟨⟨vd, v4, shSet3 hh2, own_kpF (own_kpF (own_below h2 hB) hK fun g hg e => (h6 g e).2.2 hg) hks fun g hg => (h5 g hg).2, own_kpF hD hks fun g hg => ?_, .inl h4, fun g hg => ⟨.inl (h5 g hg).1, (h5 g hg).2⟩, fun g hg => ?_⟩, ?_⟩
  · rcases hob g hg with h | h
    · exact (h6 g h).2.1
    · omega
  · rcases hob g hg with h | h
    · exact ⟨.inl (h6 g h).1, (h6 g h).2.1, (h6 g h).2.2⟩
    · exact ⟨.inr ⟨h, by rw [hsz]; exact (hD.lt g hg).2⟩, by omega, fun e => absurd (h2.lt g e).2 (by omega)⟩
  · exact ((KpF.of_new hB).trans (hK.mono fun k _ hk => (h6 k hk).1)).trans (hks.mono fun k _ hk => by rw [hk]; exact h4)
theorem ShAt.mono {w : World} {b tk L : Nat} {F T : Nat → Prop} {out : List Wk} {fin : List Fl} (h : ShAt w b F tk L out fin) (hs : ∀ g, g < w.heap.size → F g → T g) : ShAt w b T tk L out fin := by
  obtain ⟨v1, v2, h1, h2, h3, h4, h5, h6⟩ := h
  exact ⟨v1, v2, h1, h2, h3, hs b (Array.getElem?_eq_some_iff.1 h1).1 h4, fun g hg => ⟨hs g (h2.lt g hg).2 (h5 g hg).1, (h5 g hg).2⟩, fun g hg => ⟨hs g (h3.lt g hg).2 (h6 g hg).1, (h6 g hg).2⟩⟩
set_option maxHeartbeats 8000000 in
theorem workOn_any {w : World} {b q o tk left : Nat} {F : Nat → Prop} {cur : Array Value} {f : Fl} {out : List Wk} {fin : List Fl} (en : Bool) (h : ShAt w b F tk left out fin) (hf : FlAt w q o cur f) (hq : ¬ F q) (hok : okF f)
    (hl : left ≤ 100000) (hn : out.length < 1000000 ∧ fin.length < 1000000) :
    Calls Tryd.prog 46 #[.pointer (some ⟨b, 0, none⟩), .pointer (some ⟨q, o, none⟩), .bool en] w (fun e w' => WonP w b q o tk left F cur f en out fin (min f.blocks (f.done + left)) e w') := by
  obtain ⟨vd, vf, h1, h2, h3, h4, h5, h6⟩ := h
  obtain ⟨pd, kd, e1, -⟩ := own_shape h2
  obtain ⟨pf, kf, e2, -⟩ := own_shape h3
  subst e1 e2
  have hqb : q ≠ b := fun e => hq (e ▸ h4)
  have sc := shCells h1
  have fc := flCells hf
  obtain ⟨nd, hnd⟩ : ∃ n, out.length = n := ⟨_, rfl⟩
  obtain ⟨nf, hnf⟩ : ∃ n, fin.length = n := ⟨_, rfl⟩
  obtain ⟨P, hP⟩ : ∃ n, mkS f.path = n := ⟨_, rfl⟩
  obtain ⟨B, hB⟩ : ∃ n, f.blocks = n := ⟨_, rfl⟩
  obtain ⟨D, hD⟩ : ∃ n, f.done = n := ⟨_, rfl⟩
  have hok1 := hok.1
  have hok2 := hok.2
  rw [hnd, hnf] at sc
  rw [hP, hB, hD] at fc
  rw [hB] at hok1 hok2
  rw [hD] at hok1
  obtain ⟨s0, s1, s2, s3, sz⟩ := sc
  obtain ⟨f0, f1, f2, fz⟩ := fc
  have hw1 : IntKind.i64.wrap ((D : Int) + (left : Int)) = (D : Int) + (left : Int) := by rw [IntKind.wrap_i64]; omega
  have HIN := Lib.hid (And.intro h1 (And.intro h2 (And.intro h3 (And.intro h4 (And.intro h5 h6)))))
  have HFL := Lib.hid hf
  clear h1 h2 h3 h4 h5 h6 hf
  go_enter Tryd.func46, Tryd.ntmps46
  go_wp2
  refine wp_region_still_tail 14 (by kernel_rfl) (by kernel_rfl) ?_
  simp only [List.take_succ_cons, List.take_zero, List.drop_succ_cons, List.drop_zero, World.drew_eq]
  repeat (refine wpStill_step (fun K hK => ?_); go_simp; (try go_bits); refine hK _ ?_; clear hK K)
  refine wpStill_nil ?_
  obtain ⟨M, hM⟩ : ∃ M, min B (D + left) = M := ⟨_, rfl⟩
  have hmin : min (B : Int) ((D : Int) + (left : Int)) = (M : Int) := by omega
  have hDM : D ≤ M := by omega
  have hMB : M ≤ B := by omega
  have hML : M ≤ D + left := by omega
  rw [hmin]
  go_wp2
  obtain ⟨W2, hW2⟩ : ∃ W, (w.setCell ⟨q, o + 2, none⟩ (.int .i64 (M : Int))).drew = W := ⟨_, rfl⟩
  rw [hW2]
  have hf2 : FlAt W2 q o (cur.setIfInBounds (o + 2) (.int .i64 (M : Int))) { f with done := M } := by rw [← hW2]; exact flSet (HFL.out.keep rfl) M
  have hk2 : KpF (fun g => g = q) w W2 := by rw [← hW2]; exact (KpF.setCell (S := fun g => g = q) w ⟨q, o + 2, none⟩ _ rfl).trans (KpF.drew _)
  have hb2 := (hk2.block b (Array.getElem?_eq_some_iff.1 HIN.out.1).1 (fun e => hqb e.symm)).trans HIN.out.1
  have HK2 := Lib.hid hk2
  have HF2 := Lib.hid hf2
  have HB2 := Lib.hid hb2
  have sc := shCells hb2
  have fc := flCells hf2
  rw [hnd, hnf] at sc
  dsimp only at fc
  rw [hP, hB] at fc
  clear s0 s1 s2 s3 sz f0 f1 f2 fz hW2 hf2 hk2 hb2
  obtain ⟨s0, s1, s2, s3, sz⟩ := sc
  obtain ⟨f0, f1, f2, fz⟩ := fc
  obtain ⟨L, hL⟩ : ∃ L, left - (M - D) = L := ⟨_, rfl⟩
  have hw2 : IntKind.i64.wrap ((M : Int) - (D : Int)) = (M : Int) - (D : Int) := by rw [IntKind.wrap_i64]; omega
  have hw3 : IntKind.i64.wrap ((left : Int) - ((M : Int) - (D : Int))) = (L : Int) := by rw [IntKind.wrap_i64]; omega
  refine wp_region_still_tail 13 (by kernel_rfl) (by kernel_rfl) ?_
  simp only [List.take_succ_cons, List.take_zero, List.drop_succ_cons, List.drop_zero, World.drew_eq]
  repeat (refine wpStill_step (fun K hK => ?_); go_simp; (try go_bits); refine hK _ ?_; clear hK K)
  refine wpStill_nil ?_
  go_wp2
  obtain ⟨W3, hW3⟩ : ∃ W, (W2.setCell ⟨b, 1, none⟩ (.int .i64 (L : Int))).drew = W := ⟨_, rfl⟩
  rw [hW3]
  have hf3 : FlAt W3 q o (cur.setIfInBounds (o + 2) (.int .i64 (M : Int))) { f with done := M } := by
    rw [← hW3]
    exact HF2.out.keep ((KpF.setCell (S := fun g => g = b) W2 ⟨b, 1, none⟩ (.int .i64 (L : Int)) rfl).block q (Array.getElem?_eq_some_iff.1 HF2.out.1).1 hqb)
  have hk3 : KpF (fun g => g = q ∨ g = b) w W3 := by rw [← hW3]; exact ((HK2.out.mono fun _ _ h => .inl h).trans (KpF.setCell _ _ _ (.inr rfl))).trans (KpF.drew _)
  have hb3 : W3.heap[b]? = some (.cells #[.int .i64 (tk : Int), .int .i64 (L : Int), .slice pd out.length kd, .slice pf fin.length kf] 80 (0, 0)) := by rw [← hW3]; exact shSet1 HB2.out
  have HK3 := Lib.hid hk3
  have HF3 := Lib.hid hf3
  have HB3 := Lib.hid hb3
  have sc := shCells hb3
  have fc := flCells hf3
  rw [hnd, hnf] at sc
  dsimp only at fc
  rw [hP, hB] at fc
  clear s0 s1 s2 s3 sz f0 f1 f2 fz hW3 hf3 hk3 hb3 HB2 HF2 HK2
  obtain ⟨s0, s1, s2, s3, sz⟩ := sc
  obtain ⟨f0, f1, f2, fz⟩ := fc
  obtain ⟨fb, hfb⟩ : ∃ x, decide (M = B) = x := ⟨_, rfl⟩
  have HFB := Lib.hid hfb
  have hq1 : decide ((M : Int) = (B : Int)) = fb := by rw [← hfb]; by_cases h : M = B <;> simp [h] <;> omega
  have hq2 : ((M : Int) == (B : Int)) = fb := by rw [← hfb]; by_cases h : M = B <;> simp [h] <;> omega
  refine wp_region_still_tail 9 (by kernel_rfl) (by kernel_rfl) ?_
  simp only [List.take_succ_cons, List.take_zero, List.drop_succ_cons, List.drop_zero, World.drew_eq]
  repeat (refine wpStill_step (fun K hK => ?_); go_simp; (try go_bits); refine hK _ ?_; clear hK K)
  refine wpStill_nil ?_
  go_wp2
  have HQL := Lib.hid (show q < W3.heap.size from (Array.getElem?_eq_some_iff.1 HF3.out.1).1)
  have HBL := Lib.hid (show b < W3.heap.size from (Array.getElem?_eq_some_iff.1 HB3.out).1)
  have HNE := Lib.hid (And.intro hP (And.intro hB (And.intro hD (And.intro hnd hnf))))
  have HOD := Lib.hid (show ∀ u, Below W3.heap.size W3 u → u.ownsRow 0 EW 5 (.slice pd nd kd) nd (wksC out) from fun u hu => by
    rw [← hnd]
    exact own_below (own_kpF HIN.out.2.1 HK3.out fun g hg e => by
      rcases e with e | e
      · exact hq (e ▸ (HIN.out.2.2.2.2.1 g hg).1)
      · exact (HIN.out.2.2.2.2.1 g hg).2 e) hu)
  have HOF3 := Lib.hid (show ∀ u, Below W3.heap.size W3 u → u.ownsRow 0 EF 4 (.slice pf nf kf) nf (flsC fin) from fun u hu => by
    rw [← hnf]
    exact own_below (own_kpF HIN.out.2.2.1 HK3.out fun g hg e => by
      rcases e with e | e
      · exact hq (e ▸ (HIN.out.2.2.2.2.2 g hg).1)
      · exact (HIN.out.2.2.2.2.2 g hg).2.1 e) hu)
  have HQN := Lib.hid (show (Value.slice pd nd kd).ownBlock ≠ some q from fun e => hq (HIN.out.2.2.2.2.1 q (by rw [hnd]; exact e)).1)
  have HBN := Lib.hid (show (Value.slice pd nd kd).ownBlock ≠ some b from fun e => (HIN.out.2.2.2.2.1 b (by rw [hnd]; exact e)).2 rfl)
  have HS := Lib.hid (show ∀ u : World, u.heap[q]? = W3.heap[q]? → u.cell? ⟨q, o, none⟩ = some (.string P) ∧ u.cell? ⟨q, o + 2, none⟩ = some (.int .i64 (M : Int)) from fun u hu => by
    have fc := flCells (HF3.out.keep hu)
    dsimp only at fc
    rw [hP] at fc
    exact ⟨fc.1, fc.2.2.1⟩)
  have HCB := Lib.hid (show ∀ u : World, Below W3.heap.size W3 u → u.cell? ⟨b, 2, none⟩ = some (.slice pd nd kd) ∧ True from fun u hu => by
    have sc := shCells ((hu.block b HBL.out).trans HB3.out)
    rw [hnd] at sc
    exact ⟨sc.2.2.1, trivial⟩)
  have HCB4 := Lib.hid (show ∀ u : World, u.heap[b]? = W3.heap[b]? → u.cell? ⟨b, 2, none⟩ = some (.slice pd nd kd) ∧ u.frozen? ⟨b, 2, none⟩ = false from fun u hu => by
    have sc := shCells (hu.trans HB3.out)
    rw [hnd] at sc
    exact ⟨sc.2.2.1, sc.2.2.2.2 2⟩)
  have HFLW := HF3
  have HSH3 := Lib.hid (show (∀ g, (Value.slice pd nd kd).ownBlock = some g → F g ∧ g ≠ b) ∧ (∀ g, (Value.slice pf nf kf).ownBlock = some g → F g ∧ g ≠ b ∧ (Value.slice pd nd kd).ownBlock ≠ some g) ∧ W3.heap[b]? = some (.cells #[.int .i64 (tk : Int), .int .i64 (L : Int), .slice pd nd kd, .slice pf nf kf] 80 (0, 0)) from by
    rw [← hnd, ← hnf]
    exact ⟨HIN.out.2.2.2.2.1, HIN.out.2.2.2.2.2, HB3.out⟩)
  have HML := Lib.hid (And.intro hM hL)
  have HQ := Lib.hid hq
  clear s0 s1 s2 s3 sz f0 f1 f2 fz
  refine wp_region_noPanic ?_
  refine wp_region_held_drew (S := (fun u : World => u.cell? ⟨q, o, none⟩ = some (.string P) ∧ u.cell? ⟨q, o + 2, none⟩ = some (.int .i64 (M : Int)))) (by kernel_rfl) (HS.out _ rfl) (fun hHeld => ?_)
  generalize hgx : W3.drew.drew = x at hHeld ⊢
  have HXx := Lib.hid (show Below W3.heap.size W3 x from by rw [← hgx]; exact (Below.refl _ _).drew.drew)
  clear hgx
  refine wpAnyH_take (i := 0) (v := ?_) (by simp only [List.getElem?_toArray, List.getElem?_cons_succ, List.getElem?_cons_zero]; exact rfl) (by kernel_rfl) (by kernel_rfl) (by kernel_rfl) (fun _ _ _ h => h) (Or.inl ⟨by rfl, ?_⟩) (by assumption) ?_
  rotate_left 1
  · (intro w hSw; (try dsimp only at hSw); go_simp; try with_reducible rfl)
  try simp only [Act.put, List.setIfInBounds_toArray, List.set_cons_zero, List.set_cons_succ]
  refine wpAnyH_take (i := 1) (v := ?_) (by simp only [List.getElem?_toArray, List.getElem?_cons_succ, List.getElem?_cons_zero]; exact rfl) (by kernel_rfl) (by kernel_rfl) (by kernel_rfl) (fun _ _ _ h => h) (Or.inl ⟨by rfl, ?_⟩) (by assumption) ?_
  rotate_left 1
  · (intro w hSw; (try dsimp only at hSw); go_simp; try with_reducible rfl)
  try simp only [Act.put, List.setIfInBounds_toArray, List.set_cons_zero, List.set_cons_succ]
  refine wpAnyH_take (i := 2) (v := ?_) (by simp only [List.getElem?_toArray, List.getElem?_cons_succ, List.getElem?_cons_zero]; exact rfl) (by kernel_rfl) (by kernel_rfl) (by kernel_rfl) (fun _ _ _ h => h) (Or.inl ⟨by rfl, ?_⟩) (by assumption) ?_
  rotate_left 1
  · (intro w hSw; (try dsimp only at hSw); go_simp; try with_reducible rfl)
  try simp only [Act.put, List.setIfInBounds_toArray, List.set_cons_zero, List.set_cons_succ]
  refine wpAnyH_take (i := 3) (v := ?_) (by simp only [List.getElem?_toArray, List.getElem?_cons_succ, List.getElem?_cons_zero]; exact rfl) (by kernel_rfl) (by kernel_rfl) (by kernel_rfl) (fun _ _ _ h => h) (Or.inl ⟨by rfl, ?_⟩) (by assumption) ?_
  rotate_left 1
  · (intro w hSw; (try dsimp only at hSw); go_simp; try with_reducible rfl)
  try simp only [Act.put, List.setIfInBounds_toArray, List.set_cons_zero, List.set_cons_succ]
  refine wpAnyH_take (i := 5) (v := ?_) (by simp only [List.getElem?_toArray, List.getElem?_cons_succ, List.getElem?_cons_zero]; exact rfl) (by kernel_rfl) (by kernel_rfl) (by kernel_rfl) (fun _ _ _ h => h) (Or.inl ⟨by rfl, ?_⟩) (by assumption) ?_
  rotate_left 1
  · (intro w hSw; (try dsimp only at hSw); go_simp; try with_reducible rfl)
  try simp only [Act.put, List.setIfInBounds_toArray, List.set_cons_zero, List.set_cons_succ]
  refine wpAnyH_take (i := 6) (v := ?_) (by simp only [List.getElem?_toArray, List.getElem?_cons_succ, List.getElem?_cons_zero]; exact rfl) (by kernel_rfl) (by kernel_rfl) (by kernel_rfl) (fun _ _ _ h => h) (Or.inl ⟨by rfl, ?_⟩) (by assumption) ?_
  rotate_left 1
  · (intro w hSw; (try dsimp only at hSw); go_simp; try with_reducible rfl)
  try simp only [Act.put, List.setIfInBounds_toArray, List.set_cons_zero, List.set_cons_succ]
  refine wpAnyH_take (i := 7) (v := ?_) (by simp only [List.getElem?_toArray, List.getElem?_cons_succ, List.getElem?_cons_zero]; exact rfl) (by kernel_rfl) (by kernel_rfl) (by kernel_rfl) (fun _ _ _ h => h) (Or.inl ⟨by rfl, ?_⟩) (by assumption) ?_
  rotate_left 1
  · (intro w hSw; (try dsimp only at hSw); go_simp; try with_reducible rfl)
  try simp only [Act.put, List.setIfInBounds_toArray, List.set_cons_zero, List.set_cons_succ]
  refine wpAnyH_take (i := 8) (v := ?_) (by simp only [List.getElem?_toArray, List.getElem?_cons_succ, List.getElem?_cons_zero]; exact rfl) (by kernel_rfl) (by kernel_rfl) (by kernel_rfl) (fun _ _ _ h => h) (Or.inl ⟨by rfl, ?_⟩) (by assumption) ?_
  rotate_left 1
  · (intro w hSw; (try dsimp only at hSw); go_simp; try with_reducible rfl)
  try simp only [Act.put, List.setIfInBounds_toArray, List.set_cons_zero, List.set_cons_succ]
  refine wpAnyH_take (i := 9) (v := ?_) (by simp only [List.getElem?_toArray, List.getElem?_cons_succ, List.getElem?_cons_zero]; exact rfl) (by kernel_rfl) (by kernel_rfl) (by kernel_rfl) (fun _ _ _ h => h) (Or.inl ⟨by rfl, ?_⟩) (by assumption) ?_
  rotate_left 1
  · (intro w hSw; (try dsimp only at hSw); go_simp; try with_reducible rfl)
  try simp only [Act.put, List.setIfInBounds_toArray, List.set_cons_zero, List.set_cons_succ]
  refine wpAnyH_take (i := 10) (v := ?_) (by simp only [List.getElem?_toArray, List.getElem?_cons_succ, List.getElem?_cons_zero]; exact rfl) (by kernel_rfl) (by kernel_rfl) (by kernel_rfl) (fun _ _ _ h => h) (Or.inl ⟨by rfl, ?_⟩) (by assumption) ?_
  rotate_left 1
  · (intro w hSw; (try dsimp only at hSw); go_simp; try with_reducible rfl)
  try simp only [Act.put, List.setIfInBounds_toArray, List.set_cons_zero, List.set_cons_succ]
  refine wpAnyH_take (i := 11) (v := ?_) (by simp only [List.getElem?_toArray, List.getElem?_cons_succ, List.getElem?_cons_zero]; exact rfl) (by kernel_rfl) (by kernel_rfl) (by kernel_rfl) (fun _ _ _ h => h) (Or.inl ⟨by rfl, ?_⟩) (by assumption) ?_
  rotate_left 1
  · (intro w hSw; (try dsimp only at hSw); go_simp; try with_reducible rfl)
  try simp only [Act.put, List.setIfInBounds_toArray, List.set_cons_zero, List.set_cons_succ]
  refine wpAnyH_take (i := 12) (v := ?_) (by simp only [List.getElem?_toArray, List.getElem?_cons_succ, List.getElem?_cons_zero]; exact rfl) (by kernel_rfl) (by kernel_rfl) (by kernel_rfl) (fun _ _ _ h => h) (Or.inl ⟨by rfl, ?_⟩) (by assumption) ?_
  rotate_left 1
  · (intro w hSw; (try dsimp only at hSw); go_simp; try with_reducible rfl)
  try simp only [Act.put, List.setIfInBounds_toArray, List.set_cons_zero, List.set_cons_succ]
  refine wpAnyH_take (i := 13) (v := ?_) (by simp only [List.getElem?_toArray, List.getElem?_cons_succ, List.getElem?_cons_zero]; exact rfl) (by kernel_rfl) (by kernel_rfl) (by kernel_rfl) (fun _ _ _ h => h) (Or.inl ⟨by rfl, ?_⟩) (by assumption) ?_
  rotate_left 1
  · (intro w hSw; (try dsimp only at hSw); go_simp; try with_reducible rfl)
  try simp only [Act.put, List.setIfInBounds_toArray, List.set_cons_zero, List.set_cons_succ]
  refine wpAnyH_take (i := 14) (v := ?_) (by simp only [List.getElem?_toArray, List.getElem?_cons_succ, List.getElem?_cons_zero]; exact rfl) (by kernel_rfl) (by kernel_rfl) (by kernel_rfl) (fun _ _ _ h => h) (Or.inl ⟨by rfl, ?_⟩) (by assumption) ?_
  rotate_left 1
  · (intro w hSw; (try dsimp only at hSw); go_simp; try with_reducible rfl)
  try simp only [Act.put, List.setIfInBounds_toArray, List.set_cons_zero, List.set_cons_succ]
  refine wpAnyH_take (i := 15) (v := ?_) (by simp only [List.getElem?_toArray, List.getElem?_cons_succ, List.getElem?_cons_zero]; exact rfl) (by kernel_rfl) (by kernel_rfl) (by kernel_rfl) (fun _ _ _ h => h) (Or.inl ⟨by rfl, ?_⟩) (by assumption) ?_
  rotate_left 1
  · (intro w hSw; (try dsimp only at hSw); go_simp; try with_reducible rfl)
  try simp only [Act.put, List.setIfInBounds_toArray, List.set_cons_zero, List.set_cons_succ]
  refine wpAnyH_take (i := 16) (v := ?_) (by simp only [List.getElem?_toArray, List.getElem?_cons_succ, List.getElem?_cons_zero]; exact rfl) (by kernel_rfl) (by kernel_rfl) (by kernel_rfl) (fun _ _ _ h => h) (Or.inl ⟨by rfl, ?_⟩) (by assumption) ?_
  rotate_left 1
  · (intro w hSw; (try dsimp only at hSw); go_simp; try with_reducible rfl)
  try simp only [Act.put, List.setIfInBounds_toArray, List.set_cons_zero, List.set_cons_succ]
  refine wpAnyH_ready (rs := [4, 17]) (by kernel_rfl) (by simp) ?_
  refine (AllReadyH.cons (by simp only [List.getElem?_toArray, List.getElem?_cons_succ, List.getElem?_cons_zero]; exact rfl) (fun K hK => ?_) (AllReadyH.cons (by simp only [List.getElem?_toArray, List.getElem?_cons_succ, List.getElem?_cons_zero]; exact rfl) (fun K hK => ?_) AllReadyH.nil))
  · have hc := (HCB.out x HXx.out).1
    go_simp
    refine hK.out _ _ (by assumption) (fun hHeld => ?_)
    clear hc
    clear hK K
    try simp only [Act.put, List.setIfInBounds_toArray, List.set_cons_zero, List.set_cons_succ]
    refine wpAnyH_ready (rs := [17]) (by kernel_rfl) (by simp) ?_
    refine (AllReadyH.cons (by simp only [List.getElem?_toArray, List.getElem?_cons_succ, List.getElem?_cons_zero]; exact rfl) (fun K hK => ?_) AllReadyH.nil)
    go_simp
    have hbx : Below W3.heap.size W3 (x.alloc (.cells #[.string P, .int .i64 (D : Int), .int .i64 (M : Int), .bool en, .bool fb] EW)) := HXx.out.alloc HXx.out.size _
    have hlx : LsC (x.alloc (.cells #[.string P, .int .i64 (D : Int), .int .i64 (M : Int), .bool en, .bool fb] EW)) (some ⟨x.heap.size, 0, none⟩) (wkC ⟨f.path, D, M, en, fb⟩) := by rw [← HNE.out.1]; exact LsC.made x (wkC ⟨f.path, D, M, en, fb⟩) EW
    refine hK.out _ _ (HS.out _ (hbx.block q HQL.out)) (fun hHeld => ?_)
    generalize x.alloc (.cells #[.string P, .int .i64 (D : Int), .int .i64 (M : Int), .bool en, .bool fb] EW) = x1 at hbx hlx hHeld ⊢
    have HXx1 := Lib.hid hbx
    have HLx := Lib.hid hlx
    clear hbx hlx
    clear hK K
    try simp only [Act.put, List.setIfInBounds_toArray, List.set_cons_zero, List.set_cons_succ]
    refine wpAnyH_ready (rs := [18]) (by kernel_rfl) (by simp) ?_
    refine (AllReadyH.cons (by simp only [List.getElem?_toArray, List.getElem?_cons_succ, List.getElem?_cons_zero]; exact rfl) (fun K hK => ?_) AllReadyH.nil)
    refine step_appendK elW x1 rfl (.tmp 53) (.tmp 66) rfl 0 (n := nd) (v := .slice pd nd kd) (cs := wksC out) rfl (HOD.out x1 HXx1.out) (some ⟨x.heap.size, 0, none⟩) 1 1 (wkC ⟨f.path, D, M, en, fb⟩) rfl rfl HLx.out (fun h => by cases h) (wkC_one _) (by omega) (Nat.zero_le _) ?_
    rintro v4 w4 hO4 hg4 hor4
    have hq4 : w4.heap[q]? = W3.heap[q]? := (hg4.block q (Nat.lt_of_lt_of_le HQL.out HXx1.out.size) (fun e => HQN.out e.symm)).trans (HXx1.out.block q HQL.out)
    have hb4 : w4.heap[b]? = W3.heap[b]? := (hg4.block b (Nat.lt_of_lt_of_le HBL.out HXx1.out.size) (fun e => HBN.out e.symm)).trans (HXx1.out.block b HBL.out)
    have HO4 := Lib.hid hO4
    have HG4 := Lib.hid (And.intro hg4 hor4)
    have HQ4 := Lib.hid hq4
    have HB4 := Lib.hid hb4
    obtain ⟨p4, k4, e4, -⟩ := own_shape hO4
    subst e4
    refine hK.out _ _ (HS.out _ hq4) (fun hHeld => ?_)
    clear hO4 hg4 hor4 hq4 hb4
    clear hK K
    try simp only [Act.put, List.setIfInBounds_toArray, List.set_cons_zero, List.set_cons_succ]
    refine wpAnyH_take (i := 19) (v := ?_) (by simp only [List.getElem?_toArray, List.getElem?_cons_succ, List.getElem?_cons_zero]; exact rfl) (by kernel_rfl) (by kernel_rfl) (by kernel_rfl) (fun _ _ _ h => h) (Or.inl ⟨by rfl, ?_⟩) (by assumption) ?_
    rotate_left 1
    · (intro w hSw; (try dsimp only at hSw); go_simp; try with_reducible rfl)
    try simp only [Act.put, List.setIfInBounds_toArray, List.set_cons_zero, List.set_cons_succ]
    refine wpAnyH_take (i := 20) (v := ?_) (by simp only [List.getElem?_toArray, List.getElem?_cons_succ, List.getElem?_cons_zero]; exact rfl) (by kernel_rfl) (by kernel_rfl) (by kernel_rfl) (fun _ _ _ h => h) (Or.inl ⟨by rfl, ?_⟩) (by assumption) ?_
    rotate_left 1
    · (intro w hSw; (try dsimp only at hSw); go_simp; try with_reducible rfl)
    try simp only [Act.put, List.setIfInBounds_toArray, List.set_cons_zero, List.set_cons_succ]
    refine wpAnyH_ready (rs := [21]) (by kernel_rfl) (by simp) ?_
    refine (AllReadyH.cons (by simp only [List.getElem?_toArray, List.getElem?_cons_succ, List.getElem?_cons_zero]; exact rfl) (fun K hK => ?_) AllReadyH.nil)
    have c5 := (HCB4.out w4 HB4.out).1
    have c6 := (HCB4.out w4 HB4.out).2
    have hs4 := (KpF.setCell (S := fun g => g = b) w4 ⟨b, 2, none⟩ (.slice p4 (nd + 1) k4) rfl)
    have hq5 := (hs4.block q (Array.getElem?_eq_some_iff.1 (HQ4.out.trans (HFLW.out).1)).1 hqb).trans HQ4.out
    have HQ5 := Lib.hid hq5
    have HS5 := Lib.hid hs4
    go_simp
    refine hK.out _ _ (HS.out _ hq5) (fun hHeld => ?_)
    clear c5 c6 hs4 hq5
    clear hK K
    try simp only [Act.put, List.setIfInBounds_toArray, List.set_cons_zero, List.set_cons_succ]
    refine wpAnyH_done (by kernel_rfl) ?_ _
    refine NoPanic.normal ?_
    clear hHeld
    have hsh := shUpd2 (out' := out ++ [⟨f.path, D, M, en, fb⟩]) HSH3.out.2.2 (by rw [HNE.out.2.2.2.2]; exact HOF3.out W3 (Below.refl _ _)) HIN.out.2.2.2.1 HSH3.out.1 HSH3.out.2.1 HXx1.out (KpF.of_grown HG4.out.1 fun k hk => hk) (by rw [wksC_app, wksC_one, List.length_append, HNE.out.2.2.2.1]; exact HO4.out) (fun g hg => by
      rcases HG4.out.2 with h | h
      · left; rw [← h]; exact hg
      · rw [h] at hg
        injection hg with hg
        right
        have := HXx1.out.size
        omega)
    obtain ⟨W5, hW5⟩ : ∃ W, w4.setCell ⟨b, 2, none⟩ (.slice p4 (nd + 1) k4) = W := ⟨_, rfl⟩
    rw [hW5] at hsh HQ5
    rw [hW5]
    have HQ5 := HQ5
    have HSH5 := Lib.hid hsh.1
    have HK5 := Lib.hid hsh.2
    have hfl5 := HF3.out.keep HQ5.out
    have HF5 := Lib.hid hfl5
    have hnq : ¬ newF F W3 W5 q := fun e => by
      rcases e with e | e
      · exact HQ.out e
      · exact absurd e.1 (by have := HQL.out; omega)
    have HNQ := Lib.hid hnq
    clear hsh hW5 hfl5 hnq HO4 HG4 HQ4 HB4 HXx HXx1 HLx
    cases fb with
    | false =>
      go_wp2
      go_ret
      have hne : M ≠ f.blocks := fun e => by
        have h1 := HFB.out
        rw [decide_eq_true (by rw [e, HNE.out.2.1])] at h1
        cases h1
      refine ⟨by rw [HNE.out.2.1, HNE.out.2.2.1, HML.out.1, ← HNE.out.2.1, decide_eq_false hne]; rfl, ?_, ?_, ?_⟩
      · rw [show min f.blocks (f.done + left) = M by rw [HNE.out.2.1, HNE.out.2.2.1, HML.out.1]]; exact HF5.out
      · rw [HNE.out.2.1, HNE.out.2.2.1, HML.out.1, HML.out.2, ← HNE.out.2.1, if_neg hne, decide_eq_false hne]
        exact HSH5.out.mono fun g hg hF => by
          rcases hF with hF | hF
          · exact .inl hF
          · exact .inr ⟨Nat.le_trans HK3.out.size hF.1, hF.2⟩
      · exact (HK3.out.mono fun k _ hk => by
          rcases hk with hk | hk
          · exact .inr hk
          · exact .inl (hk ▸ HIN.out.2.2.2.1)).trans (HK5.out.mono fun k _ hk => .inl hk)
    | true =>
      obtain ⟨vd5, vf5, g1, g2, g3, g4, g5, g6⟩ := HSH5.out
      obtain ⟨pf, kf, e5, -⟩ := own_shape g3
      subst e5
      rw [HNE.out.2.2.2.2] at g1 g3 g6
      have HG5 := Lib.hid (And.intro g1 (And.intro g2 (And.intro g4 (And.intro g5 g6))))
      have HQL := Lib.hid (show q < W5.heap.size from (Array.getElem?_eq_some_iff.1 HF5.out.1).1)
      have HBL := Lib.hid (show b < W5.heap.size from (Array.getElem?_eq_some_iff.1 g1).1)
      have HOF := Lib.hid (show ∀ u, Below W5.heap.size W5 u → u.ownsRow 0 EF 4 (.slice pf nf kf) nf (flsC fin) from fun u hu => own_below g3 hu)
      have HQN := Lib.hid (show (Value.slice pf nf kf).ownBlock ≠ some q from fun e => HNQ.out (g6 q e).1)
      have HBN := Lib.hid (show (Value.slice pf nf kf).ownBlock ≠ some b from fun e => (g6 b e).2.1 rfl)
      have HFLW := HF5
      have HS := Lib.hid (show ∀ u : World, u.heap[q]? = W5.heap[q]? → u.cell? ⟨q, o, none⟩ = some (.string P) ∧ u.cell? ⟨q, o + 1, none⟩ = some (.int .i64 (B : Int)) from fun u hu => by
        have fc := flCells (HF5.out.keep hu)
        dsimp only at fc
        rw [HNE.out.1, HNE.out.2.1] at fc
        exact ⟨fc.1, fc.2.1⟩)
      have HCB := Lib.hid (show ∀ u : World, Below W5.heap.size W5 u → u.cell? ⟨b, 3, none⟩ = some (.slice pf nf kf) ∧ u.cell? ⟨b, 0, none⟩ = some (.int .i64 (tk : Int)) from fun u hu => by
        have sc := shCells ((hu.block b HBL.out).trans g1)
        exact ⟨sc.2.2.2.1, sc.1⟩)
      have HCB4 := Lib.hid (show ∀ u : World, u.heap[b]? = W5.heap[b]? → u.cell? ⟨b, 3, none⟩ = some (.slice pf nf kf) ∧ u.frozen? ⟨b, 3, none⟩ = false from fun u hu => by
        have sc := shCells (hu.trans g1)
        exact ⟨sc.2.2.2.1, sc.2.2.2.2 3⟩)
      clear g1 g2 g3 g4 g5 g6
      go_wp2
      refine wp_region_noPanic ?_
      refine wp_region_held_drew (S := (fun u : World => u.cell? ⟨q, o, none⟩ = some (.string P) ∧ u.cell? ⟨q, o + 1, none⟩ = some (.int .i64 (B : Int)))) (by kernel_rfl) (HS.out _ rfl) (fun hHeld => ?_)
      generalize hgx : W5.drew = x at hHeld ⊢
      have HXx := Lib.hid (show Below W5.heap.size W5 x from by rw [← hgx]; exact (Below.refl _ _).drew)
      clear hgx
      refine wpAnyH_take (i := 0) (v := ?_) (by simp only [List.getElem?_toArray, List.getElem?_cons_succ, List.getElem?_cons_zero]; exact rfl) (by kernel_rfl) (by kernel_rfl) (by kernel_rfl) (fun _ _ _ h => h) (Or.inl ⟨by rfl, ?_⟩) (by assumption) ?_
      rotate_left 1
      · (intro w hSw; (try dsimp only at hSw); go_simp; try with_reducible rfl)
      try simp only [Act.put, List.setIfInBounds_toArray, List.set_cons_zero, List.set_cons_succ]
      refine wpAnyH_take (i := 1) (v := ?_) (by simp only [List.getElem?_toArray, List.getElem?_cons_succ, List.getElem?_cons_zero]; exact rfl) (by kernel_rfl) (by kernel_rfl) (by kernel_rfl) (fun _ _ _ h => h) (Or.inl ⟨by rfl, ?_⟩) (by assumption) ?_
      rotate_left 1
      · (intro w hSw; (try dsimp only at hSw); go_simp; try with_reducible rfl)
      try simp only [Act.put, List.setIfInBounds_toArray, List.set_cons_zero, List.set_cons_succ]
      refine wpAnyH_take (i := 2) (v := ?_) (by simp only [List.getElem?_toArray, List.getElem?_cons_succ, List.getElem?_cons_zero]; exact rfl) (by kernel_rfl) (by kernel_rfl) (by kernel_rfl) (fun _ _ _ h => h) (Or.inl ⟨by rfl, ?_⟩) (by assumption) ?_
      rotate_left 1
      · (intro w hSw; (try dsimp only at hSw); go_simp; try with_reducible rfl)
      try simp only [Act.put, List.setIfInBounds_toArray, List.set_cons_zero, List.set_cons_succ]
      refine wpAnyH_take (i := 3) (v := ?_) (by simp only [List.getElem?_toArray, List.getElem?_cons_succ, List.getElem?_cons_zero]; exact rfl) (by kernel_rfl) (by kernel_rfl) (by kernel_rfl) (fun _ _ _ h => h) (Or.inl ⟨by rfl, ?_⟩) (by assumption) ?_
      rotate_left 1
      · (intro w hSw; (try dsimp only at hSw); go_simp; try with_reducible rfl)
      try simp only [Act.put, List.setIfInBounds_toArray, List.set_cons_zero, List.set_cons_succ]
      refine wpAnyH_take (i := 5) (v := ?_) (by simp only [List.getElem?_toArray, List.getElem?_cons_succ, List.getElem?_cons_zero]; exact rfl) (by kernel_rfl) (by kernel_rfl) (by kernel_rfl) (fun _ _ _ h => h) (Or.inl ⟨by rfl, ?_⟩) (by assumption) ?_
      rotate_left 1
      · (intro w hSw; (try dsimp only at hSw); go_simp; try with_reducible rfl)
      try simp only [Act.put, List.setIfInBounds_toArray, List.set_cons_zero, List.set_cons_succ]
      refine wpAnyH_take (i := 6) (v := ?_) (by simp only [List.getElem?_toArray, List.getElem?_cons_succ, List.getElem?_cons_zero]; exact rfl) (by kernel_rfl) (by kernel_rfl) (by kernel_rfl) (fun _ _ _ h => h) (Or.inl ⟨by rfl, ?_⟩) (by assumption) ?_
      rotate_left 1
      · (intro w hSw; (try dsimp only at hSw); go_simp; try with_reducible rfl)
      try simp only [Act.put, List.setIfInBounds_toArray, List.set_cons_zero, List.set_cons_succ]
      refine wpAnyH_take (i := 7) (v := ?_) (by simp only [List.getElem?_toArray, List.getElem?_cons_succ, List.getElem?_cons_zero]; exact rfl) (by kernel_rfl) (by kernel_rfl) (by kernel_rfl) (fun _ _ _ h => h) (Or.inl ⟨by rfl, ?_⟩) (by assumption) ?_
      rotate_left 1
      · (intro w hSw; (try dsimp only at hSw); go_simp; try with_reducible rfl)
      try simp only [Act.put, List.setIfInBounds_toArray, List.set_cons_zero, List.set_cons_succ]
      refine wpAnyH_take (i := 8) (v := ?_) (by simp only [List.getElem?_toArray, List.getElem?_cons_succ, List.getElem?_cons_zero]; exact rfl) (by kernel_rfl) (by kernel_rfl) (by kernel_rfl) (fun _ _ _ h => h) (Or.inl ⟨by rfl, ?_⟩) (by assumption) ?_
      rotate_left 1
      · (intro w hSw; (try dsimp only at hSw); go_simp; try with_reducible rfl)
      try simp only [Act.put, List.setIfInBounds_toArray, List.set_cons_zero, List.set_cons_succ]
      refine wpAnyH_take (i := 9) (v := ?_) (by simp only [List.getElem?_toArray, List.getElem?_cons_succ, List.getElem?_cons_zero]; exact rfl) (by kernel_rfl) (by kernel_rfl) (by kernel_rfl) (fun _ _ _ h => h) (Or.inl ⟨by rfl, ?_⟩) (by assumption) ?_
      rotate_left 1
      · (intro w hSw; (try dsimp only at hSw); go_simp; try with_reducible rfl)
      try simp only [Act.put, List.setIfInBounds_toArray, List.set_cons_zero, List.set_cons_succ]
      refine wpAnyH_take (i := 10) (v := ?_) (by simp only [List.getElem?_toArray, List.getElem?_cons_succ, List.getElem?_cons_zero]; exact rfl) (by kernel_rfl) (by kernel_rfl) (by kernel_rfl) (fun _ _ _ h => h) (Or.inl ⟨by rfl, ?_⟩) (by assumption) ?_
      rotate_left 1
      · (intro w hSw; (try dsimp only at hSw); go_simp; try with_reducible rfl)
      try simp only [Act.put, List.setIfInBounds_toArray, List.set_cons_zero, List.set_cons_succ]
      refine wpAnyH_take (i := 11) (v := ?_) (by simp only [List.getElem?_toArray, List.getElem?_cons_succ, List.getElem?_cons_zero]; exact rfl) (by kernel_rfl) (by kernel_rfl) (by kernel_rfl) (fun _ _ _ h => h) (Or.inl ⟨by rfl, ?_⟩) (by assumption) ?_
      rotate_left 1
      · (intro w hSw; (try dsimp only at hSw); go_simp; try with_reducible rfl)
      try simp only [Act.put, List.setIfInBounds_toArray, List.set_cons_zero, List.set_cons_succ]
      refine wpAnyH_take (i := 12) (v := ?_) (by simp only [List.getElem?_toArray, List.getElem?_cons_succ, List.getElem?_cons_zero]; exact rfl) (by kernel_rfl) (by kernel_rfl) (by kernel_rfl) (fun _ _ _ h => h) (Or.inl ⟨by rfl, ?_⟩) (by assumption) ?_
      rotate_left 1
      · (intro w hSw; (try dsimp only at hSw); go_simp; try with_reducible rfl)
      try simp only [Act.put, List.setIfInBounds_toArray, List.set_cons_zero, List.set_cons_succ]
      refine wpAnyH_take (i := 13) (v := ?_) (by simp only [List.getElem?_toArray, List.getElem?_cons_succ, List.getElem?_cons_zero]; exact rfl) (by kernel_rfl) (by kernel_rfl) (by kernel_rfl) (fun _ _ _ h => h) (Or.inl ⟨by rfl, ?_⟩) (by assumption) ?_
      rotate_left 1
      · (intro w hSw; (try dsimp only at hSw); go_simp; try with_reducible rfl)
      try simp only [Act.put, List.setIfInBounds_toArray, List.set_cons_zero, List.set_cons_succ]
      refine wpAnyH_take (i := 14) (v := ?_) (by simp only [List.getElem?_toArray, List.getElem?_cons_succ, List.getElem?_cons_zero]; exact rfl) (by kernel_rfl) (by kernel_rfl) (by kernel_rfl) (fun _ _ _ h => h) (Or.inl ⟨by rfl, ?_⟩) (by assumption) ?_
      rotate_left 1
      · (intro w hSw; (try dsimp only at hSw); go_simp; try with_reducible rfl)
      try simp only [Act.put, List.setIfInBounds_toArray, List.set_cons_zero, List.set_cons_succ]
      refine wpAnyH_take (i := 15) (v := ?_) (by simp only [List.getElem?_toArray, List.getElem?_cons_succ, List.getElem?_cons_zero]; exact rfl) (by kernel_rfl) (by kernel_rfl) (by kernel_rfl) (fun _ _ _ h => h) (Or.inl ⟨by rfl, ?_⟩) (by assumption) ?_
      rotate_left 1
      · (intro w hSw; (try dsimp only at hSw); go_simp; try with_reducible rfl)
      try simp only [Act.put, List.setIfInBounds_toArray, List.set_cons_zero, List.set_cons_succ]
      refine wpAnyH_ready (rs := [4, 16]) (by kernel_rfl) (by simp) ?_
      refine (AllReadyH.cons (by simp only [List.getElem?_toArray, List.getElem?_cons_succ, List.getElem?_cons_zero]; exact rfl) (fun K hK => ?_) (AllReadyH.cons (by simp only [List.getElem?_toArray, List.getElem?_cons_succ, List.getElem?_cons_zero]; exact rfl) (fun K hK => ?_) AllReadyH.nil))
      · have hc := (HCB.out x HXx.out).1
        go_simp
        refine hK.out _ _ (by assumption) (fun hHeld => ?_)
        clear hc
        clear hK K
        try simp only [Act.put, List.setIfInBounds_toArray, List.set_cons_zero, List.set_cons_succ]
        refine wpAnyH_ready (rs := [16]) (by kernel_rfl) (by simp) ?_
        refine (AllReadyH.cons (by simp only [List.getElem?_toArray, List.getElem?_cons_succ, List.getElem?_cons_zero]; exact rfl) (fun K hK => ?_) AllReadyH.nil)
        have hc := (HCB.out x HXx.out).2
        go_simp
        refine hK.out _ _ (by assumption) (fun hHeld => ?_)
        clear hc
        clear hK K
        try simp only [Act.put, List.setIfInBounds_toArray, List.set_cons_zero, List.set_cons_succ]
        refine wpAnyH_take (i := 17) (v := ?_) (by simp only [List.getElem?_toArray, List.getElem?_cons_succ, List.getElem?_cons_zero]; exact rfl) (by kernel_rfl) (by kernel_rfl) (by kernel_rfl) (fun _ _ _ h => h) (Or.inl ⟨by rfl, ?_⟩) (by assumption) ?_
        rotate_left 1
        · (intro w hSw; (try dsimp only at hSw); go_simp; try with_reducible rfl)
        try simp only [Act.put, List.setIfInBounds_toArray, List.set_cons_zero, List.set_cons_succ]
        refine wpAnyH_ready (rs := [18]) (by kernel_rfl) (by simp) ?_
        refine (AllReadyH.cons (by simp only [List.getElem?_toArray, List.getElem?_cons_succ, List.getElem?_cons_zero]; exact rfl) (fun K hK => ?_) AllReadyH.nil)
        go_simp
        have hbx : Below W5.heap.size W5 (x.alloc (.cells #[.string P, .int .i64 (B : Int), .int .i64 0, .int .i64 (tk : Int)] EF)) := HXx.out.alloc HXx.out.size _
        have hlx : LsC (x.alloc (.cells #[.string P, .int .i64 (B : Int), .int .i64 0, .int .i64 (tk : Int)] EF)) (some ⟨x.heap.size, 0, none⟩) (flC ⟨f.path, B, 0, tk⟩) := by rw [← HNE.out.1]; exact LsC.made x (flC ⟨f.path, B, 0, tk⟩) EF
        refine hK.out _ _ (HS.out _ (hbx.block q HQL.out)) (fun hHeld => ?_)
        generalize x.alloc (.cells #[.string P, .int .i64 (B : Int), .int .i64 0, .int .i64 (tk : Int)] EF) = x1 at hbx hlx hHeld ⊢
        have HXx1 := Lib.hid hbx
        have HLx := Lib.hid hlx
        clear hbx hlx
        clear hK K
        try simp only [Act.put, List.setIfInBounds_toArray, List.set_cons_zero, List.set_cons_succ]
        refine wpAnyH_ready (rs := [19]) (by kernel_rfl) (by simp) ?_
        refine (AllReadyH.cons (by simp only [List.getElem?_toArray, List.getElem?_cons_succ, List.getElem?_cons_zero]; exact rfl) (fun K hK => ?_) AllReadyH.nil)
        refine step_appendK elF x1 rfl (.tmp 75) (.tmp 89) rfl 0 (n := nf) (v := .slice pf nf kf) (cs := flsC fin) rfl (HOF.out x1 HXx1.out) (some ⟨x.heap.size, 0, none⟩) 1 1 (flC ⟨f.path, B, 0, tk⟩) rfl rfl HLx.out (fun h => by cases h) (flC_one _) (by omega) (Nat.zero_le _) ?_
        rintro v4 w4 hO4 hg4 hor4
        have hq4 : w4.heap[q]? = W5.heap[q]? := (hg4.block q (Nat.lt_of_lt_of_le HQL.out HXx1.out.size) (fun e => HQN.out e.symm)).trans (HXx1.out.block q HQL.out)
        have hb4 : w4.heap[b]? = W5.heap[b]? := (hg4.block b (Nat.lt_of_lt_of_le HBL.out HXx1.out.size) (fun e => HBN.out e.symm)).trans (HXx1.out.block b HBL.out)
        have HO4 := Lib.hid hO4
        have HG4 := Lib.hid (And.intro hg4 hor4)
        have HQ4 := Lib.hid hq4
        have HB4 := Lib.hid hb4
        obtain ⟨p4, k4, e4, -⟩ := own_shape hO4
        subst e4
        refine hK.out _ _ (HS.out _ hq4) (fun hHeld => ?_)
        clear hO4 hg4 hor4 hq4 hb4
        clear hK K
        try simp only [Act.put, List.setIfInBounds_toArray, List.set_cons_zero, List.set_cons_succ]
        refine wpAnyH_take (i := 20) (v := ?_) (by simp only [List.getElem?_toArray, List.getElem?_cons_succ, List.getElem?_cons_zero]; exact rfl) (by kernel_rfl) (by kernel_rfl) (by kernel_rfl) (fun _ _ _ h => h) (Or.inl ⟨by rfl, ?_⟩) (by assumption) ?_
        rotate_left 1
        · (intro w hSw; (try dsimp only at hSw); go_simp; try with_reducible rfl)
        try simp only [Act.put, List.setIfInBounds_toArray, List.set_cons_zero, List.set_cons_succ]
        refine wpAnyH_take (i := 21) (v := ?_) (by simp only [List.getElem?_toArray, List.getElem?_cons_succ, List.getElem?_cons_zero]; exact rfl) (by kernel_rfl) (by kernel_rfl) (by kernel_rfl) (fun _ _ _ h => h) (Or.inl ⟨by rfl, ?_⟩) (by assumption) ?_
        rotate_left 1
        · (intro w hSw; (try dsimp only at hSw); go_simp; try with_reducible rfl)
        try simp only [Act.put, List.setIfInBounds_toArray, List.set_cons_zero, List.set_cons_succ]
        refine wpAnyH_ready (rs := [22]) (by kernel_rfl) (by simp) ?_
        refine (AllReadyH.cons (by simp only [List.getElem?_toArray, List.getElem?_cons_succ, List.getElem?_cons_zero]; exact rfl) (fun K hK => ?_) AllReadyH.nil)
        have c5 := (HCB4.out w4 HB4.out).1
        have c6 := (HCB4.out w4 HB4.out).2
        have hs4 := (KpF.setCell (S := fun g => g = b) w4 ⟨b, 3, none⟩ (.slice p4 (nf + 1) k4) rfl)
        have hq5 := (hs4.block q (Array.getElem?_eq_some_iff.1 (HQ4.out.trans (HFLW.out).1)).1 hqb).trans HQ4.out
        have HQ5 := Lib.hid hq5
        have HS5 := Lib.hid hs4
        go_simp
        refine hK.out _ _ (HS.out _ hq5) (fun hHeld => ?_)
        clear c5 c6 hs4 hq5
        clear hK K
        try simp only [Act.put, List.setIfInBounds_toArray, List.set_cons_zero, List.set_cons_succ]
        refine wpAnyH_done (by kernel_rfl) ?_ _
        refine NoPanic.normal ?_
        clear hHeld
        have hsh := shUpd3 (fin' := fin ++ [⟨f.path, B, 0, tk⟩]) HG5.out.1 HG5.out.2.1 HG5.out.2.2.1 HG5.out.2.2.2.1 HG5.out.2.2.2.2 HXx1.out (KpF.of_grown HG4.out.1 fun k hk => hk) (by rw [flsC_app, flsC_one, List.length_append, HNE.out.2.2.2.2]; exact HO4.out) (fun g hg => by
          rcases HG4.out.2 with h | h
          · left; rw [← h]; exact hg
          · rw [h] at hg
            injection hg with hg
            right
            have := HXx1.out.size
            omega)
        obtain ⟨W7, hW7⟩ : ∃ W, w4.setCell ⟨b, 3, none⟩ (.slice p4 (nf + 1) k4) = W := ⟨_, rfl⟩
        rw [hW7] at hsh HQ5
        rw [hW7]
        have HSH7 := Lib.hid hsh.1
        have HK7 := Lib.hid hsh.2
        have HF7 := Lib.hid (HF5.out.keep HQ5.out)
        clear hsh hW7 HO4 HG4 HQ4 HB4 HXx HXx1 HLx
        go_wp2
        go_ret
        have hne : M = f.blocks := by
          have h1 := HFB.out
          rw [HNE.out.2.1]
          exact of_decide_eq_true h1
        refine ⟨by rw [HNE.out.2.1, HNE.out.2.2.1, HML.out.1, ← HNE.out.2.1, decide_eq_true hne]; rfl, ?_, ?_, ?_⟩
        · rw [show min f.blocks (f.done + left) = M by rw [HNE.out.2.1, HNE.out.2.2.1, HML.out.1]]; exact HF7.out
        · rw [HNE.out.2.1, HNE.out.2.2.1, HML.out.1, HML.out.2, ← HNE.out.2.1, if_pos hne, decide_eq_true hne, HNE.out.2.1]
          exact HSH7.out.mono fun g hg hF => by
            rcases hF with (hF | hF) | hF
            · exact .inl hF
            · exact .inr ⟨Nat.le_trans HK3.out.size hF.1, hg⟩
            · exact .inr ⟨Nat.le_trans HK3.out.size (Nat.le_trans HK5.out.size hF.1), hg⟩
        · exact ((HK3.out.mono fun k _ hk => by
            rcases hk with hk | hk
            · exact .inr hk
            · exact .inl (hk ▸ HIN.out.2.2.2.1)).trans ((HK5.out.trans_new HK7.out).mono fun k _ hk => .inl hk))
      · have hc := (HCB.out x HXx.out).2
        go_simp
        refine hK.out _ _ (by assumption) (fun hHeld => ?_)
        clear hc
        clear hK K
        try simp only [Act.put, List.setIfInBounds_toArray, List.set_cons_zero, List.set_cons_succ]
        refine wpAnyH_take (i := 17) (v := ?_) (by simp only [List.getElem?_toArray, List.getElem?_cons_succ, List.getElem?_cons_zero]; exact rfl) (by kernel_rfl) (by kernel_rfl) (by kernel_rfl) (fun _ _ _ h => h) (Or.inl ⟨by rfl, ?_⟩) (by assumption) ?_
        rotate_left 1
        · (intro w hSw; (try dsimp only at hSw); go_simp; try with_reducible rfl)
        try simp only [Act.put, List.setIfInBounds_toArray, List.set_cons_zero, List.set_cons_succ]
        refine wpAnyH_ready (rs := [4, 18]) (by kernel_rfl) (by simp) ?_
        refine (AllReadyH.cons (by simp only [List.getElem?_toArray, List.getElem?_cons_succ, List.getElem?_cons_zero]; exact rfl) (fun K hK => ?_) (AllReadyH.cons (by simp only [List.getElem?_toArray, List.getElem?_cons_succ, List.getElem?_cons_zero]; exact rfl) (fun K hK => ?_) AllReadyH.nil))
        · have hc := (HCB.out x HXx.out).1
          go_simp
          refine hK.out _ _ (by assumption) (fun hHeld => ?_)
          clear hc
          clear hK K
          try simp only [Act.put, List.setIfInBounds_toArray, List.set_cons_zero, List.set_cons_succ]
          refine wpAnyH_ready (rs := [18]) (by kernel_rfl) (by simp) ?_
          refine (AllReadyH.cons (by simp only [List.getElem?_toArray, List.getElem?_cons_succ, List.getElem?_cons_zero]; exact rfl) (fun K hK => ?_) AllReadyH.nil)
          go_simp
          have hbx : Below W5.heap.size W5 (x.alloc (.cells #[.string P, .int .i64 (B : Int), .int .i64 0, .int .i64 (tk : Int)] EF)) := HXx.out.alloc HXx.out.size _
          have hlx : LsC (x.alloc (.cells #[.string P, .int .i64 (B : Int), .int .i64 0, .int .i64 (tk : Int)] EF)) (some ⟨x.heap.size, 0, none⟩) (flC ⟨f.path, B, 0, tk⟩) := by rw [← HNE.out.1]; exact LsC.made x (flC ⟨f.path, B, 0, tk⟩) EF
          refine hK.out _ _ (HS.out _ (hbx.block q HQL.out)) (fun hHeld => ?_)
          generalize x.alloc (.cells #[.string P, .int .i64 (B : Int), .int .i64 0, .int .i64 (tk : Int)] EF) = x1 at hbx hlx hHeld ⊢
          have HXx1 := Lib.hid hbx
          have HLx := Lib.hid hlx
          clear hbx hlx
          clear hK K
          try simp only [Act.put, List.setIfInBounds_toArray, List.set_cons_zero, List.set_cons_succ]
          refine wpAnyH_ready (rs := [19]) (by kernel_rfl) (by simp) ?_
          refine (AllReadyH.cons (by simp only [List.getElem?_toArray, List.getElem?_cons_succ, List.getElem?_cons_zero]; exact rfl) (fun K hK => ?_) AllReadyH.nil)
          refine step_appendK elF x1 rfl (.tmp 75) (.tmp 89) rfl 0 (n := nf) (v := .slice pf nf kf) (cs := flsC fin) rfl (HOF.out x1 HXx1.out) (some ⟨x.heap.size, 0, none⟩) 1 1 (flC ⟨f.path, B, 0, tk⟩) rfl rfl HLx.out (fun h => by cases h) (flC_one _) (by omega) (Nat.zero_le _) ?_
          rintro v4 w4 hO4 hg4 hor4
          have hq4 : w4.heap[q]? = W5.heap[q]? := (hg4.block q (Nat.lt_of_lt_of_le HQL.out HXx1.out.size) (fun e => HQN.out e.symm)).trans (HXx1.out.block q HQL.out)
          have hb4 : w4.heap[b]? = W5.heap[b]? := (hg4.block b (Nat.lt_of_lt_of_le HBL.out HXx1.out.size) (fun e => HBN.out e.symm)).trans (HXx1.out.block b HBL.out)
          have HO4 := Lib.hid hO4
          have HG4 := Lib.hid (And.intro hg4 hor4)
          have HQ4 := Lib.hid hq4
          have HB4 := Lib.hid hb4
          obtain ⟨p4, k4, e4, -⟩ := own_shape hO4
          subst e4
          refine hK.out _ _ (HS.out _ hq4) (fun hHeld => ?_)
          clear hO4 hg4 hor4 hq4 hb4
          clear hK K
          try simp only [Act.put, List.setIfInBounds_toArray, List.set_cons_zero, List.set_cons_succ]
          refine wpAnyH_take (i := 20) (v := ?_) (by simp only [List.getElem?_toArray, List.getElem?_cons_succ, List.getElem?_cons_zero]; exact rfl) (by kernel_rfl) (by kernel_rfl) (by kernel_rfl) (fun _ _ _ h => h) (Or.inl ⟨by rfl, ?_⟩) (by assumption) ?_
          rotate_left 1
          · (intro w hSw; (try dsimp only at hSw); go_simp; try with_reducible rfl)
          try simp only [Act.put, List.setIfInBounds_toArray, List.set_cons_zero, List.set_cons_succ]
          refine wpAnyH_take (i := 21) (v := ?_) (by simp only [List.getElem?_toArray, List.getElem?_cons_succ, List.getElem?_cons_zero]; exact rfl) (by kernel_rfl) (by kernel_rfl) (by kernel_rfl) (fun _ _ _ h => h) (Or.inl ⟨by rfl, ?_⟩) (by assumption) ?_
          rotate_left 1
          · (intro w hSw; (try dsimp only at hSw); go_simp; try with_reducible rfl)
          try simp only [Act.put, List.setIfInBounds_toArray, List.set_cons_zero, List.set_cons_succ]
          refine wpAnyH_ready (rs := [22]) (by kernel_rfl) (by simp) ?_
          refine (AllReadyH.cons (by simp only [List.getElem?_toArray, List.getElem?_cons_succ, List.getElem?_cons_zero]; exact rfl) (fun K hK => ?_) AllReadyH.nil)
          have c5 := (HCB4.out w4 HB4.out).1
          have c6 := (HCB4.out w4 HB4.out).2
          have hs4 := (KpF.setCell (S := fun g => g = b) w4 ⟨b, 3, none⟩ (.slice p4 (nf + 1) k4) rfl)
          have hq5 := (hs4.block q (Array.getElem?_eq_some_iff.1 (HQ4.out.trans (HFLW.out).1)).1 hqb).trans HQ4.out
          have HQ5 := Lib.hid hq5
          have HS5 := Lib.hid hs4
          go_simp
          refine hK.out _ _ (HS.out _ hq5) (fun hHeld => ?_)
          clear c5 c6 hs4 hq5
          clear hK K
          try simp only [Act.put, List.setIfInBounds_toArray, List.set_cons_zero, List.set_cons_succ]
          refine wpAnyH_done (by kernel_rfl) ?_ _
          refine NoPanic.normal ?_
          clear hHeld
          have hsh := shUpd3 (fin' := fin ++ [⟨f.path, B, 0, tk⟩]) HG5.out.1 HG5.out.2.1 HG5.out.2.2.1 HG5.out.2.2.2.1 HG5.out.2.2.2.2 HXx1.out (KpF.of_grown HG4.out.1 fun k hk => hk) (by rw [flsC_app, flsC_one, List.length_append, HNE.out.2.2.2.2]; exact HO4.out) (fun g hg => by
            rcases HG4.out.2 with h | h
            · left; rw [← h]; exact hg
            · rw [h] at hg
              injection hg with hg
              right
              have := HXx1.out.size
              omega)
          obtain ⟨W7, hW7⟩ : ∃ W, w4.setCell ⟨b, 3, none⟩ (.slice p4 (nf + 1) k4) = W := ⟨_, rfl⟩
          rw [hW7] at hsh HQ5
          rw [hW7]
          have HSH7 := Lib.hid hsh.1
          have HK7 := Lib.hid hsh.2
          have HF7 := Lib.hid (HF5.out.keep HQ5.out)
          clear hsh hW7 HO4 HG4 HQ4 HB4 HXx HXx1 HLx
          go_wp2
          go_ret
          have hne : M = f.blocks := by
            have h1 := HFB.out
            rw [HNE.out.2.1]
            exact of_decide_eq_true h1
          refine ⟨by rw [HNE.out.2.1, HNE.out.2.2.1, HML.out.1, ← HNE.out.2.1, decide_eq_true hne]; rfl, ?_, ?_, ?_⟩
          · rw [show min f.blocks (f.done + left) = M by rw [HNE.out.2.1, HNE.out.2.2.1, HML.out.1]]; exact HF7.out
          · rw [HNE.out.2.1, HNE.out.2.2.1, HML.out.1, HML.out.2, ← HNE.out.2.1, if_pos hne, decide_eq_true hne, HNE.out.2.1]
            exact HSH7.out.mono fun g hg hF => by
              rcases hF with (hF | hF) | hF
              · exact .inl hF
              · exact .inr ⟨Nat.le_trans HK3.out.size hF.1, hg⟩
              · exact .inr ⟨Nat.le_trans HK3.out.size (Nat.le_trans HK5.out.size hF.1), hg⟩
          · exact ((HK3.out.mono fun k _ hk => by
              rcases hk with hk | hk
              · exact .inr hk
              · exact .inl (hk ▸ HIN.out.2.2.2.1)).trans ((HK5.out.trans_new HK7.out).mono fun k _ hk => .inl hk))
        · go_simp
          have hbx : Below W5.heap.size W5 (x.alloc (.cells #[.string P, .int .i64 (B : Int), .int .i64 0, .int .i64 (tk : Int)] EF)) := HXx.out.alloc HXx.out.size _
          have hlx : LsC (x.alloc (.cells #[.string P, .int .i64 (B : Int), .int .i64 0, .int .i64 (tk : Int)] EF)) (some ⟨x.heap.size, 0, none⟩) (flC ⟨f.path, B, 0, tk⟩) := by rw [← HNE.out.1]; exact LsC.made x (flC ⟨f.path, B, 0, tk⟩) EF
          refine hK.out _ _ (HS.out _ (hbx.block q HQL.out)) (fun hHeld => ?_)
          generalize x.alloc (.cells #[.string P, .int .i64 (B : Int), .int .i64 0, .int .i64 (tk : Int)] EF) = x1 at hbx hlx hHeld ⊢
          have HXx1 := Lib.hid hbx
          have HLx := Lib.hid hlx
          clear hbx hlx
          clear hK K
          try simp only [Act.put, List.setIfInBounds_toArray, List.set_cons_zero, List.set_cons_succ]
          refine wpAnyH_ready (rs := [4]) (by kernel_rfl) (by simp) ?_
          refine (AllReadyH.cons (by simp only [List.getElem?_toArray, List.getElem?_cons_succ, List.getElem?_cons_zero]; exact rfl) (fun K hK => ?_) AllReadyH.nil)
          have hc := (HCB.out x1 HXx1.out).1
          go_simp
          refine hK.out _ _ (by assumption) (fun hHeld => ?_)
          clear hc
          clear hK K
          try simp only [Act.put, List.setIfInBounds_toArray, List.set_cons_zero, List.set_cons_succ]
          refine wpAnyH_ready (rs := [19]) (by kernel_rfl) (by simp) ?_
          refine (AllReadyH.cons (by simp only [List.getElem?_toArray, List.getElem?_cons_succ, List.getElem?_cons_zero]; exact rfl) (fun K hK => ?_) AllReadyH.nil)
          refine step_appendK elF x1 rfl (.tmp 75) (.tmp 89) rfl 0 (n := nf) (v := .slice pf nf kf) (cs := flsC fin) rfl (HOF.out x1 HXx1.out) (some ⟨x.heap.size, 0, none⟩) 1 1 (flC ⟨f.path, B, 0, tk⟩) rfl rfl HLx.out (fun h => by cases h) (flC_one _) (by omega) (Nat.zero_le _) ?_
          rintro v4 w4 hO4 hg4 hor4
          have hq4 : w4.heap[q]? = W5.heap[q]? := (hg4.block q (Nat.lt_of_lt_of_le HQL.out HXx1.out.size) (fun e => HQN.out e.symm)).trans (HXx1.out.block q HQL.out)
          have hb4 : w4.heap[b]? = W5.heap[b]? := (hg4.block b (Nat.lt_of_lt_of_le HBL.out HXx1.out.size) (fun e => HBN.out e.symm)).trans (HXx1.out.block b HBL.out)
          have HO4 := Lib.hid hO4
          have HG4 := Lib.hid (And.intro hg4 hor4)
          have HQ4 := Lib.hid hq4
          have HB4 := Lib.hid hb4
          obtain ⟨p4, k4, e4, -⟩ := own_shape hO4
          subst e4
          refine hK.out _ _ (HS.out _ hq4) (fun hHeld => ?_)
          clear hO4 hg4 hor4 hq4 hb4
          clear hK K
          try simp only [Act.put, List.setIfInBounds_toArray, List.set_cons_zero, List.set_cons_succ]
          refine wpAnyH_take (i := 20) (v := ?_) (by simp only [List.getElem?_toArray, List.getElem?_cons_succ, List.getElem?_cons_zero]; exact rfl) (by kernel_rfl) (by kernel_rfl) (by kernel_rfl) (fun _ _ _ h => h) (Or.inl ⟨by rfl, ?_⟩) (by assumption) ?_
          rotate_left 1
          · (intro w hSw; (try dsimp only at hSw); go_simp; try with_reducible rfl)
          try simp only [Act.put, List.setIfInBounds_toArray, List.set_cons_zero, List.set_cons_succ]
          refine wpAnyH_take (i := 21) (v := ?_) (by simp only [List.getElem?_toArray, List.getElem?_cons_succ, List.getElem?_cons_zero]; exact rfl) (by kernel_rfl) (by kernel_rfl) (by kernel_rfl) (fun _ _ _ h => h) (Or.inl ⟨by rfl, ?_⟩) (by assumption) ?_
          rotate_left 1
          · (intro w hSw; (try dsimp only at hSw); go_simp; try with_reducible rfl)
          try simp only [Act.put, List.setIfInBounds_toArray, List.set_cons_zero, List.set_cons_succ]
          refine wpAnyH_ready (rs := [22]) (by kernel_rfl) (by simp) ?_
          refine (AllReadyH.cons (by simp only [List.getElem?_toArray, List.getElem?_cons_succ, List.getElem?_cons_zero]; exact rfl) (fun K hK => ?_) AllReadyH.nil)
          have c5 := (HCB4.out w4 HB4.out).1
          have c6 := (HCB4.out w4 HB4.out).2
          have hs4 := (KpF.setCell (S := fun g => g = b) w4 ⟨b, 3, none⟩ (.slice p4 (nf + 1) k4) rfl)
          have hq5 := (hs4.block q (Array.getElem?_eq_some_iff.1 (HQ4.out.trans (HFLW.out).1)).1 hqb).trans HQ4.out
          have HQ5 := Lib.hid hq5
          have HS5 := Lib.hid hs4
          go_simp
          refine hK.out _ _ (HS.out _ hq5) (fun hHeld => ?_)
          clear c5 c6 hs4 hq5
          clear hK K
          try simp only [Act.put, List.setIfInBounds_toArray, List.set_cons_zero, List.set_cons_succ]
          refine wpAnyH_done (by kernel_rfl) ?_ _
          refine NoPanic.normal ?_
          clear hHeld
          have hsh := shUpd3 (fin' := fin ++ [⟨f.path, B, 0, tk⟩]) HG5.out.1 HG5.out.2.1 HG5.out.2.2.1 HG5.out.2.2.2.1 HG5.out.2.2.2.2 HXx1.out (KpF.of_grown HG4.out.1 fun k hk => hk) (by rw [flsC_app, flsC_one, List.length_append, HNE.out.2.2.2.2]; exact HO4.out) (fun g hg => by
            rcases HG4.out.2 with h | h
            · left; rw [← h]; exact hg
            · rw [h] at hg
              injection hg with hg
              right
              have := HXx1.out.size
              omega)
          obtain ⟨W7, hW7⟩ : ∃ W, w4.setCell ⟨b, 3, none⟩ (.slice p4 (nf + 1) k4) = W := ⟨_, rfl⟩
          rw [hW7] at hsh HQ5
          rw [hW7]
          have HSH7 := Lib.hid hsh.1
          have HK7 := Lib.hid hsh.2
          have HF7 := Lib.hid (HF5.out.keep HQ5.out)
          clear hsh hW7 HO4 HG4 HQ4 HB4 HXx HXx1 HLx
          go_wp2
          go_ret
          have hne : M = f.blocks := by
            have h1 := HFB.out
            rw [HNE.out.2.1]
            exact of_decide_eq_true h1
          refine ⟨by rw [HNE.out.2.1, HNE.out.2.2.1, HML.out.1, ← HNE.out.2.1, decide_eq_true hne]; rfl, ?_, ?_, ?_⟩
          · rw [show min f.blocks (f.done + left) = M by rw [HNE.out.2.1, HNE.out.2.2.1, HML.out.1]]; exact HF7.out
          · rw [HNE.out.2.1, HNE.out.2.2.1, HML.out.1, HML.out.2, ← HNE.out.2.1, if_pos hne, decide_eq_true hne, HNE.out.2.1]
            exact HSH7.out.mono fun g hg hF => by
              rcases hF with (hF | hF) | hF
              · exact .inl hF
              · exact .inr ⟨Nat.le_trans HK3.out.size hF.1, hg⟩
              · exact .inr ⟨Nat.le_trans HK3.out.size (Nat.le_trans HK5.out.size hF.1), hg⟩
          · exact ((HK3.out.mono fun k _ hk => by
              rcases hk with hk | hk
              · exact .inr hk
              · exact .inl (hk ▸ HIN.out.2.2.2.1)).trans ((HK5.out.trans_new HK7.out).mono fun k _ hk => .inl hk))
  · go_simp
    have hbx : Below W3.heap.size W3 (x.alloc (.cells #[.string P, .int .i64 (D : Int), .int .i64 (M : Int), .bool en, .bool fb] EW)) := HXx.out.alloc HXx.out.size _
    have hlx : LsC (x.alloc (.cells #[.string P, .int .i64 (D : Int), .int .i64 (M : Int), .bool en, .bool fb] EW)) (some ⟨x.heap.size, 0, none⟩) (wkC ⟨f.path, D, M, en, fb⟩) := by rw [← HNE.out.1]; exact LsC.made x (wkC ⟨f.path, D, M, en, fb⟩) EW
    refine hK.out _ _ (HS.out _ (hbx.block q HQL.out)) (fun hHeld => ?_)
    generalize x.alloc (.cells #[.string P, .int .i64 (D : Int), .int .i64 (M : Int), .bool en, .bool fb] EW) = x1 at hbx hlx hHeld ⊢
    have HXx1 := Lib.hid hbx
    have HLx := Lib.hid hlx
    clear hbx hlx
    clear hK K
    try simp only [Act.put, List.setIfInBounds_toArray, List.set_cons_zero, List.set_cons_succ]
    refine wpAnyH_ready (rs := [4]) (by kernel_rfl) (by simp) ?_
    refine (AllReadyH.cons (by simp only [List.getElem?_toArray, List.getElem?_cons_succ, List.getElem?_cons_zero]; exact rfl) (fun K hK => ?_) AllReadyH.nil)
    have hc := (HCB.out x1 HXx1.out).1
    go_simp
    refine hK.out _ _ (by assumption) (fun hHeld => ?_)
    clear hc
    clear hK K
    try simp only [Act.put, List.setIfInBounds_toArray, List.set_cons_zero, List.set_cons_succ]
    refine wpAnyH_ready (rs := [18]) (by kernel_rfl) (by simp) ?_
    refine (AllReadyH.cons (by simp only [List.getElem?_toArray, List.getElem?_cons_succ, List.getElem?_cons_zero]; exact rfl) (fun K hK => ?_) AllReadyH.nil)
    refine step_appendK elW x1 rfl (.tmp 53) (.tmp 66) rfl 0 (n := nd) (v := .slice pd nd kd) (cs := wksC out) rfl (HOD.out x1 HXx1.out) (some ⟨x.heap.size, 0, none⟩) 1 1 (wkC ⟨f.path, D, M, en, fb⟩) rfl rfl HLx.out (fun h => by cases h) (wkC_one _) (by omega) (Nat.zero_le _) ?_
    rintro v4 w4 hO4 hg4 hor4
    have hq4 : w4.heap[q]? = W3.heap[q]? := (hg4.block q (Nat.lt_of_lt_of_le HQL.out HXx1.out.size) (fun e => HQN.out e.symm)).trans (HXx1.out.block q HQL.out)
    have hb4 : w4.heap[b]? = W3.heap[b]? := (hg4.block b (Nat.lt_of_lt_of_le HBL.out HXx1.out.size) (fun e => HBN.out e.symm)).trans (HXx1.out.block b HBL.out)
    have HO4 := Lib.hid hO4
    have HG4 := Lib.hid (And.intro hg4 hor4)
    have HQ4 := Lib.hid hq4
    have HB4 := Lib.hid hb4
    obtain ⟨p4, k4, e4, -⟩ := own_shape hO4
    subst e4
    refine hK.out _ _ (HS.out _ hq4) (fun hHeld => ?_)
    clear hO4 hg4 hor4 hq4 hb4
    clear hK K
    try simp only [Act.put, List.setIfInBounds_toArray, List.set_cons_zero, List.set_cons_succ]
    refine wpAnyH_take (i := 19) (v := ?_) (by simp only [List.getElem?_toArray, List.getElem?_cons_succ, List.getElem?_cons_zero]; exact rfl) (by kernel_rfl) (by kernel_rfl) (by kernel_rfl) (fun _ _ _ h => h) (Or.inl ⟨by rfl, ?_⟩) (by assumption) ?_
    rotate_left 1
    · (intro w hSw; (try dsimp only at hSw); go_simp; try with_reducible rfl)
    try simp only [Act.put, List.setIfInBounds_toArray, List.set_cons_zero, List.set_cons_succ]
    refine wpAnyH_take (i := 20) (v := ?_) (by simp only [List.getElem?_toArray, List.getElem?_cons_succ, List.getElem?_cons_zero]; exact rfl) (by kernel_rfl) (by kernel_rfl) (by kernel_rfl) (fun _ _ _ h => h) (Or.inl ⟨by rfl, ?_⟩) (by assumption) ?_
    rotate_left 1
    · (intro w hSw; (try dsimp only at hSw); go_simp; try with_reducible rfl)
    try simp only [Act.put, List.setIfInBounds_toArray, List.set_cons_zero, List.set_cons_succ]
    refine wpAnyH_ready (rs := [21]) (by kernel_rfl) (by simp) ?_
    refine (AllReadyH.cons (by simp only [List.getElem?_toArray, List.getElem?_cons_succ, List.getElem?_cons_zero]; exact rfl) (fun K hK => ?_) AllReadyH.nil)
    have c5 := (HCB4.out w4 HB4.out).1
    have c6 := (HCB4.out w4 HB4.out).2
    have hs4 := (KpF.setCell (S := fun g => g = b) w4 ⟨b, 2, none⟩ (.slice p4 (nd + 1) k4) rfl)
    have hq5 := (hs4.block q (Array.getElem?_eq_some_iff.1 (HQ4.out.trans (HFLW.out).1)).1 hqb).trans HQ4.out
    have HQ5 := Lib.hid hq5
    have HS5 := Lib.hid hs4
    go_simp
    refine hK.out _ _ (HS.out _ hq5) (fun hHeld => ?_)
    clear c5 c6 hs4 hq5
    clear hK K
    try simp only [Act.put, List.setIfInBounds_toArray, List.set_cons_zero, List.set_cons_succ]
    refine wpAnyH_done (by kernel_rfl) ?_ _
    refine NoPanic.normal ?_
    clear hHeld
    have hsh := shUpd2 (out' := out ++ [⟨f.path, D, M, en, fb⟩]) HSH3.out.2.2 (by rw [HNE.out.2.2.2.2]; exact HOF3.out W3 (Below.refl _ _)) HIN.out.2.2.2.1 HSH3.out.1 HSH3.out.2.1 HXx1.out (KpF.of_grown HG4.out.1 fun k hk => hk) (by rw [wksC_app, wksC_one, List.length_append, HNE.out.2.2.2.1]; exact HO4.out) (fun g hg => by
      rcases HG4.out.2 with h | h
      · left; rw [← h]; exact hg
      · rw [h] at hg
        injection hg with hg
        right
        have := HXx1.out.size
        omega)
    obtain ⟨W5, hW5⟩ : ∃ W, w4.setCell ⟨b, 2, none⟩ (.slice p4 (nd + 1) k4) = W := ⟨_, rfl⟩
    rw [hW5] at hsh HQ5
    rw [hW5]
    have HQ5 := HQ5
    have HSH5 := Lib.hid hsh.1
    have HK5 := Lib.hid hsh.2
    have hfl5 := HF3.out.keep HQ5.out
    have HF5 := Lib.hid hfl5
    have hnq : ¬ newF F W3 W5 q := fun e => by
      rcases e with e | e
      · exact HQ.out e
      · exact absurd e.1 (by have := HQL.out; omega)
    have HNQ := Lib.hid hnq
    clear hsh hW5 hfl5 hnq HO4 HG4 HQ4 HB4 HXx HXx1 HLx
    cases fb with
    | false =>
      go_wp2
      go_ret
      have hne : M ≠ f.blocks := fun e => by
        have h1 := HFB.out
        rw [decide_eq_true (by rw [e, HNE.out.2.1])] at h1
        cases h1
      refine ⟨by rw [HNE.out.2.1, HNE.out.2.2.1, HML.out.1, ← HNE.out.2.1, decide_eq_false hne]; rfl, ?_, ?_, ?_⟩
      · rw [show min f.blocks (f.done + left) = M by rw [HNE.out.2.1, HNE.out.2.2.1, HML.out.1]]; exact HF5.out
      · rw [HNE.out.2.1, HNE.out.2.2.1, HML.out.1, HML.out.2, ← HNE.out.2.1, if_neg hne, decide_eq_false hne]
        exact HSH5.out.mono fun g hg hF => by
          rcases hF with hF | hF
          · exact .inl hF
          · exact .inr ⟨Nat.le_trans HK3.out.size hF.1, hF.2⟩
      · exact (HK3.out.mono fun k _ hk => by
          rcases hk with hk | hk
          · exact .inr hk
          · exact .inl (hk ▸ HIN.out.2.2.2.1)).trans (HK5.out.mono fun k _ hk => .inl hk)
    | true =>
      obtain ⟨vd5, vf5, g1, g2, g3, g4, g5, g6⟩ := HSH5.out
      obtain ⟨pf, kf, e5, -⟩ := own_shape g3
      subst e5
      rw [HNE.out.2.2.2.2] at g1 g3 g6
      have HG5 := Lib.hid (And.intro g1 (And.intro g2 (And.intro g4 (And.intro g5 g6))))
      have HQL := Lib.hid (show q < W5.heap.size from (Array.getElem?_eq_some_iff.1 HF5.out.1).1)
      have HBL := Lib.hid (show b < W5.heap.size from (Array.getElem?_eq_some_iff.1 g1).1)
      have HOF := Lib.hid (show ∀ u, Below W5.heap.size W5 u → u.ownsRow 0 EF 4 (.slice pf nf kf) nf (flsC fin) from fun u hu => own_below g3 hu)
      have HQN := Lib.hid (show (Value.slice pf nf kf).ownBlock ≠ some q from fun e => HNQ.out (g6 q e).1)
      have HBN := Lib.hid (show (Value.slice pf nf kf).ownBlock ≠ some b from fun e => (g6 b e).2.1 rfl)
      have HFLW := HF5
      have HS := Lib.hid (show ∀ u : World, u.heap[q]? = W5.heap[q]? → u.cell? ⟨q, o, none⟩ = some (.string P) ∧ u.cell? ⟨q, o + 1, none⟩ = some (.int .i64 (B : Int)) from fun u hu => by
        have fc := flCells (HF5.out.keep hu)
        dsimp only at fc
        rw [HNE.out.1, HNE.out.2.1] at fc
        exact ⟨fc.1, fc.2.1⟩)
      have HCB := Lib.hid (show ∀ u : World, Below W5.heap.size W5 u → u.cell? ⟨b, 3, none⟩ = some (.slice pf nf kf) ∧ u.cell? ⟨b, 0, none⟩ = some (.int .i64 (tk : Int)) from fun u hu => by
        have sc := shCells ((hu.block b HBL.out).trans g1)
        exact ⟨sc.2.2.2.1, sc.1⟩)
      have HCB4 := Lib.hid (show ∀ u : World, u.heap[b]? = W5.heap[b]? → u.cell? ⟨b, 3, none⟩ = some (.slice pf nf kf) ∧ u.frozen? ⟨b, 3, none⟩ = false from fun u hu => by
        have sc := shCells (hu.trans g1)
        exact ⟨sc.2.2.2.1, sc.2.2.2.2 3⟩)
      clear g1 g2 g3 g4 g5 g6
      go_wp2
      refine wp_region_noPanic ?_
      refine wp_region_held_drew (S := (fun u : World => u.cell? ⟨q, o, none⟩ = some (.string P) ∧ u.cell? ⟨q, o + 1, none⟩ = some (.int .i64 (B : Int)))) (by kernel_rfl) (HS.out _ rfl) (fun hHeld => ?_)
      generalize hgx : W5.drew = x at hHeld ⊢
      have HXx := Lib.hid (show Below W5.heap.size W5 x from by rw [← hgx]; exact (Below.refl _ _).drew)
      clear hgx
      refine wpAnyH_take (i := 0) (v := ?_) (by simp only [List.getElem?_toArray, List.getElem?_cons_succ, List.getElem?_cons_zero]; exact rfl) (by kernel_rfl) (by kernel_rfl) (by kernel_rfl) (fun _ _ _ h => h) (Or.inl ⟨by rfl, ?_⟩) (by assumption) ?_
      rotate_left 1
      · (intro w hSw; (try dsimp only at hSw); go_simp; try with_reducible rfl)
      try simp only [Act.put, List.setIfInBounds_toArray, List.set_cons_zero, List.set_cons_succ]
      refine wpAnyH_take (i := 1) (v := ?_) (by simp only [List.getElem?_toArray, List.getElem?_cons_succ, List.getElem?_cons_zero]; exact rfl) (by kernel_rfl) (by kernel_rfl) (by kernel_rfl) (fun _ _ _ h => h) (Or.inl ⟨by rfl, ?_⟩) (by assumption) ?_
      rotate_left 1
      · (intro w hSw; (try dsimp only at hSw); go_simp; try with_reducible rfl)
      try simp only [Act.put, List.setIfInBounds_toArray, List.set_cons_zero, List.set_cons_succ]
      refine wpAnyH_take (i := 2) (v := ?_) (by simp only [List.getElem?_toArray, List.getElem?_cons_succ, List.getElem?_cons_zero]; exact rfl) (by kernel_rfl) (by kernel_rfl) (by kernel_rfl) (fun _ _ _ h => h) (Or.inl ⟨by rfl, ?_⟩) (by assumption) ?_
      rotate_left 1
      · (intro w hSw; (try dsimp only at hSw); go_simp; try with_reducible rfl)
      try simp only [Act.put, List.setIfInBounds_toArray, List.set_cons_zero, List.set_cons_succ]
      refine wpAnyH_take (i := 3) (v := ?_) (by simp only [List.getElem?_toArray, List.getElem?_cons_succ, List.getElem?_cons_zero]; exact rfl) (by kernel_rfl) (by kernel_rfl) (by kernel_rfl) (fun _ _ _ h => h) (Or.inl ⟨by rfl, ?_⟩) (by assumption) ?_
      rotate_left 1
      · (intro w hSw; (try dsimp only at hSw); go_simp; try with_reducible rfl)
      try simp only [Act.put, List.setIfInBounds_toArray, List.set_cons_zero, List.set_cons_succ]
      refine wpAnyH_take (i := 5) (v := ?_) (by simp only [List.getElem?_toArray, List.getElem?_cons_succ, List.getElem?_cons_zero]; exact rfl) (by kernel_rfl) (by kernel_rfl) (by kernel_rfl) (fun _ _ _ h => h) (Or.inl ⟨by rfl, ?_⟩) (by assumption) ?_
      rotate_left 1
      · (intro w hSw; (try dsimp only at hSw); go_simp; try with_reducible rfl)
      try simp only [Act.put, List.setIfInBounds_toArray, List.set_cons_zero, List.set_cons_succ]
      refine wpAnyH_take (i := 6) (v := ?_) (by simp only [List.getElem?_toArray, List.getElem?_cons_succ, List.getElem?_cons_zero]; exact rfl) (by kernel_rfl) (by kernel_rfl) (by kernel_rfl) (fun _ _ _ h => h) (Or.inl ⟨by rfl, ?_⟩) (by assumption) ?_
      rotate_left 1
      · (intro w hSw; (try dsimp only at hSw); go_simp; try with_reducible rfl)
      try simp only [Act.put, List.setIfInBounds_toArray, List.set_cons_zero, List.set_cons_succ]
      refine wpAnyH_take (i := 7) (v := ?_) (by simp only [List.getElem?_toArray, List.getElem?_cons_succ, List.getElem?_cons_zero]; exact rfl) (by kernel_rfl) (by kernel_rfl) (by kernel_rfl) (fun _ _ _ h => h) (Or.inl ⟨by rfl, ?_⟩) (by assumption) ?_
      rotate_left 1
      · (intro w hSw; (try dsimp only at hSw); go_simp; try with_reducible rfl)
      try simp only [Act.put, List.setIfInBounds_toArray, List.set_cons_zero, List.set_cons_succ]
      refine wpAnyH_take (i := 8) (v := ?_) (by simp only [List.getElem?_toArray, List.getElem?_cons_succ, List.getElem?_cons_zero]; exact rfl) (by kernel_rfl) (by kernel_rfl) (by kernel_rfl) (fun _ _ _ h => h) (Or.inl ⟨by rfl, ?_⟩) (by assumption) ?_
      rotate_left 1
      · (intro w hSw; (try dsimp only at hSw); go_simp; try with_reducible rfl)
      try simp only [Act.put, List.setIfInBounds_toArray, List.set_cons_zero, List.set_cons_succ]
      refine wpAnyH_take (i := 9) (v := ?_) (by simp only [List.getElem?_toArray, List.getElem?_cons_succ, List.getElem?_cons_zero]; exact rfl) (by kernel_rfl) (by kernel_rfl) (by kernel_rfl) (fun _ _ _ h => h) (Or.inl ⟨by rfl, ?_⟩) (by assumption) ?_
      rotate_left 1
      · (intro w hSw; (try dsimp only at hSw); go_simp; try with_reducible rfl)
      try simp only [Act.put, List.setIfInBounds_toArray, List.set_cons_zero, List.set_cons_succ]
      refine wpAnyH_take (i := 10) (v := ?_) (by simp only [List.getElem?_toArray, List.getElem?_cons_succ, List.getElem?_cons_zero]; exact rfl) (by kernel_rfl) (by kernel_rfl) (by kernel_rfl) (fun _ _ _ h => h) (Or.inl ⟨by rfl, ?_⟩) (by assumption) ?_
      rotate_left 1
      · (intro w hSw; (try dsimp only at hSw); go_simp; try with_reducible rfl)
      try simp only [Act.put, List.setIfInBounds_toArray, List.set_cons_zero, List.set_cons_succ]
      refine wpAnyH_take (i := 11) (v := ?_) (by simp only [List.getElem?_toArray, List.getElem?_cons_succ, List.getElem?_cons_zero]; exact rfl) (by kernel_rfl) (by kernel_rfl) (by kernel_rfl) (fun _ _ _ h => h) (Or.inl ⟨by rfl, ?_⟩) (by assumption) ?_
      rotate_left 1
      · (intro w hSw; (try dsimp only at hSw); go_simp; try with_reducible rfl)
      try simp only [Act.put, List.setIfInBounds_toArray, List.set_cons_zero, List.set_cons_succ]
      refine wpAnyH_take (i := 12) (v := ?_) (by simp only [List.getElem?_toArray, List.getElem?_cons_succ, List.getElem?_cons_zero]; exact rfl) (by kernel_rfl) (by kernel_rfl) (by kernel_rfl) (fun _ _ _ h => h) (Or.inl ⟨by rfl, ?_⟩) (by assumption) ?_
      rotate_left 1
      · (intro w hSw; (try dsimp only at hSw); go_simp; try with_reducible rfl)
      try simp only [Act.put, List.setIfInBounds_toArray, List.set_cons_zero, List.set_cons_succ]
      refine wpAnyH_take (i := 13) (v := ?_) (by simp only [List.getElem?_toArray, List.getElem?_cons_succ, List.getElem?_cons_zero]; exact rfl) (by kernel_rfl) (by kernel_rfl) (by kernel_rfl) (fun _ _ _ h => h) (Or.inl ⟨by rfl, ?_⟩) (by assumption) ?_
      rotate_left 1
      · (intro w hSw; (try dsimp only at hSw); go_simp; try with_reducible rfl)
      try simp only [Act.put, List.setIfInBounds_toArray, List.set_cons_zero, List.set_cons_succ]
      refine wpAnyH_take (i := 14) (v := ?_) (by simp only [List.getElem?_toArray, List.getElem?_cons_succ, List.getElem?_cons_zero]; exact rfl) (by kernel_rfl) (by kernel_rfl) (by kernel_rfl) (fun _ _ _ h => h) (Or.inl ⟨by rfl, ?_⟩) (by assumption) ?_
      rotate_left 1
      · (intro w hSw; (try dsimp only at hSw); go_simp; try with_reducible rfl)
      try simp only [Act.put, List.setIfInBounds_toArray, List.set_cons_zero, List.set_cons_succ]
      refine wpAnyH_take (i := 15) (v := ?_) (by simp only [List.getElem?_toArray, List.getElem?_cons_succ, List.getElem?_cons_zero]; exact rfl) (by kernel_rfl) (by kernel_rfl) (by kernel_rfl) (fun _ _ _ h => h) (Or.inl ⟨by rfl, ?_⟩) (by assumption) ?_
      rotate_left 1
      · (intro w hSw; (try dsimp only at hSw); go_simp; try with_reducible rfl)
      try simp only [Act.put, List.setIfInBounds_toArray, List.set_cons_zero, List.set_cons_succ]
      refine wpAnyH_ready (rs := [4, 16]) (by kernel_rfl) (by simp) ?_
      refine (AllReadyH.cons (by simp only [List.getElem?_toArray, List.getElem?_cons_succ, List.getElem?_cons_zero]; exact rfl) (fun K hK => ?_) (AllReadyH.cons (by simp only [List.getElem?_toArray, List.getElem?_cons_succ, List.getElem?_cons_zero]; exact rfl) (fun K hK => ?_) AllReadyH.nil))
      · have hc := (HCB.out x HXx.out).1
        go_simp
        refine hK.out _ _ (by assumption) (fun hHeld => ?_)
        clear hc
        clear hK K
        try simp only [Act.put, List.setIfInBounds_toArray, List.set_cons_zero, List.set_cons_succ]
        refine wpAnyH_ready (rs := [16]) (by kernel_rfl) (by simp) ?_
        refine (AllReadyH.cons (by simp only [List.getElem?_toArray, List.getElem?_cons_succ, List.getElem?_cons_zero]; exact rfl) (fun K hK => ?_) AllReadyH.nil)
        have hc := (HCB.out x HXx.out).2
        go_simp
        refine hK.out _ _ (by assumption) (fun hHeld => ?_)
        clear hc
        clear hK K
        try simp only [Act.put, List.setIfInBounds_toArray, List.set_cons_zero, List.set_cons_succ]
        refine wpAnyH_take (i := 17) (v := ?_) (by simp only [List.getElem?_toArray, List.getElem?_cons_succ, List.getElem?_cons_zero]; exact rfl) (by kernel_rfl) (by kernel_rfl) (by kernel_rfl) (fun _ _ _ h => h) (Or.inl ⟨by rfl, ?_⟩) (by assumption) ?_
        rotate_left 1
        · (intro w hSw; (try dsimp only at hSw); go_simp; try with_reducible rfl)
        try simp only [Act.put, List.setIfInBounds_toArray, List.set_cons_zero, List.set_cons_succ]
        refine wpAnyH_ready (rs := [18]) (by kernel_rfl) (by simp) ?_
        refine (AllReadyH.cons (by simp only [List.getElem?_toArray, List.getElem?_cons_succ, List.getElem?_cons_zero]; exact rfl) (fun K hK => ?_) AllReadyH.nil)
        go_simp
        have hbx : Below W5.heap.size W5 (x.alloc (.cells #[.string P, .int .i64 (B : Int), .int .i64 0, .int .i64 (tk : Int)] EF)) := HXx.out.alloc HXx.out.size _
        have hlx : LsC (x.alloc (.cells #[.string P, .int .i64 (B : Int), .int .i64 0, .int .i64 (tk : Int)] EF)) (some ⟨x.heap.size, 0, none⟩) (flC ⟨f.path, B, 0, tk⟩) := by rw [← HNE.out.1]; exact LsC.made x (flC ⟨f.path, B, 0, tk⟩) EF
        refine hK.out _ _ (HS.out _ (hbx.block q HQL.out)) (fun hHeld => ?_)
        generalize x.alloc (.cells #[.string P, .int .i64 (B : Int), .int .i64 0, .int .i64 (tk : Int)] EF) = x1 at hbx hlx hHeld ⊢
        have HXx1 := Lib.hid hbx
        have HLx := Lib.hid hlx
        clear hbx hlx
        clear hK K
        try simp only [Act.put, List.setIfInBounds_toArray, List.set_cons_zero, List.set_cons_succ]
        refine wpAnyH_ready (rs := [19]) (by kernel_rfl) (by simp) ?_
        refine (AllReadyH.cons (by simp only [List.getElem?_toArray, List.getElem?_cons_succ, List.getElem?_cons_zero]; exact rfl) (fun K hK => ?_) AllReadyH.nil)
        refine step_appendK elF x1 rfl (.tmp 75) (.tmp 89) rfl 0 (n := nf) (v := .slice pf nf kf) (cs := flsC fin) rfl (HOF.out x1 HXx1.out) (some ⟨x.heap.size, 0, none⟩) 1 1 (flC ⟨f.path, B, 0, tk⟩) rfl rfl HLx.out (fun h => by cases h) (flC_one _) (by omega) (Nat.zero_le _) ?_
        rintro v4 w4 hO4 hg4 hor4
        have hq4 : w4.heap[q]? = W5.heap[q]? := (hg4.block q (Nat.lt_of_lt_of_le HQL.out HXx1.out.size) (fun e => HQN.out e.symm)).trans (HXx1.out.block q HQL.out)
        have hb4 : w4.heap[b]? = W5.heap[b]? := (hg4.block b (Nat.lt_of_lt_of_le HBL.out HXx1.out.size) (fun e => HBN.out e.symm)).trans (HXx1.out.block b HBL.out)
        have HO4 := Lib.hid hO4
        have HG4 := Lib.hid (And.intro hg4 hor4)
        have HQ4 := Lib.hid hq4
        have HB4 := Lib.hid hb4
        obtain ⟨p4, k4, e4, -⟩ := own_shape hO4
        subst e4
        refine hK.out _ _ (HS.out _ hq4) (fun hHeld => ?_)
        clear hO4 hg4 hor4 hq4 hb4
        clear hK K
        try simp only [Act.put, List.setIfInBounds_toArray, List.set_cons_zero, List.set_cons_succ]
        refine wpAnyH_take (i := 20) (v := ?_) (by simp only [List.getElem?_toArray, List.getElem?_cons_succ, List.getElem?_cons_zero]; exact rfl) (by kernel_rfl) (by kernel_rfl) (by kernel_rfl) (fun _ _ _ h => h) (Or.inl ⟨by rfl, ?_⟩) (by assumption) ?_
        rotate_left 1
        · (intro w hSw; (try dsimp only at hSw); go_simp; try with_reducible rfl)
        try simp only [Act.put, List.setIfInBounds_toArray, List.set_cons_zero, List.set_cons_succ]
        refine wpAnyH_take (i := 21) (v := ?_) (by simp only [List.getElem?_toArray, List.getElem?_cons_succ, List.getElem?_cons_zero]; exact rfl) (by kernel_rfl) (by kernel_rfl) (by kernel_rfl) (fun _ _ _ h => h) (Or.inl ⟨by rfl, ?_⟩) (by assumption) ?_
        rotate_left 1
        · (intro w hSw; (try dsimp only at hSw); go_simp; try with_reducible rfl)
        try simp only [Act.put, List.setIfInBounds_toArray, List.set_cons_zero, List.set_cons_succ]
        refine wpAnyH_ready (rs := [22]) (by kernel_rfl) (by simp) ?_
        refine (AllReadyH.cons (by simp only [List.getElem?_toArray, List.getElem?_cons_succ, List.getElem?_cons_zero]; exact rfl) (fun K hK => ?_) AllReadyH.nil)
        have c5 := (HCB4.out w4 HB4.out).1
        have c6 := (HCB4.out w4 HB4.out).2
        have hs4 := (KpF.setCell (S := fun g => g = b) w4 ⟨b, 3, none⟩ (.slice p4 (nf + 1) k4) rfl)
        have hq5 := (hs4.block q (Array.getElem?_eq_some_iff.1 (HQ4.out.trans (HFLW.out).1)).1 hqb).trans HQ4.out
        have HQ5 := Lib.hid hq5
        have HS5 := Lib.hid hs4
        go_simp
        refine hK.out _ _ (HS.out _ hq5) (fun hHeld => ?_)
        clear c5 c6 hs4 hq5
        clear hK K
        try simp only [Act.put, List.setIfInBounds_toArray, List.set_cons_zero, List.set_cons_succ]
        refine wpAnyH_done (by kernel_rfl) ?_ _
        refine NoPanic.normal ?_
        clear hHeld
        have hsh := shUpd3 (fin' := fin ++ [⟨f.path, B, 0, tk⟩]) HG5.out.1 HG5.out.2.1 HG5.out.2.2.1 HG5.out.2.2.2.1 HG5.out.2.2.2.2 HXx1.out (KpF.of_grown HG4.out.1 fun k hk => hk) (by rw [flsC_app, flsC_one, List.length_append, HNE.out.2.2.2.2]; exact HO4.out) (fun g hg => by
          rcases HG4.out.2 with h | h
          · left; rw [← h]; exact hg
          · rw [h] at hg
            injection hg with hg
            right
            have := HXx1.out.size
            omega)
        obtain ⟨W7, hW7⟩ : ∃ W, w4.setCell ⟨b, 3, none⟩ (.slice p4 (nf + 1) k4) = W := ⟨_, rfl⟩
        rw [hW7] at hsh HQ5
        rw [hW7]
        have HSH7 := Lib.hid hsh.1
        have HK7 := Lib.hid hsh.2
        have HF7 := Lib.hid (HF5.out.keep HQ5.out)
        clear hsh hW7 HO4 HG4 HQ4 HB4 HXx HXx1 HLx
        go_wp2
        go_ret
        have hne : M = f.blocks := by
          have h1 := HFB.out
          rw [HNE.out.2.1]
          exact of_decide_eq_true h1
        refine ⟨by rw [HNE.out.2.1, HNE.out.2.2.1, HML.out.1, ← HNE.out.2.1, decide_eq_true hne]; rfl, ?_, ?_, ?_⟩
        · rw [show min f.blocks (f.done + left) = M by rw [HNE.out.2.1, HNE.out.2.2.1, HML.out.1]]; exact HF7.out
        · rw [HNE.out.2.1, HNE.out.2.2.1, HML.out.1, HML.out.2, ← HNE.out.2.1, if_pos hne, decide_eq_true hne, HNE.out.2.1]
          exact HSH7.out.mono fun g hg hF => by
            rcases hF with (hF | hF) | hF
            · exact .inl hF
            · exact .inr ⟨Nat.le_trans HK3.out.size hF.1, hg⟩
            · exact .inr ⟨Nat.le_trans HK3.out.size (Nat.le_trans HK5.out.size hF.1), hg⟩
        · exact ((HK3.out.mono fun k _ hk => by
            rcases hk with hk | hk
            · exact .inr hk
            · exact .inl (hk ▸ HIN.out.2.2.2.1)).trans ((HK5.out.trans_new HK7.out).mono fun k _ hk => .inl hk))
      · have hc := (HCB.out x HXx.out).2
        go_simp
        refine hK.out _ _ (by assumption) (fun hHeld => ?_)
        clear hc
        clear hK K
        try simp only [Act.put, List.setIfInBounds_toArray, List.set_cons_zero, List.set_cons_succ]
        refine wpAnyH_take (i := 17) (v := ?_) (by simp only [List.getElem?_toArray, List.getElem?_cons_succ, List.getElem?_cons_zero]; exact rfl) (by kernel_rfl) (by kernel_rfl) (by kernel_rfl) (fun _ _ _ h => h) (Or.inl ⟨by rfl, ?_⟩) (by assumption) ?_
        rotate_left 1
        · (intro w hSw; (try dsimp only at hSw); go_simp; try with_reducible rfl)
        try simp only [Act.put, List.setIfInBounds_toArray, List.set_cons_zero, List.set_cons_succ]
        refine wpAnyH_ready (rs := [4, 18]) (by kernel_rfl) (by simp) ?_
        refine (AllReadyH.cons (by simp only [List.getElem?_toArray, List.getElem?_cons_succ, List.getElem?_cons_zero]; exact rfl) (fun K hK => ?_) (AllReadyH.cons (by simp only [List.getElem?_toArray, List.getElem?_cons_succ, List.getElem?_cons_zero]; exact rfl) (fun K hK => ?_) AllReadyH.nil))
        · have hc := (HCB.out x HXx.out).1
          go_simp
          refine hK.out _ _ (by assumption) (fun hHeld => ?_)
          clear hc
          clear hK K
          try simp only [Act.put, List.setIfInBounds_toArray, List.set_cons_zero, List.set_cons_succ]
          refine wpAnyH_ready (rs := [18]) (by kernel_rfl) (by simp) ?_
          refine (AllReadyH.cons (by simp only [List.getElem?_toArray, List.getElem?_cons_succ, List.getElem?_cons_zero]; exact rfl) (fun K hK => ?_) AllReadyH.nil)
          go_simp
          have hbx : Below W5.heap.size W5 (x.alloc (.cells #[.string P, .int .i64 (B : Int), .int .i64 0, .int .i64 (tk : Int)] EF)) := HXx.out.alloc HXx.out.size _
          have hlx : LsC (x.alloc (.cells #[.string P, .int .i64 (B : Int), .int .i64 0, .int .i64 (tk : Int)] EF)) (some ⟨x.heap.size, 0, none⟩) (flC ⟨f.path, B, 0, tk⟩) := by rw [← HNE.out.1]; exact LsC.made x (flC ⟨f.path, B, 0, tk⟩) EF
          refine hK.out _ _ (HS.out _ (hbx.block q HQL.out)) (fun hHeld => ?_)
          generalize x.alloc (.cells #[.string P, .int .i64 (B : Int), .int .i64 0, .int .i64 (tk : Int)] EF) = x1 at hbx hlx hHeld ⊢
          have HXx1 := Lib.hid hbx
          have HLx := Lib.hid hlx
          clear hbx hlx
          clear hK K
          try simp only [Act.put, List.setIfInBounds_toArray, List.set_cons_zero, List.set_cons_succ]
          refine wpAnyH_ready (rs := [19]) (by kernel_rfl) (by simp) ?_
          refine (AllReadyH.cons (by simp only [List.getElem?_toArray, List.getElem?_cons_succ, List.getElem?_cons_zero]; exact rfl) (fun K hK => ?_) AllReadyH.nil)
          refine step_appendK elF x1 rfl (.tmp 75) (.tmp 89) rfl 0 (n := nf) (v := .slice pf nf kf) (cs := flsC fin) rfl (HOF.out x1 HXx1.out) (some ⟨x.heap.size, 0, none⟩) 1 1 (flC ⟨f.path, B, 0, tk⟩) rfl rfl HLx.out (fun h => by cases h) (flC_one _) (by omega) (Nat.zero_le _) ?_
          rintro v4 w4 hO4 hg4 hor4
          have hq4 : w4.heap[q]? = W5.heap[q]? := (hg4.block q (Nat.lt_of_lt_of_le HQL.out HXx1.out.size) (fun e => HQN.out e.symm)).trans (HXx1.out.block q HQL.out)
          have hb4 : w4.heap[b]? = W5.heap[b]? := (hg4.block b (Nat.lt_of_lt_of_le HBL.out HXx1.out.size) (fun e => HBN.out e.symm)).trans (HXx1.out.block b HBL.out)
          have HO4 := Lib.hid hO4
          have HG4 := Lib.hid (And.intro hg4 hor4)
          have HQ4 := Lib.hid hq4
          have HB4 := Lib.hid hb4
          obtain ⟨p4, k4, e4, -⟩ := own_shape hO4
          subst e4
          refine hK.out _ _ (HS.out _ hq4) (fun hHeld => ?_)
          clear hO4 hg4 hor4 hq4 hb4
          clear hK K
          try simp only [Act.put, List.setIfInBounds_toArray, List.set_cons_zero, List.set_cons_succ]
          refine wpAnyH_take (i := 20) (v := ?_) (by simp only [List.getElem?_toArray, List.getElem?_cons_succ, List.getElem?_cons_zero]; exact rfl) (by kernel_rfl) (by kernel_rfl) (by kernel_rfl) (fun _ _ _ h => h) (Or.inl ⟨by rfl, ?_⟩) (by assumption) ?_
          rotate_left 1
          · (intro w hSw; (try dsimp only at hSw); go_simp; try with_reducible rfl)
          try simp only [Act.put, List.setIfInBounds_toArray, List.set_cons_zero, List.set_cons_succ]
          refine wpAnyH_take (i := 21) (v := ?_) (by simp only [List.getElem?_toArray, List.getElem?_cons_succ, List.getElem?_cons_zero]; exact rfl) (by kernel_rfl) (by kernel_rfl) (by kernel_rfl) (fun _ _ _ h => h) (Or.inl ⟨by rfl, ?_⟩) (by assumption) ?_
          rotate_left 1
          · (intro w hSw; (try dsimp only at hSw); go_simp; try with_reducible rfl)
          try simp only [Act.put, List.setIfInBounds_toArray, List.set_cons_zero, List.set_cons_succ]
          refine wpAnyH_ready (rs := [22]) (by kernel_rfl) (by simp) ?_
          refine (AllReadyH.cons (by simp only [List.getElem?_toArray, List.getElem?_cons_succ, List.getElem?_cons_zero]; exact rfl) (fun K hK => ?_) AllReadyH.nil)
          have c5 := (HCB4.out w4 HB4.out).1
          have c6 := (HCB4.out w4 HB4.out).2
          have hs4 := (KpF.setCell (S := fun g => g = b) w4 ⟨b, 3, none⟩ (.slice p4 (nf + 1) k4) rfl)
          have hq5 := (hs4.block q (Array.getElem?_eq_some_iff.1 (HQ4.out.trans (HFLW.out).1)).1 hqb).trans HQ4.out
          have HQ5 := Lib.hid hq5
          have HS5 := Lib.hid hs4
          go_simp
          refine hK.out _ _ (HS.out _ hq5) (fun hHeld => ?_)
          clear c5 c6 hs4 hq5
          clear hK K
          try simp only [Act.put, List.setIfInBounds_toArray, List.set_cons_zero, List.set_cons_succ]
          refine wpAnyH_done (by kernel_rfl) ?_ _
          refine NoPanic.normal ?_
          clear hHeld
          have hsh := shUpd3 (fin' := fin ++ [⟨f.path, B, 0, tk⟩]) HG5.out.1 HG5.out.2.1 HG5.out.2.2.1 HG5.out.2.2.2.1 HG5.out.2.2.2.2 HXx1.out (KpF.of_grown HG4.out.1 fun k hk => hk) (by rw [flsC_app, flsC_one, List.length_append, HNE.out.2.2.2.2]; exact HO4.out) (fun g hg => by
            rcases HG4.out.2 with h | h
            · left; rw [← h]; exact hg
            · rw [h] at hg
              injection hg with hg
              right
              have := HXx1.out.size
              omega)
          obtain ⟨W7, hW7⟩ : ∃ W, w4.setCell ⟨b, 3, none⟩ (.slice p4 (nf + 1) k4) = W := ⟨_, rfl⟩
          rw [hW7] at hsh HQ5
          rw [hW7]
          have HSH7 := Lib.hid hsh.1
          have HK7 := Lib.hid hsh.2
          have HF7 := Lib.hid (HF5.out.keep HQ5.out)
          clear hsh hW7 HO4 HG4 HQ4 HB4 HXx HXx1 HLx
          go_wp2
          go_ret
          have hne : M = f.blocks := by
            have h1 := HFB.out
            rw [HNE.out.2.1]
            exact of_decide_eq_true h1
          refine ⟨by rw [HNE.out.2.1, HNE.out.2.2.1, HML.out.1, ← HNE.out.2.1, decide_eq_true hne]; rfl, ?_, ?_, ?_⟩
          · rw [show min f.blocks (f.done + left) = M by rw [HNE.out.2.1, HNE.out.2.2.1, HML.out.1]]; exact HF7.out
          · rw [HNE.out.2.1, HNE.out.2.2.1, HML.out.1, HML.out.2, ← HNE.out.2.1, if_pos hne, decide_eq_true hne, HNE.out.2.1]
            exact HSH7.out.mono fun g hg hF => by
              rcases hF with (hF | hF) | hF
              · exact .inl hF
              · exact .inr ⟨Nat.le_trans HK3.out.size hF.1, hg⟩
              · exact .inr ⟨Nat.le_trans HK3.out.size (Nat.le_trans HK5.out.size hF.1), hg⟩
          · exact ((HK3.out.mono fun k _ hk => by
              rcases hk with hk | hk
              · exact .inr hk
              · exact .inl (hk ▸ HIN.out.2.2.2.1)).trans ((HK5.out.trans_new HK7.out).mono fun k _ hk => .inl hk))
        · go_simp
          have hbx : Below W5.heap.size W5 (x.alloc (.cells #[.string P, .int .i64 (B : Int), .int .i64 0, .int .i64 (tk : Int)] EF)) := HXx.out.alloc HXx.out.size _
          have hlx : LsC (x.alloc (.cells #[.string P, .int .i64 (B : Int), .int .i64 0, .int .i64 (tk : Int)] EF)) (some ⟨x.heap.size, 0, none⟩) (flC ⟨f.path, B, 0, tk⟩) := by rw [← HNE.out.1]; exact LsC.made x (flC ⟨f.path, B, 0, tk⟩) EF
          refine hK.out _ _ (HS.out _ (hbx.block q HQL.out)) (fun hHeld => ?_)
          generalize x.alloc (.cells #[.string P, .int .i64 (B : Int), .int .i64 0, .int .i64 (tk : Int)] EF) = x1 at hbx hlx hHeld ⊢
          have HXx1 := Lib.hid hbx
          have HLx := Lib.hid hlx
          clear hbx hlx
          clear hK K
          try simp only [Act.put, List.setIfInBounds_toArray, List.set_cons_zero, List.set_cons_succ]
          refine wpAnyH_ready (rs := [4]) (by kernel_rfl) (by simp) ?_
          refine (AllReadyH.cons (by simp only [List.getElem?_toArray, List.getElem?_cons_succ, List.getElem?_cons_zero]; exact rfl) (fun K hK => ?_) AllReadyH.nil)
          have hc := (HCB.out x1 HXx1.out).1
          go_simp
          refine hK.out _ _ (by assumption) (fun hHeld => ?_)
          clear hc
          clear hK K
          try simp only [Act.put, List.setIfInBounds_toArray, List.set_cons_zero, List.set_cons_succ]
          refine wpAnyH_ready (rs := [19]) (by kernel_rfl) (by simp) ?_
          refine (AllReadyH.cons (by simp only [List.getElem?_toArray, List.getElem?_cons_succ, List.getElem?_cons_zero]; exact rfl) (fun K hK => ?_) AllReadyH.nil)
          refine step_appendK elF x1 rfl (.tmp 75) (.tmp 89) rfl 0 (n := nf) (v := .slice pf nf kf) (cs := flsC fin) rfl (HOF.out x1 HXx1.out) (some ⟨x.heap.size, 0, none⟩) 1 1 (flC ⟨f.path, B, 0, tk⟩) rfl rfl HLx.out (fun h => by cases h) (flC_one _) (by omega) (Nat.zero_le _) ?_
          rintro v4 w4 hO4 hg4 hor4
          have hq4 : w4.heap[q]? = W5.heap[q]? := (hg4.block q (Nat.lt_of_lt_of_le HQL.out HXx1.out.size) (fun e => HQN.out e.symm)).trans (HXx1.out.block q HQL.out)
          have hb4 : w4.heap[b]? = W5.heap[b]? := (hg4.block b (Nat.lt_of_lt_of_le HBL.out HXx1.out.size) (fun e => HBN.out e.symm)).trans (HXx1.out.block b HBL.out)
          have HO4 := Lib.hid hO4
          have HG4 := Lib.hid (And.intro hg4 hor4)
          have HQ4 := Lib.hid hq4
          have HB4 := Lib.hid hb4
          obtain ⟨p4, k4, e4, -⟩ := own_shape hO4
          subst e4
          refine hK.out _ _ (HS.out _ hq4) (fun hHeld => ?_)
          clear hO4 hg4 hor4 hq4 hb4
          clear hK K
          try simp only [Act.put, List.setIfInBounds_toArray, List.set_cons_zero, List.set_cons_succ]
          refine wpAnyH_take (i := 20) (v := ?_) (by simp only [List.getElem?_toArray, List.getElem?_cons_succ, List.getElem?_cons_zero]; exact rfl) (by kernel_rfl) (by kernel_rfl) (by kernel_rfl) (fun _ _ _ h => h) (Or.inl ⟨by rfl, ?_⟩) (by assumption) ?_
          rotate_left 1
          · (intro w hSw; (try dsimp only at hSw); go_simp; try with_reducible rfl)
          try simp only [Act.put, List.setIfInBounds_toArray, List.set_cons_zero, List.set_cons_succ]
          refine wpAnyH_take (i := 21) (v := ?_) (by simp only [List.getElem?_toArray, List.getElem?_cons_succ, List.getElem?_cons_zero]; exact rfl) (by kernel_rfl) (by kernel_rfl) (by kernel_rfl) (fun _ _ _ h => h) (Or.inl ⟨by rfl, ?_⟩) (by assumption) ?_
          rotate_left 1
          · (intro w hSw; (try dsimp only at hSw); go_simp; try with_reducible rfl)
          try simp only [Act.put, List.setIfInBounds_toArray, List.set_cons_zero, List.set_cons_succ]
          refine wpAnyH_ready (rs := [22]) (by kernel_rfl) (by simp) ?_
          refine (AllReadyH.cons (by simp only [List.getElem?_toArray, List.getElem?_cons_succ, List.getElem?_cons_zero]; exact rfl) (fun K hK => ?_) AllReadyH.nil)
          have c5 := (HCB4.out w4 HB4.out).1
          have c6 := (HCB4.out w4 HB4.out).2
          have hs4 := (KpF.setCell (S := fun g => g = b) w4 ⟨b, 3, none⟩ (.slice p4 (nf + 1) k4) rfl)
          have hq5 := (hs4.block q (Array.getElem?_eq_some_iff.1 (HQ4.out.trans (HFLW.out).1)).1 hqb).trans HQ4.out
          have HQ5 := Lib.hid hq5
          have HS5 := Lib.hid hs4
          go_simp
          refine hK.out _ _ (HS.out _ hq5) (fun hHeld => ?_)
          clear c5 c6 hs4 hq5
          clear hK K
          try simp only [Act.put, List.setIfInBounds_toArray, List.set_cons_zero, List.set_cons_succ]
          refine wpAnyH_done (by kernel_rfl) ?_ _
          refine NoPanic.normal ?_
          clear hHeld
          have hsh := shUpd3 (fin' := fin ++ [⟨f.path, B, 0, tk⟩]) HG5.out.1 HG5.out.2.1 HG5.out.2.2.1 HG5.out.2.2.2.1 HG5.out.2.2.2.2 HXx1.out (KpF.of_grown HG4.out.1 fun k hk => hk) (by rw [flsC_app, flsC_one, List.length_append, HNE.out.2.2.2.2]; exact HO4.out) (fun g hg => by
            rcases HG4.out.2 with h | h
            · left; rw [← h]; exact hg
            · rw [h] at hg
              injection hg with hg
              right
              have := HXx1.out.size
              omega)
          obtain ⟨W7, hW7⟩ : ∃ W, w4.setCell ⟨b, 3, none⟩ (.slice p4 (nf + 1) k4) = W := ⟨_, rfl⟩
          rw [hW7] at hsh HQ5
          rw [hW7]
          have HSH7 := Lib.hid hsh.1
          have HK7 := Lib.hid hsh.2
          have HF7 := Lib.hid (HF5.out.keep HQ5.out)
          clear hsh hW7 HO4 HG4 HQ4 HB4 HXx HXx1 HLx
          go_wp2
          go_ret
          have hne : M = f.blocks := by
            have h1 := HFB.out
            rw [HNE.out.2.1]
            exact of_decide_eq_true h1
          refine ⟨by rw [HNE.out.2.1, HNE.out.2.2.1, HML.out.1, ← HNE.out.2.1, decide_eq_true hne]; rfl, ?_, ?_, ?_⟩
          · rw [show min f.blocks (f.done + left) = M by rw [HNE.out.2.1, HNE.out.2.2.1, HML.out.1]]; exact HF7.out
          · rw [HNE.out.2.1, HNE.out.2.2.1, HML.out.1, HML.out.2, ← HNE.out.2.1, if_pos hne, decide_eq_true hne, HNE.out.2.1]
            exact HSH7.out.mono fun g hg hF => by
              rcases hF with (hF | hF) | hF
              · exact .inl hF
              · exact .inr ⟨Nat.le_trans HK3.out.size hF.1, hg⟩
              · exact .inr ⟨Nat.le_trans HK3.out.size (Nat.le_trans HK5.out.size hF.1), hg⟩
          · exact ((HK3.out.mono fun k _ hk => by
              rcases hk with hk | hk
              · exact .inr hk
              · exact .inl (hk ▸ HIN.out.2.2.2.1)).trans ((HK5.out.trans_new HK7.out).mono fun k _ hk => .inl hk))
end Go.Proofs.YtcgilacmdckbfaaDoor
