/- (*lane.Lanes).Tick. -/
import Derived.Test.YtcgilacmdckbfaaDoorTkl14
import Derived.Deep.RegionHeld3
set_option linter.unusedSimpArgs false
set_option maxRecDepth 100000
set_option linter.unusedVariables false
namespace Go.Proofs.YtcgilacmdckbfaaDoor
open Go Go.RowKit

/-- Is it a budget? -/
def badB (z : Int) : Bool := decide (z < 2) || decide (1000 < z) || !(decide (z % 2 = 0))
/-- What a tick leaves. -/
def TckP (w : World) (b : Nat) (F : Nat → Prop) (s : Ln) (h : Nat) (e : Ending) (w' : World) : Prop :=
  ∃ v ns, e = .returned (.tuple #[v, .int .i64 0]) ∧ w'.ownsRow w.heap.size EW 5 v (tickOut s h).length (wksC (tickOut s h)) ∧ ns.Perm (tickFin s h) ∧ byPath ns ∧ LnAt w' b (newF F w w') (tickS s h ns) ∧ KpF F w w'
theorem own_base {w : World} {E : TypeId} {b1 b2 k n : Nat} {v : Value} {cs : List Value} (h : w.ownsRow b1 E k v n cs) (hb : ∀ g, v.ownBlock = some g → b2 ≤ g) : w.ownsRow b2 E k v n cs := by
  refine ⟨h.1, ?_⟩
  rcases h.2 with h' | ⟨g, cap, cur, hv, -, r⟩
  · exact .inl h'
  · exact .inr ⟨g, cap, cur, hv, hb g (by rw [hv]; rfl), r⟩
set_option maxHeartbeats 8000000 in
theorem tick_go {w : World} {b : Nat} {F : Nat → Prop} {s : Ln} (hL : LnAt w b F s) (hoe : okL s.en) (hos : okL s.sc) (hn : s.en.length < 50000 ∧ s.sc.length < 50000) (hc : s.clock < 1000000000) (z : Int) (h : Nat) (h1 : 1 ≤ h) (h2 : h ≤ 500) (hz : z = 2 * (h : Int)) :
    Calls Tryd.prog 15 #[.pointer (some ⟨b, 0, none⟩), .int .i64 z] w (fun e w' => TckP w b F s h e w') := by
  obtain ⟨v1, v2, g1, g2, g3, g4, g5, g6⟩ := hL
  have hlf : LnF w b F v1.ownBlock v2.ownBlock := (show LnF w b F v1.ownBlock v2.ownBlock from ⟨g4, (Array.getElem?_eq_some_iff.1 g1).1, fun g hg => ⟨(g5 g hg).1, (g5 g hg).2, (g2.lt g hg).2⟩, fun g hg => ⟨(g6 g hg).1, (g6 g hg).2.1, (g6 g hg).2.2, (g3.lt g hg).2⟩⟩)
  have c0 := lnCells g1
  obtain ⟨c00, c01, c02, cfz⟩ := c0
  obtain ⟨p1, k1, e1, -⟩ := own_shape g2
  obtain ⟨p2, k2, e2, -⟩ := own_shape g3
  obtain ⟨m1, hm1⟩ : ∃ n, s.en.length = n := ⟨_, rfl⟩
  obtain ⟨m2, hm2⟩ : ∃ n, s.sc.length = n := ⟨_, rfl⟩
  rw [hm1] at e1
  rw [hm2] at e2
  subst e1 e2
  have HLF := Lib.hid hlf
  clear hlf
  have hlt : b < w.heap.size := (Array.getElem?_eq_some_iff.1 g1).1
  have hne : b ≠ w.heap.size := by omega
  have cf0 := cfz 0
  obtain ⟨ck, hck⟩ : ∃ c, s.clock + 1 = c := ⟨_, rfl⟩
  have hw1 : IntKind.i64.wrap ((s.clock : Int) + 1) = (ck : Int) := by rw [IntKind.wrap_i64]; omega
  have z1 : ¬ z < 2 := by omega
  have z2 : decide (z < 2) = false := decide_eq_false z1
  have z3 : ¬ 1000 < z := by omega
  have z4 : decide (1000 < z) = false := decide_eq_false z3
  have z5 : Int.tmod z 2 = 0 := by rw [Int.tmod_eq_emod_of_nonneg (by omega)]; omega
  have z6 : Int.tdiv z 2 = (h : Int) := by rw [Int.tdiv_eq_ediv_of_nonneg (by omega)]; omega
  have z7 : z % 2 = 0 := by omega
  have z8 : z / 2 = (h : Int) := by omega
  have HIN := Lib.hid (And.intro g1 (And.intro g2 g3))
  have HT0 := Lib.hid (TkI.begin g1 g2 g3 HLF.out ck h)
  have HMM := Lib.hid (And.intro hm1 hm2)
  have HOK := Lib.hid (And.intro hoe hos)
  clear g1 g2 g3 g4 g5 g6 hoe hos cfz
  go_enter Tryd.func15, Tryd.ntmps15
  go_wp2_with fail
  obtain ⟨sb, hsb⟩ : ∃ x, w.heap.size = x := ⟨_, rfl⟩
  obtain ⟨W3, hW3⟩ : ∃ W, (w.setCell ⟨b, 0, none⟩ (.int .i64 (ck : Int))).alloc (.cells #[.int .i64 (ck : Int), .int .i64 (h : Int), .slice none 0 0, .slice none 0 0] 80) = W := ⟨_, rfl⟩
  rw [hW3, hsb] at HT0
  have HSB := Lib.hid hsb
  rw [hW3, hsb]
  rw [hsb] at hne
  clear hW3 c00 c01 c02 cf0 hsb hw1
  have hR1 := work_any true HT0.out.2.2.2.1 HT0.out.2.1 (fun g hg e => absurd (HLF.out.2.2.1 g hg).2.2 (by unfold Nw at e; omega)) HOK.out.1 (by omega) ⟨by omega, by simp, by simp⟩
  obtain ⟨R1, hR1e⟩ : ∃ R, workL ck true s.en h = R := ⟨_, rfl⟩
  rw [hR1e] at hR1
  refine hR1.mono ?_
  rintro e u1 ⟨v1', rfl, hW1⟩
  clear hR1
  have HW1 := Lib.hid hW1
  have HR1E := Lib.hid hR1e
  have hT1 := HT0.out.work1 (tk' := ck) HLF.out hW1
  obtain ⟨p1', k1', e1, -⟩ := own_shape hW1.1
  subst e1
  obtain ⟨m1', hm1'⟩ : ∃ n, R1.rest.length = n := ⟨_, rfl⟩
  rw [hm1'] at hT1
  rw [hm1']
  obtain ⟨vd1, vf1, s1, -⟩ := id hW1.2.2.1
  have hs := HT0.out.step hW1.2.2.2 (fun e => by
    rcases e with e | e
    · exact absurd hlt (by unfold Nw at e; omega)
    · exact (HLF.out.2.2.1 b e).2.1 rfl) (fun g hg e => by
    rcases e with e | e
    · exact absurd hg (by unfold Nw at e; omega)
    · exact (HLF.out.2.2.1 g e).1)
  obtain ⟨-, c1, c2, cf⟩ := lnCells hs.1
  obtain ⟨-, d1, -, -, df⟩ := shCells s1
  have cf1 := cf 1
  have df1 := df 1
  have hle1 : R1.left ≤ h := by rw [← hR1e]; exact (workL_ok ck true s.en h HOK.out.1).2.2
  obtain ⟨L2, hL2⟩ : ∃ L, R1.left + h = L := ⟨_, rfl⟩
  have hw2 : IntKind.i64.wrap ((R1.left : Int) + (h : Int)) = (L2 : Int) := by rw [IntKind.wrap_i64]; omega
  have HT1 := Lib.hid (And.intro (hT1.1.setLeft hT1.2 L2) hT1.2)
  have HL2 := Lib.hid (And.intro hle1 hL2)
  clear hW1 hT1 s1 hs cf df hR1e hL2 hle1
  go_wp2_with fail
  obtain ⟨u2, hu2⟩ : ∃ W, (u1.setCell ⟨b, 1, none⟩ (.slice p1' m1' k1')).setCell ⟨sb, 1, none⟩ (.int .i64 (L2 : Int)) = W := ⟨_, rfl⟩
  rw [hu2] at HT1
  rw [hu2]
  clear hu2 c1 c2 cf1 d1 df1 hw2
  have hlens1 := congrArg List.length (workL_paths ck true s.en h).1
  have hout1 := workL_out_le ck true s.en h
  rw [HR1E.out] at hlens1 hout1
  simp only [List.length_append, List.length_map] at hlens1
  have hR2 := work_any false HT1.out.1.2.2.2.1 HT1.out.1.2.2.1 (fun g hg e => absurd (HT1.out.2.2.2.2 g hg).2.2.2 (by unfold Nw at e; omega)) HOK.out.2 (by have := HL2.out; omega) ⟨by omega, by simp only [List.nil_append]; omega, by simp only [List.nil_append]; omega⟩
  obtain ⟨R2, hR2e⟩ : ∃ R, workL ck false s.sc L2 = R := ⟨_, rfl⟩
  have hlens2 := congrArg List.length (workL_paths ck false s.sc L2).1
  rw [hR2e] at hR2 hlens2
  simp only [List.length_append, List.length_map] at hlens2
  refine hR2.mono ?_
  rintro e u3 ⟨v2', rfl, hW2⟩
  clear hR2
  have HW2 := Lib.hid hW2
  have HR2E := Lib.hid hR2e
  have hT2 := HT1.out.1.work2 HT1.out.2 hW2
  obtain ⟨p2', k2', e2, -⟩ := own_shape hW2.1
  subst e2
  obtain ⟨m2', hm2'⟩ : ∃ n, R2.rest.length = n := ⟨_, rfl⟩
  rw [hm2'] at hT2
  rw [hm2']
  have hs2 := HT1.out.1.step hW2.2.2.2 (fun e => by
    rcases e with e | e
    · exact absurd hlt (by unfold Nw at e; omega)
    · exact (HT1.out.2.2.2.2 b e).2.1 rfl) (fun g hg e => by
    rcases e with e | e
    · exact absurd hg (by unfold Nw at e; omega)
    · exact (HT1.out.2.2.2.2 g e).1)
  obtain ⟨vd, vf, s1, s2, s3, s4, s5, s6⟩ := id hW2.2.2.1
  obtain ⟨pd, kd, ed, -⟩ := own_shape s2
  obtain ⟨pf, kf, ef, -, hpf, hkf, -⟩ := own_shape s3
  subst ed ef
  obtain ⟨nd, hnd⟩ : ∃ n, (([] ++ R1.out) ++ R2.out).length = n := ⟨_, rfl⟩
  obtain ⟨nf, hnf⟩ : ∃ n, (([] ++ R1.fin) ++ R2.fin).length = n := ⟨_, rfl⟩
  have hnf5 : nf < 1000000 := by rw [← hnf]; simp only [List.nil_append, List.length_append]; omega
  rw [hnd, hnf] at s1
  rw [hnd] at s5 s6
  rw [hnf] at s6 hkf
  obtain ⟨-, -, c2, cf⟩ := lnCells hs2.1
  obtain ⟨-, -, d2, d3, df⟩ := shCells s1
  have cf2 := cf 2
  have hks2 : KpF (fun g => g = b) u3 (u3.setCell ⟨b, 2, none⟩ (.slice p2' m2' k2')) := KpF.setCell u3 _ _ rfl
  have hN5 : ∀ g, newF (Nw w) u2 u3 g → w.heap.size ≤ g := fun g hg => newNw HT1.out.1.2.2.2.2 hg
  have HSH := Lib.hid (show (u3.setCell ⟨b, 2, none⟩ (.slice p2' m2' k2')).heap[sb]? = some (.cells #[.int .i64 (ck : Int), .int .i64 (R2.left : Int), .slice pd nd kd, .slice pf nf kf] 80 (0, 0)) ∧ (u3.setCell ⟨b, 2, none⟩ (.slice p2' m2' k2')).ownsRow 0 EW 5 (.slice pd nd kd) (([] ++ R1.out) ++ R2.out).length (wksC (([] ++ R1.out) ++ R2.out)) ∧ (u3.setCell ⟨b, 2, none⟩ (.slice p2' m2' k2')).ownsRow 0 EF 4 (.slice pf nf kf) (([] ++ R1.fin) ++ R2.fin).length (flsC (([] ++ R1.fin) ++ R2.fin)) from by
    refine ⟨(hks2.block sb (Array.getElem?_eq_some_iff.1 s1).1 (fun e => hne e.symm)).trans s1, own_kpF (by rw [← hnd]; exact s2) hks2 fun g hg e => ?_, own_kpF (by rw [← hnf]; exact s3) hks2 fun g hg e => ?_⟩
    · have := hN5 g (s5 g (by rw [← hnd] at hg ⊢; exact hg)).1; omega
    · have := hN5 g (s6 g (by rw [← hnf] at hg ⊢; exact hg)).1; omega)
  have HS56 := Lib.hid (show (∀ g, (Value.slice pd nd kd).ownBlock = some g → w.heap.size ≤ g ∧ g ≠ sb) ∧ (∀ g, (Value.slice pf nf kf).ownBlock = some g → w.heap.size ≤ g ∧ g ≠ sb ∧ (Value.slice pd nd kd).ownBlock ≠ some g) from ⟨fun g hg => ⟨hN5 g (s5 g hg).1, (s5 g hg).2⟩, fun g hg => ⟨hN5 g (s6 g hg).1, (s6 g hg).2⟩⟩)
  have HT2 := Lib.hid hT2
  have HNN := Lib.hid (And.intro hnd (And.intro hnf (And.intro hpf (And.intro hkf hm2'))))
  clear hW2 hT2 hs2 s1 s2 s3 s4 s5 s6 cf df hks2 hN5 hpf hkf hnd hnf hm2' d2
  go_wp2_with fail
  obtain ⟨u4, hu4⟩ : ∃ W, u3.setCell ⟨b, 2, none⟩ (.slice p2' m2' k2') = W := ⟨_, rfl⟩
  rw [hu4] at HT2 HSH
  rw [hu4]
  clear hu4 c2 d3 cf2
  have hsort := sort_any u4 HSH.out.2.2 (by rw [HNN.out.2.1]; omega)
  refine hsort.mono ?_
  rintro e w9 ⟨rfl, l', hlp, hlb, hlo, hlk⟩
  clear hsort
  have h6 := HT2.out.1.sorted HT2.out.2 HSH.out.1 HSH.out.2.1 (by rw [HSB.out]; exact Nat.le_refl _) HS56.out.1 HS56.out.2 hlo hlk
  have H6 := Lib.hid h6
  have HLP := Lib.hid (And.intro hlp hlb)
  have hll : l'.length = nf := by rw [hlp.length_eq]; exact HNN.out.2.1
  have HSD := Lib.hid h6.2.2.2.1
  have HNE := Lib.hid (show sb ≠ b from fun e => hne e.symm)
  have HSL := Lib.hid (show sb < w9.heap.size ∧ b < w9.heap.size ∧ (Value.slice p2' m2' k2').ownBlock ≠ some sb ∧ (Value.slice p2' m2' k2').ownBlock ≠ some b from ⟨(Array.getElem?_eq_some_iff.1 h6.2.2.2.1).1, (Array.getElem?_eq_some_iff.1 h6.1).1, fun e => by have := (HT2.out.2.2.2.2 sb e).2.2.2; have := HSB.out; omega, fun e => (HT2.out.2.2.2.2 b e).2.1 rfl⟩)
  have HOB := Lib.hid (show ∀ u, Below w9.heap.size w9 u → u.ownsRow 0 EF 4 (.slice p2' m2' k2') m2' (flsC R2.rest) from fun u hu => own_below (by rw [← HNN.out.2.2.2.2]; have := h6.2.2.1; rw [HNN.out.2.2.2.2] at this ⊢; exact this) hu)
  have HOF := Lib.hid (show ∀ u, Below w9.heap.size w9 u → LsC u pf (flsC l') from fun u hu => by
    obtain ⟨pq, kq, eq, hq, -⟩ := own_shape hlo
    injection eq with eq1 eq2 eq3
    subst eq1
    exact hq.of_below hu)
  have HNF := Lib.hid (show (flsC l').length = nf * 4 ∧ (pf = none → kf = 0 ∧ nf = 0) ∧ m2' + nf < 100000000 from ⟨by rw [flsC_len, hll], fun e => by have h7 := HNN.out.2.2.1 e; have h8 := HNN.out.2.2.2.1; exact ⟨h7, by omega⟩, by have h9 := HNN.out.2.2.2.2; omega⟩)
  have HS := Lib.hid (show ∀ u : World, u.heap[sb]? = w9.heap[sb]? → u.cell? ⟨sb, 3, none⟩ = some (.slice pf nf kf) from fun u hu => (shCells (hu.trans HSD.out)).2.2.2.1)
  have HCB := Lib.hid (show ∀ u : World, Below w9.heap.size w9 u → u.cell? ⟨b, 2, none⟩ = some (.slice p2' m2' k2') ∧ True from fun u hu => ⟨(lnCells ((hu.block b HSL.out.2.1).trans H6.out.1)).2.2.1, trivial⟩)
  have HCB4 := Lib.hid (show ∀ u : World, u.heap[b]? = w9.heap[b]? → u.cell? ⟨b, 2, none⟩ = some (.slice p2' m2' k2') ∧ u.frozen? ⟨b, 2, none⟩ = false from fun u hu => by
    have c := lnCells (hu.trans H6.out.1)
    exact ⟨c.2.2.1, c.2.2.2 2⟩)
  clear h6 hlp hlb hlo hlk
  go_wp2
  refine wp_region_noPanic ?_
  refine wp_region_held_drew (S := (fun u : World => u.cell? ⟨sb, 3, none⟩ = some (.slice pf nf kf))) (by kernel_rfl) (HS.out _ rfl) (fun hHeld => ?_)
  generalize hgx : w9.drew = x at hHeld ⊢
  have HXx := Lib.hid (show Below w9.heap.size w9 x from by rw [← hgx]; exact (Below.refl _ _).drew)
  clear hgx
  refine wpAnyH_take (i := 0) (v := ?_) (by simp only [List.getElem?_toArray, List.getElem?_cons_succ, List.getElem?_cons_zero]; exact rfl) (by kernel_rfl) (by kernel_rfl) (by kernel_rfl) (fun _ _ _ h => h) (Or.inl ⟨by rfl, ?_⟩) (by assumption) ?_
  rotate_left 1
  · (intro w hSw; (try dsimp only at hSw); go_simp; try with_reducible rfl)
  try simp only [Act.put, List.setIfInBounds_toArray, List.set_cons_zero, List.set_cons_succ]
  refine wpAnyH_take (i := 1) (v := ?_) (by simp only [List.getElem?_toArray, List.getElem?_cons_succ, List.getElem?_cons_zero]; exact rfl) (by kernel_rfl) (by kernel_rfl) (by kernel_rfl) (fun _ _ _ h => h) (Or.inl ⟨by rfl, ?_⟩) (by assumption) ?_
  rotate_left 1
  · (intro w hSw; (try dsimp only at hSw); go_simp; try with_reducible rfl)
  try simp only [Act.put, List.setIfInBounds_toArray, List.set_cons_zero, List.set_cons_succ]
  refine wpAnyH_take (i := 2) (v := ?_) (by simp only [List.getElem?_toArray, List.getElem?_cons_succ, List.getElem?_cons_zero]; exact rfl) (by kernel_rfl) (by kernel_rfl) (by kernel_rfl) (fun _ _ _ h => h) (Or.inl ⟨by rfl, ?_⟩) (by assumption) ?_
  rotate_left 1
  · (intro w hSw; (try dsimp only at hSw); go_simp; try with_reducible rfl)
  try simp only [Act.put, List.setIfInBounds_toArray, List.set_cons_zero, List.set_cons_succ]
  refine wpAnyH_take (i := 3) (v := ?_) (by simp only [List.getElem?_toArray, List.getElem?_cons_succ, List.getElem?_cons_zero]; exact rfl) (by kernel_rfl) (by kernel_rfl) (by kernel_rfl) (fun _ _ _ h => h) (Or.inl ⟨by rfl, ?_⟩) (by assumption) ?_
  rotate_left 1
  · (intro w hSw; (try dsimp only at hSw); go_simp; try with_reducible rfl)
  try simp only [Act.put, List.setIfInBounds_toArray, List.set_cons_zero, List.set_cons_succ]
  refine wpAnyH_take (i := 5) (v := ?_) (by simp only [List.getElem?_toArray, List.getElem?_cons_succ, List.getElem?_cons_zero]; exact rfl) (by kernel_rfl) (by kernel_rfl) (by kernel_rfl) (fun _ _ _ h => h) (Or.inl ⟨by rfl, ?_⟩) (by assumption) ?_
  rotate_left 1
  · (intro w hSw; (try dsimp only at hSw); go_simp; try with_reducible rfl)
  try simp only [Act.put, List.setIfInBounds_toArray, List.set_cons_zero, List.set_cons_succ]
  refine wpAnyH_take (i := 6) (v := ?_) (by simp only [List.getElem?_toArray, List.getElem?_cons_succ, List.getElem?_cons_zero]; exact rfl) (by kernel_rfl) (by kernel_rfl) (by kernel_rfl) (fun _ _ _ h => h) (Or.inl ⟨by rfl, ?_⟩) (by assumption) ?_
  rotate_left 1
  · (intro w hSw; (try dsimp only at hSw); go_simp; try with_reducible rfl)
  try simp only [Act.put, List.setIfInBounds_toArray, List.set_cons_zero, List.set_cons_succ]
  refine wpAnyH_ready (rs := [4]) (by kernel_rfl) (by simp) ?_
  refine (AllReadyH.cons (by simp only [List.getElem?_toArray, List.getElem?_cons_succ, List.getElem?_cons_zero]; exact rfl) (fun K hK => ?_) AllReadyH.nil)
  have hc := (HCB.out x HXx.out).1
  go_simp
  refine hK.out _ _ (by assumption) (fun hHeld => ?_)
  clear hc
  clear hK K
  try simp only [Act.put, List.setIfInBounds_toArray, List.set_cons_zero, List.set_cons_succ]
  refine wpAnyH_ready (rs := [7]) (by kernel_rfl) (by simp) ?_
  refine (AllReadyH.cons (by simp only [List.getElem?_toArray, List.getElem?_cons_succ, List.getElem?_cons_zero]; exact rfl) (fun K hK => ?_) AllReadyH.nil)
  refine step_appendK elF x rfl (.tmp 62) (.tmp 64) rfl 0 (n := m2') (v := .slice p2' m2' k2') (cs := flsC R2.rest) rfl (HOB.out x HXx.out) pf nf kf (flsC l') HNF.out.1 rfl (HOF.out x HXx.out) HNF.out.2.1 (flsC_oneCell l') HNF.out.2.2 (Nat.zero_le _) ?_
  rintro v4 w4 hO4 hg4 hor4
  have hsb4 := (hg4.block sb (Nat.lt_of_lt_of_le HSL.out.1 HXx.out.size) (fun e => HSL.out.2.2.1 e.symm)).trans (HXx.out.block sb HSL.out.1)
  have hb4 := (hg4.block b (Nat.lt_of_lt_of_le HSL.out.2.1 HXx.out.size) (fun e => HSL.out.2.2.2 e.symm)).trans (HXx.out.block b HSL.out.2.1)
  have HO4 := Lib.hid hO4
  have HG4 := Lib.hid (And.intro hg4 hor4)
  have HSB4 := Lib.hid hsb4
  have HB4 := Lib.hid hb4
  obtain ⟨p4, k4, e4, -⟩ := own_shape hO4
  subst e4
  refine hK.out _ _ (HS.out _ hsb4) (fun hHeld => ?_)
  clear hO4 hg4 hor4 hsb4 hb4
  clear hK K
  try simp only [Act.put, List.setIfInBounds_toArray, List.set_cons_zero, List.set_cons_succ]
  refine wpAnyH_take (i := 8) (v := ?_) (by simp only [List.getElem?_toArray, List.getElem?_cons_succ, List.getElem?_cons_zero]; exact rfl) (by kernel_rfl) (by kernel_rfl) (by kernel_rfl) (fun _ _ _ h => h) (Or.inl ⟨by rfl, ?_⟩) (by assumption) ?_
  rotate_left 1
  · (intro w hSw; (try dsimp only at hSw); go_simp; try with_reducible rfl)
  try simp only [Act.put, List.setIfInBounds_toArray, List.set_cons_zero, List.set_cons_succ]
  refine wpAnyH_take (i := 9) (v := ?_) (by simp only [List.getElem?_toArray, List.getElem?_cons_succ, List.getElem?_cons_zero]; exact rfl) (by kernel_rfl) (by kernel_rfl) (by kernel_rfl) (fun _ _ _ h => h) (Or.inl ⟨by rfl, ?_⟩) (by assumption) ?_
  rotate_left 1
  · (intro w hSw; (try dsimp only at hSw); go_simp; try with_reducible rfl)
  try simp only [Act.put, List.setIfInBounds_toArray, List.set_cons_zero, List.set_cons_succ]
  refine wpAnyH_ready (rs := [10]) (by kernel_rfl) (by simp) ?_
  refine (AllReadyH.cons (by simp only [List.getElem?_toArray, List.getElem?_cons_succ, List.getElem?_cons_zero]; exact rfl) (fun K hK => ?_) AllReadyH.nil)
  have c5 := (HCB4.out w4 HB4.out).1
  have c6 := (HCB4.out w4 HB4.out).2
  have hs4 := (KpF.setCell (S := fun g => g = b) w4 ⟨b, 2, none⟩ (.slice p4 (m2' + nf) k4) rfl)
  have hq5 := (hs4.block sb (Array.getElem?_eq_some_iff.1 (HSB4.out.trans HSD.out)).1 (fun e => HNE.out e)).trans HSB4.out
  have HQ5 := Lib.hid hq5
  go_simp
  refine hK.out _ _ (HS.out _ hq5) (fun hHeld => ?_)
  clear c5 c6 hs4 hq5
  clear hK K
  try simp only [Act.put, List.setIfInBounds_toArray, List.set_cons_zero, List.set_cons_succ]
  refine wpAnyH_done (by kernel_rfl) ?_ _
  refine NoPanic.normal ?_
  clear hHeld
  have hfin := TkI.finish (l := R2.rest ++ l') HT2.out.2 H6.out.1 H6.out.2.1 H6.out.2.2.2.2.1 H6.out.2.2.2.2.2 (fun g hg => (HS56.out.1 g hg).1) ((KpF.of_new HXx.out).trans (KpF.of_grown HG4.out.1 fun k hk => hk)) (by rw [flsC_app, List.length_append, HNN.out.2.2.2.2, hll]; exact HO4.out) (fun g hg => by
    rcases HG4.out.2 with h7 | h7
    · left; rw [← h7]; exact hg
    · rw [h7] at hg
      injection hg with hg
      right
      have := HXx.out.size
      omega)
  obtain ⟨W, hW⟩ : ∃ W, w4.setCell ⟨b, 2, none⟩ (.slice p4 (m2' + nf) k4) = W := ⟨_, rfl⟩
  rw [hW] at hfin HQ5
  rw [hW]
  have hd := (shCells (HQ5.out.trans HSD.out)).2.2.1
  have HFI := Lib.hid hfin
  clear hfin hW
  go_wp2
  go_ret2
  have hA : tickA s h = R1 := by unfold tickA; rw [hck]; exact HR1E.out
  have hB : tickB s h = R2 := by unfold tickB; rw [hA, hck, HL2.out.2]; exact HR2E.out
  refine ⟨.slice pd nd kd, l', rfl, ?_, ?_, HLP.out.2, ?_, HFI.out.2.1⟩
  · have := HFI.out.2.2
    unfold tickOut
    rw [hA, hB]
    simpa using this
  · have := HLP.out.1
    unfold tickFin
    rw [hA, hB]
    simpa using this
  · have := HFI.out.1
    unfold tickS
    rw [hA, hB, hck]
    exact this
end Go.Proofs.YtcgilacmdckbfaaDoor
