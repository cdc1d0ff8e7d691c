/- darnerref14.Drop. -/
import Derived.Test.YtcgilacmdckbfaaDoorRfm14
import Derived.Deep.RegionHeld3
set_option linter.unusedSimpArgs false
set_option maxRecDepth 100000
set_option linter.unusedVariables false
namespace Go.Proofs.YtcgilacmdckbfaaDoor
open Go Go.RowKit

abbrev TL14 : TypeId := 28
theorem resL2 {fn : Func} {p q : Tmp} (h : fn.results = #[.cell p TL14, .tmp q]) (tmps : Array Value) (w : World) (b : Nat) (a c v : Value) (hp : tmps.getD p undef = .pointer (some ⟨b, 0, none⟩)) (hq : tmps.getD q undef = v)
    (hR : w.heap[b]? = some (.cells #[a, c] TL14 (0, 0))) (ha : a.oneCell' = true) (hc : c.oneCell' = true) : (results fn tmps).run Tryd.prog w = .ok (.tuple #[.agg #[a, c], v]) w := by
  have hl : (loadVar TL14 ⟨b, 0, none⟩).run Tryd.prog w = .ok (.agg #[a, c]) w := run_loadVar_row (P := Tryd.prog) w b TL14 TL14 #[a, c] (0, 0) _ hR Tryd.underlying28 rfl (by kernel_rfl)
  have hp' : tmps[p]?.getD undef = .pointer (some ⟨b, 0, none⟩) := by simpa using hp
  have hq' : tmps[q]?.getD undef = v := by simpa using hq
  simp [results, h, hp', hq', asAddr, hl]
def dropC (M : List Rf) (p : S8) : Int := if M.any (fun x => decide (x.path = p)) then 0 else 8
set_option maxHeartbeats 4000000 in
theorem refDrop_any {w : World} {q : Option Addr} {n cap : Nat} {M : List Rf} (ck : Int) (p : S8) (h : RLs w q n cap M) (hn : n < 10000000) (hnd : (M.map (·.path)).Nodup) :
    Calls Tryd.prog 11 #[.agg #[.slice q n cap, .int .i64 ck], .string (mkS p)] w fun e w' => ∃ q' n' cap', e = .returned (.tuple #[.agg #[.slice q' n' cap', .int .i64 ck], .int .i64 (dropC M p)]) ∧ RLs w' q' n' cap' (dropR M p) ∧ Below w.heap.size w w' ∧ NewL w q q' n n' cap cap' M (dropR M p) := by
  have HFN := Lib.hid (fun u (hu : Below w.heap.size w u) => refFind_any ck p (h.of_below hu) (by omega))
  have HL := Lib.hid (fun u (hu : Below w.heap.size w u) => h.of_below hu)
  obtain ⟨bx, hbx⟩ : ∃ b, w.heap.size = b := ⟨_, rfl⟩
  obtain ⟨W1, hW1⟩ : ∃ W, (w.alloc (.cells #[.slice q n cap, .int .i64 ck] TL14)).alloc (.cells #[.slice none 0 0, .int .i64 0] TL14) = W := ⟨_, rfl⟩
  have hB1 : Below w.heap.size w W1 := by rw [← hW1]; exact ((Below.refl _ w).alloc (Nat.le_refl _) _).alloc (by simp) _
  have hh1 : W1.heap[bx]? = some (.cells #[.slice q n cap, .int .i64 ck] TL14 (0, 0)) ∧ W1.heap[bx + 1]? = some (.cells #[.slice none 0 0, .int .i64 0] TL14 (0, 0)) := by
    rw [← hW1, ← hbx]
    refine ⟨?_, ?_⟩
    · rw [Below.heap_alloc _ _ _ (by simp)]; exact World.alloc_heap_new _ _
    · have := World.alloc_heap_new (w.alloc (.cells #[.slice q n cap, .int .i64 ck] TL14)) (.cells #[.slice none 0 0, .int .i64 0] TL14)
      rw [World.size_alloc] at this
      exact this
  have HH := Lib.hid (fun u (hu : Below W1.heap.size W1 u) => (show u.heap[bx]? = some (.cells #[.slice q n cap, .int .i64 ck] TL14 (0, 0)) ∧ u.heap[bx + 1]? = some (.cells #[.slice none 0 0, .int .i64 0] TL14 (0, 0)) from ⟨(hu.block bx (Array.getElem?_eq_some_iff.1 hh1.1).1).trans hh1.1, (hu.block (bx + 1) (Array.getElem?_eq_some_iff.1 hh1.2).1).trans hh1.2⟩))
  have c0 : W1.cell? ⟨bx, 0, none⟩ = some (.slice q n cap) := by simp [World.cell?, hh1.1]
  have c1 : W1.cell? ⟨bx, 1, none⟩ = some (.int .i64 ck) := by simp [World.cell?, hh1.1]
  have HF1 := Lib.hid (HFN.out W1 hB1)
  have HB1 := Lib.hid hB1
  have HNN := Lib.hid (And.intro h.1 hnd)
  clear h hB1 hh1
  go_enter Tryd.func11, Tryd.ntmps11
  go_wp2_with fail
  refine HF1.out.mono ?_
  rintro e w2 ⟨r, rfl, hr, hB2⟩
  have HB2 := Lib.hid hB2
  have h2 := HH.out w2 hB2
  have k0 : w2.cell? ⟨bx, 0, none⟩ = some (.slice q n cap) := by simp [World.cell?, h2.1]
  have k1 : w2.cell? ⟨bx, 1, none⟩ = some (.int .i64 ck) := by simp [World.cell?, h2.1]
  have k2 : w2.cell? ⟨bx + 1, 0, none⟩ = some (.slice none 0 0) := by simp [World.cell?, h2.2]
  have k3 : w2.cell? ⟨bx + 1, 1, none⟩ = some (.int .i64 0) := by simp [World.cell?, h2.2]
  have k4 : w2.frozen? ⟨bx + 1, 0, none⟩ = false := by simp [World.frozen?, h2.2]
  have k5 : w2.frozen? ⟨bx + 1, 1, none⟩ = false := by simp [World.frozen?, h2.2]
  have HBX := Lib.hid hbx
  clear hB2 h2 c0 c1 hW1 hbx
  rcases hr with ⟨rfl, hno⟩ | ⟨i, rfl, hi, hp⟩
  · have hany : M.any (fun x => decide (x.path = p)) = false := by
      rw [List.any_eq_false]
      intro x hx
      simpa using hno x hx
    have hdr : dropR M p = M := by
      unfold dropR
      rw [List.filter_eq_self]
      intro x hx
      simpa using hno x hx
    have hany : dropC M p = 8 := by unfold dropC; rw [hany]; rfl
    have HAN := Lib.hid (And.intro hany hdr)
    have HQ := Lib.hid (show ((w2.setCell ⟨bx + 1, 0, none⟩ (.slice q n cap)).setCell ⟨bx + 1, 1, none⟩ (.int .i64 ck)).heap[bx + 1]? = some (.cells #[.slice q n cap, .int .i64 ck] TL14 (0, 0)) ∧ Below w.heap.size w ((w2.setCell ⟨bx + 1, 0, none⟩ (.slice q n cap)).setCell ⟨bx + 1, 1, none⟩ (.int .i64 ck)) from by
      refine ⟨?_, ?_⟩
      · have := (HH.out w2 HB2.out).2
        simp [World.setCell, Array.getElem?_modify, this]
      · have h3 := HB1.out.trans (HB2.out.mono HB1.out.size)
        exact (h3.setCell (by show w.heap.size ≤ bx + 1; have := HBX.out; omega) _).setCell (by show w.heap.size ≤ bx + 1; have := HBX.out; omega) _)
    clear hany hdr hno
    go_wp2
    refine bodyPost_ret (resL2 rfl _ _ (bx + 1) (.slice q n cap) (.int .i64 ck) (.int .i64 8) rfl rfl HQ.out.1 rfl rfl) rfl ?_
    exact ⟨q, n, cap, by rw [HAN.out.1], by rw [HAN.out.2]; exact HL.out _ HQ.out.2, HQ.out.2, .inl ⟨rfl, rfl, rfl, HAN.out.2⟩⟩
  · have hany : M.any (fun x => decide (x.path = p)) = true := by
      rw [List.any_eq_true]
      exact ⟨M.getD i rf0, by rw [List.getD_eq_getElem?_getD, List.getElem?_eq_getElem hi]; exact List.getElem_mem _, by simpa using hp⟩
    have hdr := cut_dropR hi hp HNN.out.2
    have hany : dropC M p = 0 := by unfold dropC; rw [hany]; rfl
    have HAN := Lib.hid (And.intro hany hdr)
    have hi0 : ¬ (i : Int) < 0 := by omega
    have hi1 : decide ((i : Int) < 0) = false := decide_eq_false hi0
    have hin : i < n := by rw [← HNN.out.1]; exact hi
    have hw6 : IntKind.i64.wrap ((i : Int) + 1) = (i : Int) + 1 := by rw [IntKind.wrap_i64]; omega
    have hL2 := HL.out w2 (HB1.out.trans (HB2.out.mono HB1.out.size))
    have hcap : n ≤ cap := hL2.2.2.2
    have hic : i ≤ cap := by omega
    have hic1 : i + 1 ≤ cap := by omega
    obtain ⟨c, o, rfl, -⟩ := hL2.cells i hin
    have HLT := Lib.hid (show (rfsC (M.take i)).length = i * 4 ∧ (rfsC (M.drop (i + 1))).length = (n - (i + 1)) * 4 from ⟨by rw [rfsC_len, List.length_take]; omega, by rw [rfsC_len, List.length_drop, HNN.out.1]⟩)
    have HCB := Lib.hid (show ∀ u, Below w2.heap.size w2 u → u.cell? ⟨bx, 0, none⟩ = some (.slice (some ⟨c, o, none⟩) n cap) ∧ u.cell? ⟨bx + 1, 0, none⟩ = some (.slice none 0 0) from fun u hu => by
      have h3 := HH.out u (HB2.out.trans (hu.mono HB2.out.size))
      constructor
      · simp [World.cell?, h3.1]
      · simp [World.cell?, h3.2])
    have HFZ := Lib.hid (show ∀ u, Below w2.heap.size w2 u → u.frozen? ⟨bx, 0, none⟩ = false from fun u hu => by
      have h3 := HH.out u (HB2.out.trans (hu.mono HB2.out.size))
      simp [World.frozen?, h3.1])
    have HTK := Lib.hid (show ∀ u, Below w2.heap.size w2 u → LsC u (some ⟨c, o, none⟩) (rfsC (M.take i)) from fun u hu => by
      rw [← rfsC_take]
      exact (hL2.of_below hu).2.1.take _)
    clear hany hdr hi hp
    obtain ⟨A, hA, hls⟩ : ∃ A : Addr, (if cap = i + 1 then (some ⟨c, o, none⟩ : Option Addr) else some ⟨c, o + (i + 1) * 4, none⟩) = some A ∧ ∀ u, Below w2.heap.size w2 u → LsC u (some A) (rfsC (M.drop (i + 1))) := by
      by_cases hce : cap = i + 1
      · refine ⟨⟨c, o, none⟩, by rw [if_pos hce], fun u hu j hj => ?_⟩
        have := HLT.out.2
        omega
      · refine ⟨⟨c, o + (i + 1) * 4, none⟩, by rw [if_neg hce], fun u hu j hj => ?_⟩
        obtain ⟨c', o', e, hc⟩ := (hL2.of_below hu).2.1 ((i + 1) * 4 + j) (by rw [← rfsC_drop, List.length_drop] at hj; omega)
        injection e with e
        injection e with e1 e2
        subst e1 e2
        refine ⟨c, o + (i + 1) * 4, rfl, ?_⟩
        rw [Nat.add_assoc, hc, ← rfsC_drop, List.getElem?_drop]
    have HLS := Lib.hid (show ∀ u, Below w2.heap.size w2 u → LsC u (some ⟨c, o, none⟩) (rfsC (M.take i)) ∧ LsC u (some A) (rfsC (M.drop (i + 1))) from fun u hu => ⟨HTK.out u hu, hls u hu⟩)
    have yi0 : (0 : Int) ≤ (i : Int) := by omega
    have yi1 : (i : Int) ≤ (cap : Int) := by omega
    have yi2 : (0 : Int) ≤ (i : Int) + 1 := by omega
    have yi3 : (i : Int) + 1 ≤ (n : Int) := by omega
    have yi4 : (n : Int) ≤ (cap : Int) := by omega
    have yi5 : ((i : Int) + 1).toNat = i + 1 := by omega
    clear hL2 hls
    go_wp2
    refine wp_region_noPanic ?_
    refine wp_region_held_drew (S := (fun u : World => u.cell? ⟨bx + 1, 0, none⟩ = some (.slice none 0 0))) (by kernel_rfl) ((HCB.out _ (Below.refl _ _).drew).2) (fun hHeld => ?_)
    generalize hgx : w2.drew = x at hHeld ⊢
    have HXx := Lib.hid (show Below w2.heap.size w2 x from by rw [← hgx]; exact (Below.refl _ _).drew)
    clear hgx
    refine wpAnyH_take (i := 1) (v := ?_) (by simp only [List.getElem?_toArray, List.getElem?_cons_succ, List.getElem?_cons_zero]; exact rfl) (by kernel_rfl) (by kernel_rfl) (by kernel_rfl) (fun _ _ _ h => h) (Or.inl ⟨by rfl, ?_⟩) (by assumption) ?_
    rotate_left 1
    · (intro w hSw; (try dsimp only at hSw); go_simp; try with_reducible rfl)
    try simp only [Act.put, List.setIfInBounds_toArray, List.set_cons_zero, List.set_cons_succ]
    refine wpAnyH_take (i := 3) (v := ?_) (by simp only [List.getElem?_toArray, List.getElem?_cons_succ, List.getElem?_cons_zero]; exact rfl) (by kernel_rfl) (by kernel_rfl) (by kernel_rfl) (fun _ _ _ h => h) (Or.inl ⟨by rfl, ?_⟩) (by assumption) ?_
    rotate_left 1
    · (intro w hSw; (try dsimp only at hSw); go_simp; try with_reducible rfl)
    try simp only [Act.put, List.setIfInBounds_toArray, List.set_cons_zero, List.set_cons_succ]
    refine wpAnyH_take (i := 6) (v := ?_) (by simp only [List.getElem?_toArray, List.getElem?_cons_succ, List.getElem?_cons_zero]; exact rfl) (by kernel_rfl) (by kernel_rfl) (by kernel_rfl) (fun _ _ _ h => h) (Or.inl ⟨by rfl, ?_⟩) (by assumption) ?_
    rotate_left 1
    · (intro w hSw; (try dsimp only at hSw); go_simp; try with_reducible rfl)
    try simp only [Act.put, List.setIfInBounds_toArray, List.set_cons_zero, List.set_cons_succ]
    refine wpAnyH_take (i := 8) (v := ?_) (by simp only [List.getElem?_toArray, List.getElem?_cons_succ, List.getElem?_cons_zero]; exact rfl) (by kernel_rfl) (by kernel_rfl) (by kernel_rfl) (fun _ _ _ h => h) (Or.inl ⟨by rfl, ?_⟩) (by assumption) ?_
    rotate_left 1
    · (intro w hSw; (try dsimp only at hSw); go_simp; try with_reducible rfl)
    try simp only [Act.put, List.setIfInBounds_toArray, List.set_cons_zero, List.set_cons_succ]
    refine wpAnyH_take (i := 9) (v := ?_) (by simp only [List.getElem?_toArray, List.getElem?_cons_succ, List.getElem?_cons_zero]; exact rfl) (by kernel_rfl) (by kernel_rfl) (by kernel_rfl) (fun _ _ _ h => h) (Or.inl ⟨by rfl, ?_⟩) (by assumption) ?_
    rotate_left 1
    · (intro w hSw; (try dsimp only at hSw); go_simp; try with_reducible rfl)
    try simp only [Act.put, List.setIfInBounds_toArray, List.set_cons_zero, List.set_cons_succ]
    refine wpAnyH_ready (rs := [0, 2, 7]) (by kernel_rfl) (by simp) ?_
    refine (AllReadyH.cons (by simp only [List.getElem?_toArray, List.getElem?_cons_succ, List.getElem?_cons_zero]; exact rfl) (fun K hK => ?_) (AllReadyH.cons (by simp only [List.getElem?_toArray, List.getElem?_cons_succ, List.getElem?_cons_zero]; exact rfl) (fun K hK => ?_) (AllReadyH.cons (by simp only [List.getElem?_toArray, List.getElem?_cons_succ, List.getElem?_cons_zero]; exact rfl) (fun K hK => ?_) AllReadyH.nil)))
    · go_simp
      have hbx : Below w2.heap.size w2 (x.alloc (.cells #[] ER)) := HXx.out.alloc HXx.out.size _
      have hox := own_empty (E := ER) (k := 4) x w2.heap.size HXx.out.size
      refine hK.out _ _ (HCB.out _ hbx).2 (fun hHeld => ?_)
      generalize x.alloc (.cells #[] ER) = x1 at hbx hox hHeld ⊢
      have HXx1 := Lib.hid hbx
      have HO1 := Lib.hid hox
      clear hbx hox
      clear hK K
      try simp only [Act.put, List.setIfInBounds_toArray, List.set_cons_zero, List.set_cons_succ]
      refine wpAnyH_ready (rs := [2, 7]) (by kernel_rfl) (by simp) ?_
      refine (AllReadyH.cons (by simp only [List.getElem?_toArray, List.getElem?_cons_succ, List.getElem?_cons_zero]; exact rfl) (fun K hK => ?_) (AllReadyH.cons (by simp only [List.getElem?_toArray, List.getElem?_cons_succ, List.getElem?_cons_zero]; exact rfl) (fun K hK => ?_) AllReadyH.nil))
      · have hc := (HCB.out x1 HXx1.out).1
        go_simp
        refine hK.out _ _ (by assumption) (fun hHeld => ?_)
        clear hc
        clear hK K
        try simp only [Act.put, List.setIfInBounds_toArray, List.set_cons_zero, List.set_cons_succ]
        refine wpAnyH_take (i := 4) (v := ?_) (by simp only [List.getElem?_toArray, List.getElem?_cons_succ, List.getElem?_cons_zero]; exact rfl) (by kernel_rfl) (by kernel_rfl) (by kernel_rfl) (fun _ _ _ h => h) (Or.inl ⟨by rfl, ?_⟩) (by assumption) ?_
        rotate_left 1
        · (intro w hSw; (try dsimp only at hSw); go_simp; try with_reducible rfl)
        try simp only [Act.put, List.setIfInBounds_toArray, List.set_cons_zero, List.set_cons_succ]
        refine wpAnyH_ready (rs := [5, 7]) (by kernel_rfl) (by simp) ?_
        refine (AllReadyH.cons (by simp only [List.getElem?_toArray, List.getElem?_cons_succ, List.getElem?_cons_zero]; exact rfl) (fun K hK => ?_) (AllReadyH.cons (by simp only [List.getElem?_toArray, List.getElem?_cons_succ, List.getElem?_cons_zero]; exact rfl) (fun K hK => ?_) AllReadyH.nil))
        · refine step_appendK elR14 x1 rfl (.tmp 13) (.tmp 17) rfl w2.heap.size (n := 0) (v := .slice (some ⟨x.heap.size, 0, none⟩) 0 0) (cs := []) rfl HO1.out (some ⟨c, o, none⟩) i cap (rfsC (M.take i)) HLT.out.1 rfl (HLS.out x1 HXx1.out).1 (fun h => by cases h) (rfsC_oneCell _) (by omega) HXx1.out.size ?_
          rintro v5 w5 hO5 hg5 -
          rw [List.nil_append, Nat.zero_add] at hO5
          have hb5 : Below w2.heap.size w2 w5 := HXx1.out.grown hg5 HXx1.out.size (fun g hg => (HO1.out.lt g hg).1)
          have HO5 := Lib.hid hO5
          have HXw5 := Lib.hid hb5
          obtain ⟨p5, k5, e5, -⟩ := own_shape hO5
          subst e5
          refine hK.out _ _ (HCB.out _ hb5).2 (fun hHeld => ?_)
          clear hO5 hg5 hb5
          clear hK K
          try simp only [Act.put, List.setIfInBounds_toArray, List.set_cons_zero, List.set_cons_succ]
          refine wpAnyH_ready (rs := [7]) (by kernel_rfl) (by simp) ?_
          refine (AllReadyH.cons (by simp only [List.getElem?_toArray, List.getElem?_cons_succ, List.getElem?_cons_zero]; exact rfl) (fun K hK => ?_) AllReadyH.nil)
          have hc := (HCB.out w5 HXw5.out).1
          go_simp
          refine hK.out _ _ (by assumption) (fun hHeld => ?_)
          clear hc
          clear hK K
          try simp only [Act.put, List.setIfInBounds_toArray, List.set_cons_zero, List.set_cons_succ]
          refine wpAnyH_take (i := 10) (v := ?_) (by simp only [List.getElem?_toArray, List.getElem?_cons_succ, List.getElem?_cons_zero]; exact rfl) (by kernel_rfl) (by kernel_rfl) (by kernel_rfl) (fun _ _ _ h => h) (Or.inl ⟨by rfl, ?_⟩) (by assumption) ?_
          rotate_left 1
          · (intro w hSw; (try dsimp only at hSw); go_simp; try with_reducible rfl)
          try simp only [Act.put, List.setIfInBounds_toArray, List.set_cons_zero, List.set_cons_succ]
          refine wpAnyH_ready (rs := [11]) (by kernel_rfl) (by simp) ?_
          refine (AllReadyH.cons (by simp only [List.getElem?_toArray, List.getElem?_cons_succ, List.getElem?_cons_zero]; exact rfl) (fun K hK => ?_) AllReadyH.nil)
          refine step_appendK elR14 w5 rfl (.tmp 18) (.tmp 23) rfl w2.heap.size (n := i) (v := .slice p5 i k5) (cs := rfsC (M.take i)) rfl HO5.out (some A) (n - (i + 1)) (cap - (i + 1)) (rfsC (M.drop (i + 1))) HLT.out.2 rfl (HLS.out w5 HXw5.out).2 (fun h => by cases h) (rfsC_oneCell _) (by omega) HXw5.out.size ?_
          rintro v6 w6 hO6 hg6 -
          rw [← rfsC_app] at hO6
          have hb6 : Below w2.heap.size w2 w6 := HXw5.out.grown hg6 HXw5.out.size (fun g hg => (HO5.out.lt g hg).1)
          have HO6 := Lib.hid hO6
          have HXw6 := Lib.hid hb6
          obtain ⟨p6, k6, e6, -⟩ := own_shape hO6
          subst e6
          refine hK.out _ _ (HCB.out _ hb6).2 (fun hHeld => ?_)
          clear hO6 hg6 hb6
          clear hK K
          try simp only [Act.put, List.setIfInBounds_toArray, List.set_cons_zero, List.set_cons_succ]
          refine wpAnyH_take (i := 12) (v := ?_) (by simp only [List.getElem?_toArray, List.getElem?_cons_succ, List.getElem?_cons_zero]; exact rfl) (by kernel_rfl) (by kernel_rfl) (by kernel_rfl) (fun _ _ _ h => h) (Or.inl ⟨by rfl, ?_⟩) (by assumption) ?_
          rotate_left 1
          · (intro w hSw; (try dsimp only at hSw); go_simp; try with_reducible rfl)
          try simp only [Act.put, List.setIfInBounds_toArray, List.set_cons_zero, List.set_cons_succ]
          refine wpAnyH_ready (rs := [13]) (by kernel_rfl) (by simp) ?_
          refine (AllReadyH.cons (by simp only [List.getElem?_toArray, List.getElem?_cons_succ, List.getElem?_cons_zero]; exact rfl) (fun K hK => ?_) AllReadyH.nil)
          have c5 := (HCB.out w6 HXw6.out).1
          have c6 := HFZ.out w6 HXw6.out
          have hs6 : (w6.setCell ⟨bx, 0, none⟩ (.slice p6 (i + (n - (i + 1))) k6)).cell? ⟨bx + 1, 0, none⟩ = some (.slice none 0 0) := by
            rw [World.cell?_setCell_other _ _ _ _ (by simp)]
            exact (HCB.out w6 HXw6.out).2
          go_simp
          refine hK.out _ _ hs6 (fun hHeld => ?_)
          clear c5 c6 hs6
          clear hK K
          try simp only [Act.put, List.setIfInBounds_toArray, List.set_cons_zero, List.set_cons_succ]
          refine wpAnyH_done (by kernel_rfl) ?_ _
          refine NoPanic.normal ?_
          clear hHeld
          obtain ⟨n6, hn6⟩ : ∃ y, i + (n - (i + 1)) = y := ⟨_, rfl⟩
          have ho6 := HO6.out
          rw [hn6] at ho6 ⊢
          have h6 := HH.out w6 (HB2.out.trans (HXw6.out.mono HB2.out.size))
          have hbw : bx + 1 < w2.heap.size := Nat.lt_of_lt_of_le (Array.getElem?_eq_some_iff.1 (HH.out W1 (Below.refl _ _)).2).1 HB2.out.size
          have hs7 : (w6.setCell ⟨bx, 0, none⟩ (.slice p6 n6 k6)).heap[bx]? = some (.cells #[.slice p6 n6 k6, .int .i64 ck] TL14 (0, 0)) ∧ (w6.setCell ⟨bx, 0, none⟩ (.slice p6 n6 k6)).heap[bx + 1]? = some (.cells #[.slice none 0 0, .int .i64 0] TL14 (0, 0)) := by
            refine ⟨by simp [World.setCell, Array.getElem?_modify, h6.1], ?_⟩
            have : ¬ bx = bx + 1 := by omega
            simp [World.setCell, Array.getElem?_modify, h6.2, this]
          have hk7 : KpF (fun g => g = bx) w6 (w6.setCell ⟨bx, 0, none⟩ (.slice p6 n6 k6)) := KpF.setCell _ _ _ rfl
          obtain ⟨W7, hW7⟩ : ∃ W, w6.setCell ⟨bx, 0, none⟩ (.slice p6 n6 k6) = W := ⟨_, rfl⟩
          rw [hW7] at hs7 hk7
          rw [hW7]
          have j0 : W7.cell? ⟨bx, 0, none⟩ = some (.slice p6 n6 k6) := by simp [World.cell?, hs7.1]
          have j1 : W7.cell? ⟨bx, 1, none⟩ = some (.int .i64 ck) := by simp [World.cell?, hs7.1]
          have j2 : W7.cell? ⟨bx + 1, 0, none⟩ = some (.slice none 0 0) := by simp [World.cell?, hs7.2]
          have j3 : W7.cell? ⟨bx + 1, 1, none⟩ = some (.int .i64 0) := by simp [World.cell?, hs7.2]
          have j4 : W7.frozen? ⟨bx + 1, 0, none⟩ = false := by simp [World.frozen?, hs7.2]
          have j5 : W7.frozen? ⟨bx + 1, 1, none⟩ = false := by simp [World.frozen?, hs7.2]
          have hk8 : KpF (fun g => g = bx + 1) W7 ((W7.setCell ⟨bx + 1, 0, none⟩ (.slice p6 n6 k6)).setCell ⟨bx + 1, 1, none⟩ (.int .i64 ck)) := (KpF.setCell (S := fun g => g = bx + 1) W7 ⟨bx + 1, 0, none⟩ _ rfl).trans (KpF.setCell (S := fun g => g = bx + 1) _ ⟨bx + 1, 1, none⟩ _ rfl)
          have h8 : ((W7.setCell ⟨bx + 1, 0, none⟩ (.slice p6 n6 k6)).setCell ⟨bx + 1, 1, none⟩ (.int .i64 ck)).heap[bx + 1]? = some (.cells #[.slice p6 n6 k6, .int .i64 ck] TL14 (0, 0)) := by simp [World.setCell, Array.getElem?_modify, hs7.2]
          have ho8 := own_kpF (own_kpF ho6 hk7 fun g hg e => by have := (ho6.lt g hg).1; omega) hk8 fun g hg e => by have := (ho6.lt g hg).1; omega
          have hb6 := (HB1.out.trans (HB2.out.mono HB1.out.size)).trans (HXw6.out.mono (Nat.le_trans HB1.out.size HB2.out.size))
          have hb8 : Below w.heap.size w ((W7.setCell ⟨bx + 1, 0, none⟩ (.slice p6 n6 k6)).setCell ⟨bx + 1, 1, none⟩ (.int .i64 ck)) := (hb6.trans (hk7.below (fun k hk => by have := HBX.out; omega) hb6.size)).trans (hk8.below (fun k hk => by have := HBX.out; omega) (Nat.le_trans hb6.size hk7.size))
          have HQ := Lib.hid (And.intro h8 (And.intro ho8 hb8))
          have HN6 := Lib.hid hn6
          clear hs7 hk7 hk8 h8 ho8 hb8 hb6 ho6 h6 hW7 hn6
          go_wp2
          refine bodyPost_ret (resL2 rfl _ _ (bx + 1) (.slice p6 n6 k6) (.int .i64 ck) (.int .i64 0) rfl rfl HQ.out.1 rfl rfl) rfl ?_
          obtain ⟨p9, k9, e9, hl9, hp9, hc9, hb9⟩ := own_shape HQ.out.2.1
          injection e9 with e91 e92 e93
          subst e91 e93
          refine ⟨_, n6, k6, by rw [HAN.out.1], ?_, HQ.out.2.2, .inr fun c o e => by have h1 := (hb9 c o e).1; have h2 := HB1.out.size; have h3 := HB2.out.size; omega⟩
          rw [← HAN.out.2]
          exact ⟨by rw [List.length_append, List.length_take, List.length_drop, HNN.out.1]; have := HN6.out; omega, hl9, hp9, hc9⟩
        · have hc := (HCB.out x1 HXx1.out).1
          go_simp
          refine hK.out _ _ (by assumption) (fun hHeld => ?_)
          clear hc
          clear hK K
          try simp only [Act.put, List.setIfInBounds_toArray, List.set_cons_zero, List.set_cons_succ]
          refine wpAnyH_take (i := 10) (v := ?_) (by simp only [List.getElem?_toArray, List.getElem?_cons_succ, List.getElem?_cons_zero]; exact rfl) (by kernel_rfl) (by kernel_rfl) (by kernel_rfl) (fun _ _ _ h => h) (Or.inl ⟨by rfl, ?_⟩) (by assumption) ?_
          rotate_left 1
          · (intro w hSw; (try dsimp only at hSw); go_simp; try with_reducible rfl)
          try simp only [Act.put, List.setIfInBounds_toArray, List.set_cons_zero, List.set_cons_succ]
          refine wpAnyH_ready (rs := [5]) (by kernel_rfl) (by simp) ?_
          refine (AllReadyH.cons (by simp only [List.getElem?_toArray, List.getElem?_cons_succ, List.getElem?_cons_zero]; exact rfl) (fun K hK => ?_) AllReadyH.nil)
          refine step_appendK elR14 x1 rfl (.tmp 13) (.tmp 17) rfl w2.heap.size (n := 0) (v := .slice (some ⟨x.heap.size, 0, none⟩) 0 0) (cs := []) rfl HO1.out (some ⟨c, o, none⟩) i cap (rfsC (M.take i)) HLT.out.1 rfl (HLS.out x1 HXx1.out).1 (fun h => by cases h) (rfsC_oneCell _) (by omega) HXx1.out.size ?_
          rintro v5 w5 hO5 hg5 -
          rw [List.nil_append, Nat.zero_add] at hO5
          have hb5 : Below w2.heap.size w2 w5 := HXx1.out.grown hg5 HXx1.out.size (fun g hg => (HO1.out.lt g hg).1)
          have HO5 := Lib.hid hO5
          have HXw5 := Lib.hid hb5
          obtain ⟨p5, k5, e5, -⟩ := own_shape hO5
          subst e5
          refine hK.out _ _ (HCB.out _ hb5).2 (fun hHeld => ?_)
          clear hO5 hg5 hb5
          clear hK K
          try simp only [Act.put, List.setIfInBounds_toArray, List.set_cons_zero, List.set_cons_succ]
          refine wpAnyH_ready (rs := [11]) (by kernel_rfl) (by simp) ?_
          refine (AllReadyH.cons (by simp only [List.getElem?_toArray, List.getElem?_cons_succ, List.getElem?_cons_zero]; exact rfl) (fun K hK => ?_) AllReadyH.nil)
          refine step_appendK elR14 w5 rfl (.tmp 18) (.tmp 23) rfl w2.heap.size (n := i) (v := .slice p5 i k5) (cs := rfsC (M.take i)) rfl HO5.out (some A) (n - (i + 1)) (cap - (i + 1)) (rfsC (M.drop (i + 1))) HLT.out.2 rfl (HLS.out w5 HXw5.out).2 (fun h => by cases h) (rfsC_oneCell _) (by omega) HXw5.out.size ?_
          rintro v6 w6 hO6 hg6 -
          rw [← rfsC_app] at hO6
          have hb6 : Below w2.heap.size w2 w6 := HXw5.out.grown hg6 HXw5.out.size (fun g hg => (HO5.out.lt g hg).1)
          have HO6 := Lib.hid hO6
          have HXw6 := Lib.hid hb6
          obtain ⟨p6, k6, e6, -⟩ := own_shape hO6
          subst e6
          refine hK.out _ _ (HCB.out _ hb6).2 (fun hHeld => ?_)
          clear hO6 hg6 hb6
          clear hK K
          try simp only [Act.put, List.setIfInBounds_toArray, List.set_cons_zero, List.set_cons_succ]
          refine wpAnyH_take (i := 12) (v := ?_) (by simp only [List.getElem?_toArray, List.getElem?_cons_succ, List.getElem?_cons_zero]; exact rfl) (by kernel_rfl) (by kernel_rfl) (by kernel_rfl) (fun _ _ _ h => h) (Or.inl ⟨by rfl, ?_⟩) (by assumption) ?_
          rotate_left 1
          · (intro w hSw; (try dsimp only at hSw); go_simp; try with_reducible rfl)
          try simp only [Act.put, List.setIfInBounds_toArray, List.set_cons_zero, List.set_cons_succ]
          refine wpAnyH_ready (rs := [13]) (by kernel_rfl) (by simp) ?_
          refine (AllReadyH.cons (by simp only [List.getElem?_toArray, List.getElem?_cons_succ, List.getElem?_cons_zero]; exact rfl) (fun K hK => ?_) AllReadyH.nil)
          have c5 := (HCB.out w6 HXw6.out).1
          have c6 := HFZ.out w6 HXw6.out
          have hs6 : (w6.setCell ⟨bx, 0, none⟩ (.slice p6 (i + (n - (i + 1))) k6)).cell? ⟨bx + 1, 0, none⟩ = some (.slice none 0 0) := by
            rw [World.cell?_setCell_other _ _ _ _ (by simp)]
            exact (HCB.out w6 HXw6.out).2
          go_simp
          refine hK.out _ _ hs6 (fun hHeld => ?_)
          clear c5 c6 hs6
          clear hK K
          try simp only [Act.put, List.setIfInBounds_toArray, List.set_cons_zero, List.set_cons_succ]
          refine wpAnyH_done (by kernel_rfl) ?_ _
          refine NoPanic.normal ?_
          clear hHeld
          obtain ⟨n6, hn6⟩ : ∃ y, i + (n - (i + 1)) = y := ⟨_, rfl⟩
          have ho6 := HO6.out
          rw [hn6] at ho6 ⊢
          have h6 := HH.out w6 (HB2.out.trans (HXw6.out.mono HB2.out.size))
          have hbw : bx + 1 < w2.heap.size := Nat.lt_of_lt_of_le (Array.getElem?_eq_some_iff.1 (HH.out W1 (Below.refl _ _)).2).1 HB2.out.size
          have hs7 : (w6.setCell ⟨bx, 0, none⟩ (.slice p6 n6 k6)).heap[bx]? = some (.cells #[.slice p6 n6 k6, .int .i64 ck] TL14 (0, 0)) ∧ (w6.setCell ⟨bx, 0, none⟩ (.slice p6 n6 k6)).heap[bx + 1]? = some (.cells #[.slice none 0 0, .int .i64 0] TL14 (0, 0)) := by
            refine ⟨by simp [World.setCell, Array.getElem?_modify, h6.1], ?_⟩
            have : ¬ bx = bx + 1 := by omega
            simp [World.setCell, Array.getElem?_modify, h6.2, this]
          have hk7 : KpF (fun g => g = bx) w6 (w6.setCell ⟨bx, 0, none⟩ (.slice p6 n6 k6)) := KpF.setCell _ _ _ rfl
          obtain ⟨W7, hW7⟩ : ∃ W, w6.setCell ⟨bx, 0, none⟩ (.slice p6 n6 k6) = W := ⟨_, rfl⟩
          rw [hW7] at hs7 hk7
          rw [hW7]
          have j0 : W7.cell? ⟨bx, 0, none⟩ = some (.slice p6 n6 k6) := by simp [World.cell?, hs7.1]
          have j1 : W7.cell? ⟨bx, 1, none⟩ = some (.int .i64 ck) := by simp [World.cell?, hs7.1]
          have j2 : W7.cell? ⟨bx + 1, 0, none⟩ = some (.slice none 0 0) := by simp [World.cell?, hs7.2]
          have j3 : W7.cell? ⟨bx + 1, 1, none⟩ = some (.int .i64 0) := by simp [World.cell?, hs7.2]
          have j4 : W7.frozen? ⟨bx + 1, 0, none⟩ = false := by simp [World.frozen?, hs7.2]
          have j5 : W7.frozen? ⟨bx + 1, 1, none⟩ = false := by simp [World.frozen?, hs7.2]
          have hk8 : KpF (fun g => g = bx + 1) W7 ((W7.setCell ⟨bx + 1, 0, none⟩ (.slice p6 n6 k6)).setCell ⟨bx + 1, 1, none⟩ (.int .i64 ck)) := (KpF.setCell (S := fun g => g = bx + 1) W7 ⟨bx + 1, 0, none⟩ _ rfl).trans (KpF.setCell (S := fun g => g = bx + 1) _ ⟨bx + 1, 1, none⟩ _ rfl)
          have h8 : ((W7.setCell ⟨bx + 1, 0, none⟩ (.slice p6 n6 k6)).setCell ⟨bx + 1, 1, none⟩ (.int .i64 ck)).heap[bx + 1]? = some (.cells #[.slice p6 n6 k6, .int .i64 ck] TL14 (0, 0)) := by simp [World.setCell, Array.getElem?_modify, hs7.2]
          have ho8 := own_kpF (own_kpF ho6 hk7 fun g hg e => by have := (ho6.lt g hg).1; omega) hk8 fun g hg e => by have := (ho6.lt g hg).1; omega
          have hb6 := (HB1.out.trans (HB2.out.mono HB1.out.size)).trans (HXw6.out.mono (Nat.le_trans HB1.out.size HB2.out.size))
          have hb8 : Below w.heap.size w ((W7.setCell ⟨bx + 1, 0, none⟩ (.slice p6 n6 k6)).setCell ⟨bx + 1, 1, none⟩ (.int .i64 ck)) := (hb6.trans (hk7.below (fun k hk => by have := HBX.out; omega) hb6.size)).trans (hk8.below (fun k hk => by have := HBX.out; omega) (Nat.le_trans hb6.size hk7.size))
          have HQ := Lib.hid (And.intro h8 (And.intro ho8 hb8))
          have HN6 := Lib.hid hn6
          clear hs7 hk7 hk8 h8 ho8 hb8 hb6 ho6 h6 hW7 hn6
          go_wp2
          refine bodyPost_ret (resL2 rfl _ _ (bx + 1) (.slice p6 n6 k6) (.int .i64 ck) (.int .i64 0) rfl rfl HQ.out.1 rfl rfl) rfl ?_
          obtain ⟨p9, k9, e9, hl9, hp9, hc9, hb9⟩ := own_shape HQ.out.2.1
          injection e9 with e91 e92 e93
          subst e91 e93
          refine ⟨_, n6, k6, by rw [HAN.out.1], ?_, HQ.out.2.2, .inr fun c o e => by have h1 := (hb9 c o e).1; have h2 := HB1.out.size; have h3 := HB2.out.size; omega⟩
          rw [← HAN.out.2]
          exact ⟨by rw [List.length_append, List.length_take, List.length_drop, HNN.out.1]; have := HN6.out; omega, hl9, hp9, hc9⟩
      · have hc := (HCB.out x1 HXx1.out).1
        go_simp
        refine hK.out _ _ (by assumption) (fun hHeld => ?_)
        clear hc
        clear hK K
        try simp only [Act.put, List.setIfInBounds_toArray, List.set_cons_zero, List.set_cons_succ]
        refine wpAnyH_take (i := 10) (v := ?_) (by simp only [List.getElem?_toArray, List.getElem?_cons_succ, List.getElem?_cons_zero]; exact rfl) (by kernel_rfl) (by kernel_rfl) (by kernel_rfl) (fun _ _ _ h => h) (Or.inl ⟨by rfl, ?_⟩) (by assumption) ?_
        rotate_left 1
        · (intro w hSw; (try dsimp only at hSw); go_simp; try with_reducible rfl)
        try simp only [Act.put, List.setIfInBounds_toArray, List.set_cons_zero, List.set_cons_succ]
        refine wpAnyH_ready (rs := [2]) (by kernel_rfl) (by simp) ?_
        refine (AllReadyH.cons (by simp only [List.getElem?_toArray, List.getElem?_cons_succ, List.getElem?_cons_zero]; exact rfl) (fun K hK => ?_) AllReadyH.nil)
        have hc := (HCB.out x1 HXx1.out).1
        go_simp
        refine hK.out _ _ (by assumption) (fun hHeld => ?_)
        clear hc
        clear hK K
        try simp only [Act.put, List.setIfInBounds_toArray, List.set_cons_zero, List.set_cons_succ]
        refine wpAnyH_take (i := 4) (v := ?_) (by simp only [List.getElem?_toArray, List.getElem?_cons_succ, List.getElem?_cons_zero]; exact rfl) (by kernel_rfl) (by kernel_rfl) (by kernel_rfl) (fun _ _ _ h => h) (Or.inl ⟨by rfl, ?_⟩) (by assumption) ?_
        rotate_left 1
        · (intro w hSw; (try dsimp only at hSw); go_simp; try with_reducible rfl)
        try simp only [Act.put, List.setIfInBounds_toArray, List.set_cons_zero, List.set_cons_succ]
        refine wpAnyH_ready (rs := [5]) (by kernel_rfl) (by simp) ?_
        refine (AllReadyH.cons (by simp only [List.getElem?_toArray, List.getElem?_cons_succ, List.getElem?_cons_zero]; exact rfl) (fun K hK => ?_) AllReadyH.nil)
        refine step_appendK elR14 x1 rfl (.tmp 13) (.tmp 17) rfl w2.heap.size (n := 0) (v := .slice (some ⟨x.heap.size, 0, none⟩) 0 0) (cs := []) rfl HO1.out (some ⟨c, o, none⟩) i cap (rfsC (M.take i)) HLT.out.1 rfl (HLS.out x1 HXx1.out).1 (fun h => by cases h) (rfsC_oneCell _) (by omega) HXx1.out.size ?_
        rintro v5 w5 hO5 hg5 -
        rw [List.nil_append, Nat.zero_add] at hO5
        have hb5 : Below w2.heap.size w2 w5 := HXx1.out.grown hg5 HXx1.out.size (fun g hg => (HO1.out.lt g hg).1)
        have HO5 := Lib.hid hO5
        have HXw5 := Lib.hid hb5
        obtain ⟨p5, k5, e5, -⟩ := own_shape hO5
        subst e5
        refine hK.out _ _ (HCB.out _ hb5).2 (fun hHeld => ?_)
        clear hO5 hg5 hb5
        clear hK K
        try simp only [Act.put, List.setIfInBounds_toArray, List.set_cons_zero, List.set_cons_succ]
        refine wpAnyH_ready (rs := [11]) (by kernel_rfl) (by simp) ?_
        refine (AllReadyH.cons (by simp only [List.getElem?_toArray, List.getElem?_cons_succ, List.getElem?_cons_zero]; exact rfl) (fun K hK => ?_) AllReadyH.nil)
        refine step_appendK elR14 w5 rfl (.tmp 18) (.tmp 23) rfl w2.heap.size (n := i) (v := .slice p5 i k5) (cs := rfsC (M.take i)) rfl HO5.out (some A) (n - (i + 1)) (cap - (i + 1)) (rfsC (M.drop (i + 1))) HLT.out.2 rfl (HLS.out w5 HXw5.out).2 (fun h => by cases h) (rfsC_oneCell _) (by omega) HXw5.out.size ?_
        rintro v6 w6 hO6 hg6 -
        rw [← rfsC_app] at hO6
        have hb6 : Below w2.heap.size w2 w6 := HXw5.out.grown hg6 HXw5.out.size (fun g hg => (HO5.out.lt g hg).1)
        have HO6 := Lib.hid hO6
        have HXw6 := Lib.hid hb6
        obtain ⟨p6, k6, e6, -⟩ := own_shape hO6
        subst e6
        refine hK.out _ _ (HCB.out _ hb6).2 (fun hHeld => ?_)
        clear hO6 hg6 hb6
        clear hK K
        try simp only [Act.put, List.setIfInBounds_toArray, List.set_cons_zero, List.set_cons_succ]
        refine wpAnyH_take (i := 12) (v := ?_) (by simp only [List.getElem?_toArray, List.getElem?_cons_succ, List.getElem?_cons_zero]; exact rfl) (by kernel_rfl) (by kernel_rfl) (by kernel_rfl) (fun _ _ _ h => h) (Or.inl ⟨by rfl, ?_⟩) (by assumption) ?_
        rotate_left 1
        · (intro w hSw; (try dsimp only at hSw); go_simp; try with_reducible rfl)
        try simp only [Act.put, List.setIfInBounds_toArray, List.set_cons_zero, List.set_cons_succ]
        refine wpAnyH_ready (rs := [13]) (by kernel_rfl) (by simp) ?_
        refine (AllReadyH.cons (by simp only [List.getElem?_toArray, List.getElem?_cons_succ, List.getElem?_cons_zero]; exact rfl) (fun K hK => ?_) AllReadyH.nil)
        have c5 := (HCB.out w6 HXw6.out).1
        have c6 := HFZ.out w6 HXw6.out
        have hs6 : (w6.setCell ⟨bx, 0, none⟩ (.slice p6 (i + (n - (i + 1))) k6)).cell? ⟨bx + 1, 0, none⟩ = some (.slice none 0 0) := by
          rw [World.cell?_setCell_other _ _ _ _ (by simp)]
          exact (HCB.out w6 HXw6.out).2
        go_simp
        refine hK.out _ _ hs6 (fun hHeld => ?_)
        clear c5 c6 hs6
        clear hK K
        try simp only [Act.put, List.setIfInBounds_toArray, List.set_cons_zero, List.set_cons_succ]
        refine wpAnyH_done (by kernel_rfl) ?_ _
        refine NoPanic.normal ?_
        clear hHeld
        obtain ⟨n6, hn6⟩ : ∃ y, i + (n - (i + 1)) = y := ⟨_, rfl⟩
        have ho6 := HO6.out
        rw [hn6] at ho6 ⊢
        have h6 := HH.out w6 (HB2.out.trans (HXw6.out.mono HB2.out.size))
        have hbw : bx + 1 < w2.heap.size := Nat.lt_of_lt_of_le (Array.getElem?_eq_some_iff.1 (HH.out W1 (Below.refl _ _)).2).1 HB2.out.size
        have hs7 : (w6.setCell ⟨bx, 0, none⟩ (.slice p6 n6 k6)).heap[bx]? = some (.cells #[.slice p6 n6 k6, .int .i64 ck] TL14 (0, 0)) ∧ (w6.setCell ⟨bx, 0, none⟩ (.slice p6 n6 k6)).heap[bx + 1]? = some (.cells #[.slice none 0 0, .int .i64 0] TL14 (0, 0)) := by
          refine ⟨by simp [World.setCell, Array.getElem?_modify, h6.1], ?_⟩
          have : ¬ bx = bx + 1 := by omega
          simp [World.setCell, Array.getElem?_modify, h6.2, this]
        have hk7 : KpF (fun g => g = bx) w6 (w6.setCell ⟨bx, 0, none⟩ (.slice p6 n6 k6)) := KpF.setCell _ _ _ rfl
        obtain ⟨W7, hW7⟩ : ∃ W, w6.setCell ⟨bx, 0, none⟩ (.slice p6 n6 k6) = W := ⟨_, rfl⟩
        rw [hW7] at hs7 hk7
        rw [hW7]
        have j0 : W7.cell? ⟨bx, 0, none⟩ = some (.slice p6 n6 k6) := by simp [World.cell?, hs7.1]
        have j1 : W7.cell? ⟨bx, 1, none⟩ = some (.int .i64 ck) := by simp [World.cell?, hs7.1]
        have j2 : W7.cell? ⟨bx + 1, 0, none⟩ = some (.slice none 0 0) := by simp [World.cell?, hs7.2]
        have j3 : W7.cell? ⟨bx + 1, 1, none⟩ = some (.int .i64 0) := by simp [World.cell?, hs7.2]
        have j4 : W7.frozen? ⟨bx + 1, 0, none⟩ = false := by simp [World.frozen?, hs7.2]
        have j5 : W7.frozen? ⟨bx + 1, 1, none⟩ = false := by simp [World.frozen?, hs7.2]
        have hk8 : KpF (fun g => g = bx + 1) W7 ((W7.setCell ⟨bx + 1, 0, none⟩ (.slice p6 n6 k6)).setCell ⟨bx + 1, 1, none⟩ (.int .i64 ck)) := (KpF.setCell (S := fun g => g = bx + 1) W7 ⟨bx + 1, 0, none⟩ _ rfl).trans (KpF.setCell (S := fun g => g = bx + 1) _ ⟨bx + 1, 1, none⟩ _ rfl)
        have h8 : ((W7.setCell ⟨bx + 1, 0, none⟩ (.slice p6 n6 k6)).setCell ⟨bx + 1, 1, none⟩ (.int .i64 ck)).heap[bx + 1]? = some (.cells #[.slice p6 n6 k6, .int .i64 ck] TL14 (0, 0)) := by simp [World.setCell, Array.getElem?_modify, hs7.2]
        have ho8 := own_kpF (own_kpF ho6 hk7 fun g hg e => by have := (ho6.lt g hg).1; omega) hk8 fun g hg e => by have := (ho6.lt g hg).1; omega
        have hb6 := (HB1.out.trans (HB2.out.mono HB1.out.size)).trans (HXw6.out.mono (Nat.le_trans HB1.out.size HB2.out.size))
        have hb8 : Below w.heap.size w ((W7.setCell ⟨bx + 1, 0, none⟩ (.slice p6 n6 k6)).setCell ⟨bx + 1, 1, none⟩ (.int .i64 ck)) := (hb6.trans (hk7.below (fun k hk => by have := HBX.out; omega) hb6.size)).trans (hk8.below (fun k hk => by have := HBX.out; omega) (Nat.le_trans hb6.size hk7.size))
        have HQ := Lib.hid (And.intro h8 (And.intro ho8 hb8))
        have HN6 := Lib.hid hn6
        clear hs7 hk7 hk8 h8 ho8 hb8 hb6 ho6 h6 hW7 hn6
        go_wp2
        refine bodyPost_ret (resL2 rfl _ _ (bx + 1) (.slice p6 n6 k6) (.int .i64 ck) (.int .i64 0) rfl rfl HQ.out.1 rfl rfl) rfl ?_
        obtain ⟨p9, k9, e9, hl9, hp9, hc9, hb9⟩ := own_shape HQ.out.2.1
        injection e9 with e91 e92 e93
        subst e91 e93
        refine ⟨_, n6, k6, by rw [HAN.out.1], ?_, HQ.out.2.2, .inr fun c o e => by have h1 := (hb9 c o e).1; have h2 := HB1.out.size; have h3 := HB2.out.size; omega⟩
        rw [← HAN.out.2]
        exact ⟨by rw [List.length_append, List.length_take, List.length_drop, HNN.out.1]; have := HN6.out; omega, hl9, hp9, hc9⟩
    · have hc := (HCB.out x HXx.out).1
      go_simp
      refine hK.out _ _ (by assumption) (fun hHeld => ?_)
      clear hc
      clear hK K
      try simp only [Act.put, List.setIfInBounds_toArray, List.set_cons_zero, List.set_cons_succ]
      refine wpAnyH_take (i := 4) (v := ?_) (by simp only [List.getElem?_toArray, List.getElem?_cons_succ, List.getElem?_cons_zero]; exact rfl) (by kernel_rfl) (by kernel_rfl) (by kernel_rfl) (fun _ _ _ h => h) (Or.inl ⟨by rfl, ?_⟩) (by assumption) ?_
      rotate_left 1
      · (intro w hSw; (try dsimp only at hSw); go_simp; try with_reducible rfl)
      try simp only [Act.put, List.setIfInBounds_toArray, List.set_cons_zero, List.set_cons_succ]
      refine wpAnyH_ready (rs := [0, 7]) (by kernel_rfl) (by simp) ?_
      refine (AllReadyH.cons (by simp only [List.getElem?_toArray, List.getElem?_cons_succ, List.getElem?_cons_zero]; exact rfl) (fun K hK => ?_) (AllReadyH.cons (by simp only [List.getElem?_toArray, List.getElem?_cons_succ, List.getElem?_cons_zero]; exact rfl) (fun K hK => ?_) AllReadyH.nil))
      · go_simp
        have hbx : Below w2.heap.size w2 (x.alloc (.cells #[] ER)) := HXx.out.alloc HXx.out.size _
        have hox := own_empty (E := ER) (k := 4) x w2.heap.size HXx.out.size
        refine hK.out _ _ (HCB.out _ hbx).2 (fun hHeld => ?_)
        generalize x.alloc (.cells #[] ER) = x1 at hbx hox hHeld ⊢
        have HXx1 := Lib.hid hbx
        have HO1 := Lib.hid hox
        clear hbx hox
        clear hK K
        try simp only [Act.put, List.setIfInBounds_toArray, List.set_cons_zero, List.set_cons_succ]
        refine wpAnyH_ready (rs := [5, 7]) (by kernel_rfl) (by simp) ?_
        refine (AllReadyH.cons (by simp only [List.getElem?_toArray, List.getElem?_cons_succ, List.getElem?_cons_zero]; exact rfl) (fun K hK => ?_) (AllReadyH.cons (by simp only [List.getElem?_toArray, List.getElem?_cons_succ, List.getElem?_cons_zero]; exact rfl) (fun K hK => ?_) AllReadyH.nil))
        · refine step_appendK elR14 x1 rfl (.tmp 13) (.tmp 17) rfl w2.heap.size (n := 0) (v := .slice (some ⟨x.heap.size, 0, none⟩) 0 0) (cs := []) rfl HO1.out (some ⟨c, o, none⟩) i cap (rfsC (M.take i)) HLT.out.1 rfl (HLS.out x1 HXx1.out).1 (fun h => by cases h) (rfsC_oneCell _) (by omega) HXx1.out.size ?_
          rintro v5 w5 hO5 hg5 -
          rw [List.nil_append, Nat.zero_add] at hO5
          have hb5 : Below w2.heap.size w2 w5 := HXx1.out.grown hg5 HXx1.out.size (fun g hg => (HO1.out.lt g hg).1)
          have HO5 := Lib.hid hO5
          have HXw5 := Lib.hid hb5
          obtain ⟨p5, k5, e5, -⟩ := own_shape hO5
          subst e5
          refine hK.out _ _ (HCB.out _ hb5).2 (fun hHeld => ?_)
          clear hO5 hg5 hb5
          clear hK K
          try simp only [Act.put, List.setIfInBounds_toArray, List.set_cons_zero, List.set_cons_succ]
          refine wpAnyH_ready (rs := [7]) (by kernel_rfl) (by simp) ?_
          refine (AllReadyH.cons (by simp only [List.getElem?_toArray, List.getElem?_cons_succ, List.getElem?_cons_zero]; exact rfl) (fun K hK => ?_) AllReadyH.nil)
          have hc := (HCB.out w5 HXw5.out).1
          go_simp
          refine hK.out _ _ (by assumption) (fun hHeld => ?_)
          clear hc
          clear hK K
          try simp only [Act.put, List.setIfInBounds_toArray, List.set_cons_zero, List.set_cons_succ]
          refine wpAnyH_take (i := 10) (v := ?_) (by simp only [List.getElem?_toArray, List.getElem?_cons_succ, List.getElem?_cons_zero]; exact rfl) (by kernel_rfl) (by kernel_rfl) (by kernel_rfl) (fun _ _ _ h => h) (Or.inl ⟨by rfl, ?_⟩) (by assumption) ?_
          rotate_left 1
          · (intro w hSw; (try dsimp only at hSw); go_simp; try with_reducible rfl)
          try simp only [Act.put, List.setIfInBounds_toArray, List.set_cons_zero, List.set_cons_succ]
          refine wpAnyH_ready (rs := [11]) (by kernel_rfl) (by simp) ?_
          refine (AllReadyH.cons (by simp only [List.getElem?_toArray, List.getElem?_cons_succ, List.getElem?_cons_zero]; exact rfl) (fun K hK => ?_) AllReadyH.nil)
          refine step_appendK elR14 w5 rfl (.tmp 18) (.tmp 23) rfl w2.heap.size (n := i) (v := .slice p5 i k5) (cs := rfsC (M.take i)) rfl HO5.out (some A) (n - (i + 1)) (cap - (i + 1)) (rfsC (M.drop (i + 1))) HLT.out.2 rfl (HLS.out w5 HXw5.out).2 (fun h => by cases h) (rfsC_oneCell _) (by omega) HXw5.out.size ?_
          rintro v6 w6 hO6 hg6 -
          rw [← rfsC_app] at hO6
          have hb6 : Below w2.heap.size w2 w6 := HXw5.out.grown hg6 HXw5.out.size (fun g hg => (HO5.out.lt g hg).1)
          have HO6 := Lib.hid hO6
          have HXw6 := Lib.hid hb6
          obtain ⟨p6, k6, e6, -⟩ := own_shape hO6
          subst e6
          refine hK.out _ _ (HCB.out _ hb6).2 (fun hHeld => ?_)
          clear hO6 hg6 hb6
          clear hK K
          try simp only [Act.put, List.setIfInBounds_toArray, List.set_cons_zero, List.set_cons_succ]
          refine wpAnyH_take (i := 12) (v := ?_) (by simp only [List.getElem?_toArray, List.getElem?_cons_succ, List.getElem?_cons_zero]; exact rfl) (by kernel_rfl) (by kernel_rfl) (by kernel_rfl) (fun _ _ _ h => h) (Or.inl ⟨by rfl, ?_⟩) (by assumption) ?_
          rotate_left 1
          · (intro w hSw; (try dsimp only at hSw); go_simp; try with_reducible rfl)
          try simp only [Act.put, List.setIfInBounds_toArray, List.set_cons_zero, List.set_cons_succ]
          refine wpAnyH_ready (rs := [13]) (by kernel_rfl) (by simp) ?_
          refine (AllReadyH.cons (by simp only [List.getElem?_toArray, List.getElem?_cons_succ, List.getElem?_cons_zero]; exact rfl) (fun K hK => ?_) AllReadyH.nil)
          have c5 := (HCB.out w6 HXw6.out).1
          have c6 := HFZ.out w6 HXw6.out
          have hs6 : (w6.setCell ⟨bx, 0, none⟩ (.slice p6 (i + (n - (i + 1))) k6)).cell? ⟨bx + 1, 0, none⟩ = some (.slice none 0 0) := by
            rw [World.cell?_setCell_other _ _ _ _ (by simp)]
            exact (HCB.out w6 HXw6.out).2
          go_simp
          refine hK.out _ _ hs6 (fun hHeld => ?_)
          clear c5 c6 hs6
          clear hK K
          try simp only [Act.put, List.setIfInBounds_toArray, List.set_cons_zero, List.set_cons_succ]
          refine wpAnyH_done (by kernel_rfl) ?_ _
          refine NoPanic.normal ?_
          clear hHeld
          obtain ⟨n6, hn6⟩ : ∃ y, i + (n - (i + 1)) = y := ⟨_, rfl⟩
          have ho6 := HO6.out
          rw [hn6] at ho6 ⊢
          have h6 := HH.out w6 (HB2.out.trans (HXw6.out.mono HB2.out.size))
          have hbw : bx + 1 < w2.heap.size := Nat.lt_of_lt_of_le (Array.getElem?_eq_some_iff.1 (HH.out W1 (Below.refl _ _)).2).1 HB2.out.size
          have hs7 : (w6.setCell ⟨bx, 0, none⟩ (.slice p6 n6 k6)).heap[bx]? = some (.cells #[.slice p6 n6 k6, .int .i64 ck] TL14 (0, 0)) ∧ (w6.setCell ⟨bx, 0, none⟩ (.slice p6 n6 k6)).heap[bx + 1]? = some (.cells #[.slice none 0 0, .int .i64 0] TL14 (0, 0)) := by
            refine ⟨by simp [World.setCell, Array.getElem?_modify, h6.1], ?_⟩
            have : ¬ bx = bx + 1 := by omega
            simp [World.setCell, Array.getElem?_modify, h6.2, this]
          have hk7 : KpF (fun g => g = bx) w6 (w6.setCell ⟨bx, 0, none⟩ (.slice p6 n6 k6)) := KpF.setCell _ _ _ rfl
          obtain ⟨W7, hW7⟩ : ∃ W, w6.setCell ⟨bx, 0, none⟩ (.slice p6 n6 k6) = W := ⟨_, rfl⟩
          rw [hW7] at hs7 hk7
          rw [hW7]
          have j0 : W7.cell? ⟨bx, 0, none⟩ = some (.slice p6 n6 k6) := by simp [World.cell?, hs7.1]
          have j1 : W7.cell? ⟨bx, 1, none⟩ = some (.int .i64 ck) := by simp [World.cell?, hs7.1]
          have j2 : W7.cell? ⟨bx + 1, 0, none⟩ = some (.slice none 0 0) := by simp [World.cell?, hs7.2]
          have j3 : W7.cell? ⟨bx + 1, 1, none⟩ = some (.int .i64 0) := by simp [World.cell?, hs7.2]
          have j4 : W7.frozen? ⟨bx + 1, 0, none⟩ = false := by simp [World.frozen?, hs7.2]
          have j5 : W7.frozen? ⟨bx + 1, 1, none⟩ = false := by simp [World.frozen?, hs7.2]
          have hk8 : KpF (fun g => g = bx + 1) W7 ((W7.setCell ⟨bx + 1, 0, none⟩ (.slice p6 n6 k6)).setCell ⟨bx + 1, 1, none⟩ (.int .i64 ck)) := (KpF.setCell (S := fun g => g = bx + 1) W7 ⟨bx + 1, 0, none⟩ _ rfl).trans (KpF.setCell (S := fun g => g = bx + 1) _ ⟨bx + 1, 1, none⟩ _ rfl)
          have h8 : ((W7.setCell ⟨bx + 1, 0, none⟩ (.slice p6 n6 k6)).setCell ⟨bx + 1, 1, none⟩ (.int .i64 ck)).heap[bx + 1]? = some (.cells #[.slice p6 n6 k6, .int .i64 ck] TL14 (0, 0)) := by simp [World.setCell, Array.getElem?_modify, hs7.2]
          have ho8 := own_kpF (own_kpF ho6 hk7 fun g hg e => by have := (ho6.lt g hg).1; omega) hk8 fun g hg e => by have := (ho6.lt g hg).1; omega
          have hb6 := (HB1.out.trans (HB2.out.mono HB1.out.size)).trans (HXw6.out.mono (Nat.le_trans HB1.out.size HB2.out.size))
          have hb8 : Below w.heap.size w ((W7.setCell ⟨bx + 1, 0, none⟩ (.slice p6 n6 k6)).setCell ⟨bx + 1, 1, none⟩ (.int .i64 ck)) := (hb6.trans (hk7.below (fun k hk => by have := HBX.out; omega) hb6.size)).trans (hk8.below (fun k hk => by have := HBX.out; omega) (Nat.le_trans hb6.size hk7.size))
          have HQ := Lib.hid (And.intro h8 (And.intro ho8 hb8))
          have HN6 := Lib.hid hn6
          clear hs7 hk7 hk8 h8 ho8 hb8 hb6 ho6 h6 hW7 hn6
          go_wp2
          refine bodyPost_ret (resL2 rfl _ _ (bx + 1) (.slice p6 n6 k6) (.int .i64 ck) (.int .i64 0) rfl rfl HQ.out.1 rfl rfl) rfl ?_
          obtain ⟨p9, k9, e9, hl9, hp9, hc9, hb9⟩ := own_shape HQ.out.2.1
          injection e9 with e91 e92 e93
          subst e91 e93
          refine ⟨_, n6, k6, by rw [HAN.out.1], ?_, HQ.out.2.2, .inr fun c o e => by have h1 := (hb9 c o e).1; have h2 := HB1.out.size; have h3 := HB2.out.size; omega⟩
          rw [← HAN.out.2]
          exact ⟨by rw [List.length_append, List.length_take, List.length_drop, HNN.out.1]; have := HN6.out; omega, hl9, hp9, hc9⟩
        · have hc := (HCB.out x1 HXx1.out).1
          go_simp
          refine hK.out _ _ (by assumption) (fun hHeld => ?_)
          clear hc
          clear hK K
          try simp only [Act.put, List.setIfInBounds_toArray, List.set_cons_zero, List.set_cons_succ]
          refine wpAnyH_take (i := 10) (v := ?_) (by simp only [List.getElem?_toArray, List.getElem?_cons_succ, List.getElem?_cons_zero]; exact rfl) (by kernel_rfl) (by kernel_rfl) (by kernel_rfl) (fun _ _ _ h => h) (Or.inl ⟨by rfl, ?_⟩) (by assumption) ?_
          rotate_left 1
          · (intro w hSw; (try dsimp only at hSw); go_simp; try with_reducible rfl)
          try simp only [Act.put, List.setIfInBounds_toArray, List.set_cons_zero, List.set_cons_succ]
          refine wpAnyH_ready (rs := [5]) (by kernel_rfl) (by simp) ?_
          refine (AllReadyH.cons (by simp only [List.getElem?_toArray, List.getElem?_cons_succ, List.getElem?_cons_zero]; exact rfl) (fun K hK => ?_) AllReadyH.nil)
          refine step_appendK elR14 x1 rfl (.tmp 13) (.tmp 17) rfl w2.heap.size (n := 0) (v := .slice (some ⟨x.heap.size, 0, none⟩) 0 0) (cs := []) rfl HO1.out (some ⟨c, o, none⟩) i cap (rfsC (M.take i)) HLT.out.1 rfl (HLS.out x1 HXx1.out).1 (fun h => by cases h) (rfsC_oneCell _) (by omega) HXx1.out.size ?_
          rintro v5 w5 hO5 hg5 -
          rw [List.nil_append, Nat.zero_add] at hO5
          have hb5 : Below w2.heap.size w2 w5 := HXx1.out.grown hg5 HXx1.out.size (fun g hg => (HO1.out.lt g hg).1)
          have HO5 := Lib.hid hO5
          have HXw5 := Lib.hid hb5
          obtain ⟨p5, k5, e5, -⟩ := own_shape hO5
          subst e5
          refine hK.out _ _ (HCB.out _ hb5).2 (fun hHeld => ?_)
          clear hO5 hg5 hb5
          clear hK K
          try simp only [Act.put, List.setIfInBounds_toArray, List.set_cons_zero, List.set_cons_succ]
          refine wpAnyH_ready (rs := [11]) (by kernel_rfl) (by simp) ?_
          refine (AllReadyH.cons (by simp only [List.getElem?_toArray, List.getElem?_cons_succ, List.getElem?_cons_zero]; exact rfl) (fun K hK => ?_) AllReadyH.nil)
          refine step_appendK elR14 w5 rfl (.tmp 18) (.tmp 23) rfl w2.heap.size (n := i) (v := .slice p5 i k5) (cs := rfsC (M.take i)) rfl HO5.out (some A) (n - (i + 1)) (cap - (i + 1)) (rfsC (M.drop (i + 1))) HLT.out.2 rfl (HLS.out w5 HXw5.out).2 (fun h => by cases h) (rfsC_oneCell _) (by omega) HXw5.out.size ?_
          rintro v6 w6 hO6 hg6 -
          rw [← rfsC_app] at hO6
          have hb6 : Below w2.heap.size w2 w6 := HXw5.out.grown hg6 HXw5.out.size (fun g hg => (HO5.out.lt g hg).1)
          have HO6 := Lib.hid hO6
          have HXw6 := Lib.hid hb6
          obtain ⟨p6, k6, e6, -⟩ := own_shape hO6
          subst e6
          refine hK.out _ _ (HCB.out _ hb6).2 (fun hHeld => ?_)
          clear hO6 hg6 hb6
          clear hK K
          try simp only [Act.put, List.setIfInBounds_toArray, List.set_cons_zero, List.set_cons_succ]
          refine wpAnyH_take (i := 12) (v := ?_) (by simp only [List.getElem?_toArray, List.getElem?_cons_succ, List.getElem?_cons_zero]; exact rfl) (by kernel_rfl) (by kernel_rfl) (by kernel_rfl) (fun _ _ _ h => h) (Or.inl ⟨by rfl, ?_⟩) (by assumption) ?_
          rotate_left 1
          · (intro w hSw; (try dsimp only at hSw); go_simp; try with_reducible rfl)
          try simp only [Act.put, List.setIfInBounds_toArray, List.set_cons_zero, List.set_cons_succ]
          refine wpAnyH_ready (rs := [13]) (by kernel_rfl) (by simp) ?_
          refine (AllReadyH.cons (by simp only [List.getElem?_toArray, List.getElem?_cons_succ, List.getElem?_cons_zero]; exact rfl) (fun K hK => ?_) AllReadyH.nil)
          have c5 := (HCB.out w6 HXw6.out).1
          have c6 := HFZ.out w6 HXw6.out
          have hs6 : (w6.setCell ⟨bx, 0, none⟩ (.slice p6 (i + (n - (i + 1))) k6)).cell? ⟨bx + 1, 0, none⟩ = some (.slice none 0 0) := by
            rw [World.cell?_setCell_other _ _ _ _ (by simp)]
            exact (HCB.out w6 HXw6.out).2
          go_simp
          refine hK.out _ _ hs6 (fun hHeld => ?_)
          clear c5 c6 hs6
          clear hK K
          try simp only [Act.put, List.setIfInBounds_toArray, List.set_cons_zero, List.set_cons_succ]
          refine wpAnyH_done (by kernel_rfl) ?_ _
          refine NoPanic.normal ?_
          clear hHeld
          obtain ⟨n6, hn6⟩ : ∃ y, i + (n - (i + 1)) = y := ⟨_, rfl⟩
          have ho6 := HO6.out
          rw [hn6] at ho6 ⊢
          have h6 := HH.out w6 (HB2.out.trans (HXw6.out.mono HB2.out.size))
          have hbw : bx + 1 < w2.heap.size := Nat.lt_of_lt_of_le (Array.getElem?_eq_some_iff.1 (HH.out W1 (Below.refl _ _)).2).1 HB2.out.size
          have hs7 : (w6.setCell ⟨bx, 0, none⟩ (.slice p6 n6 k6)).heap[bx]? = some (.cells #[.slice p6 n6 k6, .int .i64 ck] TL14 (0, 0)) ∧ (w6.setCell ⟨bx, 0, none⟩ (.slice p6 n6 k6)).heap[bx + 1]? = some (.cells #[.slice none 0 0, .int .i64 0] TL14 (0, 0)) := by
            refine ⟨by simp [World.setCell, Array.getElem?_modify, h6.1], ?_⟩
            have : ¬ bx = bx + 1 := by omega
            simp [World.setCell, Array.getElem?_modify, h6.2, this]
          have hk7 : KpF (fun g => g = bx) w6 (w6.setCell ⟨bx, 0, none⟩ (.slice p6 n6 k6)) := KpF.setCell _ _ _ rfl
          obtain ⟨W7, hW7⟩ : ∃ W, w6.setCell ⟨bx, 0, none⟩ (.slice p6 n6 k6) = W := ⟨_, rfl⟩
          rw [hW7] at hs7 hk7
          rw [hW7]
          have j0 : W7.cell? ⟨bx, 0, none⟩ = some (.slice p6 n6 k6) := by simp [World.cell?, hs7.1]
          have j1 : W7.cell? ⟨bx, 1, none⟩ = some (.int .i64 ck) := by simp [World.cell?, hs7.1]
          have j2 : W7.cell? ⟨bx + 1, 0, none⟩ = some (.slice none 0 0) := by simp [World.cell?, hs7.2]
          have j3 : W7.cell? ⟨bx + 1, 1, none⟩ = some (.int .i64 0) := by simp [World.cell?, hs7.2]
          have j4 : W7.frozen? ⟨bx + 1, 0, none⟩ = false := by simp [World.frozen?, hs7.2]
          have j5 : W7.frozen? ⟨bx + 1, 1, none⟩ = false := by simp [World.frozen?, hs7.2]
          have hk8 : KpF (fun g => g = bx + 1) W7 ((W7.setCell ⟨bx + 1, 0, none⟩ (.slice p6 n6 k6)).setCell ⟨bx + 1, 1, none⟩ (.int .i64 ck)) := (KpF.setCell (S := fun g => g = bx + 1) W7 ⟨bx + 1, 0, none⟩ _ rfl).trans (KpF.setCell (S := fun g => g = bx + 1) _ ⟨bx + 1, 1, none⟩ _ rfl)
          have h8 : ((W7.setCell ⟨bx + 1, 0, none⟩ (.slice p6 n6 k6)).setCell ⟨bx + 1, 1, none⟩ (.int .i64 ck)).heap[bx + 1]? = some (.cells #[.slice p6 n6 k6, .int .i64 ck] TL14 (0, 0)) := by simp [World.setCell, Array.getElem?_modify, hs7.2]
          have ho8 := own_kpF (own_kpF ho6 hk7 fun g hg e => by have := (ho6.lt g hg).1; omega) hk8 fun g hg e => by have := (ho6.lt g hg).1; omega
          have hb6 := (HB1.out.trans (HB2.out.mono HB1.out.size)).trans (HXw6.out.mono (Nat.le_trans HB1.out.size HB2.out.size))
          have hb8 : Below w.heap.size w ((W7.setCell ⟨bx + 1, 0, none⟩ (.slice p6 n6 k6)).setCell ⟨bx + 1, 1, none⟩ (.int .i64 ck)) := (hb6.trans (hk7.below (fun k hk => by have := HBX.out; omega) hb6.size)).trans (hk8.below (fun k hk => by have := HBX.out; omega) (Nat.le_trans hb6.size hk7.size))
          have HQ := Lib.hid (And.intro h8 (And.intro ho8 hb8))
          have HN6 := Lib.hid hn6
          clear hs7 hk7 hk8 h8 ho8 hb8 hb6 ho6 h6 hW7 hn6
          go_wp2
          refine bodyPost_ret (resL2 rfl _ _ (bx + 1) (.slice p6 n6 k6) (.int .i64 ck) (.int .i64 0) rfl rfl HQ.out.1 rfl rfl) rfl ?_
          obtain ⟨p9, k9, e9, hl9, hp9, hc9, hb9⟩ := own_shape HQ.out.2.1
          injection e9 with e91 e92 e93
          subst e91 e93
          refine ⟨_, n6, k6, by rw [HAN.out.1], ?_, HQ.out.2.2, .inr fun c o e => by have h1 := (hb9 c o e).1; have h2 := HB1.out.size; have h3 := HB2.out.size; omega⟩
          rw [← HAN.out.2]
          exact ⟨by rw [List.length_append, List.length_take, List.length_drop, HNN.out.1]; have := HN6.out; omega, hl9, hp9, hc9⟩
      · have hc := (HCB.out x HXx.out).1
        go_simp
        refine hK.out _ _ (by assumption) (fun hHeld => ?_)
        clear hc
        clear hK K
        try simp only [Act.put, List.setIfInBounds_toArray, List.set_cons_zero, List.set_cons_succ]
        refine wpAnyH_take (i := 10) (v := ?_) (by simp only [List.getElem?_toArray, List.getElem?_cons_succ, List.getElem?_cons_zero]; exact rfl) (by kernel_rfl) (by kernel_rfl) (by kernel_rfl) (fun _ _ _ h => h) (Or.inl ⟨by rfl, ?_⟩) (by assumption) ?_
        rotate_left 1
        · (intro w hSw; (try dsimp only at hSw); go_simp; try with_reducible rfl)
        try simp only [Act.put, List.setIfInBounds_toArray, List.set_cons_zero, List.set_cons_succ]
        refine wpAnyH_ready (rs := [0]) (by kernel_rfl) (by simp) ?_
        refine (AllReadyH.cons (by simp only [List.getElem?_toArray, List.getElem?_cons_succ, List.getElem?_cons_zero]; exact rfl) (fun K hK => ?_) AllReadyH.nil)
        go_simp
        have hbx : Below w2.heap.size w2 (x.alloc (.cells #[] ER)) := HXx.out.alloc HXx.out.size _
        have hox := own_empty (E := ER) (k := 4) x w2.heap.size HXx.out.size
        refine hK.out _ _ (HCB.out _ hbx).2 (fun hHeld => ?_)
        generalize x.alloc (.cells #[] ER) = x1 at hbx hox hHeld ⊢
        have HXx1 := Lib.hid hbx
        have HO1 := Lib.hid hox
        clear hbx hox
        clear hK K
        try simp only [Act.put, List.setIfInBounds_toArray, List.set_cons_zero, List.set_cons_succ]
        refine wpAnyH_ready (rs := [5]) (by kernel_rfl) (by simp) ?_
        refine (AllReadyH.cons (by simp only [List.getElem?_toArray, List.getElem?_cons_succ, List.getElem?_cons_zero]; exact rfl) (fun K hK => ?_) AllReadyH.nil)
        refine step_appendK elR14 x1 rfl (.tmp 13) (.tmp 17) rfl w2.heap.size (n := 0) (v := .slice (some ⟨x.heap.size, 0, none⟩) 0 0) (cs := []) rfl HO1.out (some ⟨c, o, none⟩) i cap (rfsC (M.take i)) HLT.out.1 rfl (HLS.out x1 HXx1.out).1 (fun h => by cases h) (rfsC_oneCell _) (by omega) HXx1.out.size ?_
        rintro v5 w5 hO5 hg5 -
        rw [List.nil_append, Nat.zero_add] at hO5
        have hb5 : Below w2.heap.size w2 w5 := HXx1.out.grown hg5 HXx1.out.size (fun g hg => (HO1.out.lt g hg).1)
        have HO5 := Lib.hid hO5
        have HXw5 := Lib.hid hb5
        obtain ⟨p5, k5, e5, -⟩ := own_shape hO5
        subst e5
        refine hK.out _ _ (HCB.out _ hb5).2 (fun hHeld => ?_)
        clear hO5 hg5 hb5
        clear hK K
        try simp only [Act.put, List.setIfInBounds_toArray, List.set_cons_zero, List.set_cons_succ]
        refine wpAnyH_ready (rs := [11]) (by kernel_rfl) (by simp) ?_
        refine (AllReadyH.cons (by simp only [List.getElem?_toArray, List.getElem?_cons_succ, List.getElem?_cons_zero]; exact rfl) (fun K hK => ?_) AllReadyH.nil)
        refine step_appendK elR14 w5 rfl (.tmp 18) (.tmp 23) rfl w2.heap.size (n := i) (v := .slice p5 i k5) (cs := rfsC (M.take i)) rfl HO5.out (some A) (n - (i + 1)) (cap - (i + 1)) (rfsC (M.drop (i + 1))) HLT.out.2 rfl (HLS.out w5 HXw5.out).2 (fun h => by cases h) (rfsC_oneCell _) (by omega) HXw5.out.size ?_
        rintro v6 w6 hO6 hg6 -
        rw [← rfsC_app] at hO6
        have hb6 : Below w2.heap.size w2 w6 := HXw5.out.grown hg6 HXw5.out.size (fun g hg => (HO5.out.lt g hg).1)
        have HO6 := Lib.hid hO6
        have HXw6 := Lib.hid hb6
        obtain ⟨p6, k6, e6, -⟩ := own_shape hO6
        subst e6
        refine hK.out _ _ (HCB.out _ hb6).2 (fun hHeld => ?_)
        clear hO6 hg6 hb6
        clear hK K
        try simp only [Act.put, List.setIfInBounds_toArray, List.set_cons_zero, List.set_cons_succ]
        refine wpAnyH_take (i := 12) (v := ?_) (by simp only [List.getElem?_toArray, List.getElem?_cons_succ, List.getElem?_cons_zero]; exact rfl) (by kernel_rfl) (by kernel_rfl) (by kernel_rfl) (fun _ _ _ h => h) (Or.inl ⟨by rfl, ?_⟩) (by assumption) ?_
        rotate_left 1
        · (intro w hSw; (try dsimp only at hSw); go_simp; try with_reducible rfl)
        try simp only [Act.put, List.setIfInBounds_toArray, List.set_cons_zero, List.set_cons_succ]
        refine wpAnyH_ready (rs := [13]) (by kernel_rfl) (by simp) ?_
        refine (AllReadyH.cons (by simp only [List.getElem?_toArray, List.getElem?_cons_succ, List.getElem?_cons_zero]; exact rfl) (fun K hK => ?_) AllReadyH.nil)
        have c5 := (HCB.out w6 HXw6.out).1
        have c6 := HFZ.out w6 HXw6.out
        have hs6 : (w6.setCell ⟨bx, 0, none⟩ (.slice p6 (i + (n - (i + 1))) k6)).cell? ⟨bx + 1, 0, none⟩ = some (.slice none 0 0) := by
          rw [World.cell?_setCell_other _ _ _ _ (by simp)]
          exact (HCB.out w6 HXw6.out).2
        go_simp
        refine hK.out _ _ hs6 (fun hHeld => ?_)
        clear c5 c6 hs6
        clear hK K
        try simp only [Act.put, List.setIfInBounds_toArray, List.set_cons_zero, List.set_cons_succ]
        refine wpAnyH_done (by kernel_rfl) ?_ _
        refine NoPanic.normal ?_
        clear hHeld
        obtain ⟨n6, hn6⟩ : ∃ y, i + (n - (i + 1)) = y := ⟨_, rfl⟩
        have ho6 := HO6.out
        rw [hn6] at ho6 ⊢
        have h6 := HH.out w6 (HB2.out.trans (HXw6.out.mono HB2.out.size))
        have hbw : bx + 1 < w2.heap.size := Nat.lt_of_lt_of_le (Array.getElem?_eq_some_iff.1 (HH.out W1 (Below.refl _ _)).2).1 HB2.out.size
        have hs7 : (w6.setCell ⟨bx, 0, none⟩ (.slice p6 n6 k6)).heap[bx]? = some (.cells #[.slice p6 n6 k6, .int .i64 ck] TL14 (0, 0)) ∧ (w6.setCell ⟨bx, 0, none⟩ (.slice p6 n6 k6)).heap[bx + 1]? = some (.cells #[.slice none 0 0, .int .i64 0] TL14 (0, 0)) := by
          refine ⟨by simp [World.setCell, Array.getElem?_modify, h6.1], ?_⟩
          have : ¬ bx = bx + 1 := by omega
          simp [World.setCell, Array.getElem?_modify, h6.2, this]
        have hk7 : KpF (fun g => g = bx) w6 (w6.setCell ⟨bx, 0, none⟩ (.slice p6 n6 k6)) := KpF.setCell _ _ _ rfl
        obtain ⟨W7, hW7⟩ : ∃ W, w6.setCell ⟨bx, 0, none⟩ (.slice p6 n6 k6) = W := ⟨_, rfl⟩
        rw [hW7] at hs7 hk7
        rw [hW7]
        have j0 : W7.cell? ⟨bx, 0, none⟩ = some (.slice p6 n6 k6) := by simp [World.cell?, hs7.1]
        have j1 : W7.cell? ⟨bx, 1, none⟩ = some (.int .i64 ck) := by simp [World.cell?, hs7.1]
        have j2 : W7.cell? ⟨bx + 1, 0, none⟩ = some (.slice none 0 0) := by simp [World.cell?, hs7.2]
        have j3 : W7.cell? ⟨bx + 1, 1, none⟩ = some (.int .i64 0) := by simp [World.cell?, hs7.2]
        have j4 : W7.frozen? ⟨bx + 1, 0, none⟩ = false := by simp [World.frozen?, hs7.2]
        have j5 : W7.frozen? ⟨bx + 1, 1, none⟩ = false := by simp [World.frozen?, hs7.2]
        have hk8 : KpF (fun g => g = bx + 1) W7 ((W7.setCell ⟨bx + 1, 0, none⟩ (.slice p6 n6 k6)).setCell ⟨bx + 1, 1, none⟩ (.int .i64 ck)) := (KpF.setCell (S := fun g => g = bx + 1) W7 ⟨bx + 1, 0, none⟩ _ rfl).trans (KpF.setCell (S := fun g => g = bx + 1) _ ⟨bx + 1, 1, none⟩ _ rfl)
        have h8 : ((W7.setCell ⟨bx + 1, 0, none⟩ (.slice p6 n6 k6)).setCell ⟨bx + 1, 1, none⟩ (.int .i64 ck)).heap[bx + 1]? = some (.cells #[.slice p6 n6 k6, .int .i64 ck] TL14 (0, 0)) := by simp [World.setCell, Array.getElem?_modify, hs7.2]
        have ho8 := own_kpF (own_kpF ho6 hk7 fun g hg e => by have := (ho6.lt g hg).1; omega) hk8 fun g hg e => by have := (ho6.lt g hg).1; omega
        have hb6 := (HB1.out.trans (HB2.out.mono HB1.out.size)).trans (HXw6.out.mono (Nat.le_trans HB1.out.size HB2.out.size))
        have hb8 : Below w.heap.size w ((W7.setCell ⟨bx + 1, 0, none⟩ (.slice p6 n6 k6)).setCell ⟨bx + 1, 1, none⟩ (.int .i64 ck)) := (hb6.trans (hk7.below (fun k hk => by have := HBX.out; omega) hb6.size)).trans (hk8.below (fun k hk => by have := HBX.out; omega) (Nat.le_trans hb6.size hk7.size))
        have HQ := Lib.hid (And.intro h8 (And.intro ho8 hb8))
        have HN6 := Lib.hid hn6
        clear hs7 hk7 hk8 h8 ho8 hb8 hb6 ho6 h6 hW7 hn6
        go_wp2
        refine bodyPost_ret (resL2 rfl _ _ (bx + 1) (.slice p6 n6 k6) (.int .i64 ck) (.int .i64 0) rfl rfl HQ.out.1 rfl rfl) rfl ?_
        obtain ⟨p9, k9, e9, hl9, hp9, hc9, hb9⟩ := own_shape HQ.out.2.1
        injection e9 with e91 e92 e93
        subst e91 e93
        refine ⟨_, n6, k6, by rw [HAN.out.1], ?_, HQ.out.2.2, .inr fun c o e => by have h1 := (hb9 c o e).1; have h2 := HB1.out.size; have h3 := HB2.out.size; omega⟩
        rw [← HAN.out.2]
        exact ⟨by rw [List.length_append, List.length_take, List.length_drop, HNN.out.1]; have := HN6.out; omega, hl9, hp9, hc9⟩
    · have hc := (HCB.out x HXx.out).1
      go_simp
      refine hK.out _ _ (by assumption) (fun hHeld => ?_)
      clear hc
      clear hK K
      try simp only [Act.put, List.setIfInBounds_toArray, List.set_cons_zero, List.set_cons_succ]
      refine wpAnyH_take (i := 10) (v := ?_) (by simp only [List.getElem?_toArray, List.getElem?_cons_succ, List.getElem?_cons_zero]; exact rfl) (by kernel_rfl) (by kernel_rfl) (by kernel_rfl) (fun _ _ _ h => h) (Or.inl ⟨by rfl, ?_⟩) (by assumption) ?_
      rotate_left 1
      · (intro w hSw; (try dsimp only at hSw); go_simp; try with_reducible rfl)
      try simp only [Act.put, List.setIfInBounds_toArray, List.set_cons_zero, List.set_cons_succ]
      refine wpAnyH_ready (rs := [0, 2]) (by kernel_rfl) (by simp) ?_
      refine (AllReadyH.cons (by simp only [List.getElem?_toArray, List.getElem?_cons_succ, List.getElem?_cons_zero]; exact rfl) (fun K hK => ?_) (AllReadyH.cons (by simp only [List.getElem?_toArray, List.getElem?_cons_succ, List.getElem?_cons_zero]; exact rfl) (fun K hK => ?_) AllReadyH.nil))
      · go_simp
        have hbx : Below w2.heap.size w2 (x.alloc (.cells #[] ER)) := HXx.out.alloc HXx.out.size _
        have hox := own_empty (E := ER) (k := 4) x w2.heap.size HXx.out.size
        refine hK.out _ _ (HCB.out _ hbx).2 (fun hHeld => ?_)
        generalize x.alloc (.cells #[] ER) = x1 at hbx hox hHeld ⊢
        have HXx1 := Lib.hid hbx
        have HO1 := Lib.hid hox
        clear hbx hox
        clear hK K
        try simp only [Act.put, List.setIfInBounds_toArray, List.set_cons_zero, List.set_cons_succ]
        refine wpAnyH_ready (rs := [2]) (by kernel_rfl) (by simp) ?_
        refine (AllReadyH.cons (by simp only [List.getElem?_toArray, List.getElem?_cons_succ, List.getElem?_cons_zero]; exact rfl) (fun K hK => ?_) AllReadyH.nil)
        have hc := (HCB.out x1 HXx1.out).1
        go_simp
        refine hK.out _ _ (by assumption) (fun hHeld => ?_)
        clear hc
        clear hK K
        try simp only [Act.put, List.setIfInBounds_toArray, List.set_cons_zero, List.set_cons_succ]
        refine wpAnyH_take (i := 4) (v := ?_) (by simp only [List.getElem?_toArray, List.getElem?_cons_succ, List.getElem?_cons_zero]; exact rfl) (by kernel_rfl) (by kernel_rfl) (by kernel_rfl) (fun _ _ _ h => h) (Or.inl ⟨by rfl, ?_⟩) (by assumption) ?_
        rotate_left 1
        · (intro w hSw; (try dsimp only at hSw); go_simp; try with_reducible rfl)
        try simp only [Act.put, List.setIfInBounds_toArray, List.set_cons_zero, List.set_cons_succ]
        refine wpAnyH_ready (rs := [5]) (by kernel_rfl) (by simp) ?_
        refine (AllReadyH.cons (by simp only [List.getElem?_toArray, List.getElem?_cons_succ, List.getElem?_cons_zero]; exact rfl) (fun K hK => ?_) AllReadyH.nil)
        refine step_appendK elR14 x1 rfl (.tmp 13) (.tmp 17) rfl w2.heap.size (n := 0) (v := .slice (some ⟨x.heap.size, 0, none⟩) 0 0) (cs := []) rfl HO1.out (some ⟨c, o, none⟩) i cap (rfsC (M.take i)) HLT.out.1 rfl (HLS.out x1 HXx1.out).1 (fun h => by cases h) (rfsC_oneCell _) (by omega) HXx1.out.size ?_
        rintro v5 w5 hO5 hg5 -
        rw [List.nil_append, Nat.zero_add] at hO5
        have hb5 : Below w2.heap.size w2 w5 := HXx1.out.grown hg5 HXx1.out.size (fun g hg => (HO1.out.lt g hg).1)
        have HO5 := Lib.hid hO5
        have HXw5 := Lib.hid hb5
        obtain ⟨p5, k5, e5, -⟩ := own_shape hO5
        subst e5
        refine hK.out _ _ (HCB.out _ hb5).2 (fun hHeld => ?_)
        clear hO5 hg5 hb5
        clear hK K
        try simp only [Act.put, List.setIfInBounds_toArray, List.set_cons_zero, List.set_cons_succ]
        refine wpAnyH_ready (rs := [11]) (by kernel_rfl) (by simp) ?_
        refine (AllReadyH.cons (by simp only [List.getElem?_toArray, List.getElem?_cons_succ, List.getElem?_cons_zero]; exact rfl) (fun K hK => ?_) AllReadyH.nil)
        refine step_appendK elR14 w5 rfl (.tmp 18) (.tmp 23) rfl w2.heap.size (n := i) (v := .slice p5 i k5) (cs := rfsC (M.take i)) rfl HO5.out (some A) (n - (i + 1)) (cap - (i + 1)) (rfsC (M.drop (i + 1))) HLT.out.2 rfl (HLS.out w5 HXw5.out).2 (fun h => by cases h) (rfsC_oneCell _) (by omega) HXw5.out.size ?_
        rintro v6 w6 hO6 hg6 -
        rw [← rfsC_app] at hO6
        have hb6 : Below w2.heap.size w2 w6 := HXw5.out.grown hg6 HXw5.out.size (fun g hg => (HO5.out.lt g hg).1)
        have HO6 := Lib.hid hO6
        have HXw6 := Lib.hid hb6
        obtain ⟨p6, k6, e6, -⟩ := own_shape hO6
        subst e6
        refine hK.out _ _ (HCB.out _ hb6).2 (fun hHeld => ?_)
        clear hO6 hg6 hb6
        clear hK K
        try simp only [Act.put, List.setIfInBounds_toArray, List.set_cons_zero, List.set_cons_succ]
        refine wpAnyH_take (i := 12) (v := ?_) (by simp only [List.getElem?_toArray, List.getElem?_cons_succ, List.getElem?_cons_zero]; exact rfl) (by kernel_rfl) (by kernel_rfl) (by kernel_rfl) (fun _ _ _ h => h) (Or.inl ⟨by rfl, ?_⟩) (by assumption) ?_
        rotate_left 1
        · (intro w hSw; (try dsimp only at hSw); go_simp; try with_reducible rfl)
        try simp only [Act.put, List.setIfInBounds_toArray, List.set_cons_zero, List.set_cons_succ]
        refine wpAnyH_ready (rs := [13]) (by kernel_rfl) (by simp) ?_
        refine (AllReadyH.cons (by simp only [List.getElem?_toArray, List.getElem?_cons_succ, List.getElem?_cons_zero]; exact rfl) (fun K hK => ?_) AllReadyH.nil)
        have c5 := (HCB.out w6 HXw6.out).1
        have c6 := HFZ.out w6 HXw6.out
        have hs6 : (w6.setCell ⟨bx, 0, none⟩ (.slice p6 (i + (n - (i + 1))) k6)).cell? ⟨bx + 1, 0, none⟩ = some (.slice none 0 0) := by
          rw [World.cell?_setCell_other _ _ _ _ (by simp)]
          exact (HCB.out w6 HXw6.out).2
        go_simp
        refine hK.out _ _ hs6 (fun hHeld => ?_)
        clear c5 c6 hs6
        clear hK K
        try simp only [Act.put, List.setIfInBounds_toArray, List.set_cons_zero, List.set_cons_succ]
        refine wpAnyH_done (by kernel_rfl) ?_ _
        refine NoPanic.normal ?_
        clear hHeld
        obtain ⟨n6, hn6⟩ : ∃ y, i + (n - (i + 1)) = y := ⟨_, rfl⟩
        have ho6 := HO6.out
        rw [hn6] at ho6 ⊢
        have h6 := HH.out w6 (HB2.out.trans (HXw6.out.mono HB2.out.size))
        have hbw : bx + 1 < w2.heap.size := Nat.lt_of_lt_of_le (Array.getElem?_eq_some_iff.1 (HH.out W1 (Below.refl _ _)).2).1 HB2.out.size
        have hs7 : (w6.setCell ⟨bx, 0, none⟩ (.slice p6 n6 k6)).heap[bx]? = some (.cells #[.slice p6 n6 k6, .int .i64 ck] TL14 (0, 0)) ∧ (w6.setCell ⟨bx, 0, none⟩ (.slice p6 n6 k6)).heap[bx + 1]? = some (.cells #[.slice none 0 0, .int .i64 0] TL14 (0, 0)) := by
          refine ⟨by simp [World.setCell, Array.getElem?_modify, h6.1], ?_⟩
          have : ¬ bx = bx + 1 := by omega
          simp [World.setCell, Array.getElem?_modify, h6.2, this]
        have hk7 : KpF (fun g => g = bx) w6 (w6.setCell ⟨bx, 0, none⟩ (.slice p6 n6 k6)) := KpF.setCell _ _ _ rfl
        obtain ⟨W7, hW7⟩ : ∃ W, w6.setCell ⟨bx, 0, none⟩ (.slice p6 n6 k6) = W := ⟨_, rfl⟩
        rw [hW7] at hs7 hk7
        rw [hW7]
        have j0 : W7.cell? ⟨bx, 0, none⟩ = some (.slice p6 n6 k6) := by simp [World.cell?, hs7.1]
        have j1 : W7.cell? ⟨bx, 1, none⟩ = some (.int .i64 ck) := by simp [World.cell?, hs7.1]
        have j2 : W7.cell? ⟨bx + 1, 0, none⟩ = some (.slice none 0 0) := by simp [World.cell?, hs7.2]
        have j3 : W7.cell? ⟨bx + 1, 1, none⟩ = some (.int .i64 0) := by simp [World.cell?, hs7.2]
        have j4 : W7.frozen? ⟨bx + 1, 0, none⟩ = false := by simp [World.frozen?, hs7.2]
        have j5 : W7.frozen? ⟨bx + 1, 1, none⟩ = false := by simp [World.frozen?, hs7.2]
        have hk8 : KpF (fun g => g = bx + 1) W7 ((W7.setCell ⟨bx + 1, 0, none⟩ (.slice p6 n6 k6)).setCell ⟨bx + 1, 1, none⟩ (.int .i64 ck)) := (KpF.setCell (S := fun g => g = bx + 1) W7 ⟨bx + 1, 0, none⟩ _ rfl).trans (KpF.setCell (S := fun g => g = bx + 1) _ ⟨bx + 1, 1, none⟩ _ rfl)
        have h8 : ((W7.setCell ⟨bx + 1, 0, none⟩ (.slice p6 n6 k6)).setCell ⟨bx + 1, 1, none⟩ (.int .i64 ck)).heap[bx + 1]? = some (.cells #[.slice p6 n6 k6, .int .i64 ck] TL14 (0, 0)) := by simp [World.setCell, Array.getElem?_modify, hs7.2]
        have ho8 := own_kpF (own_kpF ho6 hk7 fun g hg e => by have := (ho6.lt g hg).1; omega) hk8 fun g hg e => by have := (ho6.lt g hg).1; omega
        have hb6 := (HB1.out.trans (HB2.out.mono HB1.out.size)).trans (HXw6.out.mono (Nat.le_trans HB1.out.size HB2.out.size))
        have hb8 : Below w.heap.size w ((W7.setCell ⟨bx + 1, 0, none⟩ (.slice p6 n6 k6)).setCell ⟨bx + 1, 1, none⟩ (.int .i64 ck)) := (hb6.trans (hk7.below (fun k hk => by have := HBX.out; omega) hb6.size)).trans (hk8.below (fun k hk => by have := HBX.out; omega) (Nat.le_trans hb6.size hk7.size))
        have HQ := Lib.hid (And.intro h8 (And.intro ho8 hb8))
        have HN6 := Lib.hid hn6
        clear hs7 hk7 hk8 h8 ho8 hb8 hb6 ho6 h6 hW7 hn6
        go_wp2
        refine bodyPost_ret (resL2 rfl _ _ (bx + 1) (.slice p6 n6 k6) (.int .i64 ck) (.int .i64 0) rfl rfl HQ.out.1 rfl rfl) rfl ?_
        obtain ⟨p9, k9, e9, hl9, hp9, hc9, hb9⟩ := own_shape HQ.out.2.1
        injection e9 with e91 e92 e93
        subst e91 e93
        refine ⟨_, n6, k6, by rw [HAN.out.1], ?_, HQ.out.2.2, .inr fun c o e => by have h1 := (hb9 c o e).1; have h2 := HB1.out.size; have h3 := HB2.out.size; omega⟩
        rw [← HAN.out.2]
        exact ⟨by rw [List.length_append, List.length_take, List.length_drop, HNN.out.1]; have := HN6.out; omega, hl9, hp9, hc9⟩
      · have hc := (HCB.out x HXx.out).1
        go_simp
        refine hK.out _ _ (by assumption) (fun hHeld => ?_)
        clear hc
        clear hK K
        try simp only [Act.put, List.setIfInBounds_toArray, List.set_cons_zero, List.set_cons_succ]
        refine wpAnyH_take (i := 4) (v := ?_) (by simp only [List.getElem?_toArray, List.getElem?_cons_succ, List.getElem?_cons_zero]; exact rfl) (by kernel_rfl) (by kernel_rfl) (by kernel_rfl) (fun _ _ _ h => h) (Or.inl ⟨by rfl, ?_⟩) (by assumption) ?_
        rotate_left 1
        · (intro w hSw; (try dsimp only at hSw); go_simp; try with_reducible rfl)
        try simp only [Act.put, List.setIfInBounds_toArray, List.set_cons_zero, List.set_cons_succ]
        refine wpAnyH_ready (rs := [0]) (by kernel_rfl) (by simp) ?_
        refine (AllReadyH.cons (by simp only [List.getElem?_toArray, List.getElem?_cons_succ, List.getElem?_cons_zero]; exact rfl) (fun K hK => ?_) AllReadyH.nil)
        go_simp
        have hbx : Below w2.heap.size w2 (x.alloc (.cells #[] ER)) := HXx.out.alloc HXx.out.size _
        have hox := own_empty (E := ER) (k := 4) x w2.heap.size HXx.out.size
        refine hK.out _ _ (HCB.out _ hbx).2 (fun hHeld => ?_)
        generalize x.alloc (.cells #[] ER) = x1 at hbx hox hHeld ⊢
        have HXx1 := Lib.hid hbx
        have HO1 := Lib.hid hox
        clear hbx hox
        clear hK K
        try simp only [Act.put, List.setIfInBounds_toArray, List.set_cons_zero, List.set_cons_succ]
        refine wpAnyH_ready (rs := [5]) (by kernel_rfl) (by simp) ?_
        refine (AllReadyH.cons (by simp only [List.getElem?_toArray, List.getElem?_cons_succ, List.getElem?_cons_zero]; exact rfl) (fun K hK => ?_) AllReadyH.nil)
        refine step_appendK elR14 x1 rfl (.tmp 13) (.tmp 17) rfl w2.heap.size (n := 0) (v := .slice (some ⟨x.heap.size, 0, none⟩) 0 0) (cs := []) rfl HO1.out (some ⟨c, o, none⟩) i cap (rfsC (M.take i)) HLT.out.1 rfl (HLS.out x1 HXx1.out).1 (fun h => by cases h) (rfsC_oneCell _) (by omega) HXx1.out.size ?_
        rintro v5 w5 hO5 hg5 -
        rw [List.nil_append, Nat.zero_add] at hO5
        have hb5 : Below w2.heap.size w2 w5 := HXx1.out.grown hg5 HXx1.out.size (fun g hg => (HO1.out.lt g hg).1)
        have HO5 := Lib.hid hO5
        have HXw5 := Lib.hid hb5
        obtain ⟨p5, k5, e5, -⟩ := own_shape hO5
        subst e5
        refine hK.out _ _ (HCB.out _ hb5).2 (fun hHeld => ?_)
        clear hO5 hg5 hb5
        clear hK K
        try simp only [Act.put, List.setIfInBounds_toArray, List.set_cons_zero, List.set_cons_succ]
        refine wpAnyH_ready (rs := [11]) (by kernel_rfl) (by simp) ?_
        refine (AllReadyH.cons (by simp only [List.getElem?_toArray, List.getElem?_cons_succ, List.getElem?_cons_zero]; exact rfl) (fun K hK => ?_) AllReadyH.nil)
        refine step_appendK elR14 w5 rfl (.tmp 18) (.tmp 23) rfl w2.heap.size (n := i) (v := .slice p5 i k5) (cs := rfsC (M.take i)) rfl HO5.out (some A) (n - (i + 1)) (cap - (i + 1)) (rfsC (M.drop (i + 1))) HLT.out.2 rfl (HLS.out w5 HXw5.out).2 (fun h => by cases h) (rfsC_oneCell _) (by omega) HXw5.out.size ?_
        rintro v6 w6 hO6 hg6 -
        rw [← rfsC_app] at hO6
        have hb6 : Below w2.heap.size w2 w6 := HXw5.out.grown hg6 HXw5.out.size (fun g hg => (HO5.out.lt g hg).1)
        have HO6 := Lib.hid hO6
        have HXw6 := Lib.hid hb6
        obtain ⟨p6, k6, e6, -⟩ := own_shape hO6
        subst e6
        refine hK.out _ _ (HCB.out _ hb6).2 (fun hHeld => ?_)
        clear hO6 hg6 hb6
        clear hK K
        try simp only [Act.put, List.setIfInBounds_toArray, List.set_cons_zero, List.set_cons_succ]
        refine wpAnyH_take (i := 12) (v := ?_) (by simp only [List.getElem?_toArray, List.getElem?_cons_succ, List.getElem?_cons_zero]; exact rfl) (by kernel_rfl) (by kernel_rfl) (by kernel_rfl) (fun _ _ _ h => h) (Or.inl ⟨by rfl, ?_⟩) (by assumption) ?_
        rotate_left 1
        · (intro w hSw; (try dsimp only at hSw); go_simp; try with_reducible rfl)
        try simp only [Act.put, List.setIfInBounds_toArray, List.set_cons_zero, List.set_cons_succ]
        refine wpAnyH_ready (rs := [13]) (by kernel_rfl) (by simp) ?_
        refine (AllReadyH.cons (by simp only [List.getElem?_toArray, List.getElem?_cons_succ, List.getElem?_cons_zero]; exact rfl) (fun K hK => ?_) AllReadyH.nil)
        have c5 := (HCB.out w6 HXw6.out).1
        have c6 := HFZ.out w6 HXw6.out
        have hs6 : (w6.setCell ⟨bx, 0, none⟩ (.slice p6 (i + (n - (i + 1))) k6)).cell? ⟨bx + 1, 0, none⟩ = some (.slice none 0 0) := by
          rw [World.cell?_setCell_other _ _ _ _ (by simp)]
          exact (HCB.out w6 HXw6.out).2
        go_simp
        refine hK.out _ _ hs6 (fun hHeld => ?_)
        clear c5 c6 hs6
        clear hK K
        try simp only [Act.put, List.setIfInBounds_toArray, List.set_cons_zero, List.set_cons_succ]
        refine wpAnyH_done (by kernel_rfl) ?_ _
        refine NoPanic.normal ?_
        clear hHeld
        obtain ⟨n6, hn6⟩ : ∃ y, i + (n - (i + 1)) = y := ⟨_, rfl⟩
        have ho6 := HO6.out
        rw [hn6] at ho6 ⊢
        have h6 := HH.out w6 (HB2.out.trans (HXw6.out.mono HB2.out.size))
        have hbw : bx + 1 < w2.heap.size := Nat.lt_of_lt_of_le (Array.getElem?_eq_some_iff.1 (HH.out W1 (Below.refl _ _)).2).1 HB2.out.size
        have hs7 : (w6.setCell ⟨bx, 0, none⟩ (.slice p6 n6 k6)).heap[bx]? = some (.cells #[.slice p6 n6 k6, .int .i64 ck] TL14 (0, 0)) ∧ (w6.setCell ⟨bx, 0, none⟩ (.slice p6 n6 k6)).heap[bx + 1]? = some (.cells #[.slice none 0 0, .int .i64 0] TL14 (0, 0)) := by
          refine ⟨by simp [World.setCell, Array.getElem?_modify, h6.1], ?_⟩
          have : ¬ bx = bx + 1 := by omega
          simp [World.setCell, Array.getElem?_modify, h6.2, this]
        have hk7 : KpF (fun g => g = bx) w6 (w6.setCell ⟨bx, 0, none⟩ (.slice p6 n6 k6)) := KpF.setCell _ _ _ rfl
        obtain ⟨W7, hW7⟩ : ∃ W, w6.setCell ⟨bx, 0, none⟩ (.slice p6 n6 k6) = W := ⟨_, rfl⟩
        rw [hW7] at hs7 hk7
        rw [hW7]
        have j0 : W7.cell? ⟨bx, 0, none⟩ = some (.slice p6 n6 k6) := by simp [World.cell?, hs7.1]
        have j1 : W7.cell? ⟨bx, 1, none⟩ = some (.int .i64 ck) := by simp [World.cell?, hs7.1]
        have j2 : W7.cell? ⟨bx + 1, 0, none⟩ = some (.slice none 0 0) := by simp [World.cell?, hs7.2]
        have j3 : W7.cell? ⟨bx + 1, 1, none⟩ = some (.int .i64 0) := by simp [World.cell?, hs7.2]
        have j4 : W7.frozen? ⟨bx + 1, 0, none⟩ = false := by simp [World.frozen?, hs7.2]
        have j5 : W7.frozen? ⟨bx + 1, 1, none⟩ = false := by simp [World.frozen?, hs7.2]
        have hk8 : KpF (fun g => g = bx + 1) W7 ((W7.setCell ⟨bx + 1, 0, none⟩ (.slice p6 n6 k6)).setCell ⟨bx + 1, 1, none⟩ (.int .i64 ck)) := (KpF.setCell (S := fun g => g = bx + 1) W7 ⟨bx + 1, 0, none⟩ _ rfl).trans (KpF.setCell (S := fun g => g = bx + 1) _ ⟨bx + 1, 1, none⟩ _ rfl)
        have h8 : ((W7.setCell ⟨bx + 1, 0, none⟩ (.slice p6 n6 k6)).setCell ⟨bx + 1, 1, none⟩ (.int .i64 ck)).heap[bx + 1]? = some (.cells #[.slice p6 n6 k6, .int .i64 ck] TL14 (0, 0)) := by simp [World.setCell, Array.getElem?_modify, hs7.2]
        have ho8 := own_kpF (own_kpF ho6 hk7 fun g hg e => by have := (ho6.lt g hg).1; omega) hk8 fun g hg e => by have := (ho6.lt g hg).1; omega
        have hb6 := (HB1.out.trans (HB2.out.mono HB1.out.size)).trans (HXw6.out.mono (Nat.le_trans HB1.out.size HB2.out.size))
        have hb8 : Below w.heap.size w ((W7.setCell ⟨bx + 1, 0, none⟩ (.slice p6 n6 k6)).setCell ⟨bx + 1, 1, none⟩ (.int .i64 ck)) := (hb6.trans (hk7.below (fun k hk => by have := HBX.out; omega) hb6.size)).trans (hk8.below (fun k hk => by have := HBX.out; omega) (Nat.le_trans hb6.size hk7.size))
        have HQ := Lib.hid (And.intro h8 (And.intro ho8 hb8))
        have HN6 := Lib.hid hn6
        clear hs7 hk7 hk8 h8 ho8 hb8 hb6 ho6 h6 hW7 hn6
        go_wp2
        refine bodyPost_ret (resL2 rfl _ _ (bx + 1) (.slice p6 n6 k6) (.int .i64 ck) (.int .i64 0) rfl rfl HQ.out.1 rfl rfl) rfl ?_
        obtain ⟨p9, k9, e9, hl9, hp9, hc9, hb9⟩ := own_shape HQ.out.2.1
        injection e9 with e91 e92 e93
        subst e91 e93
        refine ⟨_, n6, k6, by rw [HAN.out.1], ?_, HQ.out.2.2, .inr fun c o e => by have h1 := (hb9 c o e).1; have h2 := HB1.out.size; have h3 := HB2.out.size; omega⟩
        rw [← HAN.out.2]
        exact ⟨by rw [List.length_append, List.length_take, List.length_drop, HNN.out.1]; have := HN6.out; omega, hl9, hp9, hc9⟩
end Go.Proofs.YtcgilacmdckbfaaDoor
