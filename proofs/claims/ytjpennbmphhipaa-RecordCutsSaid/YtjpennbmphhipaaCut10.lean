/- record.Cut. -/
import Derived.Test.YtjpennbmphhipaaHds10
set_option linter.unusedSimpArgs false
set_option linter.unusedVariables false
namespace Go.Proofs.Ytjpennbmphhipaa
open Go Go.RowKit Go.Shelf

attribute [local go_sem] Oper.semAt_some
/-- What the walk of Cut carries. -/
def InvC (w : World) (N : Nat) (l : List (BitVec 8)) (pre : List Nat) (A : World) : Prop :=
  ∃ v, A.cell? ⟨N, 0, none⟩ = some v ∧ A.frozen? ⟨N, 0, none⟩ = false ∧ Hds A (N + 4) v (pre.map (blkL l)) ∧ Below w.heap.size w A ∧ N + 2 ≤ A.heap.size
theorem InvC.of_below {w : World} {N : Nat} {l : List (BitVec 8)} {pre : List Nat} {A A' : World} (h : InvC w N l pre A) (hw : w.heap.size ≤ N) (hB : Below A.heap.size A A') : InvC w N l pre A' := by
  obtain ⟨v, h1, h2, h3, h4, h5⟩ := h
  have hlt := World.block_lt_of_cell? A _ h1
  exact ⟨v, by rw [hB.cell (by exact hlt)]; exact h1, by rw [hB.frozen (by exact hlt)]; exact h2, h3.of_below hB, h4.trans (hB.mono h4.size), Nat.le_trans h5 hB.size⟩
theorem InvC.bears (w : World) (N : Nat) (l : List (BitVec 8)) (hw : w.heap.size = N) : BearsP (N + 2) (InvC w N l) :=
  ⟨fun pre A o h => h.of_below (by omega) ((Below.refl _ _).alloc (Nat.le_refl _) _),
   fun pre A o hlt h => by
    obtain ⟨v, h1, h2, h3, h4, h5⟩ := h
    have hB := below_putP (N := N + 2 + 1) o (Nat.le_refl _) hlt
    exact ⟨v, by rw [hB.cell (by show N < _; omega)]; exact h1, by rw [hB.frozen (by show N < _; omega)]; exact h2, h3.put hlt, h4.trans (hB.mono (by omega)), Nat.le_trans h5 hB.size⟩,
   fun pre A k h => h.of_below (by omega) ((show Dr A (A.drewN k) from ⟨k, rfl⟩).below _)⟩
set_option maxRecDepth 100000 in
set_option maxHeartbeats 4000000 in
theorem cut_any10 (l : List (BitVec 8)) (q : Option Addr) (n cap : Nat) (w : World) (hl : l.length = n) (hs : Sl w q l) (hq : q = none → cap = 0) (hc : n ≤ cap) (hn : n < 1000000) :
    Calls Try.prog 13 #[.slice q n cap] w fun e w' => ∃ v, e = .returned v ∧ Hds w' w.heap.size v ((List.range (nblk n)).map (blkL l)) ∧ Below w.heap.size w w' := by
  refine (callsIn_wide (n := 7)).1 ?_
  refine callsIn_of_wp_marks Try.func13 rfl trivial ?_ rfl
  simp only [Try.ntmps13, List.size_toArray, List.length_cons, List.length_nil, Nat.reduceAdd, Nat.reduceSub, Array.replicate_succ, Array.replicate_zero, List.push_toArray, List.append_toArray, List.nil_append, List.cons_append]
  have HSL := Lib.hid hs
  have HLN := Lib.hid hl
  have HQ := Lib.hid hq
  clear hs hl hq
  gi_wp2_with (refine ⟨trivial, ?_⟩; gi_at_call 22; refine (callsIn_wide.2 (blocks_any q n cap _)).mono ?_; rintro e w' ⟨rfl, rfl⟩)
  obtain ⟨N, hN⟩ : ∃ N, w.heap.size = N := ⟨_, rfl⟩
  obtain ⟨W1, hW1⟩ : ∃ W1, w.alloc (.cells #[.slice none 0 0] 36) = W1 := ⟨_, rfl⟩
  obtain ⟨W2, hW2⟩ : ∃ W2, W1.alloc (.cells #[.slice q n cap] 22) = W2 := ⟨_, rfl⟩
  have s1 : W1.heap.size = N + 1 := by rw [← hW1]; simp [hN]
  have s2 : W2.heap.size = N + 2 := by rw [← hW2]; simp [s1]
  have hB1 : Below w.heap.size w W1 := by rw [← hW1]; exact (Below.refl _ _).alloc (Nat.le_refl _) _
  have hB2 : Below W1.heap.size W1 W2 := by rw [← hW2]; exact (Below.refl _ _).alloc (Nat.le_refl _) _
  obtain ⟨c0, f0⟩ := new_cP w (.slice none 0 0) 36
  rw [hW1, hN] at c0 f0
  have c1 : W2.cell? ⟨N + 1, 0, none⟩ = some (.slice q n cap) := by rw [← hW2, ← s1]; exact World.cell?_alloc_new _ _ _ _
  have c0' : W2.cell? ⟨N, 0, none⟩ = some (.slice none 0 0) := by rw [hB2.cell (by show N < _; omega)]; exact c0
  have f0' : W2.frozen? ⟨N, 0, none⟩ = false := by rw [hB2.frozen (by show N < _; omega)]; exact f0
  have inv0 : InvC w N l [] W2 := ⟨_, c0', f0', Hds.nil _ _, hB1.trans (hB2.mono hB1.size), by omega⟩
  have HSEQ := Lib.hid (blocks_seq 6 (by decide) (N + 1) q n cap W2 c1 hn hc)
  rw [hW1, hW2]
  try rw [hN]
  clear hW1 hW2 hB1 hB2 c0 f0 c1 c0' f0'
  refine range_pure (m := 7) (by decide) (gf := 27) (lb := #[.pointer (some ⟨N + 1, 0, none⟩)]) (by rfl) (enters_of Try.func27 (by kernel_rfl) rfl)
    (encs := fun i : Nat => #[.int .i64 (i : Int), blkS q n i]) (fun _ => rfl) (b := N + 1) (by omega) HSEQ.out
    (InvC w N l) (fun _ _ => False) (by have := InvC.bears w N l hN; rw [← s2] at this; exact this) (fun _ _ _ _ h => h) inv0
    (fun i => { tmps := #[.slice q n cap, undef, .slice none 0 0, .pointer (some ⟨N, 0, none⟩), undef, blkS q n i, .slice q n cap, .func (.func 27) #[] #[.pointer (some ⟨N + 1, 0, none⟩)], .int .i64 (i : Int), blkS q n i, undef, undef, undef, undef, undef, undef], defers := [] }) ?assign ?body ?done ?stop
  case assign =>
    intro L x A K hK
    gi_wp2
    exact hK
  case body =>
    rintro L pre i A hpx hNA hinv
    rw [s2] at hNA
    have hNA : N + 4 ≤ A.heap.size := hNA
    obtain ⟨v, hcx, hfx, hHd, hBE, -⟩ := hinv
    obtain ⟨hs, hOW, hrows⟩ := hHd
    have hik := pre_range hpx
    have hlen : pre.length + 1 < 100000000 := by have := hik.2.1; unfold nblk at this; omega
    have hvlt : ∀ g, v.ownBlock = some g → N + 4 ≤ g ∧ g < A.heap.size := fun g hg => hOW.lt g hg
    have HOW := Lib.hid hOW
    have HBE := Lib.hid hBE
    have hi256 : 256 * i < n := nblk_lt hik.1
    have HCL := Lib.hid (fun (u : World) (hu : Below A.heap.size A u) => clone_blk l q n cap i u HLN.out (HSL.out.of_below (hBE.trans (hu.mono hBE.size))) HQ.out hc hi256)
    have HHD := Lib.hid (fun (x y : World) (v' : Value) (p : Option Addr) (c : Nat) (hX : Below A.heap.size A x) (h1 : Sl x p (blkL l i)) (h2 : p = none → c = 0) (h3 : ∀ c o, p = some ⟨c, o, none⟩ → A.heap.size ≤ c ∧ c < x.heap.size)
        (h4 : y.ownsRow (N + 4) 22 1 v' ((pre.map (blkL l)).length + 1) (hs ++ [.slice p (blkL l i).length c])) (h5 : x.grownBy y v.ownBlock) (h6 : v'.ownBlock = v.ownBlock ∨ v'.ownBlock = some x.heap.size) => (Hds.push (own_below hOW hX) (fun j hj => by
          obtain ⟨p', cap', e1, e2, e3, e4⟩ := hrows j hj
          exact ⟨p', cap', e1, e2.of_below hX, e3, fun c o e => ⟨(e4 c o e).1, Nat.lt_of_lt_of_le (e4 c o e).2.1 hX.size, (e4 c o e).2.2⟩⟩) h1 h2 (fun c o e => ⟨by have := (h3 c o e).1; omega, (h3 c o e).2, fun e2 => by have := (hvlt c e2).2; have := (h3 c o e).1; omega⟩) h4 h5 h6 : Hds y (N + 4) v' (pre.map (blkL l) ++ [blkL l i])))
    have HX := Lib.hid (show Below A.heap.size A A.drew from (Below.refl _ _).drew)
    have hcx : A.drew.cell? ⟨N, 0, none⟩ = some v := hcx
    have hfx : A.drew.frozen? ⟨N, 0, none⟩ = false := hfx
    have hcy := hcx
    clear hOW hrows hBE hpx hvlt hik
    gi_wp2
    refine wpIn_region_any (by kernel_rfl) ?_
    try (change wpAnyIn _ _ _ _ _ _ _ _ _ (World.drew _))
    generalize A.drew = x at *
    refine wpAnyIn_ready (rs := [0, 1]) (by kernel_rfl) (by simp) ?_
    refine (AllReadyIn.cons (by simp only [List.getElem?_toArray, List.getElem?_cons_succ, List.getElem?_cons_zero]; exact rfl) (fun K hK => ?_) (AllReadyIn.cons (by simp only [List.getElem?_toArray, List.getElem?_cons_succ, List.getElem?_cons_zero]; exact rfl) (fun K hK => ?_) AllReadyIn.nil))
    · go_simp
      refine hK _ _ ?_
      clear hK K
      try simp only [Act.put, List.setIfInBounds_toArray, List.set_cons_zero, List.set_cons_succ]
      refine wpAnyIn_ready (rs := [1]) (by kernel_rfl) (by simp) ?_
      refine (AllReadyIn.cons (by simp only [List.getElem?_toArray, List.getElem?_cons_succ, List.getElem?_cons_zero]; exact rfl) (fun K hK => ?_) AllReadyIn.nil)
      go_simp
      refine hK _ _ ?_
      clear hK K
      try simp only [Act.put, List.setIfInBounds_toArray, List.set_cons_zero, List.set_cons_succ]
      refine wpAnyIn_ready (rs := [2]) (by kernel_rfl) (by simp) ?_
      refine (AllReadyIn.cons (by simp only [List.getElem?_toArray, List.getElem?_cons_succ, List.getElem?_cons_zero]; exact rfl) (fun K hK => ?_) AllReadyIn.nil)
      go_simp
      refine ⟨trivial, (CallsIn.inRound L (callsIn_wide.2 (HCL.out _ HX.out))).mono ?_⟩
      rintro e x2 ⟨v2, rfl, hO2, hB2⟩
      obtain ⟨p2, c2, rfl, hs2, hp2, hc2⟩ := hO2.shape
      have hcx := (show x2.cell? ⟨N, 0, none⟩ = some v from by rw [hB2.cell (by exact World.block_lt_of_cell? x _ hcx)]; exact hcx)
      have hfx := (show x2.frozen? ⟨N, 0, none⟩ = false from by rw [hB2.frozen (by exact World.block_lt_of_cell? x _ hcy)]; exact hfx)
      have hcy := hcx
      have hO2 := hO2.lower (b2 := A.heap.size) HX.out.size
      have HX := Lib.hid (HX.out.trans (hB2.mono HX.out.size))
      have H2 := Lib.hid (And.intro hO2 (And.intro hs2 hp2))
      have HZ2 := Lib.hid hB2.size
      clear hO2 hB2 hs2 hp2 hc2
      refine hK _ _ ?_
      clear hK K
      try simp only [Act.put, List.setIfInBounds_toArray, List.set_cons_zero, List.set_cons_succ]
      refine wpAnyIn_ready (rs := [3]) (by kernel_rfl) (by simp) ?_
      refine (AllReadyIn.cons (by simp only [List.getElem?_toArray, List.getElem?_cons_succ, List.getElem?_cons_zero]; exact rfl) (fun K hK => ?_) AllReadyIn.nil)
      go_simp
      obtain ⟨x23, hy⟩ : ∃ y, (x2.alloc (.cells #[.slice p2 (blkL l i).length c2] 22)) = y := ⟨_, rfl⟩
      have hBa : Below x2.heap.size x2 x23 := by rw [← hy]; exact (Below.refl _ _).alloc (Nat.le_refl _) _
      have hcx := (show x23.cell? ⟨N, 0, none⟩ = some v from by rw [hBa.cell (by exact World.block_lt_of_cell? x2 _ hcx)]; exact hcx)
      have hfx := (show x23.frozen? ⟨N, 0, none⟩ = false from by rw [hBa.frozen (by exact World.block_lt_of_cell? x2 _ hcy)]; exact hfx)
      have hcy := hcx
      have HX := Lib.hid (HX.out.trans (hBa.mono HX.out.size))
      have HH := Lib.hid (show LsC x23 (some ⟨x2.heap.size, 0, none⟩) [.slice p2 (blkL l i).length c2] from by rw [← hy]; exact LsC.made _ [Value.slice p2 (blkL l i).length c2] _)
      have H2 := Lib.hid (And.intro (H2.out.1.of_below hBa) (And.intro (H2.out.2.1.of_below hBa) H2.out.2.2))
      refine hK _ _ ?_
      clear hK K
      rw [hy]
      clear hy hBa
      try simp only [Act.put, List.setIfInBounds_toArray, List.set_cons_zero, List.set_cons_succ]
      refine wpAnyIn_ready (rs := [4]) (by kernel_rfl) (by simp) ?_
      refine (AllReadyIn.cons (by simp only [List.getElem?_toArray, List.getElem?_cons_succ, List.getElem?_cons_zero]; exact rfl) (fun K hK => ?_) AllReadyIn.nil)
      have hO := own_below HOW.out HX.out
      refine stepIn_appendK elR x23 rfl (.tmp 10) (.tmp 13) rfl (N + 4) rfl hO _ 1 1 [.slice p2 (blkL l i).length c2] rfl rfl HH.out (fun h => by cases h) (fun u hu => by rw [List.mem_singleton] at hu; subst hu; rfl) (by rw [List.length_map]; omega) (Nat.le_trans hNA HX.out.size) ?_
      rintro v' x234 hO' hg hor
      have hHd := HHD.out x23 x234 v' p2 c2 HX.out H2.out.2.1 H2.out.2.2 (fun c o e => H2.out.1.lt c (by rw [e]; rfl)) hO' hg hor
      have hne : some N ≠ v.ownBlock := fun e => by have := (World.ownsRow.lt hO N e.symm).1; omega
      have hcx := (show x234.cell? ⟨N, 0, none⟩ = some v from hg.cell hcx hne)
      have hfx := (show x234.frozen? ⟨N, 0, none⟩ = false from by rw [World.frozen?_of_block (w := x23) (hg.block N (by exact World.block_lt_of_cell? x23 _ hcy) hne)]; exact hfx)
      have HBB := Lib.hid (show x234.heap[N + 1]? = A.heap[N + 1]? from by
        rw [hg.block (N + 1) (by have := HX.out.size; omega) (fun e => by have := (World.ownsRow.lt hO (N + 1) e.symm).1; omega)]
        exact HX.out.block _ (by omega))
      have HBW := Lib.hid (HBE.out.trans ((HX.out.mono (by omega)).grown hg (by have := HX.out.size; omega) (fun k hk => by have := (World.ownsRow.lt hO k hk).1; omega)))
      have HKO := Lib.hid ((others_belowP HX.out).trans (KeepsOthers.grown_own hO hg))
      have HHD2 := Lib.hid hHd
      have hv4 : ∃ p n c, v' = .slice p n c := by obtain ⟨p', c', e', -⟩ := own_shape hO'; exact ⟨_, _, _, e'⟩
      obtain ⟨p4, n4, c4, rfl⟩ := hv4
      have HZ4 := Lib.hid (show N + 4 ≤ x234.heap.size from Nat.le_trans (Nat.le_trans hNA HX.out.size) hg.size)
      clear hO hO' hg hor hHd hne
      refine hK _ _ ?_
      clear hK K
      try simp only [Act.put, List.setIfInBounds_toArray, List.set_cons_zero, List.set_cons_succ]
      refine wpAnyIn_ready (rs := [5]) (by kernel_rfl) (by simp) ?_
      refine (AllReadyIn.cons (by simp only [List.getElem?_toArray, List.getElem?_cons_succ, List.getElem?_cons_zero]; exact rfl) (fun K hK => ?_) AllReadyIn.nil)
      go_simp
      refine hK _ _ ?_
      clear hK K
      try simp only [Act.put, List.setIfInBounds_toArray, List.set_cons_zero, List.set_cons_succ]
      refine wpAnyIn_done (by kernel_rfl) ?_ _
      refine ⟨HKO.out.trans (KeepsOthers.setCell _ _ _), (Below.heap_setCell _ _ _ _ (show N + 1 ≠ N by omega)).trans HBB.out, _, World.cell?_setCell_same _ _ _ hcx, by rw [World.frozen?_setCell]; exact hfx, ?_, HBW.out.setCell (show w.heap.size ≤ (⟨N, 0, none⟩ : Addr).block by rw [hN]; exact Nat.le_refl _) _, by have := HZ4.out; simp; omega⟩
      rw [List.map_append]
      exact HHD2.out.far (by omega)
    · go_simp
      refine hK _ _ ?_
      clear hK K
      try simp only [Act.put, List.setIfInBounds_toArray, List.set_cons_zero, List.set_cons_succ]
      refine wpAnyIn_ready (rs := [0, 2]) (by kernel_rfl) (by simp) ?_
      refine (AllReadyIn.cons (by simp only [List.getElem?_toArray, List.getElem?_cons_succ, List.getElem?_cons_zero]; exact rfl) (fun K hK => ?_) (AllReadyIn.cons (by simp only [List.getElem?_toArray, List.getElem?_cons_succ, List.getElem?_cons_zero]; exact rfl) (fun K hK => ?_) AllReadyIn.nil))
      · go_simp
        refine hK _ _ ?_
        clear hK K
        try simp only [Act.put, List.setIfInBounds_toArray, List.set_cons_zero, List.set_cons_succ]
        refine wpAnyIn_ready (rs := [2]) (by kernel_rfl) (by simp) ?_
        refine (AllReadyIn.cons (by simp only [List.getElem?_toArray, List.getElem?_cons_succ, List.getElem?_cons_zero]; exact rfl) (fun K hK => ?_) AllReadyIn.nil)
        go_simp
        refine ⟨trivial, (CallsIn.inRound L (callsIn_wide.2 (HCL.out _ HX.out))).mono ?_⟩
        rintro e x2 ⟨v2, rfl, hO2, hB2⟩
        obtain ⟨p2, c2, rfl, hs2, hp2, hc2⟩ := hO2.shape
        have hcx := (show x2.cell? ⟨N, 0, none⟩ = some v from by rw [hB2.cell (by exact World.block_lt_of_cell? x _ hcx)]; exact hcx)
        have hfx := (show x2.frozen? ⟨N, 0, none⟩ = false from by rw [hB2.frozen (by exact World.block_lt_of_cell? x _ hcy)]; exact hfx)
        have hcy := hcx
        have hO2 := hO2.lower (b2 := A.heap.size) HX.out.size
        have HX := Lib.hid (HX.out.trans (hB2.mono HX.out.size))
        have H2 := Lib.hid (And.intro hO2 (And.intro hs2 hp2))
        have HZ2 := Lib.hid hB2.size
        clear hO2 hB2 hs2 hp2 hc2
        refine hK _ _ ?_
        clear hK K
        try simp only [Act.put, List.setIfInBounds_toArray, List.set_cons_zero, List.set_cons_succ]
        refine wpAnyIn_ready (rs := [3]) (by kernel_rfl) (by simp) ?_
        refine (AllReadyIn.cons (by simp only [List.getElem?_toArray, List.getElem?_cons_succ, List.getElem?_cons_zero]; exact rfl) (fun K hK => ?_) AllReadyIn.nil)
        go_simp
        obtain ⟨x23, hy⟩ : ∃ y, (x2.alloc (.cells #[.slice p2 (blkL l i).length c2] 22)) = y := ⟨_, rfl⟩
        have hBa : Below x2.heap.size x2 x23 := by rw [← hy]; exact (Below.refl _ _).alloc (Nat.le_refl _) _
        have hcx := (show x23.cell? ⟨N, 0, none⟩ = some v from by rw [hBa.cell (by exact World.block_lt_of_cell? x2 _ hcx)]; exact hcx)
        have hfx := (show x23.frozen? ⟨N, 0, none⟩ = false from by rw [hBa.frozen (by exact World.block_lt_of_cell? x2 _ hcy)]; exact hfx)
        have hcy := hcx
        have HX := Lib.hid (HX.out.trans (hBa.mono HX.out.size))
        have HH := Lib.hid (show LsC x23 (some ⟨x2.heap.size, 0, none⟩) [.slice p2 (blkL l i).length c2] from by rw [← hy]; exact LsC.made _ [Value.slice p2 (blkL l i).length c2] _)
        have H2 := Lib.hid (And.intro (H2.out.1.of_below hBa) (And.intro (H2.out.2.1.of_below hBa) H2.out.2.2))
        refine hK _ _ ?_
        clear hK K
        rw [hy]
        clear hy hBa
        try simp only [Act.put, List.setIfInBounds_toArray, List.set_cons_zero, List.set_cons_succ]
        refine wpAnyIn_ready (rs := [4]) (by kernel_rfl) (by simp) ?_
        refine (AllReadyIn.cons (by simp only [List.getElem?_toArray, List.getElem?_cons_succ, List.getElem?_cons_zero]; exact rfl) (fun K hK => ?_) AllReadyIn.nil)
        have hO := own_below HOW.out HX.out
        refine stepIn_appendK elR x23 rfl (.tmp 10) (.tmp 13) rfl (N + 4) rfl hO _ 1 1 [.slice p2 (blkL l i).length c2] rfl rfl HH.out (fun h => by cases h) (fun u hu => by rw [List.mem_singleton] at hu; subst hu; rfl) (by rw [List.length_map]; omega) (Nat.le_trans hNA HX.out.size) ?_
        rintro v' x234 hO' hg hor
        have hHd := HHD.out x23 x234 v' p2 c2 HX.out H2.out.2.1 H2.out.2.2 (fun c o e => H2.out.1.lt c (by rw [e]; rfl)) hO' hg hor
        have hne : some N ≠ v.ownBlock := fun e => by have := (World.ownsRow.lt hO N e.symm).1; omega
        have hcx := (show x234.cell? ⟨N, 0, none⟩ = some v from hg.cell hcx hne)
        have hfx := (show x234.frozen? ⟨N, 0, none⟩ = false from by rw [World.frozen?_of_block (w := x23) (hg.block N (by exact World.block_lt_of_cell? x23 _ hcy) hne)]; exact hfx)
        have HBB := Lib.hid (show x234.heap[N + 1]? = A.heap[N + 1]? from by
          rw [hg.block (N + 1) (by have := HX.out.size; omega) (fun e => by have := (World.ownsRow.lt hO (N + 1) e.symm).1; omega)]
          exact HX.out.block _ (by omega))
        have HBW := Lib.hid (HBE.out.trans ((HX.out.mono (by omega)).grown hg (by have := HX.out.size; omega) (fun k hk => by have := (World.ownsRow.lt hO k hk).1; omega)))
        have HKO := Lib.hid ((others_belowP HX.out).trans (KeepsOthers.grown_own hO hg))
        have HHD2 := Lib.hid hHd
        have hv4 : ∃ p n c, v' = .slice p n c := by obtain ⟨p', c', e', -⟩ := own_shape hO'; exact ⟨_, _, _, e'⟩
        obtain ⟨p4, n4, c4, rfl⟩ := hv4
        have HZ4 := Lib.hid (show N + 4 ≤ x234.heap.size from Nat.le_trans (Nat.le_trans hNA HX.out.size) hg.size)
        clear hO hO' hg hor hHd hne
        refine hK _ _ ?_
        clear hK K
        try simp only [Act.put, List.setIfInBounds_toArray, List.set_cons_zero, List.set_cons_succ]
        refine wpAnyIn_ready (rs := [5]) (by kernel_rfl) (by simp) ?_
        refine (AllReadyIn.cons (by simp only [List.getElem?_toArray, List.getElem?_cons_succ, List.getElem?_cons_zero]; exact rfl) (fun K hK => ?_) AllReadyIn.nil)
        go_simp
        refine hK _ _ ?_
        clear hK K
        try simp only [Act.put, List.setIfInBounds_toArray, List.set_cons_zero, List.set_cons_succ]
        refine wpAnyIn_done (by kernel_rfl) ?_ _
        refine ⟨HKO.out.trans (KeepsOthers.setCell _ _ _), (Below.heap_setCell _ _ _ _ (show N + 1 ≠ N by omega)).trans HBB.out, _, World.cell?_setCell_same _ _ _ hcx, by rw [World.frozen?_setCell]; exact hfx, ?_, HBW.out.setCell (show w.heap.size ≤ (⟨N, 0, none⟩ : Addr).block by rw [hN]; exact Nat.le_refl _) _, by have := HZ4.out; simp; omega⟩
        rw [List.map_append]
        exact HHD2.out.far (by omega)
      · go_simp
        refine ⟨trivial, (CallsIn.inRound L (callsIn_wide.2 (HCL.out _ HX.out))).mono ?_⟩
        rintro e x2 ⟨v2, rfl, hO2, hB2⟩
        obtain ⟨p2, c2, rfl, hs2, hp2, hc2⟩ := hO2.shape
        have hcx := (show x2.cell? ⟨N, 0, none⟩ = some v from by rw [hB2.cell (by exact World.block_lt_of_cell? x _ hcx)]; exact hcx)
        have hfx := (show x2.frozen? ⟨N, 0, none⟩ = false from by rw [hB2.frozen (by exact World.block_lt_of_cell? x _ hcy)]; exact hfx)
        have hcy := hcx
        have hO2 := hO2.lower (b2 := A.heap.size) HX.out.size
        have HX := Lib.hid (HX.out.trans (hB2.mono HX.out.size))
        have H2 := Lib.hid (And.intro hO2 (And.intro hs2 hp2))
        have HZ2 := Lib.hid hB2.size
        clear hO2 hB2 hs2 hp2 hc2
        refine hK _ _ ?_
        clear hK K
        try simp only [Act.put, List.setIfInBounds_toArray, List.set_cons_zero, List.set_cons_succ]
        refine wpAnyIn_ready (rs := [0, 3]) (by kernel_rfl) (by simp) ?_
        refine (AllReadyIn.cons (by simp only [List.getElem?_toArray, List.getElem?_cons_succ, List.getElem?_cons_zero]; exact rfl) (fun K hK => ?_) (AllReadyIn.cons (by simp only [List.getElem?_toArray, List.getElem?_cons_succ, List.getElem?_cons_zero]; exact rfl) (fun K hK => ?_) AllReadyIn.nil))
        · go_simp
          refine hK _ _ ?_
          clear hK K
          try simp only [Act.put, List.setIfInBounds_toArray, List.set_cons_zero, List.set_cons_succ]
          refine wpAnyIn_ready (rs := [3]) (by kernel_rfl) (by simp) ?_
          refine (AllReadyIn.cons (by simp only [List.getElem?_toArray, List.getElem?_cons_succ, List.getElem?_cons_zero]; exact rfl) (fun K hK => ?_) AllReadyIn.nil)
          go_simp
          obtain ⟨x23, hy⟩ : ∃ y, (x2.alloc (.cells #[.slice p2 (blkL l i).length c2] 22)) = y := ⟨_, rfl⟩
          have hBa : Below x2.heap.size x2 x23 := by rw [← hy]; exact (Below.refl _ _).alloc (Nat.le_refl _) _
          have hcx := (show x23.cell? ⟨N, 0, none⟩ = some v from by rw [hBa.cell (by exact World.block_lt_of_cell? x2 _ hcx)]; exact hcx)
          have hfx := (show x23.frozen? ⟨N, 0, none⟩ = false from by rw [hBa.frozen (by exact World.block_lt_of_cell? x2 _ hcy)]; exact hfx)
          have hcy := hcx
          have HX := Lib.hid (HX.out.trans (hBa.mono HX.out.size))
          have HH := Lib.hid (show LsC x23 (some ⟨x2.heap.size, 0, none⟩) [.slice p2 (blkL l i).length c2] from by rw [← hy]; exact LsC.made _ [Value.slice p2 (blkL l i).length c2] _)
          have H2 := Lib.hid (And.intro (H2.out.1.of_below hBa) (And.intro (H2.out.2.1.of_below hBa) H2.out.2.2))
          refine hK _ _ ?_
          clear hK K
          rw [hy]
          clear hy hBa
          try simp only [Act.put, List.setIfInBounds_toArray, List.set_cons_zero, List.set_cons_succ]
          refine wpAnyIn_ready (rs := [4]) (by kernel_rfl) (by simp) ?_
          refine (AllReadyIn.cons (by simp only [List.getElem?_toArray, List.getElem?_cons_succ, List.getElem?_cons_zero]; exact rfl) (fun K hK => ?_) AllReadyIn.nil)
          have hO := own_below HOW.out HX.out
          refine stepIn_appendK elR x23 rfl (.tmp 10) (.tmp 13) rfl (N + 4) rfl hO _ 1 1 [.slice p2 (blkL l i).length c2] rfl rfl HH.out (fun h => by cases h) (fun u hu => by rw [List.mem_singleton] at hu; subst hu; rfl) (by rw [List.length_map]; omega) (Nat.le_trans hNA HX.out.size) ?_
          rintro v' x234 hO' hg hor
          have hHd := HHD.out x23 x234 v' p2 c2 HX.out H2.out.2.1 H2.out.2.2 (fun c o e => H2.out.1.lt c (by rw [e]; rfl)) hO' hg hor
          have hne : some N ≠ v.ownBlock := fun e => by have := (World.ownsRow.lt hO N e.symm).1; omega
          have hcx := (show x234.cell? ⟨N, 0, none⟩ = some v from hg.cell hcx hne)
          have hfx := (show x234.frozen? ⟨N, 0, none⟩ = false from by rw [World.frozen?_of_block (w := x23) (hg.block N (by exact World.block_lt_of_cell? x23 _ hcy) hne)]; exact hfx)
          have HBB := Lib.hid (show x234.heap[N + 1]? = A.heap[N + 1]? from by
            rw [hg.block (N + 1) (by have := HX.out.size; omega) (fun e => by have := (World.ownsRow.lt hO (N + 1) e.symm).1; omega)]
            exact HX.out.block _ (by omega))
          have HBW := Lib.hid (HBE.out.trans ((HX.out.mono (by omega)).grown hg (by have := HX.out.size; omega) (fun k hk => by have := (World.ownsRow.lt hO k hk).1; omega)))
          have HKO := Lib.hid ((others_belowP HX.out).trans (KeepsOthers.grown_own hO hg))
          have HHD2 := Lib.hid hHd
          have hv4 : ∃ p n c, v' = .slice p n c := by obtain ⟨p', c', e', -⟩ := own_shape hO'; exact ⟨_, _, _, e'⟩
          obtain ⟨p4, n4, c4, rfl⟩ := hv4
          have HZ4 := Lib.hid (show N + 4 ≤ x234.heap.size from Nat.le_trans (Nat.le_trans hNA HX.out.size) hg.size)
          clear hO hO' hg hor hHd hne
          refine hK _ _ ?_
          clear hK K
          try simp only [Act.put, List.setIfInBounds_toArray, List.set_cons_zero, List.set_cons_succ]
          refine wpAnyIn_ready (rs := [5]) (by kernel_rfl) (by simp) ?_
          refine (AllReadyIn.cons (by simp only [List.getElem?_toArray, List.getElem?_cons_succ, List.getElem?_cons_zero]; exact rfl) (fun K hK => ?_) AllReadyIn.nil)
          go_simp
          refine hK _ _ ?_
          clear hK K
          try simp only [Act.put, List.setIfInBounds_toArray, List.set_cons_zero, List.set_cons_succ]
          refine wpAnyIn_done (by kernel_rfl) ?_ _
          refine ⟨HKO.out.trans (KeepsOthers.setCell _ _ _), (Below.heap_setCell _ _ _ _ (show N + 1 ≠ N by omega)).trans HBB.out, _, World.cell?_setCell_same _ _ _ hcx, by rw [World.frozen?_setCell]; exact hfx, ?_, HBW.out.setCell (show w.heap.size ≤ (⟨N, 0, none⟩ : Addr).block by rw [hN]; exact Nat.le_refl _) _, by have := HZ4.out; simp; omega⟩
          rw [List.map_append]
          exact HHD2.out.far (by omega)
        · go_simp
          obtain ⟨x23, hy⟩ : ∃ y, (x2.alloc (.cells #[.slice p2 (blkL l i).length c2] 22)) = y := ⟨_, rfl⟩
          have hBa : Below x2.heap.size x2 x23 := by rw [← hy]; exact (Below.refl _ _).alloc (Nat.le_refl _) _
          have hcx := (show x23.cell? ⟨N, 0, none⟩ = some v from by rw [hBa.cell (by exact World.block_lt_of_cell? x2 _ hcx)]; exact hcx)
          have hfx := (show x23.frozen? ⟨N, 0, none⟩ = false from by rw [hBa.frozen (by exact World.block_lt_of_cell? x2 _ hcy)]; exact hfx)
          have hcy := hcx
          have HX := Lib.hid (HX.out.trans (hBa.mono HX.out.size))
          have HH := Lib.hid (show LsC x23 (some ⟨x2.heap.size, 0, none⟩) [.slice p2 (blkL l i).length c2] from by rw [← hy]; exact LsC.made _ [Value.slice p2 (blkL l i).length c2] _)
          have H2 := Lib.hid (And.intro (H2.out.1.of_below hBa) (And.intro (H2.out.2.1.of_below hBa) H2.out.2.2))
          refine hK _ _ ?_
          clear hK K
          rw [hy]
          clear hy hBa
          try simp only [Act.put, List.setIfInBounds_toArray, List.set_cons_zero, List.set_cons_succ]
          refine wpAnyIn_ready (rs := [0]) (by kernel_rfl) (by simp) ?_
          refine (AllReadyIn.cons (by simp only [List.getElem?_toArray, List.getElem?_cons_succ, List.getElem?_cons_zero]; exact rfl) (fun K hK => ?_) AllReadyIn.nil)
          go_simp
          refine hK _ _ ?_
          clear hK K
          try simp only [Act.put, List.setIfInBounds_toArray, List.set_cons_zero, List.set_cons_succ]
          refine wpAnyIn_ready (rs := [4]) (by kernel_rfl) (by simp) ?_
          refine (AllReadyIn.cons (by simp only [List.getElem?_toArray, List.getElem?_cons_succ, List.getElem?_cons_zero]; exact rfl) (fun K hK => ?_) AllReadyIn.nil)
          have hO := own_below HOW.out HX.out
          refine stepIn_appendK elR x23 rfl (.tmp 10) (.tmp 13) rfl (N + 4) rfl hO _ 1 1 [.slice p2 (blkL l i).length c2] rfl rfl HH.out (fun h => by cases h) (fun u hu => by rw [List.mem_singleton] at hu; subst hu; rfl) (by rw [List.length_map]; omega) (Nat.le_trans hNA HX.out.size) ?_
          rintro v' x234 hO' hg hor
          have hHd := HHD.out x23 x234 v' p2 c2 HX.out H2.out.2.1 H2.out.2.2 (fun c o e => H2.out.1.lt c (by rw [e]; rfl)) hO' hg hor
          have hne : some N ≠ v.ownBlock := fun e => by have := (World.ownsRow.lt hO N e.symm).1; omega
          have hcx := (show x234.cell? ⟨N, 0, none⟩ = some v from hg.cell hcx hne)
          have hfx := (show x234.frozen? ⟨N, 0, none⟩ = false from by rw [World.frozen?_of_block (w := x23) (hg.block N (by exact World.block_lt_of_cell? x23 _ hcy) hne)]; exact hfx)
          have HBB := Lib.hid (show x234.heap[N + 1]? = A.heap[N + 1]? from by
            rw [hg.block (N + 1) (by have := HX.out.size; omega) (fun e => by have := (World.ownsRow.lt hO (N + 1) e.symm).1; omega)]
            exact HX.out.block _ (by omega))
          have HBW := Lib.hid (HBE.out.trans ((HX.out.mono (by omega)).grown hg (by have := HX.out.size; omega) (fun k hk => by have := (World.ownsRow.lt hO k hk).1; omega)))
          have HKO := Lib.hid ((others_belowP HX.out).trans (KeepsOthers.grown_own hO hg))
          have HHD2 := Lib.hid hHd
          have hv4 : ∃ p n c, v' = .slice p n c := by obtain ⟨p', c', e', -⟩ := own_shape hO'; exact ⟨_, _, _, e'⟩
          obtain ⟨p4, n4, c4, rfl⟩ := hv4
          have HZ4 := Lib.hid (show N + 4 ≤ x234.heap.size from Nat.le_trans (Nat.le_trans hNA HX.out.size) hg.size)
          clear hO hO' hg hor hHd hne
          refine hK _ _ ?_
          clear hK K
          try simp only [Act.put, List.setIfInBounds_toArray, List.set_cons_zero, List.set_cons_succ]
          refine wpAnyIn_ready (rs := [5]) (by kernel_rfl) (by simp) ?_
          refine (AllReadyIn.cons (by simp only [List.getElem?_toArray, List.getElem?_cons_succ, List.getElem?_cons_zero]; exact rfl) (fun K hK => ?_) AllReadyIn.nil)
          go_simp
          refine hK _ _ ?_
          clear hK K
          try simp only [Act.put, List.setIfInBounds_toArray, List.set_cons_zero, List.set_cons_succ]
          refine wpAnyIn_done (by kernel_rfl) ?_ _
          refine ⟨HKO.out.trans (KeepsOthers.setCell _ _ _), (Below.heap_setCell _ _ _ _ (show N + 1 ≠ N by omega)).trans HBB.out, _, World.cell?_setCell_same _ _ _ hcx, by rw [World.frozen?_setCell]; exact hfx, ?_, HBW.out.setCell (show w.heap.size ≤ (⟨N, 0, none⟩ : Addr).block by rw [hN]; exact Nat.le_refl _) _, by have := HZ4.out; simp; omega⟩
          rw [List.map_append]
          exact HHD2.out.far (by omega)
  case done =>
    rintro D A hD hinv hK
    obtain ⟨v, hcx, hfx, hHd, hBE, -⟩ := hinv
    have HD := Lib.hid hHd
    have HBE := Lib.hid hBE
    clear hHd hBE hfx inv0
    gi_wp2
    refine ⟨by simp, .inl ⟨_, _, rfl, run_takeDeferred hK, ?_⟩⟩
    have hDl := (Array.getElem?_eq_some_iff.1 hK).1
    refine ⟨v, ?_, v, rfl, (HD.out.put hDl (by omega)).lower (by omega), HBE.out.trans (below_putP _ (by omega) hDl)⟩
    simp [results, Try.f13, go_sem]
  case stop =>
    rintro D pre A hD hpre hF hK
    exact hF.elim
end Go.Proofs.Ytjpennbmphhipaa
