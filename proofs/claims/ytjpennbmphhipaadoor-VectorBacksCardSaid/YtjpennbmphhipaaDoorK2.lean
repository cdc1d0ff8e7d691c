/- Merged texts: Txt9, Bys9, Rtk9, Tke9. -/
import Derived.Lib.AppendIntMem
import Derived.Deep.RegionHeld3
import Derived.Test.YtjpennbmphhipaaDoorK1
import Derived.Test.YtjpennbmphhipaaDoorRefW7
import Derived.Test.YtjpennbmphhipaaDoorItoP7
import Derived.Test.YtjpennbmphhipaaDoorAwk9
import Derived.Test.YtjpennbmphhipaaDoorRef6
import Derived.Test.YtjpennbmphhipaaDoorAppL6
import Derived.Test.YtjpennbmphhipaaDoorTak9
set_option linter.unusedSimpArgs false
set_option linter.unusedVariables false
/- Text of a vector: of the program and of the reference. -/
set_option maxRecDepth 100000
namespace Go.Proofs.YtjpennbmphhipaaDoor
open Go Go.RowKit Go.Shelf

attribute [local go_sem] Oper.semAt_some
/-- The library's table of powers of ten holds what its initialiser lays. -/
def Pow9 (w : World) : Prop := Lib.TabIs Tryd.prog w "internal/strconv.uint64pow10" .u64 Lib.pow10Tab
theorem Pow9.on {w u : World} (h : Pow9 w) (hB : Below w.heap.size w u) : Pow9 u := (Lib.tabBelow_of_tabIs h) u hB
theorem decL_dec9 : ∀ n, decL n = Lib.decDigits n := by
  intro n
  induction n using Nat.strongRecOn with
  | ind n ih =>
    rw [Lib.decDigits]
    by_cases h : n < 10
    · rw [decL_lo h, dif_pos h]
    · rw [decL_hi h, dif_neg h, cat_eq, ih (n / 10) (by omega)]
theorem below_more9 (w : World) (k : Nat) (os : Array Obj) : Below w.heap.size w (Go.Sort.grow (w.drewN k) os) := by
  refine ⟨rfl, rfl, rfl, ?_, fun i hi => ?_⟩
  · show w.heap.size ≤ (w.heap ++ os).size
    rw [Array.size_append]; omega
  · show (w.heap ++ os)[i]? = w.heap[i]?
    rw [Array.getElem?_append_left hi]
theorem itoa9 (m : Nat) (h : m ≤ 1099511627776) (w : World) (hP : Pow9 w) : Calls Tryd.prog 41 #[.int .i64 (m : Int)] w fun e w' => e = .returned (.string (mkS (decL m))) ∧ Below w.heap.size w w' := by
  refine (Tryd.strconv_Itoa (m : Int) (by omega) (by omega) w hP).mono ?_
  rintro e w' ⟨rfl, k, os, rfl⟩
  refine ⟨?_, below_more9 w k os⟩
  have : Lib.itoa (m : Int) = decL m := by unfold Lib.itoa; rw [if_neg (by omega), Int.toNat_natCast, decL_dec9]
  rw [this, mkS_lit]
theorem decL_len10 (k : Nat) : ∀ n, n < 10 ^ (k + 1) → (decL n).length ≤ k + 1 := by
  induction k with
  | zero => intro n h; rw [decL_lo (by simpa using h)]; simp
  | succ k ih =>
    intro n h
    by_cases h10 : n < 10
    · rw [decL_lo h10]; simp
    · rw [decL_hi h10, cat_len]
      have := ih (n / 10) (by rw [Nat.pow_succ] at h; omega)
      simp; omega
theorem decL_len13 {n : Nat} (h : n ≤ 1099511627776) : (decL n).length ≤ 13 := decL_len10 12 n (by show n < 10000000000000; omega)
theorem decL_ne (n : Nat) : decL n ≠ [] := by
  by_cases h : n < 10
  · rw [decL_lo h]; simp
  · rw [decL_hi h, cat_eq]; simp
/-- A replica and its number. -/
def partL (f : Nat → Int) (i : Nat) : S8 := cat (cat (decL i) [58]) (decL (f i).toNat)
theorem partL_ne (f : Nat → Int) (i : Nat) : partL f i ≠ [] := by unfold partL; rw [cat_eq, cat_eq]; simp
theorem partL_len {f : Nat → Int} (h : ∀ i, i < 16 → 0 ≤ f i ∧ f i ≤ 1099511627776) {i : Nat} (hi : i < 16) : (partL f i).length ≤ 30 := by
  have h1 := decL_len13 (n := i) (by omega)
  have h2 := decL_len13 (n := (f i).toNat) (by have := h i hi; omega)
  unfold partL
  rw [cat_len, cat_len]
  simp; omega
theorem sum_parts {f : Nat → Int} (h : ∀ i, i < 16 → 0 ≤ f i ∧ f i ≤ 1099511627776) : ∀ l : List Nat, (∀ i ∈ l, i < 16) → sumL (l.map (partL f)) ≤ 30 * l.length
  | [], _ => Nat.le_refl _
  | i :: r, hl => by
    have := sum_parts h r (fun j hj => hl j (List.mem_cons_of_mem _ hj))
    have h2 := partL_len h (hl i (List.mem_cons_self ..))
    show (partL f i).length + sumL (r.map (partL f)) ≤ 30 * (r.length + 1)
    omega
/-- What the walk of Text carries. -/
def InvT (w : World) (n : Nat) (f : Nat → Int) (pre : List Nat) (A : World) : Prop :=
  ∃ v, A.cell? ⟨n + 1, 0, none⟩ = some v ∧ A.frozen? ⟨n + 1, 0, none⟩ = false ∧ A.ownsRow (n + 1 + 1 + 1 + 1 + 1) 9 1 v pre.length (strC (pre.map (partL f))) ∧ Below n w A
theorem InvT.of_below {w : World} {n : Nat} {f : Nat → Int} {pre : List Nat} {A A' : World} (h : InvT w n f pre A) (hw : w.heap.size = n) (hB : Below A.heap.size A A') : InvT w n f pre A' := by
  obtain ⟨v, h1, h2, h3, h4⟩ := h
  have hlt := World.block_lt_of_cell? A _ h1
  exact ⟨v, by rw [hB.cell (by exact hlt)]; exact h1, by rw [hB.frozen (by exact hlt)]; exact h2, own_below h3 hB, h4.trans (hB.mono (by have := h4.size; omega))⟩
theorem InvT.bears (w : World) (n : Nat) (f : Nat → Int) (hw : w.heap.size = n) : BearsP (n + 1 + 1 + 1) (InvT w n f) :=
  ⟨fun pre A o h => h.of_below hw (below_newZ _ _),
   fun pre A o hlt h => by
    obtain ⟨v, h1, h2, h3, h4⟩ := h
    have hB := below_putP (N := n + 1 + 1 + 1 + 1) o (Nat.le_refl _) hlt
    exact ⟨v, by rw [hB.cell (by show n + 1 < _; omega)]; exact h1, by rw [hB.frozen (by show n + 1 < _; omega)]; exact h2, own_keep h3 (fun g hg => World.putObj_heap_other (by have := (h3.lt g hg).1; omega)), h4.trans (hB.mono (by omega))⟩,
   fun pre A k h => h.of_below hw ((show Dr A (A.drewN k) from ⟨k, rfl⟩).below _)⟩
attribute [local go_sem ↓] exec_boxV exec_loadV exec_boxA
attribute [local go_sem] boxV boxA
set_option maxRecDepth 100000 in
set_option maxHeartbeats 4000000 in
theorem text9_any (f : Nat → Int) (hf : ∀ i, i < 16 → 0 ≤ f i ∧ f i ≤ 1099511627776) (w : World) (hP : Pow9 w) :
    Calls Tryd.prog 14 #[vcV f] w fun e w' => e = .returned (.string (mkS (joinL ((nzV f 16).map (partL f))))) ∧ Below w.heap.size w w' := by
  refine (callsIn_wide (n := 7)).1 ?_
  refine callsIn_of_wp_marks Tryd.func14 rfl trivial ?_ rfl
  simp only [Tryd.ntmps14, List.size_toArray, List.length_cons, List.length_nil, Nat.reduceAdd, Nat.reduceSub, Array.replicate_succ, Array.replicate_zero, List.push_toArray, List.append_toArray, List.nil_append, List.cons_append]
  obtain ⟨n, hn⟩ : ∃ n, w.heap.size = n := ⟨_, rfl⟩
  obtain ⟨W1, hW1⟩ : ∃ W1, w.alloc (.cells (tab 16 (vf f)) 28) = W1 := ⟨_, rfl⟩
  obtain ⟨W2, hW2⟩ : ∃ W2, W1.alloc (.cells #[.slice none 0 0] 79) = W2 := ⟨_, rfl⟩
  obtain ⟨W3, hW3⟩ : ∃ W3, W2.alloc (.cells (tab 16 (vf f)) 28) = W3 := ⟨_, rfl⟩
  have s1 : W1.heap.size = n + 1 := by rw [← hW1]; simp [hn]
  have s2 : W2.heap.size = n + 1 + 1 := by rw [← hW2]; simp [s1]
  have s3 : W3.heap.size = n + 1 + 1 + 1 := by rw [← hW3]; simp [s2]
  have b1 : Below w.heap.size w W1 := by rw [← hW1]; exact below_newZ _ _
  have b2 : Below W1.heap.size W1 W2 := by rw [← hW2]; exact below_newZ _ _
  have b3 : Below W2.heap.size W2 W3 := by rw [← hW3]; exact below_newZ _ _
  have r2 : Row W2 n 28 16 (vf f) := (show Row W1 n 28 16 (vf f) from by rw [← hW1, ← hn]; exact Row.new _ _ _ _).of_below b2
  obtain ⟨c2, f2⟩ := new_cZ W1 (.slice none 0 0) 79
  rw [hW2, s1] at c2 f2
  have hInv0 : InvT w n f [] W3 := (show InvT w n f [] W2 from ⟨_, c2, f2, ⟨rfl, .inl ⟨rfl, rfl⟩⟩, by rw [← hn]; exact b1.trans (b2.mono b1.size)⟩).of_below hn b3
  have r3 : Row W3 (n + 1 + 1) 28 16 (vf f) := by rw [← hW3, ← s2]; exact Row.new _ _ _ _
  have HSQ := Lib.hid (nonzero_seq 6 (by decide) (n + 1 + 1) f W3 r3)
  have HI0 := Lib.hid hInv0
  have l1 : (ldT 28 (.pointer (some ⟨w.heap.size, 0, none⟩))).run Tryd.prog ((w.alloc (.cells (tab 16 (vf f)) 28)).alloc (.cells #[.slice none 0 0] 79)) = .ok (.value (vcV f)) ((w.alloc (.cells (tab 16 (vf f)) 28)).alloc (.cells #[.slice none 0 0] 79)) := by
    rw [hW1, hW2, hn]
    exact loadVT vtV (VecAt.of_row r2 (Nat.le_refl _))
  have HF := Lib.hid hf
  have HPW := Lib.hid hP
  clear hf hP r2 c2 f2 hInv0 r3 b1 b2 b3
  have HEQ := Lib.hid (And.intro hW1 (And.intro hW2 hW3))
  have HS := Lib.hid (And.intro s1 (And.intro s2 s3))
  have HN := Lib.hid hn
  clear hW1 hW2 hW3 s1 s2 s3 hn
  gi_wp2_with (refine ⟨trivial, ?_⟩; gi_at_call 34; refine (callsIn_wide.2 (nonzero_any f _)).mono ?_; rintro e w' ⟨rfl, rfl⟩)
  clear l1
  rw [HEQ.out.1, HEQ.out.2.1, HEQ.out.2.2]
  try rw [HS.out.2.1]
  try rw [HS.out.1]
  try rw [HN.out]
  have s3 := HS.out.2.2
  have hn := HN.out
  refine range_pure (m := 7) (by decide) (gf := 60) (lb := #[.pointer (some ⟨n + 1 + 1, 0, none⟩)]) (by rfl) (enters_of Tryd.func60 (by kernel_rfl) rfl)
    (encs := fun i : Nat => #[.int .i64 (i : Int), .int .i64 (f i)]) (fun _ => rfl) (b := n + 1 + 1) (by omega) HSQ.out
    (InvT w n f) (fun _ _ => False) (by rw [s3]; exact InvT.bears w n f hn) (fun _ _ _ _ h => h) HI0.out
    (fun i => { tmps := #[vcV f, .pointer (some ⟨n, 0, none⟩), .string ⟨#[]⟩, .pointer (some ⟨n + 1, 0, none⟩), .int .i64 (i : Int), .int .i64 (f i), vcV f, .func (.func 60) #[] #[.pointer (some ⟨n + 1 + 1, 0, none⟩)], .int .i64 (i : Int), .int .i64 (f i), undef, undef, undef, undef, undef, undef, undef, undef, undef, undef, undef], defers := [] }) ?assign ?body ?done ?stop
  case assign =>
    intro L x A K hK
    gi_wp2
    exact hK
  case body =>
    rintro L pre i A hpx hNA ⟨v, hcx, hfx, hOW, hBE⟩
    rw [s3] at hNA
    have hmem : i ∈ nzV f 16 := hpx.subset (List.mem_append_right _ (List.mem_singleton.2 rfl))
    obtain ⟨hi16, hfi⟩ := nzV_mem hmem
    have hlen : pre.length < 16 := by
      obtain ⟨t, e⟩ := hpx
      have h1 := congrArg List.length e
      rw [nzV_len] at h1
      have h2 := cntV_le f 16
      simp only [List.length_append, List.length_cons, List.length_nil] at h1
      omega
    have hfb := HF.out i hi16
    obtain ⟨m, hm⟩ : ∃ m : Nat, f i = (m : Int) := ⟨(f i).toNat, by omega⟩
    have hm40 : m ≤ 1099511627776 := by omega
    have HPT := Lib.hid (show cat (cat (decL i) [58]) (decL m) = partL f i from by unfold partL; rw [hm, Int.toNat_natCast])
    have hBE' : Below w.heap.size w A := by rw [hn]; exact hBE
    have hPA := HPW.out.on hBE'
    have HI1 := Lib.hid (fun (u : World) (hu : Below A.heap.size A u) => itoa9 i (by omega) u (hPA.on hu))
    have HI2 := Lib.hid (fun (u : World) (hu : Below A.heap.size A u) => itoa9 m hm40 u (hPA.on hu))
    have hd1 := decL_len13 (n := i) (by omega)
    have hd2 := decL_len13 hm40
    have ha1 : ∀ u : World, (Op.stringOp .add (mkS (decL i)) ⟨#[58]⟩).run Tryd.prog u = .ok (.string (mkS (cat (decL i) [58]))) u := fun u => add_SL (decL i) [58] u (fit (by simp; omega))
    have ha2 : ∀ u : World, (Op.stringOp .add (mkS (cat (decL i) [58])) (mkS (decL m))).run Tryd.prog u = .ok (.string (mkS (cat (cat (decL i) [58]) (decL m)))) u := fun u => add_S _ _ u (fit (by rw [cat_len]; simp; omega))
    have HOW := Lib.hid hOW
    have HBE := Lib.hid hBE
    have hNA : n + 1 + 1 + 1 + 1 + 1 ≤ A.heap.size := hNA
    have HX := Lib.hid (show Below A.heap.size A A.drew from (Below.refl _ _).drew)
    have hcx : A.drew.cell? ⟨n + 1, 0, none⟩ = some v := hcx
    have hfx : A.drew.frozen? ⟨n + 1, 0, none⟩ = false := hfx
    have hcy := hcx
    clear hOW hBE hBE' hPA hpx hmem hfi hfb hd1 hd2 hn
    rw [hm]
    clear hm
    gi_wp2
    refine wpIn_region_round (by kernel_rfl) (by kernel_rfl) ?_
    generalize A.drew = x at *
    refine wpAnyIn_take (i := 1) (v := ?_) rfl (by simp only [List.getElem?_toArray, List.getElem?_cons_succ, List.getElem?_cons_zero]; exact rfl) (by kernel_rfl) (by kernel_rfl) (by kernel_rfl) (fun _ _ _ h => h) ⟨Or.inl ⟨by rfl, ?_⟩, fun _ => rfl⟩ ?_
    rotate_left 1
    · (intro w; go_simp; try with_reducible rfl)
    try simp only [Act.put, List.setIfInBounds_toArray, List.set_cons_zero, List.set_cons_succ]
    refine wpAnyIn_take (i := 4) (v := ?_) rfl (by simp only [List.getElem?_toArray, List.getElem?_cons_succ, List.getElem?_cons_zero]; exact rfl) (by kernel_rfl) (by kernel_rfl) (by kernel_rfl) (fun _ _ _ h => h) ⟨Or.inl ⟨by rfl, ?_⟩, fun _ => rfl⟩ ?_
    rotate_left 1
    · (intro w; go_simp; try with_reducible rfl)
    try simp only [Act.put, List.setIfInBounds_toArray, List.set_cons_zero, List.set_cons_succ]
    refine wpAnyIn_ready (rs := [0, 2]) (by kernel_rfl) (by simp) ?_
    refine (AllReadyIn.cons (by simp only [List.getElem?_toArray, List.getElem?_cons_succ, List.getElem?_cons_zero]; exact rfl) (fun K hK => ?_) (AllReadyIn.cons (by simp only [List.getElem?_toArray, List.getElem?_cons_succ, List.getElem?_cons_zero]; exact rfl) (fun K hK => ?_) AllReadyIn.nil))
    · go_simp
      refine hK _ _ ?_
      clear hK K
      try simp only [Act.put, List.setIfInBounds_toArray, List.set_cons_zero, List.set_cons_succ]
      refine wpAnyIn_ready (rs := [2]) (by kernel_rfl) (by simp) ?_
      refine (AllReadyIn.cons (by simp only [List.getElem?_toArray, List.getElem?_cons_succ, List.getElem?_cons_zero]; exact rfl) (fun K hK => ?_) AllReadyIn.nil)
      go_simp
      refine ⟨trivial, (callsIn_wide.2 (HI1.out _ HX.out)).mono ?_⟩
      rintro e x2 ⟨rfl, hB2⟩
      have hcx := (show x2.cell? ⟨n + 1, 0, none⟩ = some v from by rw [hB2.cell (by exact World.block_lt_of_cell? x _ hcx)]; exact hcx)
      have hfx := (show x2.frozen? ⟨n + 1, 0, none⟩ = false from by rw [hB2.frozen (by exact World.block_lt_of_cell? x _ hcy)]; exact hfx)
      have hcy := hcx
      have HX := Lib.hid (HX.out.trans (hB2.mono HX.out.size))
      clear hB2
      refine hK _ _ ?_
      clear hK K
      try simp only [Act.put, List.setIfInBounds_toArray, List.set_cons_zero, List.set_cons_succ]
      refine wpAnyIn_take (i := 3) (v := ?_) rfl (by simp only [List.getElem?_toArray, List.getElem?_cons_succ, List.getElem?_cons_zero]; exact rfl) (by kernel_rfl) (by kernel_rfl) (by kernel_rfl) (fun _ _ _ h => h) ⟨Or.inl ⟨by rfl, ?_⟩, fun _ => rfl⟩ ?_
      rotate_left 1
      · (intro w; go_simp; try with_reducible rfl)
      try simp only [Act.put, List.setIfInBounds_toArray, List.set_cons_zero, List.set_cons_succ]
      refine wpAnyIn_ready (rs := [5]) (by kernel_rfl) (by simp) ?_
      refine (AllReadyIn.cons (by simp only [List.getElem?_toArray, List.getElem?_cons_succ, List.getElem?_cons_zero]; exact rfl) (fun K hK => ?_) AllReadyIn.nil)
      go_simp
      refine ⟨trivial, (callsIn_wide.2 (HI2.out _ HX.out)).mono ?_⟩
      rintro e x25 ⟨rfl, hB5⟩
      have hcx := (show x25.cell? ⟨n + 1, 0, none⟩ = some v from by rw [hB5.cell (by exact World.block_lt_of_cell? x2 _ hcx)]; exact hcx)
      have hfx := (show x25.frozen? ⟨n + 1, 0, none⟩ = false from by rw [hB5.frozen (by exact World.block_lt_of_cell? x2 _ hcy)]; exact hfx)
      have hcy := hcx
      have HX := Lib.hid (HX.out.trans (hB5.mono HX.out.size))
      clear hB5
      refine hK _ _ ?_
      clear hK K
      try simp only [Act.put, List.setIfInBounds_toArray, List.set_cons_zero, List.set_cons_succ]
      refine wpAnyIn_take (i := 6) (v := ?_) rfl (by simp only [List.getElem?_toArray, List.getElem?_cons_succ, List.getElem?_cons_zero]; exact rfl) (by kernel_rfl) (by kernel_rfl) (by kernel_rfl) (fun _ _ _ h => h) ⟨Or.inl ⟨by rfl, ?_⟩, fun _ => rfl⟩ ?_
      rotate_left 1
      · (intro w; go_simp; try with_reducible rfl)
      try simp only [Act.put, List.setIfInBounds_toArray, List.set_cons_zero, List.set_cons_succ]
      refine wpAnyIn_ready (rs := [7]) (by kernel_rfl) (by simp) ?_
      refine (AllReadyIn.cons (by simp only [List.getElem?_toArray, List.getElem?_cons_succ, List.getElem?_cons_zero]; exact rfl) (fun K hK => ?_) AllReadyIn.nil)
      go_simp
      obtain ⟨x257, hy⟩ : ∃ y, (x25.alloc (.cells #[.string (mkS (cat (cat (decL i) [58]) (decL m)))] 9)) = y := ⟨_, rfl⟩
      have hBa : Below x25.heap.size x25 x257 := by rw [← hy]; exact below_newZ _ _
      have hcx := (show x257.cell? ⟨n + 1, 0, none⟩ = some v from by rw [hBa.cell (by exact World.block_lt_of_cell? x25 _ hcx)]; exact hcx)
      have hfx := (show x257.frozen? ⟨n + 1, 0, none⟩ = false from by rw [hBa.frozen (by exact World.block_lt_of_cell? x25 _ hcy)]; exact hfx)
      have hcy := hcx
      have HX := Lib.hid (HX.out.trans (hBa.mono HX.out.size))
      have HH := Lib.hid (show LsC x257 (some ⟨x25.heap.size, 0, none⟩) [.string (mkS (cat (cat (decL i) [58]) (decL m)))] from by rw [← hy]; exact LsC.made _ [Value.string (mkS (cat (cat (decL i) [58]) (decL m)))] _)
      refine hK _ _ ?_
      clear hK K
      rw [hy]
      clear hy hBa
      try simp only [Act.put, List.setIfInBounds_toArray, List.set_cons_zero, List.set_cons_succ]
      refine wpAnyIn_ready (rs := [8]) (by kernel_rfl) (by simp) ?_
      refine (AllReadyIn.cons (by simp only [List.getElem?_toArray, List.getElem?_cons_succ, List.getElem?_cons_zero]; exact rfl) (fun K hK => ?_) AllReadyIn.nil)
      have hO := own_below HOW.out HX.out
      refine stepIn_appendK elS x257 rfl (.tmp 10) (.tmp 17) rfl (n + 1 + 1 + 1 + 1 + 1) rfl hO _ 1 1 [.string (mkS (cat (cat (decL i) [58]) (decL m)))] rfl rfl HH.out (fun h => by cases h) (fun u hu => by rw [List.mem_singleton] at hu; subst hu; rfl) (by omega) (Nat.le_trans hNA HX.out.size) ?_
      rintro v' x2578 hO' hg hor
      have hne : some (n + 1) ≠ v.ownBlock := fun e => by have := (World.ownsRow.lt hO (n + 1) e.symm).1; omega
      have hcx := (show x2578.cell? ⟨n + 1, 0, none⟩ = some v from hg.cell hcx hne)
      have hfx := (show x2578.frozen? ⟨n + 1, 0, none⟩ = false from by rw [World.frozen?_of_block (w := x257) (hg.block (n + 1) (by exact World.block_lt_of_cell? x257 _ hcy) hne)]; exact hfx)
      have HBB := Lib.hid (show x2578.heap[n + 1 + 1]? = A.heap[n + 1 + 1]? from by
        rw [hg.block (n + 1 + 1) (by have := HX.out.size; omega) (fun e => by have := (World.ownsRow.lt hO (n + 1 + 1) e.symm).1; omega)]
        exact HX.out.block _ (by omega))
      have HBW := Lib.hid (HBE.out.trans ((HX.out.mono (by omega)).grown hg (by have := HX.out.size; omega) (fun k hk => by have := (World.ownsRow.lt hO k hk).1; omega)))
      have HKO := Lib.hid ((others_belowP HX.out).trans (KeepsOthers.grown_own hO hg))
      have HO2 := Lib.hid hO'
      have hv4 : ∃ p n c, v' = .slice p n c := by obtain ⟨p', c', e', -⟩ := own_shape hO'; exact ⟨_, _, _, e'⟩
      obtain ⟨p4, n4, c4, rfl⟩ := hv4
      clear hO hO' hg hor hne
      refine hK _ _ ?_
      clear hK K
      try simp only [Act.put, List.setIfInBounds_toArray, List.set_cons_zero, List.set_cons_succ]
      refine wpAnyIn_ready (rs := [9]) (by kernel_rfl) (by simp) ?_
      refine (AllReadyIn.cons (by simp only [List.getElem?_toArray, List.getElem?_cons_succ, List.getElem?_cons_zero]; exact rfl) (fun K hK => ?_) AllReadyIn.nil)
      go_simp
      refine hK _ _ ?_
      clear hK K
      try simp only [Act.put, List.setIfInBounds_toArray, List.set_cons_zero, List.set_cons_succ]
      refine wpAnyIn_done (by kernel_rfl) ?_ _
      refine ⟨HKO.out.trans (KeepsOthers.setCell _ _ _), (Below.heap_setCell _ _ _ _ (show n + 1 + 1 ≠ n + 1 by omega)).trans HBB.out, _, World.cell?_setCell_same _ _ _ hcx, by rw [World.frozen?_setCell]; exact hfx, ?_, HBW.out.setCell (show n ≤ (⟨n + 1, 0, none⟩ : Addr).block by show n ≤ n + 1; omega) _⟩
      rw [List.length_append, List.map_append]
      have e : strC ((pre.map (partL f)) ++ [i].map (partL f)) = strC (pre.map (partL f)) ++ [.string (mkS (cat (cat (decL i) [58]) (decL m)))] := by
        unfold strC
        rw [List.map_append]
        show _ ++ [Value.string (mkS (partL f i))] = _
        rw [HPT.out]
      rw [e]
      exact own_keep HO2.out (fun k hk => Below.heap_setCell _ _ _ _ (by show k ≠ n + 1; have := (World.ownsRow.lt HO2.out k hk).1; omega))
    · go_simp
      refine ⟨trivial, (callsIn_wide.2 (HI1.out _ HX.out)).mono ?_⟩
      rintro e x2 ⟨rfl, hB2⟩
      have hcx := (show x2.cell? ⟨n + 1, 0, none⟩ = some v from by rw [hB2.cell (by exact World.block_lt_of_cell? x _ hcx)]; exact hcx)
      have hfx := (show x2.frozen? ⟨n + 1, 0, none⟩ = false from by rw [hB2.frozen (by exact World.block_lt_of_cell? x _ hcy)]; exact hfx)
      have hcy := hcx
      have HX := Lib.hid (HX.out.trans (hB2.mono HX.out.size))
      clear hB2
      refine hK _ _ ?_
      clear hK K
      try simp only [Act.put, List.setIfInBounds_toArray, List.set_cons_zero, List.set_cons_succ]
      refine wpAnyIn_take (i := 3) (v := ?_) rfl (by simp only [List.getElem?_toArray, List.getElem?_cons_succ, List.getElem?_cons_zero]; exact rfl) (by kernel_rfl) (by kernel_rfl) (by kernel_rfl) (fun _ _ _ h => h) ⟨Or.inl ⟨by rfl, ?_⟩, fun _ => rfl⟩ ?_
      rotate_left 1
      · (intro w; go_simp; try with_reducible rfl)
      try simp only [Act.put, List.setIfInBounds_toArray, List.set_cons_zero, List.set_cons_succ]
      refine wpAnyIn_ready (rs := [0, 5]) (by kernel_rfl) (by simp) ?_
      refine (AllReadyIn.cons (by simp only [List.getElem?_toArray, List.getElem?_cons_succ, List.getElem?_cons_zero]; exact rfl) (fun K hK => ?_) (AllReadyIn.cons (by simp only [List.getElem?_toArray, List.getElem?_cons_succ, List.getElem?_cons_zero]; exact rfl) (fun K hK => ?_) AllReadyIn.nil))
      · go_simp
        refine hK _ _ ?_
        clear hK K
        try simp only [Act.put, List.setIfInBounds_toArray, List.set_cons_zero, List.set_cons_succ]
        refine wpAnyIn_ready (rs := [5]) (by kernel_rfl) (by simp) ?_
        refine (AllReadyIn.cons (by simp only [List.getElem?_toArray, List.getElem?_cons_succ, List.getElem?_cons_zero]; exact rfl) (fun K hK => ?_) AllReadyIn.nil)
        go_simp
        refine ⟨trivial, (callsIn_wide.2 (HI2.out _ HX.out)).mono ?_⟩
        rintro e x25 ⟨rfl, hB5⟩
        have hcx := (show x25.cell? ⟨n + 1, 0, none⟩ = some v from by rw [hB5.cell (by exact World.block_lt_of_cell? x2 _ hcx)]; exact hcx)
        have hfx := (show x25.frozen? ⟨n + 1, 0, none⟩ = false from by rw [hB5.frozen (by exact World.block_lt_of_cell? x2 _ hcy)]; exact hfx)
        have hcy := hcx
        have HX := Lib.hid (HX.out.trans (hB5.mono HX.out.size))
        clear hB5
        refine hK _ _ ?_
        clear hK K
        try simp only [Act.put, List.setIfInBounds_toArray, List.set_cons_zero, List.set_cons_succ]
        refine wpAnyIn_take (i := 6) (v := ?_) rfl (by simp only [List.getElem?_toArray, List.getElem?_cons_succ, List.getElem?_cons_zero]; exact rfl) (by kernel_rfl) (by kernel_rfl) (by kernel_rfl) (fun _ _ _ h => h) ⟨Or.inl ⟨by rfl, ?_⟩, fun _ => rfl⟩ ?_
        rotate_left 1
        · (intro w; go_simp; try with_reducible rfl)
        try simp only [Act.put, List.setIfInBounds_toArray, List.set_cons_zero, List.set_cons_succ]
        refine wpAnyIn_ready (rs := [7]) (by kernel_rfl) (by simp) ?_
        refine (AllReadyIn.cons (by simp only [List.getElem?_toArray, List.getElem?_cons_succ, List.getElem?_cons_zero]; exact rfl) (fun K hK => ?_) AllReadyIn.nil)
        go_simp
        obtain ⟨x257, hy⟩ : ∃ y, (x25.alloc (.cells #[.string (mkS (cat (cat (decL i) [58]) (decL m)))] 9)) = y := ⟨_, rfl⟩
        have hBa : Below x25.heap.size x25 x257 := by rw [← hy]; exact below_newZ _ _
        have hcx := (show x257.cell? ⟨n + 1, 0, none⟩ = some v from by rw [hBa.cell (by exact World.block_lt_of_cell? x25 _ hcx)]; exact hcx)
        have hfx := (show x257.frozen? ⟨n + 1, 0, none⟩ = false from by rw [hBa.frozen (by exact World.block_lt_of_cell? x25 _ hcy)]; exact hfx)
        have hcy := hcx
        have HX := Lib.hid (HX.out.trans (hBa.mono HX.out.size))
        have HH := Lib.hid (show LsC x257 (some ⟨x25.heap.size, 0, none⟩) [.string (mkS (cat (cat (decL i) [58]) (decL m)))] from by rw [← hy]; exact LsC.made _ [Value.string (mkS (cat (cat (decL i) [58]) (decL m)))] _)
        refine hK _ _ ?_
        clear hK K
        rw [hy]
        clear hy hBa
        try simp only [Act.put, List.setIfInBounds_toArray, List.set_cons_zero, List.set_cons_succ]
        refine wpAnyIn_ready (rs := [8]) (by kernel_rfl) (by simp) ?_
        refine (AllReadyIn.cons (by simp only [List.getElem?_toArray, List.getElem?_cons_succ, List.getElem?_cons_zero]; exact rfl) (fun K hK => ?_) AllReadyIn.nil)
        have hO := own_below HOW.out HX.out
        refine stepIn_appendK elS x257 rfl (.tmp 10) (.tmp 17) rfl (n + 1 + 1 + 1 + 1 + 1) rfl hO _ 1 1 [.string (mkS (cat (cat (decL i) [58]) (decL m)))] rfl rfl HH.out (fun h => by cases h) (fun u hu => by rw [List.mem_singleton] at hu; subst hu; rfl) (by omega) (Nat.le_trans hNA HX.out.size) ?_
        rintro v' x2578 hO' hg hor
        have hne : some (n + 1) ≠ v.ownBlock := fun e => by have := (World.ownsRow.lt hO (n + 1) e.symm).1; omega
        have hcx := (show x2578.cell? ⟨n + 1, 0, none⟩ = some v from hg.cell hcx hne)
        have hfx := (show x2578.frozen? ⟨n + 1, 0, none⟩ = false from by rw [World.frozen?_of_block (w := x257) (hg.block (n + 1) (by exact World.block_lt_of_cell? x257 _ hcy) hne)]; exact hfx)
        have HBB := Lib.hid (show x2578.heap[n + 1 + 1]? = A.heap[n + 1 + 1]? from by
          rw [hg.block (n + 1 + 1) (by have := HX.out.size; omega) (fun e => by have := (World.ownsRow.lt hO (n + 1 + 1) e.symm).1; omega)]
          exact HX.out.block _ (by omega))
        have HBW := Lib.hid (HBE.out.trans ((HX.out.mono (by omega)).grown hg (by have := HX.out.size; omega) (fun k hk => by have := (World.ownsRow.lt hO k hk).1; omega)))
        have HKO := Lib.hid ((others_belowP HX.out).trans (KeepsOthers.grown_own hO hg))
        have HO2 := Lib.hid hO'
        have hv4 : ∃ p n c, v' = .slice p n c := by obtain ⟨p', c', e', -⟩ := own_shape hO'; exact ⟨_, _, _, e'⟩
        obtain ⟨p4, n4, c4, rfl⟩ := hv4
        clear hO hO' hg hor hne
        refine hK _ _ ?_
        clear hK K
        try simp only [Act.put, List.setIfInBounds_toArray, List.set_cons_zero, List.set_cons_succ]
        refine wpAnyIn_ready (rs := [9]) (by kernel_rfl) (by simp) ?_
        refine (AllReadyIn.cons (by simp only [List.getElem?_toArray, List.getElem?_cons_succ, List.getElem?_cons_zero]; exact rfl) (fun K hK => ?_) AllReadyIn.nil)
        go_simp
        refine hK _ _ ?_
        clear hK K
        try simp only [Act.put, List.setIfInBounds_toArray, List.set_cons_zero, List.set_cons_succ]
        refine wpAnyIn_done (by kernel_rfl) ?_ _
        refine ⟨HKO.out.trans (KeepsOthers.setCell _ _ _), (Below.heap_setCell _ _ _ _ (show n + 1 + 1 ≠ n + 1 by omega)).trans HBB.out, _, World.cell?_setCell_same _ _ _ hcx, by rw [World.frozen?_setCell]; exact hfx, ?_, HBW.out.setCell (show n ≤ (⟨n + 1, 0, none⟩ : Addr).block by show n ≤ n + 1; omega) _⟩
        rw [List.length_append, List.map_append]
        have e : strC ((pre.map (partL f)) ++ [i].map (partL f)) = strC (pre.map (partL f)) ++ [.string (mkS (cat (cat (decL i) [58]) (decL m)))] := by
          unfold strC
          rw [List.map_append]
          show _ ++ [Value.string (mkS (partL f i))] = _
          rw [HPT.out]
        rw [e]
        exact own_keep HO2.out (fun k hk => Below.heap_setCell _ _ _ _ (by show k ≠ n + 1; have := (World.ownsRow.lt HO2.out k hk).1; omega))
      · go_simp
        refine ⟨trivial, (callsIn_wide.2 (HI2.out _ HX.out)).mono ?_⟩
        rintro e x25 ⟨rfl, hB5⟩
        have hcx := (show x25.cell? ⟨n + 1, 0, none⟩ = some v from by rw [hB5.cell (by exact World.block_lt_of_cell? x2 _ hcx)]; exact hcx)
        have hfx := (show x25.frozen? ⟨n + 1, 0, none⟩ = false from by rw [hB5.frozen (by exact World.block_lt_of_cell? x2 _ hcy)]; exact hfx)
        have hcy := hcx
        have HX := Lib.hid (HX.out.trans (hB5.mono HX.out.size))
        clear hB5
        refine hK _ _ ?_
        clear hK K
        try simp only [Act.put, List.setIfInBounds_toArray, List.set_cons_zero, List.set_cons_succ]
        refine wpAnyIn_take (i := 6) (v := ?_) rfl (by simp only [List.getElem?_toArray, List.getElem?_cons_succ, List.getElem?_cons_zero]; exact rfl) (by kernel_rfl) (by kernel_rfl) (by kernel_rfl) (fun _ _ _ h => h) ⟨Or.inl ⟨by rfl, ?_⟩, fun _ => rfl⟩ ?_
        rotate_left 1
        · (intro w; go_simp; try with_reducible rfl)
        try simp only [Act.put, List.setIfInBounds_toArray, List.set_cons_zero, List.set_cons_succ]
        refine wpAnyIn_ready (rs := [0, 7]) (by kernel_rfl) (by simp) ?_
        refine (AllReadyIn.cons (by simp only [List.getElem?_toArray, List.getElem?_cons_succ, List.getElem?_cons_zero]; exact rfl) (fun K hK => ?_) (AllReadyIn.cons (by simp only [List.getElem?_toArray, List.getElem?_cons_succ, List.getElem?_cons_zero]; exact rfl) (fun K hK => ?_) AllReadyIn.nil))
        · go_simp
          refine hK _ _ ?_
          clear hK K
          try simp only [Act.put, List.setIfInBounds_toArray, List.set_cons_zero, List.set_cons_succ]
          refine wpAnyIn_ready (rs := [7]) (by kernel_rfl) (by simp) ?_
          refine (AllReadyIn.cons (by simp only [List.getElem?_toArray, List.getElem?_cons_succ, List.getElem?_cons_zero]; exact rfl) (fun K hK => ?_) AllReadyIn.nil)
          go_simp
          obtain ⟨x257, hy⟩ : ∃ y, (x25.alloc (.cells #[.string (mkS (cat (cat (decL i) [58]) (decL m)))] 9)) = y := ⟨_, rfl⟩
          have hBa : Below x25.heap.size x25 x257 := by rw [← hy]; exact below_newZ _ _
          have hcx := (show x257.cell? ⟨n + 1, 0, none⟩ = some v from by rw [hBa.cell (by exact World.block_lt_of_cell? x25 _ hcx)]; exact hcx)
          have hfx := (show x257.frozen? ⟨n + 1, 0, none⟩ = false from by rw [hBa.frozen (by exact World.block_lt_of_cell? x25 _ hcy)]; exact hfx)
          have hcy := hcx
          have HX := Lib.hid (HX.out.trans (hBa.mono HX.out.size))
          have HH := Lib.hid (show LsC x257 (some ⟨x25.heap.size, 0, none⟩) [.string (mkS (cat (cat (decL i) [58]) (decL m)))] from by rw [← hy]; exact LsC.made _ [Value.string (mkS (cat (cat (decL i) [58]) (decL m)))] _)
          refine hK _ _ ?_
          clear hK K
          rw [hy]
          clear hy hBa
          try simp only [Act.put, List.setIfInBounds_toArray, List.set_cons_zero, List.set_cons_succ]
          refine wpAnyIn_ready (rs := [8]) (by kernel_rfl) (by simp) ?_
          refine (AllReadyIn.cons (by simp only [List.getElem?_toArray, List.getElem?_cons_succ, List.getElem?_cons_zero]; exact rfl) (fun K hK => ?_) AllReadyIn.nil)
          have hO := own_below HOW.out HX.out
          refine stepIn_appendK elS x257 rfl (.tmp 10) (.tmp 17) rfl (n + 1 + 1 + 1 + 1 + 1) rfl hO _ 1 1 [.string (mkS (cat (cat (decL i) [58]) (decL m)))] rfl rfl HH.out (fun h => by cases h) (fun u hu => by rw [List.mem_singleton] at hu; subst hu; rfl) (by omega) (Nat.le_trans hNA HX.out.size) ?_
          rintro v' x2578 hO' hg hor
          have hne : some (n + 1) ≠ v.ownBlock := fun e => by have := (World.ownsRow.lt hO (n + 1) e.symm).1; omega
          have hcx := (show x2578.cell? ⟨n + 1, 0, none⟩ = some v from hg.cell hcx hne)
          have hfx := (show x2578.frozen? ⟨n + 1, 0, none⟩ = false from by rw [World.frozen?_of_block (w := x257) (hg.block (n + 1) (by exact World.block_lt_of_cell? x257 _ hcy) hne)]; exact hfx)
          have HBB := Lib.hid (show x2578.heap[n + 1 + 1]? = A.heap[n + 1 + 1]? from by
            rw [hg.block (n + 1 + 1) (by have := HX.out.size; omega) (fun e => by have := (World.ownsRow.lt hO (n + 1 + 1) e.symm).1; omega)]
            exact HX.out.block _ (by omega))
          have HBW := Lib.hid (HBE.out.trans ((HX.out.mono (by omega)).grown hg (by have := HX.out.size; omega) (fun k hk => by have := (World.ownsRow.lt hO k hk).1; omega)))
          have HKO := Lib.hid ((others_belowP HX.out).trans (KeepsOthers.grown_own hO hg))
          have HO2 := Lib.hid hO'
          have hv4 : ∃ p n c, v' = .slice p n c := by obtain ⟨p', c', e', -⟩ := own_shape hO'; exact ⟨_, _, _, e'⟩
          obtain ⟨p4, n4, c4, rfl⟩ := hv4
          clear hO hO' hg hor hne
          refine hK _ _ ?_
          clear hK K
          try simp only [Act.put, List.setIfInBounds_toArray, List.set_cons_zero, List.set_cons_succ]
          refine wpAnyIn_ready (rs := [9]) (by kernel_rfl) (by simp) ?_
          refine (AllReadyIn.cons (by simp only [List.getElem?_toArray, List.getElem?_cons_succ, List.getElem?_cons_zero]; exact rfl) (fun K hK => ?_) AllReadyIn.nil)
          go_simp
          refine hK _ _ ?_
          clear hK K
          try simp only [Act.put, List.setIfInBounds_toArray, List.set_cons_zero, List.set_cons_succ]
          refine wpAnyIn_done (by kernel_rfl) ?_ _
          refine ⟨HKO.out.trans (KeepsOthers.setCell _ _ _), (Below.heap_setCell _ _ _ _ (show n + 1 + 1 ≠ n + 1 by omega)).trans HBB.out, _, World.cell?_setCell_same _ _ _ hcx, by rw [World.frozen?_setCell]; exact hfx, ?_, HBW.out.setCell (show n ≤ (⟨n + 1, 0, none⟩ : Addr).block by show n ≤ n + 1; omega) _⟩
          rw [List.length_append, List.map_append]
          have e : strC ((pre.map (partL f)) ++ [i].map (partL f)) = strC (pre.map (partL f)) ++ [.string (mkS (cat (cat (decL i) [58]) (decL m)))] := by
            unfold strC
            rw [List.map_append]
            show _ ++ [Value.string (mkS (partL f i))] = _
            rw [HPT.out]
          rw [e]
          exact own_keep HO2.out (fun k hk => Below.heap_setCell _ _ _ _ (by show k ≠ n + 1; have := (World.ownsRow.lt HO2.out k hk).1; omega))
        · go_simp
          obtain ⟨x257, hy⟩ : ∃ y, (x25.alloc (.cells #[.string (mkS (cat (cat (decL i) [58]) (decL m)))] 9)) = y := ⟨_, rfl⟩
          have hBa : Below x25.heap.size x25 x257 := by rw [← hy]; exact below_newZ _ _
          have hcx := (show x257.cell? ⟨n + 1, 0, none⟩ = some v from by rw [hBa.cell (by exact World.block_lt_of_cell? x25 _ hcx)]; exact hcx)
          have hfx := (show x257.frozen? ⟨n + 1, 0, none⟩ = false from by rw [hBa.frozen (by exact World.block_lt_of_cell? x25 _ hcy)]; exact hfx)
          have hcy := hcx
          have HX := Lib.hid (HX.out.trans (hBa.mono HX.out.size))
          have HH := Lib.hid (show LsC x257 (some ⟨x25.heap.size, 0, none⟩) [.string (mkS (cat (cat (decL i) [58]) (decL m)))] from by rw [← hy]; exact LsC.made _ [Value.string (mkS (cat (cat (decL i) [58]) (decL m)))] _)
          refine hK _ _ ?_
          clear hK K
          rw [hy]
          clear hy hBa
          try simp only [Act.put, List.setIfInBounds_toArray, List.set_cons_zero, List.set_cons_succ]
          refine wpAnyIn_ready (rs := [0]) (by kernel_rfl) (by simp) ?_
          refine (AllReadyIn.cons (by simp only [List.getElem?_toArray, List.getElem?_cons_succ, List.getElem?_cons_zero]; exact rfl) (fun K hK => ?_) AllReadyIn.nil)
          go_simp
          refine hK _ _ ?_
          clear hK K
          try simp only [Act.put, List.setIfInBounds_toArray, List.set_cons_zero, List.set_cons_succ]
          refine wpAnyIn_ready (rs := [8]) (by kernel_rfl) (by simp) ?_
          refine (AllReadyIn.cons (by simp only [List.getElem?_toArray, List.getElem?_cons_succ, List.getElem?_cons_zero]; exact rfl) (fun K hK => ?_) AllReadyIn.nil)
          have hO := own_below HOW.out HX.out
          refine stepIn_appendK elS x257 rfl (.tmp 10) (.tmp 17) rfl (n + 1 + 1 + 1 + 1 + 1) rfl hO _ 1 1 [.string (mkS (cat (cat (decL i) [58]) (decL m)))] rfl rfl HH.out (fun h => by cases h) (fun u hu => by rw [List.mem_singleton] at hu; subst hu; rfl) (by omega) (Nat.le_trans hNA HX.out.size) ?_
          rintro v' x2578 hO' hg hor
          have hne : some (n + 1) ≠ v.ownBlock := fun e => by have := (World.ownsRow.lt hO (n + 1) e.symm).1; omega
          have hcx := (show x2578.cell? ⟨n + 1, 0, none⟩ = some v from hg.cell hcx hne)
          have hfx := (show x2578.frozen? ⟨n + 1, 0, none⟩ = false from by rw [World.frozen?_of_block (w := x257) (hg.block (n + 1) (by exact World.block_lt_of_cell? x257 _ hcy) hne)]; exact hfx)
          have HBB := Lib.hid (show x2578.heap[n + 1 + 1]? = A.heap[n + 1 + 1]? from by
            rw [hg.block (n + 1 + 1) (by have := HX.out.size; omega) (fun e => by have := (World.ownsRow.lt hO (n + 1 + 1) e.symm).1; omega)]
            exact HX.out.block _ (by omega))
          have HBW := Lib.hid (HBE.out.trans ((HX.out.mono (by omega)).grown hg (by have := HX.out.size; omega) (fun k hk => by have := (World.ownsRow.lt hO k hk).1; omega)))
          have HKO := Lib.hid ((others_belowP HX.out).trans (KeepsOthers.grown_own hO hg))
          have HO2 := Lib.hid hO'
          have hv4 : ∃ p n c, v' = .slice p n c := by obtain ⟨p', c', e', -⟩ := own_shape hO'; exact ⟨_, _, _, e'⟩
          obtain ⟨p4, n4, c4, rfl⟩ := hv4
          clear hO hO' hg hor hne
          refine hK _ _ ?_
          clear hK K
          try simp only [Act.put, List.setIfInBounds_toArray, List.set_cons_zero, List.set_cons_succ]
          refine wpAnyIn_ready (rs := [9]) (by kernel_rfl) (by simp) ?_
          refine (AllReadyIn.cons (by simp only [List.getElem?_toArray, List.getElem?_cons_succ, List.getElem?_cons_zero]; exact rfl) (fun K hK => ?_) AllReadyIn.nil)
          go_simp
          refine hK _ _ ?_
          clear hK K
          try simp only [Act.put, List.setIfInBounds_toArray, List.set_cons_zero, List.set_cons_succ]
          refine wpAnyIn_done (by kernel_rfl) ?_ _
          refine ⟨HKO.out.trans (KeepsOthers.setCell _ _ _), (Below.heap_setCell _ _ _ _ (show n + 1 + 1 ≠ n + 1 by omega)).trans HBB.out, _, World.cell?_setCell_same _ _ _ hcx, by rw [World.frozen?_setCell]; exact hfx, ?_, HBW.out.setCell (show n ≤ (⟨n + 1, 0, none⟩ : Addr).block by show n ≤ n + 1; omega) _⟩
          rw [List.length_append, List.map_append]
          have e : strC ((pre.map (partL f)) ++ [i].map (partL f)) = strC (pre.map (partL f)) ++ [.string (mkS (cat (cat (decL i) [58]) (decL m)))] := by
            unfold strC
            rw [List.map_append]
            show _ ++ [Value.string (mkS (partL f i))] = _
            rw [HPT.out]
          rw [e]
          exact own_keep HO2.out (fun k hk => Below.heap_setCell _ _ _ _ (by show k ≠ n + 1; have := (World.ownsRow.lt HO2.out k hk).1; omega))
  case done =>
    rintro D A hD ⟨v, hcx, hfx, hOW, hBE⟩ hK
    rw [s3] at hD
    subst hD
    have hDl := (Array.getElem?_eq_some_iff.1 hK).1
    obtain ⟨p, cap, rfl, hls, hpn, hcap, -⟩ := own_shape hOW
    have hnl : (nzV f 16).length ≤ 16 := by rw [nzV_len]; exact cntV_le f 16
    have hsum := sum_parts HF.out (nzV f 16) (fun i hi => (nzV_mem hi).1)
    have HJ := Lib.hid (join_any ((nzV f 16).map (partL f)) p (nzV f 16).length cap A (List.length_map _) hls hcap (by omega) hnl)
    have HBE := Lib.hid hBE
    have HK := Lib.hid hK
    clear hOW hBE hls hpn hcap hK hfx hsum
    generalize (nzV f 16).length = q at *
    obtain ⟨T, hT⟩ : ∃ T, joinL ((nzV f 16).map (partL f)) = T := ⟨_, rfl⟩
    rw [hT] at HJ
    have HTT := Lib.hid hT
    clear hT
    gi_wp2_with (refine ⟨trivial, ?_⟩; gi_at_call 42; refine (callsIn_wide.2 HJ.out).mono ?_; rintro e w5 ⟨rfl, hB5⟩)
    have hK5 : w5.heap[n + 1 + 1 + 1]? = some (.deferred (some [])) := (hB5.block _ hDl).trans HK.out
    refine ⟨by simp, .inl ⟨_, _, rfl, run_takeDeferred hK5, ?_⟩⟩
    refine ⟨.string (mkS T), ?_, by rw [HTT.out], ?_⟩
    · simp [results, Tryd.f14, go_sem]
    · rw [hn]
      exact (HBE.out.trans (hB5.mono (by omega))).trans (below_putP _ (by omega) (Nat.lt_of_lt_of_le hDl hB5.size))
  case stop =>
    rintro D pre A hD hpre hF hK
    exact hF.elim
end Go.Proofs.YtjpennbmphhipaaDoor
/- Bytes of the reference: the encoding of a good vector. -/
set_option maxRecDepth 100000
namespace Go.Proofs.YtjpennbmphhipaaDoor
open Go Go.RowKit

attribute [local go_sem ↓] exec_boxA exec_loadA exec_indexA exec_allocA exec_storeA exec_buildA exec_eqlA exec_neqA exec_boxV exec_loadV exec_indexV exec_allocV exec_storeV exec_buildV exec_eqlV exec_neqV
attribute [local go_sem] boxA indexA storeNewA buildA eqlA neqA boxV indexV storeNewV buildV eqlV neqV
set_option maxRecDepth 100000 in
set_option maxHeartbeats 4000000 in
theorem refBytes9_any (f : Nat → Int) (hf : ∀ i, i < 16 → 0 ≤ f i ∧ f i ≤ 1099511627776) (w : World) : Calls Tryd.prog 13 #[vcV f] w (GivesB w (encV f)) := by
  have HST := Lib.hid (show Row (w.alloc (.cells (tab 16 (vf f)) 22)) w.heap.size 22 16 (vf f) ∧ Below w.heap.size w (w.alloc (.cells (tab 16 (vf f)) 22)) ∧ w.heap.size + 1 ≤ (w.alloc (.cells (tab 16 (vf f)) 22)).heap.size from ⟨Row.new w 22 16 (vf f), (Below.refl _ _).alloc (Nat.le_refl _) _, by rw [World.size_alloc]; exact Nat.le_refl _⟩)
  have HGF := Lib.hid hf
  clear hf
  go_enter Tryd.func13, Tryd.ntmps13
  go_wp2
  go_loopw [3, 4, 6] (fun sv sm si wr => ∃ i : Nat, i ≤ 16 ∧ sm = .int .i64 (cntV f i : Int) ∧ si = .int .i64 (i : Int) ∧ OwnB wr (w.heap.size + 1) sv (bodyV f i) ∧ Row wr w.heap.size 22 16 (vf f) ∧ Below w.heap.size w wr) (fun sv sm si _ => 16 - (intOf si).toNat)
  case atStart => exact ⟨0, Nat.zero_le _, rfl, rfl, ⟨rfl, .inl ⟨rfl, rfl⟩⟩, HST.out.1, HST.out.2.1⟩
  case round =>
    obtain ⟨i, hi, rfl, rfl, hO, hR, hB⟩ := hrel
    have HBW := Lib.hid hB
    have HRW := Lib.hid hR
    have hlt : w.heap.size < wr.heap.size := World.block_lt_of_cell? wr _ (hR.cell 0 (by decide))
    have hNs : w.heap.size + 1 ≤ wr.heap.size := hlt
    have hblen : (bodyV f i).length ≤ 7 * i := bodyV_len HGF.out i hi
    obtain ⟨p0, c0, hve, -⟩ := hO.shape
    subst hve
    have HO := Lib.hid hO
    clear hO hB HST
    by_cases h16 : i < 16
    · have z1 : (i : Int) < 16 := by omega
      have z2 : decide ((i : Int) < 16) = true := decide_eq_true z1
      have hw := i64v i h16
      have x1 : wr.cell? ⟨w.heap.size, i, none⟩ = some (.int .i64 (f i)) := hR.cell i h16
      have hfi := HGF.out i h16
      by_cases h0 : f i = 0
      · have HCT := Lib.hid (cntV_zero h0)
        have HBD := Lib.hid (bodyV_zero h0)
        rw [h0] at x1
        clear hR hfi h0
        go_wp2
        go_roundw
        case rel => exact ⟨i + 1, by omega, by rw [HCT.out], by go_num, by rw [HBD.out]; exact HO.out, HRW.out, HBW.out⟩
        case measure => simp [intOf]; omega
      · have HCT := Lib.hid (cntV_one h0)
        have HBD := Lib.hid (bodyV_one h0)
        obtain ⟨m, hm⟩ : ∃ m : Nat, f i = (m : Int) := ⟨(f i).toNat, by omega⟩
        rw [hm] at x1 h0 hfi
        rw [hm, Int.toNat_natCast] at HBD
        have d1 : ((m : Int) == 0) = false := by rw [beq_eq_false_iff_ne]; exact h0
        have d2 : ¬ (m : Int) = 0 := h0
        have hm40 : m ≤ 1099511627776 := by omega
        have hl1 := enc7_len 0 i (by show i < 128; omega)
        have hl2 := enc7_len40 hm40
        have HNI := Lib.hid (refNum i (by omega))
        have HNM := Lib.hid (refNum m (by omega))
        have hcw : IntKind.i64.wrap ((cntV f i : Int) + 1) = (cntV f i : Int) + 1 := by have := cntV_le f i; rw [IntKind.wrap_i64]; omega
        have HSS := Lib.hid (fun (u : World) (hu : Below (w.heap.size + 1) wr u) => (⟨by rw [hu.cell (by exact Nat.lt_succ_self _)]; exact x1, hu⟩ : u.cell? ⟨w.heap.size, i, none⟩ = some (.int .i64 (m : Int)) ∧ Below (w.heap.size + 1) wr u))
        clear hR hfi h0 hm hm40
        go_wp2
        have HX := Lib.hid (show Below (w.heap.size + 1) wr wr.drew from (Below.refl _ _).drew)
        have HO := Lib.hid (HO.out.of_below ((Below.refl _ _).drew))
        have HZ0 := Lib.hid hNs
        refine wp_region_noPanic ?_
        refine wp_region_held_drew (S := (fun u : World => u.cell? ⟨w.heap.size, i, none⟩ = some (.int .i64 (m : Int)) ∧ Below (w.heap.size + 1) wr u)) (by kernel_rfl) (HSS.out _ HX.out) (fun hHeld => ?_)
        generalize wr.drew = x0 at *
        refine wpAnyH_take (i := 0) (v := ?_) (by simp only [List.getElem?_toArray, List.getElem?_cons_succ, List.getElem?_cons_zero]; exact rfl) (by kernel_rfl) (by kernel_rfl) (by kernel_rfl) (fun _ _ _ h => h) (Or.inl ⟨by rfl, ?_⟩) (by assumption) ?_
        rotate_left 1
        · (intro w hSw; (try dsimp only at hSw); go_simp; try with_reducible rfl)
        try simp only [Act.put, List.setIfInBounds_toArray, List.set_cons_zero, List.set_cons_succ]
        refine wpAnyH_take (i := 1) (v := ?_) (by simp only [List.getElem?_toArray, List.getElem?_cons_succ, List.getElem?_cons_zero]; exact rfl) (by kernel_rfl) (by kernel_rfl) (by kernel_rfl) (fun _ _ _ h => h) (Or.inl ⟨by rfl, ?_⟩) (by assumption) ?_
        rotate_left 1
        · (intro w hSw; (try dsimp only at hSw); go_simp; try with_reducible rfl)
        try simp only [Act.put, List.setIfInBounds_toArray, List.set_cons_zero, List.set_cons_succ]
        refine wpAnyH_take (i := 4) (v := ?_) (by simp only [List.getElem?_toArray, List.getElem?_cons_succ, List.getElem?_cons_zero]; exact rfl) (by kernel_rfl) (by kernel_rfl) (by kernel_rfl) (fun _ _ _ h => h) (Or.inl ⟨by rfl, ?_⟩) (by assumption) ?_
        rotate_left 1
        · (intro w hSw; (try dsimp only at hSw); go_simp; try with_reducible rfl)
        try simp only [Act.put, List.setIfInBounds_toArray, List.set_cons_zero, List.set_cons_succ]
        refine wpAnyH_take (i := 5) (v := ?_) (by simp only [List.getElem?_toArray, List.getElem?_cons_succ, List.getElem?_cons_zero]; exact rfl) (by kernel_rfl) (by kernel_rfl) (by kernel_rfl) (fun _ _ _ h => h) (Or.inl ⟨by rfl, ?_⟩) (by assumption) ?_
        rotate_left 1
        · (intro w hSw; (try dsimp only at hSw); go_simp; try with_reducible rfl)
        try simp only [Act.put, List.setIfInBounds_toArray, List.set_cons_zero, List.set_cons_succ]
        refine wpAnyH_take (i := 6) (v := ?_) (by simp only [List.getElem?_toArray, List.getElem?_cons_succ, List.getElem?_cons_zero]; exact rfl) (by kernel_rfl) (by kernel_rfl) (by kernel_rfl) (fun _ _ _ h => h) (Or.inl ⟨by rfl, ?_⟩) (by assumption) ?_
        rotate_left 1
        · (intro w hSw; (try dsimp only at hSw); go_simp; try with_reducible rfl)
        try simp only [Act.put, List.setIfInBounds_toArray, List.set_cons_zero, List.set_cons_succ]
        refine wpAnyH_ready (rs := [2]) (by kernel_rfl) (by simp) ?_
        refine (AllReadyH.cons (by simp only [List.getElem?_toArray, List.getElem?_cons_succ, List.getElem?_cons_zero]; exact rfl) (fun K hK => ?_) AllReadyH.nil)
        go_simp
        refine (HNI.out _).mono ?_
        rintro e x2 ⟨v2, rfl, hO2, hB2⟩
        obtain ⟨p2, c2, rfl, hs2, hp2, hc2⟩ := hO2.shape
        have HX := Lib.hid (HX.out.trans (hB2.mono (Nat.le_trans HZ0.out HX.out.size)))
        have HO := Lib.hid (HO.out.of_below hB2)
        have HN2 := Lib.hid hO2
        have HS2 := Lib.hid (And.intro hs2 hp2)
        clear hO2 hB2 hs2 hp2 hc2
        go_wp2_with fail
        refine hK.out _ _ (HSS.out _ HX.out) (fun hHeld => ?_)
        clear hK K
        try simp only [Act.put, List.setIfInBounds_toArray, List.set_cons_zero, List.set_cons_succ]
        refine wpAnyH_ready (rs := [3]) (by kernel_rfl) (by simp) ?_
        refine (AllReadyH.cons (by simp only [List.getElem?_toArray, List.getElem?_cons_succ, List.getElem?_cons_zero]; exact rfl) (fun K hK => ?_) AllReadyH.nil)
        refine step_appendL _ rfl (.tmp 15) (.tmp 17) rfl (w.heap.size + 1) (.slice p0 (bodyV f i).length c0) (bodyV f i) rfl HO.out p2 _ c2 (enc7 i) rfl rfl HS2.out.1 HS2.out.2 (by first | omega | (simp only [List.length_append]; omega)) (Nat.le_trans HZ0.out HX.out.size) ?_
        rintro v3 x3 hO hg hor
        have HX := Lib.hid (HX.out.grown hg (Nat.le_trans HZ0.out HX.out.size) (fun j hj => (HO.out.lt j hj).1))
        have HO := Lib.hid hO
        clear hO hg hor
        refine hK.out _ _ (HSS.out _ HX.out) (fun hHeld => ?_)
        clear hK K
        try simp only [Act.put, List.setIfInBounds_toArray, List.set_cons_zero, List.set_cons_succ]
        refine wpAnyH_ready (rs := [7]) (by kernel_rfl) (by simp) ?_
        refine (AllReadyH.cons (by simp only [List.getElem?_toArray, List.getElem?_cons_succ, List.getElem?_cons_zero]; exact rfl) (fun K hK => ?_) AllReadyH.nil)
        go_simp
        refine (HNM.out _).mono ?_
        rintro e x7 ⟨v7, rfl, hO7, hB7⟩
        obtain ⟨p7, c7, rfl, hs7, hp7, hc7⟩ := hO7.shape
        have HX := Lib.hid (HX.out.trans (hB7.mono (Nat.le_trans HZ0.out HX.out.size)))
        have HO := Lib.hid (HO.out.of_below hB7)
        have HN7 := Lib.hid hO7
        have HS7 := Lib.hid (And.intro hs7 hp7)
        clear hO7 hB7 hs7 hp7 hc7
        go_wp2_with fail
        refine hK.out _ _ (HSS.out _ HX.out) (fun hHeld => ?_)
        clear hK K
        try simp only [Act.put, List.setIfInBounds_toArray, List.set_cons_zero, List.set_cons_succ]
        refine wpAnyH_ready (rs := [8]) (by kernel_rfl) (by simp) ?_
        refine (AllReadyH.cons (by simp only [List.getElem?_toArray, List.getElem?_cons_succ, List.getElem?_cons_zero]; exact rfl) (fun K hK => ?_) AllReadyH.nil)
        refine step_appendL _ rfl (.tmp 18) (.tmp 22) rfl (w.heap.size + 1) v3 (bodyV f i ++ enc7 i) rfl HO.out p7 _ c7 (enc7 m) rfl rfl HS7.out.1 HS7.out.2 (by first | omega | (simp only [List.length_append]; omega)) (Nat.le_trans HZ0.out HX.out.size) ?_
        rintro v8 x8 hO hg hor
        have HX := Lib.hid (HX.out.grown hg (Nat.le_trans HZ0.out HX.out.size) (fun j hj => (HO.out.lt j hj).1))
        have HO := Lib.hid hO
        clear hO hg hor
        refine hK.out _ _ (HSS.out _ HX.out) (fun hHeld => ?_)
        clear hK K
        try simp only [Act.put, List.setIfInBounds_toArray, List.set_cons_zero, List.set_cons_succ]
        refine wpAnyH_take (i := 9) (v := ?_) (by simp only [List.getElem?_toArray, List.getElem?_cons_succ, List.getElem?_cons_zero]; exact rfl) (by kernel_rfl) (by kernel_rfl) (by kernel_rfl) (fun _ _ _ h => h) (Or.inl ⟨by rfl, ?_⟩) (by assumption) ?_
        rotate_left 1
        · (intro w hSw; (try dsimp only at hSw); go_simp; try with_reducible rfl)
        try simp only [Act.put, List.setIfInBounds_toArray, List.set_cons_zero, List.set_cons_succ]
        refine wpAnyH_done (by kernel_rfl) ?_ _
        refine NoPanic.normal ?_
        obtain ⟨p8, c8, rfl, -⟩ := HO.out.shape
        go_wp2
        go_roundw
        case rel => exact ⟨i + 1, by omega, by rw [HCT.out]; go_num, by go_num, by rw [HBD.out]; exact HO.out, HRW.out.of_block (HX.out.block _ (by omega)), HBW.out.trans (HX.out.mono (by omega))⟩
        case measure => simp [intOf]; omega
    · have z1 : ¬ (i : Int) < 16 := by omega
      have z2 : decide ((i : Int) < 16) = false := decide_eq_false z1
      obtain rfl : i = 16 := by omega
      have hc16 := cntV_le f 16
      have HNC := Lib.hid (refNum (cntV f 16) (by omega))
      have hl3 := enc7_len 0 (cntV f 16) (by show _ < 128; omega)
      obtain ⟨q0, k0, hve, hS0, hP0, -⟩ := HO.out.shape
      injection hve with e1 e2 e3
      subst e1 e3
      have HS0 := Lib.hid (And.intro hS0 hP0)
      clear hR hS0 hP0 hc16
      go_wp2_with fail
      refine (HNC.out _).mono ?_
      rintro e w2 ⟨v2, rfl, hO2, hB2⟩
      have HO2 := Lib.hid hO2
      have HB2 := Lib.hid (HBW.out.trans (hB2.mono (by omega)))
      have HS2 := Lib.hid (HS0.out.1.of_below hB2)
      have hN2 : w.heap.size ≤ w2.heap.size := HB2.out.size
      have hL2 : wr.heap.size ≤ w2.heap.size := hB2.size
      clear hO2 hB2
      go_wp2_with (first | (refine wpl_append _ rfl (.tmp 26) (.tmp 27) rfl wr.heap.size v2 (enc7 (cntV f 16)) rfl HO2.out p0 _ c0 (bodyV f 16) rfl rfl HS2.out HS0.out.2 (by omega) hL2 ?_; rintro v3 w3 hO3 hg3; have HO3 := Lib.hid hO3; have HB3 := Lib.hid (HB2.out.grown hg3 hN2 (fun k hk => Nat.le_trans (by omega) (HO2.out.lt k hk).1)); clear hO3 hg3))
      go_wp2
      go_ret
      exact ⟨_, rfl, by have := HO3.out.lower (b2 := w.heap.size) (by omega); exact this, HB3.out⟩
end Go.Proofs.YtjpennbmphhipaaDoor
/- Take of the reference. -/
set_option maxRecDepth 100000
namespace Go.Proofs.YtjpennbmphhipaaDoor
open Go Go.RowKit

/-- The vector at the beginning of bytes, by the reference. -/
def takeR (l : List (BitVec 8)) : Option ((Nat → Int) × List (BitVec 8)) :=
  match num7 l with
  | none => none
  | some (c, k) => stepsV c 0 (l.drop k) (fun _ => 0)
theorem stepsV_bound : ∀ (c least : Nat) (l : List (BitVec 8)) (f : Nat → Int), least ≤ 16 → stepsV c least l f ≠ none → c + least ≤ 16
  | 0, least, l, f, h, _ => by omega
  | c + 1, least, l, f, h, hs => by
    by_cases h1 : (rngI l least 15).2.2 = 0
    · obtain ⟨x, hx⟩ : ∃ x, rngI l least 15 = x := ⟨_, rfl⟩
      obtain ⟨r, k, cd⟩ := x
      have hle := rngI_le h1
      rw [hx] at h1 hle
      have h1' : cd = 0 := h1
      subst h1'
      by_cases h2 : (rngI (l.drop k) 1 1099511627776).2.2 = 0
      · obtain ⟨y, hy⟩ : ∃ y, rngI (l.drop k) 1 1099511627776 = y := ⟨_, rfl⟩
        obtain ⟨n, k2, c2⟩ := y
        rw [hy] at h2
        have h2' : c2 = 0 := h2
        subst h2'
        rw [stepsV_one hx hy] at hs
        have hr : (least : Int) ≤ (r : Int) ∧ (r : Int) ≤ 15 := hle
        have := stepsV_bound c (r + 1) _ _ (by omega) hs
        omega
      · exact absurd (stepsV_no2 hx h2) hs
    · exact absurd (stepsV_no1 h1) hs
theorem takeV_eq (l : List (BitVec 8)) : takeV l = takeR l := by
  unfold takeV takeR
  cases e : num7 l with
  | none => rw [rngI_none 0 16 e]; rfl
  | some x =>
    obtain ⟨c, k⟩ := x
    by_cases h : (c : Int) < 0 ∨ 16 < (c : Int)
    · rw [rngI_out e h]
      show none = stepsV c 0 (l.drop k) (fun _ => 0)
      cases hs : stepsV c 0 (l.drop k) (fun _ => 0) with
      | none => rfl
      | some y => have := stepsV_bound c 0 _ _ (by omega) (by rw [hs]; exact fun q => by cases q); omega
    · rw [rngI_in e h]
      rfl
theorem sl_fromB (q : Option Addr) (n cap k : Nat) (w : World) (hk : k ≤ n) :
    (slT 25 (.slice q n cap) (some (.int .i64 (k : Int))) none none).run Tryd.prog w = .ok (.value (.slice (cutA q cap k) (n - k) (cap - k))) w := by
  have h1 := run_sliceAt_slice (P := Tryd.prog) w 25 (.slice q n cap) (some (.int .i64 (k : Int))) none none und35
  rw [run_slice_l (P := Tryd.prog) w 25 q n cap und35 .i64 (k : Int) (by omega) (by omega), sizeB] at h1
  simp only [slT, Sem.run_bind, h1, Result.andThen_ok, Sem.run_pure]
  simp only [sliced, Int.toNat_natCast, Nat.mul_one, cutA]
attribute [local go_sem ↓] exec_boxA exec_loadA exec_indexA exec_allocA exec_storeA exec_buildA exec_eqlA exec_neqA exec_boxV exec_loadV exec_indexV exec_allocV exec_storeV exec_buildV exec_eqlV exec_neqV
attribute [local go_sem] boxA indexA storeNewA buildA eqlA neqA boxV indexV storeNewV buildV eqlV neqV

attribute [local go_sem ↓] exec_slice
theorem resV3 {fn : Func} {p q r : Tmp} {T : TypeId} (hT : VT T) (h : fn.results = #[.cell p T, .tmp q, .tmp r]) (tmps : Array Value) (w : World) (b : Nat) (T2 : TypeId) (f : Nat → Int) (v u : Value) (hp : tmps.getD p undef = .pointer (some ⟨b, 0, none⟩)) (hq : tmps.getD q undef = v) (hr : tmps.getD r undef = u) (hR : Row w b T2 16 (vf f)) : (results fn tmps).run Tryd.prog w = .ok (.tuple #[vcV f, v, u]) w := by
  have hp' : tmps[p]?.getD undef = .pointer (some ⟨b, 0, none⟩) := by simpa using hp
  have hq' : tmps[q]?.getD undef = v := by simpa using hq
  have hr' : tmps[r]?.getD undef = u := by simpa using hr
  have hl := run_loadVar_row (P := Tryd.prog) w b T2 T (tab 16 (vf f)) (0, 0) _ hR hT.und rfl (by rw [hT.size, tab_size])
  unfold vcV
  simp [results, h, hp', hq', hr', asAddr, hl]
/-- What the reference's Take returns. -/
def RTakePost (l : List (BitVec 8)) (w : World) (r : Option ((Nat → Int) × List (BitVec 8))) (e : Ending) (w' : World) : Prop :=
  Below w.heap.size w w' ∧ match r with
    | some (f, rest) => ∃ at_ : Nat, at_ ≤ l.length ∧ rest = l.drop at_ ∧ e = .returned (.tuple #[vcV f, .int .i64 (at_ : Int), .int .i64 0])
    | none => e = .returned (.tuple #[vcV fun _ => 0, .int .i64 0, .int .i64 6])
theorem i64k (i : Nat) (h : i < 9223372036854775807) : IntKind.i64.wrap ((i : Int) + 1) = (i : Int) + 1 := by rw [IntKind.wrap_i64]; omega
theorem i64s9 (a b : Nat) (h : a + b ≤ 10000000) : IntKind.i64.wrap ((a : Int) + (b : Int)) = ((a + b : Nat) : Int) := by rw [IntKind.wrap_i64]; omega
theorem takeI_fits (l : List (BitVec 8)) {n k c : Nat} (h : takeI l 9223372036854775807 = (n, k, c)) : k ≤ l.length := by
  cases e : num7 l with
  | none => rw [takeI_none _ e] at h; injection h with _ h; injection h with h _; omega
  | some x =>
    obtain ⟨a, b⟩ := x
    have hi := num7_inv e
    rw [takeI_some e (by omega)] at h
    injection h with _ h
    injection h with h _
    omega
theorem rngI_of {l : List (BitVec 8)} {n k c : Nat} {lo hi : Int} (h : takeI l 9223372036854775807 = (n, k, c)) : rngI l lo hi = if c = 0 ∧ lo ≤ (n : Int) ∧ (n : Int) ≤ hi then (n, k, 0) else (0, 0, 6) := by
  cases e : num7 l with
  | none =>
    rw [takeI_none _ e] at h
    rw [rngI_none _ _ e, if_neg (by injection h with _ h; injection h with _ h; omega)]
  | some x =>
    obtain ⟨a, b⟩ := x
    have h7 := num7_inv e
    rw [takeI_some e (by omega)] at h
    injection h with h1 h
    injection h with h2 h3
    subst h1 h2 h3
    by_cases g : (a : Int) < lo ∨ hi < (a : Int)
    · rw [rngI_out e g, if_neg (by omega)]
    · rw [rngI_in e g, if_pos (by omega)]
theorem i64m (x : Nat) (h : x < 100000000) : IntKind.i64.wrap (x : Int) = (x : Int) := by rw [IntKind.wrap_i64]; omega
end Go.Proofs.YtjpennbmphhipaaDoor
/- What was taken as a vector has just the bytes that were taken. -/
set_option maxRecDepth 100000
namespace Go.Proofs.YtjpennbmphhipaaDoor
open Go Go.RowKit

theorem rngI_inv {l : List (BitVec 8)} {lo hi : Int} {n k : Nat} (h : rngI l lo hi = (n, k, 0)) : k ≤ l.length ∧ l.take k = enc7 n ∧ lo ≤ (n : Int) ∧ (n : Int) ≤ hi := by
  cases e : num7 l with
  | none => rw [rngI_none lo hi e] at h; injection h with _ h; injection h with _ h; cases h
  | some x =>
    obtain ⟨a, b⟩ := x
    by_cases g : (a : Int) < lo ∨ hi < (a : Int)
    · rw [rngI_out e g] at h; injection h with _ h; injection h with _ h; cases h
    · rw [rngI_in e g] at h
      injection h with h1 h
      injection h with h2 h
      subst h1 h2
      have := num7_inv e
      exact ⟨this.2.1, this.2.2.1, by omega, by omega⟩
theorem stepsV_enc : ∀ (c least : Nat) (l : List (BitVec 8)) (f : Nat → Int) (g : Nat → Int) (rest : List (BitVec 8)), least ≤ 16 → (∀ j, least ≤ j → f j = 0) → (∀ j, j < 16 → 0 ≤ f j ∧ f j ≤ 1099511627776) → stepsV c least l f = some (g, rest) →
    ∃ mid, l = mid ++ rest ∧ bodyV g 16 = bodyV f least ++ mid ∧ cntV g 16 = cntV f least + c ∧ ∀ j, j < 16 → 0 ≤ g j ∧ g j ≤ 1099511627776
  | 0, least, l, f, g, rest, hl, hz, hg, h => by
    injection h with h
    injection h with h1 h2
    subst h1 h2
    have := bodyV_rest least hz (16 - least)
    rw [show least + (16 - least) = 16 by omega] at this
    exact ⟨[], rfl, by rw [this.1, List.append_nil], by rw [this.2]; rfl, hg⟩
  | c + 1, least, l, f, g, rest, hl, hz, hg, h => by
    by_cases h1 : (rngI l least 15).2.2 = 0
    · obtain ⟨x, hx⟩ : ∃ x, rngI l least 15 = x := ⟨_, rfl⟩
      obtain ⟨r, k, cd⟩ := x
      rw [hx] at h1
      have h1' : cd = 0 := h1
      subst h1'
      by_cases h2 : (rngI (l.drop k) 1 1099511627776).2.2 = 0
      · obtain ⟨y, hy⟩ : ∃ y, rngI (l.drop k) 1 1099511627776 = y := ⟨_, rfl⟩
        obtain ⟨n, k2, c2⟩ := y
        rw [hy] at h2
        have h2' : c2 = 0 := h2
        subst h2'
        rw [stepsV_one hx hy] at h
        have i1 := rngI_inv hx
        have i2 := rngI_inv hy
        have hr : least ≤ r ∧ r ≤ 15 := by omega
        have hn : 1 ≤ n ∧ n ≤ 1099511627776 := by omega
        obtain ⟨mid, e1, e2, e3, e4⟩ := stepsV_enc c (r + 1) _ (fun i => if i = r then (n : Int) else f i) g rest (by omega) (fun j hj => by
          show (if j = r then (n : Int) else f j) = 0
          rw [if_neg (by omega)]; exact hz j (by omega)) (fun j hj => by
          show 0 ≤ (if j = r then (n : Int) else f j) ∧ (if j = r then (n : Int) else f j) ≤ 1099511627776
          split
          · omega
          · exact hg j hj) h
        have hb : bodyV (fun i => if i = r then (n : Int) else f i) (r + 1) = bodyV f least ++ enc7 r ++ enc7 n ∧ cntV (fun i => if i = r then (n : Int) else f i) (r + 1) = cntV f least + 1 := by
          have q : (fun i => if i = r then (n : Int) else f i) r = (n : Int) := if_pos rfl
          have q0 : (fun i => if i = r then (n : Int) else f i) r ≠ 0 := by rw [q]; omega
          have hrest := bodyV_rest least hz (r - least)
          rw [show least + (r - least) = r by omega] at hrest
          rw [bodyV_one q0, cntV_one q0, if_pos rfl, bodyV_congr (g := f) r (fun j hj => if_neg (by omega)), cntV_congr (g := f) r (fun j hj => if_neg (by omega)), hrest.1, hrest.2]
          exact ⟨by rw [Int.toNat_natCast], rfl⟩
        refine ⟨enc7 r ++ enc7 n ++ mid, ?_, ?_, ?_, e4⟩
        · rw [← i1.2.1, ← i2.2.1, List.append_assoc, List.append_assoc, ← e1, List.take_append_drop, List.take_append_drop]
        · rw [e2, hb.1]; simp only [List.append_assoc]
        · rw [e3, hb.2]; omega
      · rw [stepsV_no2 hx h2] at h; cases h
    · rw [stepsV_no1 h1] at h; cases h
theorem takeR_enc {l : List (BitVec 8)} {g : Nat → Int} {rest : List (BitVec 8)} (h : takeR l = some (g, rest)) : l = encV g ++ rest ∧ ∀ j, j < 16 → 0 ≤ g j ∧ g j ≤ 1099511627776 := by
  unfold takeR at h
  cases e : num7 l with
  | none => rw [e] at h; cases h
  | some x =>
    obtain ⟨c, k⟩ := x
    rw [e] at h
    obtain ⟨mid, e1, e2, e3, e4⟩ := stepsV_enc c 0 _ _ g rest (by omega) (fun _ _ => rfl) (fun _ _ => ⟨by decide, by decide⟩) h
    have hi := num7_inv e
    refine ⟨?_, e4⟩
    unfold encV
    rw [e2, e3, List.append_assoc]
    show l = enc7 (cntV (fun _ => 0) 0 + c) ++ (([] ++ mid) ++ rest)
    rw [show cntV (fun _ => 0) 0 + c = c from Nat.zero_add _, List.nil_append, ← e1, ← hi.2.2.1, List.take_append_drop]
/-- What is written of a good vector is read as it. -/
theorem stepsV_back {f : Nat → Int} (hf : ∀ j, j < 16 → 0 ≤ f j ∧ f j ≤ 1099511627776) (rest : List (BitVec 8)) : ∀ (d i : Nat) (c : Nat) (l : List (BitVec 8)) (least : Nat), i + d = 16 → least ≤ i → (∀ j, least ≤ j → j < i → f j = 0) → cntV f 16 = cntV f i + c → bodyV f 16 ++ rest = bodyV f i ++ l →
    ∃ g, stepsV c least l (fun j => if j < least then f j else 0) = some (g, rest) ∧ ∀ j, j < 16 → g j = f j
  | 0, i, c, l, least, hi, hl, hz, hc, hb => by
    obtain rfl : i = 16 := by omega
    obtain rfl : c = 0 := by omega
    have hb' := List.append_cancel_left hb
    subst hb'
    exact ⟨_, rfl, fun j hj => by
      show (if j < least then f j else 0) = f j
      by_cases h : j < least
      · rw [if_pos h]
      · rw [if_neg h, hz j (by omega) hj]⟩
  | d + 1, i, c, l, least, hi, hl, hz, hc, hb => by
    by_cases h0 : f i = 0
    · exact stepsV_back hf rest d (i + 1) c l least (by omega) (by omega) (fun j h1 h2 => by
        by_cases e : j = i
        · rw [e]; exact h0
        · exact hz j h1 (by omega)) (by rw [cntV_zero h0]; exact hc) (by rw [bodyV_zero h0]; exact hb)
    · have hfi := hf i (by omega)
      -- the bytes from here on
      have hpre : ∀ e, ∃ t, bodyV f (i + 1 + e) = bodyV f (i + 1) ++ t ∧ cntV f (i + 1) ≤ cntV f (i + 1 + e) := by
        intro e
        induction e with
        | zero => exact ⟨[], (List.append_nil _).symm, Nat.le_refl _⟩
        | succ e ih =>
          obtain ⟨t, ht, htc⟩ := ih
          by_cases g0 : f (i + 1 + e) = 0
          · exact ⟨t, by rw [show i + 1 + (e + 1) = (i + 1 + e) + 1 by omega, bodyV_zero g0, ht], by rw [show i + 1 + (e + 1) = (i + 1 + e) + 1 by omega, cntV_zero g0]; exact htc⟩
          · exact ⟨t ++ enc7 (i + 1 + e) ++ enc7 (f (i + 1 + e)).toNat, by rw [show i + 1 + (e + 1) = (i + 1 + e) + 1 by omega, bodyV_one g0, ht]; simp only [List.append_assoc], by rw [show i + 1 + (e + 1) = (i + 1 + e) + 1 by omega, cntV_one g0]; omega⟩
      obtain ⟨t, ht, htc⟩ := hpre (15 - i)
      rw [show i + 1 + (15 - i) = 16 by omega] at ht htc
      rw [cntV_one h0] at htc
      obtain ⟨c', rfl⟩ : ∃ c', c = c' + 1 := ⟨c - 1, by omega⟩
      have hl' : l = enc7 i ++ (enc7 (f i).toNat ++ (t ++ rest)) := by
        rw [ht, bodyV_one h0] at hb
        simp only [List.append_assoc] at hb
        exact (List.append_cancel_left hb).symm
      have r1 : rngI l least 15 = (i, (enc7 i).length, 0) := by
        rw [hl']
        exact rngI_in (num7_enc i _ (by omega)) (by omega)
      have r2 : rngI (l.drop (enc7 i).length) 1 1099511627776 = ((f i).toNat, (enc7 (f i).toNat).length, 0) := by
        rw [hl', List.drop_left]
        exact rngI_in (num7_enc (f i).toNat _ (by omega)) (by omega)
      rw [stepsV_one r1 r2]
      have hd : (l.drop (enc7 i).length).drop (enc7 (f i).toNat).length = t ++ rest := by rw [hl', List.drop_left, List.drop_left]
      rw [hd]
      have hfun : (fun j => if j = i then (((f i).toNat : Nat) : Int) else if j < least then f j else 0) = fun j => if j < i + 1 then f j else 0 := by
        funext j
        by_cases e : j = i
        · rw [if_pos e, if_pos (by omega), e]; omega
        · rw [if_neg e]
          by_cases e2 : j < least
          · rw [if_pos e2, if_pos (by omega)]
          · rw [if_neg e2]
            by_cases e3 : j < i + 1
            · rw [if_pos e3, hz j (by omega) (by omega)]
            · rw [if_neg e3]
      rw [hfun]
      exact stepsV_back hf rest d (i + 1) c' (t ++ rest) (i + 1) (by omega) (Nat.le_refl _) (fun j h1 h2 => by omega) (by rw [cntV_one h0]; omega) (by rw [ht, List.append_assoc])
theorem takeV_back {f : Nat → Int} (hf : ∀ j, j < 16 → 0 ≤ f j ∧ f j ≤ 1099511627776) (rest : List (BitVec 8)) : ∃ g, takeV (encV f ++ rest) = some (g, rest) ∧ ∀ j, j < 16 → g j = f j := by
  have hc := cntV_le f 16
  have h1 : rngI (encV f ++ rest) 0 16 = (cntV f 16, (enc7 (cntV f 16)).length, 0) := by
    unfold encV
    rw [List.append_assoc]
    exact rngI_in (num7_enc _ _ (by omega)) (by omega)
  have h2 : (encV f ++ rest).drop (enc7 (cntV f 16)).length = bodyV f 16 ++ rest := by unfold encV; rw [List.append_assoc, List.drop_left]
  obtain ⟨g, hg, hgf⟩ := stepsV_back hf rest 16 0 (cntV f 16) (bodyV f 16 ++ rest) 0 rfl (Nat.le_refl _) (fun j h1 h2 => by omega) (by show cntV f 16 = 0 + _; omega) rfl
  refine ⟨g, ?_, hgf⟩
  unfold takeV
  simp only [h1, h2, if_true]
  rw [show (fun _ : Nat => (0 : Int)) = fun j => if j < 0 then f j else 0 from funext fun j => (if_neg (by omega)).symm]
  exact hg
end Go.Proofs.YtjpennbmphhipaaDoor
