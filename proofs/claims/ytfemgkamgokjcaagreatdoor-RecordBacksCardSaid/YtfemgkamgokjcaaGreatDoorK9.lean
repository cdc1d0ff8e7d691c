/- Merged texts: Put9, Put10, Byp10, Plb10, Byo10. -/
import Derived.Test.YtfemgkamgokjcaaGreatDoorK8
import Derived.Test.YtfemgkamgokjcaaGreatDoorK4
import Derived.Test.YtfemgkamgokjcaaGreatDoorK6
set_option linter.unusedSimpArgs false
set_option linter.unusedVariables false
/- Put of the program: the encoding of a good vector is written. -/
set_option maxRecDepth 100000
namespace Go.Proofs.YtfemgkamgokjcaaGreatDoor
open Go Go.RowKit Go.Shelf
attribute [-go_sem] Sha.exec_store

attribute [local go_sem] Oper.semAt_some
theorem below_newZ (w : World) (o : Obj) : Below w.heap.size w (w.alloc o) := (Below.refl _ _).alloc (Nat.le_refl _) _
theorem new_cZ (w : World) (v : Value) (T : TypeId) : (w.alloc (.cells #[v] T)).cell? ⟨w.heap.size, 0, none⟩ = some v ∧ (w.alloc (.cells #[v] T)).frozen? ⟨w.heap.size, 0, none⟩ = false := ⟨World.cell?_alloc_new _ _ _ _, by go_simp⟩
theorem cells_of_cell {w : World} {a : Addr} {v : Value} {o : Obj} (h : w.cell? a = some v) (ho : w.heap[a.block]? = some o) : o.isCells = true := by
  unfold World.cell? at h
  rw [ho] at h
  cases o <;> first | rfl | simp at h
theorem Kq.others {w w' : World} {g : Option Nat} {N : Nat} {l : List (BitVec 8)} {a : Addr} (h : Kq a.block g w w') (hW : WrP N w a g l) : KeepsOthers w w' := ⟨h.size, fun k o hk hc => by
  obtain ⟨b, v, rfl, h1, h2, h3, h4, h5, h6⟩ := hW
  have hlt := (Array.getElem?_eq_some_iff.1 hk).1
  by_cases e : k = b
  · subst e
    rw [cells_of_cell h2 hk] at hc; cases hc
  · by_cases e2 : g = some k
    · rcases h4.2 with ⟨hv, _⟩ | ⟨g2, cap, cur, hv, _, hg2, _⟩
      · rw [← h5, hv] at e2; cases e2
      · have : g2 = k := by rw [← h5, hv] at e2; injection e2
        subst this
        rw [hg2] at hk
        injection hk with hk
        subst hk
        cases hc
    · rw [h.block k hlt e e2]; exact hk⟩
/-- The boxes of Put. -/
structure PBx (w : World) (n : Nat) (f : Nat → Int) (a : Addr) (A : World) : Prop where
  row : Row A n 31 16 (vf f)
  ptr : A.cell? ⟨n + 1, 0, none⟩ = some (.pointer (some a))
theorem PBx.keep {w : World} {n : Nat} {f : Nat → Int} {a : Addr} {A A' : World} (h : PBx w n f a A) (h1 : A'.heap[n]? = A.heap[n]?) (h2 : A'.heap[n + 1]? = A.heap[n + 1]?) : PBx w n f a A' := ⟨h.row.of_block h1, by rw [World.cell?_of_block (w := A) h2]; exact h.ptr⟩
/-- What the first loop carries: so many are counted. -/
def InvP1 (w : World) (n : Nat) (f : Nat → Int) (a : Addr) (pre : List Nat) (A : World) : Prop :=
  A.cell? ⟨n + 1 + 1, 0, none⟩ = some (.int .i64 (pre.length : Int)) ∧ A.frozen? ⟨n + 1 + 1, 0, none⟩ = false ∧ PBx w n f a A ∧ Below n w A
theorem InvP1.of_below {w : World} {n N : Nat} {f : Nat → Int} {a : Addr} {pre : List Nat} {A A' : World} (h : InvP1 w n f a pre A) (hN : n + 1 + 1 < N) (hB : Below N A A') : InvP1 w n f a pre A' :=
  ⟨by rw [hB.cell (by exact hN)]; exact h.1, by rw [hB.frozen (by exact hN)]; exact h.2.1, h.2.2.1.keep (hB.block _ (by omega)) (hB.block _ (by omega)), h.2.2.2.trans (hB.mono (by omega))⟩
theorem InvP1.lt {w : World} {n : Nat} {f : Nat → Int} {a : Addr} {pre : List Nat} {A : World} (h : InvP1 w n f a pre A) : n + 1 + 1 < A.heap.size := World.block_lt_of_cell? A _ h.1
theorem InvP1.bears (w : World) (n M : Nat) (f : Nat → Int) (a : Addr) (hM : n + 1 + 1 < M) : BearsP M (InvP1 w n f a) :=
  ⟨fun pre A o h => h.of_below h.lt (below_newZ A o), fun pre A o hlt h => h.of_below (N := M + 1) (by omega) (below_putP o (Nat.le_refl _) hlt), fun pre A k h => h.of_below h.lt ((show Dr A (A.drewN k) from ⟨k, rfl⟩).below _)⟩
/-- What the second loop carries: what was written. -/
def InvP2 (w : World) (n M : Nat) (f : Nat → Int) (a : Addr) (N : Nat) (g : Option Nat) (l : List (BitVec 8)) (D1 : Nat) (pre : List Nat) (A : World) : Prop :=
  PBx w n f a A ∧ (n + 1 < M ∧ D1 < M ∧ A.heap[D1]? = some (.deferred (some []))) ∧ M ≤ A.heap.size ∧ ∃ g', WrP N A a g' (l ++ bodyL f pre) ∧ (∀ k, g' = some k → (g = some k ∨ n + 1 < k) ∧ (k + 1 < M ∨ M + 2 ≤ k)) ∧ Kq a.block g w A
theorem InvP2.step {w : World} {n M : Nat} {f : Nat → Int} {a : Addr} {N : Nat} {g : Option Nat} {l : List (BitVec 8)} {D1 : Nat} {pre : List Nat} {A A' : World} (h : InvP2 w n M f a N g l D1 pre A) (hw : w.heap.size ≤ n) (ha : a.block < w.heap.size)
    (hos : A'.os = A.os ∧ A'.tape = A.tape ∧ A'.output = A.output ∧ A.heap.size ≤ A'.heap.size) (hb : ∀ k, k < A.heap.size → (k < M ∨ M + 2 ≤ k) → A'.heap[k]? = A.heap[k]?) (hg : ∀ k, g = some k → k < w.heap.size) : InvP2 w n M f a N g l D1 pre A' := by
  obtain ⟨h1, ⟨h2, h2b, h2c⟩, h3, g', h4, h5, h6⟩ := h
  refine ⟨h1.keep (hb _ (by omega) (by omega)) (hb _ (by omega) (by omega)), ⟨h2, h2b, (hb _ (by omega) (by omega)).trans h2c⟩, Nat.le_trans h3 hos.2.2.2, g', wrP_stay _ _ _ _ _ _ h4 hos.2.2.2 (hb _ (by omega) (by omega)) (fun k hk => hb k ((wrP_lie _ _ _ _ _ h4).2.2 k hk).2.1 (by have := (h5 k hk).2; omega)), h5,
    ⟨hos.1.trans h6.os, hos.2.1.trans h6.tape, hos.2.2.1.trans h6.output, Nat.le_trans h6.size hos.2.2.2, fun k k1 k2 k3 => (hb k (Nat.lt_of_lt_of_le k1 h6.size) (by omega)).trans (h6.block k k1 k2 k3)⟩⟩
theorem InvP2.bears (w : World) (n M : Nat) (f : Nat → Int) (a : Addr) (N : Nat) (g : Option Nat) (l : List (BitVec 8)) (D1 : Nat) (hw : w.heap.size ≤ n) (ha : a.block < w.heap.size) (hg : ∀ k, g = some k → k < w.heap.size) : BearsP M (InvP2 w n M f a N g l D1) :=
  ⟨fun pre A o h => h.step hw ha ⟨rfl, rfl, rfl, (below_newZ A o).size⟩ (fun k hk _ => (below_newZ A o).block k hk) hg,
   fun pre A o hlt h => h.step hw ha ⟨(below_putP (N := 0) o (Nat.zero_le _) hlt).os, (below_putP (N := 0) o (Nat.zero_le _) hlt).tape, (below_putP (N := 0) o (Nat.zero_le _) hlt).output, (below_putP (N := 0) o (Nat.zero_le _) hlt).size⟩ (fun k hk hM => World.putObj_heap_other (by omega)) hg,
   fun pre A k h => h.step hw ha ⟨rfl, rfl, rfl, Nat.le_refl _⟩ (fun _ _ _ => rfl) hg⟩
attribute [local go_sem ↓] exec_boxV exec_loadV exec_indexV exec_storeV
attribute [local go_sem] boxV indexV
set_option maxRecDepth 100000 in
set_option maxHeartbeats 4000000 in
theorem put9_any (f : Nat → Int) (hf : ∀ i, i < 16 → 0 ≤ f i ∧ f i ≤ 1099511627776) (N : Nat) (w : World) (a : Addr) (g : Option Nat) (l : List (BitVec 8)) (h : WrP N w a g l) (hll : l.length < 1000000) :
    Calls Tryz.prog 79 #[vcV f, .pointer (some a)] w fun e w' => e = .returned (.tuple #[]) ∧ WrPost WrP N w a g (l ++ encV f) w' := by
  refine (callsIn_wide (n := 7)).1 ?_
  refine callsIn_of_wp_marks Tryz.func79 rfl trivial ?_ rfl
  simp only [Tryz.ntmps79, List.size_toArray, List.length_cons, List.length_nil, Nat.reduceAdd, Nat.reduceSub, Array.replicate_succ, Array.replicate_zero, List.push_toArray, List.append_toArray, List.nil_append, List.cons_append]
  have hlie := wrP_lie _ _ _ _ _ h
  obtain ⟨n, hn⟩ : ∃ n, w.heap.size = n := ⟨_, rfl⟩
  obtain ⟨W1, hW1⟩ : ∃ W1, w.alloc (.cells (tab 16 (vf f)) 31) = W1 := ⟨_, rfl⟩
  obtain ⟨W2, hW2⟩ : ∃ W2, W1.alloc (.cells #[.pointer (some a)] 78) = W2 := ⟨_, rfl⟩
  obtain ⟨W3, hW3⟩ : ∃ W3, W2.alloc (.cells #[.int .i64 0] 3) = W3 := ⟨_, rfl⟩
  obtain ⟨W4, hW4⟩ : ∃ W4, W3.alloc (.cells (tab 16 (vf f)) 31) = W4 := ⟨_, rfl⟩
  have s1 : W1.heap.size = n + 1 := by rw [← hW1]; simp [hn]
  have s2 : W2.heap.size = n + 1 + 1 := by rw [← hW2]; simp [s1]
  have s3 : W3.heap.size = n + 1 + 1 + 1 := by rw [← hW3]; simp [s2]
  have s4 : W4.heap.size = n + 1 + 1 + 1 + 1 := by rw [← hW4]; simp [s3]
  have b1 : Below w.heap.size w W1 := by rw [← hW1]; exact below_newZ _ _
  have b2 : Below W1.heap.size W1 W2 := by rw [← hW2]; exact below_newZ _ _
  have b3 : Below W2.heap.size W2 W3 := by rw [← hW3]; exact below_newZ _ _
  have b4 : Below W3.heap.size W3 W4 := by rw [← hW4]; exact below_newZ _ _
  have r1 : Row W1 n 31 16 (vf f) := by rw [← hW1, ← hn]; exact Row.new _ _ _ _
  have r3 : Row W3 n 31 16 (vf f) := (r1.of_below b2).of_below b3
  have p2 : W2.cell? ⟨n + 1, 0, none⟩ = some (.pointer (some a)) := by rw [← hW2, ← s1]; exact World.cell?_alloc_new _ _ _ _
  have p3 : W3.cell? ⟨n + 1, 0, none⟩ = some (.pointer (some a)) := by rw [b3.cell (by show n + 1 < _; omega)]; exact p2
  obtain ⟨c3, f3⟩ := new_cZ W2 (.int .i64 0) 3
  rw [hW3, s2] at c3 f3
  have b34 := b4
  rw [s3] at b34
  have hInv0 : InvP1 w n f a [] W4 := (show InvP1 w n f a [] W3 from ⟨c3, f3, ⟨r3, p3⟩, by rw [← hn]; exact (b1.trans (b2.mono b1.size)).trans (b3.mono (b1.trans (b2.mono b1.size)).size)⟩).of_below (by omega) b34
  have r4 : Row W4 (n + 1 + 1 + 1) 31 16 (vf f) := by rw [← hW4, ← s3]; exact Row.new _ _ _ _
  have HSQ1 := Lib.hid (nonzero_seq 6 (by decide) (n + 1 + 1 + 1) f W4 r4)
  have HI0 := Lib.hid hInv0
  have l1 : (ldT 31 (.pointer (some ⟨w.heap.size, 0, none⟩))).run Tryz.prog (((w.alloc (.cells (tab 16 (vf f)) 31)).alloc (.cells #[.pointer (some a)] 78)).alloc (.cells #[.int .i64 0] 3)) = .ok (.value (vcV f)) (((w.alloc (.cells (tab 16 (vf f)) 31)).alloc (.cells #[.pointer (some a)] 78)).alloc (.cells #[.int .i64 0] 3)) := by
    rw [hW1, hW2, hW3, hn]
    exact loadVT vtV (VecAt.of_row r3 (Nat.le_refl _))
  have HW := Lib.hid (show WrP N w a g l from h)
  have HLIE := Lib.hid hlie
  have HF := Lib.hid hf
  clear h hlie hf r1 r3 p2 p3 c3 f3 b34 hInv0 r4 b1 b2 b3 b4
  have HEQ := Lib.hid (And.intro hW1 (And.intro hW2 (And.intro hW3 hW4)))
  have HS := Lib.hid (And.intro s1 (And.intro s2 (And.intro s3 s4)))
  have HN := Lib.hid hn
  clear hW1 hW2 hW3 hW4 s1 s2 s3 s4 hn
  gi_wp2_with (refine ⟨trivial, ?_⟩; gi_at_call 116; refine (callsIn_wide.2 (nonzero_any f _)).mono ?_; rintro e w' ⟨rfl, rfl⟩)
  clear l1
  rw [HEQ.out.1, HEQ.out.2.1, HEQ.out.2.2.1, HEQ.out.2.2.2]
  try rw [HS.out.2.2.1]
  try rw [HS.out.1]
  try rw [HS.out.2.1]
  try rw [HN.out]
  have s4 := HS.out.2.2.2
  refine range_pure (m := 7) (by decide) (gf := 140) (lb := #[.pointer (some ⟨n + 1 + 1 + 1, 0, none⟩)]) (by rfl) (enters_of Tryz.func140 (by kernel_rfl) rfl)
    (encs := fun i : Nat => #[.int .i64 (i : Int), .int .i64 (f i)]) (fun _ => rfl) (b := n + 1 + 1 + 1) (by omega) HSQ1.out
    (InvP1 w n f a) (fun _ _ => False) (InvP1.bears w n _ f a (by omega)) (fun _ _ _ _ h => h) HI0.out
    (fun i => { tmps := #[vcV f, .pointer (some a), .pointer (some ⟨n, 0, none⟩), .pointer (some ⟨n + 1, 0, none⟩), .pointer (some ⟨n + 1 + 1, 0, none⟩), undef, undef, vcV f, .func (.func 140) #[] #[.pointer (some ⟨n + 1 + 1 + 1, 0, none⟩)], .int .i64 (i : Int), .int .i64 (f i), undef, undef, undef, undef, undef, undef, undef, undef, undef, undef, undef, undef, undef, undef, undef], defers := [] }) ?assign ?body ?done ?stop
  case assign =>
    intro L x A K hK
    go_simp
    gi_wp2
    exact hK
  case body =>
    rintro L pre i A hpx hNA ⟨hc, hfz, hbx, hB⟩
    have hlen : pre.length < 16 := by
      obtain ⟨t, e⟩ := hpx
      have h1 := congrArg List.length e
      rw [nzV_len] at h1
      have h2 := cntV_le f 16
      simp only [List.length_append, List.length_cons, List.length_nil] at h1
      omega
    have hw1 := i64v pre.length hlen
    have HBX := Lib.hid hbx
    have HB := Lib.hid hB
    have HC := Lib.hid (And.intro hc hfz)
    clear hbx hB hpx
    gi_wp2
    refine ⟨KeepsOthers.setCell _ _ _, Below.heap_setCell _ _ _ _ (show n + 1 + 1 + 1 ≠ n + 1 + 1 by omega), ?_, by rw [World.frozen?_setCell]; exact HC.out.2, HBX.out.keep (Below.heap_setCell _ _ _ _ (show n ≠ n + 1 + 1 by omega)) (Below.heap_setCell _ _ _ _ (show n + 1 ≠ n + 1 + 1 by omega)), HB.out.setCell (show n ≤ (⟨n + 1 + 1, 0, none⟩ : Addr).block by show n ≤ n + 1 + 1; omega) _⟩
    rw [World.cell?_setCell_same _ _ _ HC.out.1]
    rw [List.length_append]
    simp
  case done =>
    rintro D A hD ⟨hc, hfz, hbx, hB⟩ hK
    rw [s4] at hD
    subst hD
    have l2 := loadVT vtV (VecAt.of_row hbx.row (Nat.le_refl _))
    have x1 := hbx.ptr
    rw [nzV_len] at hc
    obtain ⟨C, hC⟩ : ∃ C, cntV f 16 = C := ⟨_, rfl⟩
    rw [hC] at hc
    have hC16 : C ≤ 16 := by rw [← hC]; exact cntV_le f 16
    have HCE := Lib.hid hC
    have hab : a.block < n := by rw [← HN.out]; exact HLIE.out.2.1
    have hgb : ∀ k, g = some k → k < n := fun k hk => by rw [← HN.out]; exact (HLIE.out.2.2 k hk).2.1
    have hB' : Below w.heap.size w A := by rw [HN.out]; exact hB
    have hWA : WrP N A a g l := wrP_stay _ _ _ _ _ _ HW.out hB'.size (hB'.block _ HLIE.out.2.1) (fun k hk => hB'.block _ (HLIE.out.2.2 k hk).2.1)
    have HNC := Lib.hid (wrP_number N A a g l C hWA (by omega) (by omega))
    have hDlt := (Array.getElem?_eq_some_iff.1 hK).1
    have hA4 : n + 1 + 1 + 1 + 1 < A.heap.size := by omega
    have HBX := Lib.hid hbx
    have HB := Lib.hid hB
    have HKD := Lib.hid hK
    have HWA := Lib.hid hWA
    clear hbx hB hB' hK hWA hC
    gi_wp2_with (first | (refine ⟨trivial, ?_⟩; gi_at_call 75; refine (callsIn_wide.2 HNC.out).mono ?_; rintro e w5 ⟨rfl, hP5⟩
                          obtain ⟨g5, hW5, hg5, hK5⟩ := hP5
                          have hkn : w5.heap[n]? = A.heap[n]? := hK5.block n (by omega) (by omega) (fun e => by have := hgb n e; omega)
                          have hkn1 : w5.heap[n + 1]? = A.heap[n + 1]? := hK5.block (n + 1) (by omega) (by omega) (fun e => by have := hgb (n + 1) e; omega)
                          have HD5 := Lib.hid (show w5.heap[n + 1 + 1 + 1 + 1]? = some (.deferred (some [])) from (hK5.block (n + 1 + 1 + 1 + 1) hDlt (by omega) (fun e => by have := hgb (n + 1 + 1 + 1 + 1) e; omega)).trans HKD.out)
                          have HBX5 := Lib.hid (HBX.out.keep hkn hkn1)
                          have l3 := loadVT vtV (VecAt.of_row HBX5.out.row (Nat.le_refl _))
                          have x3 := HBX5.out.ptr
                          have HP5 := Lib.hid (And.intro hW5 (And.intro hg5 hK5))
                          clear hW5 hg5 hK5 hkn hkn1)
                       | (refine ⟨trivial, ?_⟩; gi_at_call 116; refine (callsIn_wide.2 (nonzero_any f _)).mono ?_; rintro e w' ⟨rfl, rfl⟩))
    clear l2 l3 x1 x3
    have hw5 : n + 1 + 1 + 1 + 1 < w5.heap.size := Nat.lt_of_lt_of_le hA4 HP5.out.2.2.size
    have hB6 : Below w5.heap.size w5 (w5.alloc (.cells (tab 16 (vf f)) 31)) := below_newZ _ _
    have hz6 : (w5.alloc (.cells (tab 16 (vf f)) 31)).heap.size = w5.heap.size + 1 := World.size_alloc _ _
    have HSQ2 := Lib.hid (nonzero_seq 6 (by decide) w5.heap.size f _ (Row.new w5 31 16 (vf f)))
    generalize hW6 : w5.alloc (.cells (tab 16 (vf f)) 31) = W6 at *
    clear hW6
    obtain ⟨B2, hB2⟩ : ∃ B2, w5.heap.size = B2 := ⟨_, rfl⟩
    rw [hB2] at HSQ2 hz6 ⊢
    have hKA : Kq a.block g w A := ⟨HB.out.os, HB.out.tape, HB.out.output, by have := HB.out.size; omega, fun k k1 k2 k3 => HB.out.block k (by rw [HN.out] at k1; exact k1)⟩
    have hInv2 : InvP2 w n W6.heap.size f a N g (l ++ enc7 C) (n + 1 + 1 + 1 + 1) [] W6 := by
      obtain ⟨hW5, hg5, hK5⟩ := HP5.out
      refine ⟨HBX5.out.keep (hB6.block _ (by omega)) (hB6.block _ (by omega)), ⟨by omega, by omega, (hB6.block _ (by omega)).trans HD5.out⟩, Nat.le_refl _, g5, ?_, fun k hk => ?_, ?_⟩
      · show WrP N W6 a g5 (l ++ enc7 C ++ [])
        rw [List.append_nil]
        exact wrP_stay _ _ _ _ _ _ hW5 hB6.size (hB6.block _ (wrP_lie _ _ _ _ _ hW5).2.1) (fun k hk => hB6.block _ ((wrP_lie _ _ _ _ _ hW5).2.2 k hk).2.1)
      · have := ((wrP_lie _ _ _ _ _ hW5).2.2 k hk).2.1
        refine ⟨(hg5 k hk).imp id (fun h => by omega), by omega⟩
      · exact (hKA.trans hK5 (fun i e => .inl e)).trans (Kq.ofBelow hB6 (g := g)) (fun i e => .inl e)
    have HI2 := Lib.hid hInv2
    clear hInv2 hB6 hKA
    refine range_pure (m := 7) (by decide) (gf := 140) (lb := #[.pointer (some ⟨B2, 0, none⟩)]) (by rfl) (enters_of Tryz.func140 (by kernel_rfl) rfl)
      (encs := fun i : Nat => #[.int .i64 (i : Int), .int .i64 (f i)]) (fun _ => rfl) (b := B2) (by omega) HSQ2.out
      (InvP2 w n W6.heap.size f a N g (l ++ enc7 C) (n + 1 + 1 + 1 + 1)) (fun _ _ => False) (InvP2.bears w n _ f a N g _ (n + 1 + 1 + 1 + 1) (by rw [HN.out]; exact Nat.le_refl _) HLIE.out.2.1 (fun k hk => (HLIE.out.2.2 k hk).2.1)) (fun _ _ _ _ h => h) HI2.out
      (fun i => { tmps := #[vcV f, .pointer (some a), .pointer (some ⟨n, 0, none⟩), .pointer (some ⟨n + 1, 0, none⟩), .pointer (some ⟨n + 1 + 1, 0, none⟩), .int .i64 (i : Int), .int .i64 (f i), vcV f, .func (.func 140) #[] #[.pointer (some ⟨n + 1 + 1 + 1, 0, none⟩)], undef, undef, undef, undef, .pointer (some a), .int .i64 (C : Int), .bool true, vcV f, .func (.func 140) #[] #[.pointer (some ⟨B2, 0, none⟩)], .int .i64 (i : Int), .int .i64 (f i), undef, undef, undef, undef, undef, undef], defers := [] }) ?assign2 ?body2 ?done2 ?stop2
    case assign2 =>
      intro L x A K hK
      gi_wp2
      exact hK
    case body2 =>
      rintro L pre i A2 hpx hNA ⟨hbx, ⟨-, hDM, hAD⟩, hMA, g', hW, hg', hKA⟩
      have hmem : i ∈ nzV f 16 := hpx.subset (List.mem_append_right _ (List.mem_singleton.2 rfl))
      obtain ⟨hi16, hfi⟩ := nzV_mem hmem
      have hfb := HF.out i hi16
      have hbl : (bodyL f pre).length ≤ 112 := by
        obtain ⟨t, e⟩ := hpx
        have h1 := congrArg (fun q => (bodyL f q).length) e
        simp only [bodyL_append, List.length_append] at h1
        rw [bodyL_nz] at h1
        have h2 := bodyV_len HF.out 16 (Nat.le_refl _)
        omega
      obtain ⟨m, hm⟩ : ∃ m : Nat, f i = (m : Int) := ⟨(f i).toNat, by omega⟩
      have hm40 : m ≤ 1099511627776 := by omega
      have hel := enc7_len40 hm40
      have hec := enc7_len 0 C (by show C < 128; omega)
      have hei := enc7_len 0 i (by show i < 128; omega)
      have HBO := Lib.hid (show bodyL f (pre ++ [i]) = bodyL f pre ++ (enc7 i ++ enc7 m) from by
        rw [bodyL_append]
        show bodyL f pre ++ (enc7 i ++ enc7 (f i).toNat ++ []) = _
        rw [hm, Int.toNat_natCast, List.append_nil])
      have HN1 := Lib.hid (wrP_number N A2 a g' (l ++ enc7 C ++ bodyL f pre) i hW (by simp only [List.length_append]; omega) (by omega))
      have x1 := hbx.ptr
      have hgn : ∀ k, g' = some k → k ≠ n ∧ k ≠ n + 1 ∧ k ≠ B2 := fun k hk => by
        have h1 := hg' k hk
        refine ⟨?_, ?_, by omega⟩
        · rintro rfl
          rcases h1.1 with h2 | h2
          · have := hgb _ h2; omega
          · omega
        · rintro rfl
          rcases h1.1 with h2 | h2
          · have := hgb _ h2; omega
          · omega
      have HBX2 := Lib.hid hbx
      have HW2 := Lib.hid hW
      have HG2 := Lib.hid (And.intro hg' (And.intro hgn hKA))
      have HAD := Lib.hid hAD
      have hmz : ((m : Nat) : Int) = f i := hm.symm
      clear hbx hW hg' hgn hKA hAD hpx hmem hfi hfb
      rw [hm]
      clear hm hmz
      gi_wp2_with fail
      refine ⟨trivial, (CallsIn.inRound L (callsIn_wide.2 HN1.out)).mono ?_⟩
      rintro e w7 ⟨rfl, hP7⟩
      obtain ⟨g7, hW7, hg7, hK7⟩ := hP7
      have x2 : w7.cell? ⟨n + 1, 0, none⟩ = some (.pointer (some a)) := by
        rw [World.cell?_of_block (w := A2) (hK7.block (n + 1) (by omega) (by omega) (fun e => (HG2.out.2.1 _ e).2.1 rfl))]; exact x1
      have HN2 := Lib.hid (wrP_number N w7 a g7 (l ++ enc7 C ++ bodyL f pre ++ enc7 i) m hW7 (by simp only [List.length_append]; omega) (by omega))
      have HP7 := Lib.hid (And.intro hg7 hK7)
      clear hW7 hg7 hK7 x1
      gi_wp2_with fail
      refine ⟨trivial, (CallsIn.inRound L (callsIn_wide.2 HN2.out)).mono ?_⟩
      rintro e w8 ⟨rfl, hP8⟩
      have hP9 := WrPost.trans (g := g') HP7.out.1 HP7.out.2 hP8
      have HP9 := Lib.hid hP9
      clear hP8 hP9 x2
      gi_wp2
      obtain ⟨g8, hW8, hg8, hK8⟩ := HP9.out
      have hko := hK8.others HW2.out
      refine ⟨hko, hK8.block B2 (by omega) (by omega) (fun e => (HG2.out.2.1 _ e).2.2 rfl), HBX2.out.keep (hK8.block n (by omega) (by omega) (fun e => (HG2.out.2.1 _ e).1 rfl)) (hK8.block (n + 1) (by omega) (by omega) (fun e => (HG2.out.2.1 _ e).2.1 rfl)), ⟨by omega, hDM, hko.same _ _ HAD.out rfl⟩, Nat.le_trans hMA hK8.size, g8, ?_, fun k hk => ?_, ?_⟩
      · rw [HBO.out]
        have e : l ++ enc7 C ++ (bodyL f pre ++ (enc7 i ++ enc7 m)) = l ++ enc7 C ++ bodyL f pre ++ enc7 i ++ enc7 m := by simp only [List.append_assoc]
        rw [e]
        exact hW8
      · rcases hg8 k hk with h1 | h1
        · exact HG2.out.1 k h1
        · exact ⟨.inr (by omega), by omega⟩
      · exact HG2.out.2.2.trans hK8 (fun k hk => (HG2.out.1 k hk).1.imp id (fun h => by rw [HN.out]; omega))
    case done2 =>
      rintro D2 A2 hD2 ⟨hbx, ⟨-, hDM, hAD⟩, hMA, g', hW, hg', hKA⟩ hK2
      have HW2 := Lib.hid hW
      have HG2 := Lib.hid (And.intro hg' hKA)
      rw [bodyL_nz] at HW2
      clear hW hg' hKA hbx
      gi_wp2
      refine ⟨by simp, .inl ⟨_, _, rfl, run_takeDeferred hK2, ?_⟩⟩
      have hD2l := (Array.getElem?_eq_some_iff.1 hK2).1
      have hAD2 : (A2.putObj D2 (.deferred none)).heap[n + 1 + 1 + 1 + 1]? = some (.deferred (some [])) := (World.putObj_heap_other (by omega)).trans hAD
      refine ⟨by simp, .inl ⟨_, _, rfl, run_takeDeferred hAD2, ?_⟩⟩
      have hDl := (Array.getElem?_eq_some_iff.1 hAD2).1
      have hkeep : ∀ k, k ≠ D2 → k ≠ n + 1 + 1 + 1 + 1 → ((A2.putObj D2 (.deferred none)).putObj (n + 1 + 1 + 1 + 1) (.deferred none)).heap[k]? = A2.heap[k]? := fun k k1 k2 => (World.putObj_heap_other (by omega)).trans (World.putObj_heap_other (by omega))
      have hbp := (below_putP (N := 0) (.deferred none) (Nat.zero_le _) hD2l).trans (below_putP (N := 0) (.deferred none) (Nat.zero_le _) hDl)
      have hgk : ∀ k, g' = some k → k ≠ n + 1 + 1 + 1 + 1 := fun k hk e => by
        obtain ⟨b, v, hb, h1, h2, h3, h4, h5, h6⟩ := HW2.out
        rcases h4.2 with ⟨hv, _⟩ | ⟨g2, cap, cur, hv, _, hg2, _⟩
        · rw [← h5, hv] at hk; cases hk
        · have : g2 = k := by rw [← h5, hv] at hk; injection hk
          subst this
          rw [e, hAD] at hg2
          cases hg2
      refine ⟨.tuple #[], ?_, rfl, g', ?_, fun k hk => (HG2.out.1 k hk).1.imp id (fun h => by rw [HN.out]; omega), ?_⟩
      · simp [results, Tryz.f79, go_sem]
      · have e : l ++ encV f = l ++ enc7 C ++ bodyV f 16 := by unfold encV; rw [HCE.out, List.append_assoc]
        rw [e]
        exact wrP_stay _ _ _ _ _ _ HW2.out hbp.size (hkeep _ (by omega) (by omega)) (fun k hk => hkeep k (by have := (HG2.out.1 k hk).2; omega) (hgk k hk))
      · exact ⟨hbp.os.trans HG2.out.2.os, hbp.tape.trans HG2.out.2.tape, hbp.output.trans HG2.out.2.output, Nat.le_trans HG2.out.2.size hbp.size, fun k k1 k2 k3 => (hkeep k (by rw [HN.out] at k1; omega) (by rw [HN.out] at k1; omega)).trans (HG2.out.2.block k k1 k2 k3)⟩
    case stop2 =>
      rintro D pre A hD hpre hF hK
      exact hF.elim
  case stop =>
    rintro D pre A hD hpre hF hK
    exact hF.elim
end Go.Proofs.YtfemgkamgokjcaaGreatDoor
/- record.put. -/
set_option maxRecDepth 100000
namespace Go.Proofs.YtfemgkamgokjcaaGreatDoor
open Go Go.RowKit

attribute [-go_sem] Sha.exec_store
attribute [local go_sem ↓] exec_boxA exec_loadA exec_indexA exec_allocA exec_storeA exec_buildA exec_eqlA exec_neqA exec_boxV exec_loadV exec_indexV exec_allocV exec_storeV exec_buildV exec_eqlV exec_neqV
attribute [local go_sem] boxA indexA storeNewA buildA eqlA neqA boxV indexV storeNewV buildV eqlV neqV

attribute [local go_sem ↓] exec_loadS exec_boxS exec_boxP exec_load32 exec_alloc32 exec_store32F
attribute [local go_sem] boxP st_dig
set_option maxRecDepth 100000 in
set_option maxHeartbeats 16000000 in
theorem put10_any (p : S8) (s t c : Nat) (f : Nat → Int) (d : Bool) (wh : By) (q : Option Addr) (n cap : Nat) (ds : List By) (N : Nat) (w : World) (a : Addr) (g : Option Nat) (l : By) (h : WrP N w a g l) (hD : DgAt w ⟨p, (s : Int), (t : Int), (c : Int), f, d, wh, q, n, cap⟩ ds)
    (hqN : 0 < ds.length → ∀ c o, q = some ⟨c, o, none⟩ → c < N) (hp : p.length ≤ 1000) (hs : s < 9223372036854775808) (ht : t < 9223372036854775808) (hc : c < 9223372036854775808) (hf : ∀ i, i < 16 → 0 ≤ f i ∧ f i ≤ 1099511627776) (hds : ds.length ≤ 1000) (hl : l.length < 1000) :
    Calls Tryz.prog 36 #[rcV ⟨p, (s : Int), (t : Int), (c : Int), f, d, wh, q, n, cap⟩, .pointer (some a)] w fun e w' => e = .returned (.tuple #[]) ∧ WrPost WrP N w a g (l ++ bodyRc ⟨pB p, s, t, c, f, d, wh, ds⟩) w' := by
  have hlie := wrP_lie _ _ _ _ _ h
  obtain ⟨b0, hb0⟩ : ∃ b, w.heap.size = b := ⟨_, rfl⟩
  obtain ⟨W1, hW1⟩ : ∃ W, w.alloc (.cells (tab 54 (rcF ⟨p, (s : Int), (t : Int), (c : Int), f, d, wh, q, n, cap⟩)) 33) = W := ⟨_, rfl⟩
  have hB1 : Below w.heap.size w W1 := by rw [← hW1]; exact below_newD _ _
  have hR1 : Row W1 b0 33 54 (rcF ⟨p, (s : Int), (t : Int), (c : Int), f, d, wh, q, n, cap⟩) := by rw [← hb0, ← hW1]; exact Row.new _ _ _ _
  obtain ⟨V, hV⟩ : ∃ V, rcV ⟨p, (s : Int), (t : Int), (c : Int), f, d, wh, q, n, cap⟩ = V := ⟨_, rfl⟩
  have x1 : (bxT 33 V).run Tryz.prog w = .ok (.value (.pointer (some ⟨w.heap.size, 0, none⟩))) W1 := by rw [← hV, ← hW1]; exact boxP w _
  rw [hV]
  have hD1 := hD.of_below hB1
  have HBW := Lib.hid hB1
  have HA := Lib.hid hlie
  have HP := Lib.hid (show WrPost WrP N W1 a g l W1 from ⟨g, wrP_stay _ _ _ _ _ _ h hB1.size (hB1.block _ hlie.2.1) (fun k hk => hB1.block k (hlie.2.2 k hk).2.1), fun k hk => .inl hk, Kq.refl _ _ _⟩)
  have HR := Lib.hid (fun (u : World) (hu : Kq a.block g W1 u) => (show Row u b0 33 54 (rcF ⟨p, (s : Int), (t : Int), (c : Int), f, d, wh, q, n, cap⟩) from hR1.of_block (hu.block b0 hR1.lt (by have := hlie.2.1; omega) (fun e => by have := hlie.2.2 b0 e; omega))))
  have HD := Lib.hid (fun (u : World) (hu : Kq a.block g W1 u) => (show DgAt u ⟨p, (s : Int), (t : Int), (c : Int), f, d, wh, q, n, cap⟩ ds from by
    by_cases e0 : 0 < ds.length
    · exact hD1.keep (u := u) (fun c o e hlt => hu.block c hlt (by have := hqN e0 c o e; omega) (fun e2 => by have := hqN e0 c o e; have := (hlie.2.2 c e2).1; omega))
    · have e1 : ds = [] := List.length_eq_zero_iff.1 (by omega)
      subst e1
      exact ⟨hD1.n, fun j hj => absurd hj (by simp), hD1.each, hD1.nil, hD1.le, hD1.whole⟩))
  have HX := Lib.hid (And.intro hp (And.intro hds (And.intro hl hD.n)))
  have HN := Lib.hid (And.intro hs (And.intro ht hc))
  have HF := Lib.hid hf
  have HXL := Lib.hid hD.whole
  have HPL := Lib.hid (pB_len p)
  have p9 : (128 : Nat) ^ 9 = 9223372036854775808 := by decide
  have HLEN := Lib.hid (show (enc7 (pB p).length).length ≤ 9 ∧ (pB p).length ≤ 1000 ∧ (enc7 s).length ≤ 9 ∧ (enc7 t).length ≤ 9 ∧ (enc7 c).length ≤ 9 ∧ (encV f).length ≤ 113 ∧ wh.length = 32 ∧ (enc7 n).length ≤ 9 from ⟨enc7_len 8 _ (by rw [p9, pB_len]; omega), by rw [pB_len]; exact hp, enc7_len 8 _ (by rw [p9]; exact hs), enc7_len 8 _ (by rw [p9]; exact ht), enc7_len 8 _ (by rw [p9]; exact hc), encV_len hf, hD.whole, enc7_len 8 _ (by have := hD.n; dsimp only at this; rw [p9]; omega)⟩)
  have HB0 := Lib.hid (show l.length ≤ 1000 by omega)
  clear hD hD1 hR1 hB1 hV h hp hs ht hc hf hds hl hqN hlie
  go_enter Tryz.func36, Tryz.ntmps36
  try rw [hb0]
  rw [hb0] at x1
  obtain ⟨g0, hW0, hg0, hK0⟩ := HP.out
  have hlb := HB0.out
  have af := rc_path (HR.out _ hK0)
  try dsimp only at af
  have hTX := wrP_text N W1 a g0 l (pB p) hW0 (by omega) (by have := HLEN.out; omega)
  rw [strOf_pB] at hTX
  have HTX := Lib.hid hTX
  clear hTX
  go_wp2_with fail
  clear x1 hW1
  refine (HTX.out).mono ?_
  rintro e y1 ⟨rfl, hP0⟩
  have HP := Lib.hid (WrPost.trans hg0 hK0 hP0)
  obtain ⟨L1, hL1⟩ : ∃ L, l ++ (enc7 (pB p).length ++ pB p) = L := ⟨_, rfl⟩
  have HB1 := Lib.hid (show L1.length ≤ 2009 from by rw [← hL1]; have := HLEN.out; simp only [List.length_append, List.length_cons, List.length_nil]; omega)
  have HL1 := Lib.hid hL1
  rw [hL1] at HP
  clear hW0 hg0 hK0 hP0 hL1 hlb af
  obtain ⟨g1, hW1, hg1, hK1⟩ := HP.out
  have hlb := HB1.out
  have af := rc_size (HR.out _ hK1)
  try dsimp only at af
  go_wp2_with fail

  refine (wrP_number N y1 a g1 L1 s hW1 (by omega) HN.out.1).mono ?_
  rintro e y2 ⟨rfl, hP1⟩
  have HP := Lib.hid (WrPost.trans hg1 hK1 hP1)
  obtain ⟨L2, hL2⟩ : ∃ L, L1 ++ enc7 s = L := ⟨_, rfl⟩
  have HB2 := Lib.hid (show L2.length ≤ 2018 from by rw [← hL2]; have := HLEN.out; simp only [List.length_append, List.length_cons, List.length_nil]; omega)
  have HL2 := Lib.hid hL2
  rw [hL2] at HP
  clear hW1 hg1 hK1 hP1 hL2 hlb af
  obtain ⟨g2, hW2, hg2, hK2⟩ := HP.out
  have hlb := HB2.out
  have af := rc_time (HR.out _ hK2)
  try dsimp only at af
  go_wp2_with fail

  refine (wrP_number N y2 a g2 L2 t hW2 (by omega) HN.out.2.1).mono ?_
  rintro e y3 ⟨rfl, hP2⟩
  have HP := Lib.hid (WrPost.trans hg2 hK2 hP2)
  obtain ⟨L3, hL3⟩ : ∃ L, L2 ++ enc7 t = L := ⟨_, rfl⟩
  have HB3 := Lib.hid (show L3.length ≤ 2027 from by rw [← hL3]; have := HLEN.out; simp only [List.length_append, List.length_cons, List.length_nil]; omega)
  have HL3 := Lib.hid hL3
  rw [hL3] at HP
  clear hW2 hg2 hK2 hP2 hL3 hlb af
  obtain ⟨g3, hW3, hg3, hK3⟩ := HP.out
  have hlb := HB3.out
  have af := rc_chg (HR.out _ hK3)
  try dsimp only at af
  go_wp2_with fail

  refine (wrP_number N y3 a g3 L3 c hW3 (by omega) HN.out.2.2).mono ?_
  rintro e y4 ⟨rfl, hP3⟩
  have HP := Lib.hid (WrPost.trans hg3 hK3 hP3)
  obtain ⟨L4, hL4⟩ : ∃ L, L3 ++ enc7 c = L := ⟨_, rfl⟩
  have HB4 := Lib.hid (show L4.length ≤ 2036 from by rw [← hL4]; have := HLEN.out; simp only [List.length_append, List.length_cons, List.length_nil]; omega)
  have HL4 := Lib.hid hL4
  rw [hL4] at HP
  clear hW3 hg3 hK3 hP3 hL4 hlb af
  obtain ⟨g4, hW4, hg4, hK4⟩ := HP.out
  have hlb := HB4.out
  have af := loadVT vtV <| rc_ver (HR.out _ hK4)
  try dsimp only at af
  go_wp2_with fail

  refine (put9_any f HF.out N y4 a g4 L4 hW4 (by omega)).mono ?_
  rintro e y5 ⟨rfl, hP4⟩
  have HP := Lib.hid (WrPost.trans hg4 hK4 hP4)
  obtain ⟨L5, hL5⟩ : ∃ L, L4 ++ encV f = L := ⟨_, rfl⟩
  have HB5 := Lib.hid (show L5.length ≤ 2149 from by rw [← hL5]; have := HLEN.out; simp only [List.length_append, List.length_cons, List.length_nil]; omega)
  have HL5 := Lib.hid hL5
  rw [hL5] at HP
  clear hW4 hg4 hK4 hP4 hL5 hlb af
  obtain ⟨g5, hW5, hg5, hK5⟩ := HP.out
  have hlb := HB5.out
  have af := rc_dead (HR.out _ hK5)
  try dsimp only at af
  go_wp2_with fail

  refine (wrP_truth N y5 a g5 L5 d hW5 (by omega)).mono ?_
  rintro e y6 ⟨rfl, hP5⟩
  have HP := Lib.hid (WrPost.trans hg5 hK5 hP5)
  obtain ⟨L6, hL6⟩ : ∃ L, L5 ++ [if d then 1#8 else 0#8] = L := ⟨_, rfl⟩
  have HB6 := Lib.hid (show L6.length ≤ 2150 from by rw [← hL6]; have := HLEN.out; simp only [List.length_append, List.length_cons, List.length_nil]; omega)
  have HL6 := Lib.hid hL6
  rw [hL6] at HP
  clear hW5 hg5 hK5 hP5 hL6 hlb af
  obtain ⟨g6, hW6, hg6, hK6⟩ := HP.out
  have af := rc_dead (HR.out _ hK6)
  dsimp only at af
  cases d with
  | true =>
    have hbd : l ++ bodyRc ⟨pB p, s, t, c, f, true, wh, ds⟩ = L6 := by
      unfold bodyRc
      dsimp only
      rw [← HL6.out, ← HL5.out, ← HL4.out, ← HL3.out, ← HL2.out, ← HL1.out, if_pos rfl]
      simp only [List.append_assoc, if_true]
    have HBD := Lib.hid hbd
    clear hbd hW6 hg6
    go_wp2
    ((try simp only [Exit.inBlock, Exit.then]); first | (refine bodyPost_ret (results_none rfl _ _ _) rfl ?_) | (refine bodyPost_end (results_none rfl _ _ _) rfl ?_))
    exact ⟨rfl, by rw [HBD.out]; exact WrPost.trans (fun k hk => .inl hk) (Kq.ofBelow HBW.out) HP.out⟩
  | false =>
    clear hW6 hg6 hK6
    obtain ⟨g6, hW6, hg6, hK6⟩ := HP.out
    have hlb := HB6.out
    have af := (fun h => ld_dig (rc_whole h HXL.out) HXL.out) (HR.out _ hK6)
    try dsimp only at af
    go_wp2_with fail
    refine (wrP_digest N y6 a g6 L6 wh hW6 (by omega) HXL.out).mono ?_
    rintro e y7 ⟨rfl, hP6⟩
    have HP := Lib.hid (WrPost.trans hg6 hK6 hP6)
    obtain ⟨L7, hL7⟩ : ∃ L, L6 ++ wh = L := ⟨_, rfl⟩
    have HB7 := Lib.hid (show L7.length ≤ 2182 from by rw [← hL7]; have := HLEN.out; simp only [List.length_append, List.length_cons, List.length_nil]; omega)
    have HL7 := Lib.hid hL7
    rw [hL7] at HP
    clear hW6 hg6 hK6 hP6 hL7 hlb af
    obtain ⟨g7, hW7, hg7, hK7⟩ := HP.out
    have hlb := HB7.out
    have af := rc_blocks (HR.out _ hK7)
    try dsimp only at af
    go_wp2_with fail

    refine (wrP_number N y7 a g7 L7 n hW7 (by omega) (by have := HX.out.2.2.2; have := HX.out.2.1; omega)).mono ?_
    rintro e y8 ⟨rfl, hP7⟩
    have HP := Lib.hid (WrPost.trans hg7 hK7 hP7)
    obtain ⟨L8, hL8⟩ : ∃ L, L7 ++ enc7 n = L := ⟨_, rfl⟩
    have HB8 := Lib.hid (show L8.length ≤ 2191 from by rw [← hL8]; have := HLEN.out; simp only [List.length_append, List.length_cons, List.length_nil]; omega)
    have HL8 := Lib.hid hL8
    rw [hL8] at HP
    clear hW7 hg7 hK7 hP7 hL8 hlb af
    obtain ⟨g8, hW8, hg8, hK8⟩ := HP.out
    have af := rc_blocks (HR.out _ hK8)
    dsimp only at af
    clear hW8 hg8 hK8
    go_wp2_with fail
    go_loopw [5, 47] (fun s5 si wr => ∃ i : Nat, i ≤ n ∧ si = .int .i64 (i : Int) ∧ WrPost WrP N W1 a g (L8 ++ (ds.take i).flatten) wr) (fun _ si _ => n - (intOf si).toNat)
    case atStart => exact ⟨0, Nat.zero_le _, rfl, by rw [List.take_zero, List.flatten_nil, List.append_nil]; exact HP.out⟩
    case round =>
      obtain ⟨i, hi, rfl, hPr⟩ := hrel
      have HPr := Lib.hid hPr
      clear hPr af
      have hnd : n = ds.length := HX.out.2.2.2
      by_cases hlt : i < n
      · have z1 : (i : Int) < (n : Int) := by omega
        have z2 : decide ((i : Int) < (n : Int)) = true := decide_eq_true z1
        have hil : i < ds.length := by omega
        obtain ⟨gr, hWr, hgr, hKr⟩ := HPr.out
        obtain ⟨c1, o1, e1, -, -, h32⟩ := (HD.out _ hKr).at i hil
        have hldq := (HD.out _ hKr).ldq e1 i hil
        dsimp only at e1
        have a9 := rc_blocks (HR.out _ hKr)
        dsimp only at a9
        subst e1
        have hnc : n ≤ cap := (HD.out _ hKr).le
        obtain ⟨di, hdi⟩ : ∃ x, ds.getD i [] = x := ⟨_, rfl⟩
        rw [hdi] at h32 hldq
        have htk : (ds.take (i + 1)).flatten = (ds.take i).flatten ++ di := by
          rw [← hdi, List.take_add_one, List.flatten_append, List.getElem?_eq_getElem hil, List.getD_eq_getElem?_getD, List.getElem?_eq_getElem hil]
          simp
        have htl : (L8 ++ (ds.take i).flatten).length < 1000000 := by
          have h1 := HB8.out
          have h2 := HX.out.2.1
          rw [List.length_append, flat_len32 (fun d hd => (HD.out _ hKr).each d (List.mem_of_mem_take hd)), List.length_take]
          omega
        obtain ⟨Lr, hLr⟩ : ∃ L, L8 ++ (ds.take i).flatten = L := ⟨_, rfl⟩
        rw [hLr] at hWr htl
        have HTK := Lib.hid (show L8 ++ (ds.take (i + 1)).flatten = Lr ++ di by rw [htk, ← List.append_assoc, hLr])
        obtain ⟨X1, hX1⟩ : ∃ W, wr.alloc (.cells (tab 32 (dgF di)) 23) = W := ⟨_, rfl⟩
        have hst := st_dig wr wr.heap.size di rfl
        have hBx : Below wr.heap.size wr X1 := by rw [← hX1]; exact below_newR _ _
        have hlieR := wrP_lie _ _ _ _ _ hWr
        have hWx : WrP N X1 a gr Lr := wrP_stay _ _ _ _ _ _ hWr hBx.size (hBx.block _ hlieR.2.1) (fun k hk => hBx.block k (hlieR.2.2 k hk).2.1)
        obtain ⟨bx, hbx⟩ : ∃ b, wr.heap.size = b := ⟨_, rfl⟩
        have hsl : Sl X1 (some ⟨bx, 0, none⟩) di := by
          rw [← hX1, ← hbx]
          exact ((Row.new wr 23 32 (dgF di)).fresh (base := wr.heap.size) (Nat.le_refl _) h32).sl
        have ldx := ld_dig hsl h32
        have hKx : Kq a.block g W1 X1 := hKr.trans (Kq.ofBelow (g := gr) hBx) hgr
        have HC := Lib.hid (wrP_digest N X1 a gr Lr di hWx (by omega) h32)
        have HGR := Lib.hid (And.intro hgr hKx)
        rw [hX1, hbx] at hst
        have w3 : IntKind.i64.wrap ((i : Int) + 1) = (i : Int) + 1 := by have h2 := HX.out.2.1; rw [IntKind.wrap_i64]; omega
        clear hWr hgr hKr htk htl hdi hnd hBx hlieR hWx hsl hKx hLr hil h32
        go_wp2_with fail
        refine HC.out.mono ?_
        rintro e xr ⟨rfl, hPx⟩
        have HPx := Lib.hid (WrPost.trans HGR.out.1 HGR.out.2 hPx)
        clear hPx hst ldx hldq a9 hbx hX1
        go_wp2
        go_roundw
        case rel => exact ⟨i + 1, by omega, by go_num, by rw [HTK.out]; exact HPx.out⟩
        case measure => simp [intOf]; omega
      · have z1 : ¬ (i : Int) < (n : Int) := by omega
        have z2 : decide ((i : Int) < (n : Int)) = false := decide_eq_false z1
        have hin : i = ds.length := by omega
        have hbd : l ++ bodyRc ⟨pB p, s, t, c, f, false, wh, ds⟩ = L8 ++ (ds.take i).flatten := by
          unfold bodyRc
          dsimp only
          rw [hin, List.take_length, ← HL8.out, ← HL7.out, ← HL6.out, ← HL5.out, ← HL4.out, ← HL3.out, ← HL2.out, ← HL1.out, if_neg (by simp), hnd]
          simp only [List.append_assoc, Bool.false_eq_true, if_false]
        have HBD := Lib.hid hbd
        clear hbd hin hnd
        go_wp2
        ((try simp only [Exit.inBlock, Exit.then]); first | (refine bodyPost_ret (results_none rfl _ _ _) rfl ?_) | (refine bodyPost_end (results_none rfl _ _ _) rfl ?_))
        exact ⟨rfl, by rw [HBD.out]; exact WrPost.trans (fun k hk => .inl hk) (Kq.ofBelow HBW.out) HPr.out⟩
end Go.Proofs.YtfemgkamgokjcaaGreatDoor
/- record.Bytes. -/
set_option maxRecDepth 100000
namespace Go.Proofs.YtfemgkamgokjcaaGreatDoor
open Go Go.RowKit

attribute [-go_sem] Sha.exec_store
attribute [local go_sem ↓] exec_boxP exec_loadP2 exec_bs
attribute [local go_sem] boxP bsSl
set_option maxRecDepth 100000 in
set_option maxHeartbeats 16000000 in
theorem bytes10_bad (r : Rc) (ds : List By) (w : World) (hD : DgAt w r ds) (hp : r.path.length < 100000) (hg : goodR r = false) :
    Calls Tryz.prog 10 #[rcV r] w fun e w' => e = .returned (.slice none 0 0) ∧ Below w.heap.size w w' := by
  obtain ⟨W1, hW1⟩ : ∃ W, w.alloc (.cells (tab 54 (rcF r)) 33) = W := ⟨_, rfl⟩
  have hB1 : Below w.heap.size w W1 := by rw [← hW1]; exact below_newD _ _
  have hR1 : Row W1 w.heap.size 33 54 (rcF r) := by rw [← hW1]; exact Row.new _ _ _ _
  have HGD := Lib.hid (fun u => good10_any r hp hD.whole u)
  rw [hg] at HGD
  obtain ⟨V, hV⟩ : ∃ V, rcV r = V := ⟨_, rfl⟩
  have x1 : (bxT 33 V).run Tryz.prog w = .ok (.value (.pointer (some ⟨w.heap.size, 0, none⟩))) W1 := by rw [← hV, ← hW1]; exact boxP w _
  have ld := loadRT rtP hR1
  rw [hV] at HGD ld ⊢
  have HB1 := Lib.hid hB1
  clear hB1 hR1 hW1 hV hD hg
  go_enter Tryz.func10, Tryz.ntmps10
  go_wp2_with fail
  refine (HGD.out _).mono ?_
  rintro e w2 ⟨rfl, hB2⟩
  have HB2 := Lib.hid (HB1.out.trans (hB2.mono HB1.out.size))
  clear hB2 x1 ld
  go_wp2
  go_ret
  exact ⟨rfl, HB2.out⟩
set_option maxRecDepth 100000 in
set_option maxHeartbeats 16000000 in
theorem bytes10_good (p : S8) (s t c : Nat) (f : Nat → Int) (d : Bool) (wh : By) (q : Option Addr) (n cap : Nat) (ds : List By) (w : World) (hD : DgAt w ⟨p, (s : Int), (t : Int), (c : Int), f, d, wh, q, n, cap⟩ ds)
    (hp : p.length ≤ 1000) (hs : s < 9223372036854775808) (ht : t < 9223372036854775808) (hc : c < 9223372036854775808) (hf : ∀ i, i < 16 → 0 ≤ f i ∧ f i ≤ 1099511627776) (hds : ds.length ≤ 1000) (hT : Tb w)
    (hg : goodR ⟨p, (s : Int), (t : Int), (c : Int), f, d, wh, q, n, cap⟩ = true) (hbl : (bodyRc ⟨pB p, s, t, c, f, d, wh, ds⟩).length < 1000000) :
    Calls Tryz.prog 10 #[rcV ⟨p, (s : Int), (t : Int), (c : Int), f, d, wh, q, n, cap⟩] w (GivesB w (encRc ⟨pB p, s, t, c, f, d, wh, ds⟩)) := by
  obtain ⟨b0, hb0⟩ : ∃ b, w.heap.size = b := ⟨_, rfl⟩
  obtain ⟨r, hr⟩ : ∃ r : Rc, (⟨p, (s : Int), (t : Int), (c : Int), f, d, wh, q, n, cap⟩ : Rc) = r := ⟨_, rfl⟩
  have HPT := Lib.hid (fun (N : Nat) (u : World) (a : Addr) (g : Option Nat) (l : List (BitVec 8)) (h : WrP N u a g l) (h1 : DgAt u r ds) (h2 : 0 < ds.length → ∀ c o, q = some ⟨c, o, none⟩ → c < N) (h3 : l.length < 1000) => put10_any p s t c f d wh q n cap ds N u a g l h (by rw [hr]; exact h1) h2 hp hs ht hc hf hds h3)
  have hq0 : 0 < ds.length → ∀ c o, q = some ⟨c, o, none⟩ → c < w.heap.size := fun h0 c1 o1 e => by
    obtain ⟨c2, o2, e2, h2, -⟩ := hD.at 0 h0
    dsimp only at e2
    rw [e] at e2
    injection e2 with e2
    injection e2 with e3
    omega
  have HQ0 := Lib.hid hq0
  obtain ⟨body, hbody⟩ : ∃ b, bodyRc ⟨pB p, s, t, c, f, d, wh, ds⟩ = b := ⟨_, rfl⟩
  obtain ⟨enc, henc⟩ : ∃ b, encRc ⟨pB p, s, t, c, f, d, wh, ds⟩ = b := ⟨_, rfl⟩
  have HEN := Lib.hid (show enc = body ++ digL body from by rw [← henc, ← hbody]; rfl)
  rw [hr] at hD hg HPT ⊢
  rw [hbody] at HPT hbl
  rw [henc]
  have hrp : r.path.length < 100000 := by rw [← hr]; exact Nat.lt_of_le_of_lt hp (by decide)
  clear hbody henc hr hq0
  obtain ⟨W1, hW1⟩ : ∃ W, w.alloc (.cells (tab 54 (rcF r)) 33) = W := ⟨_, rfl⟩
  have hB1 : Below w.heap.size w W1 := by rw [← hW1]; exact below_newD _ _
  have hR1 : Row W1 b0 33 54 (rcF r) := by rw [← hb0, ← hW1]; exact Row.new _ _ _ _
  have HGD := Lib.hid (fun u => good10_any r hrp hD.whole u)
  rw [hg] at HGD
  obtain ⟨V, hV⟩ : ∃ V, rcV r = V := ⟨_, rfl⟩
  have x1 : (bxT 33 V).run Tryz.prog w = .ok (.value (.pointer (some ⟨w.heap.size, 0, none⟩))) W1 := by rw [← hV, ← hW1]; exact boxP w _
  have HL := Lib.hid (fun (u : World) (hu : Below W1.heap.size W1 u) => loadRT rtP (hR1.of_below hu))
  have HD := Lib.hid (fun (u : World) (hu : Below W1.heap.size W1 u) => (hD.of_below hB1).of_below hu)
  have HB1 := Lib.hid hB1
  have HT := Lib.hid hT
  have ld := HL.out W1 (Below.refl _ _)
  rw [hV] at HGD HPT HL ld ⊢
  clear hB1 hR1 hW1 hV hD hg hT
  go_enter Tryz.func10, Tryz.ntmps10
  try rw [hb0]
  rw [hb0] at x1
  go_wp2_with fail
  refine (HGD.out _).mono ?_
  rintro e w2 ⟨rfl, hB2⟩
  clear x1 ld
  obtain ⟨W3, hW3⟩ : ∃ W, w2.alloc (.cells #[.slice none 0 0] 76) = W := ⟨_, rfl⟩
  obtain ⟨N, hN⟩ : ∃ N, w2.heap.size = N := ⟨_, rfl⟩
  have hz := wrP_zero w2.heap.size w2 (Nat.le_refl _)
  unfold zW at hz
  rw [hW3, hN] at hz
  have hB3 : Below w2.heap.size w2 W3 := by rw [← hW3]; exact below_newR _ _
  have HX3 := Lib.hid (hB2.trans (hB3.mono hB2.size))
  have hN1 : W1.heap.size ≤ N := by rw [← hN]; exact hB2.size
  have ld := HL.out W3 HX3.out
  have HZ := Lib.hid hz
  have HN := Lib.hid hN1
  clear hz hB2 hB3 hN1
  go_wp2_with fail
  clear ld hW3
  refine (HPT.out N W3 ⟨N, 0, none⟩ none [] HZ.out (HD.out _ HX3.out) (fun h0 c1 o1 e => by have := HQ0.out h0 c1 o1 e; have := HN.out; have := HB1.out.size; omega) (by decide)).mono ?_
  rintro e w4 ⟨rfl, g4, hW4, hg4, hK4⟩
  rw [List.nil_append] at hW4
  have hX4 : Below W1.heap.size W1 w4 := HX3.out.trans ⟨hK4.os, hK4.tape, hK4.output, hK4.size, fun k hk => hK4.block k (by have := HX3.out.size; omega) (by show k ≠ N; have := HN.out; omega) (by simp)⟩
  have HX4 := Lib.hid hX4
  have HW4 := Lib.hid hW4
  have HLB := Lib.hid hbl
  have HDN := Lib.hid (wrP_done N w4 ⟨N, 0, none⟩ g4 body hW4 (by omega))
  clear hW4 hg4 hK4 hX4 HPT HQ0 hbl
  go_wp2_with fail
  refine HDN.out.mono ?_
  rintro e w5 ⟨v5, rfl, hO5, hB5⟩
  obtain ⟨p5, c5, rfl, hs5, hp5, -⟩ := hO5.shape
  obtain ⟨W6, hW6⟩ : ∃ W, w5.alloc (.cells #[.slice p5 body.length c5] 35) = W := ⟨_, rfl⟩
  have hB6 : Below w5.heap.size w5 W6 := by rw [← hW6]; exact below_newR _ _
  have hc6 : W6.cell? ⟨w5.heap.size, 0, none⟩ = some (.slice p5 body.length c5) := by rw [← hW6]; exact World.cell?_alloc_new _ _ _ _
  have HX6 := Lib.hid (HX4.out.trans ((hB5.trans (hB6.mono hB5.size)).mono HX4.out.size))
  have HB46 := Lib.hid (hB5.trans (hB6.mono hB5.size))
  have HSM := Lib.hid (sum1_any body w5.heap.size 0 p5 body.length c5 W6 rfl hc6 (hs5.of_below hB6) (HT.out.on (HB1.out.trans (HX6.out.mono HB1.out.size))) (by have := HLB.out; omega))
  clear hO5 hs5 hp5 hB6 hc6 hB5 HDN
  go_wp2_with fail
  clear hW6
  refine HSM.out.mono ?_
  rintro e w7 ⟨rfl, hB7⟩
  have hB47 := HB46.out.trans (hB7.mono HB46.out.size)
  have hlie := wrP_lie _ _ _ _ _ HW4.out
  have hW7 := wrP_stay _ _ w7 _ _ _ HW4.out hB47.size (hB47.block _ hlie.2.1) (fun k hk => hB47.block k (hlie.2.2 k hk).2.1)
  have HX7 := Lib.hid (HX4.out.trans (hB47.mono HX4.out.size))
  have HDG := Lib.hid (wrP_digest N w7 ⟨N, 0, none⟩ g4 body (digL body) hW7 (by have := HLB.out; omega) (digL_len _))
  rw [← HEN.out] at HDG
  have HLE := Lib.hid (show enc.length < 1000000000 from by rw [HEN.out, List.length_append, digL_len]; have := HLB.out; omega)
  have HG4 := Lib.hid (fun k hk => (hlie.2.2 k hk).1)
  clear hB7 hB47 hW7 hlie HSM
  go_wp2_with fail
  refine HDG.out.mono ?_
  rintro e w8 ⟨rfl, g8, hW8, hg8, hK8⟩
  have hX8 : Below W1.heap.size W1 w8 := HX7.out.trans (hK8.below (show W1.heap.size ≤ N from HN.out) (fun k hk => Nat.le_trans HN.out (HG4.out k hk)) HX7.out.size)
  have HX8 := Lib.hid hX8
  have HDN := Lib.hid (wrP_done N w8 ⟨N, 0, none⟩ g8 enc hW8 HLE.out)
  clear hW8 hg8 hK8 hX8 HDG
  go_wp2_with fail
  refine HDN.out.mono ?_
  rintro e w9 ⟨v9, rfl, hO9, hB9⟩
  have HO9 := Lib.hid (show OwnB w9 w.heap.size v9 enc from hO9.lower (Nat.le_trans HB1.out.size HX8.out.size))
  have HB9 := Lib.hid (show Below w.heap.size w w9 from HB1.out.trans ((HX8.out.trans (hB9.mono HX8.out.size)).mono HB1.out.size))
  clear hO9 hB9
  go_wp2
  go_ret
  exact ⟨_, rfl, by first | exact HO9.out | (rw [← hb0]; exact HO9.out), by first | exact HB9.out | (rw [← hb0]; exact HB9.out)⟩
end Go.Proofs.YtfemgkamgokjcaaGreatDoor
/- Plain facts of records that are in order. -/
set_option maxRecDepth 100000
namespace Go.Proofs.YtfemgkamgokjcaaGreatDoor
open Go Go.RowKit
attribute [-go_sem] Sha.exec_store

theorem kind3_len {p : S8} (h : kindL p = 3) : p.length ≤ 100 := by
  unfold kindL at h
  split at h
  · rename_i hg
    unfold goodL at hg
    simp only [Bool.and_eq_true, decide_eq_true_eq] at hg
    exact hg.1
  · cases h
/-- What holds of a record that is in order. -/
theorem goodR_facts {r : Rc} (h : goodR r = true) : r.path.length ≤ 100 ∧ (0 ≤ r.size ∧ r.size ≤ 16384) ∧ 0 ≤ r.time ∧ 0 ≤ r.chg ∧ gdV r.ver = true ∧ r.n = nblk r.size.toNat ∧ (r.dead = true → r.size = 0 ∧ deq r.whole z32 = true) := by
  unfold goodR at h
  simp only [Bool.and_eq_true, decide_eq_true_eq, Bool.or_eq_true] at h
  obtain ⟨h1, h2, h3⟩ := h
  obtain ⟨k1, k2, k3⟩ := rfE_zero h1
  have k4 := okS_iff.1 k2
  unfold okV at k3
  simp only [Bool.and_eq_true] at k3
  refine ⟨kind3_len k1, ⟨k4.1, k4.2.1⟩, k4.2.2.1, k4.2.2.2, k3.1, h2, fun hd => ?_⟩
  rcases h3 with h4 | h4
  · rw [hd] at h4; cases h4
  · exact h4
theorem goodR_n {r : Rc} (h : goodR r = true) : r.n ≤ 64 := by
  obtain ⟨-, h2, -, -, -, h6, -⟩ := goodR_facts h
  rw [h6]
  unfold nblk
  omega
/-- A deleted record that is in order has no blocks: what is kept of it is the record itself. -/
theorem cut_good {w : World} {r : Rc} {ds : List By} (h : goodR r = true) (hD : DgAt w r ds) (q : Option Addr) (cap : Nat) : r.cut.mov q cap = r.mov q cap := by
  obtain ⟨-, -, -, -, -, h6, h7⟩ := goodR_facts h
  have hw := hD.whole
  obtain ⟨p, s, t, c, f, d, wh, q0, n, c0⟩ := r
  dsimp only at h6 h7 hw
  cases d with
  | false => rfl
  | true =>
    obtain ⟨e1, e2⟩ := h7 rfl
    have e3 := (deq_iff hw z32_len).1 e2
    subst e1 e3
    have e4 : n = 0 := by rw [h6]; rfl
    subst e4
    rfl
end Go.Proofs.YtfemgkamgokjcaaGreatDoor
/- A record's bytes, by the program and by the reference, of a record that is in order. -/
set_option maxRecDepth 100000
namespace Go.Proofs.YtfemgkamgokjcaaGreatDoor
open Go Go.RowKit
attribute [-go_sem] Sha.exec_store

theorem good_W {w : World} {r : Rc} {ds : List By} (hD : DgAt w r ds) (hg : goodR r = true) (ht : r.time < 9223372036854775808) (hc : r.chg < 9223372036854775808) : RcW (r.text ds) := by
  obtain ⟨k1, k2, k3, k4, k5, k6, -⟩ := goodR_facts hg
  exact text_W hD k1 (goodR_n hg) ⟨k2.1, by omega⟩ ⟨k3, ht⟩ ⟨k4, hc⟩ (gdV_iff.1 k5)
theorem bytes10_ok (r : Rc) (ds : List By) (w : World) (hD : DgAt w r ds) (hg : goodR r = true) (ht : r.time < 9223372036854775808) (hc : r.chg < 9223372036854775808) (hT : Tb w) :
    Calls Tryz.prog 10 #[rcV r] w (GivesB w (encRc (r.text ds))) := by
  have hW := good_W hD hg ht hc
  have hle := (encRc_len hW).1
  have hn := goodR_n hg
  have hds := hD.n
  obtain ⟨k1, k2, k3, k4, k5, k6, -⟩ := goodR_facts hg
  obtain ⟨p, s, t, c, f, d, wh, q, n, cap⟩ := r
  dsimp only at k1 k2 k3 k4 k5 hn hds ht hc
  obtain ⟨s', rfl⟩ := Int.eq_ofNat_of_zero_le k2.1
  obtain ⟨t', rfl⟩ := Int.eq_ofNat_of_zero_le k3
  obtain ⟨c', rfl⟩ := Int.eq_ofNat_of_zero_le k4
  refine bytes10_good p s' t' c' f d wh q n cap ds w hD (by omega) (by omega) (by omega) (by omega) (gdV_iff.1 k5) (by omega) hT hg ?_
  have e : encRc (Rc.text ⟨p, (s' : Int), (t' : Int), (c' : Int), f, d, wh, q, n, cap⟩ ds) = bodyRc ⟨pB p, s', t', c', f, d, wh, ds⟩ ++ digL (bodyRc ⟨pB p, s', t', c', f, d, wh, ds⟩) := rfl
  rw [e, List.length_append] at hle
  omega
theorem refBytes10_ok (r : Rc) (ds : List By) (w : World) (hD : DgAt w r ds) (hg : goodR r = true) (ht : r.time < 9223372036854775808) (hc : r.chg < 9223372036854775808) (hT : Tb w) :
    Calls Tryz.prog 13 #[rcV r] w (GivesB w (encRc (r.text ds))) := by
  have hn := goodR_n hg
  have hds := hD.n
  obtain ⟨k1, k2, k3, k4, k5, k6, -⟩ := goodR_facts hg
  obtain ⟨p, s, t, c, f, d, wh, q, n, cap⟩ := r
  dsimp only at k1 k2 k3 k4 k5 hn hds ht hc
  obtain ⟨s', rfl⟩ := Int.eq_ofNat_of_zero_le k2.1
  obtain ⟨t', rfl⟩ := Int.eq_ofNat_of_zero_le k3
  obtain ⟨c', rfl⟩ := Int.eq_ofNat_of_zero_le k4
  exact refBytes10_any p s' t' c' f d wh q n cap ds w hD (by omega) (by omega) (by omega) (by omega) (gdV_iff.1 k5) (by omega) hT
/-- What Parse tells of the bytes of a record that is in order. -/
theorem parse_good {w : World} {r : Rc} {ds : List By} (hD : DgAt w r ds) (hg : goodR r = true) (ht : r.time < 9223372036854775808) (hc : r.chg < 9223372036854775808) :
    ∃ (g : Nat → Int) (T : RcT), (∀ j, j < 16 → g j = r.ver j) ∧ parseC (encRc (r.text ds)) = (0, some T) ∧ (∀ q c, T.rc q c = { (r.mov q c) with ver := g }) ∧ T.ds = ds := by
  obtain ⟨k1, k2, k3, k4, k5, k6, k7⟩ := goodR_facts hg
  obtain ⟨g, hgv, hpe⟩ := parseC_back (good_W hD hg ht hc)
  have hgc : goodR r.cut = true := by
    have h1 : goodR r.cut = goodR (r.cut.mov none 0) := rfl
    have h2 : goodR r = goodR (r.mov none 0) := rfl
    rw [h1, cut_good hg hD, ← h2, hg]
  rw [goodT_cut hD k2.1 k3 k4 hgv, hgc, if_pos rfl] at hpe
  refine ⟨g, _, hgv, hpe, fun q c => ?_, ?_⟩
  · rw [nrm_rc hD k2.1 k3 k4 g q c, cut_good hg hD]
  · unfold RcT.nrm
    split
    · rename_i hd
      have h1 := (k7 hd).1
      have h2 : ds.length = 0 := by rw [← hD.n, k6, h1]; rfl
      exact (List.length_eq_zero_iff.1 h2).symm
    · rfl
end Go.Proofs.YtfemgkamgokjcaaGreatDoor
