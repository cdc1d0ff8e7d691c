/- VectorOrders. -/
import Derived.Test.YtdkbmidacpooiaaAwk9
set_option linter.unusedSimpArgs false
set_option linter.unusedVariables false
namespace Go.Proofs.Ytdkbmidacpooiaa
open Go Go.RowKit

attribute [local go_sem ↓] exec_boxA exec_loadA exec_indexA exec_allocA exec_storeA exec_buildA exec_eqlA exec_neqA exec_boxV exec_loadV exec_indexV exec_allocV exec_storeV exec_buildV exec_eqlV exec_neqV
attribute [local go_sem] boxA indexA storeNewA buildA eqlA neqA boxV indexV storeNewV buildV eqlV neqV

attribute [local go_sem ↓] exec_bsV
attribute [local go_sem] bsV1 bsV2 bsV3
theorem vecs_under (U : World) (Z : Obj) (l : List (Nat → Int)) (n k : Nat) (hl : l.length = n) (hk : k = 16 * n) : VecsAt ((U.alloc (.cells (tab k (vfs l)) 25)).alloc Z) (some ⟨U.heap.size, 0, none⟩) n l := by
  subst hk
  exact (VecsAt.row hl (Row.new U _ _ _)).of_below ((Below.refl _ _).alloc (Nat.le_refl _) _)
theorem vecs_over (U : World) (Z : Obj) (l : List (Nat → Int)) (n k : Nat) (hl : l.length = n) (hk : k = 16 * n) : VecsAt ((U.alloc Z).alloc (.cells (tab k (vfs l)) 25)) (some ⟨U.heap.size + 1, 0, none⟩) n l := by
  subst hk
  have h := VecsAt.row (T := 25) hl (Row.new (U.alloc Z) _ (16 * n) (vfs l))
  rw [World.size_alloc] at h
  exact h
theorem veq_self (f : Nat → Int) : veq f f = true := veq_iff.2 fun _ _ => rfl
theorem mg_two (a b : Nat → Int) : mgL [a, b] = mxV a b := rfl
theorem mx_comm (a b : Nat → Int) : veq (mxV a b) (mxV b a) = true := veq_iff.2 fun i _ => by show max (a i) (b i) = max (b i) (a i); omega
theorem mx_three (a b c : Nat → Int) : mgL [a, b, c] = mxV (mxV a b) c := rfl
theorem mx_good {a b : Nat → Int} (ha : gdV a = true) (hb : gdV b = true) : gdV (mxV a b) = true := gdV_iff.2 fun i hi => by
  have h1 := gdV_iff.1 ha i hi
  have h2 := gdV_iff.1 hb i hi
  show 0 ≤ max (a i) (b i) ∧ max (a i) (b i) ≤ 1099511627776
  omega
theorem cv_mx {a b c : Nat → Int} (h1 : cvV c a = true) (h2 : cvV c b = true) : cvV c (mxV a b) = true := cvV_iff.2 fun i hi => by
  have h3 := cvV_iff.1 h1 i hi
  have h4 := cvV_iff.1 h2 i hi
  show max (a i) (b i) ≤ c i
  omega
theorem threeRows (w : World) (T : TypeId) (f g h : Nat → Value) (n : Nat) : Row (((w.alloc (.cells (tab n f) T)).alloc (.cells (tab n g) T)).alloc (.cells (tab n h) T)) w.heap.size T n f ∧ Row (((w.alloc (.cells (tab n f) T)).alloc (.cells (tab n g) T)).alloc (.cells (tab n h) T)) (w.heap.size + 1) T n g ∧ Row (((w.alloc (.cells (tab n f) T)).alloc (.cells (tab n g) T)).alloc (.cells (tab n h) T)) (w.heap.size + 1 + 1) T n h ∧ Below w.heap.size w (((w.alloc (.cells (tab n f) T)).alloc (.cells (tab n g) T)).alloc (.cells (tab n h) T)) := by
  obtain ⟨r1, r2, hb⟩ := twoRows w T f g n
  have ha := (Below.refl ((w.alloc (.cells (tab n f) T)).alloc (.cells (tab n g) T)).heap.size ((w.alloc (.cells (tab n f) T)).alloc (.cells (tab n g) T))).alloc (Nat.le_refl _) (.cells (tab n h) T)
  have r3 := Row.new ((w.alloc (.cells (tab n f) T)).alloc (.cells (tab n g) T)) T n h
  rw [World.size_alloc, World.size_alloc] at r3
  exact ⟨r1.of_below ha, r2.of_below ha, r3, hb.trans (ha.mono hb.size)⟩
set_option maxRecDepth 100000 in
set_option maxHeartbeats 8000000 in
theorem orders_bad (a b c : Nat → Int) (w : World) (hbad : (gdV a && gdV b && gdV c) = false) : Calls Try.prog 3 #[vcV a, vcV b, vcV c] w fun e w' => e = .returned (.bool true) ∧ Below w.heap.size w w' := by
  have HAW := Lib.hid awake9
  obtain ⟨W0, hW0⟩ : ∃ W0, (((w.alloc (.cells (tab 16 (vf a)) 22)).alloc (.cells (tab 16 (vf b)) 22)).alloc (.cells (tab 16 (vf c)) 22)) = W0 := ⟨_, rfl⟩
  have HR := threeRows w 22 (vf a) (vf b) (vf c) 16
  rw [hW0] at HR
  have HE0 := Lib.hid hW0
  have HBW0 := Lib.hid HR.2.2.2
  have HS0 := Lib.hid (fun (u : World) (hu : Below W0.heap.size W0 u) => (⟨loadVT vtA (VecAt.of_row (HR.1.of_below hu) (Nat.le_refl _)), loadVT vtA (VecAt.of_row (HR.2.1.of_below hu) (Nat.le_refl _)), loadVT vtA (VecAt.of_row (HR.2.2.1.of_below hu) (Nat.le_refl _)), hu⟩ : (ldT 22 (.pointer (some ⟨w.heap.size, 0, none⟩))).run Try.prog u = .ok (.value (vcV a)) u ∧ (ldT 22 (.pointer (some ⟨w.heap.size + 1, 0, none⟩))).run Try.prog u = .ok (.value (vcV b)) u ∧ (ldT 22 (.pointer (some ⟨w.heap.size + 1 + 1, 0, none⟩))).run Try.prog u = .ok (.value (vcV c)) u ∧ Below W0.heap.size W0 u))
  have HR1 := Lib.hid HR
  have HGA := Lib.hid (fun u => good9_any a u)
  have HRA := Lib.hid (fun u => refGood9_any a u)
  have HGB := Lib.hid (fun u => good9_any b u)
  have HRB := Lib.hid (fun u => refGood9_any b u)
  have HRC := Lib.hid (fun u => refGood9_any c u)
  obtain ⟨ca, hca⟩ : ∃ x, gdV a = x := ⟨_, rfl⟩
  obtain ⟨cb, hcb⟩ : ∃ x, gdV b = x := ⟨_, rfl⟩
  obtain ⟨cc, hcc⟩ : ∃ x, gdV c = x := ⟨_, rfl⟩
  rw [hca] at HGA HRA hbad
  rw [hcb] at HGB HRB hbad
  rw [hcc] at HRC hbad
  clear hca hcb hcc hW0 HR
  cases ca with
  | false =>
    clear hbad
    go_enter Try.func3, Try.ntmps3
    go_wp2_with fail
    rw [HE0.out]
    refine (HAW.out _).mono ?_
    rintro e w1 ⟨rfl, hB1⟩
    obtain ⟨l1, l2, l3, -⟩ := HS0.out _ hB1
    go_wp2_with fail
    refine (HRA.out _).mono ?_
    rintro e W1 ⟨rfl, hB2⟩
    have hHX : Below W1.heap.size W1 W1 := Below.refl _ _
    have hbw := hB1.trans (hB2.mono hB1.size)
    have HBW1 := Lib.hid (HBW0.out.trans (hbw.mono HBW0.out.size))
    have HS1 := Lib.hid (fun (u : World) (hu : Below W1.heap.size W1 u) => (⟨(HS0.out u (hbw.trans (hu.mono hbw.size))).1, (HS0.out u (hbw.trans (hu.mono hbw.size))).2.1, (HS0.out u (hbw.trans (hu.mono hbw.size))).2.2.1, hu⟩ : (ldT 22 (.pointer (some ⟨w.heap.size, 0, none⟩))).run Try.prog u = .ok (.value (vcV a)) u ∧ (ldT 22 (.pointer (some ⟨w.heap.size + 1, 0, none⟩))).run Try.prog u = .ok (.value (vcV b)) u ∧ (ldT 22 (.pointer (some ⟨w.heap.size + 1 + 1, 0, none⟩))).run Try.prog u = .ok (.value (vcV c)) u ∧ Below W1.heap.size W1 u))
    clear l1 l2 l3 hB1 hB2
    cases cb <;> (
      go_wp2_with fail
      refine wp_region_noPanic ?_
      refine wp_region_held_drew (S := (fun u : World => (ldT 22 (.pointer (some ⟨w.heap.size, 0, none⟩))).run Try.prog u = .ok (.value (vcV a)) u ∧ (ldT 22 (.pointer (some ⟨w.heap.size + 1, 0, none⟩))).run Try.prog u = .ok (.value (vcV b)) u ∧ (ldT 22 (.pointer (some ⟨w.heap.size + 1 + 1, 0, none⟩))).run Try.prog u = .ok (.value (vcV c)) u ∧ Below W1.heap.size W1 u)) (by kernel_rfl) (HS1.out _ (hHX.drew)) (fun hHeld => ?_)
      refine wpAnyH_take (i := 0) (v := ?_) (by simp only [List.getElem?_toArray, List.getElem?_cons_succ, List.getElem?_cons_zero]; exact rfl) (by kernel_rfl) (by kernel_rfl) (by kernel_rfl) (fun _ _ _ h => h) (Or.inl ⟨by rfl, ?_⟩) (by assumption) ?_
      rotate_left 1
      · (intro w hSw; (try dsimp only at hSw); go_simp; try with_reducible rfl)
      try simp only [Act.put, List.setIfInBounds_toArray, List.set_cons_zero, List.set_cons_succ]
      refine wpAnyH_take (i := 2) (v := ?_) (by simp only [List.getElem?_toArray, List.getElem?_cons_succ, List.getElem?_cons_zero]; exact rfl) (by kernel_rfl) (by kernel_rfl) (by kernel_rfl) (fun _ _ _ h => h) (Or.inl ⟨by rfl, ?_⟩) (by assumption) ?_
      rotate_left 1
      · (intro w hSw; (try dsimp only at hSw); go_simp; try with_reducible rfl)
      try simp only [Act.put, List.setIfInBounds_toArray, List.set_cons_zero, List.set_cons_succ]
      refine wpAnyH_ready (rs := [1]) (by kernel_rfl) (by simp) ?_
      refine (AllReadyH.cons (by simp only [List.getElem?_toArray, List.getElem?_cons_succ, List.getElem?_cons_zero]; exact rfl) (fun K hK => ?_) AllReadyH.nil)
      go_simp
      refine (HGA.out _).mono ?_
      rintro e v1 ⟨rfl, hB1⟩
      go_wp2_with fail
      refine hK.out _ _ (HS1.out _ (hHeld.2.2.2.trans (hB1.mono hHeld.2.2.2.size))) (fun hHeld => ?_)
      clear hK K
      try simp only [Act.put, List.setIfInBounds_toArray, List.set_cons_zero, List.set_cons_succ]
      refine wpAnyH_ready (rs := [3]) (by kernel_rfl) (by simp) ?_
      refine (AllReadyH.cons (by simp only [List.getElem?_toArray, List.getElem?_cons_succ, List.getElem?_cons_zero]; exact rfl) (fun K hK => ?_) AllReadyH.nil)
      go_simp
      refine (HRA.out _).mono ?_
      rintro e v3 ⟨rfl, hB3⟩
      go_wp2_with fail
      refine hK.out _ _ (HS1.out _ (hHeld.2.2.2.trans (hB3.mono hHeld.2.2.2.size))) (fun hHeld => ?_)
      clear hK K
      try simp only [Act.put, List.setIfInBounds_toArray, List.set_cons_zero, List.set_cons_succ]
      refine wpAnyH_take (i := 4) (v := ?_) (by simp only [List.getElem?_toArray, List.getElem?_cons_succ, List.getElem?_cons_zero]; exact rfl) (by kernel_rfl) (by kernel_rfl) (by kernel_rfl) (fun _ _ _ h => h) (Or.inl ⟨by rfl, ?_⟩) (by assumption) ?_
      rotate_left 1
      · (intro w hSw; (try dsimp only at hSw); go_simp; try with_reducible rfl)
      try simp only [Act.put, List.setIfInBounds_toArray, List.set_cons_zero, List.set_cons_succ]
      refine wpAnyH_take (i := 5) (v := ?_) (by simp only [List.getElem?_toArray, List.getElem?_cons_succ, List.getElem?_cons_zero]; exact rfl) (by kernel_rfl) (by kernel_rfl) (by kernel_rfl) (fun _ _ _ h => h) (Or.inl ⟨by rfl, ?_⟩) (by assumption) ?_
      rotate_left 1
      · (intro w hSw; (try dsimp only at hSw); go_simp; try with_reducible rfl)
      try simp only [Act.put, List.setIfInBounds_toArray, List.set_cons_zero, List.set_cons_succ]
      refine wpAnyH_take (i := 6) (v := ?_) (by simp only [List.getElem?_toArray, List.getElem?_cons_succ, List.getElem?_cons_zero]; exact rfl) (by kernel_rfl) (by kernel_rfl) (by kernel_rfl) (fun _ _ _ h => h) (Or.inl ⟨by rfl, ?_⟩) (by assumption) ?_
      rotate_left 1
      · (intro w hSw; (try dsimp only at hSw); go_simp; try with_reducible rfl)
      try simp only [Act.put, List.setIfInBounds_toArray, List.set_cons_zero, List.set_cons_succ]
      refine wpAnyH_take (i := 8) (v := ?_) (by simp only [List.getElem?_toArray, List.getElem?_cons_succ, List.getElem?_cons_zero]; exact rfl) (by kernel_rfl) (by kernel_rfl) (by kernel_rfl) (fun _ _ _ h => h) (Or.inl ⟨by rfl, ?_⟩) (by assumption) ?_
      rotate_left 1
      · (intro w hSw; (try dsimp only at hSw); go_simp; try with_reducible rfl)
      try simp only [Act.put, List.setIfInBounds_toArray, List.set_cons_zero, List.set_cons_succ]
      refine wpAnyH_ready (rs := [7]) (by kernel_rfl) (by simp) ?_
      refine (AllReadyH.cons (by simp only [List.getElem?_toArray, List.getElem?_cons_succ, List.getElem?_cons_zero]; exact rfl) (fun K hK => ?_) AllReadyH.nil)
      go_simp
      refine (HGB.out _).mono ?_
      rintro e v7 ⟨rfl, hB7⟩
      go_wp2_with fail
      refine hK.out _ _ (HS1.out _ (hHeld.2.2.2.trans (hB7.mono hHeld.2.2.2.size))) (fun hHeld => ?_)
      clear hK K
      try simp only [Act.put, List.setIfInBounds_toArray, List.set_cons_zero, List.set_cons_succ]
      refine wpAnyH_ready (rs := [9]) (by kernel_rfl) (by simp) ?_
      refine (AllReadyH.cons (by simp only [List.getElem?_toArray, List.getElem?_cons_succ, List.getElem?_cons_zero]; exact rfl) (fun K hK => ?_) AllReadyH.nil)
      go_simp
      refine (HRB.out _).mono ?_
      rintro e v9 ⟨rfl, hB9⟩
      go_wp2_with fail
      refine hK.out _ _ (HS1.out _ (hHeld.2.2.2.trans (hB9.mono hHeld.2.2.2.size))) (fun hHeld => ?_)
      clear hK K
      try simp only [Act.put, List.setIfInBounds_toArray, List.set_cons_zero, List.set_cons_succ]
      refine wpAnyH_take (i := 10) (v := ?_) (by simp only [List.getElem?_toArray, List.getElem?_cons_succ, List.getElem?_cons_zero]; exact rfl) (by kernel_rfl) (by kernel_rfl) (by kernel_rfl) (fun _ _ _ h => h) (Or.inl ⟨by rfl, ?_⟩) (by assumption) ?_
      rotate_left 1
      · (intro w hSw; (try dsimp only at hSw); go_simp; try with_reducible rfl)
      try simp only [Act.put, List.setIfInBounds_toArray, List.set_cons_zero, List.set_cons_succ]
      refine wpAnyH_take (i := 11) (v := ?_) (by simp only [List.getElem?_toArray, List.getElem?_cons_succ, List.getElem?_cons_zero]; exact rfl) (by kernel_rfl) (by kernel_rfl) (by kernel_rfl) (fun _ _ _ h => h) (Or.inl ⟨by rfl, ?_⟩) (by assumption) ?_
      rotate_left 1
      · (intro w hSw; (try dsimp only at hSw); go_simp; try with_reducible rfl)
      try simp only [Act.put, List.setIfInBounds_toArray, List.set_cons_zero, List.set_cons_succ]
      refine wpAnyH_take (i := 12) (v := ?_) (by simp only [List.getElem?_toArray, List.getElem?_cons_succ, List.getElem?_cons_zero]; exact rfl) (by kernel_rfl) (by kernel_rfl) (by kernel_rfl) (fun _ _ _ h => h) (Or.inl ⟨by rfl, ?_⟩) (by assumption) ?_
      rotate_left 1
      · (intro w hSw; (try dsimp only at hSw); go_simp; try with_reducible rfl)
      try simp only [Act.put, List.setIfInBounds_toArray, List.set_cons_zero, List.set_cons_succ]
      refine wpAnyH_done (by kernel_rfl) ?_ _
      refine NoPanic.normal ?_
      go_wp2
      go_ret
      exact ⟨rfl, HBW1.out.trans (hHeld.2.2.2.mono HBW1.out.size)⟩)
  | true =>
    cases cb with
    | false =>
      clear hbad
      go_enter Try.func3, Try.ntmps3
      go_wp2_with fail
      rw [HE0.out]
      refine (HAW.out _).mono ?_
      rintro e w1 ⟨rfl, hB1⟩
      obtain ⟨l1, l2, l3, -⟩ := HS0.out _ hB1
      go_wp2_with fail
      refine (HRA.out _).mono ?_
      rintro e w2 ⟨rfl, hB2⟩
      have hbv := hB1.trans (hB2.mono hB1.size)
      clear l1 l2 l3
      obtain ⟨l1, l2, l3, -⟩ := HS0.out _ hbv
      go_wp2_with fail
      refine (HRB.out _).mono ?_
      rintro e W1 ⟨rfl, hB3⟩
      have hHX : Below W1.heap.size W1 W1 := Below.refl _ _
      have hbw := hbv.trans (hB3.mono hbv.size)
      have HBW1 := Lib.hid (HBW0.out.trans (hbw.mono HBW0.out.size))
      have HS1 := Lib.hid (fun (u : World) (hu : Below W1.heap.size W1 u) => (⟨(HS0.out u (hbw.trans (hu.mono hbw.size))).1, (HS0.out u (hbw.trans (hu.mono hbw.size))).2.1, (HS0.out u (hbw.trans (hu.mono hbw.size))).2.2.1, hu⟩ : (ldT 22 (.pointer (some ⟨w.heap.size, 0, none⟩))).run Try.prog u = .ok (.value (vcV a)) u ∧ (ldT 22 (.pointer (some ⟨w.heap.size + 1, 0, none⟩))).run Try.prog u = .ok (.value (vcV b)) u ∧ (ldT 22 (.pointer (some ⟨w.heap.size + 1 + 1, 0, none⟩))).run Try.prog u = .ok (.value (vcV c)) u ∧ Below W1.heap.size W1 u))
      clear l1 l2 l3 hB1 hB2 hB3 hbv
      go_wp2_with fail
      refine wp_region_noPanic ?_
      refine wp_region_held_drew (S := (fun u : World => (ldT 22 (.pointer (some ⟨w.heap.size, 0, none⟩))).run Try.prog u = .ok (.value (vcV a)) u ∧ (ldT 22 (.pointer (some ⟨w.heap.size + 1, 0, none⟩))).run Try.prog u = .ok (.value (vcV b)) u ∧ (ldT 22 (.pointer (some ⟨w.heap.size + 1 + 1, 0, none⟩))).run Try.prog u = .ok (.value (vcV c)) u ∧ Below W1.heap.size W1 u)) (by kernel_rfl) (HS1.out _ (hHX.drew)) (fun hHeld => ?_)
      refine wpAnyH_take (i := 0) (v := ?_) (by simp only [List.getElem?_toArray, List.getElem?_cons_succ, List.getElem?_cons_zero]; exact rfl) (by kernel_rfl) (by kernel_rfl) (by kernel_rfl) (fun _ _ _ h => h) (Or.inl ⟨by rfl, ?_⟩) (by assumption) ?_
      rotate_left 1
      · (intro w hSw; (try dsimp only at hSw); go_simp; try with_reducible rfl)
      try simp only [Act.put, List.setIfInBounds_toArray, List.set_cons_zero, List.set_cons_succ]
      refine wpAnyH_take (i := 2) (v := ?_) (by simp only [List.getElem?_toArray, List.getElem?_cons_succ, List.getElem?_cons_zero]; exact rfl) (by kernel_rfl) (by kernel_rfl) (by kernel_rfl) (fun _ _ _ h => h) (Or.inl ⟨by rfl, ?_⟩) (by assumption) ?_
      rotate_left 1
      · (intro w hSw; (try dsimp only at hSw); go_simp; try with_reducible rfl)
      try simp only [Act.put, List.setIfInBounds_toArray, List.set_cons_zero, List.set_cons_succ]
      refine wpAnyH_ready (rs := [1]) (by kernel_rfl) (by simp) ?_
      refine (AllReadyH.cons (by simp only [List.getElem?_toArray, List.getElem?_cons_succ, List.getElem?_cons_zero]; exact rfl) (fun K hK => ?_) AllReadyH.nil)
      go_simp
      refine (HGA.out _).mono ?_
      rintro e v1 ⟨rfl, hB1⟩
      go_wp2_with fail
      refine hK.out _ _ (HS1.out _ (hHeld.2.2.2.trans (hB1.mono hHeld.2.2.2.size))) (fun hHeld => ?_)
      clear hK K
      try simp only [Act.put, List.setIfInBounds_toArray, List.set_cons_zero, List.set_cons_succ]
      refine wpAnyH_ready (rs := [3]) (by kernel_rfl) (by simp) ?_
      refine (AllReadyH.cons (by simp only [List.getElem?_toArray, List.getElem?_cons_succ, List.getElem?_cons_zero]; exact rfl) (fun K hK => ?_) AllReadyH.nil)
      go_simp
      refine (HRA.out _).mono ?_
      rintro e v3 ⟨rfl, hB3⟩
      go_wp2_with fail
      refine hK.out _ _ (HS1.out _ (hHeld.2.2.2.trans (hB3.mono hHeld.2.2.2.size))) (fun hHeld => ?_)
      clear hK K
      try simp only [Act.put, List.setIfInBounds_toArray, List.set_cons_zero, List.set_cons_succ]
      refine wpAnyH_take (i := 4) (v := ?_) (by simp only [List.getElem?_toArray, List.getElem?_cons_succ, List.getElem?_cons_zero]; exact rfl) (by kernel_rfl) (by kernel_rfl) (by kernel_rfl) (fun _ _ _ h => h) (Or.inl ⟨by rfl, ?_⟩) (by assumption) ?_
      rotate_left 1
      · (intro w hSw; (try dsimp only at hSw); go_simp; try with_reducible rfl)
      try simp only [Act.put, List.setIfInBounds_toArray, List.set_cons_zero, List.set_cons_succ]
      refine wpAnyH_take (i := 5) (v := ?_) (by simp only [List.getElem?_toArray, List.getElem?_cons_succ, List.getElem?_cons_zero]; exact rfl) (by kernel_rfl) (by kernel_rfl) (by kernel_rfl) (fun _ _ _ h => h) (Or.inl ⟨by rfl, ?_⟩) (by assumption) ?_
      rotate_left 1
      · (intro w hSw; (try dsimp only at hSw); go_simp; try with_reducible rfl)
      try simp only [Act.put, List.setIfInBounds_toArray, List.set_cons_zero, List.set_cons_succ]
      refine wpAnyH_take (i := 6) (v := ?_) (by simp only [List.getElem?_toArray, List.getElem?_cons_succ, List.getElem?_cons_zero]; exact rfl) (by kernel_rfl) (by kernel_rfl) (by kernel_rfl) (fun _ _ _ h => h) (Or.inl ⟨by rfl, ?_⟩) (by assumption) ?_
      rotate_left 1
      · (intro w hSw; (try dsimp only at hSw); go_simp; try with_reducible rfl)
      try simp only [Act.put, List.setIfInBounds_toArray, List.set_cons_zero, List.set_cons_succ]
      refine wpAnyH_take (i := 8) (v := ?_) (by simp only [List.getElem?_toArray, List.getElem?_cons_succ, List.getElem?_cons_zero]; exact rfl) (by kernel_rfl) (by kernel_rfl) (by kernel_rfl) (fun _ _ _ h => h) (Or.inl ⟨by rfl, ?_⟩) (by assumption) ?_
      rotate_left 1
      · (intro w hSw; (try dsimp only at hSw); go_simp; try with_reducible rfl)
      try simp only [Act.put, List.setIfInBounds_toArray, List.set_cons_zero, List.set_cons_succ]
      refine wpAnyH_ready (rs := [7]) (by kernel_rfl) (by simp) ?_
      refine (AllReadyH.cons (by simp only [List.getElem?_toArray, List.getElem?_cons_succ, List.getElem?_cons_zero]; exact rfl) (fun K hK => ?_) AllReadyH.nil)
      go_simp
      refine (HGB.out _).mono ?_
      rintro e v7 ⟨rfl, hB7⟩
      go_wp2_with fail
      refine hK.out _ _ (HS1.out _ (hHeld.2.2.2.trans (hB7.mono hHeld.2.2.2.size))) (fun hHeld => ?_)
      clear hK K
      try simp only [Act.put, List.setIfInBounds_toArray, List.set_cons_zero, List.set_cons_succ]
      refine wpAnyH_ready (rs := [9]) (by kernel_rfl) (by simp) ?_
      refine (AllReadyH.cons (by simp only [List.getElem?_toArray, List.getElem?_cons_succ, List.getElem?_cons_zero]; exact rfl) (fun K hK => ?_) AllReadyH.nil)
      go_simp
      refine (HRB.out _).mono ?_
      rintro e v9 ⟨rfl, hB9⟩
      go_wp2_with fail
      refine hK.out _ _ (HS1.out _ (hHeld.2.2.2.trans (hB9.mono hHeld.2.2.2.size))) (fun hHeld => ?_)
      clear hK K
      try simp only [Act.put, List.setIfInBounds_toArray, List.set_cons_zero, List.set_cons_succ]
      refine wpAnyH_take (i := 10) (v := ?_) (by simp only [List.getElem?_toArray, List.getElem?_cons_succ, List.getElem?_cons_zero]; exact rfl) (by kernel_rfl) (by kernel_rfl) (by kernel_rfl) (fun _ _ _ h => h) (Or.inl ⟨by rfl, ?_⟩) (by assumption) ?_
      rotate_left 1
      · (intro w hSw; (try dsimp only at hSw); go_simp; try with_reducible rfl)
      try simp only [Act.put, List.setIfInBounds_toArray, List.set_cons_zero, List.set_cons_succ]
      refine wpAnyH_take (i := 11) (v := ?_) (by simp only [List.getElem?_toArray, List.getElem?_cons_succ, List.getElem?_cons_zero]; exact rfl) (by kernel_rfl) (by kernel_rfl) (by kernel_rfl) (fun _ _ _ h => h) (Or.inl ⟨by rfl, ?_⟩) (by assumption) ?_
      rotate_left 1
      · (intro w hSw; (try dsimp only at hSw); go_simp; try with_reducible rfl)
      try simp only [Act.put, List.setIfInBounds_toArray, List.set_cons_zero, List.set_cons_succ]
      refine wpAnyH_take (i := 12) (v := ?_) (by simp only [List.getElem?_toArray, List.getElem?_cons_succ, List.getElem?_cons_zero]; exact rfl) (by kernel_rfl) (by kernel_rfl) (by kernel_rfl) (fun _ _ _ h => h) (Or.inl ⟨by rfl, ?_⟩) (by assumption) ?_
      rotate_left 1
      · (intro w hSw; (try dsimp only at hSw); go_simp; try with_reducible rfl)
      try simp only [Act.put, List.setIfInBounds_toArray, List.set_cons_zero, List.set_cons_succ]
      refine wpAnyH_done (by kernel_rfl) ?_ _
      refine NoPanic.normal ?_
      go_wp2
      go_ret
      exact ⟨rfl, HBW1.out.trans (hHeld.2.2.2.mono HBW1.out.size)⟩
    | true =>
      obtain rfl : cc = false := hbad
      try clear hbad
      go_enter Try.func3, Try.ntmps3
      go_wp2_with fail
      rw [HE0.out]
      refine (HAW.out _).mono ?_
      rintro e w1 ⟨rfl, hB1⟩
      obtain ⟨l1, l2, l3, -⟩ := HS0.out _ hB1
      go_wp2_with fail
      refine (HRA.out _).mono ?_
      rintro e w2 ⟨rfl, hB2⟩
      have hbv := hB1.trans (hB2.mono hB1.size)
      clear l1 l2 l3
      obtain ⟨l1, l2, l3, -⟩ := HS0.out _ hbv
      go_wp2_with fail
      refine (HRB.out _).mono ?_
      rintro e w3 ⟨rfl, hB3⟩
      have hbx := hbv.trans (hB3.mono hbv.size)
      clear l1 l2 l3
      obtain ⟨l1, l2, l3, -⟩ := HS0.out _ hbx
      go_wp2_with fail
      refine (HRC.out _).mono ?_
      rintro e W1 ⟨rfl, hB4⟩
      have hHX : Below W1.heap.size W1 W1 := Below.refl _ _
      have hbw := hbx.trans (hB4.mono hbx.size)
      have HBW1 := Lib.hid (HBW0.out.trans (hbw.mono HBW0.out.size))
      have HS1 := Lib.hid (fun (u : World) (hu : Below W1.heap.size W1 u) => (⟨(HS0.out u (hbw.trans (hu.mono hbw.size))).1, (HS0.out u (hbw.trans (hu.mono hbw.size))).2.1, (HS0.out u (hbw.trans (hu.mono hbw.size))).2.2.1, hu⟩ : (ldT 22 (.pointer (some ⟨w.heap.size, 0, none⟩))).run Try.prog u = .ok (.value (vcV a)) u ∧ (ldT 22 (.pointer (some ⟨w.heap.size + 1, 0, none⟩))).run Try.prog u = .ok (.value (vcV b)) u ∧ (ldT 22 (.pointer (some ⟨w.heap.size + 1 + 1, 0, none⟩))).run Try.prog u = .ok (.value (vcV c)) u ∧ Below W1.heap.size W1 u))
      clear l1 l2 l3 hB1 hB2 hB3 hB4 hbv hbx
      go_wp2_with fail
      refine wp_region_noPanic ?_
      refine wp_region_held_drew (S := (fun u : World => (ldT 22 (.pointer (some ⟨w.heap.size, 0, none⟩))).run Try.prog u = .ok (.value (vcV a)) u ∧ (ldT 22 (.pointer (some ⟨w.heap.size + 1, 0, none⟩))).run Try.prog u = .ok (.value (vcV b)) u ∧ (ldT 22 (.pointer (some ⟨w.heap.size + 1 + 1, 0, none⟩))).run Try.prog u = .ok (.value (vcV c)) u ∧ Below W1.heap.size W1 u)) (by kernel_rfl) (HS1.out _ (hHX.drew)) (fun hHeld => ?_)
      refine wpAnyH_take (i := 0) (v := ?_) (by simp only [List.getElem?_toArray, List.getElem?_cons_succ, List.getElem?_cons_zero]; exact rfl) (by kernel_rfl) (by kernel_rfl) (by kernel_rfl) (fun _ _ _ h => h) (Or.inl ⟨by rfl, ?_⟩) (by assumption) ?_
      rotate_left 1
      · (intro w hSw; (try dsimp only at hSw); go_simp; try with_reducible rfl)
      try simp only [Act.put, List.setIfInBounds_toArray, List.set_cons_zero, List.set_cons_succ]
      refine wpAnyH_take (i := 2) (v := ?_) (by simp only [List.getElem?_toArray, List.getElem?_cons_succ, List.getElem?_cons_zero]; exact rfl) (by kernel_rfl) (by kernel_rfl) (by kernel_rfl) (fun _ _ _ h => h) (Or.inl ⟨by rfl, ?_⟩) (by assumption) ?_
      rotate_left 1
      · (intro w hSw; (try dsimp only at hSw); go_simp; try with_reducible rfl)
      try simp only [Act.put, List.setIfInBounds_toArray, List.set_cons_zero, List.set_cons_succ]
      refine wpAnyH_ready (rs := [1]) (by kernel_rfl) (by simp) ?_
      refine (AllReadyH.cons (by simp only [List.getElem?_toArray, List.getElem?_cons_succ, List.getElem?_cons_zero]; exact rfl) (fun K hK => ?_) AllReadyH.nil)
      go_simp
      refine (HGA.out _).mono ?_
      rintro e v1 ⟨rfl, hB1⟩
      go_wp2_with fail
      refine hK.out _ _ (HS1.out _ (hHeld.2.2.2.trans (hB1.mono hHeld.2.2.2.size))) (fun hHeld => ?_)
      clear hK K
      try simp only [Act.put, List.setIfInBounds_toArray, List.set_cons_zero, List.set_cons_succ]
      refine wpAnyH_ready (rs := [3]) (by kernel_rfl) (by simp) ?_
      refine (AllReadyH.cons (by simp only [List.getElem?_toArray, List.getElem?_cons_succ, List.getElem?_cons_zero]; exact rfl) (fun K hK => ?_) AllReadyH.nil)
      go_simp
      refine (HRA.out _).mono ?_
      rintro e v3 ⟨rfl, hB3⟩
      go_wp2_with fail
      refine hK.out _ _ (HS1.out _ (hHeld.2.2.2.trans (hB3.mono hHeld.2.2.2.size))) (fun hHeld => ?_)
      clear hK K
      try simp only [Act.put, List.setIfInBounds_toArray, List.set_cons_zero, List.set_cons_succ]
      refine wpAnyH_take (i := 4) (v := ?_) (by simp only [List.getElem?_toArray, List.getElem?_cons_succ, List.getElem?_cons_zero]; exact rfl) (by kernel_rfl) (by kernel_rfl) (by kernel_rfl) (fun _ _ _ h => h) (Or.inl ⟨by rfl, ?_⟩) (by assumption) ?_
      rotate_left 1
      · (intro w hSw; (try dsimp only at hSw); go_simp; try with_reducible rfl)
      try simp only [Act.put, List.setIfInBounds_toArray, List.set_cons_zero, List.set_cons_succ]
      refine wpAnyH_take (i := 5) (v := ?_) (by simp only [List.getElem?_toArray, List.getElem?_cons_succ, List.getElem?_cons_zero]; exact rfl) (by kernel_rfl) (by kernel_rfl) (by kernel_rfl) (fun _ _ _ h => h) (Or.inl ⟨by rfl, ?_⟩) (by assumption) ?_
      rotate_left 1
      · (intro w hSw; (try dsimp only at hSw); go_simp; try with_reducible rfl)
      try simp only [Act.put, List.setIfInBounds_toArray, List.set_cons_zero, List.set_cons_succ]
      refine wpAnyH_take (i := 6) (v := ?_) (by simp only [List.getElem?_toArray, List.getElem?_cons_succ, List.getElem?_cons_zero]; exact rfl) (by kernel_rfl) (by kernel_rfl) (by kernel_rfl) (fun _ _ _ h => h) (Or.inl ⟨by rfl, ?_⟩) (by assumption) ?_
      rotate_left 1
      · (intro w hSw; (try dsimp only at hSw); go_simp; try with_reducible rfl)
      try simp only [Act.put, List.setIfInBounds_toArray, List.set_cons_zero, List.set_cons_succ]
      refine wpAnyH_take (i := 8) (v := ?_) (by simp only [List.getElem?_toArray, List.getElem?_cons_succ, List.getElem?_cons_zero]; exact rfl) (by kernel_rfl) (by kernel_rfl) (by kernel_rfl) (fun _ _ _ h => h) (Or.inl ⟨by rfl, ?_⟩) (by assumption) ?_
      rotate_left 1
      · (intro w hSw; (try dsimp only at hSw); go_simp; try with_reducible rfl)
      try simp only [Act.put, List.setIfInBounds_toArray, List.set_cons_zero, List.set_cons_succ]
      refine wpAnyH_ready (rs := [7]) (by kernel_rfl) (by simp) ?_
      refine (AllReadyH.cons (by simp only [List.getElem?_toArray, List.getElem?_cons_succ, List.getElem?_cons_zero]; exact rfl) (fun K hK => ?_) AllReadyH.nil)
      go_simp
      refine (HGB.out _).mono ?_
      rintro e v7 ⟨rfl, hB7⟩
      go_wp2_with fail
      refine hK.out _ _ (HS1.out _ (hHeld.2.2.2.trans (hB7.mono hHeld.2.2.2.size))) (fun hHeld => ?_)
      clear hK K
      try simp only [Act.put, List.setIfInBounds_toArray, List.set_cons_zero, List.set_cons_succ]
      refine wpAnyH_ready (rs := [9]) (by kernel_rfl) (by simp) ?_
      refine (AllReadyH.cons (by simp only [List.getElem?_toArray, List.getElem?_cons_succ, List.getElem?_cons_zero]; exact rfl) (fun K hK => ?_) AllReadyH.nil)
      go_simp
      refine (HRB.out _).mono ?_
      rintro e v9 ⟨rfl, hB9⟩
      go_wp2_with fail
      refine hK.out _ _ (HS1.out _ (hHeld.2.2.2.trans (hB9.mono hHeld.2.2.2.size))) (fun hHeld => ?_)
      clear hK K
      try simp only [Act.put, List.setIfInBounds_toArray, List.set_cons_zero, List.set_cons_succ]
      refine wpAnyH_take (i := 10) (v := ?_) (by simp only [List.getElem?_toArray, List.getElem?_cons_succ, List.getElem?_cons_zero]; exact rfl) (by kernel_rfl) (by kernel_rfl) (by kernel_rfl) (fun _ _ _ h => h) (Or.inl ⟨by rfl, ?_⟩) (by assumption) ?_
      rotate_left 1
      · (intro w hSw; (try dsimp only at hSw); go_simp; try with_reducible rfl)
      try simp only [Act.put, List.setIfInBounds_toArray, List.set_cons_zero, List.set_cons_succ]
      refine wpAnyH_take (i := 11) (v := ?_) (by simp only [List.getElem?_toArray, List.getElem?_cons_succ, List.getElem?_cons_zero]; exact rfl) (by kernel_rfl) (by kernel_rfl) (by kernel_rfl) (fun _ _ _ h => h) (Or.inl ⟨by rfl, ?_⟩) (by assumption) ?_
      rotate_left 1
      · (intro w hSw; (try dsimp only at hSw); go_simp; try with_reducible rfl)
      try simp only [Act.put, List.setIfInBounds_toArray, List.set_cons_zero, List.set_cons_succ]
      refine wpAnyH_take (i := 12) (v := ?_) (by simp only [List.getElem?_toArray, List.getElem?_cons_succ, List.getElem?_cons_zero]; exact rfl) (by kernel_rfl) (by kernel_rfl) (by kernel_rfl) (fun _ _ _ h => h) (Or.inl ⟨by rfl, ?_⟩) (by assumption) ?_
      rotate_left 1
      · (intro w hSw; (try dsimp only at hSw); go_simp; try with_reducible rfl)
      try simp only [Act.put, List.setIfInBounds_toArray, List.set_cons_zero, List.set_cons_succ]
      refine wpAnyH_done (by kernel_rfl) ?_ _
      refine NoPanic.normal ?_
      go_wp2
      go_ret
      exact ⟨rfl, HBW1.out.trans (hHeld.2.2.2.mono HBW1.out.size)⟩
set_option maxRecDepth 100000 in
set_option maxHeartbeats 16000000 in
theorem orders_good (a b c : Nat → Int) (w : World) (ga : gdV a = true) (gb : gdV b = true) (gc : gdV c = true) : Calls Try.prog 3 #[vcV a, vcV b, vcV c] w fun e w' => e = .returned (.bool true) ∧ Below w.heap.size w w' := by
  have HAW := Lib.hid awake9
  obtain ⟨W0, hW0⟩ : ∃ W0, (((w.alloc (.cells (tab 16 (vf a)) 22)).alloc (.cells (tab 16 (vf b)) 22)).alloc (.cells (tab 16 (vf c)) 22)) = W0 := ⟨_, rfl⟩
  have HR := threeRows w 22 (vf a) (vf b) (vf c) 16
  rw [hW0] at HR
  have HE0 := Lib.hid hW0
  have HBW0 := Lib.hid HR.2.2.2
  have HS0 := Lib.hid (fun (u : World) (hu : Below W0.heap.size W0 u) => (⟨loadVT vtA (VecAt.of_row (HR.1.of_below hu) (Nat.le_refl _)), loadVT vtA (VecAt.of_row (HR.2.1.of_below hu) (Nat.le_refl _)), loadVT vtA (VecAt.of_row (HR.2.2.1.of_below hu) (Nat.le_refl _)), hu⟩ : (ldT 22 (.pointer (some ⟨w.heap.size, 0, none⟩))).run Try.prog u = .ok (.value (vcV a)) u ∧ (ldT 22 (.pointer (some ⟨w.heap.size + 1, 0, none⟩))).run Try.prog u = .ok (.value (vcV b)) u ∧ (ldT 22 (.pointer (some ⟨w.heap.size + 1 + 1, 0, none⟩))).run Try.prog u = .ok (.value (vcV c)) u ∧ Below W0.heap.size W0 u))
  have HR1 := Lib.hid HR
  have HRA := Lib.hid (fun u => refGood9_any a u)
  have HRB := Lib.hid (fun u => refGood9_any b u)
  have HRC := Lib.hid (fun u => refGood9_any c u)
  rw [ga] at HRA
  rw [gb] at HRB
  rw [gc] at HRC
  have HMA := Lib.hid (fun (u : World) q (h : VecsAt u q 2 [a, b]) => merge_any [a, b] q 2 2 u h (by decide) (Nat.le_refl _))
  have HMB := Lib.hid (fun (u : World) q (h : VecsAt u q 2 [b, a]) => merge_any [b, a] q 2 2 u h (by decide) (Nat.le_refl _))
  have HM3 := Lib.hid (fun (u : World) q (h : VecsAt u q 3 [a, b, c]) => merge_any [a, b, c] q 3 3 u h (by decide) (Nat.le_refl _))
  have HM1 := Lib.hid (fun (u : World) q (h : VecsAt u q 1 [a]) => merge_any [a] q 1 1 u h (by decide) (Nat.le_refl _))
  have HM0 := Lib.hid (fun (u : World) => merge_any [] none 0 0 u (VecsAt.nil _ _) (by decide) (Nat.le_refl _))
  have HC1 := Lib.hid (fun u => compare_any a b u)
  have HC2 := Lib.hid (fun u => refCompare_any a b u)
  have HRM := Lib.hid (fun u => refMerge_any a b u)
  have HV1 := Lib.hid (fun u => refCovers_any c a u)
  have HV2 := Lib.hid (fun u => refCovers_any c b u)
  have y1 := mx_comm a b
  have HGM0 := mx_good ga gb
  have HCV0 : cvV c a = true → cvV c b = true → cvV c (mxV a b) = true := cv_mx
  have hm1 : mgL [a] = a := rfl
  have hm0 : mgL [] = fun _ => 0 := rfl
  rw [hm1] at HM1
  rw [hm0] at HM0
  rw [mg_two] at HMA HMB
  rw [mx_three] at HM3
  obtain ⟨m, hm⟩ : ∃ m, mxV a b = m := ⟨_, rfl⟩
  obtain ⟨mb, hmb⟩ : ∃ m, mxV b a = m := ⟨_, rfl⟩
  rw [hm] at HMA HRM y1 HGM0 HCV0 HM3
  rw [hmb] at HMB y1
  have HMC := Lib.hid (fun (u : World) q (h : VecsAt u q 2 [m, c]) => merge_any [m, c] q 2 2 u h (by decide) (Nat.le_refl _))
  rw [mg_two] at HMC
  obtain ⟨mc, hmc⟩ : ∃ x, mxV m c = x := ⟨_, rfl⟩
  rw [hmc] at HMC HM3
  have HGM := Lib.hid (fun u => good9_any m u)
  rw [HGM0] at HGM
  have HV3 := Lib.hid (fun u => refCovers_any c m u)
  obtain ⟨c1, hc1⟩ : ∃ x, cvV c a = x := ⟨_, rfl⟩
  obtain ⟨c2, hc2⟩ : ∃ x, cvV c b = x := ⟨_, rfl⟩
  obtain ⟨c3, hc3⟩ : ∃ x, cvV c m = x := ⟨_, rfl⟩
  obtain ⟨cab, hcab⟩ : ∃ x, cmpV a b = x := ⟨_, rfl⟩
  rw [hc1] at HV1 HCV0
  rw [hc2] at HV2 HCV0
  rw [hc3] at HV3 HCV0
  rw [hcab] at HC1 HC2
  have HCV := Lib.hid HCV0
  have HX1 := Lib.hid (fun (U : World) (Z : Obj) => vecs_under U Z [a, b, c] 3 48 rfl rfl)
  have HX2 := Lib.hid (fun (U : World) (Z : Obj) => vecs_over U Z [a, b, c] 3 48 rfl rfl)
  have HY1 := Lib.hid (fun (U : World) (Z : Obj) => vecs_under U Z [m, c] 2 32 rfl rfl)
  have HY2 := Lib.hid (fun (U : World) (Z : Obj) => vecs_over U Z [m, c] 2 32 rfl rfl)
  have y2 := veq_self m
  have y3 := veq_self mc
  have y4 := veq_self (fun _ => 0)
  have y5 := veq_self a
  clear hm hmb hmc HGM0 hc1 hc2 hc3 hcab HCV0 hW0 HR ga gb gc hm1 hm0
  go_enter Try.func3, Try.ntmps3
  go_wp2_with fail
  rw [HE0.out]
  refine (HAW.out _).mono ?_
  rintro e w1 ⟨rfl, hB1⟩
  obtain ⟨l1, l2, l3, -⟩ := HS0.out _ hB1
  go_wp2_with fail
  refine (HRA.out _).mono ?_
  rintro e w2 ⟨rfl, hB2⟩
  have hbv := hB1.trans (hB2.mono hB1.size)
  clear l1 l2 l3
  obtain ⟨l1, l2, l3, -⟩ := HS0.out _ hbv
  go_wp2_with fail
  refine (HRB.out _).mono ?_
  rintro e w3 ⟨rfl, hB3⟩
  have hbx := hbv.trans (hB3.mono hbv.size)
  clear l1 l2 l3
  obtain ⟨l1, l2, l3, -⟩ := HS0.out _ hbx
  go_wp2_with fail
  refine (HRC.out _).mono ?_
  rintro e w4 ⟨rfl, hB4⟩
  have hby := hbx.trans (hB4.mono hbx.size)
  clear l1 l2 l3
  obtain ⟨l1, l2, l3, -⟩ := HS0.out _ hby
  go_wp2_with fail
  refine (HMA.out _ _ (VecsAt.row rfl (Row.new _ _ _ _))).mono ?_
  rintro e w5 ⟨rfl, hB5⟩
  have hb4 := (Below.refl w4.heap.size w4).alloc (Nat.le_refl _) (.cells (tab (16 * 2) (vfs [a, b])) 25)
  have hbz := hby.trans ((hb4.trans (hB5.mono hb4.size)).mono hby.size)
  have ha5 := (Below.refl w5.heap.size w5).alloc (Nat.le_refl _) (.cells (tab 16 (vf m)) 25)
  have hbq := hbz.trans (ha5.mono hbz.size)
  obtain ⟨W, hW⟩ : ∃ W, w5.alloc (.cells (tab 16 (vf m)) 25) = W := ⟨_, rfl⟩
  have hrm := Row.new w5 25 16 (vf m)
  rw [hW] at hbq hrm
  have HE := Lib.hid hW
  have HBW := Lib.hid (HBW0.out.trans (hbq.mono HBW0.out.size))
  have HS := Lib.hid (fun (u : World) (hu : Below W.heap.size W u) => (⟨(HS0.out u (hbq.trans (hu.mono hbq.size))).1, (HS0.out u (hbq.trans (hu.mono hbq.size))).2.1, (HS0.out u (hbq.trans (hu.mono hbq.size))).2.2.1, loadVT vtV (VecAt.of_row (hrm.of_below hu) (Nat.le_refl _)), hu⟩ : (ldT 22 (.pointer (some ⟨w.heap.size, 0, none⟩))).run Try.prog u = .ok (.value (vcV a)) u ∧ (ldT 22 (.pointer (some ⟨w.heap.size + 1, 0, none⟩))).run Try.prog u = .ok (.value (vcV b)) u ∧ (ldT 22 (.pointer (some ⟨w.heap.size + 1 + 1, 0, none⟩))).run Try.prog u = .ok (.value (vcV c)) u ∧ (ldT 25 (.pointer (some ⟨w5.heap.size, 0, none⟩))).run Try.prog u = .ok (.value (vcV m)) u ∧ Below W.heap.size W u))
  clear l1 l2 l3 hB1 hB2 hB3 hB4 hB5 hbv hbx hby hb4 hbz ha5 hbq hrm hW
  go_wp2_with fail
  rw [HE.out]
  refine wp_region_noPanic ?_
  refine wp_region_held_drew (S := (fun u : World => (ldT 22 (.pointer (some ⟨w.heap.size, 0, none⟩))).run Try.prog u = .ok (.value (vcV a)) u ∧ (ldT 22 (.pointer (some ⟨w.heap.size + 1, 0, none⟩))).run Try.prog u = .ok (.value (vcV b)) u ∧ (ldT 22 (.pointer (some ⟨w.heap.size + 1 + 1, 0, none⟩))).run Try.prog u = .ok (.value (vcV c)) u ∧ (ldT 25 (.pointer (some ⟨w5.heap.size, 0, none⟩))).run Try.prog u = .ok (.value (vcV m)) u ∧ Below W.heap.size W u)) (by kernel_rfl) (HS.out _ (Below.refl _ _).drew) (fun hHeld => ?_)
  refine wpAnyH_take (i := 0) (v := ?_) (by simp only [List.getElem?_toArray, List.getElem?_cons_succ, List.getElem?_cons_zero]; exact rfl) (by kernel_rfl) (by kernel_rfl) (by kernel_rfl) (fun _ _ _ h => h) (Or.inl ⟨by rfl, ?_⟩) (by assumption) ?_
  rotate_left 1
  · (intro w hSw; (try dsimp only at hSw); go_simp; try with_reducible rfl)
  try simp only [Act.put, List.setIfInBounds_toArray, List.set_cons_zero, List.set_cons_succ]
  refine wpAnyH_take (i := 1) (v := ?_) (by simp only [List.getElem?_toArray, List.getElem?_cons_succ, List.getElem?_cons_zero]; exact rfl) (by kernel_rfl) (by kernel_rfl) (by kernel_rfl) (fun _ _ _ h => h) (Or.inl ⟨by rfl, ?_⟩) (by assumption) ?_
  rotate_left 1
  · (intro w hSw; (try dsimp only at hSw); go_simp; try with_reducible rfl)
  try simp only [Act.put, List.setIfInBounds_toArray, List.set_cons_zero, List.set_cons_succ]
  refine wpAnyH_take (i := 3) (v := ?_) (by simp only [List.getElem?_toArray, List.getElem?_cons_succ, List.getElem?_cons_zero]; exact rfl) (by kernel_rfl) (by kernel_rfl) (by kernel_rfl) (fun _ _ _ h => h) (Or.inl ⟨by rfl, ?_⟩) (by assumption) ?_
  rotate_left 1
  · (intro w hSw; (try dsimp only at hSw); go_simp; try with_reducible rfl)
  try simp only [Act.put, List.setIfInBounds_toArray, List.set_cons_zero, List.set_cons_succ]
  refine wpAnyH_take (i := 4) (v := ?_) (by simp only [List.getElem?_toArray, List.getElem?_cons_succ, List.getElem?_cons_zero]; exact rfl) (by kernel_rfl) (by kernel_rfl) (by kernel_rfl) (fun _ _ _ h => h) (Or.inl ⟨by rfl, ?_⟩) (by assumption) ?_
  rotate_left 1
  · (intro w hSw; (try dsimp only at hSw); go_simp; try with_reducible rfl)
  try simp only [Act.put, List.setIfInBounds_toArray, List.set_cons_zero, List.set_cons_succ]
  refine wpAnyH_ready (rs := [2]) (by kernel_rfl) (by simp) ?_
  refine (AllReadyH.cons (by simp only [List.getElem?_toArray, List.getElem?_cons_succ, List.getElem?_cons_zero]; exact rfl) (fun K hK => ?_) AllReadyH.nil)
  go_simp
  refine (HC1.out _).mono ?_
  rintro e v2 ⟨rfl, hB2⟩
  go_wp2_with fail
  refine hK.out _ _ (HS.out _ (hHeld.2.2.2.2.trans (hB2.mono hHeld.2.2.2.2.size))) (fun hHeld => ?_)
  clear hK K
  try simp only [Act.put, List.setIfInBounds_toArray, List.set_cons_zero, List.set_cons_succ]
  refine wpAnyH_ready (rs := [5]) (by kernel_rfl) (by simp) ?_
  refine (AllReadyH.cons (by simp only [List.getElem?_toArray, List.getElem?_cons_succ, List.getElem?_cons_zero]; exact rfl) (fun K hK => ?_) AllReadyH.nil)
  go_simp
  refine (HC2.out _).mono ?_
  rintro e v5 ⟨rfl, hB5⟩
  go_wp2_with fail
  refine hK.out _ _ (HS.out _ (hHeld.2.2.2.2.trans (hB5.mono hHeld.2.2.2.2.size))) (fun hHeld => ?_)
  clear hK K
  try simp only [Act.put, List.setIfInBounds_toArray, List.set_cons_zero, List.set_cons_succ]
  refine wpAnyH_take (i := 6) (v := ?_) (by simp only [List.getElem?_toArray, List.getElem?_cons_succ, List.getElem?_cons_zero]; exact rfl) (by kernel_rfl) (by kernel_rfl) (by kernel_rfl) (fun _ _ _ h => h) (Or.inl ⟨by rfl, ?_⟩) (by assumption) ?_
  rotate_left 1
  · (intro w hSw; (try dsimp only at hSw); go_simp; try with_reducible rfl)
  try simp only [Act.put, List.setIfInBounds_toArray, List.set_cons_zero, List.set_cons_succ]
  refine wpAnyH_take (i := 7) (v := ?_) (by simp only [List.getElem?_toArray, List.getElem?_cons_succ, List.getElem?_cons_zero]; exact rfl) (by kernel_rfl) (by kernel_rfl) (by kernel_rfl) (fun _ _ _ h => h) (Or.inl ⟨by rfl, ?_⟩) (by assumption) ?_
  rotate_left 1
  · (intro w hSw; (try dsimp only at hSw); go_simp; try with_reducible rfl)
  try simp only [Act.put, List.setIfInBounds_toArray, List.set_cons_zero, List.set_cons_succ]
  refine wpAnyH_take (i := 8) (v := ?_) (by simp only [List.getElem?_toArray, List.getElem?_cons_succ, List.getElem?_cons_zero]; exact rfl) (by kernel_rfl) (by kernel_rfl) (by kernel_rfl) (fun _ _ _ h => h) (Or.inl ⟨by rfl, ?_⟩) (by assumption) ?_
  rotate_left 1
  · (intro w hSw; (try dsimp only at hSw); go_simp; try with_reducible rfl)
  try simp only [Act.put, List.setIfInBounds_toArray, List.set_cons_zero, List.set_cons_succ]
  refine wpAnyH_take (i := 9) (v := ?_) (by simp only [List.getElem?_toArray, List.getElem?_cons_succ, List.getElem?_cons_zero]; exact rfl) (by kernel_rfl) (by kernel_rfl) (by kernel_rfl) (fun _ _ _ h => h) (Or.inl ⟨by rfl, ?_⟩) (by assumption) ?_
  rotate_left 1
  · (intro w hSw; (try dsimp only at hSw); go_simp; try with_reducible rfl)
  try simp only [Act.put, List.setIfInBounds_toArray, List.set_cons_zero, List.set_cons_succ]
  refine wpAnyH_take (i := 10) (v := ?_) (by simp only [List.getElem?_toArray, List.getElem?_cons_succ, List.getElem?_cons_zero]; exact rfl) (by kernel_rfl) (by kernel_rfl) (by kernel_rfl) (fun _ _ _ h => h) (Or.inl ⟨by rfl, ?_⟩) (by assumption) ?_
  rotate_left 1
  · (intro w hSw; (try dsimp only at hSw); go_simp; try with_reducible rfl)
  try simp only [Act.put, List.setIfInBounds_toArray, List.set_cons_zero, List.set_cons_succ]
  refine wpAnyH_ready (rs := [11]) (by kernel_rfl) (by simp) ?_
  refine (AllReadyH.cons (by simp only [List.getElem?_toArray, List.getElem?_cons_succ, List.getElem?_cons_zero]; exact rfl) (fun K hK => ?_) AllReadyH.nil)
  go_simp
  refine (HRM.out _).mono ?_
  rintro e v11 ⟨rfl, hB11⟩
  go_wp2_with fail
  refine hK.out _ _ (HS.out _ (hHeld.2.2.2.2.trans (hB11.mono hHeld.2.2.2.2.size))) (fun hHeld => ?_)
  clear hK K
  try simp only [Act.put, List.setIfInBounds_toArray, List.set_cons_zero, List.set_cons_succ]
  refine wpAnyH_take (i := 12) (v := ?_) (by simp only [List.getElem?_toArray, List.getElem?_cons_succ, List.getElem?_cons_zero]; exact rfl) (by kernel_rfl) (by kernel_rfl) (by kernel_rfl) (fun _ _ _ h => h) (Or.inl ⟨by rfl, ?_⟩) (by assumption) ?_
  rotate_left 1
  · (intro w hSw; (try dsimp only at hSw); go_simp; try with_reducible rfl)
  try simp only [Act.put, List.setIfInBounds_toArray, List.set_cons_zero, List.set_cons_succ]
  refine wpAnyH_take (i := 13) (v := ?_) (by simp only [List.getElem?_toArray, List.getElem?_cons_succ, List.getElem?_cons_zero]; exact rfl) (by kernel_rfl) (by kernel_rfl) (by kernel_rfl) (fun _ _ _ h => h) (Or.inl ⟨by rfl, ?_⟩) (by assumption) ?_
  rotate_left 1
  · (intro w hSw; (try dsimp only at hSw); go_simp; try with_reducible rfl)
  try simp only [Act.put, List.setIfInBounds_toArray, List.set_cons_zero, List.set_cons_succ]
  refine wpAnyH_take (i := 14) (v := ?_) (by simp only [List.getElem?_toArray, List.getElem?_cons_succ, List.getElem?_cons_zero]; exact rfl) (by kernel_rfl) (by kernel_rfl) (by kernel_rfl) (fun _ _ _ h => h) (Or.inl ⟨by rfl, ?_⟩) (by assumption) ?_
  rotate_left 1
  · (intro w hSw; (try dsimp only at hSw); go_simp; try with_reducible rfl)
  try simp only [Act.put, List.setIfInBounds_toArray, List.set_cons_zero, List.set_cons_succ]
  refine wpAnyH_take (i := 15) (v := ?_) (by simp only [List.getElem?_toArray, List.getElem?_cons_succ, List.getElem?_cons_zero]; exact rfl) (by kernel_rfl) (by kernel_rfl) (by kernel_rfl) (fun _ _ _ h => h) (Or.inl ⟨by rfl, ?_⟩) (by assumption) ?_
  rotate_left 1
  · (intro w hSw; (try dsimp only at hSw); go_simp; try with_reducible rfl)
  try simp only [Act.put, List.setIfInBounds_toArray, List.set_cons_zero, List.set_cons_succ]
  refine wpAnyH_take (i := 16) (v := ?_) (by simp only [List.getElem?_toArray, List.getElem?_cons_succ, List.getElem?_cons_zero]; exact rfl) (by kernel_rfl) (by kernel_rfl) (by kernel_rfl) (fun _ _ _ h => h) (Or.inl ⟨by rfl, ?_⟩) (by assumption) ?_
  rotate_left 1
  · (intro w hSw; (try dsimp only at hSw); go_simp; try with_reducible rfl)
  try simp only [Act.put, List.setIfInBounds_toArray, List.set_cons_zero, List.set_cons_succ]
  refine wpAnyH_take (i := 17) (v := ?_) (by simp only [List.getElem?_toArray, List.getElem?_cons_succ, List.getElem?_cons_zero]; exact rfl) (by kernel_rfl) (by kernel_rfl) (by kernel_rfl) (fun _ _ _ h => h) (Or.inl ⟨by rfl, ?_⟩) (by assumption) ?_
  rotate_left 1
  · (intro w hSw; (try dsimp only at hSw); go_simp; try with_reducible rfl)
  try simp only [Act.put, List.setIfInBounds_toArray, List.set_cons_zero, List.set_cons_succ]
  refine wpAnyH_ready (rs := [18]) (by kernel_rfl) (by simp) ?_
  refine (AllReadyH.cons (by simp only [List.getElem?_toArray, List.getElem?_cons_succ, List.getElem?_cons_zero]; exact rfl) (fun K hK => ?_) AllReadyH.nil)
  go_simp
  refine hK.out _ _ (HS.out _ (hHeld.2.2.2.2.alloc hHeld.2.2.2.2.size _)) (fun hHeld => ?_)
  clear hK K
  try simp only [Act.put, List.setIfInBounds_toArray, List.set_cons_zero, List.set_cons_succ]
  refine wpAnyH_ready (rs := [19]) (by kernel_rfl) (by simp) ?_
  refine (AllReadyH.cons (by simp only [List.getElem?_toArray, List.getElem?_cons_succ, List.getElem?_cons_zero]; exact rfl) (fun K hK => ?_) AllReadyH.nil)
  go_simp
  refine (HMB.out _ _ (VecsAt.row rfl (Row.new _ _ _ _))).mono ?_
  rintro e v19 ⟨rfl, hB19⟩
  go_wp2_with fail
  refine hK.out _ _ (HS.out _ (hHeld.2.2.2.2.trans (hB19.mono hHeld.2.2.2.2.size))) (fun hHeld => ?_)
  clear hK K
  try simp only [Act.put, List.setIfInBounds_toArray, List.set_cons_zero, List.set_cons_succ]
  refine wpAnyH_take (i := 20) (v := ?_) (by simp only [List.getElem?_toArray, List.getElem?_cons_succ, List.getElem?_cons_zero]; exact rfl) (by kernel_rfl) (by kernel_rfl) (by kernel_rfl) (fun _ _ _ h => h) (Or.inl ⟨by rfl, ?_⟩) (by assumption) ?_
  rotate_left 1
  · (intro w hSw; (try dsimp only at hSw); go_simp; try with_reducible rfl)
  try simp only [Act.put, List.setIfInBounds_toArray, List.set_cons_zero, List.set_cons_succ]
  refine wpAnyH_take (i := 21) (v := ?_) (by simp only [List.getElem?_toArray, List.getElem?_cons_succ, List.getElem?_cons_zero]; exact rfl) (by kernel_rfl) (by kernel_rfl) (by kernel_rfl) (fun _ _ _ h => h) (Or.inl ⟨by rfl, ?_⟩) (by assumption) ?_
  rotate_left 1
  · (intro w hSw; (try dsimp only at hSw); go_simp; try with_reducible rfl)
  try simp only [Act.put, List.setIfInBounds_toArray, List.set_cons_zero, List.set_cons_succ]
  refine wpAnyH_take (i := 22) (v := ?_) (by simp only [List.getElem?_toArray, List.getElem?_cons_succ, List.getElem?_cons_zero]; exact rfl) (by kernel_rfl) (by kernel_rfl) (by kernel_rfl) (fun _ _ _ h => h) (Or.inl ⟨by rfl, ?_⟩) (by assumption) ?_
  rotate_left 1
  · (intro w hSw; (try dsimp only at hSw); go_simp; try with_reducible rfl)
  try simp only [Act.put, List.setIfInBounds_toArray, List.set_cons_zero, List.set_cons_succ]
  refine wpAnyH_take (i := 23) (v := ?_) (by simp only [List.getElem?_toArray, List.getElem?_cons_succ, List.getElem?_cons_zero]; exact rfl) (by kernel_rfl) (by kernel_rfl) (by kernel_rfl) (fun _ _ _ h => h) (Or.inl ⟨by rfl, ?_⟩) (by assumption) ?_
  rotate_left 1
  · (intro w hSw; (try dsimp only at hSw); go_simp; try with_reducible rfl)
  try simp only [Act.put, List.setIfInBounds_toArray, List.set_cons_zero, List.set_cons_succ]
  refine wpAnyH_ready (rs := [24]) (by kernel_rfl) (by simp) ?_
  refine (AllReadyH.cons (by simp only [List.getElem?_toArray, List.getElem?_cons_succ, List.getElem?_cons_zero]; exact rfl) (fun K hK => ?_) AllReadyH.nil)
  go_simp
  refine (HGM.out _).mono ?_
  rintro e v24 ⟨rfl, hB24⟩
  go_wp2_with fail
  refine hK.out _ _ (HS.out _ (hHeld.2.2.2.2.trans (hB24.mono hHeld.2.2.2.2.size))) (fun hHeld => ?_)
  clear hK K
  try simp only [Act.put, List.setIfInBounds_toArray, List.set_cons_zero, List.set_cons_succ]
  refine wpAnyH_take (i := 25) (v := ?_) (by simp only [List.getElem?_toArray, List.getElem?_cons_succ, List.getElem?_cons_zero]; exact rfl) (by kernel_rfl) (by kernel_rfl) (by kernel_rfl) (fun _ _ _ h => h) (Or.inl ⟨by rfl, ?_⟩) (by assumption) ?_
  rotate_left 1
  · (intro w hSw; (try dsimp only at hSw); go_simp; try with_reducible rfl)
  try simp only [Act.put, List.setIfInBounds_toArray, List.set_cons_zero, List.set_cons_succ]
  refine wpAnyH_take (i := 26) (v := ?_) (by simp only [List.getElem?_toArray, List.getElem?_cons_succ, List.getElem?_cons_zero]; exact rfl) (by kernel_rfl) (by kernel_rfl) (by kernel_rfl) (fun _ _ _ h => h) (Or.inl ⟨by rfl, ?_⟩) (by assumption) ?_
  rotate_left 1
  · (intro w hSw; (try dsimp only at hSw); go_simp; try with_reducible rfl)
  try simp only [Act.put, List.setIfInBounds_toArray, List.set_cons_zero, List.set_cons_succ]
  refine wpAnyH_done (by kernel_rfl) ?_ _
  refine NoPanic.normal ?_
  have hHX := hHeld.2.2.2.2
  clear hHeld
  go_wp2_with fail
  refine wp_region_noPanic ?_
  refine wp_region_held_drew (S := (fun u : World => (ldT 22 (.pointer (some ⟨w.heap.size, 0, none⟩))).run Try.prog u = .ok (.value (vcV a)) u ∧ (ldT 22 (.pointer (some ⟨w.heap.size + 1, 0, none⟩))).run Try.prog u = .ok (.value (vcV b)) u ∧ (ldT 22 (.pointer (some ⟨w.heap.size + 1 + 1, 0, none⟩))).run Try.prog u = .ok (.value (vcV c)) u ∧ (ldT 25 (.pointer (some ⟨w5.heap.size, 0, none⟩))).run Try.prog u = .ok (.value (vcV m)) u ∧ Below W.heap.size W u)) (by kernel_rfl) (HS.out _ hHX.drew) (fun hHeld => ?_)
  generalize v24.drew = U8 at hHeld ⊢
  refine wpAnyH_take (i := 0) (v := ?_) (by simp only [List.getElem?_toArray, List.getElem?_cons_succ, List.getElem?_cons_zero]; exact rfl) (by kernel_rfl) (by kernel_rfl) (by kernel_rfl) (fun _ _ _ h => h) (Or.inl ⟨by rfl, ?_⟩) (by assumption) ?_
  rotate_left 1
  · (intro w hSw; (try dsimp only at hSw); go_simp; try with_reducible rfl)
  try simp only [Act.put, List.setIfInBounds_toArray, List.set_cons_zero, List.set_cons_succ]
  refine wpAnyH_take (i := 1) (v := ?_) (by simp only [List.getElem?_toArray, List.getElem?_cons_succ, List.getElem?_cons_zero]; exact rfl) (by kernel_rfl) (by kernel_rfl) (by kernel_rfl) (fun _ _ _ h => h) (Or.inl ⟨by rfl, ?_⟩) (by assumption) ?_
  rotate_left 1
  · (intro w hSw; (try dsimp only at hSw); go_simp; try with_reducible rfl)
  try simp only [Act.put, List.setIfInBounds_toArray, List.set_cons_zero, List.set_cons_succ]
  refine wpAnyH_take (i := 2) (v := ?_) (by simp only [List.getElem?_toArray, List.getElem?_cons_succ, List.getElem?_cons_zero]; exact rfl) (by kernel_rfl) (by kernel_rfl) (by kernel_rfl) (fun _ _ _ h => h) (Or.inl ⟨by rfl, ?_⟩) (by assumption) ?_
  rotate_left 1
  · (intro w hSw; (try dsimp only at hSw); go_simp; try with_reducible rfl)
  try simp only [Act.put, List.setIfInBounds_toArray, List.set_cons_zero, List.set_cons_succ]
  refine wpAnyH_take (i := 5) (v := ?_) (by simp only [List.getElem?_toArray, List.getElem?_cons_succ, List.getElem?_cons_zero]; exact rfl) (by kernel_rfl) (by kernel_rfl) (by kernel_rfl) (fun _ _ _ h => h) (Or.inl ⟨by rfl, ?_⟩) (by assumption) ?_
  rotate_left 1
  · (intro w hSw; (try dsimp only at hSw); go_simp; try with_reducible rfl)
  try simp only [Act.put, List.setIfInBounds_toArray, List.set_cons_zero, List.set_cons_succ]
  refine wpAnyH_take (i := 6) (v := ?_) (by simp only [List.getElem?_toArray, List.getElem?_cons_succ, List.getElem?_cons_zero]; exact rfl) (by kernel_rfl) (by kernel_rfl) (by kernel_rfl) (fun _ _ _ h => h) (Or.inl ⟨by rfl, ?_⟩) (by assumption) ?_
  rotate_left 1
  · (intro w hSw; (try dsimp only at hSw); go_simp; try with_reducible rfl)
  try simp only [Act.put, List.setIfInBounds_toArray, List.set_cons_zero, List.set_cons_succ]
  refine wpAnyH_ready (rs := [3, 7]) (by kernel_rfl) (by simp) ?_
  refine (AllReadyH.cons (by simp only [List.getElem?_toArray, List.getElem?_cons_succ, List.getElem?_cons_zero]; exact rfl) (fun K hK => ?_) (AllReadyH.cons (by simp only [List.getElem?_toArray, List.getElem?_cons_succ, List.getElem?_cons_zero]; exact rfl) (fun K hK => ?_) AllReadyH.nil))
  · go_simp
    refine hK.out _ _ (HS.out _ (hHeld.2.2.2.2.alloc hHeld.2.2.2.2.size _)) (fun hHeld => ?_)
    clear hK K
    try simp only [Act.put, List.setIfInBounds_toArray, List.set_cons_zero, List.set_cons_succ]
    refine wpAnyH_ready (rs := [4, 7]) (by kernel_rfl) (by simp) ?_
    refine (AllReadyH.cons (by simp only [List.getElem?_toArray, List.getElem?_cons_succ, List.getElem?_cons_zero]; exact rfl) (fun K hK => ?_) (AllReadyH.cons (by simp only [List.getElem?_toArray, List.getElem?_cons_succ, List.getElem?_cons_zero]; exact rfl) (fun K hK => ?_) AllReadyH.nil))
    · go_simp
      refine (HM3.out _ _ (VecsAt.row rfl (Row.new _ _ _ _))).mono ?_
      rintro e v4 ⟨rfl, hB4⟩
      go_wp2_with fail
      refine hK.out _ _ (HS.out _ (hHeld.2.2.2.2.trans (hB4.mono hHeld.2.2.2.2.size))) (fun hHeld => ?_)
      clear hK K
      try simp only [Act.put, List.setIfInBounds_toArray, List.set_cons_zero, List.set_cons_succ]
      refine wpAnyH_ready (rs := [7]) (by kernel_rfl) (by simp) ?_
      refine (AllReadyH.cons (by simp only [List.getElem?_toArray, List.getElem?_cons_succ, List.getElem?_cons_zero]; exact rfl) (fun K hK => ?_) AllReadyH.nil)
      go_simp
      refine hK.out _ _ (HS.out _ (hHeld.2.2.2.2.alloc hHeld.2.2.2.2.size _)) (fun hHeld => ?_)
      clear hK K
      try simp only [Act.put, List.setIfInBounds_toArray, List.set_cons_zero, List.set_cons_succ]
      refine wpAnyH_ready (rs := [8]) (by kernel_rfl) (by simp) ?_
      refine (AllReadyH.cons (by simp only [List.getElem?_toArray, List.getElem?_cons_succ, List.getElem?_cons_zero]; exact rfl) (fun K hK => ?_) AllReadyH.nil)
      go_simp
      refine (HMC.out _ _ (VecsAt.row rfl (Row.new _ _ _ _))).mono ?_
      rintro e v8 ⟨rfl, hB8⟩
      go_wp2_with fail
      refine hK.out _ _ (HS.out _ (hHeld.2.2.2.2.trans (hB8.mono hHeld.2.2.2.2.size))) (fun hHeld => ?_)
      clear hK K
      try simp only [Act.put, List.setIfInBounds_toArray, List.set_cons_zero, List.set_cons_succ]
      refine wpAnyH_take (i := 9) (v := ?_) (by simp only [List.getElem?_toArray, List.getElem?_cons_succ, List.getElem?_cons_zero]; exact rfl) (by kernel_rfl) (by kernel_rfl) (by kernel_rfl) (fun _ _ _ h => h) (Or.inl ⟨by rfl, ?_⟩) (by assumption) ?_
      rotate_left 1
      · (intro w hSw; (try dsimp only at hSw); go_simp; try with_reducible rfl)
      try simp only [Act.put, List.setIfInBounds_toArray, List.set_cons_zero, List.set_cons_succ]
      refine wpAnyH_take (i := 10) (v := ?_) (by simp only [List.getElem?_toArray, List.getElem?_cons_succ, List.getElem?_cons_zero]; exact rfl) (by kernel_rfl) (by kernel_rfl) (by kernel_rfl) (fun _ _ _ h => h) (Or.inl ⟨by rfl, ?_⟩) (by assumption) ?_
      rotate_left 1
      · (intro w hSw; (try dsimp only at hSw); go_simp; try with_reducible rfl)
      try simp only [Act.put, List.setIfInBounds_toArray, List.set_cons_zero, List.set_cons_succ]
      refine wpAnyH_take (i := 12) (v := ?_) (by simp only [List.getElem?_toArray, List.getElem?_cons_succ, List.getElem?_cons_zero]; exact rfl) (by kernel_rfl) (by kernel_rfl) (by kernel_rfl) (fun _ _ _ h => h) (Or.inl ⟨by rfl, ?_⟩) (by assumption) ?_
      rotate_left 1
      · (intro w hSw; (try dsimp only at hSw); go_simp; try with_reducible rfl)
      try simp only [Act.put, List.setIfInBounds_toArray, List.set_cons_zero, List.set_cons_succ]
      refine wpAnyH_ready (rs := [11]) (by kernel_rfl) (by simp) ?_
      refine (AllReadyH.cons (by simp only [List.getElem?_toArray, List.getElem?_cons_succ, List.getElem?_cons_zero]; exact rfl) (fun K hK => ?_) AllReadyH.nil)
      go_simp
      refine (HM0.out _).mono ?_
      rintro e v11 ⟨rfl, hB11⟩
      go_wp2_with fail
      refine hK.out _ _ (HS.out _ (hHeld.2.2.2.2.trans (hB11.mono hHeld.2.2.2.2.size))) (fun hHeld => ?_)
      clear hK K
      try simp only [Act.put, List.setIfInBounds_toArray, List.set_cons_zero, List.set_cons_succ]
      refine wpAnyH_take (i := 13) (v := ?_) (by simp only [List.getElem?_toArray, List.getElem?_cons_succ, List.getElem?_cons_zero]; exact rfl) (by kernel_rfl) (by kernel_rfl) (by kernel_rfl) (fun _ _ _ h => h) (Or.inl ⟨by rfl, ?_⟩) (by assumption) ?_
      rotate_left 1
      · (intro w hSw; (try dsimp only at hSw); go_simp; try with_reducible rfl)
      try simp only [Act.put, List.setIfInBounds_toArray, List.set_cons_zero, List.set_cons_succ]
      refine wpAnyH_take (i := 14) (v := ?_) (by simp only [List.getElem?_toArray, List.getElem?_cons_succ, List.getElem?_cons_zero]; exact rfl) (by kernel_rfl) (by kernel_rfl) (by kernel_rfl) (fun _ _ _ h => h) (Or.inl ⟨by rfl, ?_⟩) (by assumption) ?_
      rotate_left 1
      · (intro w hSw; (try dsimp only at hSw); go_simp; try with_reducible rfl)
      try simp only [Act.put, List.setIfInBounds_toArray, List.set_cons_zero, List.set_cons_succ]
      refine wpAnyH_take (i := 15) (v := ?_) (by simp only [List.getElem?_toArray, List.getElem?_cons_succ, List.getElem?_cons_zero]; exact rfl) (by kernel_rfl) (by kernel_rfl) (by kernel_rfl) (fun _ _ _ h => h) (Or.inl ⟨by rfl, ?_⟩) (by assumption) ?_
      rotate_left 1
      · (intro w hSw; (try dsimp only at hSw); go_simp; try with_reducible rfl)
      try simp only [Act.put, List.setIfInBounds_toArray, List.set_cons_zero, List.set_cons_succ]
      refine wpAnyH_take (i := 16) (v := ?_) (by simp only [List.getElem?_toArray, List.getElem?_cons_succ, List.getElem?_cons_zero]; exact rfl) (by kernel_rfl) (by kernel_rfl) (by kernel_rfl) (fun _ _ _ h => h) (Or.inl ⟨by rfl, ?_⟩) (by assumption) ?_
      rotate_left 1
      · (intro w hSw; (try dsimp only at hSw); go_simp; try with_reducible rfl)
      try simp only [Act.put, List.setIfInBounds_toArray, List.set_cons_zero, List.set_cons_succ]
      refine wpAnyH_take (i := 19) (v := ?_) (by simp only [List.getElem?_toArray, List.getElem?_cons_succ, List.getElem?_cons_zero]; exact rfl) (by kernel_rfl) (by kernel_rfl) (by kernel_rfl) (fun _ _ _ h => h) (Or.inl ⟨by rfl, ?_⟩) (by assumption) ?_
      rotate_left 1
      · (intro w hSw; (try dsimp only at hSw); go_simp; try with_reducible rfl)
      try simp only [Act.put, List.setIfInBounds_toArray, List.set_cons_zero, List.set_cons_succ]
      refine wpAnyH_ready (rs := [17]) (by kernel_rfl) (by simp) ?_
      refine (AllReadyH.cons (by simp only [List.getElem?_toArray, List.getElem?_cons_succ, List.getElem?_cons_zero]; exact rfl) (fun K hK => ?_) AllReadyH.nil)
      go_simp
      refine hK.out _ _ (HS.out _ (hHeld.2.2.2.2.alloc hHeld.2.2.2.2.size _)) (fun hHeld => ?_)
      clear hK K
      try simp only [Act.put, List.setIfInBounds_toArray, List.set_cons_zero, List.set_cons_succ]
      refine wpAnyH_ready (rs := [18]) (by kernel_rfl) (by simp) ?_
      refine (AllReadyH.cons (by simp only [List.getElem?_toArray, List.getElem?_cons_succ, List.getElem?_cons_zero]; exact rfl) (fun K hK => ?_) AllReadyH.nil)
      go_simp
      refine (HM1.out _ _ (VecsAt.row rfl (Row.new _ _ _ _))).mono ?_
      rintro e v18 ⟨rfl, hB18⟩
      go_wp2_with fail
      refine hK.out _ _ (HS.out _ (hHeld.2.2.2.2.trans (hB18.mono hHeld.2.2.2.2.size))) (fun hHeld => ?_)
      clear hK K
      try simp only [Act.put, List.setIfInBounds_toArray, List.set_cons_zero, List.set_cons_succ]
      refine wpAnyH_take (i := 20) (v := ?_) (by simp only [List.getElem?_toArray, List.getElem?_cons_succ, List.getElem?_cons_zero]; exact rfl) (by kernel_rfl) (by kernel_rfl) (by kernel_rfl) (fun _ _ _ h => h) (Or.inl ⟨by rfl, ?_⟩) (by assumption) ?_
      rotate_left 1
      · (intro w hSw; (try dsimp only at hSw); go_simp; try with_reducible rfl)
      try simp only [Act.put, List.setIfInBounds_toArray, List.set_cons_zero, List.set_cons_succ]
      refine wpAnyH_take (i := 21) (v := ?_) (by simp only [List.getElem?_toArray, List.getElem?_cons_succ, List.getElem?_cons_zero]; exact rfl) (by kernel_rfl) (by kernel_rfl) (by kernel_rfl) (fun _ _ _ h => h) (Or.inl ⟨by rfl, ?_⟩) (by assumption) ?_
      rotate_left 1
      · (intro w hSw; (try dsimp only at hSw); go_simp; try with_reducible rfl)
      try simp only [Act.put, List.setIfInBounds_toArray, List.set_cons_zero, List.set_cons_succ]
      refine wpAnyH_done (by kernel_rfl) ?_ _
      refine NoPanic.normal ?_
      obtain ⟨l1, l2, l3, l4, -⟩ := HS.out _ hHeld.2.2.2.2
      have hBZ := hHeld.2.2.2.2
      clear hHeld
      cases c1 with
      | false =>
        go_wp2_with fail
        refine (HV1.out _).mono ?_
        rintro e x1 ⟨rfl, hX1⟩
        have hBZ1 := hBZ.trans (hX1.mono hBZ.size)
        clear l1 l2 l3 l4
        go_wp2
        go_ret
        exact ⟨rfl, HBW.out.trans (hBZ1.mono HBW.out.size)⟩
      | true =>
        go_wp2_with fail
        refine (HV1.out _).mono ?_
        rintro e x1 ⟨rfl, hX1⟩
        have hBZ1 := hBZ.trans (hX1.mono hBZ.size)
        clear l1 l2 l3 l4
        obtain ⟨l1, l2, l3, l4, -⟩ := HS.out _ hBZ1
        cases c2 with
        | false =>
          go_wp2_with fail
          refine (HV2.out _).mono ?_
          rintro e x2 ⟨rfl, hX2⟩
          have hBZ2 := hBZ1.trans (hX2.mono hBZ1.size)
          clear l1 l2 l3 l4
          go_wp2
          go_ret
          exact ⟨rfl, HBW.out.trans (hBZ2.mono HBW.out.size)⟩
        | true =>
          have e3 : c3 = true := by have hcv := HCV.out; simpa using hcv
          subst e3
          go_wp2_with fail
          refine (HV2.out _).mono ?_
          rintro e x2 ⟨rfl, hX2⟩
          have hBZ2 := hBZ1.trans (hX2.mono hBZ1.size)
          clear l1 l2 l3 l4
          obtain ⟨l1, l2, l3, l4, -⟩ := HS.out _ hBZ2
          go_wp2_with fail
          refine (HV3.out _).mono ?_
          rintro e x3 ⟨rfl, hX3⟩
          have hBZ3 := hBZ2.trans (hX3.mono hBZ2.size)
          clear l1 l2 l3 l4
          go_wp2
          go_ret
          exact ⟨rfl, HBW.out.trans (hBZ3.mono HBW.out.size)⟩
    · go_simp
      refine hK.out _ _ (HS.out _ (hHeld.2.2.2.2.alloc hHeld.2.2.2.2.size _)) (fun hHeld => ?_)
      clear hK K
      try simp only [Act.put, List.setIfInBounds_toArray, List.set_cons_zero, List.set_cons_succ]
      refine wpAnyH_ready (rs := [4]) (by kernel_rfl) (by simp) ?_
      refine (AllReadyH.cons (by simp only [List.getElem?_toArray, List.getElem?_cons_succ, List.getElem?_cons_zero]; exact rfl) (fun K hK => ?_) AllReadyH.nil)
      go_simp
      refine (HM3.out _ _ (HX1.out _ _)).mono ?_
      rintro e v4 ⟨rfl, hB4⟩
      go_wp2_with fail
      refine hK.out _ _ (HS.out _ (hHeld.2.2.2.2.trans (hB4.mono hHeld.2.2.2.2.size))) (fun hHeld => ?_)
      clear hK K
      try simp only [Act.put, List.setIfInBounds_toArray, List.set_cons_zero, List.set_cons_succ]
      refine wpAnyH_ready (rs := [8]) (by kernel_rfl) (by simp) ?_
      refine (AllReadyH.cons (by simp only [List.getElem?_toArray, List.getElem?_cons_succ, List.getElem?_cons_zero]; exact rfl) (fun K hK => ?_) AllReadyH.nil)
      go_simp
      refine (HMC.out _ _ ((HY2.out _ _).of_below hB4)).mono ?_
      rintro e v8 ⟨rfl, hB8⟩
      go_wp2_with fail
      refine hK.out _ _ (HS.out _ (hHeld.2.2.2.2.trans (hB8.mono hHeld.2.2.2.2.size))) (fun hHeld => ?_)
      clear hK K
      try simp only [Act.put, List.setIfInBounds_toArray, List.set_cons_zero, List.set_cons_succ]
      refine wpAnyH_take (i := 9) (v := ?_) (by simp only [List.getElem?_toArray, List.getElem?_cons_succ, List.getElem?_cons_zero]; exact rfl) (by kernel_rfl) (by kernel_rfl) (by kernel_rfl) (fun _ _ _ h => h) (Or.inl ⟨by rfl, ?_⟩) (by assumption) ?_
      rotate_left 1
      · (intro w hSw; (try dsimp only at hSw); go_simp; try with_reducible rfl)
      try simp only [Act.put, List.setIfInBounds_toArray, List.set_cons_zero, List.set_cons_succ]
      refine wpAnyH_take (i := 10) (v := ?_) (by simp only [List.getElem?_toArray, List.getElem?_cons_succ, List.getElem?_cons_zero]; exact rfl) (by kernel_rfl) (by kernel_rfl) (by kernel_rfl) (fun _ _ _ h => h) (Or.inl ⟨by rfl, ?_⟩) (by assumption) ?_
      rotate_left 1
      · (intro w hSw; (try dsimp only at hSw); go_simp; try with_reducible rfl)
      try simp only [Act.put, List.setIfInBounds_toArray, List.set_cons_zero, List.set_cons_succ]
      refine wpAnyH_take (i := 12) (v := ?_) (by simp only [List.getElem?_toArray, List.getElem?_cons_succ, List.getElem?_cons_zero]; exact rfl) (by kernel_rfl) (by kernel_rfl) (by kernel_rfl) (fun _ _ _ h => h) (Or.inl ⟨by rfl, ?_⟩) (by assumption) ?_
      rotate_left 1
      · (intro w hSw; (try dsimp only at hSw); go_simp; try with_reducible rfl)
      try simp only [Act.put, List.setIfInBounds_toArray, List.set_cons_zero, List.set_cons_succ]
      refine wpAnyH_ready (rs := [11]) (by kernel_rfl) (by simp) ?_
      refine (AllReadyH.cons (by simp only [List.getElem?_toArray, List.getElem?_cons_succ, List.getElem?_cons_zero]; exact rfl) (fun K hK => ?_) AllReadyH.nil)
      go_simp
      refine (HM0.out _).mono ?_
      rintro e v11 ⟨rfl, hB11⟩
      go_wp2_with fail
      refine hK.out _ _ (HS.out _ (hHeld.2.2.2.2.trans (hB11.mono hHeld.2.2.2.2.size))) (fun hHeld => ?_)
      clear hK K
      try simp only [Act.put, List.setIfInBounds_toArray, List.set_cons_zero, List.set_cons_succ]
      refine wpAnyH_take (i := 13) (v := ?_) (by simp only [List.getElem?_toArray, List.getElem?_cons_succ, List.getElem?_cons_zero]; exact rfl) (by kernel_rfl) (by kernel_rfl) (by kernel_rfl) (fun _ _ _ h => h) (Or.inl ⟨by rfl, ?_⟩) (by assumption) ?_
      rotate_left 1
      · (intro w hSw; (try dsimp only at hSw); go_simp; try with_reducible rfl)
      try simp only [Act.put, List.setIfInBounds_toArray, List.set_cons_zero, List.set_cons_succ]
      refine wpAnyH_take (i := 14) (v := ?_) (by simp only [List.getElem?_toArray, List.getElem?_cons_succ, List.getElem?_cons_zero]; exact rfl) (by kernel_rfl) (by kernel_rfl) (by kernel_rfl) (fun _ _ _ h => h) (Or.inl ⟨by rfl, ?_⟩) (by assumption) ?_
      rotate_left 1
      · (intro w hSw; (try dsimp only at hSw); go_simp; try with_reducible rfl)
      try simp only [Act.put, List.setIfInBounds_toArray, List.set_cons_zero, List.set_cons_succ]
      refine wpAnyH_take (i := 15) (v := ?_) (by simp only [List.getElem?_toArray, List.getElem?_cons_succ, List.getElem?_cons_zero]; exact rfl) (by kernel_rfl) (by kernel_rfl) (by kernel_rfl) (fun _ _ _ h => h) (Or.inl ⟨by rfl, ?_⟩) (by assumption) ?_
      rotate_left 1
      · (intro w hSw; (try dsimp only at hSw); go_simp; try with_reducible rfl)
      try simp only [Act.put, List.setIfInBounds_toArray, List.set_cons_zero, List.set_cons_succ]
      refine wpAnyH_take (i := 16) (v := ?_) (by simp only [List.getElem?_toArray, List.getElem?_cons_succ, List.getElem?_cons_zero]; exact rfl) (by kernel_rfl) (by kernel_rfl) (by kernel_rfl) (fun _ _ _ h => h) (Or.inl ⟨by rfl, ?_⟩) (by assumption) ?_
      rotate_left 1
      · (intro w hSw; (try dsimp only at hSw); go_simp; try with_reducible rfl)
      try simp only [Act.put, List.setIfInBounds_toArray, List.set_cons_zero, List.set_cons_succ]
      refine wpAnyH_take (i := 19) (v := ?_) (by simp only [List.getElem?_toArray, List.getElem?_cons_succ, List.getElem?_cons_zero]; exact rfl) (by kernel_rfl) (by kernel_rfl) (by kernel_rfl) (fun _ _ _ h => h) (Or.inl ⟨by rfl, ?_⟩) (by assumption) ?_
      rotate_left 1
      · (intro w hSw; (try dsimp only at hSw); go_simp; try with_reducible rfl)
      try simp only [Act.put, List.setIfInBounds_toArray, List.set_cons_zero, List.set_cons_succ]
      refine wpAnyH_ready (rs := [17]) (by kernel_rfl) (by simp) ?_
      refine (AllReadyH.cons (by simp only [List.getElem?_toArray, List.getElem?_cons_succ, List.getElem?_cons_zero]; exact rfl) (fun K hK => ?_) AllReadyH.nil)
      go_simp
      refine hK.out _ _ (HS.out _ (hHeld.2.2.2.2.alloc hHeld.2.2.2.2.size _)) (fun hHeld => ?_)
      clear hK K
      try simp only [Act.put, List.setIfInBounds_toArray, List.set_cons_zero, List.set_cons_succ]
      refine wpAnyH_ready (rs := [18]) (by kernel_rfl) (by simp) ?_
      refine (AllReadyH.cons (by simp only [List.getElem?_toArray, List.getElem?_cons_succ, List.getElem?_cons_zero]; exact rfl) (fun K hK => ?_) AllReadyH.nil)
      go_simp
      refine (HM1.out _ _ (VecsAt.row rfl (Row.new _ _ _ _))).mono ?_
      rintro e v18 ⟨rfl, hB18⟩
      go_wp2_with fail
      refine hK.out _ _ (HS.out _ (hHeld.2.2.2.2.trans (hB18.mono hHeld.2.2.2.2.size))) (fun hHeld => ?_)
      clear hK K
      try simp only [Act.put, List.setIfInBounds_toArray, List.set_cons_zero, List.set_cons_succ]
      refine wpAnyH_take (i := 20) (v := ?_) (by simp only [List.getElem?_toArray, List.getElem?_cons_succ, List.getElem?_cons_zero]; exact rfl) (by kernel_rfl) (by kernel_rfl) (by kernel_rfl) (fun _ _ _ h => h) (Or.inl ⟨by rfl, ?_⟩) (by assumption) ?_
      rotate_left 1
      · (intro w hSw; (try dsimp only at hSw); go_simp; try with_reducible rfl)
      try simp only [Act.put, List.setIfInBounds_toArray, List.set_cons_zero, List.set_cons_succ]
      refine wpAnyH_take (i := 21) (v := ?_) (by simp only [List.getElem?_toArray, List.getElem?_cons_succ, List.getElem?_cons_zero]; exact rfl) (by kernel_rfl) (by kernel_rfl) (by kernel_rfl) (fun _ _ _ h => h) (Or.inl ⟨by rfl, ?_⟩) (by assumption) ?_
      rotate_left 1
      · (intro w hSw; (try dsimp only at hSw); go_simp; try with_reducible rfl)
      try simp only [Act.put, List.setIfInBounds_toArray, List.set_cons_zero, List.set_cons_succ]
      refine wpAnyH_done (by kernel_rfl) ?_ _
      refine NoPanic.normal ?_
      obtain ⟨l1, l2, l3, l4, -⟩ := HS.out _ hHeld.2.2.2.2
      have hBZ := hHeld.2.2.2.2
      clear hHeld
      cases c1 with
      | false =>
        go_wp2_with fail
        refine (HV1.out _).mono ?_
        rintro e x1 ⟨rfl, hX1⟩
        have hBZ1 := hBZ.trans (hX1.mono hBZ.size)
        clear l1 l2 l3 l4
        go_wp2
        go_ret
        exact ⟨rfl, HBW.out.trans (hBZ1.mono HBW.out.size)⟩
      | true =>
        go_wp2_with fail
        refine (HV1.out _).mono ?_
        rintro e x1 ⟨rfl, hX1⟩
        have hBZ1 := hBZ.trans (hX1.mono hBZ.size)
        clear l1 l2 l3 l4
        obtain ⟨l1, l2, l3, l4, -⟩ := HS.out _ hBZ1
        cases c2 with
        | false =>
          go_wp2_with fail
          refine (HV2.out _).mono ?_
          rintro e x2 ⟨rfl, hX2⟩
          have hBZ2 := hBZ1.trans (hX2.mono hBZ1.size)
          clear l1 l2 l3 l4
          go_wp2
          go_ret
          exact ⟨rfl, HBW.out.trans (hBZ2.mono HBW.out.size)⟩
        | true =>
          have e3 : c3 = true := by have hcv := HCV.out; simpa using hcv
          subst e3
          go_wp2_with fail
          refine (HV2.out _).mono ?_
          rintro e x2 ⟨rfl, hX2⟩
          have hBZ2 := hBZ1.trans (hX2.mono hBZ1.size)
          clear l1 l2 l3 l4
          obtain ⟨l1, l2, l3, l4, -⟩ := HS.out _ hBZ2
          go_wp2_with fail
          refine (HV3.out _).mono ?_
          rintro e x3 ⟨rfl, hX3⟩
          have hBZ3 := hBZ2.trans (hX3.mono hBZ2.size)
          clear l1 l2 l3 l4
          go_wp2
          go_ret
          exact ⟨rfl, HBW.out.trans (hBZ3.mono HBW.out.size)⟩
  · go_simp
    refine hK.out _ _ (HS.out _ (hHeld.2.2.2.2.alloc hHeld.2.2.2.2.size _)) (fun hHeld => ?_)
    clear hK K
    try simp only [Act.put, List.setIfInBounds_toArray, List.set_cons_zero, List.set_cons_succ]
    refine wpAnyH_ready (rs := [3]) (by kernel_rfl) (by simp) ?_
    refine (AllReadyH.cons (by simp only [List.getElem?_toArray, List.getElem?_cons_succ, List.getElem?_cons_zero]; exact rfl) (fun K hK => ?_) AllReadyH.nil)
    go_simp
    refine hK.out _ _ (HS.out _ (hHeld.2.2.2.2.alloc hHeld.2.2.2.2.size _)) (fun hHeld => ?_)
    clear hK K
    try simp only [Act.put, List.setIfInBounds_toArray, List.set_cons_zero, List.set_cons_succ]
    refine wpAnyH_ready (rs := [4]) (by kernel_rfl) (by simp) ?_
    refine (AllReadyH.cons (by simp only [List.getElem?_toArray, List.getElem?_cons_succ, List.getElem?_cons_zero]; exact rfl) (fun K hK => ?_) AllReadyH.nil)
    go_simp
    refine (HM3.out _ _ (HX2.out _ _)).mono ?_
    rintro e v4 ⟨rfl, hB4⟩
    go_wp2_with fail
    refine hK.out _ _ (HS.out _ (hHeld.2.2.2.2.trans (hB4.mono hHeld.2.2.2.2.size))) (fun hHeld => ?_)
    clear hK K
    try simp only [Act.put, List.setIfInBounds_toArray, List.set_cons_zero, List.set_cons_succ]
    refine wpAnyH_ready (rs := [8]) (by kernel_rfl) (by simp) ?_
    refine (AllReadyH.cons (by simp only [List.getElem?_toArray, List.getElem?_cons_succ, List.getElem?_cons_zero]; exact rfl) (fun K hK => ?_) AllReadyH.nil)
    go_simp
    refine (HMC.out _ _ ((HY1.out _ _).of_below hB4)).mono ?_
    rintro e v8 ⟨rfl, hB8⟩
    go_wp2_with fail
    refine hK.out _ _ (HS.out _ (hHeld.2.2.2.2.trans (hB8.mono hHeld.2.2.2.2.size))) (fun hHeld => ?_)
    clear hK K
    try simp only [Act.put, List.setIfInBounds_toArray, List.set_cons_zero, List.set_cons_succ]
    refine wpAnyH_take (i := 9) (v := ?_) (by simp only [List.getElem?_toArray, List.getElem?_cons_succ, List.getElem?_cons_zero]; exact rfl) (by kernel_rfl) (by kernel_rfl) (by kernel_rfl) (fun _ _ _ h => h) (Or.inl ⟨by rfl, ?_⟩) (by assumption) ?_
    rotate_left 1
    · (intro w hSw; (try dsimp only at hSw); go_simp; try with_reducible rfl)
    try simp only [Act.put, List.setIfInBounds_toArray, List.set_cons_zero, List.set_cons_succ]
    refine wpAnyH_take (i := 10) (v := ?_) (by simp only [List.getElem?_toArray, List.getElem?_cons_succ, List.getElem?_cons_zero]; exact rfl) (by kernel_rfl) (by kernel_rfl) (by kernel_rfl) (fun _ _ _ h => h) (Or.inl ⟨by rfl, ?_⟩) (by assumption) ?_
    rotate_left 1
    · (intro w hSw; (try dsimp only at hSw); go_simp; try with_reducible rfl)
    try simp only [Act.put, List.setIfInBounds_toArray, List.set_cons_zero, List.set_cons_succ]
    refine wpAnyH_take (i := 12) (v := ?_) (by simp only [List.getElem?_toArray, List.getElem?_cons_succ, List.getElem?_cons_zero]; exact rfl) (by kernel_rfl) (by kernel_rfl) (by kernel_rfl) (fun _ _ _ h => h) (Or.inl ⟨by rfl, ?_⟩) (by assumption) ?_
    rotate_left 1
    · (intro w hSw; (try dsimp only at hSw); go_simp; try with_reducible rfl)
    try simp only [Act.put, List.setIfInBounds_toArray, List.set_cons_zero, List.set_cons_succ]
    refine wpAnyH_ready (rs := [11]) (by kernel_rfl) (by simp) ?_
    refine (AllReadyH.cons (by simp only [List.getElem?_toArray, List.getElem?_cons_succ, List.getElem?_cons_zero]; exact rfl) (fun K hK => ?_) AllReadyH.nil)
    go_simp
    refine (HM0.out _).mono ?_
    rintro e v11 ⟨rfl, hB11⟩
    go_wp2_with fail
    refine hK.out _ _ (HS.out _ (hHeld.2.2.2.2.trans (hB11.mono hHeld.2.2.2.2.size))) (fun hHeld => ?_)
    clear hK K
    try simp only [Act.put, List.setIfInBounds_toArray, List.set_cons_zero, List.set_cons_succ]
    refine wpAnyH_take (i := 13) (v := ?_) (by simp only [List.getElem?_toArray, List.getElem?_cons_succ, List.getElem?_cons_zero]; exact rfl) (by kernel_rfl) (by kernel_rfl) (by kernel_rfl) (fun _ _ _ h => h) (Or.inl ⟨by rfl, ?_⟩) (by assumption) ?_
    rotate_left 1
    · (intro w hSw; (try dsimp only at hSw); go_simp; try with_reducible rfl)
    try simp only [Act.put, List.setIfInBounds_toArray, List.set_cons_zero, List.set_cons_succ]
    refine wpAnyH_take (i := 14) (v := ?_) (by simp only [List.getElem?_toArray, List.getElem?_cons_succ, List.getElem?_cons_zero]; exact rfl) (by kernel_rfl) (by kernel_rfl) (by kernel_rfl) (fun _ _ _ h => h) (Or.inl ⟨by rfl, ?_⟩) (by assumption) ?_
    rotate_left 1
    · (intro w hSw; (try dsimp only at hSw); go_simp; try with_reducible rfl)
    try simp only [Act.put, List.setIfInBounds_toArray, List.set_cons_zero, List.set_cons_succ]
    refine wpAnyH_take (i := 15) (v := ?_) (by simp only [List.getElem?_toArray, List.getElem?_cons_succ, List.getElem?_cons_zero]; exact rfl) (by kernel_rfl) (by kernel_rfl) (by kernel_rfl) (fun _ _ _ h => h) (Or.inl ⟨by rfl, ?_⟩) (by assumption) ?_
    rotate_left 1
    · (intro w hSw; (try dsimp only at hSw); go_simp; try with_reducible rfl)
    try simp only [Act.put, List.setIfInBounds_toArray, List.set_cons_zero, List.set_cons_succ]
    refine wpAnyH_take (i := 16) (v := ?_) (by simp only [List.getElem?_toArray, List.getElem?_cons_succ, List.getElem?_cons_zero]; exact rfl) (by kernel_rfl) (by kernel_rfl) (by kernel_rfl) (fun _ _ _ h => h) (Or.inl ⟨by rfl, ?_⟩) (by assumption) ?_
    rotate_left 1
    · (intro w hSw; (try dsimp only at hSw); go_simp; try with_reducible rfl)
    try simp only [Act.put, List.setIfInBounds_toArray, List.set_cons_zero, List.set_cons_succ]
    refine wpAnyH_take (i := 19) (v := ?_) (by simp only [List.getElem?_toArray, List.getElem?_cons_succ, List.getElem?_cons_zero]; exact rfl) (by kernel_rfl) (by kernel_rfl) (by kernel_rfl) (fun _ _ _ h => h) (Or.inl ⟨by rfl, ?_⟩) (by assumption) ?_
    rotate_left 1
    · (intro w hSw; (try dsimp only at hSw); go_simp; try with_reducible rfl)
    try simp only [Act.put, List.setIfInBounds_toArray, List.set_cons_zero, List.set_cons_succ]
    refine wpAnyH_ready (rs := [17]) (by kernel_rfl) (by simp) ?_
    refine (AllReadyH.cons (by simp only [List.getElem?_toArray, List.getElem?_cons_succ, List.getElem?_cons_zero]; exact rfl) (fun K hK => ?_) AllReadyH.nil)
    go_simp
    refine hK.out _ _ (HS.out _ (hHeld.2.2.2.2.alloc hHeld.2.2.2.2.size _)) (fun hHeld => ?_)
    clear hK K
    try simp only [Act.put, List.setIfInBounds_toArray, List.set_cons_zero, List.set_cons_succ]
    refine wpAnyH_ready (rs := [18]) (by kernel_rfl) (by simp) ?_
    refine (AllReadyH.cons (by simp only [List.getElem?_toArray, List.getElem?_cons_succ, List.getElem?_cons_zero]; exact rfl) (fun K hK => ?_) AllReadyH.nil)
    go_simp
    refine (HM1.out _ _ (VecsAt.row rfl (Row.new _ _ _ _))).mono ?_
    rintro e v18 ⟨rfl, hB18⟩
    go_wp2_with fail
    refine hK.out _ _ (HS.out _ (hHeld.2.2.2.2.trans (hB18.mono hHeld.2.2.2.2.size))) (fun hHeld => ?_)
    clear hK K
    try simp only [Act.put, List.setIfInBounds_toArray, List.set_cons_zero, List.set_cons_succ]
    refine wpAnyH_take (i := 20) (v := ?_) (by simp only [List.getElem?_toArray, List.getElem?_cons_succ, List.getElem?_cons_zero]; exact rfl) (by kernel_rfl) (by kernel_rfl) (by kernel_rfl) (fun _ _ _ h => h) (Or.inl ⟨by rfl, ?_⟩) (by assumption) ?_
    rotate_left 1
    · (intro w hSw; (try dsimp only at hSw); go_simp; try with_reducible rfl)
    try simp only [Act.put, List.setIfInBounds_toArray, List.set_cons_zero, List.set_cons_succ]
    refine wpAnyH_take (i := 21) (v := ?_) (by simp only [List.getElem?_toArray, List.getElem?_cons_succ, List.getElem?_cons_zero]; exact rfl) (by kernel_rfl) (by kernel_rfl) (by kernel_rfl) (fun _ _ _ h => h) (Or.inl ⟨by rfl, ?_⟩) (by assumption) ?_
    rotate_left 1
    · (intro w hSw; (try dsimp only at hSw); go_simp; try with_reducible rfl)
    try simp only [Act.put, List.setIfInBounds_toArray, List.set_cons_zero, List.set_cons_succ]
    refine wpAnyH_done (by kernel_rfl) ?_ _
    refine NoPanic.normal ?_
    obtain ⟨l1, l2, l3, l4, -⟩ := HS.out _ hHeld.2.2.2.2
    have hBZ := hHeld.2.2.2.2
    clear hHeld
    cases c1 with
    | false =>
      go_wp2_with fail
      refine (HV1.out _).mono ?_
      rintro e x1 ⟨rfl, hX1⟩
      have hBZ1 := hBZ.trans (hX1.mono hBZ.size)
      clear l1 l2 l3 l4
      go_wp2
      go_ret
      exact ⟨rfl, HBW.out.trans (hBZ1.mono HBW.out.size)⟩
    | true =>
      go_wp2_with fail
      refine (HV1.out _).mono ?_
      rintro e x1 ⟨rfl, hX1⟩
      have hBZ1 := hBZ.trans (hX1.mono hBZ.size)
      clear l1 l2 l3 l4
      obtain ⟨l1, l2, l3, l4, -⟩ := HS.out _ hBZ1
      cases c2 with
      | false =>
        go_wp2_with fail
        refine (HV2.out _).mono ?_
        rintro e x2 ⟨rfl, hX2⟩
        have hBZ2 := hBZ1.trans (hX2.mono hBZ1.size)
        clear l1 l2 l3 l4
        go_wp2
        go_ret
        exact ⟨rfl, HBW.out.trans (hBZ2.mono HBW.out.size)⟩
      | true =>
        have e3 : c3 = true := by have hcv := HCV.out; simpa using hcv
        subst e3
        go_wp2_with fail
        refine (HV2.out _).mono ?_
        rintro e x2 ⟨rfl, hX2⟩
        have hBZ2 := hBZ1.trans (hX2.mono hBZ1.size)
        clear l1 l2 l3 l4
        obtain ⟨l1, l2, l3, l4, -⟩ := HS.out _ hBZ2
        go_wp2_with fail
        refine (HV3.out _).mono ?_
        rintro e x3 ⟨rfl, hX3⟩
        have hBZ3 := hBZ2.trans (hX3.mono hBZ2.size)
        clear l1 l2 l3 l4
        go_wp2
        go_ret
        exact ⟨rfl, HBW.out.trans (hBZ3.mono HBW.out.size)⟩
theorem orders_any (a b c : Nat → Int) (w : World) : Calls Try.prog 3 #[vcV a, vcV b, vcV c] w fun e w' => e = .returned (.bool true) ∧ Below w.heap.size w w' := by
  cases h : (gdV a && gdV b && gdV c) with
  | false => exact orders_bad a b c w h
  | true =>
    rw [Bool.and_eq_true, Bool.and_eq_true] at h
    exact orders_good a b c w h.1.1 h.1.2 h.2
end Go.Proofs.Ytdkbmidacpooiaa
