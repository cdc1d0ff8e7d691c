/- Good: all names of a string are names. -/
import Derived.Test.YtcgilacmdckbfaaDoorSplP7
import Derived.Test.YtcgilacmdckbfaaDoorOnlP7
set_option linter.unusedSimpArgs false
set_option maxRecDepth 100000
set_option linter.unusedVariables false
namespace Go.Proofs.YtcgilacmdckbfaaDoor
open Go Go.RowKit Go.Shelf

attribute [local go_sem] Oper.semAt_some
theorem new_c (w : World) (v : Value) (T : TypeId) : (w.alloc (.cells #[v] T)).cell? ⟨w.heap.size, 0, none⟩ = some v ∧ (w.alloc (.cells #[v] T)).frozen? ⟨w.heap.size, 0, none⟩ = false := ⟨World.cell?_alloc_new _ _ _ _, by go_simp⟩
theorem kept_c {w : World} {a : Addr} {v : Value} (o : Obj) (h : w.cell? a = some v) (hf : w.frozen? a = false) : (w.alloc o).cell? a = some v ∧ (w.alloc o).frozen? a = false := by
  have hB : Below w.heap.size w (w.alloc o) := (Below.refl _ _).alloc (Nat.le_refl _) _
  exact ⟨by rw [hB.cell (World.block_lt_of_cell? w _ h)]; exact h, by rw [hB.frozen (World.block_lt_of_cell? w _ h)]; exact hf⟩
theorem others_below {W W' : World} (h : Below W.heap.size W W') : KeepsOthers W W' := ⟨h.size, fun k o hk _ => by rw [h.block k (Array.getElem?_eq_some_iff.1 hk).1]; exact hk⟩
/-- The caller's word: its result's cell, and all that lay ahead of it; the heap has not shrunk. -/
def InvG (w : World) (M : Nat) (A : World) : Prop := A.cell? ⟨w.heap.size, 0, none⟩ = some (.bool false) ∧ A.frozen? ⟨w.heap.size, 0, none⟩ = false ∧ Below w.heap.size w A ∧ M ≤ A.heap.size
theorem InvG.below {w A A' : World} {N M : Nat} (h : InvG w M A) (hB : Below N A A') (hN : w.heap.size < N) : InvG w M A' :=
  ⟨by rw [hB.cell (p := ⟨w.heap.size, 0, none⟩) hN]; exact h.1, by rw [hB.frozen (p := ⟨w.heap.size, 0, none⟩) hN]; exact h.2.1, h.2.2.1.trans (hB.mono (Nat.le_of_lt hN)), Nat.le_trans h.2.2.2 hB.size⟩
theorem InvG.lt {w A : World} {M : Nat} (h : InvG w M A) : w.heap.size < A.heap.size := World.block_lt_of_cell? A _ h.1
theorem InvG.bears (w : World) (N M : Nat) (hN : w.heap.size + 1 ≤ N) (P : List S8 → Prop) : Bears N (w.heap.size + 1) (fun pre A => P pre ∧ InvG w M A) :=
  ⟨fun pre A o h => ⟨h.1, h.2.below (N := A.heap.size) ((Below.refl _ _).alloc (Nat.le_refl _) _) h.2.lt⟩,
   fun pre A k o hk hlt h => ⟨h.1, h.2.below (below_put o hk hlt) (by omega)⟩,
   fun pre A k h => ⟨h.1, h.2.below (N := A.heap.size) ((show Dr A (A.drewN k) from ⟨k, rfl⟩).below _) h.2.lt⟩,
   fun pre A v h => ⟨h.1, h.2.below (N := w.heap.size + 1) ((Below.refl _ _).setCell (p := ⟨w.heap.size + 1, 0, none⟩) (by simp) v) (by omega)⟩⟩
set_option maxRecDepth 100000 in
set_option maxHeartbeats 2000000 in
theorem good_any (l : S8) (w : World) (hl : l.length < 1000000) : Calls Tryd.prog 41 #[.string (mkS l)] w fun e w' => Gives (.bool (goodL l)) w e w' := by
  refine (callsIn_wide (n := 7)).1 ?_
  refine callsIn_of_wp_marks Tryd.func41 rfl trivial ?_ rfl
  simp only [Tryd.ntmps41, List.size_toArray, List.length_cons, List.length_nil, Nat.reduceAdd, Nat.reduceSub, Array.replicate_succ, Array.replicate_zero, List.push_toArray, List.append_toArray, List.nil_append, List.cons_append]
  by_cases h100 : 100 < l.length
  · have x1 : (100 : Int) < (l.length : Int) := by omega
    have x2 : decide ((100 : Int) < (l.length : Int)) = true := decide_eq_true x1
    gi_wp2
    have c0 := new_c w (.bool false) 4
    have hS := Lib.hid (show goodL l = false from by unfold goodL; rw [decide_eq_false (by omega)]; rfl)
    simp [bodyPostM, LeavesInM, LeavesIn, settle, results, Tryd.f41, go_sem, c0.1]
    exact ⟨by rw [hS.out], (Below.refl _ _).alloc (Nat.le_refl _) _⟩
  · have x1 : ¬ (100 : Int) < (l.length : Int) := by omega
    have x2 : decide ((100 : Int) < (l.length : Int)) = false := decide_eq_false x1
    gi_wp2_with (refine ⟨trivial, ?_⟩; gi_at_call 53; refine (callsIn_wide.2 (splitSeq_any l _)).mono ?_; rintro e w' ⟨rfl, rfl⟩)
    have HG := Lib.hid (show goodL l = allN l from by unfold goodL; rw [decide_eq_true (by omega), Bool.true_and])
    obtain ⟨N, hN⟩ : ∃ N, w.heap.size = N := ⟨_, rfl⟩
    obtain ⟨W1, hW1⟩ : ∃ W1, w.alloc (.cells #[.bool false] 4) = W1 := ⟨_, rfl⟩
    obtain ⟨W2, hW2⟩ : ∃ W2, W1.alloc (.cells #[.string (mkS l)] 9) = W2 := ⟨_, rfl⟩
    obtain ⟨W3, hW3⟩ : ∃ W3, W2.alloc (.cells #[.string ⟨#[47]⟩] 9) = W3 := ⟨_, rfl⟩
    obtain ⟨W4, hW4⟩ : ∃ W4, W3.alloc (.cells #[.int .i64 0] 3) = W4 := ⟨_, rfl⟩
    have s1 : W1.heap.size = N + 1 := by rw [← hW1]; simp [hN]
    have s2 : W2.heap.size = N + 2 := by rw [← hW2]; simp [s1]
    have s3 : W3.heap.size = N + 3 := by rw [← hW3]; simp [s2]
    have s4 : W4.heap.size = N + 4 := by rw [← hW4]; simp [s3]
    have c0 := new_c w (.bool false) 4
    have k1 := new_c W1 (.string (mkS l)) 9
    have k2 := new_c W2 (.string ⟨#[47]⟩) 9
    have k3 := new_c W3 (.int .i64 0) 3
    rw [hW1, hN] at c0
    rw [hW2, s1] at k1
    rw [hW3, s2] at k2
    rw [hW4, s3] at k3
    have c1 := kept_c (.cells #[.string (mkS l)] 9) c0.1 c0.2
    rw [hW2] at c1
    have c2 := kept_c (.cells #[.string ⟨#[47]⟩] 9) c1.1 c1.2
    rw [hW3] at c2
    have c3 := kept_c (.cells #[.int .i64 0] 3) c2.1 c2.2
    rw [hW4] at c3
    have k1b := kept_c (.cells #[.string ⟨#[47]⟩] 9) k1.1 k1.2
    rw [hW3] at k1b
    have k1c := kept_c (.cells #[.int .i64 0] 3) k1b.1 k1b.2
    rw [hW4] at k1c
    have k2b := kept_c (.cells #[.int .i64 0] 3) k2.1 k2.2
    rw [hW4] at k2b
    have hB0 : Below w.heap.size w W4 := by
      rw [← hW4, ← hW3, ← hW2, ← hW1]
      exact ((((Below.refl _ w).alloc (Nat.le_refl _) _).alloc (by simp) _).alloc (by simp; omega) _).alloc (by simp; omega) _
    have hbx : Boxes (N + 1 + 1) (N + 1) (N + 1 + 2) l W4 := ⟨k2b.1, k1c.1, k1c.2, k3.1⟩
    have inv0 : InvG w W4.heap.size W4 := by
      refine ⟨?_, ?_, hB0, Nat.le_refl _⟩
      · rw [hN]; exact c3.1
      · rw [hN]; exact c3.2
    clear c0 c1 c2 c3 k1 k1b k1c k2 k2b k3
    rw [hW1, hW2, hW3, hW4, hN]
    clear hW1 hW2 hW3 hW4 s1 s2 s3
    refine range_box (m := 7) (by decide) (gf := 75) (lb := #[.pointer (some ⟨N + 1 + 1, 0, none⟩), .pointer (some ⟨N + 1, 0, none⟩), .pointer (some ⟨N + 1 + 2, 0, none⟩)]) rfl (enters_of Tryd.func75 (by kernel_rfl) rfl)
      (encs := fun x : S8 => #[.string (mkS x)]) (fun _ => rfl) (b := N + 1) (by omega) (split_seq 6 (by decide) (N + 1 + 1) (N + 1) (N + 1 + 2) l W4 (by omega) (by omega) (by omega) (by omega) (by omega) hbx hl)
      (fun pre A => pre.all okN = true ∧ InvG w W4.heap.size A) (fun pre A => pre.all okN = false ∧ InvG w W4.heap.size A)
      (by have := InvG.bears w W4.heap.size W4.heap.size (by omega) (fun pre => pre.all okN = true); rw [hN] at this; exact this)
      (fun pre A k o hk hlt h => ⟨h.1, h.2.below (below_put o hk hlt) (by omega)⟩)
      ⟨rfl, inv0⟩
      (fun x => { tmps := #[.string (mkS l), undef, .pointer (some ⟨N, 0, none⟩), .string (mkS x), .string (mkS l), .int .i64 (l.length : Int), .bool false, .string (mkS l), .func (.func 75) #[] #[.pointer (some ⟨N + 1 + 1, 0, none⟩), .pointer (some ⟨N + 1, 0, none⟩), .pointer (some ⟨N + 1 + 2, 0, none⟩)], .string (mkS x), undef, undef, undef], defers := [] }) ?assign ?body ?done ?stop
    case assign =>
      intro L x A K hK
      gi_wp2
      exact hK
    case body =>
      rintro L pre x A ⟨hp, hinv⟩
      have hlt := hinv.lt
      have HP := Lib.hid hp
      have HINV := Lib.hid hinv
      have HC := Lib.hid (isName_any x A)
      clear hp
      generalize hgx : okN x = g at *
      have HGX := Lib.hid hgx
      clear hgx
      cases g with
      | true =>
        clear hinv
        gi_wp2_with (refine ⟨trivial, ?_⟩; gi_at_call 54; refine (CallsIn.inRound L (callsIn_wide.2 HC.out)).mono ?_; rintro e w2 ⟨rfl, hB2⟩; have HB2 := Lib.hid hB2; clear hB2)
        exact ⟨others_below HB2.out, HB2.out.mono HINV.out.2.2.2, ⟨by rw [List.all_append, HP.out]; simp [HGX.out], HINV.out.below HB2.out hlt⟩⟩
      | false =>
        gi_wp2_with (refine ⟨trivial, ?_⟩; gi_at_call 54; refine (CallsIn.inRound L (callsIn_wide.2 HC.out)).mono ?_; rintro e w2 ⟨rfl, hB2⟩; have hinv2 := hinv.below hB2 hlt; have hcr := hinv2.1; have hfr := hinv2.2.1; rw [hN] at hcr hfr; have HB2 := Lib.hid hB2; have HI2 := Lib.hid hinv2; clear hB2 hinv2 hinv)
        refine ⟨(others_below HB2.out).trans (KeepsOthers.setCell _ _ _), ⟨by rw [List.all_append, HP.out]; simp [HGX.out], ?_, ?_, ?_, ?_⟩⟩
        · rw [hN]; exact World.cell?_setCell_same' _ _ _ (by rw [hcr]; rfl)
        · rw [World.frozen?_setCell]; exact HI2.out.2.1
        · exact HI2.out.2.2.1.setCell (p := ⟨N, 0, none⟩) (by rw [hN]; simp) _
        · exact Nat.le_trans HI2.out.2.2.2 (KeepsOthers.setCell _ _ _).size
    case done =>
      rintro D A hD ⟨hp, hinv⟩ hK
      have hcr := hinv.1
      have hfr := hinv.2.1
      rw [hN] at hcr hfr
      gi_wp2
      have hK' := (KeepsOthers.setCell A ⟨N, 0, none⟩ (.bool true)).same D _ hK rfl
      refine ⟨by simp, .inl ⟨_, _, rfl, run_takeDeferred hK', ?_⟩⟩
      have hc5 := cell_kept (World.cell?_setCell_same' A ⟨N, 0, none⟩ (.bool true) (by rw [hcr]; rfl)) (grownBy_putObj' _ D (.deferred none)) (fun r e => by cases e; exact ⟨_, hK', rfl⟩)
      refine ⟨.bool true, ?_, by rw [HG.out]; exact congrArg _ (congrArg _ hp.symm), (hinv.2.2.1.setCell (p := ⟨N, 0, none⟩) (by rw [hN]; simp) _).trans (below_put _ (by omega) (Array.getElem?_eq_some_iff.1 hK').1)⟩
      simp [results, Tryd.f41, go_sem, hc5]
    case stop =>
      rintro D pre A hD hpre ⟨hp, hinv⟩ hK
      have hcr := hinv.1
      rw [hN] at hcr
      gi_wp2
      refine ⟨by simp, .inl ⟨_, _, rfl, run_takeDeferred hK, ?_⟩⟩
      have hc5 := cell_kept hcr (grownBy_putObj' _ D (.deferred none)) (fun r e => by cases e; exact ⟨_, hK, rfl⟩)
      refine ⟨.bool false, ?_, by rw [HG.out, all_pre hpre hp], hinv.2.2.1.trans (below_put _ (by omega) (Array.getElem?_eq_some_iff.1 hK).1)⟩
      simp [results, Tryd.f41, go_sem, hc5]
end Go.Proofs.YtcgilacmdckbfaaDoor
