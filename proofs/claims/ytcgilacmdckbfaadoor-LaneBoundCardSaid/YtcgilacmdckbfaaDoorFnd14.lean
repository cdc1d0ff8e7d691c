/- lane.find: the file with a path. -/
import Derived.Test.YtcgilacmdckbfaaDoorMem14
import Derived.Test.YtcgilacmdckbfaaDoorLib14
import Derived.Test.YtcgilacmdckbfaaDoorPtbP7
set_option linter.unusedSimpArgs false
set_option maxRecDepth 100000
set_option linter.unusedVariables false
namespace Go.Proofs.YtcgilacmdckbfaaDoor
open Go Go.RowKit Go.Shelf

/-- The place of a path, or -1. -/
def findI (q : List Fl) (p : S8) : Int := Lib.idxBy (fun _ y => decide (y.path = p)) q fl0
theorem findI_spec (q : List Fl) (p : S8) : (findI q p = -1 ∧ ∀ f ∈ q, f.path ≠ p) ∨ ∃ i : Nat, findI q p = (i : Int) ∧ i < q.length ∧ (q.getD i fl0).path = p := by
  have hg : ∀ j, j < q.length → q[j]! = q.getD j fl0 := fun j hj => by simp [List.getD_eq_getElem?_getD, hj]
  suffices h : ∀ (l : List Fl) (k : Nat), (Lib.idxByFrom (fun _ y => decide (y.path = p)) fl0 l k = -1 ∧ ∀ f ∈ l, f.path ≠ p) ∨ ∃ i : Nat, Lib.idxByFrom (fun _ y => decide (y.path = p)) fl0 l k = ((k + i : Nat) : Int) ∧ i < l.length ∧ (l.getD i fl0).path = p by
    rcases h q 0 with h | ⟨i, h1, h2, h3⟩
    · exact .inl h
    · exact .inr ⟨i, by unfold findI Lib.idxBy; rw [h1, Nat.zero_add], h2, h3⟩
  intro l
  induction l with
  | nil => intro k; exact .inl ⟨rfl, fun f hf => by cases hf⟩
  | cons f l ih =>
    intro k
    by_cases hf : f.path = p
    · refine .inr ⟨0, ?_, by simp, by simpa using hf⟩
      simp [Lib.idxByFrom, hf]
    · rcases ih (k + 1) with ⟨h1, h2⟩ | ⟨i, h1, h2, h3⟩
      · refine .inl ⟨by simp [Lib.idxByFrom, hf, h1], fun g hg => ?_⟩
        rcases List.mem_cons.1 hg with rfl | hg
        · exact hf
        · exact h2 g hg
      · refine .inr ⟨i + 1, ?_, by simpa using h2, by simpa using h3⟩
        simp only [Lib.idxByFrom, hf, decide_false, if_false, Bool.false_eq_true]
        rw [h1]
        congr 1
        omega
theorem pred14 (p : S8) (B : Nat) (w : World) (hB : B < w.heap.size) (hcell : w.cell? ⟨B, 0, none⟩ = some (.string (mkS p))) :
    PredBelow Tryd.prog 44 #[.pointer (some ⟨B, 0, none⟩)] (fun x => .agg (flC x).toArray) (fun x => decide (x.path = p)) w := fun W x hb => by
  have hc : W.cell? ⟨B, 0, none⟩ = some (.string (mkS p)) := (hb.cell (p := ⟨B, 0, none⟩) hB).trans hcell
  have hBW : B < W.heap.size := Nat.lt_of_lt_of_le hB hb.size
  have hne : B ≠ W.heap.size := by omega
  show Calls Tryd.prog 44 #[.agg #[.string (mkS x.path), .int .i64 (x.blocks : Int), .int .i64 (x.done : Int), .int .i64 (x.tick : Int)], .pointer (some ⟨B, 0, none⟩)] W fun e w' => e = .returned (.bool (decide (x.path = p))) ∧ Below w.heap.size w w'
  have hd : ((mkS x.path).toList == (mkS p).toList) = decide (x.path = p) := by
    rw [mkS_toList, mkS_toList]
    by_cases h : x.path = p
    · simp [h]
    · simp [h]
  obtain ⟨r, hr⟩ : ∃ r, decide (x.path = p) = r := ⟨_, rfl⟩
  rw [hr] at hd ⊢
  have HB := Lib.hid hb
  clear hb hr
  generalize mkS x.path = X at hd ⊢
  generalize mkS p = Y at hd hc
  go_enter Tryd.func44, Tryd.ntmps44
  go_wp2
  all_goals (go_ret; exact ⟨by simp_all, HB.out.alloc HB.out.size _⟩)
set_option maxHeartbeats 1000000 in
theorem idxF_nil (g : Nat) (lb : Array Value) (w : World) : Calls Tryd.prog 43 #[.slice none 0 0, .func (.func g) #[] lb] w fun e w' => e = .returned (.int .i64 (-1)) ∧ Below w.heap.size w w' := by
  go_enter Tryd.func43, Tryd.ntmps43
  go_wp2
  refine wp_loop_rounds 1 ?_
  rw [rounds_succ]
  go_wp2
  go_ret
  exact ⟨rfl, .refl _ _⟩
set_option maxHeartbeats 1000000 in
theorem find_any {base : Nat} {v : Value} (q : List Fl) (p : S8) (w : World) (h : w.ownsRow base EF 4 v q.length (flsC q)) (hn : q.length < 100000000) :
    Calls Tryd.prog 29 #[v, .string (mkS p)] w fun e w' => e = .returned (.int .i64 (findI q p)) ∧ Below w.heap.size w w' := by
  obtain ⟨pt, cap, rfl, hl, hp, hle, hb⟩ := own_shape h
  obtain ⟨W1, hW1⟩ : ∃ W1, w.alloc (.cells #[.string (mkS p)] 9) = W1 := ⟨_, rfl⟩
  have hB1 : Below w.heap.size w W1 := by rw [← hW1]; exact (Below.refl _ w).alloc (Nat.le_refl _) _
  have hsz : W1.heap.size = w.heap.size + 1 := by rw [← hW1]; simp
  have hcell : W1.cell? ⟨w.heap.size, 0, none⟩ = some (.string (mkS p)) := by rw [← hW1]; simp
  have hcon : Calls Tryd.prog 43 #[.slice pt q.length cap, .func (.func 44) #[] #[.pointer (some ⟨w.heap.size, 0, none⟩)]] W1 fun e w' => e = .returned (.int .i64 (findI q p)) ∧ Below w.heap.size w w' := by
    rcases h.2 with ⟨hv, hn0⟩ | ⟨c, cap', cur, hv, -, hg, -⟩
    · injection hv with hv1 hv2 hv3
      have hq0 : q = [] := List.eq_nil_of_length_eq_zero hn0
      subst hv1 hv3 hq0
      exact (idxF_nil _ _ W1).mono fun e w' hh => ⟨hh.1, hB1.trans (hh.2.mono hB1.size)⟩
    · injection hv with hv1 hv2 hv3
      subst hv1 hv3
      have hc : c < w.heap.size := (Array.getElem?_eq_some_iff.1 hg).1
      have eg : ∀ args w, (callFunc 44 args).run Tryd.prog w = .ok (.enter 44 args) w := enters_of Tryd.func44 (by kernel_rfl) rfl
      have hl1 := hl.of_below hB1
      have key := AnyQ.slices_IndexFunc Tryd.idxF14 4 Tryd.isAgg74 Tryd.sizeOf74 flC (fun _ => rfl) (fun x => decide (x.path = p)) 44 #[.pointer (some ⟨w.heap.size, 0, none⟩)] eg c 0 q.length cap q W1
        (pred14 p w.heap.size W1 (by omega) hcell) (Nat.le_refl _) (by omega) (by omega) (fun j hj i u hi => by
          have hi4 : i < 4 := by
            have := (List.getElem?_eq_some_iff.1 hi).1
            simpa [flC] using this
          obtain ⟨c', o', e, hx⟩ := hl1 (j * 4 + i) (by rw [flsC_len]; omega)
          injection e with e
          injection e with e1 e2
          subst e1 e2
          rw [flsC_get q j i hj hi4] at hx
          rw [Nat.add_assoc, hx]
          have : q[j]! = q.getD j fl0 := by simp [List.getD_eq_getElem?_getD, hj]
          rw [← this]
          exact hi)
      change Calls Tryd.prog 43 _ _ _ at key
      refine key.mono ?_
      rintro e w' ⟨rfl, hb'⟩
      rw [List.take_length]
      exact ⟨rfl, hB1.trans (hb'.mono hB1.size)⟩
  obtain ⟨r, hr⟩ : ∃ r, findI q p = r := ⟨_, rfl⟩
  rw [hr] at hcon ⊢
  rw [← hW1] at hcon
  have HC := Lib.hid hcon
  clear hcon hr hl hW1 hcell hB1 hb h
  go_enter Tryd.func29, Tryd.ntmps29
  go_wp2_with (go_at_call 43; refine HC.out.mono ?_; rintro e w' ⟨rfl, hb'⟩)
  go_ret
  exact ⟨rfl, hb'⟩
end Go.Proofs.YtcgilacmdckbfaaDoor
