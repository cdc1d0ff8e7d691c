/- Serve of the ward. -/
import Derived.Test.YtllpcllgliknpaaGreatDoorWln15
set_option linter.unusedSimpArgs false
set_option maxRecDepth 100000
set_option linter.unusedVariables false
namespace Go.Proofs.YtllpcllgliknpaaGreatDoor
open Go Go.RowKit Go.MapKept

/-- Whether a block from f on, but not t, is held. -/
def inR (h : Hs) (f t : Int) : Bool := h.any fun x => decide (f ≤ x.1 ∧ x.1 < t)
theorem inR_cons (k r : Int) (h : Hs) (f t : Int) : inR ((k, r) :: h) f t = (decide (f ≤ k ∧ k < t) || inR h f t) := rfl
theorem inR_perm {h h' : Hs} (hp : h.Perm h') (f t : Int) : inR h f t = inR h' f t := by
  unfold inR
  rw [Bool.eq_iff_iff, List.any_eq_true, List.any_eq_true]
  exact ⟨fun ⟨x, hx, e⟩ => ⟨x, hp.mem_iff.1 hx, e⟩, fun ⟨x, hx, e⟩ => ⟨x, hp.mem_iff.2 hx, e⟩⟩
theorem serveC_eq (s : Ws) (p : S8) (f t : Int) : serveC s p f t = if f < 0 ∨ t < f ∨ 64 < t then 1 else if inR (ofW s p) f t then 13 else 0 := rfl
section
variable {w : World} {b mb : Nat} {F : Nat → Prop} {s : Ws} {bk : S8 → Nat}
set_option maxRecDepth 100000 in
set_option maxHeartbeats 4000000 in
theorem serve15_any (h : WdAt w b F s mb bk) (p : S8) (f t : Int) : Calls Tryz.prog 8 #[.pointer (some ⟨b, 0, none⟩), .string (mkS p), .int .i64 f, .int .i64 t] w fun e w' => e = .returned (.int .i64 (serveC s p f t)) ∧ Below w.heap.size w w' := by
  rw [serveC_eq]
  have c0 := h.cell
  have hl := look15 h p
  have hrn := run_range_nilMap (P := Tryz.prog) w TRs _ _ rsT
  have H := Lib.hid h
  by_cases g1 : f < 0
  · have g1b : decide (f < 0) = true := decide_eq_true g1
    have HR := Lib.hid (if_pos (Or.inl g1) : (if f < 0 ∨ t < f ∨ 64 < t then (1 : Int) else if inR (ofW s p) f t then 13 else 0) = 1)
    clear h
    rw [HR.out]
    go_enter Tryz.func8, Tryz.ntmps8
    go_wp2
    go_ret
    exact ⟨rfl, Below.refl _ _⟩
  have g1b : decide (f < 0) = false := decide_eq_false g1
  by_cases g2 : t < f
  · have g2b : decide (t < f) = true := decide_eq_true g2
    have HR := Lib.hid (if_pos (Or.inr (Or.inl g2)) : (if f < 0 ∨ t < f ∨ 64 < t then (1 : Int) else if inR (ofW s p) f t then 13 else 0) = 1)
    clear h
    rw [HR.out]
    go_enter Tryz.func8, Tryz.ntmps8
    go_wp2
    go_ret
    exact ⟨rfl, Below.refl _ _⟩
  have g2b : decide (t < f) = false := decide_eq_false g2
  by_cases g3 : 64 < t
  · have g3b : decide (64 < t) = true := decide_eq_true g3
    have HR := Lib.hid (if_pos (Or.inr (Or.inr g3)) : (if f < 0 ∨ t < f ∨ 64 < t then (1 : Int) else if inR (ofW s p) f t then 13 else 0) = 1)
    clear h
    rw [HR.out]
    go_enter Tryz.func8, Tryz.ntmps8
    go_wp2
    go_ret
    exact ⟨rfl, Below.refl _ _⟩
  have g3b : decide (64 < t) = false := decide_eq_false g3
  rw [if_neg (show ¬ (f < 0 ∨ t < f ∨ 64 < t) by omega)]
  cases hf : findW s p with
  | none =>
    have hof : ofW s p = [] := by unfold ofW; rw [hf]; rfl
    rw [hof]
    rw [hf] at hl
    have hnx : ∀ ty, (Instr.next (.pointer (some ⟨w.heap.size, 0, none⟩)) false ty).run Tryz.prog (w.alloc (.mapIter none 0 #[] 0)) = _ := fun ty => run_next_nilMap w ty 0 0 #[]
    have HB := Lib.hid ((Below.refl w.heap.size w).alloc (Nat.le_refl _) (.mapIter none 0 #[] 0))
    clear h hf hof
    change (Instr.lookup TWm (.map (some mb)) (.string (mkS p)) false).run Tryz.prog w = .ok (.map none) w at hl
    go_enter Tryz.func8, Tryz.ntmps8
    go_wp2
    go_loopw [9] (fun _ wr => wr = w.alloc (.mapIter none 0 #[] 0)) (fun _ _ => 0)
    case atStart => rfl
    case round =>
      subst hrel
      go_wp2
      go_ret
      exact ⟨rfl, HB.out⟩
  | some l =>
    have hof : ofW s p = l := by unfold ofW; rw [hf]; rfl
    rw [hof]
    rw [hf] at hl
    obtain ⟨rc, hrc⟩ : ∃ rc : Int, (if inR l f t then (13 : Int) else 0) = rc := ⟨_, rfl⟩
    rw [hrc]
    have HRC := Lib.hid hrc
    clear hrc
    have HM := Lib.hid (h.of hf)
    obtain ⟨g, hg⟩ : ∃ g, bk p = g := ⟨_, rfl⟩
    rw [hg] at HM
    change (Instr.lookup TWm (.map (some mb)) (.string (mkS p)) false).run Tryz.prog w = .ok (.map (some (bk p))) w at hl
    rw [hg] at hl
    clear h hf hof hrn hg
    go_enter Tryz.func8, Tryz.ntmps8
    go_wp2_with (first | (at_range; refine wpl_rangeI15 _ rfl _ rfl rsT rfl HM.out ?_; intro w0 hR0 hB0 hz0) | go_in)
    try go_frame
    clear hl c0
    go_loopw [9] (fun _ wr => ∃ done todo : Hs, l.Perm (done ++ todo) ∧ inR done f t = false ∧ RngI8 wr g w.heap.size (hsV l) (hsV todo) ∧ Below w.heap.size w wr) (fun _ wr => wr.rangeLeft g w.heap.size)
    case atStart => exact ⟨[], l, List.Perm.refl _, rfl, hR0, hB0⟩
    case round =>
      obtain ⟨done, todo, hperm, hno, hR, hB⟩ := hrel
      have HPM := Lib.hid hperm
      have HNO := Lib.hid hno
      have HB := Lib.hid hB
      clear hperm hB hno
      have HRL := Lib.hid hR.left
      have HNW := Lib.hid hR.lt
      go_wp2_with (first | (at_next; refine wpl_nextH _ rfl _ rfl rfl hR ?_ ?_) | go_in)
      · intro htodo
        have HE := Lib.hid (show rc = 0 by
          have := HPM.out
          rw [htodo, List.append_nil] at this
          rw [← HRC.out, inR_perm this, HNO.out]
          rfl)
        clear htodo hR
        go_wp2
        go_ret
        exact ⟨by rw [HE.out]; rfl, HB.out⟩
      · intro xk xr t2 w1 hp1 hR1 hen hg1 hz1
        have HB1 := Lib.hid (HB.out.grown hg1 HB.out.size (fun j hj => by cases hj; exact Nat.le_refl _))
        have HP2 := Lib.hid (show l.Perm ((xk, xr) :: done ++ t2) from HPM.out.trans ((hp1.append_left done).trans List.perm_middle))
        have HP1 := Lib.hid hp1
        have HR1 := Lib.hid hR1
        by_cases q1 : f ≤ xk
        · have q1b : decide (f ≤ xk) = true := decide_eq_true q1
          by_cases q2 : xk < t
          · have q2b : decide (xk < t) = true := decide_eq_true q2
            have HE := Lib.hid (show rc = 13 by
              have e : inR l f t = true := by
                rw [inR_perm HP2.out]
                show (decide (f ≤ xk ∧ xk < t) || _) = true
                rw [decide_eq_true ⟨q1, q2⟩]
                rfl
              rw [← HRC.out, e]
              rfl)
            clear hp1 hR hR1 hg1 hz1
            go_wp2
            go_ret
            exact ⟨by rw [HE.out]; rfl, HB1.out⟩
          · have q2b : decide (xk < t) = false := decide_eq_false q2
            have HN2 := Lib.hid (show inR ((xk, xr) :: done) f t = false by
              rw [inR_cons, HNO.out, decide_eq_false (fun h => q2 h.2)]
              rfl)
            clear hp1 hR hR1 hg1 hz1
            go_wp2
            go_roundw
            case rel => exact ⟨(xk, xr) :: done, t2, HP2.out, HN2.out, HR1.out, HB1.out⟩
            case measure => rw [HR1.out.left, HRL.out]; unfold hsV; rw [List.length_map, List.length_map, HP1.out.length_eq]; simp
        · have q1b : decide (f ≤ xk) = false := decide_eq_false q1
          have HN2 := Lib.hid (show inR ((xk, xr) :: done) f t = false by
            rw [inR_cons, HNO.out, decide_eq_false (fun h => q1 h.1)]
            rfl)
          clear hp1 hR hR1 hg1 hz1
          go_wp2
          go_roundw
          case rel => exact ⟨(xk, xr) :: done, t2, HP2.out, HN2.out, HR1.out, HB1.out⟩
          case measure => rw [HR1.out.left, HRL.out]; unfold hsV; rw [List.length_map, List.length_map, HP1.out.length_eq]; simp
end
end Go.Proofs.YtllpcllgliknpaaGreatDoor
