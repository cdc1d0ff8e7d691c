/- Vectors merged, incremented; the reference's comparison. -/
import Derived.Test.YtdkbmidacpooiaaCmp9
set_option linter.unusedSimpArgs false
set_option linter.unusedVariables false
namespace Go.Proofs.Ytdkbmidacpooiaa
open Go Go.RowKit

attribute [local go_sem ↓] exec_boxA exec_loadA exec_indexA exec_allocA exec_storeA exec_buildA exec_eqlA exec_neqA exec_boxV exec_loadV exec_indexV exec_allocV exec_storeV exec_buildV exec_eqlV exec_neqV
attribute [local go_sem] boxA indexA storeNewA buildA eqlA neqA boxV indexV storeNewV buildV eqlV neqV

theorem resV {fn : Func} {p : Tmp} {T : TypeId} (hT : VT T) (h : fn.results = #[.cell p T]) (tmps : Array Value) (w : World) (b : Nat) (T2 : TypeId) (f : Nat → Int) (hp : tmps.getD p undef = .pointer (some ⟨b, 0, none⟩)) (hR : Row w b T2 16 (vf f)) : (results fn tmps).run Try.prog w = .ok (vcV f) w := by
  have := results_cell_row (P := Try.prog) h tmps w b T2 (tab 16 (vf f)) (0, 0) _ hp hR hT.und rfl (by rw [hT.size, tab_size])
  unfold vcV
  exact this
set_option maxRecDepth 100000 in
set_option maxHeartbeats 2000000 in
theorem refCompare_any (f g : Nat → Int) (w : World) : Calls Try.prog 13 #[vcV f, vcV g] w fun e w' => e = .returned (.int .i64 (cmpV f g)) ∧ Below w.heap.size w w' := by
  obtain ⟨r1, r2, hb⟩ := twoRows w 22 (vf f) (vf g) 16
  have l1 := loadVT vtA (VecAt.of_row r1 (Nat.le_refl _))
  have l2 := loadVT vtA (VecAt.of_row r2 (Nat.le_refl _))
  have HS := Lib.hid (show Row ((w.alloc (.cells (tab 16 (vf f)) 22)).alloc (.cells (tab 16 (vf g)) 22)) w.heap.size 22 16 (vf f) ∧ Row ((w.alloc (.cells (tab 16 (vf f)) 22)).alloc (.cells (tab 16 (vf g)) 22)) (w.heap.size + 1) 22 16 (vf g) ∧ Below w.heap.size w ((w.alloc (.cells (tab 16 (vf f)) 22)).alloc (.cells (tab 16 (vf g)) 22)) from ⟨r1, r2, hb⟩)
  have HC0 := Lib.hid (refCovers_any f g ((w.alloc (.cells (tab 16 (vf f)) 22)).alloc (.cells (tab 16 (vf g)) 22)))
  have HC1 := Lib.hid (refCovers_any g f)
  have HC2 := Lib.hid (refCovers_any f g)
  clear r1 r2 hb
  obtain ⟨c1, h1⟩ : ∃ c, cvV g f = c := ⟨_, rfl⟩
  obtain ⟨c2, h2⟩ : ∃ c, cvV f g = c := ⟨_, rfl⟩
  have HV := Lib.hid (show cmpV f g = if (c2 && c1) then 0 else if c1 then -1 else if c2 then 1 else 2 by unfold cmpV; rw [veq_cv, h1, h2])
  rw [h1] at HC1
  rw [h2] at HC2 HC0
  clear h1 h2
  go_enter Try.func13, Try.ntmps13
  go_wp2_with fail
  refine HC0.out.mono ?_
  rintro e w2 ⟨rfl, hB2⟩
  have hb2 := HS.out.2.2.trans (hB2.mono HS.out.2.2.size)
  have HB2 := Lib.hid hb2
  have R1 := Lib.hid (HS.out.1.of_below hB2)
  have R2 := Lib.hid (HS.out.2.1.of_below hB2)
  have k1 := loadVT vtA (VecAt.of_row R1.out (Nat.le_refl _))
  have k2 := loadVT vtA (VecAt.of_row R2.out (Nat.le_refl _))
  clear l1 l2 hb2 hB2
  cases c2 with
  | false =>
    go_wp2_with fail
    refine (HC1.out w2).mono ?_
    rintro e w3 ⟨rfl, hB3⟩
    have HB3 := Lib.hid (HB2.out.trans (hB3.mono HB2.out.size))
    have m1 := loadVT vtA (VecAt.of_row (R1.out.of_below hB3) (Nat.le_refl _))
    have m2 := loadVT vtA (VecAt.of_row (R2.out.of_below hB3) (Nat.le_refl _))
    clear k1 k2 hB3
    cases c1 with
    | true =>
      go_wp2
      go_ret
      exact ⟨by rw [HV.out]; rfl, HB3.out⟩
    | false =>
      go_wp2_with fail
      refine (HC2.out w3).mono ?_
      rintro e w4 ⟨rfl, hB4⟩
      have HB4 := Lib.hid (HB3.out.trans (hB4.mono HB3.out.size))
      clear m1 m2 hB4
      go_wp2
      go_ret
      exact ⟨by rw [HV.out]; rfl, HB4.out⟩
  | true =>
    go_wp2_with fail
    refine (HC1.out w2).mono ?_
    rintro e w3 ⟨rfl, hB3⟩
    have HB3 := Lib.hid (HB2.out.trans (hB3.mono HB2.out.size))
    have R13 := Lib.hid (R1.out.of_below hB3)
    have R23 := Lib.hid (R2.out.of_below hB3)
    have m1 := loadVT vtA (VecAt.of_row R13.out (Nat.le_refl _))
    have m2 := loadVT vtA (VecAt.of_row R23.out (Nat.le_refl _))
    clear k1 k2 hB3
    cases c1 with
    | true =>
      go_wp2
      go_ret
      exact ⟨by rw [HV.out]; rfl, HB3.out⟩
    | false =>
      go_wp2_with fail
      refine (HC1.out w3).mono ?_
      rintro e w4 ⟨rfl, hB4⟩
      have HB4 := Lib.hid (HB3.out.trans (hB4.mono HB3.out.size))
      have n1 := loadVT vtA (VecAt.of_row (R13.out.of_below hB4) (Nat.le_refl _))
      have n2 := loadVT vtA (VecAt.of_row (R23.out.of_below hB4) (Nat.le_refl _))
      clear m1 m2 hB4
      go_wp2_with fail
      refine (HC2.out w4).mono ?_
      rintro e w5 ⟨rfl, hB5⟩
      have HB5 := Lib.hid (HB4.out.trans (hB5.mono HB4.out.size))
      clear n1 n2 hB5
      go_wp2
      go_ret
      exact ⟨by rw [HV.out]; rfl, HB5.out⟩
/-- What the reference's Merge has after k steps. -/
def mxTo (f g : Nat → Int) (k : Nat) : Nat → Int := fun i => if i < k then max (f i) (g i) else f i
theorem mxTo_all (f g : Nat → Int) : ∀ i, i < 16 → mxTo f g 16 i = mxV f g i := fun i hi => by unfold mxTo mxV; rw [if_pos hi]
set_option maxRecDepth 100000 in
set_option maxHeartbeats 2000000 in
theorem refMerge_any (f g : Nat → Int) (w : World) : Calls Try.prog 14 #[vcV f, vcV g] w fun e w' => e = .returned (vcV (mxV f g)) ∧ Below w.heap.size w w' := by
  have HS : Hid (Row (((w.alloc (.cells (tab 16 (vf f)) 22)).alloc (.cells (tab 16 (vf g)) 22)).alloc (.cells (tab 16 (vf fun _ => 0)) 22)) w.heap.size 22 16 (vf (mxTo f g 0)) ∧ Row (((w.alloc (.cells (tab 16 (vf f)) 22)).alloc (.cells (tab 16 (vf g)) 22)).alloc (.cells (tab 16 (vf fun _ => 0)) 22)) (w.heap.size + 1) 22 16 (vf g) ∧ Row (((w.alloc (.cells (tab 16 (vf f)) 22)).alloc (.cells (tab 16 (vf g)) 22)).alloc (.cells (tab 16 (vf fun _ => 0)) 22)) (w.heap.size + 1 + 1) 22 16 (vf fun _ => 0) ∧ Below w.heap.size w (((w.alloc (.cells (tab 16 (vf f)) 22)).alloc (.cells (tab 16 (vf g)) 22)).alloc (.cells (tab 16 (vf fun _ => 0)) 22))) := Lib.hid (by
    obtain ⟨r1, r2, hb⟩ := twoRows w 22 (vf f) (vf g) 16
    have ha := (Below.refl ((w.alloc (.cells (tab 16 (vf f)) 22)).alloc (.cells (tab 16 (vf g)) 22)).heap.size ((w.alloc (.cells (tab 16 (vf f)) 22)).alloc (.cells (tab 16 (vf g)) 22))).alloc (Nat.le_refl _) (.cells (tab 16 (vf fun _ => 0)) 22)
    have r3 := Row.new ((w.alloc (.cells (tab 16 (vf f)) 22)).alloc (.cells (tab 16 (vf g)) 22)) 22 16 (vf fun _ => 0)
    rw [World.size_alloc, World.size_alloc] at r3
    exact ⟨(r1.of_below ha).congr fun i _ => by unfold vf mxTo; rw [if_neg (by omega)], r2.of_below ha, r3, hb.trans (ha.mono hb.size)⟩)
  go_enter Try.func14, Try.ntmps14
  go_wp2
  go_loopw [6] (fun i wr => ∃ k : Nat, k ≤ 16 ∧ i = .int .i64 k ∧ Row wr w.heap.size 22 16 (vf (mxTo f g k)) ∧ Row wr (w.heap.size + 1) 22 16 (vf g) ∧ Row wr (w.heap.size + 1 + 1) 22 16 (vf fun _ => 0) ∧ Below w.heap.size w wr) (fun i _ => 16 - (intOf i).toNat)
  case atStart => exact ⟨0, Nat.zero_le _, rfl, HS.out.1, HS.out.2.1, HS.out.2.2.1, HS.out.2.2.2⟩
  case round =>
    clear HS
    obtain ⟨k, hk, rfl, hR1, hR2, hR3, hB⟩ := hrel
    have HB := Lib.hid hB
    have HR1 := Lib.hid hR1
    have HR2 := Lib.hid hR2
    have HR3 := Lib.hid hR3
    clear hB
    by_cases h16 : k < 16
    · have z1 : (k : Int) < 16 := by omega
      have z2 : decide ((k : Int) < 16) = true := decide_eq_true z1
      have hw := i64v k h16
      have x1 : wr.cell? ⟨w.heap.size, k, none⟩ = some (.int .i64 (f k)) := by rw [hR1.cell k h16]; unfold vf mxTo; rw [if_neg (by omega)]
      have x2 : wr.cell? ⟨w.heap.size + 1, k, none⟩ = some (.int .i64 (g k)) := hR2.cell k h16
      have x3 := hR1.free k
      clear hR1 hR2 hR3
      by_cases hlt : f k < g k
      · have t1 : decide (f k < g k) = true := decide_eq_true hlt
        have HE := Lib.hid (show max (f k) (g k) = g k by omega)
        clear hlt
        go_wp2
        go_quiet (fail)
        go_wp2
        go_roundw
        case rel => exact ⟨k + 1, by omega, by go_num, ((HR1.out.set k (.int .i64 (g k))).drewN _).congr fun j hj => by
          by_cases e : j = k
          · subst e
            rw [if_pos rfl]
            unfold vf mxTo
            rw [if_pos (by omega), HE.out]
          · rw [if_neg e]
            unfold vf mxTo
            by_cases e2 : j < k
            · rw [if_pos e2, if_pos (by omega)]
            · rw [if_neg e2, if_neg (by omega)], (HR2.out.of_block (Below.heap_setCell _ _ _ _ (by show w.heap.size + 1 ≠ w.heap.size; omega))).drewN _, (HR3.out.of_block (Below.heap_setCell _ _ _ _ (by show w.heap.size + 1 + 1 ≠ w.heap.size; omega))).drewN _, below_drewN (HB.out.setCell (Nat.le_refl _) _) _⟩
        case measure => simp [intOf]; omega
      · have t1 : decide (f k < g k) = false := decide_eq_false hlt
        have HE := Lib.hid (show max (f k) (g k) = f k by omega)
        clear hlt
        go_wp2
        go_quiet (fail)
        go_wp2
        go_roundw
        case rel => exact ⟨k + 1, by omega, by go_num, (HR1.out.drewN _).congr fun j hj => by
          by_cases e : j = k
          · subst e
            unfold vf mxTo
            rw [if_neg (by omega), if_pos (by omega), HE.out]
          · unfold vf mxTo
            by_cases e2 : j < k
            · rw [if_pos e2, if_pos (by omega)]
            · rw [if_neg e2, if_neg (by omega)], HR2.out.drewN _, HR3.out.drewN _, below_drewN HB.out _⟩
        case measure => simp [intOf]; omega
    · have z1 : ¬ (k : Int) < 16 := by omega
      have z2 : decide ((k : Int) < 16) = false := decide_eq_false z1
      obtain rfl : k = 16 := by omega
      have l1 := loadVT vtA (VecAt.of_row hR1 (Nat.le_refl _))
      obtain ⟨w5, hs5, hR5, hK5⟩ := storeVT vtA hR3 (mxTo f g 16)
      have HR5 := Lib.hid hR5
      have HB5 := Lib.hid (HB.out.trans (hK5.below (by omega) HB.out.size))
      clear hR1 hR2 hR3 hR5 hK5
      go_wp2
      refine bodyPost_ret (resV vtA rfl _ w5 (w.heap.size + 1 + 1) 22 (mxTo f g 16) rfl HR5.out) rfl ?_
      exact ⟨by rw [vcV_congr (mxTo_all f g)], HB5.out⟩
end Go.Proofs.Ytdkbmidacpooiaa
