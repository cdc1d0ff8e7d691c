/- Merged texts: Rtk14, Ist14, Nam14, Ord14, Lpi14, Lps14, Awk14. -/
import Derived.Test.YtcgilacmdckbfaaDoorKL2
import Derived.Test.YtcgilacmdckbfaaDoorTck14
import Derived.Deep.RegionHeld3
import Derived.BigQuiet
import Derived.Test.YtcgilacmdckbfaaDoorKL1
import Derived.Test.YtcgilacmdckbfaaDoorLnx14
import Derived.Test.YtcgilacmdckbfaaDoorBytes
import Derived.Test.YtcgilacmdckbfaaDoorRpt14
set_option linter.unusedSimpArgs false
set_option linter.unusedVariables false
/- darnerref14.Tick. -/
set_option maxRecDepth 100000
namespace Go.Proofs.YtcgilacmdckbfaaDoor
open Go Go.RowKit

set_option maxHeartbeats 4000000 in
theorem refTickBad_any {w : World} {q : Option Addr} {n cap : Nat} {M : List Rf} (c : Int) (h : RLs w q n cap M) (z : Int) (hz : badB z = true) :
    Calls Tryd.prog 14 #[.agg #[.slice q n cap, .int .i64 c], .int .i64 z] w fun e w' => e = .returned (.tuple #[.agg #[.slice q n cap, .int .i64 c], .slice none 0 0, .int .i64 1]) ∧ Below w.heap.size w w' := by
  obtain ⟨bx, hbx⟩ : ∃ b, w.heap.size = b := ⟨_, rfl⟩
  obtain ⟨W1, hW1⟩ : ∃ W, (w.alloc (.cells #[.slice q n cap, .int .i64 c] TL14)).alloc (.cells #[.slice none 0 0, .int .i64 0] TL14) = W := ⟨_, rfl⟩
  have hB1 : Below w.heap.size w W1 := by rw [← hW1]; exact ((Below.refl _ w).alloc (Nat.le_refl _) _).alloc (by simp) _
  have hh1 : W1.heap[bx]? = some (.cells #[.slice q n cap, .int .i64 c] TL14 (0, 0)) ∧ W1.heap[bx + 1]? = some (.cells #[.slice none 0 0, .int .i64 0] TL14 (0, 0)) := by
    rw [← hW1, ← hbx]
    refine ⟨?_, ?_⟩
    · rw [Below.heap_alloc _ _ _ (by simp)]; exact World.alloc_heap_new _ _
    · have := World.alloc_heap_new (w.alloc (.cells #[.slice q n cap, .int .i64 c] TL14)) (.cells #[.slice none 0 0, .int .i64 0] TL14)
      rw [World.size_alloc] at this
      exact this
  obtain ⟨k0, k1, -, -⟩ := twoCells hh1.1
  obtain ⟨j0, j1, j2, j3⟩ := twoCells hh1.2
  have HE := Lib.hid (show ∀ tmps : Array Value, tmps.getD 4 undef = .pointer (some ⟨bx + 1, 0, none⟩) → tmps.getD 5 undef = .slice none 0 0 → tmps.getD 6 undef = .int .i64 1 →
      bodyPost Tryd.prog Tryd.f14 (fun e w' => e = .returned (.tuple #[.agg #[.slice q n cap, .int .i64 c], .slice none 0 0, .int .i64 1]) ∧ Below bx w w') .ret ⟨tmps, []⟩ ((W1.setCell ⟨bx + 1, 0, none⟩ (.slice q n cap)).setCell ⟨bx + 1, 1, none⟩ (.int .i64 c)) from fun tmps h4 h5 h6 => by
    refine bodyPost_ret (resL3 rfl _ _ (bx + 1) (.slice q n cap) (.int .i64 c) (.slice none 0 0) (.int .i64 1) h4 h5 h6 (twoSet hh1.2) rfl rfl) rfl ?_
    rw [← hbx]
    exact ⟨rfl, hB1.trans ((twoKp W1 (w.heap.size + 1) _ _).below (fun k hk => by omega) hB1.size)⟩)
  clear h hB1 hh1
  rw [hbx]
  by_cases h1 : z < 2
  · have g1 : decide (z < 2) = true := decide_eq_true h1
    clear hz
    go_enter Tryd.func14, Tryd.ntmps14
    go_wp2
    refine HE.out _ ?_ ?_ ?_ <;> rfl
  · have g1 : decide (z < 2) = false := decide_eq_false h1
    by_cases h2 : 1000 < z
    · have g2 : decide (1000 < z) = true := decide_eq_true h2
      clear hz
      go_enter Tryd.func14, Tryd.ntmps14
      go_wp2
      refine HE.out _ ?_ ?_ ?_ <;> rfl
    · have g2 : decide (1000 < z) = false := decide_eq_false h2
      have h3 : z % 2 = 1 := by
        unfold badB at hz
        rw [g1, g2] at hz
        simp at hz
        omega
      have h4 : Int.tmod z 2 = 1 := by rw [Int.tmod_eq_emod_of_nonneg (by omega)]; exact h3
      clear hz
      go_enter Tryd.func14, Tryd.ntmps14
      go_wp2
      refine HE.out _ ?_ ?_ ?_ <;> rfl
/-- What the document's Tick leaves. -/
def RtkP (S0 : Nat → Prop) (w : World) (n : Nat) (s : Ln) (h : Nat) (en : Ending) (w' : World) : Prop :=
  ∃ q' cap' M' v', en = .returned (.tuple #[.agg #[.slice q' n cap', .int .i64 ((s.clock + 1 : Nat) : Int)], v', .int .i64 0]) ∧ (∀ z, KpF (fun g => v'.ownBlock = some g ∨ S0 g) w' z → RLs z q' n cap' M') ∧ RelQ M' (tickA s h).rest ((tickB s h).rest ++ tickFin s h) ∧ OkM M' ∧ w'.ownsRow w.heap.size EWr 5 v' (tickOut s h).length (wksC (tickOut s h)) ∧ Below w.heap.size w w'
set_option maxHeartbeats 8000000 in
theorem refTick_any {w : World} {q : Option Addr} {n cap : Nat} {M : List Rf} {s : Ln} (S0 : Nat → Prop) (hS0 : ∀ g, S0 g → g < w.heap.size) (hr : ∀ z, KpF S0 w z → RLs z q n cap M) (hq : RelQ M s.en s.sc) (hM : OkM M) (hn : n ≤ 10000) (hs : s.sc.Pairwise ltF) (ht : ∀ f ∈ s.sc, f.tick ≤ s.clock) (hc : s.clock < 1000000000)
    (z : Int) (h : Nat) (h1 : 1 ≤ h) (h2 : h ≤ 500) (hz : z = 2 * (h : Int)) :
    Calls Tryd.prog 14 #[.agg #[.slice q n cap, .int .i64 (s.clock : Int)], .int .i64 z] w fun e w' => RtkP S0 w n s h e w' := by
  have hlen := hq.len
  have hMn := (hr w (KpF.refl _ _)).1
  obtain ⟨ck, hck⟩ : ∃ c, s.clock + 1 = c := ⟨_, rfl⟩
  obtain ⟨c0, hc0⟩ : ∃ c, s.clock = c := ⟨_, rfl⟩
  rw [hc0]
  obtain ⟨bx, hbx⟩ : ∃ b, w.heap.size = b := ⟨_, rfl⟩
  obtain ⟨W1, hW1⟩ : ∃ W, (w.alloc (.cells #[.slice q n cap, .int .i64 (c0 : Int)] TL14)).alloc (.cells #[.slice none 0 0, .int .i64 0] TL14) = W := ⟨_, rfl⟩
  have hB1 : Below w.heap.size w W1 := by rw [← hW1]; exact ((Below.refl _ w).alloc (Nat.le_refl _) _).alloc (by simp) _
  have hh1 : W1.heap[bx]? = some (.cells #[.slice q n cap, .int .i64 (c0 : Int)] TL14 (0, 0)) ∧ W1.heap[bx + 1]? = some (.cells #[.slice none 0 0, .int .i64 0] TL14 (0, 0)) := by
    rw [← hW1, ← hbx]
    refine ⟨?_, ?_⟩
    · rw [Below.heap_alloc _ _ _ (by simp)]; exact World.alloc_heap_new _ _
    · have := World.alloc_heap_new (w.alloc (.cells #[.slice q n cap, .int .i64 (c0 : Int)] TL14)) (.cells #[.slice none 0 0, .int .i64 0] TL14)
      rw [World.size_alloc] at this
      exact this
  obtain ⟨k0, k1, -, k3⟩ := twoCells hh1.1
  obtain ⟨W2, hW2⟩ : ∃ W, W1.setCell ⟨bx, 1, none⟩ (.int .i64 (ck : Int)) = W := ⟨_, rfl⟩
  have hb2 : W2.heap[bx]? = some (.cells #[.slice q n cap, .int .i64 (ck : Int)] TL14 (0, 0)) := by rw [← hW2]; exact setAt14 hh1.1
  have hx2 : W2.heap[bx + 1]? = some (.cells #[.slice none 0 0, .int .i64 0] TL14 (0, 0)) := by rw [← hW2, setOff14 (by omega)]; exact hh1.2
  have hB2 : Below w.heap.size w W2 := by rw [← hW2]; exact hB1.trans ((KpF.setCell (S := fun k => k = bx) W1 ⟨bx, 1, none⟩ _ rfl).below (fun k hk => by have hk : k = bx := hk; omega) hB1.size)
  obtain ⟨k20, k21, -, -⟩ := twoCells hb2
  have hw1 : IntKind.i64.wrap ((c0 : Int) + 1) = (ck : Int) := by rw [IntKind.wrap_i64]; omega
  have z1 : ¬ z < 2 := by omega
  have z2 : decide (z < 2) = false := decide_eq_false z1
  have z3 : ¬ 1000 < z := by omega
  have z4 : decide (1000 < z) = false := decide_eq_false z3
  have z5 : Int.tmod z 2 = 0 := by rw [Int.tmod_eq_emod_of_nonneg (by omega)]; omega
  have z6 : Int.tdiv z 2 = (h : Int) := by rw [Int.tdiv_eq_ediv_of_nonneg (by omega)]; omega
  have z7 : z % 2 = 0 := by omega
  have z8 : z / 2 = (h : Int) := by omega
  obtain ⟨R1, hR1e⟩ : ∃ R, workL ck true s.en h = R := ⟨_, rfl⟩
  have hl1 := refLane_any (fun g => g = bx ∨ g = bx + 1 ∨ S0 g) (fun g hg => by have h1 := (Array.getElem?_eq_some_iff.1 hx2).1; rcases hg with hg | hg | hg; omega; omega; (have := hS0 g hg; omega)) true ck h (laneE ck s.sc) (fun z hz => hr z ⟨hz.os.trans hB2.os, hz.tape.trans hB2.tape, hz.output.trans hB2.output, Nat.le_trans hB2.size hz.size, fun k hk hn => (hz.block k (Nat.lt_of_lt_of_le hk hB2.size) (fun hc => by rcases hc with hc | hc | hc; omega; omega; exact hn hc)).trans (hB2.block k hk)⟩) (show PE s.sc M s.en [] from hq) hM hn (by omega) (Q := s.en) (by omega)
  rw [hR1e] at hl1
  have HL1 := Lib.hid hl1
  have H2 := Lib.hid (And.intro hx2 (And.intro hB2 (And.intro hbx (And.intro hs (And.intro ht (And.intro hR1e (And.intro hck (And.intro hc0 (And.intro hlen hMn)))))))))
  have HS0 := Lib.hid hS0
  clear hS0 hr hq hM hs ht hB1 hh1 hb2 hx2 hB2 hl1 hR1e hck hc0 hlen hMn hz hc
  go_enter Tryd.func14, Tryd.ntmps14
  go_wp2_with fail
  refine HL1.out.mono ?_
  rintro en w3 ⟨q1, cap1, M1, v1, rfl, hr1, hP1, hM1, hO1, hB3⟩
  clear HL1 hW1 hW2 k0 k1 k3 k20 k21 hw1
  obtain ⟨W4, hW4⟩ : ∃ W, w3.alloc (.cells #[.slice q1 n cap1, .int .i64 (ck : Int)] TL14) = W := ⟨_, rfl⟩
  obtain ⟨bm, hbm⟩ : ∃ b, w3.heap.size = b := ⟨_, rfl⟩
  have hB4 : Below w3.heap.size w3 W4 := by rw [← hW4]; exact (Below.refl _ _).alloc (Nat.le_refl _) _
  have hb4 : W4.heap[bm]? = some (.cells #[.slice q1 n cap1, .int .i64 (ck : Int)] TL14 (0, 0)) := by rw [← hW4, ← hbm]; exact World.alloc_heap_new _ _
  obtain ⟨k40, k41, -, -⟩ := twoCells hb4
  obtain ⟨lf, hlf⟩ : ∃ l, R1.left = l := ⟨_, rfl⟩
  have hlfb : lf ≤ h := by
    rw [← hlf, ← H2.out.2.2.2.2.2.1]
    exact workL_left ck true s.en h
  have hw2 : IntKind.i64.wrap ((h : Int) + (lf : Int)) = ((lf + h : Nat) : Int) := by rw [IntKind.wrap_i64]; omega
  obtain ⟨p1, kk1, e1, hls1, -, hle1, -⟩ := own_shape hO1
  subst e1
  obtain ⟨R2, hR2e⟩ : ∃ R, workL ck false s.sc (lf + h) = R := ⟨_, rfl⟩
  have hps : PS ck R1.rest R1.fin M1 s.sc [] := by
    refine ⟨RelQ.perm hP1 (List.perm_append_comm.trans (List.Perm.of_eq rfl)), fun f hf => by have := H2.out.2.2.2.2.1 f hf; have := H2.out.2.2.2.2.2.2.1; omega, fun f hf => ?_, H2.out.2.2.2.1⟩
    rw [← H2.out.2.2.2.2.2.1] at hf
    exact ((workL_rest ck true s.en h).2 f hf).1
  have hl2 := refLane_any (fun g => (Value.slice p1 R1.out.length kk1).ownBlock = some g ∨ g = bx + 1 ∨ S0 g) (fun g hg => by have h1 := (Array.getElem?_eq_some_iff.1 H2.out.1).1; have h2 := hB3.size; have h3 := hB4.size; have h4 := H2.out.2.1.size; rcases hg with hg | hg | hg; (have := (hO1.lt g hg).2; omega); omega; (have := HS0.out g hg; omega)) false ck (lf + h) (laneS ck R1.rest R1.fin) (fun z hz => hr1 z ((KpF.of_new hB4).trans (hz.mono fun k _ hk => by rcases hk with hk | hk | hk; exact .inl hk; exact .inr (.inr (.inl hk)); exact .inr (.inr (.inr hk))))) hps hM1 hn (by omega) (Q := s.sc) (by have := H2.out.2.2.2.2.2.2.2.2; omega)
  rw [hR2e] at hl2
  have HL2 := Lib.hid hl2
  have H4 := Lib.hid (And.intro hO1 (And.intro hB3 (And.intro hB4 (And.intro hbm (And.intro hR2e (And.intro hlf hlfb))))))
  clear hr1 hP1 hM1 hO1 hB3 hB4 hb4 hps hl2 hR2e hls1 hle1
  rw [hlf]
  clear hlf hlfb
  have HW4 := Lib.hid hW4
  go_wp2_with fail
  refine HL2.out.mono ?_
  rintro en w5 ⟨q2, cap2, M2, v2, rfl, hr2, hP2, hM2, hO2, hB5⟩
  clear HL2 hW4 hbm k40 k41 hw2
  obtain ⟨W6, hW6⟩ : ∃ W, w5.alloc (.cells #[.slice q2 n cap2, .int .i64 (ck : Int)] TL14) = W := ⟨_, rfl⟩
  obtain ⟨bo, hbo⟩ : ∃ b, w5.heap.size = b := ⟨_, rfl⟩
  have hB6 : Below w5.heap.size w5 W6 := by rw [← hW6]; exact (Below.refl _ _).alloc (Nat.le_refl _) _
  have hb6 : W6.heap[bo]? = some (.cells #[.slice q2 n cap2, .int .i64 (ck : Int)] TL14 (0, 0)) := by rw [← hW6, ← hbo]; exact World.alloc_heap_new _ _
  obtain ⟨p2, kk2, e2, hls2, hnil2, hle2, -⟩ := own_shape hO2
  subst e2
  obtain ⟨m1, hm1⟩ : ∃ m, R1.out.length = m := ⟨_, rfl⟩
  obtain ⟨m2, hm2⟩ : ∃ m, R2.out.length = m := ⟨_, rfl⟩
  have hm1b : m1 ≤ 10000 := by
    rw [← hm1, ← H2.out.2.2.2.2.2.1]
    have := workL_out_le ck true s.en h
    have := H2.out.2.2.2.2.2.2.2.2
    omega
  have hm2b : m2 ≤ 10000 := by
    rw [← hm2, ← H4.out.2.2.2.2.1]
    have := workL_out_le ck false s.sc (lf + h)
    have := H2.out.2.2.2.2.2.2.2.2
    omega
  rw [hm1, hm2]
  rw [hm1] at H4
  rw [hm2] at hO2 hle2
  rw [hm2, hm1] at hr2
  have hs3 := H4.out.2.1.size
  have hs4 := H4.out.2.2.1.size
  have hs5 := hB5.size
  have hs6 := hB6.size
  have hBw3 : Below w.heap.size w w3 := H2.out.2.1.trans (H4.out.2.1.mono H2.out.2.1.size)
  have hBw4 := hBw3.trans (H4.out.2.2.1.mono hBw3.size)
  have hBw5 := hBw4.trans (hB5.mono hBw4.size)
  have hBw6 := hBw5.trans (hB6.mono hBw5.size)
  have hx2l := (Array.getElem?_eq_some_iff.1 H2.out.1).1
  have hx6 : W6.heap[bx + 1]? = some (.cells #[.slice none 0 0, .int .i64 0] TL14 (0, 0)) := (hB6.block (bx + 1) (by omega)).trans ((hB5.block (bx + 1) (by omega)).trans ((H4.out.2.2.1.block (bx + 1) (by omega)).trans ((H4.out.2.1.block (bx + 1) hx2l).trans H2.out.1)))
  have hO1' := H4.out.1
  have hO16 : W6.ownsRow w.heap.size EWr 5 (.slice p1 m1 kk1) m1 (wksC R1.out) := own_lower (own_keep hO1' fun g hg => by
    have hlt := (hO1'.lt g hg).2
    rw [hB6.block g (by omega), hB5.block g (by omega), H4.out.2.2.1.block g hlt]) H2.out.2.1.size
  have hls26 : LsC W6 p2 (wksC R2.out) := hls2.of_below hB6
  have H4n := Lib.hid (show ∀ k, (k = bo ∨ k = bx + 1) → (Value.slice p1 m1 kk1).ownBlock ≠ some k from fun k hk e => by
    have h1 := hO1'.lt k e
    have h2 := H2.out.2.1.size
    rcases hk with hk | hk <;> omega)
  have H6 := Lib.hid (And.intro hb6 (And.intro hx6 (And.intro hO16 (And.intro hls26 (And.intro hBw6 (And.intro (show bo ≠ bx + 1 by omega) (And.intro hr2 (And.intro hP2 (And.intro hM2 (And.intro hB6 (show bx + 1 < W6.heap.size by omega)))))))))))
  have HM2 := Lib.hid (And.intro hm1 (And.intro hm2 (And.intro hnil2 (And.intro hle2 (And.intro hm1b hm2b)))))
  clear hr2 hP2 hM2 hO2 hB5 hB6 hb6 hls2 hnil2 hle2 hm1 hm2 hs3 hs4 hs5 hs6 hBw3 hBw4 hBw5 hBw6 hx2l hx6 hO1' hO16 hls26 hm1b hm2b
  have HS := Lib.hid (show ∀ u : World, u.heap[bo]? = some (.cells #[.slice q2 n cap2, .int .i64 (ck : Int)] TL14 (0, 0)) → (u.cell? ⟨bo, 0, none⟩ = some (.slice q2 n cap2) ∧ u.cell? ⟨bo, 1, none⟩ = some (.int .i64 (ck : Int))) from fun u hu => ⟨(twoCells hu).1, (twoCells hu).2.1⟩)
  go_wp2_with fail
  refine wp_region_noPanic ?_
  refine wp_region_held_drew (S := (fun u : World => u.cell? ⟨bo, 0, none⟩ = some (.slice q2 n cap2) ∧ u.cell? ⟨bo, 1, none⟩ = some (.int .i64 (ck : Int)))) (by kernel_rfl) (HS.out _ H6.out.1) (fun hHeld => ?_)
  generalize hgx : W6.drew = y at hHeld ⊢
  have HY := Lib.hid (show Below W6.heap.size W6 y from by rw [← hgx]; exact (Below.refl _ _).drew)
  clear hgx
  refine wpAnyH_take (i := 0) (v := ?_) (by simp only [List.getElem?_toArray, List.getElem?_cons_succ, List.getElem?_cons_zero]; exact rfl) (by kernel_rfl) (by kernel_rfl) (by kernel_rfl) (fun _ _ _ h => h) (Or.inl ⟨by rfl, ?_⟩) (by assumption) ?_
  rotate_left 1
  · (intro w hSw; (try dsimp only at hSw); go_simp; try with_reducible rfl)
  try simp only [Act.put, List.setIfInBounds_toArray, List.set_cons_zero, List.set_cons_succ]
  refine wpAnyH_take (i := 1) (v := ?_) (by simp only [List.getElem?_toArray, List.getElem?_cons_succ, List.getElem?_cons_zero]; exact rfl) (by kernel_rfl) (by kernel_rfl) (by kernel_rfl) (fun _ _ _ h => h) (Or.inl ⟨by rfl, ?_⟩) (by assumption) ?_
  rotate_left 1
  · (intro w hSw; (try dsimp only at hSw); go_simp; try with_reducible rfl)
  try simp only [Act.put, List.setIfInBounds_toArray, List.set_cons_zero, List.set_cons_succ]
  refine wpAnyH_take (i := 2) (v := ?_) (by simp only [List.getElem?_toArray, List.getElem?_cons_succ, List.getElem?_cons_zero]; exact rfl) (by kernel_rfl) (by kernel_rfl) (by kernel_rfl) (fun _ _ _ h => h) (Or.inl ⟨by rfl, ?_⟩) (by assumption) ?_
  rotate_left 1
  · (intro w hSw; (try dsimp only at hSw); go_simp; try with_reducible rfl)
  try simp only [Act.put, List.setIfInBounds_toArray, List.set_cons_zero, List.set_cons_succ]
  refine wpAnyH_ready (rs := [3]) (by kernel_rfl) (by simp) ?_
  refine (AllReadyH.cons (by simp only [List.getElem?_toArray, List.getElem?_cons_succ, List.getElem?_cons_zero]; exact rfl) (fun K hK => ?_) AllReadyH.nil)
  refine step_appendK elWr14 y rfl (.tmp 48) (.tmp 49) rfl w.heap.size (n := m1) (v := .slice p1 m1 kk1) (cs := wksC R1.out) rfl (own_below H6.out.2.2.1 HY.out) p2 m2 kk2 (wksC R2.out) (by rw [wksC_len, HM2.out.2.1]) rfl (H6.out.2.2.2.1.of_below HY.out) (fun e => ⟨HM2.out.2.2.1 e, by have h1 := HM2.out.2.2.1 e; have h2 := HM2.out.2.2.2.1; omega⟩) (fun u hu => by obtain ⟨k, -, hk⟩ := List.mem_flatMap.1 hu; exact wkC_one k u hk) (by have := HM2.out; omega) (Nat.le_trans H6.out.2.2.2.2.1.size HY.out.size) ?_
  rintro v7 w7 hO7 hg7 hor7
  rw [← wksC_app] at hO7
  have hlw := H6.out.2.2.2.2.2.2.2.2.2.2
  have hOl := H6.out.2.2.1
  have hnx : ∀ k, (k = bo ∨ k = bx + 1) → (Value.slice p1 m1 kk1).ownBlock ≠ some k := fun k hk e => H4n.out k hk e
  have hb7 := (hg7.block bo (Nat.lt_of_lt_of_le (Array.getElem?_eq_some_iff.1 H6.out.1).1 HY.out.size) (fun e => hnx bo (.inl rfl) e.symm)).trans ((HY.out.block bo (Array.getElem?_eq_some_iff.1 H6.out.1).1).trans H6.out.1)
  have hx7 := (hg7.block (bx + 1) (Nat.lt_of_lt_of_le hlw HY.out.size) (fun e => hnx (bx + 1) (.inr rfl) e.symm)).trans ((HY.out.block (bx + 1) hlw).trans H6.out.2.1)
  have HO7 := Lib.hid (And.intro hO7 (And.intro hg7 (And.intro hor7 (And.intro hb7 hx7))))
  obtain ⟨p7, k7, e7, -⟩ := own_shape hO7
  subst e7
  refine hK.out _ _ (HS.out _ hb7) (fun hHeld => ?_)
  clear hO7 hg7 hor7 hb7 hx7 hlw hOl hnx
  clear hK K
  try simp only [Act.put, List.setIfInBounds_toArray, List.set_cons_zero, List.set_cons_succ]
  refine wpAnyH_ready (rs := [4]) (by kernel_rfl) (by simp) ?_
  refine (AllReadyH.cons (by simp only [List.getElem?_toArray, List.getElem?_cons_succ, List.getElem?_cons_zero]; exact rfl) (fun K hK => ?_) AllReadyH.nil)
  obtain ⟨c5, c6, c7, c8⟩ := twoCells HO7.out.2.2.2.2
  have hb8 := ((twoKp w7 (bx + 1) (.slice q2 n cap2) (.int .i64 (ck : Int))).block bo (Array.getElem?_eq_some_iff.1 HO7.out.2.2.2.1).1 (fun e => H6.out.2.2.2.2.2.1 e)).trans HO7.out.2.2.2.1
  go_simp
  refine hK.out _ _ (HS.out _ hb8) (fun hHeld => ?_)
  clear c5 c6 c7 c8 hb8
  clear hK K
  try simp only [Act.put, List.setIfInBounds_toArray, List.set_cons_zero, List.set_cons_succ]
  refine wpAnyH_take (i := 5) (v := ?_) (by simp only [List.getElem?_toArray, List.getElem?_cons_succ, List.getElem?_cons_zero]; exact rfl) (by kernel_rfl) (by kernel_rfl) (by kernel_rfl) (fun _ _ _ h => h) (Or.inl ⟨by rfl, ?_⟩) (by assumption) ?_
  rotate_left 1
  · (intro w hSw; (try dsimp only at hSw); go_simp; try with_reducible rfl)
  try simp only [Act.put, List.setIfInBounds_toArray, List.set_cons_zero, List.set_cons_succ]
  refine wpAnyH_take (i := 6) (v := ?_) (by simp only [List.getElem?_toArray, List.getElem?_cons_succ, List.getElem?_cons_zero]; exact rfl) (by kernel_rfl) (by kernel_rfl) (by kernel_rfl) (fun _ _ _ h => h) (Or.inl ⟨by rfl, ?_⟩) (by assumption) ?_
  rotate_left 1
  · (intro w hSw; (try dsimp only at hSw); go_simp; try with_reducible rfl)
  try simp only [Act.put, List.setIfInBounds_toArray, List.set_cons_zero, List.set_cons_succ]
  refine wpAnyH_done (by kernel_rfl) ?_ _
  refine NoPanic.normal ?_
  clear hHeld
  have hk8 := twoKp w7 (bx + 1) (.slice q2 n cap2) (.int .i64 (ck : Int))
  have hK5 : KpF (fun g => (Value.slice p2 m2 kk2).ownBlock = some g ∨ ((Value.slice p1 m1 kk1).ownBlock = some g ∨ g = bx + 1 ∨ S0 g)) w5 ((w7.setCell ⟨bx + 1, 0, none⟩ (.slice q2 n cap2)).setCell ⟨bx + 1, 1, none⟩ (.int .i64 (ck : Int))) :=
    (KpF.of_new H6.out.2.2.2.2.2.2.2.2.2.1).trans ((KpF.of_new HY.out).trans ((KpF.of_grown HO7.out.2.1 (fun k e => .inr (.inl e))).trans (hk8.mono fun k _ hk => .inr (.inr (.inl hk)))))
  have hs56 := H6.out.2.2.2.2.2.2.2.2.2.1.size
  have hRF : ∀ z, KpF (fun g => (Value.slice p7 (m1 + m2) k7).ownBlock = some g ∨ S0 g) ((w7.setCell ⟨bx + 1, 0, none⟩ (.slice q2 n cap2)).setCell ⟨bx + 1, 1, none⟩ (.int .i64 (ck : Int))) z → RLs z q2 n cap2 M2 := fun z hz => H6.out.2.2.2.2.2.2.1 z ⟨hz.os.trans hK5.os, hz.tape.trans hK5.tape, hz.output.trans hK5.output, Nat.le_trans hK5.size hz.size, fun k hk hn => (hz.block k (Nat.lt_of_lt_of_le hk hK5.size) (fun hc => by
    rcases hc with hc | hc
    · rcases HO7.out.2.2.1 with h3 | h3
      · rw [h3] at hc; exact hn (.inr (.inl hc))
      · rw [h3] at hc
        injection hc with hc
        have h5 := HY.out.size
        omega
    · exact hn (.inr (.inr (.inr hc))))).trans (hK5.block k hk hn)⟩
  have hnb : ∀ g, (Value.slice p7 (m1 + m2) k7).ownBlock = some g → ¬ g = bx + 1 := fun g hg hc => by
    rcases HO7.out.2.2.1 with h3 | h3
    · rw [h3] at hg; exact H4n.out g (.inr hc) hg
    · rw [h3] at hg
      injection hg with hg
      have h4 := H6.out.2.2.2.2.2.2.2.2.2.2
      have h5 := HY.out.size
      omega
  have hOF := own_kpF HO7.out.1 hk8 hnb
  have hBF : Below w.heap.size w ((w7.setCell ⟨bx + 1, 0, none⟩ (.slice q2 n cap2)).setCell ⟨bx + 1, 1, none⟩ (.int .i64 (ck : Int))) := by
    have h1 := H6.out.2.2.2.2.1
    have h2 := h1.trans (HY.out.mono h1.size)
    have h3 := h2.grown HO7.out.2.1 h2.size (fun g hg => (H6.out.2.2.1.lt g hg).1)
    exact h3.trans (hk8.below (fun k hk => by have := H2.out.2.2.1; omega) h3.size)
  have HF := Lib.hid (And.intro hRF (And.intro hOF hBF))
  clear hk8 hK5 hRF hnb hOF hBF hs56
  go_wp2
  refine bodyPost_ret (resL3 rfl _ _ (bx + 1) (.slice q2 n cap2) (.int .i64 (ck : Int)) (.slice p7 (m1 + m2) k7) (.int .i64 0) rfl rfl rfl (twoSet HO7.out.2.2.2.2) rfl rfl) rfl ?_
  have e1 : tickA s h = R1 := by unfold tickA; rw [H2.out.2.2.2.2.2.2.1, H2.out.2.2.2.2.2.1]
  have e2 : tickB s h = R2 := by unfold tickB; rw [e1, H4.out.2.2.2.2.2.1, H2.out.2.2.2.2.2.2.1, H4.out.2.2.2.2.1]
  refine ⟨q2, cap2, M2, _, by rw [H2.out.2.2.2.2.2.2.1], HF.out.1, ?_, H6.out.2.2.2.2.2.2.2.2.1, ?_, HF.out.2.2⟩
  · rw [e1, e2]
    unfold tickFin
    rw [e1, e2]
    exact RelQ.perm H6.out.2.2.2.2.2.2.2.1.1 (List.Perm.append_left _ List.perm_append_comm)
  · unfold tickOut
    rw [e1, e2, List.length_append, HM2.out.1, HM2.out.2.1]
    exact HF.out.2.1
end Go.Proofs.YtcgilacmdckbfaaDoor
/- darnerlaw14.Is: true. -/
set_option maxRecDepth 100000
namespace Go.Proofs.YtcgilacmdckbfaaDoor
open Go Go.RowKit

set_option maxHeartbeats 4000000 in
theorem isTrue_any {w : World} {b : Nat} {F : Nat → Prop} {s : Ln} {q : Option Addr} {n cap : Nat} {M : List Rf} (h : LnAt w b F s) (hR : RLs w q n cap M) (hq : RelQ M s.en s.sc)
    (hm : ∀ x ∈ M, -1 ≤ x.last) (hb : ∀ x ∈ M, x.blocks ≤ 64) (hn : n ≤ 10000) :
    Calls Tryd.prog 17 #[.pointer (some ⟨b, 0, none⟩), .agg #[.slice q n cap, .int .i64 (s.clock : Int)]] w fun e w' => e = .returned (.bool true) ∧ Below w.heap.size w w' := by
  have hlen := hq.len
  have hMn := hR.1
  have hbE : ∀ f, f ∈ s.en ++ s.sc → f.blocks ≤ 64 := fun f hf => by
    rcases List.mem_append.1 hf with hf | hf
    · obtain ⟨x, hx, -, rfl⟩ := hq.memE.1 hf; exact hb x hx
    · obtain ⟨x, hx, -, rfl⟩ := hq.memS.1 hf; exact hb x hx
  have hsum := hq.sum
  have hcnt := hq.count
  have hall : blk s.en + blk s.sc ≤ 640000 := by
    have h1 := blk_le s.en fun f hf => hbE f (List.mem_append_left _ hf)
    have h2 := blk_le s.sc fun f hf => hbE f (List.mem_append_right _ hf)
    omega
  obtain ⟨bx, hbx⟩ : ∃ y, w.heap.size = y := ⟨_, rfl⟩
  obtain ⟨W1, hW1⟩ : ∃ W, w.alloc (.cells #[.slice q n cap, .int .i64 (s.clock : Int)] TL14) = W := ⟨_, rfl⟩
  have hB1 : Below w.heap.size w W1 := by rw [← hW1]; exact (Below.refl _ w).alloc (Nat.le_refl _) _
  have hh1 : W1.heap[bx]? = some (.cells #[.slice q n cap, .int .i64 (s.clock : Int)] TL14 (0, 0)) := by rw [← hW1, ← hbx]; exact World.alloc_heap_new _ _
  have HC := Lib.hid (fun u (hu : Below W1.heap.size W1 u) => twoCells ((hu.block bx (Array.getElem?_eq_some_iff.1 hh1).1).trans hh1))
  have HB1 := Lib.hid hB1
  have HLN := Lib.hid (fun u (hu : Below W1.heap.size W1 u) => h.of_new (hB1.trans (hu.mono hB1.size)))
  have HL := Lib.hid (fun u (hu : Below W1.heap.size W1 u) => hR.of_below (hB1.trans (hu.mono hB1.size)))
  have HWT := Lib.hid (waiting_any (HLN.out W1 (Below.refl _ _)) (by omega))
  have HBK := Lib.hid (fun u (hu : Below W1.heap.size W1 u) => blocks_any (HLN.out u hu) (by omega) (by omega) hbE)
  have HCK := Lib.hid (fun u (hu : Below W1.heap.size W1 u) => clock_any (HLN.out u hu))
  have HLS := Lib.hid (fun u (hu : Below W1.heap.size W1 u) (x : Rf) (hx : x ∈ M) => (show Calls Tryd.prog 13 #[.pointer (some ⟨b, 0, none⟩), .string (mkS x.path)] u fun e w' => e = .returned (.tuple #[.int .i64 x.last, .int .i64 0]) ∧ Below u.heap.size u w' from by
    have h1 := last_any (HLN.out u hu) ⟨by omega, by omega⟩ x.path
    rw [(hq.last hm hx).1, (hq.last hm hx).2] at h1
    exact h1))
  have HQ := Lib.hid hq
  have HBX := Lib.hid hb
  have HMN := Lib.hid hMn
  have HSUM := Lib.hid hsum
  have HCNT := Lib.hid hcnt
  have HALL := Lib.hid hall
  have HLEN := Lib.hid hlen
  obtain ⟨m, hmm⟩ : ∃ m, s.en.length = m := ⟨_, rfl⟩
  rw [hmm] at HWT
  have HM := Lib.hid hmm
  have HW1 := Lib.hid (And.intro hW1 hbx)
  clear h hR hq hm hb hlen hMn hbE hsum hcnt hall hh1 hB1 hmm hW1 hbx
  go_enter Tryd.func17, Tryd.ntmps17
  go_wp2_with fail
  rw [HW1.out.1, HW1.out.2]
  clear HW1
  go_wp2_with fail
  refine HWT.out.mono ?_
  rintro e w2 ⟨v, rfl, hO2, hB2⟩
  obtain ⟨pw, cw, ev, hlw, -, hcw, -⟩ := own_shape hO2
  subst ev
  have HLW := Lib.hid (fun u (hu : Below w2.heap.size w2 u) => hlw.of_below hu)
  have HB2 := Lib.hid hB2
  have HCW := Lib.hid hcw
  obtain ⟨k0, k1, -, -⟩ := HC.out w2 hB2
  clear hO2 hlw hB2 hcw
  go_wp2_with fail
  clear k0 k1
  go_loopw [5, 6, 17] (fun v5 v6 v17 wr => ∃ k : Nat, k ≤ n ∧ v17 = .int .i64 (k : Int) ∧ v5 = .int .i64 (sumM M k : Int) ∧ v6 = .int .i64 (cntE M k : Int) ∧ Below w2.heap.size w2 wr) (fun _ _ v17 _ => n - (intOf v17).toNat)
  case atStart => exact ⟨0, Nat.zero_le _, rfl, rfl, rfl, Below.refl _ _⟩
  case round =>
    rename World => wa
    obtain ⟨k, hk, rfl, rfl, rfl, hBa⟩ := hrel
    have HBA := Lib.hid hBa
    have HA1 := Lib.hid (HB2.out.trans (hBa.mono HB2.out.size))
    by_cases hlt : k < n
    · have y1 : (k : Int) < (n : Int) := by omega
      have y2 : decide ((k : Int) < (n : Int)) = true := decide_eq_true y1
      have hw6 : IntKind.i64.wrap ((k : Int) + 1) = (k : Int) + 1 := by rw [IntKind.wrap_i64]; omega
      have hkl : k < M.length := by rw [HMN.out]; exact hlt
      obtain ⟨c, d, rfl, hc⟩ := (HL.out wa HA1.out).cells k hlt
      obtain ⟨x, hx⟩ : ∃ x, M.getD k rf0 = x := ⟨_, rfl⟩
      have hxm : x ∈ M := by rw [← hx]; exact getD_mem hkl
      have x0 := hc 0 (by decide)
      have x1 := hc 1 (by decide)
      have x2 := hc 2 (by decide)
      have x3 := hc 3 (by decide)
      rw [hx] at x0 x1 x2 x3
      change _ = some (Value.string (mkS x.path)) at x0
      change _ = some (Value.int .i64 (x.blocks : Int)) at x1
      change _ = some (Value.int .i64 (x.done : Int)) at x2
      change _ = some (Value.int .i64 x.last) at x3
      rw [Nat.add_zero] at x0
      have hsn := sumM_next hkl
      have hcn := cntE_next hkl
      rw [hx] at hsn hcn
      have hxb := HBX.out x hxm
      obtain ⟨S, hS⟩ : ∃ S, sumM M k = S := ⟨_, rfl⟩
      obtain ⟨C, hC⟩ : ∃ C, cntE M k = C := ⟨_, rfl⟩
      have hSle : S ≤ 640000 := by
        have h1 : sumM M k ≤ sumM M M.length := by
          unfold sumM
          have h2 : (M.map (·.blocks)).sum = ((M.take k).map (·.blocks)).sum + ((M.drop k).map (·.blocks)).sum := by rw [← List.sum_append, ← List.map_append, List.take_append_drop]
          rw [List.take_length]; omega
        rw [HSUM.out, hS] at h1
        exact Nat.le_trans h1 HALL.out
      have hCle : C ≤ 10000 := by have h1 := cntE_le M k; rw [hC] at h1; have h2 := HMN.out; omega
      rw [hS, hC]
      rw [hS] at hsn
      rw [hC] at hcn
      have hw7 : IntKind.i64.wrap ((S : Int) + (x.blocks : Int)) = (S : Int) + (x.blocks : Int) := by rw [IntKind.wrap_i64]; omega
      have hw8 : IntKind.i64.wrap ((C : Int) + 1) = (C : Int) + 1 := by rw [IntKind.wrap_i64]; omega
      obtain ⟨W5, hW5⟩ : ∃ W, wa.alloc (.cells #[.string (mkS x.path), .int .i64 (x.blocks : Int), .int .i64 (x.done : Int), .int .i64 x.last] ER) = W := ⟨_, rfl⟩
      have hB5 : Below w2.heap.size w2 W5 := by rw [← hW5]; exact hBa.alloc hBa.size _
      obtain ⟨bm, hbm⟩ : ∃ y, wa.heap.size = y := ⟨_, rfl⟩
      have hb5 : W5.heap[bm]? = some (.cells #[.string (mkS x.path), .int .i64 (x.blocks : Int), .int .i64 (x.done : Int), .int .i64 x.last] ER (0, 0)) := by rw [← hW5, ← hbm]; exact World.alloc_heap_new _ _
      have z0 : W5.cell? ⟨bm, 0, none⟩ = some (.string (mkS x.path)) := by unfold World.cell?; rw [hb5]; simp
      have HZ := Lib.hid (fun u (hu : Below W5.heap.size W5 u) => (show u.cell? ⟨bm, 0, none⟩ = some (.string (mkS x.path)) ∧ u.cell? ⟨bm, 1, none⟩ = some (.int .i64 (x.blocks : Int)) ∧ u.cell? ⟨bm, 3, none⟩ = some (.int .i64 x.last) from by
        have h1 := (hu.block bm (Array.getElem?_eq_some_iff.1 hb5).1).trans hb5
        refine ⟨?_, ?_, ?_⟩ <;> (unfold World.cell?; rw [h1]; simp)))
      have HB5 := Lib.hid hB5
      have HLX := Lib.hid (HLS.out W5 (HB2.out.trans (hB5.mono HB2.out.size)) x hxm)
      have HSN := Lib.hid hsn
      have HCN := Lib.hid hcn
      have HK := Lib.hid hkl
      have HX := Lib.hid hx
      have HSC := Lib.hid (And.intro hS hC)
      clear hBa hc hx hxm hsn hcn hxb hS hC hB5 hb5 hkl
      go_wp2_with fail
      refine HLX.out.mono ?_
      rintro e w6 ⟨rfl, hB6⟩
      have HB6 := Lib.hid (HB5.out.trans (hB6.mono HB5.out.size))
      obtain ⟨z0', z1, z3⟩ := HZ.out w6 hB6
      clear z0 hB6 x0 x1 x2 x3
      by_cases hl : x.last < 0
      · have g0 : decide (x.last < 0) = true := decide_eq_true hl
        obtain ⟨hin, hat⟩ := HQ.out.at HK.out (by rw [HX.out]; exact g0)
        rw [HSC.out.2] at hin hat
        rw [HX.out] at hat
        obtain ⟨ce, oe, he, hce⟩ := HLW.out w6 HB6.out C (by unfold pathsC; rw [List.length_map]; exact hin)
        subst he
        have hcc : w6.cell? ⟨ce, oe + C, none⟩ = some (.string (mkS x.path)) := by
          rw [hce]
          unfold pathsC
          rw [List.getElem?_map, List.getElem?_eq_getElem hin]
          rw [List.getD_eq_getElem?_getD, List.getElem?_eq_getElem hin] at hat
          change s.en[C] = flR x at hat
          show some (Value.string (mkS s.en[C].path)) = _
          rw [hat]
          rfl
        have u0 : (0 : Int) ≤ (C : Int) := by omega
        have u1 : (C : Int) < (m : Int) := by rw [HM.out] at hin; omega
        have u2 : decide ((m : Int) ≤ (C : Int)) = false := decide_eq_false (by omega)
        have u3 : decide ((C : Int) < (m : Int)) = true := decide_eq_true u1
        have u4 : decide (m ≤ C) = false := decide_eq_false (by omega)
        have hcn1 : cntE M (k + 1) = C + 1 := by rw [HCN.out]; unfold isE; rw [g0]; rfl
        have HCN1 := Lib.hid hcn1
        generalize mkS x.path = X at hcc z0'
        clear hat hce hcn1 hin hl
        go_wp2
        go_quiet (fail)
        go_wp2
        refine ⟨⟨k + 1, by omega, by go_num, by rw [HSN.out]; push_cast; rfl, by rw [HCN1.out]; push_cast; rfl, belowN HB6.out _⟩, by simp [intOf]; omega⟩
      · have g0 : decide (x.last < 0) = false := decide_eq_false hl
        have hcn1 : cntE M (k + 1) = C := by rw [HCN.out]; unfold isE; rw [g0]; rfl
        have HCN1 := Lib.hid hcn1
        clear hcn1 hl
        go_wp2
        refine ⟨⟨k + 1, by omega, by go_num, by rw [HSN.out]; push_cast; rfl, by rw [HCN1.out], HB6.out⟩, by simp [intOf]; omega⟩
    · have y1 : ¬ (k : Int) < (n : Int) := by omega
      have y2 : decide ((k : Int) < (n : Int)) = false := decide_eq_false y1
      have hkn : k = n := by omega
      have e5 : sumM M k = blk s.en + blk s.sc := by rw [hkn, ← HMN.out]; exact HSUM.out
      have e6 : cntE M k = m := by rw [hkn, ← HMN.out, ← HM.out]; exact HCNT.out
      rw [e5, e6]
      obtain ⟨Bk, hBk⟩ : ∃ Bk, blk s.en + blk s.sc = Bk := ⟨_, rfl⟩
      rw [hBk] at HBK
      rw [hBk]
      have hS : ∀ u, Below W1.heap.size W1 u → u.cell? ⟨bx, 1, none⟩ = some (.int .i64 (s.clock : Int)) ∧ Below W1.heap.size W1 u := fun u hu => ⟨(HC.out u hu).2.1, hu⟩
      have HS := Lib.hid hS
      have HAd : Hid (Below W1.heap.size W1 wa.drew) := Lib.hid HA1.out.drew
      have hS0 := hS wa.drew HAd.out
      have hz0 := HAd.out
      clear hS hBa e5 e6 hBk
      go_wp2_with fail
      go_region_held3 (fun u : World => u.cell? ⟨bx, 1, none⟩ = some (.int .i64 (s.clock : Int)) ∧ Below W1.heap.size W1 u) (first | with_reducible exact hS0 | with_reducible exact HS.out _ hz) ((first
        | (go_at_call 19; with_reducible refine (HBK.out _ (by assumption)).mono ?_; rintro e w2 ⟨rfl, hB2⟩; have hz := Below.trans (by assumption) (hB2.mono (Below.size (by assumption))); clear hB2)
        | (go_at_call 18; with_reducible refine (HCK.out _ (by assumption)).mono ?_; rintro e w2 ⟨rfl, rfl⟩)))
      rename_i hh
      have HBF := Lib.hid hh.2
      clear hh hS0 hz0
      try clear hz
      go_wp2
      go_ret
      exact ⟨rfl, HB1.out.trans (HBF.out.mono HB1.out.size)⟩
end Go.Proofs.YtcgilacmdckbfaaDoor
/- darnerlaw14.LaneOrders' names. -/
set_option maxRecDepth 100000
namespace Go.Proofs.YtcgilacmdckbfaaDoor
open Go Go.RowKit

def nmI (i : Nat) : S8 := [UInt8.ofNat (97 + i)]
end Go.Proofs.YtcgilacmdckbfaaDoor
/- LaneOrders, in plain terms; lanes of a statement's own. -/
set_option maxRecDepth 100000
namespace Go.Proofs.YtcgilacmdckbfaaDoor
open Go Go.RowKit

/-- Lanes that the statement made since w. -/
def St14 (w u : World) (b : Nat) (s : Ln) : Prop := LnAt u b (Nw w) s ∧ Below w.heap.size w u
theorem St14.new {w u u' : World} {b : Nat} {s : Ln} (h : St14 w u b s) (hB : Below u.heap.size u u') : St14 w u' b s := ⟨h.1.of_new hB, h.2.trans (hB.mono h.2.size)⟩
theorem St14.next {w u u' : World} {b : Nat} {s s' : Ln} (h : St14 w u b s) (hL : LnAt u' b (newF (Nw w) u u') s') (hK : KpF (Nw w) u u') : St14 w u' b s' :=
  ⟨hL.mono fun g _ hg => by
    rcases hg with hg | hg
    · exact hg
    · exact Nat.le_trans h.2.size hg.1, h.2.trans (hK.below (fun k hk => hk) h.2.size)⟩
theorem St14.mono {w w' u : World} {b : Nat} {s : Ln} (h : St14 w' u b s) (hB : Below w.heap.size w w') : St14 w u b s := ⟨h.1.mono fun g _ hg => Nat.le_trans hB.size hg, hB.trans (h.2.mono hB.size)⟩
/-- The files that are put first. -/
def enI (Bn : Nat → Nat) (k : Nat) : List Fl := (List.range k).map fun i => ⟨nmI i, Bn i, 0, 0⟩
theorem enI_len (Bn : Nat → Nat) (k : Nat) : (enI Bn k).length = k := by simp [enI]
theorem enI_get (Bn : Nat → Nat) (k i : Nat) (hi : i < k) : (enI Bn k).getD i fl0 = ⟨nmI i, Bn i, 0, 0⟩ := by simp [enI, List.getD_eq_getElem?_getD, hi]
theorem nmI_ne {i j : Nat} (hi : i < 26) (hj : j < 26) (h : i ≠ j) : nmI i ≠ nmI j := fun e => by
  unfold nmI at e
  injection e with e
  have := congrArg UInt8.toNat e
  simp at this
  omega
theorem enI_put (Bn : Nat → Nat) (k : Nat) (hk : k < 26) (hb : Bn k ≤ 64) : putC (nmI k) (Bn k : Int) = 0 ∧ putS ⟨0, enI Bn k, []⟩ (nmI k) (Bn k : Int) = ⟨0, enI Bn (k + 1), []⟩ := by
  have h0 : putC (nmI k) (Bn k : Int) = 0 := by
    unfold putC
    rw [if_neg (by show ¬ kindL [UInt8.ofNat (97 + k)] ≠ 3; rw [kind_one k hk]; decide), if_neg (by omega)]
  refine ⟨h0, ?_⟩
  unfold putS
  rw [if_pos h0]
  have h1 : dropF (enI Bn k) (nmI k) = enI Bn k := dropF_no fun f hf => by
    unfold enI at hf
    obtain ⟨i, hi, rfl⟩ := List.mem_map.1 hf
    have := List.mem_range.1 hi
    exact nmI_ne (by omega) hk (by omega)
  rw [h1]
  show (⟨0, _, dropF [] (nmI k)⟩ : Ln) = _
  unfold enI dropF
  rw [List.range_succ, List.map_append]
  simp
theorem enI_ok (Bn : Nat → Nat) (k : Nat) (hk : k ≤ 26) : okLn ⟨0, enI Bn k, []⟩ := by
  unfold okLn
  simp only [List.append_nil]
  unfold enI
  rw [List.map_map, List.nodup_iff_pairwise_ne, List.pairwise_map]
  refine List.Pairwise.imp_of_mem (fun {a b} ha hb hab => ?_) (List.nodup_iff_pairwise_ne.1 List.nodup_range)
  exact nmI_ne (by have := List.mem_range.1 ha; omega) (by have := List.mem_range.1 hb; omega) hab
/-- The lanes, while the ticks go. -/
structure OrI (n h t nx : Nat) (s : Ln) : Prop where
  ck : s.clock = t
  oe : okL s.en
  os : okL s.sc
  ln : s.en.length + s.sc.length = n
  nxt : nx + s.en.length = n
  nm : ∀ i, i < s.en.length → (s.en.getD i fl0).path = nmI (nx + i)
  pr : s.en = [] ∨ remL s.en + t * h ≤ 64 * n
theorem OrI.start (Bn : Nat → Nat) (n h : Nat) (hb : ∀ i, Bn i ≤ 64) : OrI n h 0 0 ⟨0, enI Bn n, []⟩ := by
  have ok : okL (enI Bn n) := fun f hf => by
    unfold enI at hf
    obtain ⟨i, hi, rfl⟩ := List.mem_map.1 hf
    exact ⟨Nat.zero_le _, hb i⟩
  refine ⟨rfl, ok, (fun f hf => by cases hf), by simp [enI_len], by simp [enI_len], fun i hi => ?_, .inr ?_⟩
  · rw [enI_get Bn n i (by simpa [enI_len] using hi), Nat.zero_add]
  · have := remL_le _ ok
    rw [enI_len] at this
    simpa using this
theorem OrI.tick {n h t nx : Nat} {s : Ln} (o : OrI n h t nx s) {ns : List Fl} (hp : ns.Perm (tickFin s h)) : OrI n h (t + 1) (nx + (tickA s h).fin.length) (tickS s h ns) := by
  obtain ⟨a1, a2, a3, a4, a5, a6, a7, a8⟩ := workL_enrol (s.clock + 1) true s.en h o.oe
  have okA := workL_ok (s.clock + 1) true s.en h o.oe
  have okB := workL_ok (s.clock + 1) false s.sc ((tickA s h).left + h) o.os
  have lb := congrArg List.length (workL_paths (s.clock + 1) false s.sc ((tickA s h).left + h)).1
  simp only [List.length_append, List.length_map] at lb
  have hln := hp.length_eq
  unfold tickFin at hln
  rw [List.length_append] at hln
  have ho := o.ln
  have hx := o.nxt
  refine ⟨by show s.clock + 1 = t + 1; rw [o.ck], okA.1, fun f hf => ?_, ?_, ?_, fun i hi => ?_, ?_⟩
  · rcases List.mem_append.1 hf with h1 | h1
    · exact okB.1 f h1
    · rcases List.mem_append.1 (hp.mem_iff.1 h1) with h2 | h2
      · exact okA.2.1 f h2
      · exact okB.2.1 f h2
  · show (tickA s h).rest.length + ((tickB s h).rest ++ ns).length = n
    rw [List.length_append]
    have e1 : s.en.length = (tickA s h).fin.length + (tickA s h).rest.length := a4
    have e2 : s.sc.length = (tickB s h).fin.length + (tickB s h).rest.length := lb
    omega
  · show nx + (tickA s h).fin.length + (tickA s h).rest.length = n
    unfold tickA at *
    omega
  · have h1 := a5 i hi
    have h2 := o.nm ((tickA s h).fin.length + i) (by
      have hi' : i < (tickA s h).rest.length := hi
      unfold tickA at *
      omega)
    show ((tickA s h).rest.getD i fl0).path = _
    rw [Nat.add_assoc, ← h2]
    exact h1
  · show (tickA s h).rest = [] ∨ remL (tickA s h).rest + (t + 1) * h ≤ 64 * n
    rcases a8 with a8 | a8
    · exact .inl a8
    · rcases o.pr with hpr | hpr
      · left
        unfold tickA
        rw [hpr]
        rfl
      · right
        rw [Nat.add_mul]
        unfold tickA at *
        omega
theorem OrI.done {n h t nx : Nat} {s : Ln} (o : OrI n h t nx s) (ht : 64 * n < t * h) : s.en = [] ∧ nx = n := by
  have h1 : s.en = [] := by
    rcases o.pr with h1 | h1
    · exact h1
    · omega
  have := o.nxt
  rw [h1] at this
  exact ⟨h1, by simpa using this⟩
/-- What the works of a tick say. -/
theorem OrI.works {n h t nx : Nat} {s : Ln} (o : OrI n h t nx s) (j : Nat) (hj : j < (tickOut s h).length) :
    (j < (tickA s h).out.length → ((tickOut s h).getD j wk0).en = true ∧ ((tickOut s h).getD j wk0).path = nmI (nx + j) ∧ ((tickOut s h).getD j wk0).lo ≤ ((tickOut s h).getD j wk0).hi ∧ ((tickOut s h).getD j wk0).hi ≤ 64 ∧ ((tickOut s h).getD j wk0).fin = decide (j < (tickA s h).fin.length) ∧ j ≤ (tickA s h).fin.length ∧ nx + j < n ∧ (tickOut s h).getD j wk0 = (tickA s h).out.getD j wk0) ∧
    (¬ j < (tickA s h).out.length → ((tickOut s h).getD j wk0).en = false) := by
  obtain ⟨a1, a2, a3, a4, a5, a6, a7, a8⟩ := workL_enrol (s.clock + 1) true s.en h o.oe
  obtain ⟨b1, b2, b3, -⟩ := workL_enrol (s.clock + 1) false s.sc ((tickA s h).left + h) o.os
  have hx := o.nxt
  have hlen := workL_out_le (s.clock + 1) true s.en h
  refine ⟨fun hlt => ?_, fun hge => ?_⟩
  · have e : (tickOut s h).getD j wk0 = (tickA s h).out.getD j wk0 := by
      unfold tickOut
      rw [List.getD_eq_getElem?_getD, List.getD_eq_getElem?_getD, List.getElem?_append_left hlt]
    rw [e]
    have h3 := a3 j hlt
    have hje : j < s.en.length := by unfold tickA at hlt; omega
    refine ⟨h3.2.1, ?_, h3.2.2.1, h3.2.2.2.1, h3.2.2.2.2, ?_, by omega, rfl⟩
    · rw [show ((tickA s h).out.getD j wk0).path = (s.en.getD j fl0).path from h3.1]
      exact o.nm j hje
    · unfold tickA at *; omega
  · have e : (tickOut s h).getD j wk0 = (tickB s h).out.getD (j - (tickA s h).out.length) wk0 := by
      unfold tickOut
      rw [List.getD_eq_getElem?_getD, List.getD_eq_getElem?_getD, List.getElem?_append_right (by omega)]
    rw [e]
    have hj2 : j - (tickA s h).out.length < (tickB s h).out.length := by
      unfold tickOut at hj
      rw [List.length_append] at hj
      omega
    exact (b3 _ hj2).2.1
theorem sumW_take (l : List Wk) (j : Nat) (hj : j < l.length) : sumW (l.take (j + 1)) = sumW (l.take j) + ((l.getD j wk0).hi - (l.getD j wk0).lo) := by
  unfold sumW
  rw [List.take_add_one, List.getElem?_eq_getElem hj, List.map_append, List.sum_append, List.getD_eq_getElem?_getD, List.getElem?_eq_getElem hj]
  simp
theorem sumW_le (l : List Wk) (j : Nat) : sumW (l.take j) ≤ sumW l := by
  have h : sumW l = sumW (l.take j) + sumW (l.drop j) := by
    unfold sumW
    rw [← List.sum_append, ← List.map_append, List.take_append_drop]
  omega
end Go.Proofs.YtcgilacmdckbfaaDoor
/- LanePlays, in plain terms: how the program's lanes and the document's stand to each other, step by step. -/
set_option maxRecDepth 100000
namespace Go.Proofs.YtcgilacmdckbfaaDoor
open Go

/-- After k calls. -/
structure LpI (s : Ln) (M : List Rf) (k : Nat) : Prop where
  rel : RelQ M s.en s.sc
  om : OkM M
  srt : s.sc.Pairwise ltF
  tk : ∀ f ∈ s.sc, f.tick ≤ s.clock
  len : M.length ≤ k
  ck : s.clock ≤ k
theorem LpI.zero : LpI ln0 [] 0 := ⟨⟨rfl, List.Perm.refl _, List.nodup_nil⟩, (fun x hx => by cases hx), List.Pairwise.nil, (fun f hf => by cases hf), Nat.le_refl _, Nat.le_refl _⟩
theorem LpI.more {s : Ln} {M : List Rf} {k : Nat} (h : LpI s M k) : LpI s M (k + 1) := ⟨h.rel, h.om, h.srt, h.tk, Nat.le_succ_of_le h.len, Nat.le_succ_of_le h.ck⟩
theorem part_perm (M : List Rf) : (M.filter isE ++ M.filter fun x => !isE x).Perm M := by
  induction M with
  | nil => exact List.Perm.refl _
  | cons x M ih =>
    rw [List.filter_cons, List.filter_cons]
    cases h : isE x with
    | true => simp only [if_true, Bool.not_true, Bool.false_eq_true, if_false, List.cons_append]; exact ih.cons x
    | false => simp only [Bool.false_eq_true, if_false, Bool.not_false, if_true]; exact List.perm_middle.trans (ih.cons x)
theorem RelQ.both {M : List Rf} {en S : List Fl} (h : RelQ M en S) : (en ++ S).Perm (M.map flR) := by
  have h1 : (en ++ S).Perm ((M.filter isE).map flR ++ (M.filter fun x => !isE x).map flR) := by
    rw [h.e]
    exact h.s.symm.append_left en
  refine h1.trans ?_
  rw [← List.map_append]
  exact (part_perm M).map flR
theorem RelQ.paths {M : List Rf} {en S : List Fl} (h : RelQ M en S) : ((en ++ S).map (·.path)).Perm (M.map (·.path)) := by
  have := h.both.map (·.path)
  rw [List.map_map] at this
  exact this
theorem LpI.okLn {s : Ln} {M : List Rf} {k : Nat} (h : LpI s M k) : okLn s := (h.rel.paths.nodup_iff).2 h.rel.nd
theorem LpI.okB {s : Ln} {M : List Rf} {k : Nat} (h : LpI s M k) {f : Fl} (hf : f ∈ s.en ++ s.sc) : okF f := by
  obtain ⟨x, hx, rfl⟩ := List.mem_map.1 (h.rel.both.mem_iff.1 hf)
  have := h.om x hx
  exact ⟨this.2.2, this.2.1⟩
theorem LpI.okE {s : Ln} {M : List Rf} {k : Nat} (h : LpI s M k) : okL s.en := fun f hf => h.okB (List.mem_append_left _ hf)
theorem LpI.okS {s : Ln} {M : List Rf} {k : Nat} (h : LpI s M k) : okL s.sc := fun f hf => h.okB (List.mem_append_right _ hf)
theorem LpI.lens {s : Ln} {M : List Rf} {k : Nat} (h : LpI s M k) : s.en.length + s.sc.length ≤ k := by
  have := h.rel.both.length_eq
  rw [List.length_append, List.length_map] at this
  have := h.len
  omega
theorem OkM.drop {M : List Rf} (h : OkM M) (p : S8) : OkM (dropR M p) := fun x hx => h x (List.mem_filter.1 hx).1
theorem LpI.drop {s : Ln} {M : List Rf} {k : Nat} (h : LpI s M k) (p : S8) : LpI (dropS s p) (dropR M p) k := by
  refine ⟨h.rel.drop p, h.om.drop p, h.srt.sublist List.filter_sublist, fun f hf => h.tk f (List.mem_filter.1 hf).1, Nat.le_trans (List.length_filter_le _ _) h.len, h.ck⟩
theorem has_iff (s : Ln) (p : S8) : hasL s p = true ↔ ∃ f ∈ s.en ++ s.sc, f.path = p := by
  unfold hasL
  rw [Bool.or_eq_true, decide_eq_true_eq, decide_eq_true_eq]
  constructor
  · rintro (h | h)
    · rcases findI_spec s.en p with ⟨h1, -⟩ | ⟨i, h1, h2, h3⟩
      · omega
      · exact ⟨_, List.mem_append_left _ (getD_memF h2), h3⟩
    · rcases findI_spec s.sc p with ⟨h1, -⟩ | ⟨i, h1, h2, h3⟩
      · omega
      · exact ⟨_, List.mem_append_right _ (getD_memF h2), h3⟩
  · rintro ⟨f, hf, hp⟩
    rcases List.mem_append.1 hf with hf | hf
    · rcases findI_spec s.en p with ⟨h1, h2⟩ | ⟨i, h1, -⟩
      · exact absurd hp (h2 f hf)
      · exact .inl (by omega)
    · rcases findI_spec s.sc p with ⟨h1, h2⟩ | ⟨i, h1, -⟩
      · exact absurd hp (h2 f hf)
      · exact .inr (by omega)
theorem LpI.dropC {s : Ln} {M : List Rf} {k : Nat} (h : LpI s M k) (p : S8) : (if hasL s p then (0 : Int) else 8) = dropC M p := by
  unfold Proofs.YtcgilacmdckbfaaDoor.dropC
  have e : hasL s p = M.any (fun x => decide (x.path = p)) := by
    rw [Bool.eq_iff_iff, has_iff, List.any_eq_true]
    constructor
    · rintro ⟨f, hf, hp⟩
      obtain ⟨x, hx, rfl⟩ := List.mem_map.1 (h.rel.both.mem_iff.1 hf)
      exact ⟨x, hx, decide_eq_true hp⟩
    · rintro ⟨x, hx, hp⟩
      exact ⟨flR x, h.rel.both.mem_iff.2 (List.mem_map.2 ⟨x, hx, rfl⟩), of_decide_eq_true hp⟩
  rw [e]
theorem last_gone (s : Ln) (p : S8) : lastV (dropS s p) p = 0 ∧ lastE (dropS s p) p = 8 := by
  have hn : ∀ l : List Fl, findI (dropF l p) p = -1 := fun l => by
    rcases findI_spec (dropF l p) p with ⟨h1, -⟩ | ⟨i, h1, h2, h3⟩
    · exact h1
    · have h4 := getD_memF h2
      unfold dropF at h4 h3
      have h5 := of_decide_eq_true (List.mem_filter.1 h4).2
      exact absurd h3 h5
  unfold lastV lastE dropS
  simp only [hn]
  exact ⟨rfl, rfl⟩
theorem LpI.put {s : Ln} {M : List Rf} {k : Nat} (h : LpI s M k) (p : S8) (n : Int) : LpI (putS s p n) (putR M p n) (k + 1) := by
  unfold putS putR
  by_cases hc : putC p n = 0
  · rw [if_pos hc, if_pos hc]
    have hn : 0 ≤ n ∧ n ≤ 64 := by
      unfold putC at hc
      split at hc
      · cases hc
      · split at hc
        · cases hc
        · omega
    have hd := h.drop p
    refine ⟨hd.rel.put p n.toNat (fun x hx => of_decide_eq_true (List.mem_filter.1 hx).2), fun x hx => ?_, hd.srt, hd.tk, ?_, Nat.le_succ_of_le h.ck⟩
    · rcases List.mem_append.1 hx with hx | hx
      · exact hd.om x hx
      · obtain rfl : x = ⟨p, n.toNat, 0, -1⟩ := by simpa using hx
        exact ⟨Int.le_refl _, by show n.toNat ≤ 64; omega, Nat.zero_le _⟩
    · rw [List.length_append]
      exact Nat.succ_le_succ hd.len
  · rw [if_neg hc, if_neg hc]
    exact h.more
theorem path_tri (a b : S8) : a < b ∨ a = b ∨ b < a := by
  by_cases h1 : a < b
  · exact .inl h1
  · by_cases h2 : b < a
    · exact .inr (.inr h2)
    · exact .inr (.inl (List.le_antisymm (List.not_lt.1 h2) (List.not_lt.1 h1)))
theorem ltF_map {l l' : List Fl} (h : l.map (fun f => (f.tick, f.path)) = l'.map (fun f => (f.tick, f.path))) (hs : l'.Pairwise ltF) : l.Pairwise ltF := by
  have h1 : (l'.map (fun f => (f.tick, f.path))).Pairwise (fun a b => a.1 < b.1 ∨ a.1 = b.1 ∧ a.2 < b.2) := by rw [List.pairwise_map]; exact hs
  rw [← h, List.pairwise_map] at h1
  exact h1
theorem LpI.tick {s : Ln} {M M' : List Rf} {k : Nat} (h : LpI s M k) (b : Nat) {ns : List Fl} (hr : RelQ M' (tickA s b).rest ((tickB s b).rest ++ tickFin s b)) (ho : OkM M') (hl : M'.length = M.length) (hp : ns.Perm (tickFin s b)) (hb : byPath ns) : LpI (tickS s b ns) M' (k + 1) := by
  have hr' : RelQ M' (tickS s b ns).en (tickS s b ns).sc := hr.perm (hp.symm.append_left _)
  obtain ⟨w1, -⟩ := workL_rest (s.clock + 1) false s.sc ((tickA s b).left + b)
  have hfin : ∀ f ∈ tickFin s b, f.tick = s.clock + 1 := fun f hf => by
    rcases List.mem_append.1 hf with h1 | h1
    · exact ((workL_rest (s.clock + 1) true s.en b).2 f h1).1
    · exact ((workL_rest (s.clock + 1) false s.sc ((tickA s b).left + b)).2 f h1).1
  have hrt : ∀ f ∈ (tickB s b).rest, f.tick ≤ s.clock := fun f hf => by
    have h1 : (f.tick, f.path) ∈ (tickB s b).rest.map (fun f => (f.tick, f.path)) := List.mem_map.2 ⟨f, hf, rfl⟩
    unfold tickB at h1
    rw [w1] at h1
    obtain ⟨g, hg, e⟩ := List.mem_map.1 h1
    have h2 := h.tk g (List.mem_of_mem_drop hg)
    injection e with e1 e2
    omega
  have hns : ∀ f ∈ ns, f.tick = s.clock + 1 := fun f hf => hfin f (hp.mem_iff.1 hf)
  refine ⟨hr', ho, ?_, fun f hf => ?_, by rw [hl]; exact Nat.le_succ_of_le h.len, Nat.succ_le_succ h.ck⟩
  · show ((tickB s b).rest ++ ns).Pairwise ltF
    rw [List.pairwise_append]
    refine ⟨?_, ?_, fun f hf g hg => .inl (by have := hrt f hf; have := hns g hg; omega)⟩
    · unfold tickB
      exact ltF_map w1 (h.srt.sublist (List.drop_sublist _ _))
    · have hnd : (ns.map (·.path)).Nodup := by
        have h1 := (hr'.paths.nodup_iff).2 hr'.nd
        refine h1.sublist ?_
        rw [List.map_append]
        refine List.Sublist.trans ?_ (List.sublist_append_right _ _)
        show (ns.map (·.path)).Sublist (((tickB s b).rest ++ ns).map (·.path))
        rw [List.map_append]
        exact List.sublist_append_right _ _
      rw [List.nodup_iff_pairwise_ne, List.pairwise_map] at hnd
      refine (hb.and hnd).imp_of_mem fun {f g} hf hg hfg => .inr ⟨by rw [hns f hf, hns g hg], ?_⟩
      rcases path_tri f.path g.path with h1 | h1 | h1
      · exact h1
      · exact absurd h1 hfg.2
      · exact absurd h1 hfg.1
  · rcases List.mem_append.1 hf with h1 | h1
    · exact Nat.le_succ_of_le (hrt f h1)
    · exact Nat.le_of_eq (hns f h1)
end Go.Proofs.YtcgilacmdckbfaaDoor
/- LanePlays: the lanes and the document's list in memory, call by call. -/
set_option maxRecDepth 100000
namespace Go.Proofs.YtcgilacmdckbfaaDoor
open Go Go.RowKit

theorem RLs.keepB {w w' : World} {p : Option Addr} {n cap : Nat} {M : List Rf} (h : RLs w p n cap M) (hk : ∀ c o, p = some ⟨c, o, none⟩ → c < w.heap.size → w'.heap[c]? = w.heap[c]?) : RLs w' p n cap M :=
  ⟨h.1, h.2.1.keep fun c o e hlt => hk c o e hlt, h.2.2⟩
/-- The lanes in block b, their blocks of F; the list's box bm; all made since w0. -/
structure LpS (w0 u : World) (b bm : Nat) (F : Nat → Prop) (s : Ln) (M : List Rf) : Prop where
  ln : LnAt u b F s
  fl : ∀ g, F g → w0.heap.size ≤ g ∧ g < u.heap.size
  bel : Below w0.heap.size w0 u
  bx : ∃ q cap, u.heap[bm]? = some (.cells #[.slice q M.length cap, .int .i64 (s.clock : Int)] TL14 (0, 0)) ∧ ∀ z, KpF (fun g => F g ∨ g = bm) u z → RLs z q M.length cap M
  nb : ¬ F bm ∧ w0.heap.size ≤ bm
section
variable {w0 u u' : World} {b bm : Nat} {F : Nat → Prop} {s s' : Ln} {M M' : List Rf}
theorem LpS.next (h : LpS w0 u b bm F s M) (hB : Below u.heap.size u u') : LpS w0 u' b bm F s M := by
  obtain ⟨q, cap, h1, h2⟩ := h.bx
  have hlt := (Array.getElem?_eq_some_iff.1 h1).1
  exact ⟨h.ln.of_new hB, fun g hg => ⟨(h.fl g hg).1, Nat.lt_of_lt_of_le (h.fl g hg).2 hB.size⟩, h.bel.trans (hB.mono h.bel.size), ⟨q, cap, (hB.block bm hlt).trans h1, fun z hz => h2 z ((KpF.of_new hB).trans hz)⟩, h.nb⟩
/-- A call of the lanes. -/
theorem LpS.call (h : LpS w0 u b bm F s M) (hL : LnAt u' b (newF F u u') s') (hK : KpF F u u') (hc : s'.clock = s.clock) : LpS w0 u' b bm (newF F u u') s' M := by
  obtain ⟨q, cap, h1, h2⟩ := h.bx
  have hlt := (Array.getElem?_eq_some_iff.1 h1).1
  have hs := hK.size
  have hw := h.bel.size
  refine ⟨hL, fun g hg => ?_, h.bel.trans (hK.below (fun k hk => (h.fl k hk).1) h.bel.size), ⟨q, cap, ?_, fun z hz => h2 z ?_⟩, fun hc => ?_, h.nb.2⟩
  · rcases hg with hg | hg
    · have := h.fl g hg; omega
    · omega
  · rw [hK.block bm hlt h.nb.1, hc]; exact h1
  · refine ⟨hz.os.trans hK.os, hz.tape.trans hK.tape, hz.output.trans hK.output, Nat.le_trans hs hz.size, fun k hk hn => (hz.block k (by omega) (fun hc => ?_)).trans (hK.block k hk fun hf => hn (.inl hf))⟩
    rcases hc with (hc | hc) | hc
    · exact hn (.inl hc)
    · omega
    · exact hn (.inr hc)
  · rcases hc with hc | hc
    · exact h.nb.1 hc
    · omega
/-- Behind a call that gave a list: it is stored into the box. -/
theorem LpS.store (h : LpS w0 u b bm F s M) (hB : Below u.heap.size u u') {q' : Option Addr} {cap' : Nat} {ck : Nat} (hr : ∀ z, KpF (fun g => F g ∨ g = bm) u' z → RLs z q' M'.length cap' M') (hck : ck = s'.clock) (hL : ∀ v, LnAt v b F s → LnAt v b F s') :
    LpS w0 ((u'.setCell ⟨bm, 0, none⟩ (.slice q' M'.length cap')).setCell ⟨bm, 1, none⟩ (.int .i64 (ck : Int))) b bm F s' M' := by
  obtain ⟨q, cap, h1, -⟩ := (h.next hB).bx
  have hk := twoKp u' bm (.slice q' M'.length cap') (.int .i64 (ck : Int))
  have hn := h.next hB
  refine ⟨hL _ (hn.ln.keep hk (fun g hg e => h.nb.1 (e ▸ hg))), fun g hg => ⟨(hn.fl g hg).1, Nat.lt_of_lt_of_le (hn.fl g hg).2 hk.size⟩, hn.bel.trans (hk.below (fun k e => by have e : k = bm := e; have := h.nb.2; omega) hn.bel.size), ⟨q', cap', ?_, fun z hz => hr z ((hk.mono fun k _ e => .inr e).trans hz)⟩, h.nb⟩
  subst hck
  exact twoSet h1
/-- A tick: the document's list came back ahead of the lanes' own call. -/
theorem LpS.tick {u4 u5 : World} (h : LpS w0 u b bm F s M) (hL : LnAt u4 b (newF F u u4) s') (hK : KpF F u u4) (hB : Below u4.heap.size u4 u5) {q' : Option Addr} {cap' ck : Nat} (hr : ∀ z, KpF (fun g => F g ∨ g = bm) u z → RLs z q' M'.length cap' M') (hck : ck = s'.clock) :
    LpS w0 ((u5.setCell ⟨bm, 0, none⟩ (.slice q' M'.length cap')).setCell ⟨bm, 1, none⟩ (.int .i64 (ck : Int))) b bm (newF F u u4) s' M' := by
  obtain ⟨q, cap, h1, -⟩ := h.bx
  have hlt := (Array.getElem?_eq_some_iff.1 h1).1
  have hs := hK.size
  have hs5 := hB.size
  have hw := h.bel.size
  have hk := twoKp u5 bm (.slice q' M'.length cap') (.int .i64 (ck : Int))
  have hnb : ¬ newF F u u4 bm := fun hc => by
    rcases hc with hc | hc
    · exact h.nb.1 hc
    · omega
  refine ⟨(hL.of_new hB).keep hk (fun g hg e => hnb (e ▸ hg)), fun g hg => ?_, ((h.bel.trans (hK.below (fun k hk => (h.fl k hk).1) hw)).trans (hB.mono (by omega))).trans (hk.below (fun k e => by have e : k = bm := e; have := h.nb.2; omega) (by omega)), ⟨q', cap', ?_, fun z hz => hr z ?_⟩, hnb, h.nb.2⟩
  · have := hk.size
    rcases hg with hg | hg
    · have := h.fl g hg; omega
    · omega
  · subst hck
    exact twoSet ((hB.block bm (by omega)).trans ((hK.block bm hlt h.nb.1).trans h1))
  · have hks := hk.size
    refine ⟨hz.os.trans (hk.os.trans (hB.os.trans hK.os)), hz.tape.trans (hk.tape.trans (hB.tape.trans hK.tape)), hz.output.trans (hk.output.trans (hB.output.trans hK.output)), by have := hz.size; omega, fun k hkl hn => ?_⟩
    rw [hz.block k (by omega) (fun hc => by
      rcases hc with (hc | hc) | hc
      · exact hn (.inl hc)
      · omega
      · exact hn (.inr hc)), hk.block k (by omega) (fun e => hn (.inr e)), hB.block k (by omega), hK.block k hkl (fun hf => hn (.inl hf))]
theorem LpS.tick0 {u4 u5 : World} (h : LpS w0 u b bm F s M) (hK : KpF F u u4) (hB : Below u4.heap.size u4 u5) : ∃ q cap, u5.heap[bm]? = some (.cells #[.slice q M.length cap, .int .i64 (s.clock : Int)] TL14 (0, 0)) ∧ True := by
  obtain ⟨q, cap, h1, -⟩ := h.bx
  have hlt := (Array.getElem?_eq_some_iff.1 h1).1
  have hs := hK.size
  exact ⟨q, cap, (hB.block bm (by omega)).trans ((hK.block bm hlt h.nb.1).trans h1), trivial⟩
theorem good_half {z : Int} (h : badB z = false) : ∃ b : Nat, 1 ≤ b ∧ b ≤ 500 ∧ z = 2 * (b : Int) := by
  unfold badB at h
  simp at h
  exact ⟨(z / 2).toNat, by omega, by omega, by omega⟩
/-- A list that came back, as it lies wherever the lanes change. -/
theorem LpS.newL (h : LpS w0 u b bm F s M) (hB : Below u.heap.size u u') {q q' : Option Addr} {cap n' cap' : Nat} (hq : ∀ z, KpF (fun g => F g ∨ g = bm) u z → RLs z q M.length cap M) (hr : RLs u' q' n' cap' M') (hn : NewL u q q' M.length n' cap cap' M M') : ∀ z, KpF (fun g => F g ∨ g = bm) u' z → RLs z q' n' cap' M' := by
  intro z hz
  rcases hn with ⟨rfl, rfl, rfl, rfl⟩ | hn
  · exact hq z ((KpF.of_new hB).trans hz)
  · obtain ⟨q0, c0, h1, -⟩ := h.bx
    have hlt := (Array.getElem?_eq_some_iff.1 h1).1
    refine hr.keepB fun c o e hc => hz.block c hc fun hf => ?_
    have h2 := hn c o e
    rcases hf with hf | hf
    · have := (h.fl c hf).2; omega
    · omega
end
end Go.Proofs.YtcgilacmdckbfaaDoor
/- darnerlaw14.awake. -/
set_option maxRecDepth 100000
namespace Go.Proofs.YtcgilacmdckbfaaDoor
open Go Go.RowKit

def sx0 : Ln := ⟨0, [⟨[120], 0, 0, 0⟩], []⟩
theorem sx_put : putC [120] 0 = 0 ∧ putS ln0 [120] 0 = sx0 := by
  have h0 : putC [120] 0 = 0 := by
    unfold putC
    rw [if_neg (by have := kind_one 23 (by decide); rw [show ([120] : S8) = [UInt8.ofNat (97 + 23)] from by decide, this]; decide), if_neg (by decide)]
  refine ⟨h0, ?_⟩
  unfold putS
  rw [if_pos h0]
  rfl
theorem sx_out : tickOut sx0 1 = [⟨[120], 0, 0, true, true⟩] := by
  simp [tickOut, tickA, tickB, sx0, workL]
set_option maxHeartbeats 4000000 in
theorem awake14 (w : World) : Calls Tryd.prog 7 #[] w fun e w' => e = .returned (.bool true) ∧ Below w.heap.size w w' := by
  have HNW := Lib.hid (new14_any w)
  go_enter Tryd.func7, Tryd.ntmps7
  go_wp2_with fail
  refine HNW.out.mono ?_
  rintro e w1 ⟨rfl, hL, hB⟩
  obtain ⟨b, hb⟩ : ∃ b, w.heap.size = b := ⟨_, rfl⟩
  have hS : St14 w w1 b ln0 := ⟨by rw [← hb]; exact hL, hB⟩
  rw [hb]
  have hput := put_any hS.1 (by unfold okLn; simp [ln0]) ⟨by simp [ln0], by simp [ln0]⟩ [120] (by simp) 0 (by omega) (by omega)
  have HS := Lib.hid hS
  rw [← mkS_lit [120]] at hput
  have HP := Lib.hid hput
  clear hL hB hS hput HNW hb
  go_wp2_with fail
  refine HP.out.mono ?_
  rintro e w2 ⟨he, hL, hK⟩
  rw [sx_put.1] at he
  subst he
  have hS := HS.out.next hL hK
  rw [sx_put.2] at hS
  have HS2 := Lib.hid hS
  have hok : okL sx0.en ∧ okL sx0.sc := ⟨fun f hf => by have : f = ⟨[120], 0, 0, 0⟩ := by simpa [sx0] using hf
                                                        subst this; exact ⟨Nat.le_refl _, by decide⟩, fun f hf => by cases hf⟩
  have HT := Lib.hid (tick_go hS.1 hok.1 hok.2 ⟨by simp [sx0], by simp [sx0]⟩ (by simp [sx0]) 2 1 (by omega) (by omega) (by omega))
  clear hL hK hS HP HS hok
  go_wp2_with fail
  refine HT.out.mono ?_
  rintro e w3 ⟨v, ns, rfl, hO, -, -, hL, hK⟩
  have hS := HS2.out.next hL hK
  rw [sx_out] at hO
  obtain ⟨p, cap, ev, hl, -, hcap, -⟩ := own_shape hO
  change v = .slice p 1 cap at ev
  subst ev
  obtain ⟨c, o, ep, hc4⟩ := hl 4 (by decide)
  subst ep
  change _ = some (Value.bool true) at hc4
  have HS3 := Lib.hid hS
  have hck := clock_any hS.1
  rw [show (tickS sx0 1 ns).clock = 1 from rfl] at hck
  have HCK := Lib.hid hck
  clear hck
  have hcap1 : 1 ≤ cap := hcap
  clear hO hl hL hK hS HT HS2 hcap
  go_wp2_with (go_at_call 18; refine HCK.out.mono ?_; rintro e w' ⟨rfl, rfl⟩)
  go_ret
  exact ⟨rfl, HS3.out.2⟩
end Go.Proofs.YtcgilacmdckbfaaDoor
