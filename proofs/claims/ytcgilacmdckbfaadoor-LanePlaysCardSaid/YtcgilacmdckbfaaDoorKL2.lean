/- Merged texts: Rla14. -/
import Derived.Test.YtcgilacmdckbfaaDoorKL1
set_option linter.unusedSimpArgs false
set_option linter.unusedVariables false
/- darnerref14.lane. -/
set_option maxRecDepth 100000
namespace Go.Proofs.YtcgilacmdckbfaaDoor
open Go Go.RowKit

abbrev TWr : TypeId := 39
abbrev EWr : TypeId := 85
theorem elWr14 : ElK TWr EWr zW 5 40 := ⟨by kernel_rfl, by kernel_rfl, rfl, by decide, by decide⟩
/-- The list, wherever the two boxes and the work may change. -/
def HoldR (S0 : Nat → Prop) (u : World) (bx : Nat) (v : Value) (q : Option Addr) (n cap : Nat) (M : List Rf) : Prop := ∀ z, KpF (fun g => g = bx ∨ g = bx + 1 ∨ v.ownBlock = some g ∨ S0 g) u z → RLs z q n cap M
def LaneR (S0 : Nat → Prop) (w : World) (e : Bool) (c n : Nat) (P : List Rf → List Fl → List Fl → Prop) (R : Wr) (en : Ending) (w' : World) : Prop :=
  ∃ q' cap' M' v', en = .returned (.tuple #[.agg #[.slice q' n cap', .int .i64 (c : Int)], v', .int .i64 (R.left : Int)]) ∧ (∀ z, KpF (fun g => v'.ownBlock = some g ∨ S0 g) w' z → RLs z q' n cap' M') ∧ P M' R.rest R.fin ∧ OkM M' ∧ w'.ownsRow w.heap.size EWr 5 v' R.out.length (wksC R.out) ∧ Below w.heap.size w w'
theorem NxI.cases {e : Bool} {c : Int} {M : List Rf} {k : Nat} {r : Int} (h : NxI e c M k r) : r = -1 ∨ ∃ i : Nat, r = (i : Int) ∧ i < k := by
  cases e with
  | true => rcases h with ⟨h, -⟩ | ⟨i, h1, h2, -⟩; exact .inl h; exact .inr ⟨i, h1, h2⟩
  | false => rcases h with ⟨h, -⟩ | ⟨i, h1, h2, -⟩; exact .inl h; exact .inr ⟨i, h1, h2⟩
theorem resL3 {fn : Func} {p q r : Tmp} (h : fn.results = #[.cell p TL14, .tmp q, .tmp r]) (tmps : Array Value) (w : World) (b : Nat) (a c v x : Value) (hp : tmps.getD p undef = .pointer (some ⟨b, 0, none⟩)) (hq : tmps.getD q undef = v) (hr : tmps.getD r undef = x)
    (hR : w.heap[b]? = some (.cells #[a, c] TL14 (0, 0))) (ha : a.oneCell' = true) (hc : c.oneCell' = true) : (results fn tmps).run Tryd.prog w = .ok (.tuple #[.agg #[a, c], v, x]) w := by
  have hl : (loadVar TL14 ⟨b, 0, none⟩).run Tryd.prog w = .ok (.agg #[a, c]) w := run_loadVar_row (P := Tryd.prog) w b TL14 TL14 #[a, c] (0, 0) _ hR Tryd.underlying28 rfl (by kernel_rfl)
  have hp' : tmps[p]?.getD undef = .pointer (some ⟨b, 0, none⟩) := by simpa using hp
  have hq' : tmps[q]?.getD undef = v := by simpa using hq
  have hr' : tmps[r]?.getD undef = x := by simpa using hr
  simp [results, h, hp', hq', hr', asAddr, hl]
def lenS : Value → Nat
  | .slice _ n _ => n
  | _ => 0
/-- A round of the loop. -/
def RlaI (S0 : Nat → Prop) (W1 : World) (e : Bool) (c n bx L0 : Nat) (P : List Rf → List Fl → List Fl → Prop) (Q : List Fl) (v2 v9 : Value) (u : World) : Prop :=
  ∃ q cap M left out rest fin, v2 = .int .i64 ((left : Nat) : Int) ∧ left ≤ L0 ∧ u.heap[bx]? = some (.cells #[.slice q n cap, .int .i64 (c : Int)] TL14 (0, 0)) ∧ u.heap[bx + 1]? = some (.cells #[.slice none 0 0, .int .i64 0] TL14 (0, 0)) ∧
    u.ownsRow W1.heap.size EWr 5 v9 out.length (wksC out) ∧ HoldR S0 u bx v9 q n cap M ∧ P M rest fin ∧ OkM M ∧ WInv c e Q L0 rest left out fin ∧ Below bx W1 u
set_option maxHeartbeats 4000000 in
theorem refLane_any {w : World} (S0 : Nat → Prop) (hS0 : ∀ g, S0 g → g < w.heap.size) {q : Option Addr} {n cap : Nat} {M : List Rf} (e : Bool) (c L0 : Nat) {P : List Rf → List Fl → List Fl → Prop} (hP : LaneP e c P) {Q : List Fl} (h : ∀ z, KpF S0 w z → RLs z q n cap M) (hp : P M Q []) (hM : OkM M) (hn : n ≤ 10000) (hL : L0 ≤ 100000) (hQ : Q.length ≤ 10000) :
    Calls Tryd.prog 31 #[.agg #[.slice q n cap, .int .i64 (c : Int)], .bool e, .int .i64 (L0 : Int)] w fun en w' => LaneR S0 w e c n P (workL c e Q L0) en w' := by
  obtain ⟨bx, hbx⟩ : ∃ b, w.heap.size = b := ⟨_, rfl⟩
  obtain ⟨W1, hW1⟩ : ∃ W, (w.alloc (.cells #[.slice q n cap, .int .i64 (c : Int)] TL14)).alloc (.cells #[.slice none 0 0, .int .i64 0] TL14) = W := ⟨_, rfl⟩
  have hB1 : Below w.heap.size w W1 := by rw [← hW1]; exact ((Below.refl _ w).alloc (Nat.le_refl _) _).alloc (by simp) _
  have hh1 : W1.heap[bx]? = some (.cells #[.slice q n cap, .int .i64 (c : Int)] TL14 (0, 0)) ∧ W1.heap[bx + 1]? = some (.cells #[.slice none 0 0, .int .i64 0] TL14 (0, 0)) := by
    rw [← hW1, ← hbx]
    refine ⟨?_, ?_⟩
    · rw [Below.heap_alloc _ _ _ (by simp)]; exact World.alloc_heap_new _ _
    · have := World.alloc_heap_new (w.alloc (.cells #[.slice q n cap, .int .i64 (c : Int)] TL14)) (.cells #[.slice none 0 0, .int .i64 0] TL14)
      rw [World.size_alloc] at this
      exact this
  have hsz : W1.heap.size = bx + 2 := by rw [← hW1, ← hbx]; simp
  have hO0 : W1.ownsRow W1.heap.size EWr 5 (.slice none 0 0) 0 (wksC []) := ⟨by simp [wksC], .inl ⟨rfl, rfl⟩⟩
  have HS0 := Lib.hid hS0
  have hR0 : HoldR S0 W1 bx (.slice none 0 0) q n cap M := fun z hz => h z ⟨hz.os.trans hB1.os, hz.tape.trans hB1.tape, hz.output.trans hB1.output, Nat.le_trans hB1.size hz.size, fun k hk hn => (hz.block k (Nat.lt_of_lt_of_le hk hB1.size) (fun hc => by
    rcases hc with hc | hc | hc | hc
    · omega
    · omega
    · cases hc
    · exact hn hc)).trans (hB1.block k hk)⟩
  have H0 := Lib.hid (And.intro hh1 (And.intro hO0 (And.intro hR0 (And.intro hp hM))))
  have HB1 := Lib.hid hB1
  have HSZ := Lib.hid (And.intro hbx hsz)
  have HP := Lib.hid hP
  have hMn := (h w (KpF.refl _ _)).1
  have HMN := Lib.hid hMn
  obtain ⟨k0, k1, -, -⟩ := twoCells hh1.1
  clear h hp hM hP hB1 hh1 hsz hO0 hR0 hMn hS0
  go_enter Tryd.func31, Tryd.ntmps31
  go_wp2_with fail
  clear k0 k1 hW1
  go_loopw [2, 9] (fun v2 v9 wr => RlaI S0 W1 e c n bx L0 P Q v2 v9 wr) (fun _ v9 _ => Q.length - lenS v9)
  case atStart => exact ⟨q, cap, M, L0, [], Q, [], rfl, Nat.le_refl _, H0.out.1.1, H0.out.1.2, H0.out.2.1, H0.out.2.2.1, H0.out.2.2.2.1, H0.out.2.2.2.2, WInv.start c e Q L0, Below.refl _ _⟩
  case round =>
    rename World => wa
    clear H0
    obtain ⟨q, cap, M, left, out, rest, fin, rfl, hle, hb0, hb1, hO, hR, hp, hM, hW, hBa⟩ := hrel
    have hRa := hR wa (KpF.refl _ _)
    have hMn := hRa.1
    obtain ⟨pv, cv, ev, -⟩ := own_shape hO
    subst ev
    have hsz : bx + 2 ≤ wa.heap.size := by have h1 := hBa.size; have h2 := HSZ.out.2; omega
    have HNX := Lib.hid (refNext_any (c : Int) e hRa (by omega))
    have HS := Lib.hid (And.intro hb0 (And.intro hb1 (And.intro hO (And.intro hR (And.intro hp (And.intro hM (And.intro hW (And.intro hBa (And.intro hMn hsz)))))))))
    obtain ⟨k0, k1, -, -⟩ := twoCells hb0
    obtain ⟨j0, j1, j2, j3⟩ := twoCells hb1
    clear hb0 hb1 hO hR hp hM hW hBa hRa hMn hsz j0 j1 j2 j3
    go_wp2_with fail
    refine HNX.out.mono ?_
    rintro en w2 ⟨r, rfl, hr, hB2⟩
    rw [HS.out.2.2.2.2.2.2.2.2.1.symm] at hr
    have HR2 := Lib.hid hr
    have HB2 := Lib.hid hB2
    have HE := Lib.hid (show ∀ (u : World), Below wa.heap.size wa u → workL c e Q L0 = ⟨rest, left, out, fin⟩ → ∀ tmps : Array Value, tmps.getD 6 undef = .pointer (some ⟨bx + 1, 0, none⟩) → tmps.getD 7 undef = .slice pv out.length cv → tmps.getD 8 undef = .int .i64 (left : Int) →
        bodyPost Tryd.prog Tryd.f31 (fun en w' => LaneR S0 w e c n P (workL c e Q L0) en w') .ret ⟨tmps, []⟩ ((u.setCell ⟨bx + 1, 0, none⟩ (.slice q n cap)).setCell ⟨bx + 1, 1, none⟩ (.int .i64 (c : Int))) from fun u hu hWL tmps h6 h7 h8 => by
      obtain ⟨hb0, hb1, hO, hR, hp, hM, hW, hBa, hMn, hsz⟩ := HS.out
      have h1 := (hu.block (bx + 1) (by omega)).trans hb1
      refine bodyPost_ret (resL3 rfl _ _ (bx + 1) (.slice q n cap) (.int .i64 (c : Int)) (.slice pv out.length cv) (.int .i64 (left : Int)) h6 h7 h8 (twoSet h1) rfl rfl) rfl ?_
      have hK := twoKp u (bx + 1) (.slice q n cap) (.int .i64 (c : Int))
      have hKu : KpF (fun g => g = bx ∨ g = bx + 1 ∨ (Value.slice pv out.length cv).ownBlock = some g ∨ S0 g) wa ((u.setCell ⟨bx + 1, 0, none⟩ (.slice q n cap)).setCell ⟨bx + 1, 1, none⟩ (.int .i64 (c : Int))) :=
        (KpF.of_new hu).trans (hK.mono (fun k _ hk => .inr (.inl hk)))
      have hBw : Below w.heap.size w wa := HB1.out.trans (hBa.mono (by rw [HSZ.out.1]; exact Nat.le_refl _))
      rw [hWL]
      refine ⟨q, cap, M, _, rfl, fun z hz => hR z (hKu.trans (hz.mono fun k _ hk => by rcases hk with hk | hk; exact .inr (.inr (.inl hk)); exact .inr (.inr (.inr hk)))), hp, hM, ?_, ?_⟩
      · refine own_lower (own_kpF (own_below hO hu) hK (fun g hg hc => ?_)) (by have := HSZ.out; omega)
        have := (hO.lt g hg).1
        have := HSZ.out
        omega
      · have h2 := hBw.trans (hu.mono hBw.size)
        exact h2.trans (hK.below (fun k hk => by have := HSZ.out.1; omega) h2.size))
    clear hr hB2 k0 k1
    have hl2 := HS.out
    rcases HR2.out.cases with rfl | ⟨i, rfl, hi⟩
    · obtain ⟨k0, k1, -, -⟩ := twoCells ((HB2.out.block bx (by have := hl2.2.2.2.2.2.2.2.2.2; omega)).trans hl2.1)
      obtain ⟨j0, j1, j2, j3⟩ := twoCells ((HB2.out.block (bx + 1) (by have := hl2.2.2.2.2.2.2.2.2.2; omega)).trans hl2.2.1)
      have HWL := Lib.hid (HP.out.done hl2.2.2.2.2.1 HR2.out hl2.2.2.2.2.2.2.1)
      clear hl2
      go_wp2
      exact HE.out w2 HB2.out HWL.out _ rfl rfl rfl
    · obtain ⟨hb0, hb1, hO, hR, hp, hM, hW, hBa, hMn, hsz⟩ := hl2
      obtain ⟨k0, k1, -, -⟩ := twoCells ((HB2.out.block bx (by omega)).trans hb0)
      have HBX2 := Lib.hid (And.intro ((HB2.out.block bx (by omega)).trans hb0) ((HB2.out.block (bx + 1) (by omega)).trans hb1))
      have y0 : (0 : Int) ≤ (i : Int) := by omega
      have y1 : (i : Int) < (n : Int) := by omega
      have gi : decide ((i : Int) < 0) = false := decide_eq_false (by omega)
      have hR2 := hR w2 (KpF.of_new HB2.out)
      obtain ⟨gc, go, rfl, hc⟩ := hR2.cells i (by omega)
      have hxm : M.getD i rf0 ∈ M := getD_mem hi
      have hok := hM _ hxm
      obtain ⟨x, hx⟩ : ∃ x, M.getD i rf0 = x := ⟨_, rfl⟩
      have x0 := hc 0 (by decide)
      have x1 := hc 1 (by decide)
      have x2 := hc 2 (by decide)
      have x3 := hc 3 (by decide)
      rw [hx] at x0 x1 x2 x3 hok
      change _ = some (Value.string (mkS x.path)) at x0
      change _ = some (Value.int .i64 (x.blocks : Int)) at x1
      change _ = some (Value.int .i64 (x.done : Int)) at x2
      change _ = some (Value.int .i64 x.last) at x3
      rw [Nat.add_zero] at x0
      have HX := Lib.hid hx
      have HOK := Lib.hid hok
      obtain ⟨W5, hW5⟩ : ∃ W, w2.alloc (.cells #[.string (mkS x.path), .int .i64 (x.blocks : Int), .int .i64 (x.done : Int), .int .i64 x.last] ER) = W := ⟨_, rfl⟩
      have hB5 : Below w2.heap.size w2 W5 := by rw [← hW5]; exact (Below.refl _ _).alloc (Nat.le_refl _) _
      obtain ⟨bm, hbm⟩ : ∃ y, w2.heap.size = y := ⟨_, rfl⟩
      have hb5 : W5.heap[bm]? = some (.cells #[.string (mkS x.path), .int .i64 (x.blocks : Int), .int .i64 (x.done : Int), .int .i64 x.last] ER (0, 0)) := by rw [← hW5, ← hbm]; exact World.alloc_heap_new _ _
      have hs5 : W5.heap.size = bm + 1 := by rw [← hW5, ← hbm]; simp
      have z0 : W5.cell? ⟨bm, 0, none⟩ = some (.string (mkS x.path)) := by unfold World.cell?; rw [hb5]; simp
      have z1 : W5.cell? ⟨bm, 1, none⟩ = some (.int .i64 (x.blocks : Int)) := by unfold World.cell?; rw [hb5]; simp
      have z2 : W5.cell? ⟨bm, 2, none⟩ = some (.int .i64 (x.done : Int)) := by unfold World.cell?; rw [hb5]; simp
      have H5 := Lib.hid (And.intro hB5 (And.intro hb5 (And.intro hs5 hbm)))
      by_cases hstop : left = 0 ∧ x.done < x.blocks
      · have s1 : ((left : Int) == 0) = true := by rw [hstop.1]; rfl
        have s2 : decide ((x.done : Int) < (x.blocks : Int)) = true := decide_eq_true (by omega)
        have s3 : decide (x.done < x.blocks) = true := decide_eq_true hstop.2
        have s4 : decide (left = 0) = true := decide_eq_true hstop.1
        have HWL := Lib.hid (HP.out.stop hp HR2.out hW (by rw [hx]; exact hstop))
        have HB5 := Lib.hid (HB2.out.trans (hB5.mono HB2.out.size))
        obtain ⟨k0', k1', -, -⟩ := twoCells ((HB5.out.block bx (by omega)).trans hb0)
        obtain ⟨j0, j1, j2, j3⟩ := twoCells ((HB5.out.block (bx + 1) (by omega)).trans hb1)
        clear hb0 hb1 hO hR hp hM hW hBa hMn hsz hR2 hc hxm hok hx hB5 hb5 hs5 hstop
        go_wp2
        exact HE.out W5 HB5.out HWL.out _ rfl rfl rfl
      · have hst : (left = 0 ∧ x.done = x.blocks) ∨ 0 < left := by omega
        clear HE
        obtain ⟨W6, hW6⟩ : ∃ W, W5.alloc (.cells #[.string (mkS x.path), .int .i64 (x.done : Int), .int .i64 0, .bool e, .bool false] EWr) = W := ⟨_, rfl⟩
        have hB6 : Below W5.heap.size W5 W6 := by rw [← hW6]; exact (Below.refl _ _).alloc (Nat.le_refl _) _
        have hb6 : W6.heap[bm + 1]? = some (.cells #[.string (mkS x.path), .int .i64 (x.done : Int), .int .i64 0, .bool e, .bool false] EWr (0, 0)) := by rw [← hW6, ← hs5]; exact World.alloc_heap_new _ _
        have hs6 : W6.heap.size = bm + 2 := by rw [← hW6]; simp [hs5]
        have hb5' : W6.heap[bm]? = some (.cells #[.string (mkS x.path), .int .i64 (x.blocks : Int), .int .i64 (x.done : Int), .int .i64 x.last] ER (0, 0)) := (hB6.block bm (by omega)).trans hb5
        have H6 := Lib.hid (And.intro hB6 (And.intro hb6 (And.intro hb5' hs6)))
        have HST := Lib.hid hstop
        rcases hst with ⟨g1, g2⟩ | g1
        · have s1 : ((left : Int) == 0) = true := by rw [g1]; rfl
          have s3 : decide (x.done < x.blocks) = false := decide_eq_false (by omega)
          have s2 : decide ((x.done : Int) < (x.blocks : Int)) = false := decide_eq_false (by omega)
          have s4 : decide (left = 0) = true := decide_eq_true g1
          have HG12 := Lib.hid (And.intro g1 g2)
          clear g1 g2
          clear hb0 hb1 hO hR hp hM hW hBa hMn hsz hR2 hc hxm hok hx hB5 hb5 hs5 hstop hB6 hb6 hs6 hb5'
          have HW6 := Lib.hid hW6
          have HS5 := Lib.hid (show W5.heap.size = bm + 1 from H5.out.2.2.1)
          clear hW6
          go_wp2_with fail
          rw [HW6.out, HS5.out]
          obtain ⟨D, hD⟩ : ∃ D, min left (x.blocks - x.done) = D := ⟨_, rfl⟩
          have hb3 := HOK.out.2.2
          have hb2 := HOK.out.2.1
          have HD := Lib.hid hD
          go_loopw [2] (fun v2 wr => ∃ t : Nat, t ≤ D ∧ v2 = .int .i64 ((left - t : Nat) : Int) ∧ wr.heap[bm]? = some (.cells #[.string (mkS x.path), .int .i64 (x.blocks : Int), .int .i64 ((x.done + t : Nat) : Int), .int .i64 x.last] ER (0, 0)) ∧ KpF (fun g => g = bm) W6 wr) (fun v2 _ => (intOf v2).toNat)
          case atStart => exact ⟨0, Nat.zero_le _, rfl, H6.out.2.2.1, KpF.refl _ _⟩
          case round =>
            rename World => wb
            obtain ⟨t, ht, rfl, hbb, hKb⟩ := hrel
            have HBB := Lib.hid (And.intro hbb hKb)
            obtain ⟨L, hL2⟩ : ∃ L, left - t = L := ⟨_, rfl⟩
            obtain ⟨d, hd⟩ : ∃ d, x.done + t = d := ⟨_, rfl⟩
            rw [hL2]
            rw [hd] at hbb
            have q1 : wb.cell? ⟨bm, 1, none⟩ = some (.int .i64 (x.blocks : Int)) := by unfold World.cell?; rw [hbb]; simp
            have q2 : wb.cell? ⟨bm, 2, none⟩ = some (.int .i64 (d : Int)) := by unfold World.cell?; rw [hbb]; simp
            have q3 : wb.frozen? ⟨bm, 2, none⟩ = false := by unfold World.frozen?; rw [hbb]; simp
            have HLd := Lib.hid (And.intro hL2 hd)
            by_cases hgo : 0 < L ∧ d < x.blocks
            · have r1 : decide (0 < L) = true := decide_eq_true hgo.1
              have r1' : decide ((0 : Int) < (L : Int)) = true := decide_eq_true (by omega)
              have r2 : decide (d < x.blocks) = true := decide_eq_true hgo.2
              have r2' : decide ((d : Int) < (x.blocks : Int)) = true := decide_eq_true (by omega)
              have hw1 : IntKind.i64.wrap ((d : Int) + 1) = ((d + 1 : Nat) : Int) := by rw [IntKind.wrap_i64]; omega
              have hw2 : IntKind.i64.wrap ((L : Int) - 1) = ((L - 1 : Nat) : Int) := by rw [IntKind.wrap_i64]; omega
              have HT := Lib.hid (show t + 1 ≤ D ∧ L - 1 = left - (t + 1) ∧ d + 1 = x.done + (t + 1) ∧ 0 < L by omega)
              have HN := Lib.hid (shSet2 (v := .int .i64 ((d + 1 : Nat) : Int)) hbb)
              clear hbb hKb hL2 hd ht hgo
              go_wp2
              refine ⟨⟨t + 1, HT.out.1, by rw [← HT.out.2.1], by rw [← HT.out.2.2.1]; exact HN.out, HBB.out.2.trans (KpF.setCell wb _ _ rfl)⟩, by have h1 := HT.out; simp [intOf]; omega⟩
            · have HT := Lib.hid (show t = D by omega)
              have hL0 : L = 0 := by have := HLd.out.1; have := HG12.out; omega
              have r1 : decide (0 < L) = false := decide_eq_false (by omega)
              have r1' : decide ((0 : Int) < (L : Int)) = false := decide_eq_false (by omega)
              clear hL0
              have hfin : d = x.blocks := by have := HG12.out; have := HD.out; have := HT.out; omega
              have zf : ((d : Int) == (x.blocks : Int)) = true := by simp; omega
              have hdD : x.done + D = d := by have := HT.out; omega
              have hLD : left - D = L := by have := HT.out; omega
              have hKD := HBB.out.2
              have hsw := H6.out.2.2.2
              have hbm := H5.out.2.2.2
              have hlw := HS.out.2.2.2.2.2.2.2.2.2
              have hw2s := HB2.out.size
              have h25 := HB2.out.trans (H5.out.1.mono HB2.out.size)
              have h26 := h25.trans (H6.out.1.mono h25.size)
              have hBwb := h26.trans (hKD.below (N := wa.heap.size) (fun k hk => by have hk : k = bm := hk; omega) h26.size)
              have bnb : wb.heap[bm + 1]? = some (.cells #[.string (mkS x.path), .int .i64 (x.done : Int), .int .i64 0, .bool e, .bool false] EWr (0, 0)) := (hKD.block (bm + 1) (by omega) (fun h => by have h : bm + 1 = bm := h; omega)).trans H6.out.2.1
              obtain ⟨W7, hW7⟩ : ∃ W, wb.setCell ⟨bm + 1, 2, none⟩ (.int .i64 (d : Int)) = W := ⟨_, rfl⟩
              obtain ⟨W8, hW8⟩ : ∃ W, W7.setCell ⟨bm + 1, 4, none⟩ (.bool true) = W := ⟨_, rfl⟩
              have bm7 : W7.heap[bm]? = some (.cells #[.string (mkS x.path), .int .i64 (x.blocks : Int), .int .i64 (d : Int), .int .i64 x.last] ER (0, 0)) := by rw [← hW7, setOff14 (by omega)]; exact hbb
              have bn7 : W7.heap[bm + 1]? = some (.cells #[.string (mkS x.path), .int .i64 (x.done : Int), .int .i64 (d : Int), .bool e, .bool false] EWr (0, 0)) := by rw [← hW7]; exact setAt14 bnb
              have bm8 : W8.heap[bm]? = some (.cells #[.string (mkS x.path), .int .i64 (x.blocks : Int), .int .i64 (d : Int), .int .i64 x.last] ER (0, 0)) := by rw [← hW8, setOff14 (by omega)]; exact bm7
              have bn8 : W8.heap[bm + 1]? = some (.cells #[.string (mkS x.path), .int .i64 (x.done : Int), .int .i64 (d : Int), .bool e, .bool true] EWr (0, 0)) := by rw [← hW8]; exact setAt14 bn7
              have bx8 : W8.heap[bx]? = some (.cells #[.slice (some ⟨gc, go, none⟩) n cap, .int .i64 (c : Int)] TL14 (0, 0)) := by
                rw [← hW8, setOff14 (by omega), ← hW7, setOff14 (by omega)]
                exact (hBwb.block bx (by omega)).trans HS.out.1
              have k8 : KpF (fun k => k = bm ∨ k = bm + 1) wb W8 := by
                rw [← hW8, ← hW7]
                exact (KpF.setCell (S := fun k => k = bm ∨ k = bm + 1) wb ⟨bm + 1, 2, none⟩ _ (.inr rfl)).trans (KpF.setCell (S := fun k => k = bm ∨ k = bm + 1) _ ⟨bm + 1, 4, none⟩ _ (.inr rfl))
              obtain ⟨-, -, n2, -, -, nz⟩ := five14 bnb
              have nz2 := nz 2
              obtain ⟨-, a71, a72, -, -⟩ := four14 bm7
              obtain ⟨-, -, -, -, a74, nz7⟩ := five14 bn7
              have nz74 := nz7 4
              obtain ⟨-, -, -, -, a84', -⟩ := five14 bn8
              clear nz nz7
              obtain ⟨W9, hW9⟩ : ∃ W, W8.setCell ⟨bm, 2, none⟩ (.int .i64 0) = W := ⟨_, rfl⟩
              obtain ⟨Wf, hWf⟩ : ∃ W, W9.setCell ⟨bm, 3, none⟩ (.int .i64 (c : Int)) = W := ⟨_, rfl⟩
              have bm9 : W9.heap[bm]? = some (.cells #[.string (mkS x.path), .int .i64 (x.blocks : Int), .int .i64 0, .int .i64 x.last] ER (0, 0)) := by rw [← hW9]; exact setAt14 bm8
              have bmf : Wf.heap[bm]? = some (.cells #[.string (mkS x.path), .int .i64 (x.blocks : Int), .int .i64 (((stepR c x D).done : Nat) : Int), .int .i64 (stepR c x D).last] ER (0, 0)) := by
                rw [← hWf, show stepR c x D = { x with done := 0, last := (c : Int) } from by unfold stepR; rw [hdD, if_pos hfin]]
                exact setAt14 bm9
              have bnf : Wf.heap[bm + 1]? = some (.cells #[.string (mkS x.path), .int .i64 (x.done : Int), .int .i64 (d : Int), .bool e, .bool true] EWr (0, 0)) := by
                rw [← hWf, setOff14 (by omega), ← hW9, setOff14 (by omega)]; exact bn8
              have kf : KpF (fun k => k = bm ∨ k = bm + 1) W8 Wf := by
                rw [← hWf, ← hW9]
                exact (KpF.setCell (S := fun k => k = bm ∨ k = bm + 1) W8 ⟨bm, 2, none⟩ _ (.inl rfl)).trans (KpF.setCell (S := fun k => k = bm ∨ k = bm + 1) _ ⟨bm, 3, none⟩ _ (.inl rfl))
              have bx9 : W9.heap[bx]? = some (.cells #[.slice (some ⟨gc, go, none⟩) n cap, .int .i64 (c : Int)] TL14 (0, 0)) := by rw [← hW9, setOff14 (by omega)]; exact bx8
              obtain ⟨-, a84, -, -⟩ := twoCells bx9
              obtain ⟨-, -, m8, -, m8z⟩ := four14 bm8
              have m8z2 := m8z 2
              obtain ⟨-, -, -, m9, m9z⟩ := four14 bm9
              have m9z3 := m9z 3
              clear m8z m9z bm9 bx9
              have bxf : Wf.heap[bx]? = some (.cells #[.slice (some ⟨gc, go, none⟩) n cap, .int .i64 (c : Int)] TL14 (0, 0)) := (kf.block bx (Array.getElem?_eq_some_iff.1 bx8).1 (fun h => by rcases h with h | h <;> omega)).trans bx8
              have hBf := hBwb.trans ((k8.trans kf).below (N := wa.heap.size) (fun k hk => by rcases hk with h | h <;> omega) hBwb.size)
              have hszf : bm + 1 < Wf.heap.size := (Array.getElem?_eq_some_iff.1 bnf).1
              obtain ⟨W11, hW11⟩ : ∃ W, Wf.alloc (.cells #[] ER) = W := ⟨_, rfl⟩
              have hB11 : Below Wf.heap.size Wf W11 := by rw [← hW11]; exact (Below.refl _ _).alloc (Nat.le_refl _) _
              have hO11 := own_empty (E := ER) (k := 4) Wf Wf.heap.size (Nat.le_refl _)
              rw [hW11] at hO11
              have bx11 := (hB11.block bx (by omega)).trans bxf
              have hr11 := HS.out.2.2.2.1 W11 (KpF.of_new (hBf.trans (hB11.mono hBf.size)))
              obtain ⟨b110, -, -, -⟩ := twoCells bx11
              have H11 := Lib.hid (And.intro hO11 (And.intro hB11 (And.intro hr11 (And.intro hszf (And.intro hBf (And.intro bx11 (And.intro bmf bnf)))))))
              have HDD := Lib.hid (And.intro hdD (And.intro hLD (And.intro hfin (And.intro hsw (And.intro hbm (And.intro hlw hw2s))))))
              have HPOS := Lib.hid (show 0 < n ∧ n ≤ 1000000 by have h1 := HS.out.2.2.2.2.2.2.2.2.1; omega)
              clear hdD hLD hKD hsw hbm hlw hw2s h25 h26 hBwb bnb bm7 bn7 bm8 bn8 bx8 k8 bxf hBf hszf hB11 hO11 bx11 hr11 bmf bnf kf hfin
              go_wp2_with (first | (at_builtin; refine wpl_appendK elR14 W11 rfl (.tmp 74) (.tmp 76) rfl Wf.heap.size (n := 0) (v := .slice (some ⟨Wf.heap.size, 0, none⟩) 0 0) (cs := []) rfl H11.out.1 (some ⟨gc, go, none⟩) n cap (rfsC M) (by rw [rfsC_len, H11.out.2.2.1.1]) rfl H11.out.2.2.1.2.1 (fun e => by cases e) (rfsC_oneCell _) (by have := HPOS.out; omega) H11.out.2.1.size ?_; rintro v12 w12 hO12 hg12 -; rw [List.nil_append, Nat.zero_add] at hO12; generalize hG : wpList _ _ _ _ _ _ = G) | (refine (id ?_ : wpList _ _ _ (⟨some 84, _, _, _, _, _⟩ :: _) _ _); generalize hG : wpList _ _ _ (_ :: _) _ _ = G))
              rw [← hG]
              clear hG
              obtain ⟨g, k12, rfl, hg0, hg1, hg2, hgl, hgc, hgf⟩ := own_full14 hO12 HPOS.out.1
              have hb12 : Below Wf.heap.size W11 w12 := (Below.refl Wf.heap.size W11).grown hg12 H11.out.2.1.size (fun k hk => (H11.out.1.lt k hk).1)
              have hlt := H11.out.2.2.2.1
              have hbx := HDD.out.2.2.2.2
              have bx12 := (hb12.block bx (by omega)).trans H11.out.2.2.2.2.2.1
              have bm12 := (hb12.block bm (by omega)).trans ((H11.out.2.1.block bm (by omega)).trans H11.out.2.2.2.2.2.2.1)
              have bn12 := (hb12.block (bm + 1) (by omega)).trans ((H11.out.2.1.block (bm + 1) (by omega)).trans H11.out.2.2.2.2.2.2.2)
              obtain ⟨z0, -, z2, -⟩ := twoCells bx12
              obtain ⟨W13, hW13⟩ : ∃ W, w12.setCell ⟨bx, 0, none⟩ (.slice (some ⟨g, 0, none⟩) n k12) = W := ⟨_, rfl⟩
              have bx13 : W13.heap[bx]? = some (.cells #[.slice (some ⟨g, 0, none⟩) n k12, .int .i64 (c : Int)] TL14 (0, 0)) := by rw [← hW13]; exact setAt14 bx12
              have bm13 := bm12
              rw [← setOff14 (w := w12) (b := bx) (j := 0) (v := .slice (some ⟨g, 0, none⟩) n k12) (show bm ≠ bx by omega), hW13] at bm13
              have bn13 := bn12
              rw [← setOff14 (w := w12) (b := bx) (j := 0) (v := .slice (some ⟨g, 0, none⟩) n k12) (show bm + 1 ≠ bx by omega), hW13] at bn13
              have g13 : W13.heap[g]? = w12.heap[g]? := by rw [← hW13]; exact setOff14 (by omega)
              have hl13 := hgl.keepB g13
              have hcc : ∀ j, j < 4 → W13.cell? ⟨g, i * 4 + j, none⟩ = (rfC x)[j]? := fun j hj => by
                have h1 := hgc (i * 4 + j) (by rw [rfsC_len, H11.out.2.2.1.1]; omega)
                rw [rfsC_get M i j (by have := H11.out.2.2.1.1; omega) hj, HX.out] at h1
                rw [← h1]
                unfold World.cell?
                rw [g13]
              have cc0 : W13.cell? ⟨g, i * 4, none⟩ = some (.string (mkS x.path)) := hcc 0 (by decide)
              have cc1 : W13.cell? ⟨g, i * 4 + 1, none⟩ = some (.int .i64 (x.blocks : Int)) := hcc 1 (by decide)
              have cc2 : W13.cell? ⟨g, i * 4 + 2, none⟩ = some (.int .i64 (x.done : Int)) := hcc 2 (by decide)
              have cc3 : W13.cell? ⟨g, i * 4 + 3, none⟩ = some (.int .i64 x.last) := hcc 3 (by decide)
              have hff : ∀ j, W13.frozen? ⟨g, j, none⟩ = false := fun j => by
                have h1 := hgf j
                unfold World.frozen? at h1 ⊢
                rw [g13]
                exact h1
              have ff0 := hff (i * 4)
              have ff1 := hff (i * 4 + 1)
              have ff2 := hff (i * 4 + 2)
              have ff3 := hff (i * 4 + 3)
              obtain ⟨b130, -, -, -⟩ := twoCells bx13
              obtain ⟨m130, m131, m132, m133, -⟩ := four14 bm13
              have y0 : (0 : Int) ≤ (i : Int) := by omega
              have y1 : (i : Int) < (n : Int) := by omega
              obtain ⟨sd, hsd⟩ : ∃ sd, (stepR c x D).done = sd := ⟨_, rfl⟩
              obtain ⟨sl, hsl⟩ : ∃ sl, (stepR c x D).last = sl := ⟨_, rfl⟩
              rw [hsd] at m132
              rw [hsl] at m133
              obtain ⟨W17, hW17⟩ : ∃ W, (((W13.setCell ⟨g, i * 4, none⟩ (.string (mkS x.path))).setCell ⟨g, i * 4 + 1, none⟩ (.int .i64 (x.blocks : Int))).setCell ⟨g, i * 4 + 2, none⟩ (.int .i64 (sd : Int))).setCell ⟨g, i * 4 + 3, none⟩ (.int .i64 sl) = W := ⟨_, rfl⟩
              have HW17 := Lib.hid hW17
              have H12 := Lib.hid (And.intro hg0 (And.intro hg1 (And.intro hg2 (And.intro hl13 (And.intro bx13 (And.intro bn13 (And.intro hb12 (And.intro hsd hsl))))))))
              have HW13 := Lib.hid hW13
              clear hO12 hg12 hb12 bx12 bm12 bn12 bx13 bm13 bn13 g13 hl13 hcc hff hsd hsl hgl hgc hgf hg0 hg1 hg2 hlt hbx hW17
              go_wp2_with (first | (refine (id ?_ : wpList _ _ _ (⟨some 85, _, _, _, _, _⟩ :: _) _ _); generalize hG : wpList _ _ _ (_ :: _) _ _ = G))
              rw [← hG]
              clear hG
              rw [HW17.out]
              have hlt := H11.out.2.2.2.1
              have hk17 : KpF (fun k => k = g) W13 W17 := by rw [← HW17.out]; exact kp4 _ _ _ _ _ _ _ _ _ _
              have hs13 : w12.heap.size = W13.heap.size := by rw [← HW13.out]; simp
              have hg0 := H12.out.1
              have hg1 := H12.out.2.1
              have hgn : bm + 1 < g := by omega
              have bn17 := (hk17.block (bm + 1) (by have := H12.out.2.2.2.2.2.2.1.size; have := H11.out.2.1.size; omega) (fun h => by have h : bm + 1 = g := h; omega)).trans H12.out.2.2.2.2.2.1
              obtain ⟨p0, p1, p2, p3, p4, -⟩ := five14 bn17
              have HK17 := Lib.hid (And.intro hk17 (And.intro hs13 (And.intro hgn hlt)))
              clear cc0 cc1 cc2 cc3 ff0 ff1 ff2 ff3 b130 m130 m131 m132 m133 z0 z2 hk17 hs13 hg0 hg1 hgn bn17 hW13 hlt
              go_wp2_with (first | (refine (id ?_ : wpList _ _ _ (⟨some 87, _, _, _, _, _⟩ :: _) _ _); generalize hG : wpList _ _ _ (_ :: _) _ _ = G))
              rw [← hG]
              clear hG
              obtain ⟨W18, hW18⟩ : ∃ W, W17.alloc (.cells #[.string (mkS x.path), .int .i64 (x.done : Int), .int .i64 (d : Int), .bool e, .bool true] EWr) = W := ⟨_, rfl⟩
              rw [hW18]
              have HW18 := Lib.hid hW18
              have hB18 : Below W17.heap.size W17 W18 := by rw [← hW18]; exact (Below.refl _ _).alloc (Nat.le_refl _) _
              have hls18 : LsC W18 (some ⟨W17.heap.size, 0, none⟩) [.string (mkS x.path), .int .i64 (x.done : Int), .int .i64 (d : Int), .bool e, .bool true] := by rw [← hW18]; exact LsC.made W17 _ EWr
              have hs1 := H11.out.2.1.size
              have hs2 := H12.out.2.2.2.2.2.2.1.size
              have hs3 := HK17.out.1.size
              have hs4 := hB18.size
              have hs5 := HK17.out.2.1
              have hg0 := H12.out.1
              have hbx := HDD.out.2.2.2
              have hwaf := H11.out.2.2.2.2.1.size
              have hk18 : ∀ k, k < wa.heap.size → k ≠ bx → W18.heap[k]? = wa.heap[k]? := fun k hk hne => by
                rw [hB18.block k (by have := HK17.out.2.1; omega), HK17.out.1.block k (by have := HK17.out.2.1; omega) (fun h => by have h : k = g := h; omega), ← HW13.out, setOff14 hne, H12.out.2.2.2.2.2.2.1.block k (by omega), H11.out.2.1.block k (by omega), H11.out.2.2.2.2.1.block k (by omega)]
              have hbase := HS.out.2.2.1
              have hO18 : W18.ownsRow W1.heap.size EWr 5 (.slice pv out.length cv) out.length (wksC out) := own_keep hbase fun k hk => hk18 k (hbase.lt k hk).2 (fun h => by have := (hbase.lt k hk).1; have := HSZ.out.2; omega)
              have hlen := HS.out.2.2.2.2.2.2.1.out_le
              clear hW18 p0 p1 p2 p3 p4
              refine wpl_appendK elWr14 W18 rfl (.tmp 84) (.tmp 86) rfl W1.heap.size (n := out.length) (v := .slice pv out.length cv) (cs := wksC out) rfl hO18 (some ⟨W17.heap.size, 0, none⟩) 1 1 [.string (mkS x.path), .int .i64 (x.done : Int), .int .i64 (d : Int), .bool e, .bool true] rfl rfl hls18 (fun h => by cases h) (fun u hu => by simp at hu; rcases hu with rfl | rfl | rfl | rfl | rfl <;> rfl) (by omega) (by have := HSZ.out.2; have := HK17.out.2.1; omega) ?_
              rintro v19 w19 hO19 hg19 hor19
              have hwkc : wksC out ++ [.string (mkS x.path), .int .i64 (x.done : Int), .int .i64 (d : Int), .bool e, .bool true] = wksC (out ++ [stepW e x D]) := by
                rw [wksC_app, wksC_one]
                unfold stepW wkC
                rw [HDD.out.1, decide_eq_true HDD.out.2.2.1]
              rw [hwkc, show out.length + 1 = (out ++ [stepW e x D]).length by simp] at hO19
              have hRD := LaneP.round HP.out HS.out.2.2.2.2.2.1 HS.out.2.2.2.2.1 HR2.out HS.out.2.2.2.2.2.2.1 (by rw [HX.out]; exact HST.out)
              rw [HX.out, HD.out, HDD.out.2.1] at hRD
              obtain ⟨rest', fin', hP', hM', hW'⟩ := hRD
              obtain ⟨pv', cv', ev', -⟩ := own_shape hO19
              have hgl19 : LsC w19 (some ⟨g, 0, none⟩) (rfsC (M.set i (stepR c x D))) := by
                have h1 := LsC.set4 H12.out.2.2.2.1 (i := i) (by have := H11.out.2.2.1.1; omega) (stepR c x D)
                simp only [Nat.zero_add] at h1
                rw [H12.out.2.2.2.2.2.2.2.1, H12.out.2.2.2.2.2.2.2.2, stepR_path, stepR_blocks, HW17.out] at h1
                refine (h1.of_below hB18).keepB (hg19.block g (by have := HK17.out.2.1; have := H12.out.2.1; omega) (fun h => ?_))
                have h2 := (hbase.lt g h.symm).2
                have := HK17.out.2.1
                omega
              have hbb19 : ∀ k, k < W18.heap.size → (Value.slice pv out.length cv).ownBlock ≠ some k → w19.heap[k]? = W18.heap[k]? := fun k hk hne => hg19.block k hk (fun h => hne h.symm)
              have hRI : RlaI S0 W1 e c n bx L0 P Q (.int .i64 (L : Int)) v19 w19 := by
                refine ⟨some ⟨g, 0, none⟩, k12, M.set i (stepR c x D), L, out ++ [stepW e x D], rest', fin', rfl, by have := HLd.out.1; omega, ?_, ?_, hO19, ?_, hP', hM', hW', ?_⟩
                · rw [hbb19 bx (by omega) (fun h => by have := (hbase.lt bx h).1; have := HSZ.out.2; omega), hB18.block bx (by have := HK17.out.2.1; omega), HK17.out.1.block bx (by have := HK17.out.2.1; omega) (fun h => by have h : bx = g := h; omega)]
                  exact H12.out.2.2.2.2.1
                · rw [hbb19 (bx + 1) (by omega) (fun h => by have := (hbase.lt (bx + 1) h).1; have := HSZ.out.2; omega), hk18 (bx + 1) (by omega) (by omega)]
                  exact HS.out.2.1
                · intro z hz
                  have hgz : z.heap[g]? = w19.heap[g]? := hz.block g (by have := hg19.size; have := HK17.out.2.1; have := H12.out.2.1; omega) (fun h => by
                    rcases h with h | h | h | h
                    rotate_right 1
                    · have := HS0.out g h; have := HSZ.out.1; omega
                    · omega
                    · omega
                    · rcases hor19 with h3 | h3
                      · rw [h3] at h
                        have := (hbase.lt g h).2
                        omega
                      · rw [h3] at h
                        injection h with h
                        have := HK17.out.2.1
                        have := H12.out.2.1
                        omega)
                  refine ⟨by rw [List.length_set]; exact H11.out.2.2.1.1, hgl19.keepB hgz, (fun h => by cases h), H12.out.2.2.1⟩
                · have hBa := HS.out.2.2.2.2.2.2.2.1
                  refine hBa.trans ?_
                  have h1 := H11.out.2.2.2.2.1.mono (show bx ≤ wa.heap.size by omega)
                  have h2 := h1.trans (H11.out.2.1.mono (by omega))
                  have h3 := h2.trans (H12.out.2.2.2.2.2.2.1.mono (by omega))
                  have h4 : Below bx wa W13 := by rw [← HW13.out]; exact h3.trans ((KpF.setCell (S := fun k => k = bx) w12 ⟨bx, 0, none⟩ _ rfl).below (fun k hk => by have hk : k = bx := hk; omega) (by omega))
                  have h5 := h4.trans (HK17.out.1.below (fun k hk => by have hk : k = g := hk; omega) (by have := HK17.out.2.1; omega))
                  have h6 := h5.trans (hB18.mono (by have := HK17.out.2.1; omega))
                  exact h6.grown hg19 (by omega) (fun k hk => by have := (hbase.lt k hk).1; have := HSZ.out.2; omega)
              have hMS : Q.length - lenS v19 < Q.length - lenS (.slice pv out.length cv) := by
                rw [ev']
                have h1 := hW'.out_le
                simp only [List.length_append, List.length_singleton] at h1 ⊢
                show Q.length - (out.length + 1) < Q.length - out.length
                omega
              have HRI := Lib.hid (And.intro hRI hMS)
              clear hRI hMS hbb19 hgl19 ev' hP' hM' hW' hwkc hO19 hg19 hor19 hlen hO18 hk18 hbase hls18 hB18 hs1 hs2 hs3 hs4 hs5 hg0 hbx hwaf
              go_wp2
              exact HRI.out
        · have s1 : ((left : Int) == 0) = false := by simp; omega
          clear hb0 hb1 hO hR hp hM hW hBa hMn hsz hR2 hc hxm hok hx hB5 hb5 hs5 hstop hB6 hb6 hs6 hb5'
          have HW6 := Lib.hid hW6
          have HS5 := Lib.hid (show W5.heap.size = bm + 1 from H5.out.2.2.1)
          clear hW6
          go_wp2_with fail
          rw [HW6.out, HS5.out]
          obtain ⟨D, hD⟩ : ∃ D, min left (x.blocks - x.done) = D := ⟨_, rfl⟩
          have hb3 := HOK.out.2.2
          have hb2 := HOK.out.2.1
          have HD := Lib.hid hD
          go_loopw [2] (fun v2 wr => ∃ t : Nat, t ≤ D ∧ v2 = .int .i64 ((left - t : Nat) : Int) ∧ wr.heap[bm]? = some (.cells #[.string (mkS x.path), .int .i64 (x.blocks : Int), .int .i64 ((x.done + t : Nat) : Int), .int .i64 x.last] ER (0, 0)) ∧ KpF (fun g => g = bm) W6 wr) (fun v2 _ => (intOf v2).toNat)
          case atStart => exact ⟨0, Nat.zero_le _, rfl, H6.out.2.2.1, KpF.refl _ _⟩
          case round =>
            rename World => wb
            obtain ⟨t, ht, rfl, hbb, hKb⟩ := hrel
            have HBB := Lib.hid (And.intro hbb hKb)
            obtain ⟨L, hL2⟩ : ∃ L, left - t = L := ⟨_, rfl⟩
            obtain ⟨d, hd⟩ : ∃ d, x.done + t = d := ⟨_, rfl⟩
            rw [hL2]
            rw [hd] at hbb
            have q1 : wb.cell? ⟨bm, 1, none⟩ = some (.int .i64 (x.blocks : Int)) := by unfold World.cell?; rw [hbb]; simp
            have q2 : wb.cell? ⟨bm, 2, none⟩ = some (.int .i64 (d : Int)) := by unfold World.cell?; rw [hbb]; simp
            have q3 : wb.frozen? ⟨bm, 2, none⟩ = false := by unfold World.frozen?; rw [hbb]; simp
            have HLd := Lib.hid (And.intro hL2 hd)
            by_cases hgo : 0 < L ∧ d < x.blocks
            · have r1 : decide (0 < L) = true := decide_eq_true hgo.1
              have r1' : decide ((0 : Int) < (L : Int)) = true := decide_eq_true (by omega)
              have r2 : decide (d < x.blocks) = true := decide_eq_true hgo.2
              have r2' : decide ((d : Int) < (x.blocks : Int)) = true := decide_eq_true (by omega)
              have hw1 : IntKind.i64.wrap ((d : Int) + 1) = ((d + 1 : Nat) : Int) := by rw [IntKind.wrap_i64]; omega
              have hw2 : IntKind.i64.wrap ((L : Int) - 1) = ((L - 1 : Nat) : Int) := by rw [IntKind.wrap_i64]; omega
              have HT := Lib.hid (show t + 1 ≤ D ∧ L - 1 = left - (t + 1) ∧ d + 1 = x.done + (t + 1) ∧ 0 < L by omega)
              have HN := Lib.hid (shSet2 (v := .int .i64 ((d + 1 : Nat) : Int)) hbb)
              clear hbb hKb hL2 hd ht hgo
              go_wp2
              refine ⟨⟨t + 1, HT.out.1, by rw [← HT.out.2.1], by rw [← HT.out.2.2.1]; exact HN.out, HBB.out.2.trans (KpF.setCell wb _ _ rfl)⟩, by have h1 := HT.out; simp [intOf]; omega⟩
            · have HT := Lib.hid (show t = D by omega)
              by_cases hL0 : L = 0
              · have r1 : decide (0 < L) = false := decide_eq_false (by omega)
                have r1' : decide ((0 : Int) < (L : Int)) = false := decide_eq_false (by omega)
                clear hL0
                by_cases hfin : d = x.blocks
                · have zf : ((d : Int) == (x.blocks : Int)) = true := by simp; omega
                  have hdD : x.done + D = d := by have := HT.out; omega
                  have hLD : left - D = L := by have := HT.out; omega
                  have hKD := HBB.out.2
                  have hsw := H6.out.2.2.2
                  have hbm := H5.out.2.2.2
                  have hlw := HS.out.2.2.2.2.2.2.2.2.2
                  have hw2s := HB2.out.size
                  have h25 := HB2.out.trans (H5.out.1.mono HB2.out.size)
                  have h26 := h25.trans (H6.out.1.mono h25.size)
                  have hBwb := h26.trans (hKD.below (N := wa.heap.size) (fun k hk => by have hk : k = bm := hk; omega) h26.size)
                  have bnb : wb.heap[bm + 1]? = some (.cells #[.string (mkS x.path), .int .i64 (x.done : Int), .int .i64 0, .bool e, .bool false] EWr (0, 0)) := (hKD.block (bm + 1) (by omega) (fun h => by have h : bm + 1 = bm := h; omega)).trans H6.out.2.1
                  obtain ⟨W7, hW7⟩ : ∃ W, wb.setCell ⟨bm + 1, 2, none⟩ (.int .i64 (d : Int)) = W := ⟨_, rfl⟩
                  obtain ⟨W8, hW8⟩ : ∃ W, W7.setCell ⟨bm + 1, 4, none⟩ (.bool true) = W := ⟨_, rfl⟩
                  have bm7 : W7.heap[bm]? = some (.cells #[.string (mkS x.path), .int .i64 (x.blocks : Int), .int .i64 (d : Int), .int .i64 x.last] ER (0, 0)) := by rw [← hW7, setOff14 (by omega)]; exact hbb
                  have bn7 : W7.heap[bm + 1]? = some (.cells #[.string (mkS x.path), .int .i64 (x.done : Int), .int .i64 (d : Int), .bool e, .bool false] EWr (0, 0)) := by rw [← hW7]; exact setAt14 bnb
                  have bm8 : W8.heap[bm]? = some (.cells #[.string (mkS x.path), .int .i64 (x.blocks : Int), .int .i64 (d : Int), .int .i64 x.last] ER (0, 0)) := by rw [← hW8, setOff14 (by omega)]; exact bm7
                  have bn8 : W8.heap[bm + 1]? = some (.cells #[.string (mkS x.path), .int .i64 (x.done : Int), .int .i64 (d : Int), .bool e, .bool true] EWr (0, 0)) := by rw [← hW8]; exact setAt14 bn7
                  have bx8 : W8.heap[bx]? = some (.cells #[.slice (some ⟨gc, go, none⟩) n cap, .int .i64 (c : Int)] TL14 (0, 0)) := by
                    rw [← hW8, setOff14 (by omega), ← hW7, setOff14 (by omega)]
                    exact (hBwb.block bx (by omega)).trans HS.out.1
                  have k8 : KpF (fun k => k = bm ∨ k = bm + 1) wb W8 := by
                    rw [← hW8, ← hW7]
                    exact (KpF.setCell (S := fun k => k = bm ∨ k = bm + 1) wb ⟨bm + 1, 2, none⟩ _ (.inr rfl)).trans (KpF.setCell (S := fun k => k = bm ∨ k = bm + 1) _ ⟨bm + 1, 4, none⟩ _ (.inr rfl))
                  obtain ⟨-, -, n2, -, -, nz⟩ := five14 bnb
                  have nz2 := nz 2
                  obtain ⟨-, a71, a72, -, -⟩ := four14 bm7
                  obtain ⟨-, -, -, -, a74, nz7⟩ := five14 bn7
                  have nz74 := nz7 4
                  obtain ⟨-, -, -, -, a84', -⟩ := five14 bn8
                  clear nz nz7
                  obtain ⟨W9, hW9⟩ : ∃ W, W8.setCell ⟨bm, 2, none⟩ (.int .i64 0) = W := ⟨_, rfl⟩
                  obtain ⟨Wf, hWf⟩ : ∃ W, W9.setCell ⟨bm, 3, none⟩ (.int .i64 (c : Int)) = W := ⟨_, rfl⟩
                  have bm9 : W9.heap[bm]? = some (.cells #[.string (mkS x.path), .int .i64 (x.blocks : Int), .int .i64 0, .int .i64 x.last] ER (0, 0)) := by rw [← hW9]; exact setAt14 bm8
                  have bmf : Wf.heap[bm]? = some (.cells #[.string (mkS x.path), .int .i64 (x.blocks : Int), .int .i64 (((stepR c x D).done : Nat) : Int), .int .i64 (stepR c x D).last] ER (0, 0)) := by
                    rw [← hWf, show stepR c x D = { x with done := 0, last := (c : Int) } from by unfold stepR; rw [hdD, if_pos hfin]]
                    exact setAt14 bm9
                  have bnf : Wf.heap[bm + 1]? = some (.cells #[.string (mkS x.path), .int .i64 (x.done : Int), .int .i64 (d : Int), .bool e, .bool true] EWr (0, 0)) := by
                    rw [← hWf, setOff14 (by omega), ← hW9, setOff14 (by omega)]; exact bn8
                  have kf : KpF (fun k => k = bm ∨ k = bm + 1) W8 Wf := by
                    rw [← hWf, ← hW9]
                    exact (KpF.setCell (S := fun k => k = bm ∨ k = bm + 1) W8 ⟨bm, 2, none⟩ _ (.inl rfl)).trans (KpF.setCell (S := fun k => k = bm ∨ k = bm + 1) _ ⟨bm, 3, none⟩ _ (.inl rfl))
                  have bx9 : W9.heap[bx]? = some (.cells #[.slice (some ⟨gc, go, none⟩) n cap, .int .i64 (c : Int)] TL14 (0, 0)) := by rw [← hW9, setOff14 (by omega)]; exact bx8
                  obtain ⟨-, a84, -, -⟩ := twoCells bx9
                  obtain ⟨-, -, m8, -, m8z⟩ := four14 bm8
                  have m8z2 := m8z 2
                  obtain ⟨-, -, -, m9, m9z⟩ := four14 bm9
                  have m9z3 := m9z 3
                  clear m8z m9z bm9 bx9
                  have bxf : Wf.heap[bx]? = some (.cells #[.slice (some ⟨gc, go, none⟩) n cap, .int .i64 (c : Int)] TL14 (0, 0)) := (kf.block bx (Array.getElem?_eq_some_iff.1 bx8).1 (fun h => by rcases h with h | h <;> omega)).trans bx8
                  have hBf := hBwb.trans ((k8.trans kf).below (N := wa.heap.size) (fun k hk => by rcases hk with h | h <;> omega) hBwb.size)
                  have hszf : bm + 1 < Wf.heap.size := (Array.getElem?_eq_some_iff.1 bnf).1
                  obtain ⟨W11, hW11⟩ : ∃ W, Wf.alloc (.cells #[] ER) = W := ⟨_, rfl⟩
                  have hB11 : Below Wf.heap.size Wf W11 := by rw [← hW11]; exact (Below.refl _ _).alloc (Nat.le_refl _) _
                  have hO11 := own_empty (E := ER) (k := 4) Wf Wf.heap.size (Nat.le_refl _)
                  rw [hW11] at hO11
                  have bx11 := (hB11.block bx (by omega)).trans bxf
                  have hr11 := HS.out.2.2.2.1 W11 (KpF.of_new (hBf.trans (hB11.mono hBf.size)))
                  obtain ⟨b110, -, -, -⟩ := twoCells bx11
                  have H11 := Lib.hid (And.intro hO11 (And.intro hB11 (And.intro hr11 (And.intro hszf (And.intro hBf (And.intro bx11 (And.intro bmf bnf)))))))
                  have HDD := Lib.hid (And.intro hdD (And.intro hLD (And.intro hfin (And.intro hsw (And.intro hbm (And.intro hlw hw2s))))))
                  have HPOS := Lib.hid (show 0 < n ∧ n ≤ 1000000 by have h1 := HS.out.2.2.2.2.2.2.2.2.1; omega)
                  clear hdD hLD hKD hsw hbm hlw hw2s h25 h26 hBwb bnb bm7 bn7 bm8 bn8 bx8 k8 bxf hBf hszf hB11 hO11 bx11 hr11 bmf bnf kf hfin
                  go_wp2_with (first | (at_builtin; refine wpl_appendK elR14 W11 rfl (.tmp 74) (.tmp 76) rfl Wf.heap.size (n := 0) (v := .slice (some ⟨Wf.heap.size, 0, none⟩) 0 0) (cs := []) rfl H11.out.1 (some ⟨gc, go, none⟩) n cap (rfsC M) (by rw [rfsC_len, H11.out.2.2.1.1]) rfl H11.out.2.2.1.2.1 (fun e => by cases e) (rfsC_oneCell _) (by have := HPOS.out; omega) H11.out.2.1.size ?_; rintro v12 w12 hO12 hg12 -; rw [List.nil_append, Nat.zero_add] at hO12; generalize hG : wpList _ _ _ _ _ _ = G) | (refine (id ?_ : wpList _ _ _ (⟨some 84, _, _, _, _, _⟩ :: _) _ _); generalize hG : wpList _ _ _ (_ :: _) _ _ = G))
                  rw [← hG]
                  clear hG
                  obtain ⟨g, k12, rfl, hg0, hg1, hg2, hgl, hgc, hgf⟩ := own_full14 hO12 HPOS.out.1
                  have hb12 : Below Wf.heap.size W11 w12 := (Below.refl Wf.heap.size W11).grown hg12 H11.out.2.1.size (fun k hk => (H11.out.1.lt k hk).1)
                  have hlt := H11.out.2.2.2.1
                  have hbx := HDD.out.2.2.2.2
                  have bx12 := (hb12.block bx (by omega)).trans H11.out.2.2.2.2.2.1
                  have bm12 := (hb12.block bm (by omega)).trans ((H11.out.2.1.block bm (by omega)).trans H11.out.2.2.2.2.2.2.1)
                  have bn12 := (hb12.block (bm + 1) (by omega)).trans ((H11.out.2.1.block (bm + 1) (by omega)).trans H11.out.2.2.2.2.2.2.2)
                  obtain ⟨z0, -, z2, -⟩ := twoCells bx12
                  obtain ⟨W13, hW13⟩ : ∃ W, w12.setCell ⟨bx, 0, none⟩ (.slice (some ⟨g, 0, none⟩) n k12) = W := ⟨_, rfl⟩
                  have bx13 : W13.heap[bx]? = some (.cells #[.slice (some ⟨g, 0, none⟩) n k12, .int .i64 (c : Int)] TL14 (0, 0)) := by rw [← hW13]; exact setAt14 bx12
                  have bm13 := bm12
                  rw [← setOff14 (w := w12) (b := bx) (j := 0) (v := .slice (some ⟨g, 0, none⟩) n k12) (show bm ≠ bx by omega), hW13] at bm13
                  have bn13 := bn12
                  rw [← setOff14 (w := w12) (b := bx) (j := 0) (v := .slice (some ⟨g, 0, none⟩) n k12) (show bm + 1 ≠ bx by omega), hW13] at bn13
                  have g13 : W13.heap[g]? = w12.heap[g]? := by rw [← hW13]; exact setOff14 (by omega)
                  have hl13 := hgl.keepB g13
                  have hcc : ∀ j, j < 4 → W13.cell? ⟨g, i * 4 + j, none⟩ = (rfC x)[j]? := fun j hj => by
                    have h1 := hgc (i * 4 + j) (by rw [rfsC_len, H11.out.2.2.1.1]; omega)
                    rw [rfsC_get M i j (by have := H11.out.2.2.1.1; omega) hj, HX.out] at h1
                    rw [← h1]
                    unfold World.cell?
                    rw [g13]
                  have cc0 : W13.cell? ⟨g, i * 4, none⟩ = some (.string (mkS x.path)) := hcc 0 (by decide)
                  have cc1 : W13.cell? ⟨g, i * 4 + 1, none⟩ = some (.int .i64 (x.blocks : Int)) := hcc 1 (by decide)
                  have cc2 : W13.cell? ⟨g, i * 4 + 2, none⟩ = some (.int .i64 (x.done : Int)) := hcc 2 (by decide)
                  have cc3 : W13.cell? ⟨g, i * 4 + 3, none⟩ = some (.int .i64 x.last) := hcc 3 (by decide)
                  have hff : ∀ j, W13.frozen? ⟨g, j, none⟩ = false := fun j => by
                    have h1 := hgf j
                    unfold World.frozen? at h1 ⊢
                    rw [g13]
                    exact h1
                  have ff0 := hff (i * 4)
                  have ff1 := hff (i * 4 + 1)
                  have ff2 := hff (i * 4 + 2)
                  have ff3 := hff (i * 4 + 3)
                  obtain ⟨b130, -, -, -⟩ := twoCells bx13
                  obtain ⟨m130, m131, m132, m133, -⟩ := four14 bm13
                  have y0 : (0 : Int) ≤ (i : Int) := by omega
                  have y1 : (i : Int) < (n : Int) := by omega
                  obtain ⟨sd, hsd⟩ : ∃ sd, (stepR c x D).done = sd := ⟨_, rfl⟩
                  obtain ⟨sl, hsl⟩ : ∃ sl, (stepR c x D).last = sl := ⟨_, rfl⟩
                  rw [hsd] at m132
                  rw [hsl] at m133
                  obtain ⟨W17, hW17⟩ : ∃ W, (((W13.setCell ⟨g, i * 4, none⟩ (.string (mkS x.path))).setCell ⟨g, i * 4 + 1, none⟩ (.int .i64 (x.blocks : Int))).setCell ⟨g, i * 4 + 2, none⟩ (.int .i64 (sd : Int))).setCell ⟨g, i * 4 + 3, none⟩ (.int .i64 sl) = W := ⟨_, rfl⟩
                  have HW17 := Lib.hid hW17
                  have H12 := Lib.hid (And.intro hg0 (And.intro hg1 (And.intro hg2 (And.intro hl13 (And.intro bx13 (And.intro bn13 (And.intro hb12 (And.intro hsd hsl))))))))
                  have HW13 := Lib.hid hW13
                  clear hO12 hg12 hb12 bx12 bm12 bn12 bx13 bm13 bn13 g13 hl13 hcc hff hsd hsl hgl hgc hgf hg0 hg1 hg2 hlt hbx hW17
                  go_wp2_with (first | (refine (id ?_ : wpList _ _ _ (⟨some 85, _, _, _, _, _⟩ :: _) _ _); generalize hG : wpList _ _ _ (_ :: _) _ _ = G))
                  rw [← hG]
                  clear hG
                  rw [HW17.out]
                  have hlt := H11.out.2.2.2.1
                  have hk17 : KpF (fun k => k = g) W13 W17 := by rw [← HW17.out]; exact kp4 _ _ _ _ _ _ _ _ _ _
                  have hs13 : w12.heap.size = W13.heap.size := by rw [← HW13.out]; simp
                  have hg0 := H12.out.1
                  have hg1 := H12.out.2.1
                  have hgn : bm + 1 < g := by omega
                  have bn17 := (hk17.block (bm + 1) (by have := H12.out.2.2.2.2.2.2.1.size; have := H11.out.2.1.size; omega) (fun h => by have h : bm + 1 = g := h; omega)).trans H12.out.2.2.2.2.2.1
                  obtain ⟨p0, p1, p2, p3, p4, -⟩ := five14 bn17
                  have HK17 := Lib.hid (And.intro hk17 (And.intro hs13 (And.intro hgn hlt)))
                  clear cc0 cc1 cc2 cc3 ff0 ff1 ff2 ff3 b130 m130 m131 m132 m133 z0 z2 hk17 hs13 hg0 hg1 hgn bn17 hW13 hlt
                  go_wp2_with (first | (refine (id ?_ : wpList _ _ _ (⟨some 87, _, _, _, _, _⟩ :: _) _ _); generalize hG : wpList _ _ _ (_ :: _) _ _ = G))
                  rw [← hG]
                  clear hG
                  obtain ⟨W18, hW18⟩ : ∃ W, W17.alloc (.cells #[.string (mkS x.path), .int .i64 (x.done : Int), .int .i64 (d : Int), .bool e, .bool true] EWr) = W := ⟨_, rfl⟩
                  rw [hW18]
                  have HW18 := Lib.hid hW18
                  have hB18 : Below W17.heap.size W17 W18 := by rw [← hW18]; exact (Below.refl _ _).alloc (Nat.le_refl _) _
                  have hls18 : LsC W18 (some ⟨W17.heap.size, 0, none⟩) [.string (mkS x.path), .int .i64 (x.done : Int), .int .i64 (d : Int), .bool e, .bool true] := by rw [← hW18]; exact LsC.made W17 _ EWr
                  have hs1 := H11.out.2.1.size
                  have hs2 := H12.out.2.2.2.2.2.2.1.size
                  have hs3 := HK17.out.1.size
                  have hs4 := hB18.size
                  have hs5 := HK17.out.2.1
                  have hg0 := H12.out.1
                  have hbx := HDD.out.2.2.2
                  have hwaf := H11.out.2.2.2.2.1.size
                  have hk18 : ∀ k, k < wa.heap.size → k ≠ bx → W18.heap[k]? = wa.heap[k]? := fun k hk hne => by
                    rw [hB18.block k (by have := HK17.out.2.1; omega), HK17.out.1.block k (by have := HK17.out.2.1; omega) (fun h => by have h : k = g := h; omega), ← HW13.out, setOff14 hne, H12.out.2.2.2.2.2.2.1.block k (by omega), H11.out.2.1.block k (by omega), H11.out.2.2.2.2.1.block k (by omega)]
                  have hbase := HS.out.2.2.1
                  have hO18 : W18.ownsRow W1.heap.size EWr 5 (.slice pv out.length cv) out.length (wksC out) := own_keep hbase fun k hk => hk18 k (hbase.lt k hk).2 (fun h => by have := (hbase.lt k hk).1; have := HSZ.out.2; omega)
                  have hlen := HS.out.2.2.2.2.2.2.1.out_le
                  clear hW18 p0 p1 p2 p3 p4
                  refine wpl_appendK elWr14 W18 rfl (.tmp 84) (.tmp 86) rfl W1.heap.size (n := out.length) (v := .slice pv out.length cv) (cs := wksC out) rfl hO18 (some ⟨W17.heap.size, 0, none⟩) 1 1 [.string (mkS x.path), .int .i64 (x.done : Int), .int .i64 (d : Int), .bool e, .bool true] rfl rfl hls18 (fun h => by cases h) (fun u hu => by simp at hu; rcases hu with rfl | rfl | rfl | rfl | rfl <;> rfl) (by omega) (by have := HSZ.out.2; have := HK17.out.2.1; omega) ?_
                  rintro v19 w19 hO19 hg19 hor19
                  have hwkc : wksC out ++ [.string (mkS x.path), .int .i64 (x.done : Int), .int .i64 (d : Int), .bool e, .bool true] = wksC (out ++ [stepW e x D]) := by
                    rw [wksC_app, wksC_one]
                    unfold stepW wkC
                    rw [HDD.out.1, decide_eq_true HDD.out.2.2.1]
                  rw [hwkc, show out.length + 1 = (out ++ [stepW e x D]).length by simp] at hO19
                  have hRD := LaneP.round HP.out HS.out.2.2.2.2.2.1 HS.out.2.2.2.2.1 HR2.out HS.out.2.2.2.2.2.2.1 (by rw [HX.out]; exact HST.out)
                  rw [HX.out, HD.out, HDD.out.2.1] at hRD
                  obtain ⟨rest', fin', hP', hM', hW'⟩ := hRD
                  obtain ⟨pv', cv', ev', -⟩ := own_shape hO19
                  have hgl19 : LsC w19 (some ⟨g, 0, none⟩) (rfsC (M.set i (stepR c x D))) := by
                    have h1 := LsC.set4 H12.out.2.2.2.1 (i := i) (by have := H11.out.2.2.1.1; omega) (stepR c x D)
                    simp only [Nat.zero_add] at h1
                    rw [H12.out.2.2.2.2.2.2.2.1, H12.out.2.2.2.2.2.2.2.2, stepR_path, stepR_blocks, HW17.out] at h1
                    refine (h1.of_below hB18).keepB (hg19.block g (by have := HK17.out.2.1; have := H12.out.2.1; omega) (fun h => ?_))
                    have h2 := (hbase.lt g h.symm).2
                    have := HK17.out.2.1
                    omega
                  have hbb19 : ∀ k, k < W18.heap.size → (Value.slice pv out.length cv).ownBlock ≠ some k → w19.heap[k]? = W18.heap[k]? := fun k hk hne => hg19.block k hk (fun h => hne h.symm)
                  have hRI : RlaI S0 W1 e c n bx L0 P Q (.int .i64 (L : Int)) v19 w19 := by
                    refine ⟨some ⟨g, 0, none⟩, k12, M.set i (stepR c x D), L, out ++ [stepW e x D], rest', fin', rfl, by have := HLd.out.1; omega, ?_, ?_, hO19, ?_, hP', hM', hW', ?_⟩
                    · rw [hbb19 bx (by omega) (fun h => by have := (hbase.lt bx h).1; have := HSZ.out.2; omega), hB18.block bx (by have := HK17.out.2.1; omega), HK17.out.1.block bx (by have := HK17.out.2.1; omega) (fun h => by have h : bx = g := h; omega)]
                      exact H12.out.2.2.2.2.1
                    · rw [hbb19 (bx + 1) (by omega) (fun h => by have := (hbase.lt (bx + 1) h).1; have := HSZ.out.2; omega), hk18 (bx + 1) (by omega) (by omega)]
                      exact HS.out.2.1
                    · intro z hz
                      have hgz : z.heap[g]? = w19.heap[g]? := hz.block g (by have := hg19.size; have := HK17.out.2.1; have := H12.out.2.1; omega) (fun h => by
                        rcases h with h | h | h | h
                        rotate_right 1
                        · have := HS0.out g h; have := HSZ.out.1; omega
                        · omega
                        · omega
                        · rcases hor19 with h3 | h3
                          · rw [h3] at h
                            have := (hbase.lt g h).2
                            omega
                          · rw [h3] at h
                            injection h with h
                            have := HK17.out.2.1
                            have := H12.out.2.1
                            omega)
                      refine ⟨by rw [List.length_set]; exact H11.out.2.2.1.1, hgl19.keepB hgz, (fun h => by cases h), H12.out.2.2.1⟩
                    · have hBa := HS.out.2.2.2.2.2.2.2.1
                      refine hBa.trans ?_
                      have h1 := H11.out.2.2.2.2.1.mono (show bx ≤ wa.heap.size by omega)
                      have h2 := h1.trans (H11.out.2.1.mono (by omega))
                      have h3 := h2.trans (H12.out.2.2.2.2.2.2.1.mono (by omega))
                      have h4 : Below bx wa W13 := by rw [← HW13.out]; exact h3.trans ((KpF.setCell (S := fun k => k = bx) w12 ⟨bx, 0, none⟩ _ rfl).below (fun k hk => by have hk : k = bx := hk; omega) (by omega))
                      have h5 := h4.trans (HK17.out.1.below (fun k hk => by have hk : k = g := hk; omega) (by have := HK17.out.2.1; omega))
                      have h6 := h5.trans (hB18.mono (by have := HK17.out.2.1; omega))
                      exact h6.grown hg19 (by omega) (fun k hk => by have := (hbase.lt k hk).1; have := HSZ.out.2; omega)
                  have hMS : Q.length - lenS v19 < Q.length - lenS (.slice pv out.length cv) := by
                    rw [ev']
                    have h1 := hW'.out_le
                    simp only [List.length_append, List.length_singleton] at h1 ⊢
                    show Q.length - (out.length + 1) < Q.length - out.length
                    omega
                  have HRI := Lib.hid (And.intro hRI hMS)
                  clear hRI hMS hbb19 hgl19 ev' hP' hM' hW' hwkc hO19 hg19 hor19 hlen hO18 hk18 hbase hls18 hB18 hs1 hs2 hs3 hs4 hs5 hg0 hbx hwaf
                  go_wp2
                  exact HRI.out
                · have zf : ((d : Int) == (x.blocks : Int)) = false := by simp; omega
                  have hdD : x.done + D = d := by have := HT.out; omega
                  have hLD : left - D = L := by have := HT.out; omega
                  have hKD := HBB.out.2
                  have hsw := H6.out.2.2.2
                  have hbm := H5.out.2.2.2
                  have hlw := HS.out.2.2.2.2.2.2.2.2.2
                  have hw2s := HB2.out.size
                  have h25 := HB2.out.trans (H5.out.1.mono HB2.out.size)
                  have h26 := h25.trans (H6.out.1.mono h25.size)
                  have hBwb := h26.trans (hKD.below (N := wa.heap.size) (fun k hk => by have hk : k = bm := hk; omega) h26.size)
                  have bnb : wb.heap[bm + 1]? = some (.cells #[.string (mkS x.path), .int .i64 (x.done : Int), .int .i64 0, .bool e, .bool false] EWr (0, 0)) := (hKD.block (bm + 1) (by omega) (fun h => by have h : bm + 1 = bm := h; omega)).trans H6.out.2.1
                  obtain ⟨W7, hW7⟩ : ∃ W, wb.setCell ⟨bm + 1, 2, none⟩ (.int .i64 (d : Int)) = W := ⟨_, rfl⟩
                  obtain ⟨W8, hW8⟩ : ∃ W, W7.setCell ⟨bm + 1, 4, none⟩ (.bool false) = W := ⟨_, rfl⟩
                  have bm7 : W7.heap[bm]? = some (.cells #[.string (mkS x.path), .int .i64 (x.blocks : Int), .int .i64 (d : Int), .int .i64 x.last] ER (0, 0)) := by rw [← hW7, setOff14 (by omega)]; exact hbb
                  have bn7 : W7.heap[bm + 1]? = some (.cells #[.string (mkS x.path), .int .i64 (x.done : Int), .int .i64 (d : Int), .bool e, .bool false] EWr (0, 0)) := by rw [← hW7]; exact setAt14 bnb
                  have bm8 : W8.heap[bm]? = some (.cells #[.string (mkS x.path), .int .i64 (x.blocks : Int), .int .i64 (d : Int), .int .i64 x.last] ER (0, 0)) := by rw [← hW8, setOff14 (by omega)]; exact bm7
                  have bn8 : W8.heap[bm + 1]? = some (.cells #[.string (mkS x.path), .int .i64 (x.done : Int), .int .i64 (d : Int), .bool e, .bool false] EWr (0, 0)) := by rw [← hW8]; exact setAt14 bn7
                  have bx8 : W8.heap[bx]? = some (.cells #[.slice (some ⟨gc, go, none⟩) n cap, .int .i64 (c : Int)] TL14 (0, 0)) := by
                    rw [← hW8, setOff14 (by omega), ← hW7, setOff14 (by omega)]
                    exact (hBwb.block bx (by omega)).trans HS.out.1
                  have k8 : KpF (fun k => k = bm ∨ k = bm + 1) wb W8 := by
                    rw [← hW8, ← hW7]
                    exact (KpF.setCell (S := fun k => k = bm ∨ k = bm + 1) wb ⟨bm + 1, 2, none⟩ _ (.inr rfl)).trans (KpF.setCell (S := fun k => k = bm ∨ k = bm + 1) _ ⟨bm + 1, 4, none⟩ _ (.inr rfl))
                  obtain ⟨-, -, n2, -, -, nz⟩ := five14 bnb
                  have nz2 := nz 2
                  obtain ⟨-, a71, a72, -, -⟩ := four14 bm7
                  obtain ⟨-, -, -, -, a74, nz7⟩ := five14 bn7
                  have nz74 := nz7 4
                  obtain ⟨-, -, -, -, a84', -⟩ := five14 bn8
                  clear nz nz7
                  obtain ⟨Wf, hWf⟩ : ∃ W, W = W8 := ⟨_, rfl⟩
                  have bmf : Wf.heap[bm]? = some (.cells #[.string (mkS x.path), .int .i64 (x.blocks : Int), .int .i64 (((stepR c x D).done : Nat) : Int), .int .i64 (stepR c x D).last] ER (0, 0)) := by
                    rw [hWf, show stepR c x D = { x with done := d } from by unfold stepR; rw [hdD, if_neg hfin]]
                    exact bm8
                  have bnf : Wf.heap[bm + 1]? = some (.cells #[.string (mkS x.path), .int .i64 (x.done : Int), .int .i64 (d : Int), .bool e, .bool false] EWr (0, 0)) := by rw [hWf]; exact bn8
                  have kf : KpF (fun k => k = bm ∨ k = bm + 1) W8 Wf := by rw [hWf]; exact KpF.refl _ _
                  subst hWf
                  have bxf : Wf.heap[bx]? = some (.cells #[.slice (some ⟨gc, go, none⟩) n cap, .int .i64 (c : Int)] TL14 (0, 0)) := (kf.block bx (Array.getElem?_eq_some_iff.1 bx8).1 (fun h => by rcases h with h | h <;> omega)).trans bx8
                  have hBf := hBwb.trans ((k8.trans kf).below (N := wa.heap.size) (fun k hk => by rcases hk with h | h <;> omega) hBwb.size)
                  have hszf : bm + 1 < Wf.heap.size := (Array.getElem?_eq_some_iff.1 bnf).1
                  obtain ⟨W11, hW11⟩ : ∃ W, Wf.alloc (.cells #[] ER) = W := ⟨_, rfl⟩
                  have hB11 : Below Wf.heap.size Wf W11 := by rw [← hW11]; exact (Below.refl _ _).alloc (Nat.le_refl _) _
                  have hO11 := own_empty (E := ER) (k := 4) Wf Wf.heap.size (Nat.le_refl _)
                  rw [hW11] at hO11
                  have bx11 := (hB11.block bx (by omega)).trans bxf
                  have hr11 := HS.out.2.2.2.1 W11 (KpF.of_new (hBf.trans (hB11.mono hBf.size)))
                  obtain ⟨b110, -, -, -⟩ := twoCells bx11
                  have H11 := Lib.hid (And.intro hO11 (And.intro hB11 (And.intro hr11 (And.intro hszf (And.intro hBf (And.intro bx11 (And.intro bmf bnf)))))))
                  have HDD := Lib.hid (And.intro hdD (And.intro hLD (And.intro hfin (And.intro hsw (And.intro hbm (And.intro hlw hw2s))))))
                  have HPOS := Lib.hid (show 0 < n ∧ n ≤ 1000000 by have h1 := HS.out.2.2.2.2.2.2.2.2.1; omega)
                  clear hdD hLD hKD hsw hbm hlw hw2s h25 h26 hBwb bnb bm7 bn7 bm8 bn8 bx8 k8 bxf hBf hszf hB11 hO11 bx11 hr11 bmf bnf kf hfin
                  go_wp2_with (first | (at_builtin; refine wpl_appendK elR14 W11 rfl (.tmp 74) (.tmp 76) rfl Wf.heap.size (n := 0) (v := .slice (some ⟨Wf.heap.size, 0, none⟩) 0 0) (cs := []) rfl H11.out.1 (some ⟨gc, go, none⟩) n cap (rfsC M) (by rw [rfsC_len, H11.out.2.2.1.1]) rfl H11.out.2.2.1.2.1 (fun e => by cases e) (rfsC_oneCell _) (by have := HPOS.out; omega) H11.out.2.1.size ?_; rintro v12 w12 hO12 hg12 -; rw [List.nil_append, Nat.zero_add] at hO12; generalize hG : wpList _ _ _ _ _ _ = G) | (refine (id ?_ : wpList _ _ _ (⟨some 84, _, _, _, _, _⟩ :: _) _ _); generalize hG : wpList _ _ _ (_ :: _) _ _ = G))
                  rw [← hG]
                  clear hG
                  obtain ⟨g, k12, rfl, hg0, hg1, hg2, hgl, hgc, hgf⟩ := own_full14 hO12 HPOS.out.1
                  have hb12 : Below Wf.heap.size W11 w12 := (Below.refl Wf.heap.size W11).grown hg12 H11.out.2.1.size (fun k hk => (H11.out.1.lt k hk).1)
                  have hlt := H11.out.2.2.2.1
                  have hbx := HDD.out.2.2.2.2
                  have bx12 := (hb12.block bx (by omega)).trans H11.out.2.2.2.2.2.1
                  have bm12 := (hb12.block bm (by omega)).trans ((H11.out.2.1.block bm (by omega)).trans H11.out.2.2.2.2.2.2.1)
                  have bn12 := (hb12.block (bm + 1) (by omega)).trans ((H11.out.2.1.block (bm + 1) (by omega)).trans H11.out.2.2.2.2.2.2.2)
                  obtain ⟨z0, -, z2, -⟩ := twoCells bx12
                  obtain ⟨W13, hW13⟩ : ∃ W, w12.setCell ⟨bx, 0, none⟩ (.slice (some ⟨g, 0, none⟩) n k12) = W := ⟨_, rfl⟩
                  have bx13 : W13.heap[bx]? = some (.cells #[.slice (some ⟨g, 0, none⟩) n k12, .int .i64 (c : Int)] TL14 (0, 0)) := by rw [← hW13]; exact setAt14 bx12
                  have bm13 := bm12
                  rw [← setOff14 (w := w12) (b := bx) (j := 0) (v := .slice (some ⟨g, 0, none⟩) n k12) (show bm ≠ bx by omega), hW13] at bm13
                  have bn13 := bn12
                  rw [← setOff14 (w := w12) (b := bx) (j := 0) (v := .slice (some ⟨g, 0, none⟩) n k12) (show bm + 1 ≠ bx by omega), hW13] at bn13
                  have g13 : W13.heap[g]? = w12.heap[g]? := by rw [← hW13]; exact setOff14 (by omega)
                  have hl13 := hgl.keepB g13
                  have hcc : ∀ j, j < 4 → W13.cell? ⟨g, i * 4 + j, none⟩ = (rfC x)[j]? := fun j hj => by
                    have h1 := hgc (i * 4 + j) (by rw [rfsC_len, H11.out.2.2.1.1]; omega)
                    rw [rfsC_get M i j (by have := H11.out.2.2.1.1; omega) hj, HX.out] at h1
                    rw [← h1]
                    unfold World.cell?
                    rw [g13]
                  have cc0 : W13.cell? ⟨g, i * 4, none⟩ = some (.string (mkS x.path)) := hcc 0 (by decide)
                  have cc1 : W13.cell? ⟨g, i * 4 + 1, none⟩ = some (.int .i64 (x.blocks : Int)) := hcc 1 (by decide)
                  have cc2 : W13.cell? ⟨g, i * 4 + 2, none⟩ = some (.int .i64 (x.done : Int)) := hcc 2 (by decide)
                  have cc3 : W13.cell? ⟨g, i * 4 + 3, none⟩ = some (.int .i64 x.last) := hcc 3 (by decide)
                  have hff : ∀ j, W13.frozen? ⟨g, j, none⟩ = false := fun j => by
                    have h1 := hgf j
                    unfold World.frozen? at h1 ⊢
                    rw [g13]
                    exact h1
                  have ff0 := hff (i * 4)
                  have ff1 := hff (i * 4 + 1)
                  have ff2 := hff (i * 4 + 2)
                  have ff3 := hff (i * 4 + 3)
                  obtain ⟨b130, -, -, -⟩ := twoCells bx13
                  obtain ⟨m130, m131, m132, m133, -⟩ := four14 bm13
                  have y0 : (0 : Int) ≤ (i : Int) := by omega
                  have y1 : (i : Int) < (n : Int) := by omega
                  obtain ⟨sd, hsd⟩ : ∃ sd, (stepR c x D).done = sd := ⟨_, rfl⟩
                  obtain ⟨sl, hsl⟩ : ∃ sl, (stepR c x D).last = sl := ⟨_, rfl⟩
                  rw [hsd] at m132
                  rw [hsl] at m133
                  obtain ⟨W17, hW17⟩ : ∃ W, (((W13.setCell ⟨g, i * 4, none⟩ (.string (mkS x.path))).setCell ⟨g, i * 4 + 1, none⟩ (.int .i64 (x.blocks : Int))).setCell ⟨g, i * 4 + 2, none⟩ (.int .i64 (sd : Int))).setCell ⟨g, i * 4 + 3, none⟩ (.int .i64 sl) = W := ⟨_, rfl⟩
                  have HW17 := Lib.hid hW17
                  have H12 := Lib.hid (And.intro hg0 (And.intro hg1 (And.intro hg2 (And.intro hl13 (And.intro bx13 (And.intro bn13 (And.intro hb12 (And.intro hsd hsl))))))))
                  have HW13 := Lib.hid hW13
                  clear hO12 hg12 hb12 bx12 bm12 bn12 bx13 bm13 bn13 g13 hl13 hcc hff hsd hsl hgl hgc hgf hg0 hg1 hg2 hlt hbx hW17
                  go_wp2_with (first | (refine (id ?_ : wpList _ _ _ (⟨some 85, _, _, _, _, _⟩ :: _) _ _); generalize hG : wpList _ _ _ (_ :: _) _ _ = G))
                  rw [← hG]
                  clear hG
                  rw [HW17.out]
                  have hlt := H11.out.2.2.2.1
                  have hk17 : KpF (fun k => k = g) W13 W17 := by rw [← HW17.out]; exact kp4 _ _ _ _ _ _ _ _ _ _
                  have hs13 : w12.heap.size = W13.heap.size := by rw [← HW13.out]; simp
                  have hg0 := H12.out.1
                  have hg1 := H12.out.2.1
                  have hgn : bm + 1 < g := by omega
                  have bn17 := (hk17.block (bm + 1) (by have := H12.out.2.2.2.2.2.2.1.size; have := H11.out.2.1.size; omega) (fun h => by have h : bm + 1 = g := h; omega)).trans H12.out.2.2.2.2.2.1
                  obtain ⟨p0, p1, p2, p3, p4, -⟩ := five14 bn17
                  have HK17 := Lib.hid (And.intro hk17 (And.intro hs13 (And.intro hgn hlt)))
                  clear cc0 cc1 cc2 cc3 ff0 ff1 ff2 ff3 b130 m130 m131 m132 m133 z0 z2 hk17 hs13 hg0 hg1 hgn bn17 hW13 hlt
                  go_wp2_with (first | (refine (id ?_ : wpList _ _ _ (⟨some 87, _, _, _, _, _⟩ :: _) _ _); generalize hG : wpList _ _ _ (_ :: _) _ _ = G))
                  rw [← hG]
                  clear hG
                  obtain ⟨W18, hW18⟩ : ∃ W, W17.alloc (.cells #[.string (mkS x.path), .int .i64 (x.done : Int), .int .i64 (d : Int), .bool e, .bool false] EWr) = W := ⟨_, rfl⟩
                  rw [hW18]
                  have HW18 := Lib.hid hW18
                  have hB18 : Below W17.heap.size W17 W18 := by rw [← hW18]; exact (Below.refl _ _).alloc (Nat.le_refl _) _
                  have hls18 : LsC W18 (some ⟨W17.heap.size, 0, none⟩) [.string (mkS x.path), .int .i64 (x.done : Int), .int .i64 (d : Int), .bool e, .bool false] := by rw [← hW18]; exact LsC.made W17 _ EWr
                  have hs1 := H11.out.2.1.size
                  have hs2 := H12.out.2.2.2.2.2.2.1.size
                  have hs3 := HK17.out.1.size
                  have hs4 := hB18.size
                  have hs5 := HK17.out.2.1
                  have hg0 := H12.out.1
                  have hbx := HDD.out.2.2.2
                  have hwaf := H11.out.2.2.2.2.1.size
                  have hk18 : ∀ k, k < wa.heap.size → k ≠ bx → W18.heap[k]? = wa.heap[k]? := fun k hk hne => by
                    rw [hB18.block k (by have := HK17.out.2.1; omega), HK17.out.1.block k (by have := HK17.out.2.1; omega) (fun h => by have h : k = g := h; omega), ← HW13.out, setOff14 hne, H12.out.2.2.2.2.2.2.1.block k (by omega), H11.out.2.1.block k (by omega), H11.out.2.2.2.2.1.block k (by omega)]
                  have hbase := HS.out.2.2.1
                  have hO18 : W18.ownsRow W1.heap.size EWr 5 (.slice pv out.length cv) out.length (wksC out) := own_keep hbase fun k hk => hk18 k (hbase.lt k hk).2 (fun h => by have := (hbase.lt k hk).1; have := HSZ.out.2; omega)
                  have hlen := HS.out.2.2.2.2.2.2.1.out_le
                  clear hW18 p0 p1 p2 p3 p4
                  refine wpl_appendK elWr14 W18 rfl (.tmp 84) (.tmp 86) rfl W1.heap.size (n := out.length) (v := .slice pv out.length cv) (cs := wksC out) rfl hO18 (some ⟨W17.heap.size, 0, none⟩) 1 1 [.string (mkS x.path), .int .i64 (x.done : Int), .int .i64 (d : Int), .bool e, .bool false] rfl rfl hls18 (fun h => by cases h) (fun u hu => by simp at hu; rcases hu with rfl | rfl | rfl | rfl | rfl <;> rfl) (by omega) (by have := HSZ.out.2; have := HK17.out.2.1; omega) ?_
                  rintro v19 w19 hO19 hg19 hor19
                  have hwkc : wksC out ++ [.string (mkS x.path), .int .i64 (x.done : Int), .int .i64 (d : Int), .bool e, .bool false] = wksC (out ++ [stepW e x D]) := by
                    rw [wksC_app, wksC_one]
                    unfold stepW wkC
                    rw [HDD.out.1, decide_eq_false HDD.out.2.2.1]
                  rw [hwkc, show out.length + 1 = (out ++ [stepW e x D]).length by simp] at hO19
                  have hRD := LaneP.round HP.out HS.out.2.2.2.2.2.1 HS.out.2.2.2.2.1 HR2.out HS.out.2.2.2.2.2.2.1 (by rw [HX.out]; exact HST.out)
                  rw [HX.out, HD.out, HDD.out.2.1] at hRD
                  obtain ⟨rest', fin', hP', hM', hW'⟩ := hRD
                  obtain ⟨pv', cv', ev', -⟩ := own_shape hO19
                  have hgl19 : LsC w19 (some ⟨g, 0, none⟩) (rfsC (M.set i (stepR c x D))) := by
                    have h1 := LsC.set4 H12.out.2.2.2.1 (i := i) (by have := H11.out.2.2.1.1; omega) (stepR c x D)
                    simp only [Nat.zero_add] at h1
                    rw [H12.out.2.2.2.2.2.2.2.1, H12.out.2.2.2.2.2.2.2.2, stepR_path, stepR_blocks, HW17.out] at h1
                    refine (h1.of_below hB18).keepB (hg19.block g (by have := HK17.out.2.1; have := H12.out.2.1; omega) (fun h => ?_))
                    have h2 := (hbase.lt g h.symm).2
                    have := HK17.out.2.1
                    omega
                  have hbb19 : ∀ k, k < W18.heap.size → (Value.slice pv out.length cv).ownBlock ≠ some k → w19.heap[k]? = W18.heap[k]? := fun k hk hne => hg19.block k hk (fun h => hne h.symm)
                  have hRI : RlaI S0 W1 e c n bx L0 P Q (.int .i64 (L : Int)) v19 w19 := by
                    refine ⟨some ⟨g, 0, none⟩, k12, M.set i (stepR c x D), L, out ++ [stepW e x D], rest', fin', rfl, by have := HLd.out.1; omega, ?_, ?_, hO19, ?_, hP', hM', hW', ?_⟩
                    · rw [hbb19 bx (by omega) (fun h => by have := (hbase.lt bx h).1; have := HSZ.out.2; omega), hB18.block bx (by have := HK17.out.2.1; omega), HK17.out.1.block bx (by have := HK17.out.2.1; omega) (fun h => by have h : bx = g := h; omega)]
                      exact H12.out.2.2.2.2.1
                    · rw [hbb19 (bx + 1) (by omega) (fun h => by have := (hbase.lt (bx + 1) h).1; have := HSZ.out.2; omega), hk18 (bx + 1) (by omega) (by omega)]
                      exact HS.out.2.1
                    · intro z hz
                      have hgz : z.heap[g]? = w19.heap[g]? := hz.block g (by have := hg19.size; have := HK17.out.2.1; have := H12.out.2.1; omega) (fun h => by
                        rcases h with h | h | h | h
                        rotate_right 1
                        · have := HS0.out g h; have := HSZ.out.1; omega
                        · omega
                        · omega
                        · rcases hor19 with h3 | h3
                          · rw [h3] at h
                            have := (hbase.lt g h).2
                            omega
                          · rw [h3] at h
                            injection h with h
                            have := HK17.out.2.1
                            have := H12.out.2.1
                            omega)
                      refine ⟨by rw [List.length_set]; exact H11.out.2.2.1.1, hgl19.keepB hgz, (fun h => by cases h), H12.out.2.2.1⟩
                    · have hBa := HS.out.2.2.2.2.2.2.2.1
                      refine hBa.trans ?_
                      have h1 := H11.out.2.2.2.2.1.mono (show bx ≤ wa.heap.size by omega)
                      have h2 := h1.trans (H11.out.2.1.mono (by omega))
                      have h3 := h2.trans (H12.out.2.2.2.2.2.2.1.mono (by omega))
                      have h4 : Below bx wa W13 := by rw [← HW13.out]; exact h3.trans ((KpF.setCell (S := fun k => k = bx) w12 ⟨bx, 0, none⟩ _ rfl).below (fun k hk => by have hk : k = bx := hk; omega) (by omega))
                      have h5 := h4.trans (HK17.out.1.below (fun k hk => by have hk : k = g := hk; omega) (by have := HK17.out.2.1; omega))
                      have h6 := h5.trans (hB18.mono (by have := HK17.out.2.1; omega))
                      exact h6.grown hg19 (by omega) (fun k hk => by have := (hbase.lt k hk).1; have := HSZ.out.2; omega)
                  have hMS : Q.length - lenS v19 < Q.length - lenS (.slice pv out.length cv) := by
                    rw [ev']
                    have h1 := hW'.out_le
                    simp only [List.length_append, List.length_singleton] at h1 ⊢
                    show Q.length - (out.length + 1) < Q.length - out.length
                    omega
                  have HRI := Lib.hid (And.intro hRI hMS)
                  clear hRI hMS hbb19 hgl19 ev' hP' hM' hW' hwkc hO19 hg19 hor19 hlen hO18 hk18 hbase hls18 hB18 hs1 hs2 hs3 hs4 hs5 hg0 hbx hwaf
                  go_wp2
                  exact HRI.out
              · have r1 : decide (0 < L) = true := decide_eq_true (by omega)
                have r1' : decide ((0 : Int) < (L : Int)) = true := decide_eq_true (by omega)
                have r2 : decide (d < x.blocks) = false := decide_eq_false (by omega)
                have r2' : decide ((d : Int) < (x.blocks : Int)) = false := decide_eq_false (by omega)
                have hfin : d = x.blocks := by have := HOK.out.2.2; have := HT.out; have := HD.out; omega
                have zf : ((d : Int) == (x.blocks : Int)) = true := by simp; omega
                have hdD : x.done + D = d := by have := HT.out; omega
                have hLD : left - D = L := by have := HT.out; omega
                have hKD := HBB.out.2
                have hsw := H6.out.2.2.2
                have hbm := H5.out.2.2.2
                have hlw := HS.out.2.2.2.2.2.2.2.2.2
                have hw2s := HB2.out.size
                have h25 := HB2.out.trans (H5.out.1.mono HB2.out.size)
                have h26 := h25.trans (H6.out.1.mono h25.size)
                have hBwb := h26.trans (hKD.below (N := wa.heap.size) (fun k hk => by have hk : k = bm := hk; omega) h26.size)
                have bnb : wb.heap[bm + 1]? = some (.cells #[.string (mkS x.path), .int .i64 (x.done : Int), .int .i64 0, .bool e, .bool false] EWr (0, 0)) := (hKD.block (bm + 1) (by omega) (fun h => by have h : bm + 1 = bm := h; omega)).trans H6.out.2.1
                obtain ⟨W7, hW7⟩ : ∃ W, wb.setCell ⟨bm + 1, 2, none⟩ (.int .i64 (d : Int)) = W := ⟨_, rfl⟩
                obtain ⟨W8, hW8⟩ : ∃ W, W7.setCell ⟨bm + 1, 4, none⟩ (.bool true) = W := ⟨_, rfl⟩
                have bm7 : W7.heap[bm]? = some (.cells #[.string (mkS x.path), .int .i64 (x.blocks : Int), .int .i64 (d : Int), .int .i64 x.last] ER (0, 0)) := by rw [← hW7, setOff14 (by omega)]; exact hbb
                have bn7 : W7.heap[bm + 1]? = some (.cells #[.string (mkS x.path), .int .i64 (x.done : Int), .int .i64 (d : Int), .bool e, .bool false] EWr (0, 0)) := by rw [← hW7]; exact setAt14 bnb
                have bm8 : W8.heap[bm]? = some (.cells #[.string (mkS x.path), .int .i64 (x.blocks : Int), .int .i64 (d : Int), .int .i64 x.last] ER (0, 0)) := by rw [← hW8, setOff14 (by omega)]; exact bm7
                have bn8 : W8.heap[bm + 1]? = some (.cells #[.string (mkS x.path), .int .i64 (x.done : Int), .int .i64 (d : Int), .bool e, .bool true] EWr (0, 0)) := by rw [← hW8]; exact setAt14 bn7
                have bx8 : W8.heap[bx]? = some (.cells #[.slice (some ⟨gc, go, none⟩) n cap, .int .i64 (c : Int)] TL14 (0, 0)) := by
                  rw [← hW8, setOff14 (by omega), ← hW7, setOff14 (by omega)]
                  exact (hBwb.block bx (by omega)).trans HS.out.1
                have k8 : KpF (fun k => k = bm ∨ k = bm + 1) wb W8 := by
                  rw [← hW8, ← hW7]
                  exact (KpF.setCell (S := fun k => k = bm ∨ k = bm + 1) wb ⟨bm + 1, 2, none⟩ _ (.inr rfl)).trans (KpF.setCell (S := fun k => k = bm ∨ k = bm + 1) _ ⟨bm + 1, 4, none⟩ _ (.inr rfl))
                obtain ⟨-, -, n2, -, -, nz⟩ := five14 bnb
                have nz2 := nz 2
                obtain ⟨-, a71, a72, -, -⟩ := four14 bm7
                obtain ⟨-, -, -, -, a74, nz7⟩ := five14 bn7
                have nz74 := nz7 4
                obtain ⟨-, -, -, -, a84', -⟩ := five14 bn8
                clear nz nz7
                obtain ⟨W9, hW9⟩ : ∃ W, W8.setCell ⟨bm, 2, none⟩ (.int .i64 0) = W := ⟨_, rfl⟩
                obtain ⟨Wf, hWf⟩ : ∃ W, W9.setCell ⟨bm, 3, none⟩ (.int .i64 (c : Int)) = W := ⟨_, rfl⟩
                have bm9 : W9.heap[bm]? = some (.cells #[.string (mkS x.path), .int .i64 (x.blocks : Int), .int .i64 0, .int .i64 x.last] ER (0, 0)) := by rw [← hW9]; exact setAt14 bm8
                have bmf : Wf.heap[bm]? = some (.cells #[.string (mkS x.path), .int .i64 (x.blocks : Int), .int .i64 (((stepR c x D).done : Nat) : Int), .int .i64 (stepR c x D).last] ER (0, 0)) := by
                  rw [← hWf, show stepR c x D = { x with done := 0, last := (c : Int) } from by unfold stepR; rw [hdD, if_pos hfin]]
                  exact setAt14 bm9
                have bnf : Wf.heap[bm + 1]? = some (.cells #[.string (mkS x.path), .int .i64 (x.done : Int), .int .i64 (d : Int), .bool e, .bool true] EWr (0, 0)) := by
                  rw [← hWf, setOff14 (by omega), ← hW9, setOff14 (by omega)]; exact bn8
                have kf : KpF (fun k => k = bm ∨ k = bm + 1) W8 Wf := by
                  rw [← hWf, ← hW9]
                  exact (KpF.setCell (S := fun k => k = bm ∨ k = bm + 1) W8 ⟨bm, 2, none⟩ _ (.inl rfl)).trans (KpF.setCell (S := fun k => k = bm ∨ k = bm + 1) _ ⟨bm, 3, none⟩ _ (.inl rfl))
                have bx9 : W9.heap[bx]? = some (.cells #[.slice (some ⟨gc, go, none⟩) n cap, .int .i64 (c : Int)] TL14 (0, 0)) := by rw [← hW9, setOff14 (by omega)]; exact bx8
                obtain ⟨-, a84, -, -⟩ := twoCells bx9
                obtain ⟨-, -, m8, -, m8z⟩ := four14 bm8
                have m8z2 := m8z 2
                obtain ⟨-, -, -, m9, m9z⟩ := four14 bm9
                have m9z3 := m9z 3
                clear m8z m9z bm9 bx9
                have bxf : Wf.heap[bx]? = some (.cells #[.slice (some ⟨gc, go, none⟩) n cap, .int .i64 (c : Int)] TL14 (0, 0)) := (kf.block bx (Array.getElem?_eq_some_iff.1 bx8).1 (fun h => by rcases h with h | h <;> omega)).trans bx8
                have hBf := hBwb.trans ((k8.trans kf).below (N := wa.heap.size) (fun k hk => by rcases hk with h | h <;> omega) hBwb.size)
                have hszf : bm + 1 < Wf.heap.size := (Array.getElem?_eq_some_iff.1 bnf).1
                obtain ⟨W11, hW11⟩ : ∃ W, Wf.alloc (.cells #[] ER) = W := ⟨_, rfl⟩
                have hB11 : Below Wf.heap.size Wf W11 := by rw [← hW11]; exact (Below.refl _ _).alloc (Nat.le_refl _) _
                have hO11 := own_empty (E := ER) (k := 4) Wf Wf.heap.size (Nat.le_refl _)
                rw [hW11] at hO11
                have bx11 := (hB11.block bx (by omega)).trans bxf
                have hr11 := HS.out.2.2.2.1 W11 (KpF.of_new (hBf.trans (hB11.mono hBf.size)))
                obtain ⟨b110, -, -, -⟩ := twoCells bx11
                have H11 := Lib.hid (And.intro hO11 (And.intro hB11 (And.intro hr11 (And.intro hszf (And.intro hBf (And.intro bx11 (And.intro bmf bnf)))))))
                have HDD := Lib.hid (And.intro hdD (And.intro hLD (And.intro hfin (And.intro hsw (And.intro hbm (And.intro hlw hw2s))))))
                have HPOS := Lib.hid (show 0 < n ∧ n ≤ 1000000 by have h1 := HS.out.2.2.2.2.2.2.2.2.1; omega)
                clear hdD hLD hKD hsw hbm hlw hw2s h25 h26 hBwb bnb bm7 bn7 bm8 bn8 bx8 k8 bxf hBf hszf hB11 hO11 bx11 hr11 bmf bnf kf hfin
                go_wp2_with (first | (at_builtin; refine wpl_appendK elR14 W11 rfl (.tmp 74) (.tmp 76) rfl Wf.heap.size (n := 0) (v := .slice (some ⟨Wf.heap.size, 0, none⟩) 0 0) (cs := []) rfl H11.out.1 (some ⟨gc, go, none⟩) n cap (rfsC M) (by rw [rfsC_len, H11.out.2.2.1.1]) rfl H11.out.2.2.1.2.1 (fun e => by cases e) (rfsC_oneCell _) (by have := HPOS.out; omega) H11.out.2.1.size ?_; rintro v12 w12 hO12 hg12 -; rw [List.nil_append, Nat.zero_add] at hO12; generalize hG : wpList _ _ _ _ _ _ = G) | (refine (id ?_ : wpList _ _ _ (⟨some 84, _, _, _, _, _⟩ :: _) _ _); generalize hG : wpList _ _ _ (_ :: _) _ _ = G))
                rw [← hG]
                clear hG
                obtain ⟨g, k12, rfl, hg0, hg1, hg2, hgl, hgc, hgf⟩ := own_full14 hO12 HPOS.out.1
                have hb12 : Below Wf.heap.size W11 w12 := (Below.refl Wf.heap.size W11).grown hg12 H11.out.2.1.size (fun k hk => (H11.out.1.lt k hk).1)
                have hlt := H11.out.2.2.2.1
                have hbx := HDD.out.2.2.2.2
                have bx12 := (hb12.block bx (by omega)).trans H11.out.2.2.2.2.2.1
                have bm12 := (hb12.block bm (by omega)).trans ((H11.out.2.1.block bm (by omega)).trans H11.out.2.2.2.2.2.2.1)
                have bn12 := (hb12.block (bm + 1) (by omega)).trans ((H11.out.2.1.block (bm + 1) (by omega)).trans H11.out.2.2.2.2.2.2.2)
                obtain ⟨z0, -, z2, -⟩ := twoCells bx12
                obtain ⟨W13, hW13⟩ : ∃ W, w12.setCell ⟨bx, 0, none⟩ (.slice (some ⟨g, 0, none⟩) n k12) = W := ⟨_, rfl⟩
                have bx13 : W13.heap[bx]? = some (.cells #[.slice (some ⟨g, 0, none⟩) n k12, .int .i64 (c : Int)] TL14 (0, 0)) := by rw [← hW13]; exact setAt14 bx12
                have bm13 := bm12
                rw [← setOff14 (w := w12) (b := bx) (j := 0) (v := .slice (some ⟨g, 0, none⟩) n k12) (show bm ≠ bx by omega), hW13] at bm13
                have bn13 := bn12
                rw [← setOff14 (w := w12) (b := bx) (j := 0) (v := .slice (some ⟨g, 0, none⟩) n k12) (show bm + 1 ≠ bx by omega), hW13] at bn13
                have g13 : W13.heap[g]? = w12.heap[g]? := by rw [← hW13]; exact setOff14 (by omega)
                have hl13 := hgl.keepB g13
                have hcc : ∀ j, j < 4 → W13.cell? ⟨g, i * 4 + j, none⟩ = (rfC x)[j]? := fun j hj => by
                  have h1 := hgc (i * 4 + j) (by rw [rfsC_len, H11.out.2.2.1.1]; omega)
                  rw [rfsC_get M i j (by have := H11.out.2.2.1.1; omega) hj, HX.out] at h1
                  rw [← h1]
                  unfold World.cell?
                  rw [g13]
                have cc0 : W13.cell? ⟨g, i * 4, none⟩ = some (.string (mkS x.path)) := hcc 0 (by decide)
                have cc1 : W13.cell? ⟨g, i * 4 + 1, none⟩ = some (.int .i64 (x.blocks : Int)) := hcc 1 (by decide)
                have cc2 : W13.cell? ⟨g, i * 4 + 2, none⟩ = some (.int .i64 (x.done : Int)) := hcc 2 (by decide)
                have cc3 : W13.cell? ⟨g, i * 4 + 3, none⟩ = some (.int .i64 x.last) := hcc 3 (by decide)
                have hff : ∀ j, W13.frozen? ⟨g, j, none⟩ = false := fun j => by
                  have h1 := hgf j
                  unfold World.frozen? at h1 ⊢
                  rw [g13]
                  exact h1
                have ff0 := hff (i * 4)
                have ff1 := hff (i * 4 + 1)
                have ff2 := hff (i * 4 + 2)
                have ff3 := hff (i * 4 + 3)
                obtain ⟨b130, -, -, -⟩ := twoCells bx13
                obtain ⟨m130, m131, m132, m133, -⟩ := four14 bm13
                have y0 : (0 : Int) ≤ (i : Int) := by omega
                have y1 : (i : Int) < (n : Int) := by omega
                obtain ⟨sd, hsd⟩ : ∃ sd, (stepR c x D).done = sd := ⟨_, rfl⟩
                obtain ⟨sl, hsl⟩ : ∃ sl, (stepR c x D).last = sl := ⟨_, rfl⟩
                rw [hsd] at m132
                rw [hsl] at m133
                obtain ⟨W17, hW17⟩ : ∃ W, (((W13.setCell ⟨g, i * 4, none⟩ (.string (mkS x.path))).setCell ⟨g, i * 4 + 1, none⟩ (.int .i64 (x.blocks : Int))).setCell ⟨g, i * 4 + 2, none⟩ (.int .i64 (sd : Int))).setCell ⟨g, i * 4 + 3, none⟩ (.int .i64 sl) = W := ⟨_, rfl⟩
                have HW17 := Lib.hid hW17
                have H12 := Lib.hid (And.intro hg0 (And.intro hg1 (And.intro hg2 (And.intro hl13 (And.intro bx13 (And.intro bn13 (And.intro hb12 (And.intro hsd hsl))))))))
                have HW13 := Lib.hid hW13
                clear hO12 hg12 hb12 bx12 bm12 bn12 bx13 bm13 bn13 g13 hl13 hcc hff hsd hsl hgl hgc hgf hg0 hg1 hg2 hlt hbx hW17
                go_wp2_with (first | (refine (id ?_ : wpList _ _ _ (⟨some 85, _, _, _, _, _⟩ :: _) _ _); generalize hG : wpList _ _ _ (_ :: _) _ _ = G))
                rw [← hG]
                clear hG
                rw [HW17.out]
                have hlt := H11.out.2.2.2.1
                have hk17 : KpF (fun k => k = g) W13 W17 := by rw [← HW17.out]; exact kp4 _ _ _ _ _ _ _ _ _ _
                have hs13 : w12.heap.size = W13.heap.size := by rw [← HW13.out]; simp
                have hg0 := H12.out.1
                have hg1 := H12.out.2.1
                have hgn : bm + 1 < g := by omega
                have bn17 := (hk17.block (bm + 1) (by have := H12.out.2.2.2.2.2.2.1.size; have := H11.out.2.1.size; omega) (fun h => by have h : bm + 1 = g := h; omega)).trans H12.out.2.2.2.2.2.1
                obtain ⟨p0, p1, p2, p3, p4, -⟩ := five14 bn17
                have HK17 := Lib.hid (And.intro hk17 (And.intro hs13 (And.intro hgn hlt)))
                clear cc0 cc1 cc2 cc3 ff0 ff1 ff2 ff3 b130 m130 m131 m132 m133 z0 z2 hk17 hs13 hg0 hg1 hgn bn17 hW13 hlt
                go_wp2_with (first | (refine (id ?_ : wpList _ _ _ (⟨some 87, _, _, _, _, _⟩ :: _) _ _); generalize hG : wpList _ _ _ (_ :: _) _ _ = G))
                rw [← hG]
                clear hG
                obtain ⟨W18, hW18⟩ : ∃ W, W17.alloc (.cells #[.string (mkS x.path), .int .i64 (x.done : Int), .int .i64 (d : Int), .bool e, .bool true] EWr) = W := ⟨_, rfl⟩
                rw [hW18]
                have HW18 := Lib.hid hW18
                have hB18 : Below W17.heap.size W17 W18 := by rw [← hW18]; exact (Below.refl _ _).alloc (Nat.le_refl _) _
                have hls18 : LsC W18 (some ⟨W17.heap.size, 0, none⟩) [.string (mkS x.path), .int .i64 (x.done : Int), .int .i64 (d : Int), .bool e, .bool true] := by rw [← hW18]; exact LsC.made W17 _ EWr
                have hs1 := H11.out.2.1.size
                have hs2 := H12.out.2.2.2.2.2.2.1.size
                have hs3 := HK17.out.1.size
                have hs4 := hB18.size
                have hs5 := HK17.out.2.1
                have hg0 := H12.out.1
                have hbx := HDD.out.2.2.2
                have hwaf := H11.out.2.2.2.2.1.size
                have hk18 : ∀ k, k < wa.heap.size → k ≠ bx → W18.heap[k]? = wa.heap[k]? := fun k hk hne => by
                  rw [hB18.block k (by have := HK17.out.2.1; omega), HK17.out.1.block k (by have := HK17.out.2.1; omega) (fun h => by have h : k = g := h; omega), ← HW13.out, setOff14 hne, H12.out.2.2.2.2.2.2.1.block k (by omega), H11.out.2.1.block k (by omega), H11.out.2.2.2.2.1.block k (by omega)]
                have hbase := HS.out.2.2.1
                have hO18 : W18.ownsRow W1.heap.size EWr 5 (.slice pv out.length cv) out.length (wksC out) := own_keep hbase fun k hk => hk18 k (hbase.lt k hk).2 (fun h => by have := (hbase.lt k hk).1; have := HSZ.out.2; omega)
                have hlen := HS.out.2.2.2.2.2.2.1.out_le
                clear hW18 p0 p1 p2 p3 p4
                refine wpl_appendK elWr14 W18 rfl (.tmp 84) (.tmp 86) rfl W1.heap.size (n := out.length) (v := .slice pv out.length cv) (cs := wksC out) rfl hO18 (some ⟨W17.heap.size, 0, none⟩) 1 1 [.string (mkS x.path), .int .i64 (x.done : Int), .int .i64 (d : Int), .bool e, .bool true] rfl rfl hls18 (fun h => by cases h) (fun u hu => by simp at hu; rcases hu with rfl | rfl | rfl | rfl | rfl <;> rfl) (by omega) (by have := HSZ.out.2; have := HK17.out.2.1; omega) ?_
                rintro v19 w19 hO19 hg19 hor19
                have hwkc : wksC out ++ [.string (mkS x.path), .int .i64 (x.done : Int), .int .i64 (d : Int), .bool e, .bool true] = wksC (out ++ [stepW e x D]) := by
                  rw [wksC_app, wksC_one]
                  unfold stepW wkC
                  rw [HDD.out.1, decide_eq_true HDD.out.2.2.1]
                rw [hwkc, show out.length + 1 = (out ++ [stepW e x D]).length by simp] at hO19
                have hRD := LaneP.round HP.out HS.out.2.2.2.2.2.1 HS.out.2.2.2.2.1 HR2.out HS.out.2.2.2.2.2.2.1 (by rw [HX.out]; exact HST.out)
                rw [HX.out, HD.out, HDD.out.2.1] at hRD
                obtain ⟨rest', fin', hP', hM', hW'⟩ := hRD
                obtain ⟨pv', cv', ev', -⟩ := own_shape hO19
                have hgl19 : LsC w19 (some ⟨g, 0, none⟩) (rfsC (M.set i (stepR c x D))) := by
                  have h1 := LsC.set4 H12.out.2.2.2.1 (i := i) (by have := H11.out.2.2.1.1; omega) (stepR c x D)
                  simp only [Nat.zero_add] at h1
                  rw [H12.out.2.2.2.2.2.2.2.1, H12.out.2.2.2.2.2.2.2.2, stepR_path, stepR_blocks, HW17.out] at h1
                  refine (h1.of_below hB18).keepB (hg19.block g (by have := HK17.out.2.1; have := H12.out.2.1; omega) (fun h => ?_))
                  have h2 := (hbase.lt g h.symm).2
                  have := HK17.out.2.1
                  omega
                have hbb19 : ∀ k, k < W18.heap.size → (Value.slice pv out.length cv).ownBlock ≠ some k → w19.heap[k]? = W18.heap[k]? := fun k hk hne => hg19.block k hk (fun h => hne h.symm)
                have hRI : RlaI S0 W1 e c n bx L0 P Q (.int .i64 (L : Int)) v19 w19 := by
                  refine ⟨some ⟨g, 0, none⟩, k12, M.set i (stepR c x D), L, out ++ [stepW e x D], rest', fin', rfl, by have := HLd.out.1; omega, ?_, ?_, hO19, ?_, hP', hM', hW', ?_⟩
                  · rw [hbb19 bx (by omega) (fun h => by have := (hbase.lt bx h).1; have := HSZ.out.2; omega), hB18.block bx (by have := HK17.out.2.1; omega), HK17.out.1.block bx (by have := HK17.out.2.1; omega) (fun h => by have h : bx = g := h; omega)]
                    exact H12.out.2.2.2.2.1
                  · rw [hbb19 (bx + 1) (by omega) (fun h => by have := (hbase.lt (bx + 1) h).1; have := HSZ.out.2; omega), hk18 (bx + 1) (by omega) (by omega)]
                    exact HS.out.2.1
                  · intro z hz
                    have hgz : z.heap[g]? = w19.heap[g]? := hz.block g (by have := hg19.size; have := HK17.out.2.1; have := H12.out.2.1; omega) (fun h => by
                      rcases h with h | h | h | h
                      rotate_right 1
                      · have := HS0.out g h; have := HSZ.out.1; omega
                      · omega
                      · omega
                      · rcases hor19 with h3 | h3
                        · rw [h3] at h
                          have := (hbase.lt g h).2
                          omega
                        · rw [h3] at h
                          injection h with h
                          have := HK17.out.2.1
                          have := H12.out.2.1
                          omega)
                    refine ⟨by rw [List.length_set]; exact H11.out.2.2.1.1, hgl19.keepB hgz, (fun h => by cases h), H12.out.2.2.1⟩
                  · have hBa := HS.out.2.2.2.2.2.2.2.1
                    refine hBa.trans ?_
                    have h1 := H11.out.2.2.2.2.1.mono (show bx ≤ wa.heap.size by omega)
                    have h2 := h1.trans (H11.out.2.1.mono (by omega))
                    have h3 := h2.trans (H12.out.2.2.2.2.2.2.1.mono (by omega))
                    have h4 : Below bx wa W13 := by rw [← HW13.out]; exact h3.trans ((KpF.setCell (S := fun k => k = bx) w12 ⟨bx, 0, none⟩ _ rfl).below (fun k hk => by have hk : k = bx := hk; omega) (by omega))
                    have h5 := h4.trans (HK17.out.1.below (fun k hk => by have hk : k = g := hk; omega) (by have := HK17.out.2.1; omega))
                    have h6 := h5.trans (hB18.mono (by have := HK17.out.2.1; omega))
                    exact h6.grown hg19 (by omega) (fun k hk => by have := (hbase.lt k hk).1; have := HSZ.out.2; omega)
                have hMS : Q.length - lenS v19 < Q.length - lenS (.slice pv out.length cv) := by
                  rw [ev']
                  have h1 := hW'.out_le
                  simp only [List.length_append, List.length_singleton] at h1 ⊢
                  show Q.length - (out.length + 1) < Q.length - out.length
                  omega
                have HRI := Lib.hid (And.intro hRI hMS)
                clear hRI hMS hbb19 hgl19 ev' hP' hM' hW' hwkc hO19 hg19 hor19 hlen hO18 hk18 hbase hls18 hB18 hs1 hs2 hs3 hs4 hs5 hg0 hbx hwaf
                go_wp2
                exact HRI.out
end Go.Proofs.YtcgilacmdckbfaaDoor
