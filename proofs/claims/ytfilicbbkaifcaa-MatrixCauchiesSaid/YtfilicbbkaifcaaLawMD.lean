/- The statement MatrixCauchies, walked where the numbers are permitted. -/
import Derived.Test.YtfilicbbkaifcaaLawMC
set_option linter.unusedSimpArgs false
set_option linter.unusedVariables false
namespace Go.Proofs.Ytfilicbbkaifcaa
open Go Go.RowKit

theorem refCauchyQ (k i j : Nat) (h1 : k + i < 256) (h2 : j < 256) (h3 : k + i ≠ j) (w : World) :
    Calls Try.prog 23 #[.int .i64 k, .int .i64 i, .int .i64 j] w fun e w' => e = .returned (B (cau k i j)) ∧ w' = w :=
  (refCauchy_any k i j h1 h2 h3 w).mono fun e w' ⟨he, hw⟩ => ⟨he, hw.symm⟩
attribute [local go_sem ↓] exec_store exec_make exec_bs
attribute [local go_sem] st_B st_I st_b st_H mkB mkR bs1I bs1B
section
variable (k m : Nat) (lr lc : List (BitVec 8)) (p q : Option Addr) (R C cap cap' : Nat) (w : World)
set_option maxRecDepth 100000 in
set_option maxHeartbeats 16000000 in
theorem mc_d (hk1 : 1 ≤ k) (hk2 : k ≤ 64) (hm1 : 1 ≤ m) (hm2 : m ≤ 64) (hp : Sl w p lr) (hq : Sl w q lc) (hlr : lr.length = R) (hlc : lc.length = C) (h : R ≤ 8) (h2 : C ≤ 8) :
    Calls Try.prog 5 #[.agg #[.int .i64 (k : Int), .int .i64 (m : Int)], .slice p R cap, .slice q C cap'] w fun e w' => e = .returned (.bool true) ∧ Below w.heap.size w w' := by
  have hd : decide ((8 : Int) < (R : Int)) = false := decide_eq_false (by omega)
  have hd2 : decide ((8 : Int) < (C : Int)) = false := decide_eq_false (by omega)
  have hB0 : Below w.heap.size w (w.alloc (.cells #[.int .i64 (k : Int), .int .i64 (m : Int)] 41)) := (Below.refl _ _).alloc (Nat.le_refl _) _
  have hc0 : (w.alloc (.cells #[.int .i64 (k : Int), .int .i64 (m : Int)] 41)).cell? ⟨w.heap.size, 0, none⟩ = some (.int .i64 (k : Int)) := by rw [World.cell?_alloc_new]; rfl
  have hc1 : (w.alloc (.cells #[.int .i64 (k : Int), .int .i64 (m : Int)] 41)).cell? ⟨w.heap.size, 1, none⟩ = some (.int .i64 (m : Int)) := by rw [World.cell?_alloc_new]; rfl
  have hs0 : w.heap.size < (w.alloc (.cells #[.int .i64 (k : Int), .int .i64 (m : Int)] 41)).heap.size := by rw [World.size_alloc]; omega
  have HB0 := Lib.hid hB0
  have HC0 := Lib.hid hc0
  have HC1 := Lib.hid hc1
  have HP := Lib.hid hp
  have HQ := Lib.hid hq
  have HLR := Lib.hid hlr
  have HLC := Lib.hid hlc
  have d1 : decide ((k : Int) < 1) = false := decide_eq_false (by omega)
  have d2 : decide ((64 : Int) < (k : Int)) = false := decide_eq_false (by omega)
  have d3 : decide ((m : Int) < 1) = false := decide_eq_false (by omega)
  have d4 : decide ((64 : Int) < (m : Int)) = false := decide_eq_false (by omega)
  have dk : ((k : Int) != (k : Int)) = false := by simp
  have dm : ((m : Int) != (m : Int)) = false := by simp
  have hm0 : (0 : Int) < (m : Int) := by omega
  have hk0 : (0 : Int) < (k : Int) := by omega
  clear hB0 hc0 hc1 hp hq hlr hlc
  go_enter Try.func5, Try.ntmps5
  go_wp2_with fail
  refine (awakeG _ _ (Below.refl _ _)).mono ?_
  rintro e w1 ⟨rfl, hB1⟩
  have hx0 : w1.cell? ⟨w.heap.size, 0, none⟩ = some (.int .i64 (k : Int)) := by rw [hB1.cell (by exact hs0)]; exact HC0.out
  have hx1 : w1.cell? ⟨w.heap.size, 1, none⟩ = some (.int .i64 (m : Int)) := by rw [hB1.cell (by exact hs0)]; exact HC1.out
  have HB1 := Lib.hid (bel_step HB0.out hB1)
  clear hB1
  go_wp2
  go_quiet (fail)
  go_wp2_with fail
  refine (cauchy_ok k m _ hk1 hk2 hm1 hm2).mono ?_
  rintro e w3 ⟨G, D, rfl, hM3, hB3⟩
  have HM3 := Lib.hid (⟨hM3.hds, hM3.row, hM3.inj, hM3.ne, fun i _ => Nat.zero_le _, Nat.zero_le _⟩ : Mp w3 0 G m m k D (cau k))
  have HB3 := Lib.hid (bel_step (bel_dr HB1.out ((Dr.refl _).drewN _)) hB3)
  have hgb := (Good.mats (cau k) hm1 hm2 hk1 hk2).true_
  clear hM3 hB3 HB1 hx0 hx1 hs0 HB0 HC0 HC1
  go_wp2_with fail
  refine (good_any (rowsL m k (cau k)) _ m m w3 HM3.out.prt (rowsL_length _ _ _) (by omega)).mono ?_
  rintro e w4 ⟨rfl, hB4⟩
  have HM4 := Lib.hid (HM3.out.of_below hB4)
  have HB4 := Lib.hid (bel_step HB3.out hB4)
  have hx4 := HM4.out.cellH 0 (by omega) (by omega)
  clear hB4 HM3 HB3
  go_wp2
  clear hx4 hgb
  go_loopw [92] (fun i wr => ∃ n : Nat, n ≤ 8 ∧ i = .int .i64 n ∧ Dr w4 wr) (fun i _ => 8 - (intOf i).toNat)
  case atStart => exact ⟨0, Nat.zero_le _, rfl, Dr.refl _⟩
  case round =>
    obtain ⟨n, hn, rfl, hD⟩ := hrel
    have HD := Lib.hid hD
    clear hD
    by_cases hlt : n < 8
    · have hd0 : decide ((n : Int) < 8) = true := decide_eq_true (by omega)
      have i1 : IntKind.i64.wrap (7 * (n : Int)) = 7 * (n : Int) := IntWalk.i64_in _ (by omega)
      have i2 : IntKind.i64.wrap (7 * (n : Int) + 3) = 7 * (n : Int) + 3 := IntWalk.i64_in _ (by omega)
      have i3 : IntKind.i64.wrap (5 * (n : Int)) = 5 * (n : Int) := IntWalk.i64_in _ (by omega)
      have i4 : IntKind.i64.wrap (5 * (n : Int) + 1) = 5 * (n : Int) + 1 := IntWalk.i64_in _ (by omega)
      obtain ⟨I, hI⟩ : ∃ I, I = (7 * n + 3) % m := ⟨_, rfl⟩
      obtain ⟨J, hJ⟩ : ∃ J, J = (5 * n + 1) % k := ⟨_, rfl⟩
      have hIm : I < m := by rw [hI]; exact Nat.mod_lt _ (by omega)
      have hJk : J < k := by rw [hJ]; exact Nat.mod_lt _ (by omega)
      have q1 : (7 * (n : Int) + 3) % (m : Int) = (I : Int) := by rw [hI]; simp
      have q2 : (5 * (n : Int) + 1) % (k : Int) = (J : Int) := by rw [hJ]; simp
      clear hI hJ
      go_wp2
      go_quiet (fail)
      simp only [q1, q2]
      clear i1 i2 i3 i4 q1 q2
      have HD2 := Lib.hid (HD.out.drewN nq)
      generalize wr.drewN nq = w5 at *
      have y1 := (HM4.out.dr HD2.out).cellH I hIm hIm
      have y2 := (HM4.out.dr HD2.out).cell I J hIm hJk
      have y3 : (I : Int) < (m : Int) := by omega
      have y4 : (J : Int) < (k : Int) := by omega
      have y5 : (cau k I J != cau k I J) = false := by simp
      have z1 : k + I < 256 := by omega
      have z2 : J < 256 := by omega
      have z3 : k + I ≠ J := by omega
      go_wp2
      go_quiet ((go_at_call 23; exact Calls.quiet_of_same (refCauchyQ k I J z1 z2 z3 _)))
      go_wp2
      go_roundw
      case rel => exact ⟨n + 1, by omega, by go_num, HD2.out.drewN _⟩
      case measure => simp [intOf]; omega
    · have hd0 : decide ((n : Int) < 8) = false := decide_eq_false (by omega)
      have HM5 := Lib.hid (HM4.out.dr HD.out)
      have HB5 := Lib.hid (bel_dr HB4.out HD.out)
      clear HM4 HB4
      rename World => W5
      obtain ⟨T0, hT⟩ : ∃ T0, T0 = min R C := ⟨_, rfl⟩
      have hT1 : T0 ≤ R := by omega
      have hT2 : T0 ≤ C := by omega
      have hT3 : min R C = T0 := hT.symm
      have HT := Lib.hid hT
      clear hT
      go_wp2
      try rw [hT3]
      try rw [show min (R : Int) (C : Int) = (T0 : Int) by omega]
      clear hT3
      generalize hN5 : W5.heap.size = N at *
      have HN5 := Lib.hid hN5
      clear hN5
      go_loopw [14, 15, 123] (fun r s i wr => ∃ t : Nat, t ≤ T0 ∧ i = .int .i64 t ∧ ∃ (len : Nat) (rl sl : List Nat), rl.length = len ∧ sl.length = len ∧ len ≤ t ∧ (∃ a c, r = .slice a len c) ∧ (∃ a c, s = .slice a len c) ∧ Pr wr N r s rl sl ∧ Picks m rl ∧ Picks k sl ∧ Below N W5 wr) (fun _ _ i _ => T0 - (intOf i).toNat)
      case atStart => exact ⟨0, Nat.zero_le _, rfl, 0, [], [], rfl, rfl, Nat.le_refl _, ⟨none, 0, rfl⟩, ⟨none, 0, rfl⟩, Pr.nil _ _, Picks.nil _, Picks.nil _, Below.refl _ _⟩
      case round =>
        obtain ⟨t, ht, rfl, len, rl, sl, hrl, hsl, hlen, ⟨ra, rc, rfl⟩, ⟨sa, sc, rfl⟩, hPr, hPK1, hPK2, hB⟩ := hrel
        have HRL := Lib.hid hrl
        have HSL := Lib.hid hsl
        have HPR := Lib.hid hPr
        have HPK1 := Lib.hid hPK1
        have HPK2 := Lib.hid hPK2
        have HB := Lib.hid hB
        clear hrl hsl hPr hPK1 hPK2 hB
        by_cases htT : t < T0
        · have hdt : decide ((t : Int) < (T0 : Int)) = true := decide_eq_true (by omega)
          obtain ⟨c1, o1, rfl, hx1⟩ := HP.out t (by rw [HLR.out]; omega)
          obtain ⟨c2, o2, rfl, hx2⟩ := HQ.out t (by rw [HLC.out]; omega)
          have y1 : wr.cell? ⟨c1, o1 + t, none⟩ = some (B (lr.getD t 0#8)) := by
            rw [HB.out.cell (by rw [← HN5.out]; exact World.block_lt_of_cell? W5 (⟨c1, o1 + t, none⟩ : Addr) (by rw [HB5.out.cell (World.block_lt_of_cell? w _ hx1)]; exact hx1)), HB5.out.cell (World.block_lt_of_cell? w _ hx1)]; exact hx1
          have y2 : wr.cell? ⟨c2, o2 + t, none⟩ = some (B (lc.getD t 0#8)) := by
            rw [HB.out.cell (by rw [← HN5.out]; exact World.block_lt_of_cell? W5 (⟨c2, o2 + t, none⟩ : Addr) (by rw [HB5.out.cell (World.block_lt_of_cell? w _ hx2)]; exact hx2)), HB5.out.cell (World.block_lt_of_cell? w _ hx2)]; exact hx2
          generalize lr.getD t 0#8 = bx at *
          generalize lc.getD t 0#8 = cx at *
          have lb := bx.isLt
          have lc' := cx.isLt
          have ltR : (t : Int) < (R : Int) := by omega
          have ltC : (t : Int) < (C : Int) := by omega
          obtain ⟨A, hA⟩ : ∃ A, A = bx.toNat % m := ⟨_, rfl⟩
          obtain ⟨Bn, hBn⟩ : ∃ Bn, Bn = cx.toNat % k := ⟨_, rfl⟩
          have hAm : A < m := by rw [hA]; exact Nat.mod_lt _ (by omega)
          have hBk : Bn < k := by rw [hBn]; exact Nat.mod_lt _ (by omega)
          have q1 : (bx.toNat : Int) % (m : Int) = (A : Int) := by rw [hA]; simp
          have q2 : (cx.toNat : Int) % (k : Int) = (Bn : Int) := by rw [hBn]; simp
          clear hA hBn hx1 hx2
          go_wp2
          go_quiet (fail)
          simp only [q1, q2]
          clear q1 q2 y1 y2 ltR ltC lb lc'
          have HPR6 := Lib.hid (HPR.out.of_below (below_drewN (Below.refl _ _) nq))
          have HB6 := Lib.hid (below_drewN HB.out nq)
          clear HPR HB
          generalize wr.drewN nq = W6 at *
          go_wp2
          go_loop [19, 20, 142] (fun fr _ j => ∃ jj : Nat, jj ≤ len ∧ j = .int .i64 jj ∧ fr = .bool (frB rl sl A Bn jj)) (fun _ _ j => len - (intOf j).toNat)
          case atStart => exact ⟨0, Nat.zero_le _, rfl, by rw [fr_zero]⟩
          case round =>
            obtain ⟨jj, hjj, rfl, rfl⟩ := hrel
            by_cases hjl : jj < len
            · have hdj : decide ((jj : Int) < (len : Int)) = true := decide_eq_true (by omega)
              have hj0 : (jj : Int) < (len : Int) := by omega
              obtain ⟨p1, u1, e1, hx1⟩ := HPR6.out.own1.cells
              obtain ⟨p2, u2, e2, hx2⟩ := HPR6.out.own2.cells
              obtain ⟨g1, hg1, hc1⟩ := hx1 jj (by rw [HRL.out]; exact hjl)
              obtain ⟨g2, hg2, hc2⟩ := hx2 jj (by rw [HSL.out]; exact hjl)
              injection e1 with e1 _ _
              injection e2 with e2 _ _
              rw [hg1] at e1
              rw [hg2] at e2
              subst e1 e2
              have F1 := Lib.hid (fr_next rl sl A Bn jj)
              have F2 := Lib.hid (fr_no1 rl sl A Bn jj)
              have F3 := Lib.hid (fr_no2 rl sl A Bn jj)
              have F4 := Lib.hid (fr_still rl sl A Bn jj)
              clear hx1 hx2 hg1 hg2
              generalize rl.getD jj 0 = ru at *
              generalize sl.getD jj 0 = su at *
              cases hfr : frB rl sl A Bn jj with
              | true =>
                by_cases h1 : ru = A
                · have n1 : ((ru : Int) != (A : Int)) = false := by simp; omega
                  have n2 : ((ru : Int) == (A : Int)) = true := by simp; omega
                  have HN := Lib.hid (F2.out h1)
                  clear h1
                  go_wp2
                  go_round
                  case rel => exact ⟨jj + 1, by omega, by go_num, by rw [HN.out]⟩
                  case measure => simp [intOf]; omega
                · have n1 : ((ru : Int) != (A : Int)) = true := by simp; omega
                  have n2 : ((ru : Int) == (A : Int)) = false := by simp; omega
                  have n3 : decide (ru = A) = false := decide_eq_false h1
                  by_cases h2 : su = Bn
                  · have n4 : ((su : Int) != (Bn : Int)) = false := by simp; omega
                    have n5 : ((su : Int) == (Bn : Int)) = true := by simp; omega
                    have HN := Lib.hid (F3.out h2)
                    clear h1 h2
                    go_wp2
                    go_round
                    case rel => exact ⟨jj + 1, by omega, by go_num, by rw [HN.out]⟩
                    case measure => simp [intOf]; omega
                  · have n4 : ((su : Int) != (Bn : Int)) = true := by simp; omega
                    have n5 : ((su : Int) == (Bn : Int)) = false := by simp; omega
                    have n6 : decide (su = Bn) = false := decide_eq_false h2
                    have HN := Lib.hid (F1.out hfr h1 h2)
                    clear h1 h2
                    go_wp2
                    go_round
                    case rel => exact ⟨jj + 1, by omega, by go_num, by rw [HN.out]⟩
                    case measure => simp [intOf]; omega
              | false =>
                have HN := Lib.hid (F4.out hfr)
                go_wp2
                go_round
                case rel => exact ⟨jj + 1, by omega, by go_num, by rw [HN.out]⟩
                case measure => simp [intOf]; omega
            · have hdj : decide ((jj : Int) < (len : Int)) = false := decide_eq_false (by omega)
              obtain rfl : jj = len := by omega
              cases hfr : frB rl sl A Bn jj with
              | true =>
                have hN6 : N ≤ W6.heap.size := by have := HB6.out.size; have := HN5.out; omega
                have hbA : Below W6.heap.size W6 (W6.alloc (.cells #[.int .i64 (A : Int)] 3)) := (Below.refl _ _).alloc (Nat.le_refl _) _
                have HPR7 := Lib.hid (HPR6.out.of_below hbA)
                have HC7 := Lib.hid (show (W6.alloc (.cells #[.int .i64 (A : Int)] 3)).cell? ⟨W6.heap.size, 0, none⟩ = some (.int .i64 (A : Int)) by rw [World.cell?_alloc_new]; rfl)
                have hN7 : N ≤ (W6.alloc (.cells #[.int .i64 (A : Int)] 3)).heap.size := by rw [World.size_alloc]; omega
                have HB7 := Lib.hid (show Below N W5 (W6.alloc (.cells #[.int .i64 (A : Int)] 3)) from HB6.out.alloc hN6 _)
                have HK1 := Lib.hid (HPK1.out.push A hAm fun j hj => (of_decide_eq_true hfr j (by rw [HRL.out] at hj; exact hj)).1)
                have HK2 := Lib.hid (HPK2.out.push Bn hBk fun j hj => (of_decide_eq_true hfr j (by rw [HSL.out] at hj; exact hj)).2)
                have HL1 := Lib.hid (show (rl ++ [A]).length = jj + 1 by rw [List.length_append, HRL.out]; rfl)
                have HL2 := Lib.hid (show (sl ++ [Bn]).length = jj + 1 by rw [List.length_append, HSL.out]; rfl)
                clear hbA
                go_wp2_with (first | (refine wpl_pushI _ rfl (.tmp 164) (.tmp 166) rfl N (.slice ra jj rc) rl rfl HPR7.out.own1 ⟨W6.heap.size, 0, none⟩ rfl A HC7.out jj HRL.out (by omega) hN7 ?_; rintro g7 d7 w7 hO7 hg7 ho7; have hP7 := HPR7.out.push hO7 hg7 ho7; have hB7 := HB7.out.grown hg7 hN7 (fun g hg => (HPR7.out.own1.lt g hg).1); have hN8 : N ≤ w7.heap.size := (by have := hB7.size; have := HN5.out; omega); have HPR8 := Lib.hid (hP7.of_below (show Below w7.heap.size w7 (w7.alloc (.cells #[.int .i64 (Bn : Int)] 3)) from (Below.refl _ _).alloc (Nat.le_refl _) _)); have HB8 := Lib.hid (show Below N W5 (w7.alloc (.cells #[.int .i64 (Bn : Int)] 3)) from hB7.alloc hN8 _); have HC8 := Lib.hid (show (w7.alloc (.cells #[.int .i64 (Bn : Int)] 3)).cell? ⟨w7.heap.size, 0, none⟩ = some (.int .i64 (Bn : Int)) from (by rw [World.cell?_alloc_new]; rfl)); have hN9 : N ≤ (w7.alloc (.cells #[.int .i64 (Bn : Int)] 3)).heap.size := (by rw [World.size_alloc]; omega); clear hO7 hg7 ho7 hP7 hB7) | (refine wpl_pushI _ rfl (.tmp 168) (.tmp 170) rfl N (.slice sa jj sc) sl rfl HPR8.out.own2 ⟨w7.heap.size, 0, none⟩ rfl Bn HC8.out jj HSL.out (by omega) hN9 ?_; rintro g8 d8 w8 hO8 hg8 ho8; have HPR9 := Lib.hid (HPR8.out.symm.push hO8 hg8 ho8).symm; have HB9 := Lib.hid (HB8.out.grown hg8 hN9 (fun g hg => (HPR8.out.own2.lt g hg).1)); clear hO8 hg8 ho8))
                go_roundw
                case rel => exact ⟨t + 1, by omega, by go_num, jj + 1, rl ++ [A], sl ++ [Bn], HL1.out, HL2.out, by omega, ⟨_, _, rfl⟩, ⟨_, _, rfl⟩, HPR9.out, HK1.out, HK2.out, HB9.out⟩
                case measure => simp [intOf]; omega
              | false =>
                go_wp2
                go_roundw
                case rel => exact ⟨t + 1, by omega, by go_num, jj, rl, sl, HRL.out, HSL.out, by omega, ⟨_, _, rfl⟩, ⟨_, _, rfl⟩, HPR6.out, HPK1.out, HPK2.out, HB6.out⟩
                case measure => simp [intOf]; omega
        · have hdt : decide ((t : Int) < (T0 : Int)) = false := decide_eq_false (by omega)
          by_cases hz : len = 0
          · have hz0 : (len == 0) = true := by simp; omega
            have HBZ := Lib.hid (HB5.out.trans (HB.out.mono (by have := HB5.out.size; have := HN5.out; omega)))
            have hdz : ((len : Int) == 0) = true := by simp; omega
            clear hz
            go_wp2
            go_ret
            exact ⟨rfl, HBZ.out⟩
          · have hdz : ((len : Int) == 0) = false := by simp; omega
            have hdz2 : decide (len = 0) = false := decide_eq_false hz
            have hdz3 : (len == 0) = false := by simp; omega
            have hlen8 : len ≤ 8 := by omega
            have hl1 : 1 ≤ len := by omega
            have hmk8 : len < 100000000 := by omega
            obtain ⟨p1, u1, e1, hx1⟩ := HPR.out.own1.cells
            obtain ⟨p2, u2, e2, hx2⟩ := HPR.out.own2.cells
            obtain ⟨g1, hg1, -⟩ := hx1 0 (by rw [HRL.out]; omega)
            obtain ⟨g2, hg2, -⟩ := hx2 0 (by rw [HSL.out]; omega)
            rw [HRL.out] at e1
            rw [HSL.out] at e2
            injection e1 with e1 _ _
            injection e2 with e2 _ _
            rw [hg1] at e1
            rw [hg2] at e2
            subst e1 e2
            have HR1 := Lib.hid (show ∀ j, j < len → wr.cell? ⟨g1, j, none⟩ = some (.int .i64 ((rl.getD j 0 : Nat) : Int)) from fun j hj => by
              obtain ⟨g, hg, hc⟩ := hx1 j (by rw [HRL.out]; exact hj)
              rw [hg1] at hg
              injection hg with hg
              injection hg with hg _
              subst hg
              exact hc)
            have HS1 := Lib.hid (show ∀ j, j < len → wr.cell? ⟨g2, j, none⟩ = some (.int .i64 ((sl.getD j 0 : Nat) : Int)) from fun j hj => by
              obtain ⟨g, hg, hc⟩ := hx2 j (by rw [HSL.out]; exact hj)
              rw [hg2] at hg
              injection hg with hg
              injection hg with hg _
              subst hg
              exact hc)
            have HMr := Lib.hid (HM5.out.of_below (by rw [HN5.out]; exact HB.out))
            have HBr := Lib.hid (HB5.out.trans (HB.out.mono (by have := HB5.out.size; have := HN5.out; omega)))
            have hct := Ct.zero (N := wr.heap.size) (Row.new wr 35 len (fun _ => .slice none 0 0)) (Nat.le_refl _)
            have hbz : Below wr.heap.size wr (wr.alloc (.cells (tab len (fun _ => .slice none 0 0)) 35)) := (Below.refl _ _).alloc (Nat.le_refl _) _
            have HCT := Lib.hid hct
            have HBZ := Lib.hid hbz
            clear hct hbz hx1 hx2 hg1 hg2 HB HPR HM5 HB5 hz
            rename World => WS
            go_wp2
            generalize WS.alloc (.cells (tab len (fun _ => .slice none 0 0)) 35) = WT at *
            generalize hM0 : WS.heap.size = M0 at *
            have HM0 := Lib.hid hM0
            clear hM0
            go_loopw [181] (fun i wv => ∃ i0 : Nat, i0 ≤ len ∧ i = .int .i64 i0 ∧ ∃ V, Ct wv M0 M0 len V (fun i => if i < i0 then rowL len (cutM k rl sl) i else []) ∧ Below M0 WS wv) (fun i _ => len - (intOf i).toNat)
            case atStart => exact ⟨0, Nat.zero_le _, rfl, _, HCT.out.congr fun i hi => by rw [if_neg (by omega)], HBZ.out⟩
            case round =>
              clear HCT HBZ
              obtain ⟨i0, hi0, rfl, V, hC, hB⟩ := hrel
              rename World => WV
              have HC := Lib.hid hC
              have HB := Lib.hid hB
              clear hC hB
              by_cases hi : i0 < len
              · have hdi : decide ((i0 : Int) < (len : Int)) = true := decide_eq_true (by omega)
                have hi00 : (i0 : Int) < (len : Int) := by omega
                have HC1 := Lib.hid (HC.out.congr (L' := setL (fun i => if i < i0 then rowL len (cutM k rl sl) i else []) i0 (rowL 0 (cutM k rl sl) i0)) fun i _ => by
                  unfold setL
                  by_cases h : i = i0
                  · rw [if_pos h, h, if_neg (by omega)]; rfl
                  · rw [if_neg h])
                clear HC
                go_wp2
                go_loopw [186] (fun i wv => ∃ j : Nat, j ≤ len ∧ i = .int .i64 j ∧ ∃ V, Ct wv M0 M0 len V (setL (fun i => if i < i0 then rowL len (cutM k rl sl) i else []) i0 (rowL j (cutM k rl sl) i0)) ∧ Below M0 WS wv) (fun i _ => len - (intOf i).toNat)
                case atStart => exact ⟨0, Nat.zero_le _, rfl, V, HC1.out, HB.out⟩
                case round =>
                  clear HC1 HB
                  obtain ⟨j, hj, rfl, V, hC, hB⟩ := hrel
                  rename World => WW
                  have HC := Lib.hid hC
                  have HB := Lib.hid hB
                  by_cases hjl : j < len
                  · have hdj : decide ((j : Int) < (len : Int)) = true := decide_eq_true (by omega)
                    have hj0 : (j : Int) < (len : Int) := by omega
                    have kp : ∀ a : Addr, ∀ v, WS.cell? a = some v → WW.cell? a = some v := fun a v h => by
                      rw [hB.cell (by rw [← HM0.out]; exact World.block_lt_of_cell? WS a h)]; exact h
                    have hru : rl.getD i0 0 < m := (HPK1.out i0 (by rw [HRL.out]; exact hi)).1
                    have hsu : sl.getD j 0 < k := (HPK2.out j (by rw [HSL.out]; exact hjl)).1
                    have x1 := kp _ _ (HR1.out i0 hi)
                    have x2 := kp _ _ (HS1.out j hjl)
                    have x3 := kp _ _ (HMr.out.cellH (rl.getD i0 0) hru hru)
                    have x4 := kp _ _ (HMr.out.cell (rl.getD i0 0) (sl.getD j 0) hru hsu)
                    have hown := hC.own i0 hi
                    rw [show setL (fun i => if i < i0 then rowL len (cutM k rl sl) i else []) i0 (rowL j (cutM k rl sl) i0) i0 = rowL j (cutM k rl sl) i0 from if_pos rfl] at hown
                    obtain ⟨qv, cv, hVi, -, -, -⟩ := hown.shape
                    rw [rowL_length] at hVi
                    have x5 := hC.hds.cell i0 hi
                    rw [hVi] at x5
                    have x6 : WW.frozen? ⟨M0, i0, none⟩ = false := hC.hds.free i0
                    have hMlt : M0 < WW.heap.size := hC.hds.lt
                    have HVI := Lib.hid hVi
                    have HNX := Lib.hid (show rowL j (cutM k rl sl) i0 ++ [cau k (rl.getD i0 0) (sl.getD j 0)] = rowL (j + 1) (cutM k rl sl) i0 from (range_snoc _ _).symm)
                    have HLW := Lib.hid (rowL_length j (cutM k rl sl) i0)
                    generalize hcx : cau k (rl.getD i0 0) (sl.getD j 0) = bx at *
                    generalize rl.getD i0 0 = ru at *
                    generalize sl.getD j 0 = su at *
                    have y1 : (ru : Int) < (m : Int) := by omega
                    have y2 : (su : Int) < (k : Int) := by omega
                    have hMW : M0 ≤ WW.heap.size := by have := hB.size; have := HM0.out; omega
                    have hbA : Below WW.heap.size WW (WW.drew.alloc (.cells #[B bx] 5)) := ((Below.refl _ _).drew).alloc (Nat.le_refl _) _
                    have HCW := Lib.hid (hC.of_below hbA)
                    have HOW := Lib.hid (hown.of_below hbA)
                    have HBW := Lib.hid (show Below M0 WS (WW.drew.alloc (.cells #[B bx] 5)) from (hB.drew).alloc hMW _)
                    have HXW := Lib.hid (show (WW.drew.alloc (.cells #[B bx] 5)).cell? ⟨WW.heap.size, 0, none⟩ = some (B bx) from World.cell?_alloc_new _ _ _ _)
                    have hMW2 : M0 ≤ (WW.drew.alloc (.cells #[B bx] 5)).heap.size := by rw [World.size_alloc]; exact Nat.le_succ_of_le hMW
                    rw [hVi] at hown
                    have HOW2 := Lib.hid (show OwnB (WW.drew.alloc (.cells #[B bx] 5)) M0 (.slice qv j cv) (rowL j (cutM k rl sl) i0) from by rw [← HVI.out]; exact HOW.out)
                    clear kp hC hB hown hVi hbA hcx HOW
                    go_wp2
                    go_region_law (first | (refine step_pushB rfl (.tmp 195) (.tmp 206) rfl M0 (.slice qv j cv) (rowL j (cutM k rl sl) i0) rfl HOW2.out ⟨WW.heap.size, 0, none⟩ rfl bx HXW.out j HLW.out (by omega) hMW2 ?_; rintro g9 d9 w9 hO9 hg9 ho9; have r9 := HCW.out.hds.of_block (hg9.block M0 HCW.out.hds.lt (by rw [← HVI.out]; exact Ne.symm (HCW.out.neG i0 hi))); have c9 : (w9.cell? ⟨M0, i0, none⟩).isSome = true := (by rw [r9.cell i0 hi]; rfl); have f9 : w9.frozen? ⟨M0, i0, none⟩ = false := r9.free i0; have HC9 := Lib.hid (HCW.out.push i0 hi hO9 (by rw [HVI.out]; exact hg9) (by rw [HVI.out]; exact ho9)); have HB9 := Lib.hid (HBW.out.grown hg9 hMW2 (fun g hg => (HOW2.out.lt g hg).1)); clear hO9 hg9 ho9 r9))
                    all_goals
                      go_wp2
                      go_roundw
                      case rel =>
                        refine ⟨j + 1, by omega, by go_num, _, HC9.out.congr fun i _ => ?_, HB9.out.setCell (Nat.le_refl _) _⟩
                        unfold setL
                        by_cases h : i = i0
                        · rw [if_pos h, if_pos h, HNX.out]
                        · rw [if_neg h, if_neg h]
                          exact (if_neg h).symm
                      case measure => simp [intOf]; omega
                  · have hdj : decide ((j : Int) < (len : Int)) = false := decide_eq_false (by omega)
                    obtain rfl : j = len := by omega
                    clear hC hB
                    go_wp2
                    go_roundw
                    case rel =>
                      refine ⟨i0 + 1, by omega, by go_num, V, HC.out.congr fun i hi => ?_, HB.out⟩
                      unfold setL
                      by_cases h : i = i0
                      · rw [if_pos h, h, if_pos (by omega)]
                      · rw [if_neg h]
                        show (if i < i0 then rowL j (cutM k rl sl) i else []) = _
                        by_cases h2 : i < i0
                        · rw [if_pos h2, if_pos (by omega)]
                        · rw [if_neg h2, if_neg (by omega)]
                    case measure => simp [intOf]; omega
              · have hdi : decide ((i0 : Int) < (len : Int)) = false := decide_eq_false (by omega)
                obtain rfl : i0 = len := by omega
                have hprt := (HC.out.congr (L' := rowL i0 (cutM k rl sl)) fun i hi => if_pos hi).prt
                have hB2 := HBr.out.trans (HB.out.mono (by have := HBr.out.size; have := HM0.out; omega))
                have HPT := Lib.hid (show Prt WV (some ⟨M0, 0, none⟩) (rowsL i0 i0 (cutM k rl sl)) from hprt)
                have HB2 := Lib.hid hB2
                have HNO := Lib.hid (cut_not k m i0 rl sl hk2 hm2 HPK1.out HPK2.out HRL.out HSL.out)
                have dl : ((i0 : Int) == (i0 : Int)) = true := by simp
                clear hprt hB2 HC HB
                go_wp2_with fail
                refine (newG w WV HB2.out).mono ?_
                rintro e w7 ⟨rfl, hG7, hB7⟩
                have HP7 := Lib.hid (HPT.out.of_below hB7)
                have HG7 := Lib.hid hG7
                clear hG7 hB7 HPT HB2
                go_wp2_with fail
                refine (inv_of HG7.out.1 HP7.out (Good.mats _ hl1 (by omega) hl1 (by omega)) HNO.out).mono ?_
                rintro e w8 ⟨G8, v, rfl, hiv, hpv, hB8⟩
                have HP8 := Lib.hid (HP7.out.of_below hB8)
                have HV8 := Lib.hid hpv
                have HI8 := Lib.hid hiv
                have HB8 := Lib.hid (bel_step HG7.out.bel hB8)
                clear hiv hpv hB8 HP7 HG7
                go_wp2_with fail
                refine (refMulG (rowsL i0 i0 (cutM k rl sl)) (rowsL i0 i0 v) _ _ i0 i0 i0 i0 i0 w8 HP8.out HV8.out (Good.mats _ hl1 (by omega) hl1 (by omega)) (Good.mats _ hl1 (by omega) hl1 (by omega))).mono ?_
                rintro e w9 ⟨q9, c9, rfl, hp9, hB9⟩
                have HP9 := Lib.hid hp9
                have HB9 := Lib.hid (bel_step HB8.out hB9)
                have hu1 := mul_unit_r (rowsL i0 i0 (cutM k rl sl)) i0 v HI8.out
                clear hp9 hB9 HB8 HP8 HV8
                go_wp2_with fail
                refine (refUnitG i0 i0 (mm i0 (mx (rowsL i0 i0 (cutM k rl sl))) (mx (rowsL i0 i0 v))) q9 c9 w9 HP9.out (by omega) (by omega)).mono ?_
                rintro e w10 ⟨he, rfl⟩
                obtain rfl := he.trans (by rw [show unitB (rowsL i0 i0 (mm i0 (mx (rowsL i0 i0 (cutM k rl sl))) (mx (rowsL i0 i0 v)))) = true from hu1] : _ = Ending.returned (.bool true))
                go_wp2
                go_ret
                exact ⟨rfl, HB9.out⟩
end
end Go.Proofs.Ytfilicbbkaifcaa
