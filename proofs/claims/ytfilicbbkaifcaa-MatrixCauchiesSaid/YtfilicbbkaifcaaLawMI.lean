/- The statement MatrixInverts, walked. -/
import Derived.Test.YtfilicbbkaifcaaKnown3
set_option linter.unusedSimpArgs false
set_option linter.unusedVariables false
namespace Go.Proofs.Ytfilicbbkaifcaa
open Go Go.RowKit

theorem mul_unit_r (la : List (List (BitVec 8))) (n : Nat) (v : Mx) (h : IsInv n (mx la) v) : unitB (mulL n n n la (rowsL n n v)) = true := decide_eq_true fun i hi j hj => by
  have hi' : i < n := by simpa [mulL] using hi
  have hj' : j < n := by
    have : ((mulL n n n la (rowsL n n v)).getD i []).length = n := rowsL_len n n (mm n (mx la) (mx (rowsL n n v))) i hi'
    omega
  have e : mx (mulL n n n la (rowsL n n v)) i j = mm n (mx la) (mx (rowsL n n v)) i j := rowsL_mx n n (mm n (mx la) (mx (rowsL n n v))) i j hi' hj'
  rw [e, ← h.2 i j hi' hj']
  exact mm_congr (fun _ _ => rfl) fun l hl => rowsL_mx n n v l j hl hj'
theorem mul_unit_l (la : List (List (BitVec 8))) (n : Nat) (v : Mx) (h : IsInv n (mx la) v) : unitB (mulL n n n (rowsL n n v) la) = true := decide_eq_true fun i hi j hj => by
  have hi' : i < n := by simpa [mulL] using hi
  have hj' : j < n := by
    have : ((mulL n n n (rowsL n n v) la).getD i []).length = n := rowsL_len n n (mm n (mx (rowsL n n v)) (mx la)) i hi'
    omega
  have e : mx (mulL n n n (rowsL n n v) la) i j = mm n (mx (rowsL n n v)) (mx la) i j := rowsL_mx n n (mm n (mx (rowsL n n v)) (mx la)) i j hi' hj'
  rw [e, ← h.1 i j hi' hj']
  exact mx_rows n n v n (mx la) i j hi' (Nat.le_refl _)
/-- The product of two matrices, and whether it is the unit. -/
theorem refMulG (la lb : List (List (BitVec 8))) (p q : Option Addr) (n k m cap cap' : Nat) (w : World) (ha : Prt w p la) (hb : Prt w q lb) (ga : Good la n k) (gb : Good lb k m) :
    Calls Try.prog 18 #[.slice p n cap, .slice q k cap'] w fun e w' => ∃ r c, e = .returned (.slice r n c) ∧ Prt w' r (mulL n k m la lb) ∧ Below w.heap.size w w' := by
  have g1 := ga.hi
  have g3 := gb.lo
  have g4 := gb.hi
  have g5 := gb.mhi
  refine (refMulM_any la lb p q n k m cap cap' w ha hb ga.len gb.len ga.rows gb.rows (by omega) (by omega) (by omega) (by omega)).mono ?_
  rintro e w' ⟨v, rfl, hO, hB⟩
  obtain ⟨r, c, rfl, hp, -, -⟩ := hO.prt
  exact ⟨r, c, by simp [mulL], hp, hB⟩
theorem refUnitG (n m : Nat) (a : Mx) (p : Option Addr) (cap : Nat) (w : World) (hs : Prt w p (rowsL n m a)) (hn : n ≤ 64) (hm : m ≤ 64) :
    Calls Try.prog 21 #[.slice p n cap] w fun e w' => e = .returned (.bool (unitB (rowsL n m a))) ∧ w = w' :=
  refUnit_any (rowsL n m a) p n cap w hs (rowsL_length _ _ _) (by omega) (fun i hi => by rw [rowsL_length] at hi; rw [rowsL_len _ _ _ _ hi]; omega)
section
variable (la : List (List (BitVec 8))) (p : Option Addr) (n cap : Nat) (w : World) (ha : Prt w p la) (hla : la.length = n) (hn : n < 9223372036854775808)
include ha hla hn in
set_option maxHeartbeats 2000000 in
theorem mi_a (h : fewB la = false) : Calls Try.prog 4 #[.slice p n cap] w fun e w' => e = .returned (.bool true) ∧ Below w.heap.size w w' := by
  have HA := Lib.hid ha
  have HL := Lib.hid hla
  clear ha hla
  go_enter Try.func4, Try.ntmps4
  go_wp2_with fail
  refine (awakeG w w (Below.refl _ _)).mono ?_
  rintro e w1 ⟨rfl, hB1⟩
  have HB1 := Lib.hid hB1
  clear hB1
  go_wp2_with fail
  refine (few_any la p n cap w1 (HA.out.of_below HB1.out) HL.out hn).mono ?_
  rintro e w2 ⟨rfl, rfl⟩
  go_wp2_with fail
  refine (awakeG w w1 HB1.out).mono ?_
  rintro e w2 ⟨rfl, hB2⟩
  have HB2 := Lib.hid hB2
  clear hB2
  go_wp2
  go_ret
  exact ⟨rfl, HB2.out⟩
include ha hla in
set_option maxRecDepth 100000 in
set_option maxHeartbeats 8000000 in
theorem mi_b (h : fewB la = true) : Calls Try.prog 4 #[.slice p n cap] w fun e w' => e = .returned (.bool true) ∧ Below w.heap.size w w' := by
  have hn5 : n ≤ 5 := by rw [← hla]; exact (of_decide_eq_true h).1
  have HA := Lib.hid ha
  have HL := Lib.hid hla
  have HFA := Lib.hid h
  have hsa : sameB la la = true := decide_eq_true rfl
  clear ha hla
  go_enter Try.func4, Try.ntmps4
  go_wp2_with fail
  refine (awakeG w w (Below.refl _ _)).mono ?_
  rintro e w1 ⟨rfl, hB1⟩
  have HB1 := Lib.hid hB1
  clear hB1
  go_wp2_with fail
  refine (few_any la p n cap w1 (HA.out.of_below HB1.out) HL.out (by omega)).mono ?_
  rintro e w2 ⟨rfl, rfl⟩
  go_wp2_with fail
  refine (copG la p n cap w1 (HA.out.of_below HB1.out) HL.out HFA.out).mono ?_
  rintro e w2 ⟨q1, c1, rfl, hp2, hB2⟩
  have HP2 := Lib.hid hp2
  have HB2 := Lib.hid (bel_step HB1.out hB2)
  clear hp2 hB2 HB1
  go_wp2_with fail
  refine (newG w w2 HB2.out).mono ?_
  rintro e w4 ⟨rfl, hG4, hB4⟩
  have HP4 := Lib.hid (HP2.out.of_below hB4)
  have HG4 := Lib.hid hG4
  clear hG4 hB4 HP2 HB2
  generalize w2.heap.size = b at *
  go_wp2_with fail
  refine (invG b la q1 n c1 w4 HG4.out.1 HP4.out HL.out (by omega)).mono ?_
  rintro e w5 ⟨r, t, rfl, hR5, hB5⟩
  have HR5 := Lib.hid hR5
  have HP5 := Lib.hid (HP4.out.of_below hB5)
  have HG5 := Lib.hid (HG4.out.step hB5)
  clear hR5 hB5 HP4 HG4
  go_wp2_with fail
  refine (sameG la la q1 p n n c1 cap w5 HP5.out (HA.out.of_below HG5.out.bel) HL.out HL.out (by omega) (by omega)).mono ?_
  rintro e w6 ⟨rfl, hD6⟩
  have HD6 := Lib.hid (hD6.below w5.heap.size)
  have HG6 := Lib.hid (HG5.out.dr hD6)
  clear hD6 HP5 HG5
  go_wp2_with fail
  refine (refGood_any la p n cap w6 (HA.out.of_below HG6.out.bel) HL.out (by omega)).mono ?_
  rintro e w7 ⟨rfl, hD7⟩
  have HD7 := Lib.hid (bel_dr HD6.out hD7)
  have HG7 := Lib.hid (HG6.out.dr hD7)
  clear hD7 HG6 HD6
  rcases HR5.out with ⟨ga, rfl, rfl⟩ | ⟨n', m', Ga, hcase⟩
  · clear HR5
    go_wp2
    go_ret
    exact ⟨rfl, HG7.out.bel⟩
  obtain rfl : n' = n := by rw [← Ga.len]; exact HL.out
  have ta := Ga.true_
  have g1 := Ga.lo
  have g2 := Ga.hi
  have GA := Lib.hid Ga
  have hn0 : (0 : Int) < (n' : Int) := by omega
  obtain ⟨c0, o0, q0, cap0, rfl, hc0, hcc0⟩ := HA.out.head (by rw [HL.out]; omega)
  rw [Ga.head] at hcc0
  have hx : w7.cell? ⟨c0, o0, none⟩ = some (.slice q0 m' cap0) := by rw [HG7.out.bel.cell (by exact hc0)]; exact hcc0
  clear Ga hcc0
  rcases hcase with ⟨hne, rfl, rfl⟩ | ⟨rfl, hno, rfl, rfl⟩ | ⟨rfl, hdet, rfl, G, v, rfl, hi, hp⟩
  · have hd1 : ((n' : Int) != (m' : Int)) = true := by simp; omega
    have hd2 : ((n' : Int) == (m' : Int)) = false := by simp; omega
    have hd3 : decide (n' = m') = false := by simp; omega
    clear HR5 hne
    go_wp2
    go_ret
    exact ⟨rfl, HG7.out.bel⟩
  · have hd1 : ((m' : Int) != (m' : Int)) = false := by simp
    have hdz : (det m' (mx la) == 0#8) = true := by simpa using hno.det
    clear HR5 hno
    go_wp2_with fail
    refine (refDet_any m' (by omega) la _ cap w7 (HA.out.of_below HG7.out.bel) HL.out GA.out.rows).mono ?_
    rintro e w8 ⟨rfl, hB8⟩
    have HB8 := Lib.hid (bel_step HG7.out.bel hB8)
    clear hB8
    go_wp2
    go_ret
    exact ⟨rfl, HB8.out⟩
  · have hd1 : ((m' : Int) != (m' : Int)) = false := by simp
    have hdz : (det m' (mx la) == 0#8) = false := by simpa using hdet
    have HP7 := Lib.hid (hp.of_below HD7.out)
    have HI := Lib.hid hi
    have hgb := (Good.mats v g1 g2 g1 g2).true_
    have hu1 := mul_unit_r la m' v hi
    have hu2 := mul_unit_l la m' v hi
    clear HR5 hdet hi hp HD7
    go_wp2_with fail
    refine (refDet_any m' (by omega) la _ cap w7 (HA.out.of_below HG7.out.bel) HL.out GA.out.rows).mono ?_
    rintro e w8 ⟨rfl, hB8⟩
    have HP8 := Lib.hid (HP7.out.of_below hB8)
    have HB8 := Lib.hid (bel_step HG7.out.bel hB8)
    clear hB8 HP7 HG7
    go_wp2_with fail
    refine (refGood_any (rowsL m' m' v) _ m' m' w8 HP8.out (rowsL_length _ _ _) (by omega)).mono ?_
    rintro e w9 ⟨rfl, hD9⟩
    have HP9 := Lib.hid (HP8.out.dr hD9)
    have HB9 := Lib.hid (bel_dr HB8.out hD9)
    clear hD9 HP8 HB8
    go_wp2_with fail
    refine (refMulG la (rowsL m' m' v) _ _ m' m' m' cap m' w9 (HA.out.of_below HB9.out) HP9.out GA.out (Good.mats v g1 g2 g1 g2)).mono ?_
    rintro e w10 ⟨q2, c2, rfl, hp10, hB10⟩
    have HQ10 := Lib.hid hp10
    have HP10 := Lib.hid (HP9.out.of_below hB10)
    have HB10 := Lib.hid (bel_step HB9.out hB10)
    clear hp10 hB10 HP9 HB9
    go_wp2_with fail
    refine (refUnitG m' m' (mm m' (mx la) (mx (rowsL m' m' v))) q2 c2 w10 HQ10.out g2 g2).mono ?_
    rintro e w11 ⟨he, rfl⟩
    obtain rfl := he.trans (by rw [show unitB (rowsL m' m' (mm m' (mx la) (mx (rowsL m' m' v)))) = true from hu1] : _ = Ending.returned (.bool true))
    go_wp2_with fail
    refine (refMulG (rowsL m' m' v) la _ _ m' m' m' m' cap w10 HP10.out (HA.out.of_below HB10.out) (Good.mats v g1 g2 g1 g2) GA.out).mono ?_
    rintro e w12 ⟨q3, c3, rfl, hp12, hB12⟩
    have HQ12 := Lib.hid hp12
    have HB12 := Lib.hid (bel_step HB10.out hB12)
    clear hp12 hB12 HP10 HB10 HQ10
    go_wp2_with fail
    refine (refUnitG m' m' (mm m' (mx (rowsL m' m' v)) (mx la)) q3 c3 w12 HQ12.out g2 g2).mono ?_
    rintro e w13 ⟨he, rfl⟩
    obtain rfl := he.trans (by rw [show unitB (rowsL m' m' (mm m' (mx (rowsL m' m' v)) (mx la))) = true from hu2] : _ = Ending.returned (.bool true))
    go_wp2
    go_ret
    exact ⟨rfl, HB12.out⟩
end
end Go.Proofs.Ytfilicbbkaifcaa
