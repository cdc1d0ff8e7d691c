/- The statement MatrixProducts, walked. -/
import Derived.Test.YtfilicbbkaifcaaKnown3
set_option linter.unusedSimpArgs false
set_option linter.unusedVariables false
namespace Go.Proofs.Ytfilicbbkaifcaa
open Go Go.RowKit

section
variable (la lb : List (List (BitVec 8))) (p q : Option Addr) (n m cap cap' : Nat) (w : World) (ha : Prt w p la) (hb : Prt w q lb) (hla : la.length = n) (hlb : lb.length = m) (hn : n < 9223372036854775808) (hm : m < 9223372036854775808)
include ha hla hn in
set_option maxHeartbeats 2000000 in
theorem mp_a (h : fewB la = false) : Calls Try.prog 3 #[.slice p n cap, .slice q m cap'] w fun e w' => e = .returned (.bool true) ∧ Below w.heap.size w w' := by
  have HA := Lib.hid ha
  have HL := Lib.hid hla
  clear ha hla
  go_enter Try.func3, Try.ntmps3
  go_wp2_with fail
  refine (awakeG w w (Below.refl _ _)).mono ?_
  rintro e w1 ⟨rfl, hB1⟩
  have HB1 := Lib.hid hB1
  clear hB1
  go_wp2_with fail
  refine (few_any la p n cap w1 (HA.out.of_below HB1.out) HL.out hn).mono ?_
  rintro e w2 ⟨rfl, rfl⟩
  go_wp2_with fail
  refine (awakeG w w1 HB1.out).mono ?_
  rintro e w2 ⟨rfl, hB2⟩
  have HB2 := Lib.hid hB2
  clear hB2
  go_wp2
  go_ret
  exact ⟨rfl, HB2.out⟩
include ha hla hn hb hlb hm in
set_option maxHeartbeats 2000000 in
theorem mp_b (h : fewB la = true) (h2 : fewB lb = false) : Calls Try.prog 3 #[.slice p n cap, .slice q m cap'] w fun e w' => e = .returned (.bool true) ∧ Below w.heap.size w w' := by
  have HA := Lib.hid ha
  have HL := Lib.hid hla
  have HB := Lib.hid hb
  have HLB := Lib.hid hlb
  clear ha hla hb hlb
  go_enter Try.func3, Try.ntmps3
  go_wp2_with fail
  refine (awakeG w w (Below.refl _ _)).mono ?_
  rintro e w1 ⟨rfl, hB1⟩
  have HB1 := Lib.hid hB1
  clear hB1
  go_wp2_with fail
  refine (few_any la p n cap w1 (HA.out.of_below HB1.out) HL.out hn).mono ?_
  rintro e w2 ⟨rfl, rfl⟩
  go_wp2_with fail
  refine (few_any lb q m cap' w1 (HB.out.of_below HB1.out) HLB.out hm).mono ?_
  rintro e w2 ⟨rfl, rfl⟩
  go_wp2_with fail
  refine (awakeG w w1 HB1.out).mono ?_
  rintro e w2 ⟨rfl, hB2⟩
  have HB2 := Lib.hid hB2
  clear hB2
  go_wp2
  go_ret
  exact ⟨rfl, HB2.out⟩
include ha hla hb hlb in
set_option maxRecDepth 100000 in
set_option maxHeartbeats 8000000 in
theorem mp_ab (h : fewB la = true) (h2 : fewB lb = true) : Calls Try.prog 3 #[.slice p n cap, .slice q m cap'] w fun e w' => e = .returned (.bool true) ∧ Below w.heap.size w w' := by
  have hn5 : n ≤ 5 := by rw [← hla]; exact (of_decide_eq_true h).1
  have hm5 : m ≤ 5 := by rw [← hlb]; exact (of_decide_eq_true h2).1
  have HA := Lib.hid ha
  have HL := Lib.hid hla
  have HB := Lib.hid hb
  have HLB := Lib.hid hlb
  have HFA := Lib.hid h
  have HFB := Lib.hid h2
  have hsa : sameB la la = true := decide_eq_true rfl
  have hsb : sameB lb lb = true := decide_eq_true rfl
  clear ha hla hb hlb
  go_enter Try.func3, Try.ntmps3
  go_wp2_with fail
  refine (awakeG w w (Below.refl _ _)).mono ?_
  rintro e w1 ⟨rfl, hB1⟩
  have HB1 := Lib.hid hB1
  clear hB1
  go_wp2_with fail
  refine (few_any la p n cap w1 (HA.out.of_below HB1.out) HL.out (by omega)).mono ?_
  rintro e w2 ⟨rfl, rfl⟩
  go_wp2_with fail
  refine (few_any lb q m cap' w1 (HB.out.of_below HB1.out) HLB.out (by omega)).mono ?_
  rintro e w2 ⟨rfl, rfl⟩
  go_wp2_with fail
  refine (copG la p n cap w1 (HA.out.of_below HB1.out) HL.out HFA.out).mono ?_
  rintro e w2 ⟨q1, c1, rfl, hp2, hB2⟩
  have HP2 := Lib.hid hp2
  have HB2 := Lib.hid (bel_step HB1.out hB2)
  clear hp2 hB2 HB1
  go_wp2_with fail
  refine (copG lb q m cap' w2 (HB.out.of_below HB2.out) HLB.out HFB.out).mono ?_
  rintro e w3 ⟨q2, c2, rfl, hq3, hB3⟩
  have HP3 := Lib.hid (HP2.out.of_below hB3)
  have HQ3 := Lib.hid hq3
  have HB3 := Lib.hid (bel_step HB2.out hB3)
  clear hq3 hB3 HB2 HP2
  go_wp2_with fail
  refine (newG w w3 HB3.out).mono ?_
  rintro e w4 ⟨rfl, hG4, hB4⟩
  have HP4 := Lib.hid (HP3.out.of_below hB4)
  have HQ4 := Lib.hid (HQ3.out.of_below hB4)
  have HG4 := Lib.hid hG4
  clear hG4 hB4 HP3 HQ3 HB3
  generalize w3.heap.size = b at *
  go_wp2_with fail
  refine (mulG b la lb q1 q2 n m c1 c2 w4 HG4.out.1 HP4.out HQ4.out HL.out HLB.out (by omega) (by omega)).mono ?_
  rintro e w5 ⟨r, t, rfl, hR5, hB5⟩
  have HR5 := Lib.hid hR5
  have HP5 := Lib.hid (HP4.out.of_below hB5)
  have HQ5 := Lib.hid (HQ4.out.of_below hB5)
  have HG5 := Lib.hid (HG4.out.step hB5)
  clear hR5 hB5 HP4 HQ4 HG4
  go_wp2_with fail
  refine (sameG la la q1 p n n c1 cap w5 HP5.out (HA.out.of_below HG5.out.bel) HL.out HL.out (by omega) (by omega)).mono ?_
  rintro e w6 ⟨rfl, hD6⟩
  have HQ6 := Lib.hid (HQ5.out.dr hD6)
  have HD6 := Lib.hid (hD6.below w5.heap.size)
  have HG6 := Lib.hid (HG5.out.dr hD6)
  clear hD6 HQ5 HP5 HG5
  go_wp2_with fail
  refine (sameG lb lb q2 q m m c2 cap' w6 HQ6.out (HB.out.of_below HG6.out.bel) HLB.out HLB.out (by omega) (by omega)).mono ?_
  rintro e w7 ⟨rfl, hD7⟩
  have HD7 := Lib.hid (bel_dr HD6.out hD7)
  have HG7 := Lib.hid (HG6.out.dr hD7)
  clear hD7 HQ6 HG6 HD6
  go_wp2_with fail
  refine (good_any la p n cap w7 (HA.out.of_below HG7.out.bel) HL.out (by omega)).mono ?_
  rintro e w8 ⟨rfl, hB8⟩
  have HD8 := Lib.hid (bel_step HD7.out hB8)
  have HG8 := Lib.hid (HG7.out.step hB8)
  clear hB8 HG7 HD7
  go_wp2_with fail
  refine (refGood_any la p n cap w8 (HA.out.of_below HG8.out.bel) HL.out (by omega)).mono ?_
  rintro e w9 ⟨rfl, hD9⟩
  have HD9 := Lib.hid (bel_dr HD8.out hD9)
  have HG9 := Lib.hid (HG8.out.dr hD9)
  clear hD9 HG8 HD8
  go_wp2_with fail
  refine (matSame_any la lb p q n m cap cap' w9 (HA.out.of_below HG9.out.bel) (HB.out.of_below HG9.out.bel) HL.out HLB.out (by omega) (by omega)).mono ?_
  rintro e w10 ⟨rfl, rfl⟩
  go_wp2_with fail
  refine (sameG la lb p q n m cap cap' w9 (HA.out.of_below HG9.out.bel) (HB.out.of_below HG9.out.bel) HL.out HLB.out (by omega) (by omega)).mono ?_
  rintro e w10 ⟨rfl, hD10⟩
  have HD10 := Lib.hid (bel_dr HD9.out hD10)
  have HG10 := Lib.hid (HG9.out.dr hD10)
  clear hD10 HG9 HD9
  go_wp2_with fail
  refine (refGood_any la p n cap w10 (HA.out.of_below HG10.out.bel) HL.out (by omega)).mono ?_
  rintro e w11 ⟨rfl, hD11⟩
  have HD11 := Lib.hid (bel_dr HD10.out hD11)
  have HG11 := Lib.hid (HG10.out.dr hD11)
  clear hD11 HG10 HD10
  rcases HR5.out with ⟨ga, rfl, rfl⟩ | ⟨ga, gb, rfl, rfl⟩ | ⟨n', k, k', m', Ga, Gb, hcase⟩
  · clear HR5
    go_wp2
    go_ret
    exact ⟨rfl, HG11.out.bel⟩
  · clear HR5
    go_wp2_with fail
    refine (refGood_any lb q m cap' w11 (HB.out.of_below HG11.out.bel) HLB.out (by omega)).mono ?_
    rintro e w12 ⟨rfl, hD12⟩
    have HG12 := Lib.hid (HG11.out.dr hD12)
    clear hD12
    go_wp2
    go_ret
    exact ⟨rfl, HG12.out.bel⟩
  obtain rfl : n' = n := by rw [← Ga.len]; exact HL.out
  obtain rfl : k = m := by rw [← Gb.len]; exact HLB.out
  have ta := Ga.true_
  have tb := Gb.true_
  have g1 := Ga.lo
  have g2 := Ga.hi
  have g3 := Gb.lo
  have g4 := Gb.hi
  have g5 := Gb.mhi
  have GA := Lib.hid Ga
  have GB := Lib.hid Gb
  have hn0 : (0 : Int) < (n' : Int) := by omega
  obtain ⟨c0, o0, q0, cap0, rfl, hc0, hcc0⟩ := HA.out.head (by rw [HL.out]; omega)
  rw [Ga.head] at hcc0
  have HC0 := Lib.hid hcc0
  clear Ga Gb hcc0
  go_wp2_with fail
  refine (refGood_any lb q k cap' w11 (HB.out.of_below HG11.out.bel) HLB.out (by omega)).mono ?_
  rintro e w12 ⟨rfl, hD12⟩
  have HD12 := Lib.hid (bel_dr HD11.out hD12)
  have HG12 := Lib.hid (HG11.out.dr hD12)
  clear hD12 HG11 HD11
  have hx : w12.cell? ⟨c0, o0, none⟩ = some (.slice q0 k' cap0) := by rw [HG12.out.bel.cell (by exact hc0)]; exact HC0.out
  rcases hcase with ⟨hne, rfl, rfl⟩ | ⟨rfl, rfl, G, rfl, hp⟩
  · have hd1 : ((k' : Int) != (k : Int)) = true := by simp; omega
    have hd2 : ((k' : Int) == (k : Int)) = false := by simp; omega
    have hd3 : decide (k' = k) = false := by simp; omega
    clear HR5 hne
    go_wp2
    go_ret
    exact ⟨rfl, HG12.out.bel⟩
  · have hd1 : ((k' : Int) != (k' : Int)) = false := by simp
    have HP12 := Lib.hid (hp.of_below HD12.out)
    have hms : sameB (rowsL n' m' (mm k' (mx la) (mx lb))) (mulL n' k' m' la lb) = true := decide_eq_true rfl
    have hmr : sameB (rowsL n' m' (mm k' (mx la) (mx lb))) (rowsL n' m' (mm k' (mx la) (mx lb))) = true := decide_eq_true rfl
    clear HR5 hp
    go_wp2_with fail
    refine (apply_ok b la lb _ q n' k' m' cap cap' w12 HG12.out.1 (HA.out.of_below HG12.out.bel) (HB.out.of_below HG12.out.bel) GA.out HLB.out GB.out.rows (by omega)).mono ?_
    rintro e w13 ⟨G2, D2, rfl, hM13, hB13⟩
    have HQ13 := Lib.hid hM13.prt
    have HP13 := Lib.hid (HP12.out.of_below hB13)
    have HB13 := Lib.hid (bel_step HG12.out.bel hB13)
    clear hM13 hB13 HP12 HG12 hx HD12
    go_wp2_with fail
    refine (refMulM_any la lb _ q n' k' m' cap cap' w13 (HA.out.of_below HB13.out) (HB.out.of_below HB13.out) HL.out HLB.out GA.out.rows GB.out.rows (by omega) (by omega) (by omega) (by omega)).mono ?_
    rintro e w14 ⟨v, rfl, hO, hB14⟩
    obtain ⟨q3, c3, rfl, hp3, -, -⟩ := hO.prt
    have hlen : (mulL n' k' m' la lb).length = n' := by simp [mulL]
    rw [hlen]
    have HR14 := Lib.hid hp3
    have HQ14 := Lib.hid (HQ13.out.of_below hB14)
    have HP14 := Lib.hid (HP13.out.of_below hB14)
    have HB14 := Lib.hid (bel_step HB13.out hB14)
    have HLEN := Lib.hid hlen
    clear hp3 hB14 hO HQ13 HP13 HB13 hlen
    go_wp2_with fail
    refine (sameG (rowsL n' m' (mm k' (mx la) (mx lb))) (mulL n' k' m' la lb) _ _ n' n' n' c3 w14 HP14.out HR14.out (rowsL_length _ _ _) HLEN.out (by omega) (by omega)).mono ?_
    rintro e w15 ⟨rfl, hD15⟩
    have HQ15 := Lib.hid (HQ14.out.dr hD15)
    have HP15 := Lib.hid (HP14.out.dr hD15)
    have HB15 := Lib.hid (bel_dr HB14.out hD15)
    clear hD15 HQ14 HP14 HB14 HR14
    go_wp2_with fail
    refine (sameG (rowsL n' m' (mm k' (mx la) (mx lb))) (rowsL n' m' (mm k' (mx la) (mx lb))) _ _ n' n' n' n' w15 HQ15.out HP15.out (rowsL_length _ _ _) (rowsL_length _ _ _) (by omega) (by omega)).mono ?_
    rintro e w16 ⟨rfl, hD16⟩
    have HB16 := Lib.hid (bel_dr HB15.out hD16)
    clear hD16
    go_wp2
    go_ret
    exact ⟨rfl, HB16.out⟩
end
end Go.Proofs.Ytfilicbbkaifcaa
