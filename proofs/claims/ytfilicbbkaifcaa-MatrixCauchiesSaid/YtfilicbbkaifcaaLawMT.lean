/- The statement MatrixTwice, walked. -/
import Derived.Test.YtfilicbbkaifcaaLawMI
set_option linter.unusedSimpArgs false
set_option linter.unusedVariables false
namespace Go.Proofs.Ytfilicbbkaifcaa
open Go Go.RowKit

theorem IsInv.symm {n : Nat} {a v : Mx} (h : IsInv n a v) : IsInv n v a := ⟨h.2, h.1⟩
theorem prod_inv {n : Nat} {a b u v : Mx} (ha : IsInv n a u) (hb : IsInv n b v) (i k : Nat) (hi : i < n) (hk : k < n) : mm n (mm n v u) (mm n a b) i k = id1 i k := by
  rw [mm_assoc]
  rw [mm_congr (a' := v) (b' := b) (fun _ _ => rfl) (fun j hj => ?_)]
  · exact hb.1 i k hi hk
  · rw [← mm_assoc, mm_congr (a' := id1) (b' := b) (fun l hl => ha.1 j l hj hl) (fun _ _ => rfl), mm_id_l n b j k hj]
/-- What is not stuck is inverted. -/
theorem inv_of {b : Nat} {la : List (List (BitVec 8))} {p : Option Addr} {n cap : Nat} {w : World} (hF : Fld w b) (ha : Prt w p la) (ga : Good la n n) (hno : ¬ NoInv n (mx la)) :
    Calls Try.prog 19 #[.pointer (some ⟨b, 0, none⟩), .slice p n cap] w fun e w' => ∃ G v, e = .returned (.tuple #[.slice (some ⟨G, 0, none⟩) n n, .int .i64 0]) ∧ IsInv n (mx la) v ∧ Prt w' (some ⟨G, 0, none⟩) (rowsL n n v) ∧ Below w.heap.size w w' := by
  refine (invert_any b la p n cap w hF ha ga).mono ?_
  rintro e w' (⟨hn, -⟩ | ⟨-, h⟩)
  · exact (hno hn).elim
  · exact h
theorem back_is {la : List (List (BitVec 8))} {n : Nat} (ga : Good la n n) {v u : Mx} (hv : IsInv n (mx la) v) (hu : IsInv n (mx (rowsL n n v)) u) : rowsL n n u = la := by
  refine rows_ext (by rw [rowsL_length, ga.len]) fun i hi => ?_
  rw [rowsL_length] at hi
  rw [rowsL_get _ _ _ _ hi]
  have hl := ga.rows i hi
  refine List.ext_getElem (by rw [rowL_length, hl]) fun j h1 h2 => ?_
  rw [rowL_length] at h1
  have e1 : u i j = mx la i j := hu.uniq (v := mx la) (fun i k hi hk => by rw [mx_rows n n v n (mx la) i k hi (Nat.le_refl _)]; exact hv.1 i k hi hk) i j hi h1
  have e2 : (rowL n u i)[j] = u i j := by simp [rowL]
  rw [e2, e1]
  show (la.getD i []).getD j 0#8 = _
  generalize la.getD i [] = r at *
  simp [List.getD_eq_getElem?_getD, h2]
theorem back_not {n : Nat} {a v : Mx} (hv : IsInv n a v) : ¬ NoInv n (mx (rowsL n n v)) := fun h => h.not (u := a) fun i k hi hk => by
  rw [← hv.2 i k hi hk]; exact mm_congr (fun _ _ => rfl) fun l hl => rowsL_mx n n v l k hl hk
theorem prod_not {n : Nat} {a b u v : Mx} (ha : IsInv n a u) (hb : IsInv n b v) : ¬ NoInv n (mx (rowsL n n (mm n a b))) := fun h => h.not (u := mm n v u) fun i k hi hk => by
  rw [← prod_inv ha hb i k hi hk]; exact mm_congr (fun _ _ => rfl) fun l hl => rowsL_mx n n (mm n a b) l k hl hk
theorem prod_is {n : Nat} {a b u v q : Mx} (ha : IsInv n a u) (hb : IsInv n b v) (hq : IsInv n (mx (rowsL n n (mm n a b))) q) : rowsL n n q = rowsL n n (mm n (mx (rowsL n n v)) (mx (rowsL n n u))) := rowsL_congr fun i j hi hj => by
  rw [mx_rows n n v n _ i j hi (Nat.le_refl _), mm_congr (a' := v) (b' := u) (fun _ _ => rfl) (fun l hl => rowsL_mx n n u l j hl hj)]
  refine hq.uniq (v := mm n v u) (fun i k hi hk => ?_) i j hi hj
  rw [mx_rows n n (mm n a b) n _ i k hi (Nat.le_refl _)]
  exact prod_inv hb.symm ha.symm i k hi hk
section
variable (la lb : List (List (BitVec 8))) (p q : Option Addr) (n m cap cap' : Nat) (w : World) (ha : Prt w p la) (hb : Prt w q lb) (hla : la.length = n) (hlb : lb.length = m) (hn : n < 9223372036854775808) (hm : m < 9223372036854775808)
include ha hla hn in
set_option maxHeartbeats 2000000 in
theorem mt_a (h : fewB la = false) : Calls Try.prog 7 #[.slice p n cap, .slice q m cap'] w fun e w' => e = .returned (.bool true) ∧ Below w.heap.size w w' := by
  have HA := Lib.hid ha
  have HL := Lib.hid hla
  clear ha hla
  go_enter Try.func7, Try.ntmps7
  go_wp2_with fail
  refine (awakeG w w (Below.refl _ _)).mono ?_
  rintro e w1 ⟨rfl, hB1⟩
  have HB1 := Lib.hid hB1
  clear hB1
  go_wp2_with fail
  refine (few_any la p n cap w1 (HA.out.of_below HB1.out) HL.out hn).mono ?_
  rintro e w2 ⟨rfl, rfl⟩
  go_wp2_with fail
  refine (awakeG w w1 HB1.out).mono ?_
  rintro e w2 ⟨rfl, hB2⟩
  have HB2 := Lib.hid hB2
  clear hB2
  go_wp2
  go_ret
  exact ⟨rfl, HB2.out⟩
include ha hla hn hb hlb hm in
set_option maxHeartbeats 2000000 in
theorem mt_b (h : fewB la = true) (h2 : fewB lb = false) : Calls Try.prog 7 #[.slice p n cap, .slice q m cap'] w fun e w' => e = .returned (.bool true) ∧ Below w.heap.size w w' := by
  have HA := Lib.hid ha
  have HL := Lib.hid hla
  have HB := Lib.hid hb
  have HLB := Lib.hid hlb
  clear ha hla hb hlb
  go_enter Try.func7, Try.ntmps7
  go_wp2_with fail
  refine (awakeG w w (Below.refl _ _)).mono ?_
  rintro e w1 ⟨rfl, hB1⟩
  have HB1 := Lib.hid hB1
  clear hB1
  go_wp2_with fail
  refine (few_any la p n cap w1 (HA.out.of_below HB1.out) HL.out hn).mono ?_
  rintro e w2 ⟨rfl, rfl⟩
  go_wp2_with fail
  refine (few_any lb q m cap' w1 (HB.out.of_below HB1.out) HLB.out hm).mono ?_
  rintro e w2 ⟨rfl, rfl⟩
  go_wp2_with fail
  refine (awakeG w w1 HB1.out).mono ?_
  rintro e w2 ⟨rfl, hB2⟩
  have HB2 := Lib.hid hB2
  clear hB2
  go_wp2
  go_ret
  exact ⟨rfl, HB2.out⟩
include ha hla hb hlb in
set_option maxRecDepth 100000 in
set_option maxHeartbeats 8000000 in
theorem mt_ab (h : fewB la = true) (h2 : fewB lb = true) : Calls Try.prog 7 #[.slice p n cap, .slice q m cap'] w fun e w' => e = .returned (.bool true) ∧ Below w.heap.size w w' := by
  have hn5 : n ≤ 5 := by rw [← hla]; exact (of_decide_eq_true h).1
  have hm5 : m ≤ 5 := by rw [← hlb]; exact (of_decide_eq_true h2).1
  have HA := Lib.hid ha
  have HL := Lib.hid hla
  have HB := Lib.hid hb
  have HLB := Lib.hid hlb
  have HFA := Lib.hid h
  have HFB := Lib.hid h2
  clear ha hla hb hlb
  go_enter Try.func7, Try.ntmps7
  go_wp2_with fail
  refine (awakeG w w (Below.refl _ _)).mono ?_
  rintro e w1 ⟨rfl, hB1⟩
  have HB1 := Lib.hid hB1
  clear hB1
  go_wp2_with fail
  refine (few_any la p n cap w1 (HA.out.of_below HB1.out) HL.out (by omega)).mono ?_
  rintro e w2 ⟨rfl, rfl⟩
  go_wp2_with fail
  refine (few_any lb q m cap' w1 (HB.out.of_below HB1.out) HLB.out (by omega)).mono ?_
  rintro e w2 ⟨rfl, rfl⟩
  go_wp2_with fail
  refine (newG w w1 HB1.out).mono ?_
  rintro e w2 ⟨rfl, hG2, hB2⟩
  have HG2 := Lib.hid hG2
  clear hG2 hB2 HB1
  generalize w1.heap.size = b at *
  go_wp2_with fail
  refine (invG b la p n cap w2 HG2.out.1 (HA.out.of_below HG2.out.bel) HL.out (by omega)).mono ?_
  rintro e w3 ⟨r1, t1, rfl, hR3, hB3⟩
  have HR3 := Lib.hid hR3
  have HG3 := Lib.hid (HG2.out.step hB3)
  clear hR3 hB3 HG2
  go_wp2_with fail
  refine (invG b lb q m cap' w3 HG3.out.1 (HB.out.of_below HG3.out.bel) HLB.out (by omega)).mono ?_
  rintro e w4 ⟨r2, t2, rfl, hR4, hB4⟩
  have HR4 := Lib.hid hR4
  have HG4 := Lib.hid (HG3.out.step hB4)
  have HB4 := Lib.hid hB4
  clear hR4 hB4 HG3
  rcases HR3.out with ⟨ga, rfl, rfl⟩ | ⟨n', n1, Ga, ⟨hne, rfl, rfl⟩ | ⟨rfl, hno, rfl, rfl⟩ | ⟨rfl, hdet, rfl, G1, va, rfl, hia, hpa⟩⟩
  · clear HR3 HR4
    go_wp2
    go_ret
    exact ⟨rfl, HG4.out.bel⟩
  · clear HR3 HR4 hne Ga
    go_wp2
    go_ret
    exact ⟨rfl, HG4.out.bel⟩
  · clear HR3 HR4 hno Ga
    go_wp2
    go_ret
    exact ⟨rfl, HG4.out.bel⟩
  obtain rfl : n1 = n := by rw [← Ga.len]; exact HL.out
  have HIA := Lib.hid hia
  have HPA4 := Lib.hid (hpa.of_below HB4.out)
  have g1 := Ga.lo
  have g2 := Ga.hi
  have GA := Lib.hid Ga
  clear HR3 hia hpa hdet Ga HB4
  rcases HR4.out with ⟨gb, rfl, rfl⟩ | ⟨m', m1, Gb, ⟨hne, rfl, rfl⟩ | ⟨rfl, hno, rfl, rfl⟩ | ⟨rfl, hdet, rfl, G2, vb, rfl, hib, hpb⟩⟩
  · clear HR4
    go_wp2
    go_ret
    exact ⟨rfl, HG4.out.bel⟩
  · clear HR4 hne Gb
    go_wp2
    go_ret
    exact ⟨rfl, HG4.out.bel⟩
  · clear HR4 hno Gb
    go_wp2
    go_ret
    exact ⟨rfl, HG4.out.bel⟩
  obtain rfl : m1 = m := by rw [← Gb.len]; exact HLB.out
  have HIB := Lib.hid hib
  have HPB4 := Lib.hid hpb
  have GB := Lib.hid Gb
  clear HR4 hib hpb hdet Gb
  go_wp2_with fail
  refine (inv_of HG4.out.1 HPA4.out (Good.mats va g1 g2 g1 g2) (back_not HIA.out)).mono ?_
  rintro e w5 ⟨G5, u, rfl, hiu, hpu, hB5⟩
  rw [back_is GA.out HIA.out hiu] at hpu
  have HPU5 := Lib.hid hpu
  have HPA5 := Lib.hid (HPA4.out.of_below hB5)
  have HPB5 := Lib.hid (HPB4.out.of_below hB5)
  have HG5 := Lib.hid (HG4.out.step hB5)
  have hsa : sameB la la = true := decide_eq_true rfl
  clear hpu hiu hB5 HG4 HPA4 HPB4
  go_wp2_with fail
  refine (sameG la la _ p n1 n1 n1 cap w5 HPU5.out (HA.out.of_below HG5.out.bel) HL.out HL.out (by omega) (by omega)).mono ?_
  rintro e w6 ⟨rfl, hD6⟩
  have HPA6 := Lib.hid (HPA5.out.dr hD6)
  have HPB6 := Lib.hid (HPB5.out.dr hD6)
  have HG6 := Lib.hid (HG5.out.dr hD6)
  clear hD6 HPA5 HPB5 HPU5 HG5
  by_cases hnm : n1 = m1
  · subst hnm
    have hd1 : ((n1 : Int) != (n1 : Int)) = false := by simp
    go_wp2_with fail
    refine (mul_ok b la lb p q n1 n1 n1 cap cap' w6 HG6.out.1 (HA.out.of_below HG6.out.bel) (HB.out.of_below HG6.out.bel) GA.out GB.out).mono ?_
    rintro e w7 ⟨G7, D7, rfl, hM7, hB7⟩
    have HPP7 := Lib.hid hM7.prt
    have HPA7 := Lib.hid (HPA6.out.of_below hB7)
    have HPB7 := Lib.hid (HPB6.out.of_below hB7)
    have HG7 := Lib.hid (HG6.out.step hB7)
    clear hM7 hB7 HG6 HPA6 HPB6
    go_wp2_with fail
    refine (inv_of HG7.out.1 HPP7.out (Good.mats _ g1 g2 g1 g2) (prod_not HIA.out HIB.out)).mono ?_
    rintro e w8 ⟨G8, x, rfl, hix, hpx, hB8⟩
    rw [prod_is HIA.out HIB.out hix] at hpx
    have HPX8 := Lib.hid hpx
    have HPA8 := Lib.hid (HPA7.out.of_below hB8)
    have HPB8 := Lib.hid (HPB7.out.of_below hB8)
    have HG8 := Lib.hid (HG7.out.step hB8)
    clear hpx hix hB8 HG7 HPA7 HPB7 HPP7
    go_wp2_with fail
    refine (mul_ok b (rowsL n1 n1 vb) (rowsL n1 n1 va) _ _ n1 n1 n1 n1 n1 w8 HG8.out.1 HPB8.out HPA8.out (Good.mats vb g1 g2 g1 g2) (Good.mats va g1 g2 g1 g2)).mono ?_
    rintro e w9 ⟨G9, D9, rfl, hM9, hB9⟩
    have HPZ9 := Lib.hid hM9.prt
    have HPX9 := Lib.hid (HPX8.out.of_below hB9)
    have HG9 := Lib.hid (HG8.out.step hB9)
    have hsz : sameB (rowsL n1 n1 (mm n1 (mx (rowsL n1 n1 vb)) (mx (rowsL n1 n1 va)))) (rowsL n1 n1 (mm n1 (mx (rowsL n1 n1 vb)) (mx (rowsL n1 n1 va)))) = true := decide_eq_true rfl
    clear hM9 hB9 HG8 HPX8 HPA8 HPB8
    go_wp2_with fail
    refine (matSame_any _ _ _ _ n1 n1 n1 n1 w9 HPX9.out HPZ9.out (rowsL_length _ _ _) (rowsL_length _ _ _) (by omega) (by omega)).mono ?_
    rintro e w10 ⟨rfl, rfl⟩
    go_wp2
    go_ret
    exact ⟨rfl, HG9.out.bel⟩
  · have hd1 : ((n1 : Int) != (m1 : Int)) = true := by simp; omega
    have hd2 : ((n1 : Int) == (m1 : Int)) = false := by simp; omega
    have hd3 : decide (n1 = m1) = false := by simp; omega
    clear hnm
    go_wp2
    go_ret
    exact ⟨rfl, HG6.out.bel⟩
end
end Go.Proofs.Ytfilicbbkaifcaa
