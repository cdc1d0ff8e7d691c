/- The statement MatrixUnits, walked. -/
import Derived.Test.YtfilicbbkaifcaaLawMI
set_option linter.unusedSimpArgs false
set_option linter.unusedVariables false
namespace Go.Proofs.Ytfilicbbkaifcaa
open Go Go.RowKit

/-- As many rows as n, all of the first one's length, as far as k. -/
def rgB (ls : List (List (BitVec 8))) (n k : Nat) : Bool := decide (ls.length = n ∧ ∀ i, i < k → (ls.getD i []).length = (ls.getD 0 []).length)
theorem rg_next (ls : List (List (BitVec 8))) (n k : Nat) (h : rgB ls n k = true) : rgB ls n (k + 1) = decide ((ls.getD k []).length = (ls.getD 0 []).length) := by
  obtain ⟨h1, h2⟩ := of_decide_eq_true h
  unfold rgB
  rw [decide_eq_decide]
  refine ⟨fun g => g.2 k (by omega), fun g => ⟨h1, fun i hi => ?_⟩⟩
  rcases Nat.lt_or_ge i k with h | h
  · exact h2 i h
  · obtain rfl : i = k := by omega
    exact g
theorem rg_false (ls : List (List (BitVec 8))) (n k : Nat) (h : rgB ls n k = false) : rgB ls n (k + 1) = false := decide_eq_false fun g => of_decide_eq_false h ⟨g.1, fun i hi => g.2 i (by omega)⟩
theorem unit_apply (lb : List (List (BitVec 8))) (n m : Nat) (h : lb.length = n) (hr : ∀ i, i < n → (lb.getD i []).length = m) : rowsL n m (mm n (mx (rowsL n n id1)) (mx lb)) = lb := by
  refine rows_ext (by rw [rowsL_length, h]) fun i hi => ?_
  rw [rowsL_length] at hi
  rw [rowsL_get _ _ _ _ hi]
  have hl := hr i hi
  refine List.ext_getElem (by rw [rowL_length, hl]) fun j h1 h2 => ?_
  rw [rowL_length] at h1
  have e1 : mm n (mx (rowsL n n id1)) (mx lb) i j = mx lb i j := by rw [mx_rows n n id1 n _ i j hi (Nat.le_refl _), mm_id_l n _ i j hi]
  have e2 : (rowL m (mm n (mx (rowsL n n id1)) (mx lb)) i)[j]'(by rw [rowL_length]; exact h1) = mm n (mx (rowsL n n id1)) (mx lb) i j := by simp [rowL]
  rw [e2, e1]
  show (lb.getD i []).getD j 0#8 = _
  generalize lb.getD i [] = r at *
  simp [List.getD_eq_getElem?_getD, h2]
theorem unit_unit (n : Nat) : unitB (rowsL n n id1) = true := decide_eq_true fun i hi j hj => by
  rw [rowsL_length] at hi
  rw [rowsL_len _ _ _ _ hi] at hj
  exact rowsL_mx n n id1 i j hi hj
section
variable (x : Int) (lb : List (List (BitVec 8))) (q : Option Addr) (L cap : Nat) (w : World) (hb : Prt w q lb) (hlb : lb.length = L)
set_option maxHeartbeats 2000000 in
theorem mu_a (h : 64 < L) : Calls Try.prog 6 #[.int .i64 x, .slice q L cap] w fun e w' => e = .returned (.bool true) ∧ Below w.heap.size w w' := by
  have hd : decide ((64 : Int) < (L : Int)) = true := decide_eq_true (by omega)
  go_enter Try.func6, Try.ntmps6
  go_wp2_with fail
  refine (awakeG w w (Below.refl _ _)).mono ?_
  rintro e w1 ⟨rfl, hB1⟩
  have HB1 := Lib.hid hB1
  clear hB1
  go_wp2_with fail
  refine (awakeG w w1 HB1.out).mono ?_
  rintro e w2 ⟨rfl, hB2⟩
  have HB2 := Lib.hid hB2
  clear hB2
  go_wp2
  go_ret
  exact ⟨rfl, HB2.out⟩
set_option maxHeartbeats 2000000 in
theorem mu_b (h : L ≤ 64) (hx : 100 < x) : Calls Try.prog 6 #[.int .i64 x, .slice q L cap] w fun e w' => e = .returned (.bool true) ∧ Below w.heap.size w w' := by
  have hd : decide ((64 : Int) < (L : Int)) = false := decide_eq_false (by omega)
  have hd1 : decide ((100 : Int) < x) = true := decide_eq_true hx
  go_enter Try.func6, Try.ntmps6
  go_wp2_with fail
  refine (awakeG w w (Below.refl _ _)).mono ?_
  rintro e w1 ⟨rfl, hB1⟩
  have HB1 := Lib.hid hB1
  clear hB1
  go_wp2_with fail
  refine (awakeG w w1 HB1.out).mono ?_
  rintro e w2 ⟨rfl, hB2⟩
  have HB2 := Lib.hid hB2
  clear hB2
  go_wp2
  go_ret
  exact ⟨rfl, HB2.out⟩
set_option maxHeartbeats 2000000 in
theorem mu_c (h : L ≤ 64) (hx : x ≤ 100) (hx2 : x < 1 ∨ 64 < x) : Calls Try.prog 6 #[.int .i64 x, .slice q L cap] w fun e w' => e = .returned (.bool true) ∧ Below w.heap.size w w' := by
  have hd : decide ((64 : Int) < (L : Int)) = false := decide_eq_false (by omega)
  have hd1 : decide ((100 : Int) < x) = false := decide_eq_false (by omega)
  have HU := Lib.hid (fun w => unit_no x w (decide_eq_false (by omega)))
  by_cases h1 : x < 1
  · have hd2 : decide (x < 1) = true := decide_eq_true h1
    clear hx2
    go_enter Try.func6, Try.ntmps6
    go_wp2_with fail
    refine (awakeG w w (Below.refl _ _)).mono ?_
    rintro e w1 ⟨rfl, hB1⟩
    have HB1 := Lib.hid hB1
    clear hB1
    go_wp2_with fail
    refine (HU.out w1).mono ?_
    rintro e w2 ⟨rfl, hB2⟩
    have HB2 := Lib.hid (bel_step HB1.out hB2)
    clear hB2
    go_wp2
    go_ret
    exact ⟨rfl, HB2.out⟩
  · have hd2 : decide (x < 1) = false := decide_eq_false h1
    have hd3 : decide ((64 : Int) < x) = true := decide_eq_true (by omega)
    clear hx2
    go_enter Try.func6, Try.ntmps6
    go_wp2_with fail
    refine (awakeG w w (Below.refl _ _)).mono ?_
    rintro e w1 ⟨rfl, hB1⟩
    have HB1 := Lib.hid hB1
    clear hB1
    go_wp2_with fail
    refine (HU.out w1).mono ?_
    rintro e w2 ⟨rfl, hB2⟩
    have HB2 := Lib.hid (bel_step HB1.out hB2)
    clear hB2
    go_wp2
    go_ret
    exact ⟨rfl, HB2.out⟩
include hb hlb in
set_option maxRecDepth 100000 in
set_option maxHeartbeats 8000000 in
theorem mu_d (h : L ≤ 64) (n : Nat) (h1 : 1 ≤ n) (h2 : n ≤ 64) : Calls Try.prog 6 #[.int .i64 (n : Int), .slice q L cap] w fun e w' => e = .returned (.bool true) ∧ Below w.heap.size w w' := by
  have hd : decide ((64 : Int) < (L : Int)) = false := decide_eq_false (by omega)
  have hd1 : decide ((100 : Int) < (n : Int)) = false := decide_eq_false (by omega)
  have hd2 : decide ((n : Int) < 1) = false := decide_eq_false (by omega)
  have hd3 : decide ((64 : Int) < (n : Int)) = false := decide_eq_false (by omega)
  have hdn : ((n : Int) != (n : Int)) = false := by simp
  have HB := Lib.hid hb
  have HLB := Lib.hid hlb
  have huu := unit_unit n
  have hbL : ((L : Int) == (n : Int)) = rgB lb n 0 := by
    by_cases h : L = n
    · rw [show rgB lb n 0 = true from decide_eq_true ⟨by rw [hlb]; exact h, fun i hi => absurd hi (by omega)⟩]; simp; omega
    · rw [show rgB lb n 0 = false from decide_eq_false fun g => h (by rw [← hlb]; exact g.1)]; simp; omega
  clear hb hlb
  go_enter Try.func6, Try.ntmps6
  go_wp2_with fail
  refine (awakeG w w (Below.refl _ _)).mono ?_
  rintro e w1 ⟨rfl, hB1⟩
  have HB1 := Lib.hid hB1
  clear hB1
  go_wp2_with fail
  refine (unit_ok n w1 h1 h2).mono ?_
  rintro e w2 ⟨G, D, rfl, hM2, hB2⟩
  have HP2 := Lib.hid hM2.prt
  have HB2 := Lib.hid (bel_step HB1.out hB2)
  clear hM2 hB2 HB1
  go_wp2_with fail
  refine (refUnitG n n id1 _ n w2 HP2.out h2 h2).mono ?_
  rintro e w3 ⟨rfl, rfl⟩
  go_wp2
  clear hbL
  go_loop [7, 9, 61] (fun rt _ i => ∃ k : Nat, k ≤ L ∧ i = .int .i64 k ∧ rt = .bool (rgB lb n k) ∧ ∀ i, i < k → (lb.getD i []).length ≤ 50) (fun _ _ i => L - (intOf i).toNat)
  case atStart => exact ⟨0, Nat.zero_le _, rfl, rfl, fun i hi => absurd hi (by omega)⟩
  case round =>
    obtain ⟨k, hk, rfl, rfl, hall⟩ := hrel
    have HALL := Lib.hid hall
    clear hall
    by_cases hlt : k < L
    · obtain ⟨c, o, q0, cap0, rfl, hc0, hcc0⟩ := HB.out.head (by rw [HLB.out]; omega)
      obtain ⟨c', o', q', cap', e', hck, hcck, -, -⟩ := HB.out.at_ k (by rw [HLB.out]; exact hlt)
      injection e' with e'
      injection e' with ec eo
      subst ec eo
      have hx0 : w2.cell? ⟨c, o, none⟩ = some (.slice q0 (lb.getD 0 []).length cap0) := by rw [HB2.out.cell (by exact hc0)]; exact hcc0
      have hx1 : w2.cell? ⟨c, o + k, none⟩ = some (.slice q' (lb.getD k []).length cap') := by rw [HB2.out.cell (by exact hck)]; exact hcck
      have hdk : decide ((k : Int) < (L : Int)) = true := decide_eq_true (by omega)
      have hl0 : (k : Int) < (L : Int) := by omega
      have hL0 : (0 : Int) < (L : Int) := by omega
      clear hcc0 hcck
      have hrn := rg_next lb n k
      generalize hm0 : (lb.getD 0 []).length = m0 at *
      generalize hmk : (lb.getD k []).length = mk at *
      have HMK := Lib.hid hmk
      by_cases h50 : 50 < mk
      · have hd5 : decide ((50 : Int) < (mk : Int)) = true := decide_eq_true (by omega)
        clear hrn hm0 hmk
        go_wp2
        go_ret
        exact ⟨rfl, HB2.out⟩
      · have hd5 : decide ((50 : Int) < (mk : Int)) = false := decide_eq_false (by omega)
        have HALL2 := Lib.hid (show ∀ i, i < k + 1 → (lb.getD i []).length ≤ 50 from fun i hi => by
          rcases Nat.lt_or_ge i k with h | h
          · exact HALL.out i h
          · obtain rfl : i = k := by omega
            rw [HMK.out]; omega)
        cases hr : rgB lb n k with
        | true =>
          have hbe : ((mk : Int) == (m0 : Int)) = rgB lb n (k + 1) := by
            rw [hrn hr]
            by_cases h : mk = m0
            · rw [decide_eq_true h]; simp; omega
            · rw [decide_eq_false h]; simp; omega
          clear hrn hm0 hmk
          go_wp2
          go_round
          case rel => exact ⟨k + 1, by omega, by go_num, rfl, HALL2.out⟩
          case measure => simp [intOf]; omega
        | false =>
          have hbf := rg_false lb n k hr
          have HBF := Lib.hid hbf
          clear hrn hm0 hmk hbf
          go_wp2
          go_round
          case rel => exact ⟨k + 1, by omega, by go_num, by rw [HBF.out], HALL2.out⟩
          case measure => simp [intOf]; omega
    · have hdk : decide ((k : Int) < (L : Int)) = false := decide_eq_false (by omega)
      obtain rfl : k = L := by omega
      go_wp2_with fail
      refine (newG w w2 HB2.out).mono ?_
      rintro e w3 ⟨rfl, hG3, hB3⟩
      have HP3 := Lib.hid (HP2.out.of_below hB3)
      have HG3 := Lib.hid hG3
      clear hG3 hB3 HP2 HB2
      generalize w2.heap.size = b at *
      cases hr : rgB lb n k with
      | true =>
        obtain ⟨e1, e2⟩ := of_decide_eq_true hr
        obtain rfl : k = n := by rw [← HLB.out]; exact e1
        have h50 := HALL.out 0 (by omega)
        have HE2 := Lib.hid e2
        have hsb : sameB lb lb = true := decide_eq_true rfl
        clear e1 e2
        go_wp2_with fail
        refine (apply_ok b (rowsL k k id1) lb _ q k k (lb.getD 0 []).length k cap w3 HG3.out.1 HP3.out (HB.out.of_below HG3.out.bel) (Good.mats id1 h1 h2 h1 h2) HLB.out HE2.out (by omega)).mono ?_
        rintro e w4 ⟨G4, D4, rfl, hM4, hB4⟩
        have hp4 := hM4.prt
        rw [unit_apply lb k _ HLB.out HE2.out] at hp4
        have HP4 := Lib.hid hp4
        have HG4 := Lib.hid (HG3.out.step hB4)
        clear hM4 hB4 hp4 HP3 HG3
        go_wp2_with fail
        refine (sameG lb lb _ q k k k cap w4 HP4.out (HB.out.of_below HG4.out.bel) HLB.out HLB.out (by omega) (by omega)).mono ?_
        rintro e w5 ⟨rfl, hD5⟩
        have HG5 := Lib.hid (HG4.out.dr hD5)
        clear hD5
        go_wp2
        go_ret
        exact ⟨rfl, HG5.out.bel⟩
      | false =>
        by_cases hkn : k = n
        · subst hkn
          have he : eqB lb = false := decide_eq_false fun g => of_decide_eq_false hr ⟨HLB.out, fun i hi => g i (by rw [HLB.out]; exact hi)⟩
          go_wp2_with fail
          refine (apply_odd (rowsL k k id1) lb _ q k k k cap w3 _ HP3.out (HB.out.of_below HG3.out.bel) (Good.mats id1 h1 h2 h1 h2) HLB.out he).mono ?_
          rintro e w4 ⟨rfl, hB4⟩
          have HG4 := Lib.hid (HG3.out.step hB4)
          clear hB4
          go_wp2
          go_ret
          exact ⟨rfl, HG4.out.bel⟩
        · go_wp2_with fail
          refine (apply_len (rowsL n n id1) _ q n k n n cap w3 _ HP3.out (Good.mats id1 h1 h2 h1 h2) (by omega) (Ne.symm hkn)).mono ?_
          rintro e w4 ⟨rfl, hB4⟩
          have HG4 := Lib.hid (HG3.out.step hB4)
          clear hB4
          go_wp2
          go_ret
          exact ⟨rfl, HG4.out.bel⟩
end
end Go.Proofs.Ytfilicbbkaifcaa
