/- The reference's 'is it a matrix', 'is it the unit', and its Cauchy numbers. -/
import Derived.Test.YtfilicbbkaifcaaLaw3
import Derived.Test.YtfilicbbkaifcaaRef
set_option linter.unusedSimpArgs false
set_option linter.unusedVariables false
namespace Go.Proofs.Ytfilicbbkaifcaa
open Go Go.RowKit

/-- A matrix: 1 to 64 rows, all of one length from 1 to 64. -/
def goodB (ls : List (List (BitVec 8))) : Bool := decide (1 ≤ ls.length ∧ ls.length ≤ 64 ∧ 1 ≤ (ls.getD 0 []).length ∧ (ls.getD 0 []).length ≤ 64 ∧ ∀ i, i < ls.length → (ls.getD i []).length = (ls.getD 0 []).length)
set_option maxHeartbeats 2000000 in
theorem refGood_any (ls : List (List (BitVec 8))) (p : Option Addr) (n cap : Nat) (w : World) (hs : Prt w p ls) (hl : ls.length = n) (hn : n < 9223372036854775808) :
    Calls Try.prog 15 #[.slice p n cap] w fun e w' => e = .returned (.bool (goodB ls)) ∧ Dr w w' := by
  have HS := Lib.hid hs
  have HL := Lib.hid hl
  clear hs hl
  have no : ¬ (1 ≤ ls.length ∧ ls.length ≤ 64 ∧ 1 ≤ (ls.getD 0 []).length ∧ (ls.getD 0 []).length ≤ 64) → Hid (goodB ls = false) := fun h => decide_eq_false fun g => h ⟨g.1, g.2.1, g.2.2.1, g.2.2.2.1⟩
  by_cases h0 : n < 1
  · have hd0 : decide ((n : Int) < 1) = true := decide_eq_true (by omega)
    have hf := no (by rw [HL.out]; omega)
    clear no
    go_enter Try.func15, Try.ntmps15
    go_wp2
    go_ret
    exact ⟨by rw [hf.out]; rfl, Dr.refl _⟩
  have hd0 : decide ((n : Int) < 1) = false := decide_eq_false (by omega)
  by_cases h1 : 64 < n
  · have hd1 : decide ((64 : Int) < (n : Int)) = true := decide_eq_true (by omega)
    have hf := no (by rw [HL.out]; omega)
    clear no
    go_enter Try.func15, Try.ntmps15
    go_wp2
    go_ret
    exact ⟨by rw [hf.out]; rfl, Dr.refl _⟩
  have hd1 : decide ((64 : Int) < (n : Int)) = false := decide_eq_false (by omega)
  obtain ⟨c, o, q, cap0, rfl, _, hc, _⟩ := HS.out.at_ 0 (by rw [HL.out]; omega)
  rw [Nat.add_zero] at hc
  generalize hm : (ls.getD 0 []).length = m at *
  have HM := Lib.hid hm
  clear hm
  have hi0 : (0 : Int) < (n : Int) := by omega
  by_cases h2 : m < 1
  · have hd2 : decide ((m : Int) < 1) = true := decide_eq_true (by omega)
    have hf := no (by omega)
    clear no
    go_enter Try.func15, Try.ntmps15
    go_wp2
    go_ret
    exact ⟨by rw [hf.out]; rfl, Dr.refl _⟩
  have hd2 : decide ((m : Int) < 1) = false := decide_eq_false (by omega)
  by_cases h3 : 64 < m
  · have hd3 : decide ((64 : Int) < (m : Int)) = true := decide_eq_true (by omega)
    have hf := no (by omega)
    clear no
    go_enter Try.func15, Try.ntmps15
    go_wp2
    go_ret
    exact ⟨by rw [hf.out]; rfl, Dr.refl _⟩
  have hd3 : decide ((64 : Int) < (m : Int)) = false := decide_eq_false (by omega)
  clear no
  go_enter Try.func15, Try.ntmps15
  go_wp2
  go_loopw [28] (fun i wr => ∃ k : Nat, k ≤ n ∧ i = .int .i64 k ∧ (∀ i, i < k → (ls.getD i []).length = m) ∧ Dr w wr) (fun i _ => n - (intOf i).toNat)
  case atStart => exact ⟨0, Nat.zero_le _, rfl, fun i hi => absurd hi (by omega), Dr.refl _⟩
  case round =>
    obtain ⟨k, hk, rfl, hall, hD⟩ := hrel
    have HALL := Lib.hid hall
    have HD := Lib.hid hD
    clear hall
    by_cases hlt : k < n
    · obtain ⟨c', o', q', cap', e', _, hc', _⟩ := HS.out.at_ k (by rw [HL.out]; exact hlt)
      injection e' with e'
      injection e' with ec eo
      subst ec eo
      have hx0 : wr.cell? ⟨c, o, none⟩ = some (.slice q m cap0) := by rw [hD.cell]; exact hc
      have hx1 : wr.cell? ⟨c, o + k, none⟩ = some (.slice q' (ls.getD k []).length cap') := by rw [hD.cell]; exact hc'
      have hdk : decide ((k : Int) < (n : Int)) = true := decide_eq_true (by omega)
      have hl0 : (k : Int) < (n : Int) := by omega
      generalize hu : (ls.getD k []).length = u at *
      have HU := Lib.hid hu
      have HC := Lib.hid hc
      clear hu hD hc' hc
      by_cases he : u = m
      · have hb : ((u : Int) != (m : Int)) = false := by simp; omega
        have HE := Lib.hid he
        clear he
        go_wp2
        go_quiet (fail)
        go_wp2
        go_roundw
        case rel =>
          refine ⟨k + 1, by omega, by go_num, fun i hi => ?_, HD.out.drewN _⟩
          rcases Nat.lt_or_ge i k with h | h
          · exact HALL.out i h
          · obtain rfl : i = k := by omega
            rw [HU.out, HE.out]
        case measure => simp [intOf]; omega
      · have hb : ((u : Int) != (m : Int)) = true := by simp; omega
        have hb2 : ((u : Int) == (m : Int)) = false := by simp; omega
        have hf : Hid (goodB ls = false) := decide_eq_false fun g => he (by rw [← HU.out, g.2.2.2.2 k (by rw [HL.out]; exact hlt), HM.out])
        clear he
        go_wp2
        go_quiet (fail)
        go_wp2
        go_ret
        exact ⟨by rw [hf.out]; rfl, HD.out.drewN _⟩
    · have hdk : decide ((k : Int) < (n : Int)) = false := decide_eq_false (by omega)
      have hf : Hid (goodB ls = true) := decide_eq_true ⟨by rw [HL.out]; omega, by rw [HL.out]; omega, by rw [HM.out]; omega, by rw [HM.out]; omega, fun i hi => by rw [HM.out]; exact HALL.out i (by rw [HL.out] at hi; omega)⟩
      clear hD
      go_wp2
      go_ret
      exact ⟨by rw [hf.out]; rfl, HD.out⟩
/-- Rows that are the unit's. -/
def unitB (ls : List (List (BitVec 8))) : Bool := decide (∀ i, i < ls.length → ∀ j, j < (ls.getD i []).length → mx ls i j = id1 i j)
set_option maxHeartbeats 4000000 in
theorem refUnit_any (ls : List (List (BitVec 8))) (p : Option Addr) (n cap : Nat) (w : World) (hs : Prt w p ls) (hl : ls.length = n) (hn : n < 9223372036854775808) (hlen : ∀ i, i < ls.length → (ls.getD i []).length < 9223372036854775808) :
    Calls Try.prog 21 #[.slice p n cap] w fun e w' => e = .returned (.bool (unitB ls)) ∧ w = w' := by
  have HS := Lib.hid hs
  have HL := Lib.hid hl
  have HLEN := Lib.hid hlen
  clear hs hl hlen
  go_enter Try.func21, Try.ntmps21
  go_wp2
  go_loop [8] (fun i => ∃ k : Nat, k ≤ n ∧ i = .int .i64 k ∧ ∀ i, i < k → ∀ j, j < (ls.getD i []).length → mx ls i j = id1 i j) (fun i => n - (intOf i).toNat)
  case atStart => exact ⟨0, Nat.zero_le _, rfl, fun i hi => absurd hi (by omega)⟩
  case round =>
    obtain ⟨k, hk, rfl, hall⟩ := hrel
    have HALL := Lib.hid hall
    clear hall
    by_cases hlt : k < n
    · obtain ⟨c, o, q, cap', rfl, _, hc, hsl, _⟩ := HS.out.at_ k (by rw [HL.out]; exact hlt)
      have hm64 := HLEN.out k (by rw [HL.out]; exact hlt)
      have hd0 : decide ((k : Int) < (n : Int)) = true := decide_eq_true (by omega)
      have hl0 : (k : Int) < (n : Int) := by omega
      have HSL := Lib.hid hsl
      have HMX := Lib.hid (show ∀ j, mx ls k j = (ls.getD k []).getD j 0#8 from fun _ => rfl)
      clear hsl
      generalize hr : ls.getD k [] = r at *
      have HR := Lib.hid hr
      clear hr
      generalize hm : r.length = m at *
      have HM := Lib.hid hm
      clear hm
      go_wp2
      go_loop [16] (fun i => ∃ j : Nat, j ≤ m ∧ i = .int .i64 j ∧ ∀ i, i < j → mx ls k i = id1 k i) (fun i => m - (intOf i).toNat)
      case atStart => exact ⟨0, Nat.zero_le _, rfl, fun i hi => absurd hi (by omega)⟩
      case round =>
        obtain ⟨j, hj, rfl, hallj⟩ := hrel
        have HALLJ := Lib.hid hallj
        clear hallj
        by_cases hjm : j < m
        · obtain ⟨c2, o2, rfl, hx⟩ := HSL.out j (by rw [HM.out]; exact hjm)
          have hdj : decide ((j : Int) < (m : Int)) = true := decide_eq_true (by omega)
          have hj0 : (j : Int) < (m : Int) := by omega
          have hxm : r.getD j 0#8 = mx ls k j := (HMX.out j).symm
          rw [hxm] at hx
          generalize hy : mx ls k j = y at *
          have HY := Lib.hid hy
          clear hxm hy
          by_cases hkj : k = j
          · have hdk : ((k : Int) == (j : Int)) = true := by simp; omega
            have HKJ := Lib.hid hkj
            clear hkj
            by_cases hy1 : y = 1#8
            · have hb : (y != 1#8) = false := by rw [hy1]; rfl
              have HY1 := Lib.hid hy1
              clear hy1
              go_wp2
              go_round
              case rel =>
                refine ⟨j + 1, by omega, by go_num, fun i hi => ?_⟩
                rcases Nat.lt_or_ge i j with h | h
                · exact HALLJ.out i h
                · obtain rfl : i = j := by omega
                  rw [HY.out, HY1.out, id1, if_pos HKJ.out]
              case measure => simp [intOf]; omega
            · have hb : (y != 1#8) = true := by simpa using hy1
              have hf : Hid (unitB ls = false) := decide_eq_false fun g => hy1 (by rw [← HY.out, g k (by rw [HL.out]; exact hlt) j (by rw [HR.out, HM.out]; exact hjm), id1, if_pos HKJ.out])
              clear hy1
              go_wp2
              go_ret
              exact ⟨by rw [hf.out]; rfl, rfl⟩
          · have hdk : ((k : Int) == (j : Int)) = false := by simp; omega
            have HKJ := Lib.hid hkj
            clear hkj
            by_cases hy1 : y = 0#8
            · have hb : (y != 0#8) = false := by rw [hy1]; rfl
              have HY1 := Lib.hid hy1
              clear hy1
              go_wp2
              go_round
              case rel =>
                refine ⟨j + 1, by omega, by go_num, fun i hi => ?_⟩
                rcases Nat.lt_or_ge i j with h | h
                · exact HALLJ.out i h
                · obtain rfl : i = j := by omega
                  rw [HY.out, HY1.out, id1, if_neg HKJ.out]
              case measure => simp [intOf]; omega
            · have hb : (y != 0#8) = true := by simpa using hy1
              have hf : Hid (unitB ls = false) := decide_eq_false fun g => hy1 (by rw [← HY.out, g k (by rw [HL.out]; exact hlt) j (by rw [HR.out, HM.out]; exact hjm), id1, if_neg HKJ.out])
              clear hy1
              go_wp2
              go_ret
              exact ⟨by rw [hf.out]; rfl, rfl⟩
        · have hdj : decide ((j : Int) < (m : Int)) = false := decide_eq_false (by omega)
          have hjm' : j = m := by omega
          have HJM := Lib.hid hjm'
          clear hjm'
          go_wp2
          go_round
          case rel =>
            refine ⟨k + 1, by omega, by go_num, fun i hi => ?_⟩
            rcases Nat.lt_or_ge i k with h | h
            · exact HALL.out i h
            · obtain rfl : i = k := by omega
              intro l hl
              rw [HR.out, HM.out] at hl
              exact HALLJ.out l (by rw [HJM.out]; exact hl)
          case measure => simp [intOf]; omega
    · have hd0 : decide ((k : Int) < (n : Int)) = false := decide_eq_false (by omega)
      have hf : Hid (unitB ls = true) := decide_eq_true fun i hi => HALL.out i (by rw [HL.out] at hi; omega)
      go_wp2
      go_ret
      exact ⟨by rw [hf.out]; rfl, rfl⟩
set_option maxHeartbeats 1000000 in
theorem refCauchy_any (k i j : Nat) (h1 : k + i < 256) (h2 : j < 256) (h3 : k + i ≠ j) (w : World) :
    Calls Try.prog 23 #[.int .i64 k, .int .i64 i, .int .i64 j] w fun e w' => e = .returned (B (gi (BitVec.ofNat 8 (k + i) ^^^ BitVec.ofNat 8 j))) ∧ w = w' := by
  have hne : BitVec.ofNat 8 (k + i) ^^^ BitVec.ofNat 8 j ≠ 0#8 := fun e => h3 (by
    have := congrArg BitVec.toNat (xor_eq_zero _ _ e)
    simp only [BitVec.toNat_ofNat] at this
    omega)
  have HNE := Lib.hid hne
  have b1 : Value.int .u8 ((k : Int) + (i : Int)) = B (BitVec.ofNat 8 (k + i)) := (B_ofNat (k + i) h1).symm
  have b2 : Value.int .u8 (j : Int) = B (BitVec.ofNat 8 j) := (B_ofNat j h2).symm
  have hx : bits .xor .u8 ((k : Int) + (i : Int)) (j : Int) = ((BitVec.ofNat 8 (k + i) ^^^ BitVec.ofNat 8 j).toNat : Int) := by
    rw [show (k : Int) + (i : Int) = ((k + i : Nat) : Int) from rfl, u8_xor_nat _ _ h1 h2, BitVec.toNat_xor, BitVec.toNat_ofNat, BitVec.toNat_ofNat, Nat.mod_eq_of_lt h1, Nat.mod_eq_of_lt h2]
  clear hne b1 b2 h3
  generalize BitVec.ofNat 8 (k + i) ^^^ BitVec.ofNat 8 j = z at *
  go_enter Try.func23, Try.ntmps23
  go_wp2_with fail
  rw [← B_eq']
  refine (refInv_any _ HNE.out w).mono ?_
  rintro e w' ⟨rfl, rfl⟩
  go_wp2
  go_ret
  exact ⟨rfl, rfl⟩
end Go.Proofs.Ytfilicbbkaifcaa
