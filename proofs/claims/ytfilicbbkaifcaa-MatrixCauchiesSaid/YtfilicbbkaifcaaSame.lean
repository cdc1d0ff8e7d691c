/- The program's Same. -/
import Derived.Test.YtfilicbbkaifcaaGood
set_option linter.unusedSimpArgs false
set_option linter.unusedVariables false
namespace Go.Proofs.Ytfilicbbkaifcaa
open Go Go.RowKit

theorem bytes_equal (l m : List (BitVec 8)) (p q : Option Addr) (c d : Nat) (w : World) (hs : Sl w p l) (ht : Sl w q m) (hp : p = none → c = 0) (hq : q = none → d = 0) :
    Calls Try.prog 30 #[.slice p l.length c, .slice q m.length d] w fun e w' => e = .returned (.bool (decide (l = m))) ∧ w = w' := by
  have h1 := conv_str w p l _ c hs rfl hp
  have h2 := conv_str w q m _ d ht rfl hq
  clear hs ht hp hq
  by_cases h : l = m
  · rw [decide_eq_true h]
    subst h
    go_enter Try.func30, Try.ntmps30
    go_wp2
    go_ret
    exact ⟨rfl, rfl⟩
  · have hf : Hid (decide (l = m) = false) := decide_eq_false h
    have hb := str_ne l m h
    clear h
    go_enter Try.func30, Try.ntmps30
    go_wp2
    go_ret
    exact ⟨by rw [hf.out]; rfl, rfl⟩
theorem same1_any (l m : List (BitVec 8)) (p q : Option Addr) (c d : Nat) (w : World) (hs : Sl w p l) (ht : Sl w q m) (hp : p = none → c = 0) (hq : q = none → d = 0) :
    Calls Try.prog 29 #[.slice p l.length c, .slice q m.length d] w fun e w' => e = .returned (.bool (decide (l = m))) ∧ w = w' := by
  have HC := Lib.hid (bytes_equal l m p q c d w hs ht hp hq)
  clear hs ht hp hq
  generalize decide (l = m) = b at *
  go_enter Try.func29, Try.ntmps29
  go_wp2_with fail
  refine HC.out.mono ?_
  rintro e w' ⟨rfl, rfl⟩
  go_wp2
  go_ret
  exact ⟨rfl, rfl⟩
theorem eqf_odd (p q : Option Addr) (n m c d : Nat) (fv : Value) (w : World) (hn : n < 9223372036854775808) (hm : m < 9223372036854775808) (h : n ≠ m) :
    Calls Try.prog 28 #[.slice p n c, .slice q m d, fv] w fun e w' => e = .returned (.bool false) ∧ w = w' := by
  have hd : ((n : Int) != (m : Int)) = true := by simp; omega
  have hd2 : ((n : Int) == (m : Int)) = false := by simp; omega
  have hd3 : decide (n = m) = false := by simp; omega
  clear h
  go_enter Try.func28, Try.ntmps28
  go_wp2
  go_ret
  exact ⟨rfl, rfl⟩
set_option maxHeartbeats 2000000 in
theorem eqf_any (la lb : List (List (BitVec 8))) (p q : Option Addr) (n c d : Nat) (w : World) (ha : Prt w p la) (hb : Prt w q lb) (hla : la.length = n) (hlb : lb.length = n) (hn : n < 9223372036854775808) :
    Calls Try.prog 28 #[.slice p n c, .slice q n d, .func (.func 29) #[] #[]] w fun e w' => e = .returned (.bool (sameB la lb)) ∧ w = w' := by
  have HA := Lib.hid ha
  have HB := Lib.hid hb
  have HLA := Lib.hid hla
  have HLB := Lib.hid hlb
  clear ha hb hla hlb
  go_enter Try.func28, Try.ntmps28
  go_wp2
  go_loop [7, 8, 9, 17] (fun _ _ _ i => ∃ k : Nat, k ≤ n ∧ i = .int .i64 k ∧ (∀ i, i < k → la.getD i [] = lb.getD i [])) (fun _ _ _ i => n - (intOf i).toNat)
  case atStart => exact ⟨0, Nat.zero_le _, rfl, fun i hi => absurd hi (by omega)⟩
  case round =>
    obtain ⟨k, hk, rfl, hall⟩ := hrel
    have HALL := Lib.hid hall
    clear hall
    by_cases hlt : k < n
    · obtain ⟨c1, o1, q1, cap1, rfl, -, hc1, hs1, hq1, -⟩ := HA.out.at_ k (by rw [HLA.out]; exact hlt)
      obtain ⟨c2, o2, q2, cap2, rfl, -, hc2, hs2, hq2, -⟩ := HB.out.at_ k (by rw [HLB.out]; exact hlt)
      have hd0 : decide ((k : Int) < (n : Int)) = true := decide_eq_true (by omega)
      have hl0 : (k : Int) < (n : Int) := by omega
      have HKN := Lib.hid (show k < la.length by rw [HLA.out]; exact hlt)
      have HC := Lib.hid (same1_any (la.getD k []) (lb.getD k []) q1 q2 cap1 cap2 w hs1 hs2 hq1 hq2)
      clear hs1 hs2 hq1 hq2
      generalize hu : la.getD k [] = u at *
      generalize hz : lb.getD k [] = z at *
      have HU := Lib.hid hu
      have HZ := Lib.hid hz
      clear hu hz
      by_cases he : u = z
      · have HE := Lib.hid he
        have hde := decide_eq_true he
        clear he
        rw [hde] at HC
        clear hde
        go_wp2_with fail
        refine HC.out.mono ?_
        rintro e w' ⟨rfl, rfl⟩
        go_wp2
        go_round
        case rel =>
          refine ⟨k + 1, by omega, by go_num, fun i hi => ?_⟩
          rcases Nat.lt_or_ge i k with h | h
          · exact HALL.out i h
          · obtain rfl : i = k := by omega
            rw [HU.out, HZ.out, HE.out]
        case measure => simp [intOf]; omega
      · have hf : Hid (sameB la lb = false) := decide_eq_false fun e => he (by rw [← HU.out, ← HZ.out, e])
        have hde := decide_eq_false he
        clear he
        rw [hde] at HC
        clear hde
        go_wp2_with fail
        refine HC.out.mono ?_
        rintro e w' ⟨rfl, rfl⟩
        go_wp2
        go_ret
        exact ⟨by rw [hf.out]; rfl, rfl⟩
    · have hd0 : decide ((k : Int) < (n : Int)) = false := decide_eq_false (by omega)
      have hf : Hid (sameB la lb = true) := decide_eq_true (rows_ext (by rw [HLA.out, HLB.out]) fun i hi => HALL.out i (by rw [HLA.out] at hi; omega))
      go_wp2
      go_ret
      exact ⟨by rw [hf.out]; rfl, rfl⟩
theorem matSame_odd (la lb : List (List (BitVec 8))) (p q : Option Addr) (n m c d : Nat) (w : World) (hla : la.length = n) (hlb : lb.length = m) (hn : n < 9223372036854775808) (hm : m < 9223372036854775808) (h : n ≠ m) :
    Calls Try.prog 16 #[.slice p n c, .slice q m d] w fun e w' => e = .returned (.bool (sameB la lb)) ∧ w = w' := by
  have hf : Hid (sameB la lb = false) := decide_eq_false fun e => h (by rw [← hla, ← hlb, e])
  have HC := Lib.hid (eqf_odd p q n m c d (.func (.func 29) #[] #[]) w hn hm h)
  clear h hla hlb
  go_enter Try.func16, Try.ntmps16
  go_wp2_with fail
  refine HC.out.mono ?_
  rintro e w' ⟨rfl, rfl⟩
  go_wp2
  go_ret
  exact ⟨by rw [hf.out]; rfl, rfl⟩
theorem matSame_any (la lb : List (List (BitVec 8))) (p q : Option Addr) (n m c d : Nat) (w : World) (ha : Prt w p la) (hb : Prt w q lb) (hla : la.length = n) (hlb : lb.length = m) (hn : n < 9223372036854775808) (hm : m < 9223372036854775808) :
    Calls Try.prog 16 #[.slice p n c, .slice q m d] w fun e w' => e = .returned (.bool (sameB la lb)) ∧ w = w' := by
  by_cases h : n = m
  · subst h
    have HC := Lib.hid (eqf_any la lb p q n c d w ha hb hla hlb hn)
    clear ha hb hla hlb
    generalize sameB la lb = b at *
    go_enter Try.func16, Try.ntmps16
    go_wp2_with fail
    refine HC.out.mono ?_
    rintro e w' ⟨rfl, rfl⟩
    go_wp2
    go_ret
    exact ⟨rfl, rfl⟩
  · exact matSame_odd la lb p q n m c d w hla hlb hn hm h
end Go.Proofs.Ytfilicbbkaifcaa
