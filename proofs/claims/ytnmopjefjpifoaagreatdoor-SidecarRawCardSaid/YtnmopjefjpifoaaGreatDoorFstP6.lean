/- The program's numbers, read: 'first'. -/
import Derived.Test.YtnmopjefjpifoaaGreatDoorRdrP6
import Derived.Test.YtnmopjefjpifoaaGreatDoorNextN6
import Derived.Lib.MinMax
import Derived.Lib.QuoteBits
set_option linter.unusedSimpArgs false
set_option maxRecDepth 100000
set_option linter.unusedVariables false
namespace Go.Proofs.YtnmopjefjpifoaaGreatDoor
open Go Go.RowKit

/-- The number at the beginning, and the size of its encoding; 0 and 0 if there is none. -/
def num2 (l : List (BitVec 8)) : Nat × Nat := (num7 l).getD (0, 0)
def pairI (x : Nat × Nat) : Value := .tuple #[.int .i64 (x.1 : Int), .int .i64 (x.2 : Int)]
theorem num2_none {l : List (BitVec 8)} (h : num7 l = none) : num2 l = (0, 0) := by unfold num2; rw [h]; rfl
theorem num2_some {l : List (BitVec 8)} {x : Nat × Nat} (h : num7 l = some x) : num2 l = x := by unfold num2; rw [h]; rfl
/-- Groups that don't meet. -/
theorem or7 (acc t S : Nat) (h : acc < 2 ^ S) (hb : acc + t * 2 ^ S < 9223372036854775808) : bits .or .i64 (acc : Int) ((t * 2 ^ S : Nat) : Int) = ((acc + t * 2 ^ S : Nat) : Int) := by
  show IntKind.i64.wrap ((BitVec.ofInt 64 (acc : Int) ||| BitVec.ofInt 64 ((t * 2 ^ S : Nat) : Int)).toNat : Int) = _
  rw [BitVec.toNat_or, ofInt_u64 acc (by omega), ofInt_u64 (t * 2 ^ S) (by omega), Nat.or_comm, Nat.mul_comm, ← Nat.two_pow_add_eq_or_of_lt h, Nat.add_comm]
  exact Lib.wrap_i64_small _ (by rw [Nat.mul_comm]; exact hb)
attribute [local go_sem] sl_hi
attribute [local go_sem ↓] exec_slice
set_option maxRecDepth 100000 in
set_option maxHeartbeats 4000000 in
theorem first_any (l : List (BitVec 8)) (p : Option Addr) (n cap : Nat) (w : World) (hl : l.length = n) (hs : Sl w p l) (hnc : n ≤ cap) (hn : n < 1000000) : Calls Tryz.prog 131 #[.slice p n cap] w fun e w' => e = .returned (pairI (num2 l)) ∧ w = w' := by
  have HL := Lib.hid hl
  have HS := Lib.hid hs
  clear hl hs
  obtain ⟨m, hm⟩ : ∃ m : Nat, m = min n 9 := ⟨_, rfl⟩
  have hm1 : min (n : Int) 9 = (m : Int) := by omega
  have hmc : m ≤ cap := by omega
  have hm9 : m ≤ 9 := by omega
  have hmn : m ≤ n := by omega
  have HM := Lib.hid hm
  clear hm
  go_enter Tryz.func131, Tryz.ntmps131
  go_wp2
  go_loopw [2, 4, 5, 12] (fun va vi0 vx vi wr => ∃ (i acc : Nat), i ≤ m ∧ vi = .int .i64 i ∧ va = .int .i64 acc ∧ Mid7 l i acc ∧ w = wr) (fun va vi0 vx vi _ => 10 - (intOf vi).toNat)
  case atStart => exact ⟨0, 0, Nat.zero_le _, rfl, rfl, Mid7.zero l, rfl⟩
  case round =>
    obtain ⟨i, acc, him, rfl, rfl, hM, rfl⟩ := hrel
    by_cases hlt : i < m
    · have hltz : (i : Int) < (m : Int) := by omega
      have hld : decide ((i : Int) < (m : Int)) = true := decide_eq_true hltz
      obtain ⟨c0, o0, hpe, hx⟩ := HS.out i (by rw [HL.out]; omega)
      subst hpe
      have hl9 : i < l.length := by rw [HL.out]; omega
      have h9 : i < 9 := by omega
      have hP := pow_le8 (show i ≤ 8 by omega)
      have hacc := hM.lt
      have hcl := (l.getD i 0#8).isLt
      have HLAST := Lib.hid (fun a b => hM.last hl9 h9 a b)
      have HNEXT := Lib.hid (fun a => hM.next hl9 h9 a)
      have HVAIN := Lib.hid (fun a b => hM.vain hl9 h9 a b)
      rw [B_eq'] at hx
      obtain ⟨c, hc⟩ : ∃ c, (l.getD i 0#8).toNat = c := ⟨_, rfl⟩
      rw [hc] at hx hcl HLAST HNEXT HVAIN
      obtain ⟨t, ht⟩ : ∃ t, t = c % 128 := ⟨_, rfl⟩
      have htb : t ≤ 127 := by omega
      rw [← ht] at HNEXT
      obtain ⟨S, hS⟩ : ∃ S, 7 * i = S := ⟨_, rfl⟩
      have hPS : 128 ^ i = 2 ^ S := by rw [← hS, Nat.pow_mul]
      have hO := or7 acc t S (by rw [← hPS]; exact hacc) (by rw [← hPS]; exact sum7 hacc htb hP)
      rw [hPS] at hacc hP HNEXT HLAST
      have hsum := sum7 hacc htb hP
      have t1 : (c : Int) % 128 = (t : Int) := by clear hO; omega
      have t2 : (c : Int).tmod 128 = (t : Int) := by rw [Int.tmod_eq_emod_of_nonneg (by clear hO; omega)]; exact t1
      have t3 : IntKind.u8.wrap (t : Int) = (t : Int) := by rw [IntKind.wrap_u8']; clear hO; omega
      have t4 : IntKind.i64.wrap (t : Int) = (t : Int) := i64w _ (by clear hO t1 t2; omega) (by clear hO t1 t2; omega)
      have s1 : 7 * (i : Int) = (S : Int) := by clear hO t1 t2; omega
      have s2 : wrap64 (S : Int) = (S : Int) := w64 _ (by clear hO t1 t2; omega) (by clear hO t1 t2; omega)
      have s3 : (S : Int) ≤ 64 := by clear hO t1 t2; omega
      have s4 : (0 : Int) ≤ (S : Int) := by clear hO t1 t2; omega
      have s5 : IntKind.i64.wrap (S : Int) = (S : Int) := i64w _ (by clear hO t1 t2; omega) (by clear hO t1 t2; omega)
      obtain ⟨Q, hQ⟩ : ∃ Q, 2 ^ S = Q := ⟨_, rfl⟩
      have s6 : (2 : Int) ^ S = (Q : Int) := by rw [← hQ]; simp
      rw [hQ] at hO hacc hP HNEXT HLAST hsum
      obtain ⟨M, hMM⟩ : ∃ M, t * Q = M := ⟨_, rfl⟩
      rw [hMM] at hsum hO HNEXT
      have m1 : (t : Int) * (Q : Int) = (M : Int) := by rw [← hMM]; simp
      have m2 : IntKind.i64.wrap (M : Int) = (M : Int) := i64n _ (Nat.lt_of_le_of_lt (Nat.le_add_left _ _) hsum)
      have m3 : wrap64 (M : Int) = (M : Int) := w64n _ (Nat.lt_of_le_of_lt (Nat.le_add_left _ _) hsum)
      clear hM hPS hQ hS
      obtain ⟨A2, hA2⟩ : ∃ A2, acc + M = A2 := ⟨_, rfl⟩
      rw [hA2] at hO HNEXT hsum
      have i1 : IntKind.i64.wrap ((i : Int) + 1) = (i : Int) + 1 := i64w _ (by clear t1 t2 m1 m2 m3 hO s6; omega) (by clear t1 t2 m1 m2 m3 hO s6; omega)
      by_cases hc1 : c < 128
      · have hc1z : ¬ (128 : Int) ≤ (c : Int) := by clear t1 t2 m1 m2 m3 hO s6; omega
        have hc1d : decide ((128 : Int) ≤ (c : Int)) = false := decide_eq_false hc1z
        obtain rfl : t = c := by rw [ht]; exact Nat.mod_eq_of_lt hc1
        rw [hMM, hA2] at HLAST
        clear HNEXT hMM hP hacc ht hA2
        by_cases hz : t = 0
        · have hz0 : ((t : Int) == 0) = true := by rw [hz]; rfl
          by_cases hi0 : 0 < i
          · have hT := Lib.hid (num2_none (HVAIN.out hi0 hz))
            have v1z : (0 : Int) < (i : Int) := by clear t1 t2 m1 m2 m3 hO s6; omega
            have v1d : decide ((0 : Int) < (i : Int)) = true := decide_eq_true v1z
            clear HVAIN HLAST hc hz
            go_wp2
            go_ret2
            exact ⟨by rw [hT.out]; rfl, rfl⟩
          · have hT := Lib.hid (num2_some (HLAST.out hc1 (.inl (by clear t1 t2 m1 m2 m3 hO s6; omega))))
            have v1z : ¬ (0 : Int) < (i : Int) := by clear t1 t2 m1 m2 m3 hO s6; omega
            have v1d : decide ((0 : Int) < (i : Int)) = false := decide_eq_false v1z
            clear HVAIN HLAST hc hz
            go_wp2
            go_ret2
            exact ⟨by rw [hT.out]; unfold pairI; simp, rfl⟩
        · have hz0 : ((t : Int) == 0) = false := by simp; exact hz
          have hT := Lib.hid (num2_some (HLAST.out hc1 (.inr hz)))
          clear HVAIN HLAST hc hz
          go_wp2
          go_ret2
          exact ⟨by rw [hT.out]; unfold pairI; simp, rfl⟩
      · have hc1z : (128 : Int) ≤ (c : Int) := by clear t1 t2 m1 m2 m3 hO s6; omega
        have hc1d : decide ((128 : Int) ≤ (c : Int)) = true := decide_eq_true hc1z
        have HN := Lib.hid (HNEXT.out (by clear t1 t2 m1 m2 m3 hO s6; omega))
        clear HLAST HNEXT HVAIN hMM hP hacc ht hc
        go_wp2
        exact ⟨⟨i + 1, A2, by clear t1 t2 m1 m2 m3 hO s6; omega, by go_num, by go_num, HN.out, trivial⟩, by clear t1 t2 m1 m2 m3 hO s6; simp [intOf]; omega⟩
    · have hltz : ¬ (i : Int) < (m : Int) := by omega
      have hld : decide ((i : Int) < (m : Int)) = false := decide_eq_false hltz
      have hT := Lib.hid (num2_none (show num7 l = none from by
        by_cases h : n ≤ 9
        · exact hM.short (by rw [HL.out]; have := HM.out; omega)
        · obtain rfl : i = 9 := by have := HM.out; omega
          exact hM.long))
      clear hM
      go_wp2
      go_ret2
      exact ⟨by rw [hT.out]; rfl, rfl⟩
end Go.Proofs.YtnmopjefjpifoaaGreatDoor
