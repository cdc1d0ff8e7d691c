/- The leaves: rotations, shifts and the four sums of SHA-256, in the program and in the reference. -/
import Derived.Test.YtllpcllgliknpaaGreatDoorRows
import Derived.Test.YtllpcllgliknpaaGreatDoorShWords
import Derived.WalkKit
set_option linter.unusedSimpArgs false
set_option maxRecDepth 100000
set_option linter.unusedVariables false
namespace Go.Proofs.YtllpcllgliknpaaGreatDoor.Sha
open Go Go.RowKit


/-- Rotated right by n bits. -/
def R (x : BitVec 32) (n : Nat) : BitVec 32 := (x <<< (32 - n)) ||| (x >>> n)
theorem R_zero (x : BitVec 32) : R x 0 = x := by
  unfold R
  apply BitVec.eq_of_getLsbD_eq
  intro i hi
  simp
theorem R_succ (x : BitVec 32) (n : Nat) (h : n < 32) : (if R x n % 2#32 = 1#32 then R x n / 2#32 + 2147483648#32 else R x n / 2#32) = R x (n + 1) := by
  have e1 : R x n % 2#32 = if (R x n).getLsbD 0 then 1#32 else 0#32 := by
    generalize R x n = y
    apply BitVec.eq_of_toNat_eq
    have : y.getLsbD 0 = decide (y.toNat % 2 = 1) := by simp [BitVec.getLsbD, Nat.testBit_zero]
    rw [this]
    by_cases hh : y.toNat % 2 = 1 <;> simp [hh]
    omega
  have e2 : R x n / 2#32 = R x n >>> 1 := by
    apply BitVec.eq_of_toNat_eq
    simp [BitVec.toNat_udiv, Nat.shiftRight_eq_div_pow]
  have e3 : ∀ y : BitVec 32, y >>> 1 + 2147483648#32 = y >>> 1 ||| 2147483648#32 := by
    intro y
    apply BitVec.add_eq_or_of_and_eq_zero
    apply BitVec.eq_of_getLsbD_eq
    intro i hi
    have : (2147483648#32).getLsbD i = decide (i = 31) := by
      rw [show (2147483648#32) = BitVec.twoPow 32 31 from rfl, BitVec.getLsbD_twoPow]; simp; omega
    simp [this]
    intro h1 h2
    subst h2
    simp at h1
  have e4 : (if R x n % 2#32 = 1#32 then R x n / 2#32 + 2147483648#32 else R x n / 2#32) = if (R x n).getLsbD 0 then R x n >>> 1 ||| 2147483648#32 else R x n >>> 1 := by
    rw [e1, e2, e3]
    by_cases hh : (R x n).getLsbD 0 <;> simp [hh]
  rw [e4]
  apply BitVec.eq_of_getLsbD_eq
  intro i hi
  have h31 : (2147483648#32).getLsbD i = decide (i = 31) := by
    rw [show (2147483648#32) = BitVec.twoPow 32 31 from rfl, BitVec.getLsbD_twoPow]; simp; omega
  have key : ∀ j k, (R x k).getLsbD j = ((decide (j < 32) && !decide (j < 32 - k) && x.getLsbD (j - (32 - k))) || x.getLsbD (k + j)) := by
    intro j k; unfold R; simp [BitVec.getLsbD_shiftLeft]
  have hs : (R x n >>> 1).getLsbD i = (R x n).getLsbD (1 + i) := by simp
  have : (if (R x n).getLsbD 0 = true then R x n >>> 1 ||| 2147483648#32 else R x n >>> 1).getLsbD i = ((R x n).getLsbD (1 + i) || ((R x n).getLsbD 0 && decide (i = 31))) := by
    by_cases hh : (R x n).getLsbD 0
    · rw [if_pos hh, BitVec.getLsbD_or, hs, h31, hh]; simp
    · rw [if_neg hh, hs]; simp at hh; simp [hh]
  rw [this, key, key, key]
  by_cases hi' : i = 31
  · subst hi'
    have a1 : x.getLsbD (n + (1 + 31)) = false := BitVec.getLsbD_of_ge _ _ (by omega)
    by_cases h0 : n = 0
    · subst h0; simp
    · have a2 : x.getLsbD (n + 1 + 31) = false := BitVec.getLsbD_of_ge _ _ (by omega)
      have a3 : (31 : Nat) - (32 - (n + 1)) = n := by omega
      have b1 : decide (0 < 32 - n) = true := decide_eq_true (by omega)
      have b2 : decide (31 < 32 - (n + 1)) = false := decide_eq_false (by omega)
      rw [b1, b2, a3]
      simp [a1, a2]
  · have a1 : n + (1 + i) = n + 1 + i := by omega
    have a2 : 1 + i - (32 - n) = i - (32 - (n + 1)) := by omega
    have a3 : decide (1 + i < 32) = true := by simp; omega
    have a4 : decide (i < 32) = true := by simpa using hi
    have a5 : decide (1 + i < 32 - n) = decide (i < 32 - (n + 1)) := by simp; omega
    simp [a1, a2, a3, a4, a5, hi']

set_option maxHeartbeats 400000 in
theorem rotl_any (x : BitVec 32) (k s : Int) (hb : bits .and .u64 (IntKind.u64.wrap k) 31 = s) (h0 : 0 ≤ s) (h1 : s ≤ 31) (w : World) :
    Calls Tryz.prog 136 #[U x, .int .i64 k] w fun e w' => e = .returned (U ((x <<< s.toNat) ||| (x >>> (32 - s).toNat))) ∧ w' = w := by
  have h2 : s ≤ 32 := by omega
  go_enter Tryz.func136, Tryz.ntmps136
  go_wp2
  go_ret
  exact ⟨rfl, rfl⟩
set_option maxHeartbeats 400000 in
theorem rotr_any (x : BitVec 32) (n : Int) (h : n ∈ [2, 6, 7, 11, 13, 17, 18, 19, 22, 25]) (w : World) :
    Calls Tryz.prog 126 #[U x, .int .i64 n] w fun e w' => e = .returned (U (R x n.toNat)) ∧ w' = w := by
  have hs : bits .and .u64 (IntKind.u64.wrap (-n)) 31 = 32 - n := by
    simp at h
    rcases h with rfl | rfl | rfl | rfl | rfl | rfl | rfl | rfl | rfl | rfl <;> rfl
  have hn : 2 ≤ n ∧ n ≤ 25 := by simp at h; omega
  clear h
  have HS : Hid (bits .and .u64 (IntKind.u64.wrap (-n)) 31 = 32 - n) := hs
  clear hs
  go_enter Tryz.func126, Tryz.ntmps126
  go_wp2_with (go_at_call 136; refine (rotl_any x (-n) (32 - n) HS.out (by omega) (by omega) _).mono ?_; rintro e w' ⟨rfl, rfl⟩)
  go_ret
  have e1 : (32 - n).toNat = 32 - n.toNat := by omega
  have e2 : (32 - (32 - n)).toNat = n.toNat := by omega
  have e : (x <<< (32 - n).toNat ||| x >>> (32 - (32 - n)).toNat) = R x n.toNat := by rw [e1, e2, R]
  exact ⟨congrArg (fun v => Ending.returned (U v)) e, rfl⟩

def S1 (x : BitVec 32) : BitVec 32 := R x 6 ^^^ R x 11 ^^^ R x 25
def S0 (x : BitVec 32) : BitVec 32 := R x 2 ^^^ R x 13 ^^^ R x 22
def s1 (x : BitVec 32) : BitVec 32 := R x 17 ^^^ R x 19 ^^^ (x >>> 10)
def s0 (x : BitVec 32) : BitVec 32 := R x 7 ^^^ R x 18 ^^^ (x >>> 3)

set_option maxHeartbeats 400000 in
theorem bigSigma1_any (x : BitVec 32) (w : World) : Calls Tryz.prog 108 #[U x] w fun e w' => e = .returned (U (S1 x)) ∧ w' = w := by
  go_enter Tryz.func108, Tryz.ntmps108
  go_wp2_with (go_at_call 126; refine (rotr_any x _ (by decide) _).mono ?_; rintro e w' ⟨rfl, rfl⟩)
  go_ret
  exact ⟨rfl, rfl⟩
set_option maxHeartbeats 400000 in
theorem bigSigma0_any (x : BitVec 32) (w : World) : Calls Tryz.prog 109 #[U x] w fun e w' => e = .returned (U (S0 x)) ∧ w' = w := by
  go_enter Tryz.func109, Tryz.ntmps109
  go_wp2_with (go_at_call 126; refine (rotr_any x _ (by decide) _).mono ?_; rintro e w' ⟨rfl, rfl⟩)
  go_ret
  exact ⟨rfl, rfl⟩
set_option maxHeartbeats 400000 in
theorem smallSigma1_any (x : BitVec 32) (w : World) : Calls Tryz.prog 124 #[U x] w fun e w' => e = .returned (U (s1 x)) ∧ w' = w := by
  go_enter Tryz.func124, Tryz.ntmps124
  go_wp2_with (go_at_call 126; refine (rotr_any x _ (by decide) _).mono ?_; rintro e w' ⟨rfl, rfl⟩)
  go_ret
  exact ⟨rfl, rfl⟩
set_option maxHeartbeats 400000 in
theorem smallSigma0_any (x : BitVec 32) (w : World) : Calls Tryz.prog 125 #[U x] w fun e w' => e = .returned (U (s0 x)) ∧ w' = w := by
  go_enter Tryz.func125, Tryz.ntmps125
  go_wp2_with (go_at_call 126; refine (rotr_any x _ (by decide) _).mono ?_; rintro e w' ⟨rfl, rfl⟩)
  go_ret
  exact ⟨rfl, rfl⟩

set_option maxHeartbeats 400000 in
theorem turn_any (x : BitVec 32) (n : Nat) (h : n ≤ 32) (w : World) :
    Calls Tryz.prog 68 #[U x, .int .i64 n] w fun e w' => e = .returned (U (R x n)) ∧ w' = w := by
  go_enter Tryz.func68, Tryz.ntmps68
  go_wp2
  go_loop [0, 5] (fun y i => ∃ k : Nat, k ≤ n ∧ i = .int .i64 k ∧ y = U (R x k)) (fun _ i => n - (intOf i).toNat)
  case atStart => exact ⟨0, Nat.zero_le _, rfl, by rw [R_zero]⟩
  case round =>
    obtain ⟨k, hk, rfl, rfl⟩ := hrel
    by_cases hlt : k < n
    · have hs := R_succ x k (by omega)
      have HS : Hid _ := hs
      clear hs
      go_wp2
      all_goals
        go_round
        case rel => exact ⟨k + 1, by omega, by go_num, by rw [← HS.out]; first | rw [if_pos (eq_of_beq ‹(R x k % 2#32 == 1#32) = true›)] | rw [if_neg (ne_of_beq_false ‹(R x k % 2#32 == 1#32) = false›)]⟩
        case measure => simp [intOf]; omega
    · go_wp2
      have : k = n := by omega
      subst this
      go_ret
      exact ⟨rfl, rfl⟩
set_option maxHeartbeats 400000 in
theorem moved_any (x : BitVec 32) (n : Nat) (h : n ≤ 32) (w : World) :
    Calls Tryz.prog 69 #[U x, .int .i64 n] w fun e w' => e = .returned (U (x >>> n)) ∧ w' = w := by
  go_enter Tryz.func69, Tryz.ntmps69
  go_wp2
  go_loop [0, 5] (fun y i => ∃ k : Nat, k ≤ n ∧ i = .int .i64 k ∧ y = U (x >>> k)) (fun _ i => n - (intOf i).toNat)
  case atStart => exact ⟨0, Nat.zero_le _, rfl, rfl⟩
  case round =>
    obtain ⟨k, hk, rfl, rfl⟩ := hrel
    by_cases hlt : k < n
    · have hs : x >>> k / 2#32 = x >>> (k + 1) := by
        apply BitVec.eq_of_toNat_eq
        simp [BitVec.toNat_udiv, Nat.shiftRight_eq_div_pow, Nat.pow_succ, Nat.div_div_eq_div_mul]
      have HS : Hid (x >>> k / 2#32 = x >>> (k + 1)) := hs
      clear hs
      go_wp2
      go_round
      case rel => exact ⟨k + 1, by omega, by go_num, by rw [← HS.out]⟩
      case measure => simp [intOf]; omega
    · go_wp2
      have : k = n := by omega
      subst this
      go_ret
      exact ⟨rfl, rfl⟩
end Go.Proofs.YtllpcllgliknpaaGreatDoor.Sha
