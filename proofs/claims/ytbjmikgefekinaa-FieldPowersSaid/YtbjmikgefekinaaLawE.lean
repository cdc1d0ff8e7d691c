/- The statement FieldPowers, walked. -/
import Derived.Test.YtbjmikgefekinaaKnown
set_option linter.unusedSimpArgs false
set_option linter.unusedVariables false
namespace Go.Proofs.Ytbjmikgefekinaa
open Go Go.RowKit

attribute [local go_sem ↓] exec_bs
attribute [local go_sem] bsl1 bs2 bsl3 bslA
set_option maxRecDepth 100000 in
set_option maxHeartbeats 4000000 in
theorem powers_neg (a : BitVec 8) (n : Int) (hn : n < 0) (w : World) : Calls Try.prog 5 #[B a, .int .i64 n] w fun e w' => e = .returned (.bool true) ∧ Below w.heap.size w w' := by
  have HB := Lib.hid (Below.refl w.heap.size w)
  have HN := Lib.hid hn
  have hd : decide (n < 0) = true := decide_eq_true hn
  clear hn
  go_enter Try.func5, Try.ntmps5
  go_wp2_with fail
  refine (awake_any w w HB.out).mono ?_
  rintro e w1 ⟨rfl, hB1⟩
  have HB1 := Lib.hid hB1
  clear hB1
  go_wp2_with fail
  refine (newG w w1 HB1.out).mono ?_
  rintro e w2 ⟨rfl, hG2⟩
  have HG2 := Lib.hid hG2
  clear hG2
  generalize w1.heap.size = bb at *
  go_wp2_with fail
  refine (powN w w2 bb HG2.out a n HN.out).mono ?_
  rintro e w3 ⟨rfl, hG3⟩
  have HG3 := Lib.hid hG3
  clear hG3
  go_wp2
  go_ret
  exact ⟨rfl, HG3.out.2⟩
set_option maxRecDepth 100000 in
set_option maxHeartbeats 4000000 in
theorem powers_any (a : BitVec 8) (n : Nat) (hn : n < 9223372036854775808) (w : World) : Calls Try.prog 5 #[B a, .int .i64 (n : Int)] w fun e w' => e = .returned (.bool true) ∧ Below w.heap.size w w' := by
  have HB := Lib.hid (Below.refl w.heap.size w)
  have hd : decide ((n : Int) < 0) = false := decide_eq_false (by omega)
  have HRED := Lib.hid (gp_red a n)
  go_enter Try.func5, Try.ntmps5
  go_wp2_with fail
  refine (awake_any w w HB.out).mono ?_
  rintro e w1 ⟨rfl, hB1⟩
  have HB1 := Lib.hid hB1
  clear hB1
  go_wp2_with fail
  refine (newG w w1 HB1.out).mono ?_
  rintro e w2 ⟨rfl, hG2⟩
  have HG2 := Lib.hid hG2
  clear hG2
  generalize w1.heap.size = bb at *
  go_wp2_with fail
  refine (powA w w2 bb HG2.out a n).mono ?_
  rintro e w3 ⟨rfl, hG3⟩
  have HG3 := Lib.hid hG3
  clear hG3
  go_wp2
  · obtain ⟨T, hT, hgp, hTb⟩ : ∃ T : Nat, ((n : Int) % 255 + 255) = (T : Int) ∧ gp a T = gp a n ∧ T < 1000 := ⟨n % 255 + 255, by omega, by
      have := HRED.out
      rwa [Nat.min_eq_right (by omega)] at this, by omega⟩
    rw [hT]
    have HGP := Lib.hid hgp
    clear hT hgp
    go_loop [8, 34] (fun v i => ∃ k : Nat, k ≤ T ∧ i = .int .i64 k ∧ v = B (gp a k)) (fun _ i => T - (intOf i).toNat)
    case atStart => exact ⟨0, Nat.zero_le _, rfl, B_1.symm⟩
    case round =>
      obtain ⟨k, hk, rfl, rfl⟩ := hrel
      by_cases hlt : k < T
      · have hd0 : decide ((k : Int) < (T : Int)) = true := decide_eq_true (by omega)
        go_wp2_with fail
        refine (refMul_any (gp a k) a w3).mono ?_
        rintro e wz ⟨rfl, rfl⟩
        go_wp2
        go_round
        case rel => exact ⟨k + 1, by omega, by go_num, rfl⟩
        case measure => simp [intOf]; omega
      · have hd0 : decide ((k : Int) < (T : Int)) = false := decide_eq_false (by omega)
        obtain rfl : k = T := by omega
        have e1 : (gp a n == gp a k) = true := by rw [beq_iff_eq]; exact HGP.out.symm
        go_wp2
        go_ret
        exact ⟨rfl, HG3.out.2⟩
  · obtain ⟨T, hT, hgp, hTb⟩ : ∃ T : Nat, ((n : Int) % 255 + 255 * ((n : Int) / 255)) = (T : Int) ∧ gp a T = gp a n ∧ T < 1000 := ⟨n % 255 + 255 * (n / 255), by omega, by
      have := HRED.out
      rwa [Nat.min_eq_left (by omega)] at this, by omega⟩
    rw [hT]
    have HGP := Lib.hid hgp
    clear hT hgp
    go_loop [8, 34] (fun v i => ∃ k : Nat, k ≤ T ∧ i = .int .i64 k ∧ v = B (gp a k)) (fun _ i => T - (intOf i).toNat)
    case atStart => exact ⟨0, Nat.zero_le _, rfl, B_1.symm⟩
    case round =>
      obtain ⟨k, hk, rfl, rfl⟩ := hrel
      by_cases hlt : k < T
      · have hd0 : decide ((k : Int) < (T : Int)) = true := decide_eq_true (by omega)
        go_wp2_with fail
        refine (refMul_any (gp a k) a w3).mono ?_
        rintro e wz ⟨rfl, rfl⟩
        go_wp2
        go_round
        case rel => exact ⟨k + 1, by omega, by go_num, rfl⟩
        case measure => simp [intOf]; omega
      · have hd0 : decide ((k : Int) < (T : Int)) = false := decide_eq_false (by omega)
        obtain rfl : k = T := by omega
        have e1 : (gp a n == gp a k) = true := by rw [beq_iff_eq]; exact HGP.out.symm
        go_wp2
        go_ret
        exact ⟨rfl, HG3.out.2⟩
end Go.Proofs.Ytbjmikgefekinaa
