/- The statement ShardCuts, walked over the premises. -/
import Derived.Test.YtphpliclecmnlaaK5
set_option linter.unusedSimpArgs false
set_option linter.unusedVariables false
namespace Go.Proofs.Ytphpliclecmnlaa
open Go Go.RowKit

theorem cutEach_ge (k n : Nat) (hk : 1 ≤ k) : n ≤ cutEach k n * k ∧ cutEach k n * k < n + k := by
  unfold cutEach
  have h1 := Nat.div_add_mod (n + k - 1) k
  have h2 := Nat.mod_lt (n + k - 1) (show 0 < k by omega)
  rw [Nat.mul_comm] at h1
  omega
theorem cutEach_le (k n : Nat) (hk : 1 ≤ k) : cutEach k n ≤ n := by
  unfold cutEach
  rcases Nat.eq_zero_or_pos n with h | h
  · subst h
    rw [Nat.div_eq_of_lt (by omega)]; exact Nat.le_refl _
  · refine Nat.div_le_of_le_mul ?_
    have : n + k - 1 ≤ k * n := by
      obtain ⟨k', rfl⟩ := Nat.exists_eq_add_of_le hk
      obtain ⟨n', rfl⟩ := Nat.exists_eq_add_of_le h
      have e : (1 + k') * (1 + n') = 1 + n' + k' + k' * n' := by
        rw [Nat.add_mul, Nat.one_mul, Nat.mul_add k', Nat.mul_one]; omega
      simp only [Nat.succ_eq_add_one, Nat.zero_add] at *
      rw [e]; omega
    exact this
theorem cut_even (k : Nat) (l : List (BitVec 8)) (hk : 1 ≤ k) : evB (cutL k l) k = true := decide_eq_true ⟨rowsL_length _ _ _, fun i hi => by
  unfold cutL at hi ⊢
  rw [rowsL_length] at hi
  rw [rowsL_len _ _ _ _ hi, rowsL_len _ _ _ _ (by omega)]⟩
section
variable {Cd : World → Nat → Nat → Nat → Prop} (S : CodeSpec Cd) (a c : Int) (p : Option Addr) (n cap : Nat) (w : World)
include S
set_option maxRecDepth 100000 in
set_option maxHeartbeats 4000000 in
theorem sc_a (h : 500 < n) : Calls Try.prog 6 #[.agg #[.int .u8 a, .int .u8 c], .slice p n cap] w fun e w' => e = .returned (.bool true) ∧ Below w.heap.size w w' := by
  have hd : decide ((500 : Int) < (n : Int)) = true := decide_eq_true (by omega)
  have HB0 := Lib.hid (show Below w.heap.size w (w.alloc (.cells #[.int .u8 a, .int .u8 c] 22)) from (Below.refl _ _).alloc (Nat.le_refl _) _)
  have HS := Lib.hid S
  clear S
  go_enter Try.func6, Try.ntmps6
  go_wp2_with fail
  refine (awake4 HS.out w _ HB0.out).mono ?_
  rintro e w1 ⟨rfl, hB1⟩
  have HB1 := Lib.hid hB1
  clear hB1
  go_wp2_with fail
  refine (awake4 HS.out w w1 HB1.out).mono ?_
  rintro e w2 ⟨rfl, hB2⟩
  have HB2 := Lib.hid hB2
  clear hB2
  go_wp2
  go_ret
  exact ⟨rfl, HB2.out⟩
set_option maxRecDepth 100000 in
set_option maxHeartbeats 8000000 in
theorem sc_b (l : List (BitVec 8)) (hs : Sl w p l) (hl : l.length = n) (hnc : n ≤ cap) (h : n ≤ 500) (ha : 0 ≤ a) (ha2 : a < 256) (hc : 0 ≤ c) (hc2 : c < 256) (k m : Nat) (hk : 1 + a % 12 = (k : Int)) (hm : 1 + c % 12 = (m : Int)) : Calls Try.prog 6 #[.agg #[.int .u8 a, .int .u8 c], .slice p n cap] w fun e w' => e = .returned (.bool true) ∧ Below w.heap.size w w' := by
  have hd : decide ((500 : Int) < (n : Int)) = false := decide_eq_false (by omega)
  have hk1 : 1 ≤ k := by omega
  have hk2 : k ≤ 12 := by omega
  have hm1 : 1 ≤ m := by omega
  have hm2 : m ≤ 12 := by omega
  have hB0 : Below w.heap.size w (w.alloc (.cells #[.int .u8 a, .int .u8 c] 22)) := (Below.refl _ _).alloc (Nat.le_refl _) _
  have HB0 := Lib.hid hB0
  have HC0 := Lib.hid (show (w.alloc (.cells #[.int .u8 a, .int .u8 c] 22)).cell? ⟨w.heap.size, 0, none⟩ = some (.int .u8 a) by rw [World.cell?_alloc_new]; rfl)
  have HC1 := Lib.hid (show (w.alloc (.cells #[.int .u8 a, .int .u8 c] 22)).cell? ⟨w.heap.size, 1, none⟩ = some (.int .u8 c) by rw [World.cell?_alloc_new]; rfl)
  have hs0 : w.heap.size < (w.alloc (.cells #[.int .u8 a, .int .u8 c] 22)).heap.size := by rw [World.size_alloc]; omega
  have HS := Lib.hid S
  have HSL := Lib.hid hs
  have HL := Lib.hid hl
  clear S hB0 hs hl
  go_enter Try.func6, Try.ntmps6
  go_wp2_with fail
  refine (awake4 HS.out _ _ (Below.refl _ _)).mono ?_
  rintro e w1 ⟨rfl, hB1⟩
  have hx0 : w1.cell? ⟨w.heap.size, 0, none⟩ = some (.int .u8 a) := by rw [hB1.cell (by exact hs0)]; exact HC0.out
  have hx1 : w1.cell? ⟨w.heap.size, 1, none⟩ = some (.int .u8 c) := by rw [hB1.cell (by exact hs0)]; exact HC1.out
  have HB1 := Lib.hid (bel_step HB0.out hB1)
  clear hB1
  go_wp2_with fail
  refine (HS.out.new k m w1 hk1 hm1 (by omega)).mono ?_
  rintro e w2 ⟨b, rfl, hC, hB2⟩
  have HC := Lib.hid hC
  have HB2 := Lib.hid (bel_step HB1.out hB2)
  clear hC hB2 HB1 hx0 hx1 hs0 HB0 HC0 HC1 hk hm
  go_wp2_with fail
  refine (HS.out.cut b k m l p n cap w2 HC.out (HSL.out.of_below HB2.out) HL.out (by omega) hnc).mono ?_
  rintro e w3 ⟨q, d, rfl, hp3, hB3⟩
  have HB3 := Lib.hid (bel_step HB2.out hB3)
  have HP3 := Lib.hid hp3
  have hge := cutEach_ge k n hk1
  have hle := cutEach_le k n hk1
  have HEV := Lib.hid (cut_even k l hk1)
  have HCE := Lib.hid (show cutL k l = rowsL k (cutEach k n) (fun i j => l.getD (i * cutEach k n + j) 0#8) by unfold cutL; rw [HL.out])
  clear hp3 hB3 HB2 HC
  generalize hE : cutEach k n = E at *
  obtain ⟨P, hP⟩ : ∃ P, P = E * k := ⟨_, rfl⟩
  have hPi : (E : Int) * (k : Int) = (P : Int) := by rw [hP]; simp
  have hPn : n ≤ P ∧ P < n + k := by rw [hP]; exact hge
  have HPP := Lib.hid hP
  have hw1 : IntKind.i64.wrap (P : Int) = (P : Int) := IntWalk.i64_in _ (by omega)
  have hw2 : IntKind.i64.wrap ((P : Int) - (n : Int)) = (P : Int) - (n : Int) := IntWalk.i64_in _ (by omega)
  have d1 : decide ((P : Int) < (n : Int)) = false := decide_eq_false (by omega)
  have d1n : decide (P < n) = false := decide_eq_false (by omega)
  have d2 : decide ((k : Int) ≤ (P : Int) - (n : Int)) = false := decide_eq_false (by omega)
  have d3 : ((E : Int) != (E : Int)) = false := by simp
  have hk0 : (0 : Int) < (k : Int) := by omega
  clear hge hE hP
  go_wp2_with fail
  refine (refEven_any (cutL k l) q k d k w3 HP3.out (by rw [HCE.out, rowsL_length]) (by omega)).mono ?_
  rintro e w4 ⟨he, hD4⟩
  obtain rfl := he.trans (by rw [HEV.out] : _ = Ending.returned (.bool true))
  rw [HCE.out] at HP3
  obtain ⟨c0, o0, q0, cap0, rfl, -, hc0, -, -⟩ := HP3.out.at_ 0 (by rw [rowsL_length]; omega)
  rw [Nat.add_zero, rowsL_len _ _ _ _ (by omega)] at hc0
  have hx0 : w4.cell? ⟨c0, o0, none⟩ = some (.slice q0 E cap0) := by rw [hD4.cell]; exact hc0
  have HP4 := Lib.hid (HP3.out.dr hD4)
  have HB4 := Lib.hid (bel_dr HB3.out hD4)
  clear hD4 hc0 HP3 HB3
  go_wp2
  clear hx0
  go_loopw [80] (fun i wr => ∃ t : Nat, t ≤ P ∧ i = .int .i64 t ∧ Dr w4 wr) (fun i _ => P - (intOf i).toNat)
  case atStart => exact ⟨0, Nat.zero_le _, rfl, Dr.refl _⟩
  case round =>
    obtain ⟨t, ht, rfl, hD⟩ := hrel
    have HD := Lib.hid hD
    clear hD
    by_cases htP : t < P
    · have hdt : decide ((t : Int) < (P : Int)) = true := decide_eq_true (by omega)
      have hE0 : 0 < E := by
        rcases Nat.eq_zero_or_pos E with h | h
        · have := HPP.out; rw [h, Nat.zero_mul] at this; omega
        · exact h
      have hq1 : t / E < k := Nat.div_lt_of_lt_mul (by rw [← HPP.out]; exact htP)
      have hq2 : t % E < E := Nat.mod_lt _ hE0
      have hsum : t / E * E + t % E = t := by rw [Nat.mul_comm]; exact Nat.div_add_mod t E
      obtain ⟨c1, o1, q1, cap1, e1, -, hc1, hs1, -⟩ := (HP4.out.dr HD.out).at_ (t / E) (by rw [rowsL_length]; exact hq1)
      injection e1 with e1
      injection e1 with e11 e12
      subst e11 e12
      rw [rowsL_len _ _ _ _ hq1] at hc1
      rw [rowsL_get _ _ _ _ hq1] at hs1
      obtain ⟨c2, o2, rfl, hc2⟩ := hs1 (t % E) (by rw [rowL_length]; exact hq2)
      rw [rowL_get _ _ _ _ hq2] at hc2
      simp only [hsum] at hc2
      have hEi : (0 : Int) < (E : Int) := by omega
      have hti : (t : Int) / (E : Int) = ((t / E : Nat) : Int) := by simp
      have htm : (t : Int) % (E : Int) = ((t % E : Nat) : Int) := by simp
      have r1 : ((t / E : Nat) : Int) < (k : Int) := by omega
      have r2 : ((t % E : Nat) : Int) < (E : Int) := by omega
      generalize t / E = T1 at *
      generalize t % E = T2 at *
      by_cases htn : t < n
      · have hdn : decide ((t : Int) < (n : Int)) = true := decide_eq_true (by omega)
        have htni : (t : Int) < (n : Int) := by omega
        obtain ⟨c3, o3, rfl, hc3⟩ := HSL.out t (by rw [HL.out]; exact htn)
        have hx3 : wr.cell? ⟨c3, o3 + t, none⟩ = some (B (l.getD t 0#8)) := by
          rw [HD.out.cell, HB4.out.cell (World.block_lt_of_cell? w _ hc3)]; exact hc3
        generalize l.getD t 0#8 = y at *
        have hyy : (y != y) = false := by simp
        clear hc3 hs1
        go_wp2
        go_quiet (fail)
        go_wp2
        go_roundw
        case rel => exact ⟨t + 1, by omega, by go_num, HD.out.drewN _⟩
        case measure => simp [intOf]; omega
      · have hdn : decide ((t : Int) < (n : Int)) = false := decide_eq_false (by omega)
        have hy0 : l.getD t 0#8 = 0#8 := by
          rw [List.getD_eq_getElem?_getD, List.getElem?_eq_none (by rw [HL.out]; omega)]; rfl
        rw [hy0] at hc2
        have hzz : ((0#8 : BitVec 8) != 0#8) = false := by decide
        clear hy0 hs1
        go_wp2
        go_quiet (fail)
        go_wp2
        go_roundw
        case rel => exact ⟨t + 1, by omega, by go_num, HD.out.drewN _⟩
        case measure => simp [intOf]; omega
    · have hdt : decide ((t : Int) < (P : Int)) = false := decide_eq_false (by omega)
      have HB5 := Lib.hid (bel_dr HB4.out HD.out)
      go_wp2
      go_ret
      exact ⟨rfl, HB5.out⟩
end
end Go.Proofs.Ytphpliclecmnlaa
