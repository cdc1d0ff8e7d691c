/- The reference's homes, copies, kinds. -/
import Derived.Test.YtbnolmbbpdjibaaDoorRefW7
set_option linter.unusedSimpArgs false
set_option linter.unusedVariables false
namespace Go.Proofs.YtbnolmbbpdjibaaDoor
open Go Go.RowKit

theorem homeOf_cat (size : Int) (sum : S8) : homeOf size sum = cat (cat (cat confl (decL size.toNat)) [126]) sum := by unfold homeOf; rw [cat_eq, cat_eq, cat_eq]
theorem hex_bad {l : S8} {i c : Nat} (h : i < l.length) (hc : chr l i = c) (hb : hexB c = false) : l.all (fun c => hexB c.toNat) = false := by
  rw [List.all_eq_false]
  refine ⟨l[i], List.getElem_mem h, ?_⟩
  rw [← chr_eq h, hc, hb]
  simp
set_option maxRecDepth 100000 in
set_option maxHeartbeats 2000000 in
theorem refHome_any (size : Int) (sum : S8) (hl : sum.length < 100000) (w : World) : Calls Tryd.prog 17 #[.int .i64 size, .string (mkS sum)] w fun e w' => Gives (pairS (homeL size sum)) w e w' := by
  obtain ⟨X, hX⟩ : ∃ X, homeL size sum = X := ⟨_, rfl⟩
  rw [hX]
  have HX := Lib.hid (show X = if okHome size sum then (homeOf size sum, 0) else ([], 1) from by rw [← hX]; rfl)
  clear hX
  by_cases hA : 0 ≤ size ∧ size ≤ 16384 ∧ sum.length = 64
  · obtain ⟨a1, a2, a3⟩ := hA
    have b1 : ¬ size < 0 := by omega
    have b2 : decide (size < 0) = false := decide_eq_false b1
    have b3 : ¬ 16384 < size := by omega
    have b4 : decide (16384 < size) = false := decide_eq_false b3
    have HOK := Lib.hid (show okHome size sum = sum.all (fun c => hexB c.toNat) from by unfold okHome; rw [decide_eq_true a1, decide_eq_true a2, decide_eq_true a3]; rfl)
    obtain ⟨n, hn⟩ : ∃ n : Nat, size = (n : Int) := ⟨size.toNat, by omega⟩
    have HDE := Lib.hid (fun u => refDecimal_any n (by omega) u)
    have HHO := Lib.hid (show homeOf size sum = cat (cat (cat confl (decL n)) [126]) sum from by rw [homeOf_cat, hn]; rfl)
    have hf1 : Fit [99, 111, 110, 102, 108, 105, 99, 116, 126] (decL n) := fit (by have := decL_len n; simp; omega)
    have hf2 : Fit (cat [99, 111, 110, 102, 108, 105, 99, 116, 126] (decL n)) [126] := fit (by have := decL_len n; rw [cat_len]; simp; omega)
    have hf3 : Fit (cat (cat [99, 111, 110, 102, 108, 105, 99, 116, 126] (decL n)) [126]) sum := fit (by have := decL_len n; rw [cat_len, cat_len]; simp; omega)
    generalize decL n = D at *
    subst hn
    go_enter Tryd.func17, Tryd.ntmps17
    go_wp2
    go_loopw [6] (fun vi wr => ∃ i : Nat, i ≤ 64 ∧ vi = .int .i64 i ∧ (∀ j, j < i → hexB (chr sum j) = true) ∧ w = wr) (fun vi _ => 64 - (intOf vi).toNat)
    case atStart => exact ⟨0, by decide, rfl, fun j h => absurd h (by omega), rfl⟩
    case round =>
      obtain ⟨i, hi, rfl, hh, rfl⟩ := hrel
      by_cases hlt : i < 64
      · have hl2 : i < sum.length := by omega
        have z1 : (i : Int) < 64 := by omega
        have z2 : decide ((i : Int) < 64) = true := decide_eq_true z1
        have hw := i64s i (by omega)
        obtain ⟨c, hc⟩ : ∃ c, chr sum i = c := ⟨_, rfl⟩
        have HH := Lib.hid hh
        have HLN := Lib.hid hl2
        clear hh
        rcases (show c < 48 ∨ (48 ≤ c ∧ c ≤ 57) ∨ (57 < c ∧ c < 97) ∨ (97 ≤ c ∧ c ≤ 102) ∨ 102 < c by omega) with q | q | q | q | q
        · have x0 : ¬ ((48 : Int) ≤ (c : Int)) := by omega
          have y0 : decide ((48 : Int) ≤ (c : Int)) = false := decide_eq_false x0
          have x1 : ((c : Int) ≤ 57) := by omega
          have y1 : decide ((c : Int) ≤ 57) = true := decide_eq_true x1
          have x2 : ¬ ((97 : Int) ≤ (c : Int)) := by omega
          have y2 : decide ((97 : Int) ≤ (c : Int)) = false := decide_eq_false x2
          have x3 : ((c : Int) ≤ 102) := by omega
          have y3 : decide ((c : Int) ≤ 102) = true := decide_eq_true x3
          have hbad := hex_bad HLN.out hc (by unfold hexB; simp; omega)
          obtain rfl : X = ([], 1) := by rw [HX.out, HOK.out, hbad]; rfl
          clear hbad
          go_wp2
          go_ret2
          exact ⟨by unfold pairS; rw [mkS_nil]; rfl, Below.refl _ _⟩
        · have x0 : ((48 : Int) ≤ (c : Int)) := by omega
          have y0 : decide ((48 : Int) ≤ (c : Int)) = true := decide_eq_true x0
          have x1 : ((c : Int) ≤ 57) := by omega
          have y1 : decide ((c : Int) ≤ 57) = true := decide_eq_true x1
          have x2 : ¬ ((97 : Int) ≤ (c : Int)) := by omega
          have y2 : decide ((97 : Int) ≤ (c : Int)) = false := decide_eq_false x2
          have x3 : ((c : Int) ≤ 102) := by omega
          have y3 : decide ((c : Int) ≤ 102) = true := decide_eq_true x3
          have HN := Lib.hid (show ∀ j, j < i + 1 → hexB (chr sum j) = true from fun j h => by
            rcases Nat.lt_succ_iff_lt_or_eq.1 h with h | h
            · exact HH.out j h
            · rw [h, hc]; unfold hexB; simp; omega)
          go_wp2
          exact ⟨⟨i + 1, by omega, by go_num, HN.out, trivial⟩, by simp [intOf]; omega⟩
        · have x0 : ((48 : Int) ≤ (c : Int)) := by omega
          have y0 : decide ((48 : Int) ≤ (c : Int)) = true := decide_eq_true x0
          have x1 : ¬ ((c : Int) ≤ 57) := by omega
          have y1 : decide ((c : Int) ≤ 57) = false := decide_eq_false x1
          have x2 : ¬ ((97 : Int) ≤ (c : Int)) := by omega
          have y2 : decide ((97 : Int) ≤ (c : Int)) = false := decide_eq_false x2
          have x3 : ((c : Int) ≤ 102) := by omega
          have y3 : decide ((c : Int) ≤ 102) = true := decide_eq_true x3
          have hbad := hex_bad HLN.out hc (by unfold hexB; simp; omega)
          obtain rfl : X = ([], 1) := by rw [HX.out, HOK.out, hbad]; rfl
          clear hbad
          go_wp2
          go_ret2
          exact ⟨by unfold pairS; rw [mkS_nil]; rfl, Below.refl _ _⟩
        · have x0 : ((48 : Int) ≤ (c : Int)) := by omega
          have y0 : decide ((48 : Int) ≤ (c : Int)) = true := decide_eq_true x0
          have x1 : ¬ ((c : Int) ≤ 57) := by omega
          have y1 : decide ((c : Int) ≤ 57) = false := decide_eq_false x1
          have x2 : ((97 : Int) ≤ (c : Int)) := by omega
          have y2 : decide ((97 : Int) ≤ (c : Int)) = true := decide_eq_true x2
          have x3 : ((c : Int) ≤ 102) := by omega
          have y3 : decide ((c : Int) ≤ 102) = true := decide_eq_true x3
          have HN := Lib.hid (show ∀ j, j < i + 1 → hexB (chr sum j) = true from fun j h => by
            rcases Nat.lt_succ_iff_lt_or_eq.1 h with h | h
            · exact HH.out j h
            · rw [h, hc]; unfold hexB; simp; omega)
          go_wp2
          exact ⟨⟨i + 1, by omega, by go_num, HN.out, trivial⟩, by simp [intOf]; omega⟩
        · have x0 : ((48 : Int) ≤ (c : Int)) := by omega
          have y0 : decide ((48 : Int) ≤ (c : Int)) = true := decide_eq_true x0
          have x1 : ¬ ((c : Int) ≤ 57) := by omega
          have y1 : decide ((c : Int) ≤ 57) = false := decide_eq_false x1
          have x2 : ((97 : Int) ≤ (c : Int)) := by omega
          have y2 : decide ((97 : Int) ≤ (c : Int)) = true := decide_eq_true x2
          have x3 : ¬ ((c : Int) ≤ 102) := by omega
          have y3 : decide ((c : Int) ≤ 102) = false := decide_eq_false x3
          have hbad := hex_bad HLN.out hc (by unfold hexB; simp; omega)
          obtain rfl : X = ([], 1) := by rw [HX.out, HOK.out, hbad]; rfl
          clear hbad
          go_wp2
          go_ret2
          exact ⟨by unfold pairS; rw [mkS_nil]; rfl, Below.refl _ _⟩
      · obtain rfl : i = 64 := by omega
        have hall : sum.all (fun c => hexB c.toNat) = true := by
          rw [List.all_eq_true]
          intro x hx
          obtain ⟨j, hj, rfl⟩ := List.getElem_of_mem hx
          rw [← chr_eq hj]
          exact hh j (by omega)
        obtain rfl : X = (cat (cat (cat [99, 111, 110, 102, 108, 105, 99, 116, 126] D) [126]) sum, 0) := by rw [HX.out, HOK.out, hall, HHO.out]; rfl
        clear hh hall
        go_wp2_with fail
        refine (HDE.out _).mono ?_
        rintro e w' ⟨rfl, hB⟩
        have HB := Lib.hid hB
        clear hB
        go_wp2
        go_ret2
        exact ⟨rfl, HB.out⟩
  · obtain rfl : X = ([], 1) := by
      rw [HX.out]
      have : okHome size sum = false := by
        unfold okHome
        by_cases p1 : 0 ≤ size
        · by_cases p2 : size ≤ 16384
          · rw [decide_eq_false (show ¬ sum.length = 64 from fun e => hA ⟨p1, p2, e⟩)]; simp
          · rw [decide_eq_false p2]; simp
        · rw [decide_eq_false p1]; rfl
      rw [this]; rfl
    by_cases p1 : size < 0
    · have b2 : decide (size < 0) = true := decide_eq_true p1
      clear hA
      go_enter Tryd.func17, Tryd.ntmps17
      go_wp2
      go_ret2
      exact ⟨by unfold pairS; rw [mkS_nil]; rfl, Below.refl _ _⟩
    · have b2 : decide (size < 0) = false := decide_eq_false p1
      by_cases p2 : 16384 < size
      · have b4 : decide (16384 < size) = true := decide_eq_true p2
        clear hA
        go_enter Tryd.func17, Tryd.ntmps17
        go_wp2
        go_ret2
        exact ⟨by unfold pairS; rw [mkS_nil]; rfl, Below.refl _ _⟩
      · have b4 : decide (16384 < size) = false := decide_eq_false p2
        have p3 : ¬ sum.length = 64 := fun e => hA ⟨by omega, by omega, e⟩
        have p4 : ((sum.length : Int) == 64) = false := by simp; omega
        have p5 : ((sum.length : Int) != 64) = true := by simp; omega
        clear hA
        go_enter Tryd.func17, Tryd.ntmps17
        go_wp2
        go_ret2
        exact ⟨by unfold pairS; rw [mkS_nil]; rfl, Below.refl _ _⟩
end Go.Proofs.YtbnolmbbpdjibaaDoor
