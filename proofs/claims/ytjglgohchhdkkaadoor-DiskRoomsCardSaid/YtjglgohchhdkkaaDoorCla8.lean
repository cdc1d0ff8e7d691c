/- In, Clash. -/
import Derived.Test.YtjglgohchhdkkaaDoorLibP7
namespace Go.Proofs.YtjglgohchhdkkaaDoor
open Go Go.RowKit

theorem starts_parts {s d : S8} (h : startsL s d = true) : s = d ++ s.drop d.length := by
  unfold startsL at h
  rw [Bool.and_eq_true, beq_iff_eq] at h
  conv => lhs; rw [← List.take_append_drop d.length s, h.2]
theorem inL_parts (s d : S8) : inL s d = (startsL s d && (decide (1 < (s.drop d.length).length) && (chr (s.drop d.length) 0 == 47))) := by
  cases h : startsL s d with
  | true =>
    rw [Bool.true_and]
    have e := starts_parts h
    generalize s.drop d.length = t at *
    subst e
    unfold inL
    cases t with
    | nil => rw [decide_eq_false (by simp), decide_eq_false (by simp)]; rfl
    | cons c r =>
      have e1 : (d ++ c :: r).take (d.length + 1) = d ++ [c] := by
        simp [List.take_append, List.take_of_length_le]
      rw [e1]
      have hc : chr (c :: r) 0 = c.toNat := by rw [chr_eq (by simp)]; rfl
      rw [hc]
      have e2 : decide (d.length + 1 < (d ++ c :: r).length) = decide (1 < (c :: r).length) := by
        congr 1
        simp
      rw [e2]
      congr 1
      by_cases h47 : c = 47
      · subst h47; simp
      · have : ¬ c.toNat = 47 := fun e => h47 (UInt8.toNat_inj.1 e)
        rw [beq_eq_false_iff_ne.2 this]
        exact beq_eq_false_iff_ne.2 (fun e => h47 (by simpa using e))
  | false =>
    rw [Bool.false_and]
    unfold inL
    by_cases hl : d.length + 1 < s.length
    · rw [decide_eq_true hl, Bool.true_and]
      refine beq_eq_false_iff_ne.2 fun e => ?_
      have : startsL s d = true := by
        unfold startsL
        rw [decide_eq_true (by omega), Bool.true_and, beq_iff_eq]
        have := congrArg (List.take d.length) e
        rw [List.take_take, List.take_left] at this
        rwa [Nat.min_eq_left (by omega)] at this
      rw [this] at h; cases h
    · rw [decide_eq_false hl]; rfl
set_option maxHeartbeats 1000000 in
theorem lies_any (s d : S8) (w : World) (hs : s.length < 100000) (hd : d.length < 100000) : Calls Tryd.prog 52 #[.string (mkS s), .string (mkS d)] w fun e w' => Gives (.bool (inL s d)) w e w' := by
  have HC := Lib.hid (cutPrefix_any s d w)
  have HP := Lib.hid (inL_parts s d)
  have HB := Lib.hid (show behindL s d = if startsL s d then s.drop d.length else s from rfl)
  have hlen : (s.drop d.length).length ≤ s.length := by rw [List.length_drop]; omega
  generalize behindL s d = x at *
  generalize s.drop d.length = t at *
  generalize inL s d = v at *
  generalize startsL s d = b at *
  cases b with
  | false =>
    obtain rfl : v = false := by rw [HP.out]; rfl
    go_enter Tryd.func52, Tryd.ntmps52
    go_wp2_with fail
    refine HC.out.mono ?_
    rintro e w' ⟨rfl, rfl⟩
    go_wp2
    go_ret
    exact ⟨rfl, Below.refl _ _⟩
  | true =>
    obtain rfl : x = t := by rw [HB.out]; rfl
    by_cases h1 : 1 < x.length
    · have z1 : (1 : Int) < (x.length : Int) := by omega
      have z2 : decide ((1 : Int) < (x.length : Int)) = true := decide_eq_true z1
      have hix : ∀ u, (Instr.index 9 (.string (mkS x)) (.int .i64 0)).run Tryd.prog u = .ok (.int .u8 (chr x 0 : Int)) u := fun u => ix_S x 0 u (by omega)
      have HP2 := Lib.hid (show v = (chr x 0 == 47) from by rw [HP.out, decide_eq_true h1, Bool.true_and, Bool.true_and])
      clear HP
      generalize chr x 0 = c at *
      by_cases h47 : c = 47
      · subst h47
        obtain rfl : v = true := by rw [HP2.out]; rfl
        go_enter Tryd.func52, Tryd.ntmps52
        go_wp2_with fail
        refine HC.out.mono ?_
        rintro e w' ⟨rfl, rfl⟩
        go_wp2
        go_ret
        exact ⟨rfl, Below.refl _ _⟩
      · have hz : ((c : Int) == 47) = false := by simp; omega
        obtain rfl : v = false := by rw [HP2.out]; simpa using h47
        go_enter Tryd.func52, Tryd.ntmps52
        go_wp2_with fail
        refine HC.out.mono ?_
        rintro e w' ⟨rfl, rfl⟩
        go_wp2
        go_ret
        exact ⟨rfl, Below.refl _ _⟩
    · have z1 : ¬ (1 : Int) < (x.length : Int) := by omega
      have z2 : decide ((1 : Int) < (x.length : Int)) = false := decide_eq_false z1
      obtain rfl : v = false := by rw [HP.out, decide_eq_false h1]; rfl
      go_enter Tryd.func52, Tryd.ntmps52
      go_wp2_with fail
      refine HC.out.mono ?_
      rintro e w' ⟨rfl, rfl⟩
      go_wp2
      go_ret
      exact ⟨rfl, Below.refl _ _⟩
set_option maxHeartbeats 1000000 in
theorem clash_any (a b : S8) (w : World) (ha : a.length < 100000) (hb : b.length < 100000) : Calls Tryd.prog 39 #[.string (mkS a), .string (mkS b)] w fun e w' => Gives (.bool (inL a b || inL b a)) w e w' := by
  have H1 := Lib.hid (lies_any a b w ha hb)
  have H2 := Lib.hid (fun u => lies_any b a u hb ha)
  generalize inL a b = x at *
  generalize inL b a = y at *
  cases x with
  | true =>
    go_enter Tryd.func39, Tryd.ntmps39
    go_wp2_with fail
    refine H1.out.mono ?_
    rintro e w1 ⟨rfl, hB⟩
    have HB := Lib.hid hB
    clear hB H1
    go_wp2
    go_ret
    exact ⟨rfl, HB.out⟩
  | false =>
    go_enter Tryd.func39, Tryd.ntmps39
    go_wp2_with fail
    refine H1.out.mono ?_
    rintro e w1 ⟨rfl, hB⟩
    have HB := Lib.hid hB
    clear hB H1
    go_wp2_with fail
    refine (H2.out _).mono ?_
    rintro e w2 ⟨rfl, hB⟩
    have HB2 := Lib.hid (HB.out.trans (hB.mono HB.out.size))
    clear hB H2
    go_wp2
    go_ret
    exact ⟨rfl, HB2.out⟩
end Go.Proofs.YtjglgohchhdkkaaDoor
