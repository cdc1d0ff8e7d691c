/- The program's judge.Health, Text, Serves; Class of a NaN; the fixed fact of layer 13. -/
import Derived.Test.YtnmopjefjpifoaaDoorGaugeQ
set_option linter.unusedSimpArgs false
set_option maxRecDepth 100000
set_option linter.unusedVariables false
namespace Go.Proofs.YtnmopjefjpifoaaDoor
open Go Go.RowKit

/-- The names of the kinds. -/
def nmS : Nat → ByteArray
  | 0 => ⟨#[110, 111, 110, 101]⟩
  | 1 => ⟨#[110, 101, 119]⟩
  | 2 => ⟨#[109, 105, 115, 115, 105, 110, 103]⟩
  | 3 => ⟨#[99, 108, 101, 97, 110]⟩
  | 4 => ⟨#[114, 111, 116]⟩
  | 5 => ⟨#[101, 100, 105, 116]⟩
  | 6 => ⟨#[116, 111, 117, 99, 104, 101, 100]⟩
  | 7 => ⟨#[103, 111, 110, 101]⟩
  | _ => ⟨#[114, 101, 98, 111, 114, 110]⟩
/-- The table of names lies in its block. -/
def Nms (w : World) : Prop := 1 < w.heap.size ∧ ∀ j, j < 9 → w.cell? ⟨1, j, none⟩ = some (.string (nmS j))
theorem Nms.on {w w' : World} (h : Nms w) (hB : Below w.heap.size w w') : Nms w' := ⟨Nat.lt_of_lt_of_le h.1 hB.size, fun j hj => by rw [hB.cell (by exact h.1)]; exact h.2 j hj⟩
theorem exists_yes (j : Nat) (hj : j < 9) (w : World) : Calls Tryd.prog 11 #[.int .i64 (j : Int)] w fun e w' => e = .returned (.bool true) ∧ w = w' := by
  have h1 : (0 : Int) ≤ (j : Int) := by omega
  have h2 : (j : Int) ≤ 8 := by omega
  have h3 : decide ((0 : Int) ≤ (j : Int)) = true := decide_eq_true h1
  have h4 : decide ((j : Int) ≤ 8) = true := decide_eq_true h2
  go_enter Tryd.func11, Tryd.ntmps11
  go_wp2
  go_ret
  exact ⟨rfl, rfl⟩
theorem exists_no (k : Int) (hk : ¬ (0 ≤ k ∧ k < 9)) (w : World) : Calls Tryd.prog 11 #[.int .i64 k] w fun e w' => e = .returned (.bool false) ∧ w = w' := by
  by_cases h1 : 0 ≤ k
  · have h2 : ¬ k ≤ 8 := by omega
    have h3 : decide ((0 : Int) ≤ k) = true := decide_eq_true h1
    have h4 : decide (k ≤ 8) = false := decide_eq_false h2
    clear hk
    go_enter Tryd.func11, Tryd.ntmps11
    go_wp2
    go_ret
    exact ⟨rfl, rfl⟩
  · have h3 : decide ((0 : Int) ≤ k) = false := decide_eq_false h1
    clear hk
    go_enter Tryd.func11, Tryd.ntmps11
    go_wp2
    go_ret
    exact ⟨rfl, rfl⟩
theorem text_yes (j : Nat) (hj : j < 9) (w : World) (h : Nms w) : Calls Tryd.prog 7 #[.int .i64 (j : Int)] w fun e w' => e = .returned (.string (nmS j)) ∧ w = w' := by
  have h1 : (0 : Int) ≤ (j : Int) := by omega
  have h2 : (j : Int) < 9 := by omega
  have hc := h.2 j hj
  have HE := Lib.hid (exists_yes j hj w)
  obtain ⟨s, hs⟩ : ∃ s, nmS j = s := ⟨_, rfl⟩
  rw [hs] at hc ⊢
  clear h hs
  go_enter Tryd.func7, Tryd.ntmps7
  go_wp2_with fail
  refine HE.out.mono ?_
  rintro e w' ⟨rfl, rfl⟩
  go_wp2
  go_ret
  exact ⟨rfl, rfl⟩
theorem text_no (k : Int) (hk : ¬ (0 ≤ k ∧ k < 9)) (w : World) : Calls Tryd.prog 7 #[.int .i64 k] w fun e w' => e = .returned (.string ⟨#[63]⟩) ∧ w = w' := by
  have HE := Lib.hid (exists_no k hk w)
  clear hk
  go_enter Tryd.func7, Tryd.ntmps7
  go_wp2_with fail
  refine HE.out.mono ?_
  rintro e w' ⟨rfl, rfl⟩
  go_wp2
  go_ret
  exact ⟨rfl, rfl⟩
theorem serves_yes (k : Int) (hk : k = 3 ∨ k = 6) (w : World) : Calls Tryd.prog 8 #[.int .i64 k] w fun e w' => e = .returned (.bool true) ∧ w = w' := by
  rcases hk with rfl | rfl <;>
  · go_enter Tryd.func8, Tryd.ntmps8
    go_wp2
    go_ret
    exact ⟨rfl, rfl⟩
theorem serves_no (k : Int) (h3 : k ≠ 3) (h6 : k ≠ 6) (w : World) : Calls Tryd.prog 8 #[.int .i64 k] w fun e w' => e = .returned (.bool false) ∧ w = w' := by
  have e3 : (k == 3) = false := by simpa using h3
  have e6 : (k == 6) = false := by simpa using h6
  go_enter Tryd.func8, Tryd.ntmps8
  go_wp2
  go_ret
  exact ⟨rfl, rfl⟩
/-- A quotient as it is. -/
def QuoR (x y : Int) (a : Nat) : Prop := (y = 0 → infR < rung a ∧ a < 18446744073709551616) ∧ (y ≠ 0 → Ieee.double.div (wI x) (wI y) = some a ∧ Ieee.double.order a a = some .eq)
attribute [local go_sem] run_float_arith in
theorem rateX (x y : Int) (a : Nat) (w : World) (hx : x.natAbs < 2 ^ 20) (hy : y.natAbs < 2 ^ 20) (h2 : Ieee.double.div (wI x) (wI y) = some a) : Calls Tryd.prog 10 #[.int .i64 x, .int .i64 y] w fun e w' => e = .returned (.float .f64 a) ∧ Dr w w' := by
  have e1 : floatOfInt .f64 x = wI x := nearest_wI x (by omega)
  have e2 : floatOfInt .f64 y = wI y := nearest_wI y (by omega)
  generalize wI x = p at *
  generalize wI y = q at *
  have hq : floatBits .quo .f64 p q = some a := h2
  clear h2 hx hy
  go_enter Tryd.func10, Tryd.ntmps10
  go_wp2
  go_ret
  exact ⟨rfl, Dr.refl _⟩
theorem rateQ (x y : Int) (w : World) (hx : x.natAbs < 2 ^ 20) (hy : y.natAbs < 2 ^ 20) (h0 : y = 0 → x = 0) : Calls Tryd.prog 10 #[.int .i64 x, .int .i64 y] w fun e w' => ∃ a, QuoR x y a ∧ e = .returned (.float .f64 a) ∧ Below w.heap.size w w' := by
  by_cases h : y = 0
  · obtain rfl := h0 h
    subst h
    refine (rateNo_any w).mono ?_
    rintro e w' ⟨a, h1, h2, rfl, hD⟩
    exact ⟨a, ⟨fun _ => ⟨h1, h2⟩, fun h => absurd rfl h⟩, rfl, hD.below _⟩
  · obtain ⟨r, h1, h2⟩ := div_wI x y hx hy h
    refine (rateX x y _ w hx hy h2).mono ?_
    rintro e w' ⟨rfl, hD⟩
    have hr := absQ_lt h1 h
    have hI : infR = 9218868437227405312 := rfl
    refine ⟨_, ⟨fun h3 => absurd h3 h, fun _ => ⟨h2, order_self _ (word_lt64 _ _ (by omega)) ?_⟩⟩, rfl, hD.below _⟩
    rw [word_rung _ _ (by omega)]
    omega
end Go.Proofs.YtnmopjefjpifoaaDoor
