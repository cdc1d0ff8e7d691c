/- An argument that is a slice of arrays of 16 ints, in the walks' words. -/
import Derived.Test.YtdkbmidacpooiaaLiftV9
import Derived.Test.YtdkbmidacpooiaaMgl9
import Derived.Deep.Slices
set_option linter.unusedSimpArgs false
set_option linter.unusedVariables false
namespace Go.Proofs.Ytdkbmidacpooiaa
open Go Go.ChangeShapes Go.WideShapes Go.ChangeAt Go.RowKit

theorem undArrs9 : Try.prog.underlying 36 = some (.slice 22) := by kernel_rfl
theorem open_arrs {H : Type} {enc : TypeId × Value → H} {W : World} {a0 : Option Addr} {len cap : Nat} {d : DataW H} {ps : List MemPlace}
    (h : DataW.Trod enc Try.prog W 0 (fun _ => true) true 36 (.slice a0 len cap) d ps) : ∃ l : List (Nat → Int), VecsAt W a0 len l ∧ len ≤ cap := by
  obtain ⟨fuel, hfu⟩ := h
  rcases Go.Deep.open_slice undArrs9 hfu with ⟨hcs, _⟩ | ⟨a, len', cap', m, n, D, Pl, hcs, _, hl, hmx, hm, _, hx⟩
  · simp [Value.cells] at hcs
    obtain ⟨rfl, rfl, rfl⟩ := hcs
    exact ⟨[], VecsAt.nil _ _, Nat.le_refl _⟩
  · simp [Value.cells] at hcs
    obtain ⟨rfl, rfl, rfl⟩ := hcs
    simp only [if_true] at hm
    have each : ∀ i, i < len → ∃ f : Nat → Int, ∀ j, j < 16 → W.cell? (a.add (i * 16 + j)) = some (.int .i64 (f j)) := by
      intro i hi
      obtain ⟨cs', h1, h2⟩ := hx i (by omega)
      rw [cellsArr9] at h1
      obtain ⟨_, hlen, hcell⟩ := World.cells?_some h1
      obtain ⟨xs, k, -, -, -, hn, hi2⟩ := DataW.trod_array vtA.und h2
      rw [cellsInt9] at hi2
      refine ⟨fun j => intIn cs'[j]?, fun j hj => ?_⟩
      have e0 := hi2 j hj
      have hxi : xs[j]? = some (xs[j]'(by omega)) := List.getElem?_eq_getElem (by omega)
      rw [hxi] at e0
      obtain ⟨b, hb, -, -⟩ := DataW.trod_int undInt e0
      rw [Nat.mul_one] at hb
      have hcj : cs'[j]? = some (.int .i64 b) := by
        have h1 : ((cs'.drop j).take 1)[0]? = some (.int .i64 b) := by rw [hb]; rfl
        rw [List.getElem?_take] at h1
        have h2 : (cs'.drop j)[0]? = some (.int .i64 b) := by simpa using h1
        rw [List.getElem?_drop, Nat.add_zero] at h2
        exact h2
      have cj := hcell j (by omega)
      rw [Go.Deep.add_add] at cj
      show _ = some (Value.int .i64 (intIn cs'[j]?))
      rw [cj, hcj]
      rfl
    haveI : Inhabited (Nat → Int) := ⟨fun _ => 0⟩
    obtain ⟨y, hy⟩ := Go.Deep.choose_lt each
    refine ⟨(List.range len).map y, ⟨by simp, fun h0 => ?_⟩, by omega⟩
    have hs : a.spot = none := by
      have h1 := hy 0 h0 0 (by decide)
      rw [show 0 * 16 + 0 = 0 from rfl, Addr.add_zero'] at h1
      cases h : a.spot with
      | none => rfl
      | some s =>
        unfold World.cell? at h1
        split at h1
        · simp [h] at h1
        · cases h1
    obtain ⟨c, o, sp⟩ := a
    obtain rfl : sp = none := hs
    refine ⟨c, o, rfl, fun i hi j hj => ?_⟩
    have hi' : i < len := by simpa using hi
    have := hy i hi' j hj
    rw [Addr.add_mid] at this
    rw [show o + i * 16 + j = o + (i * 16 + j) by omega, this]
    simp
end Go.Proofs.Ytdkbmidacpooiaa
