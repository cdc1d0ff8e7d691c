/- darnerref14.next, plain. -/
import Derived.Test.YtcgilacmdckbfaaDoorRpt14
import Derived.Test.YtcgilacmdckbfaaDoorSrt14
set_option linter.unusedSimpArgs false
set_option maxRecDepth 100000
set_option linter.unusedVariables false
namespace Go.Proofs.YtcgilacmdckbfaaDoor
open Go Go.RowKit

theorem ltF_trans {f g h : Fl} (a : ltF f g) (b : ltF g h) : ltF f h := by
  rcases a with a | ⟨a1, a2⟩
  · rcases b with b | ⟨b1, b2⟩
    · exact .inl (Nat.lt_trans a b)
    · exact .inl (by omega)
  · rcases b with b | ⟨b1, b2⟩
    · exact .inl (by omega)
    · exact .inr ⟨by omega, List.lt_trans a2 b2⟩
theorem ltF_irrefl (f : Fl) : ¬ ltF f f := by
  rintro (a | ⟨-, a⟩)
  · omega
  · exact List.lt_irrefl _ a
/-- What next has found among the first k files. -/
def NxE (M : List Rf) (k : Nat) (o : Int) : Prop := (o = -1 ∧ ∀ j, j < k → isE (M.getD j rf0) = false) ∨ ∃ i : Nat, o = (i : Int) ∧ i < k ∧ isE (M.getD i rf0) = true ∧ ∀ j, j < i → isE (M.getD j rf0) = false
def NxS (c : Int) (M : List Rf) (k : Nat) (o : Int) : Prop := (o = -1 ∧ ∀ j, j < k → isS c (M.getD j rf0) = false) ∨ ∃ i : Nat, o = (i : Int) ∧ i < k ∧ isS c (M.getD i rf0) = true ∧ ∀ j, j < k → isS c (M.getD j rf0) = true → ¬ ltF (flR (M.getD j rf0)) (flR (M.getD i rf0))
def NxI (e : Bool) (c : Int) (M : List Rf) (k : Nat) (o : Int) : Prop := bif e then NxE M k o else NxS c M k o
theorem NxE.take {M : List Rf} {k : Nat} {o : Int} (h : NxE M k o) (hx : isE (M.getD k rf0) = true) (ho : o < 0) : NxE M (k + 1) (k : Int) := by
  rcases h with ⟨-, h⟩ | ⟨i, rfl, -⟩
  · exact .inr ⟨k, rfl, by omega, hx, h⟩
  · omega
theorem NxE.pass {M : List Rf} {k : Nat} {o : Int} (h : NxE M k o) (hx : ¬ (isE (M.getD k rf0) = true ∧ o < 0)) : NxE M (k + 1) o := by
  rcases h with ⟨rfl, h⟩ | ⟨i, rfl, h1, h2, h3⟩
  · refine .inl ⟨rfl, fun j hj => ?_⟩
    rcases Nat.lt_succ_iff_lt_or_eq.1 hj with h1 | rfl
    · exact h j h1
    · cases hh : isE (M.getD j rf0) with
      | false => rfl
      | true => exact absurd ⟨hh, by decide⟩ hx
  · exact .inr ⟨i, rfl, by omega, h2, h3⟩
theorem NxS.pass {c : Int} {M : List Rf} {k : Nat} {o : Int} (h : NxS c M k o) (hx : isS c (M.getD k rf0) = false) : NxS c M (k + 1) o := by
  rcases h with ⟨rfl, h⟩ | ⟨i, rfl, h1, h2, h3⟩
  · refine .inl ⟨rfl, fun j hj => ?_⟩
    rcases Nat.lt_succ_iff_lt_or_eq.1 hj with h1 | rfl
    · exact h j h1
    · exact hx
  · refine .inr ⟨i, rfl, by omega, h2, fun j hj hs => ?_⟩
    rcases Nat.lt_succ_iff_lt_or_eq.1 hj with h1 | rfl
    · exact h3 j h1 hs
    · rw [hx] at hs; cases hs
theorem NxS.first {c : Int} {M : List Rf} {k : Nat} {o : Int} (h : NxS c M k o) (hx : isS c (M.getD k rf0) = true) (ho : o < 0) : NxS c M (k + 1) (k : Int) := by
  rcases h with ⟨-, h⟩ | ⟨i, rfl, -⟩
  · refine .inr ⟨k, rfl, by omega, hx, fun j hj hs => ?_⟩
    rcases Nat.lt_succ_iff_lt_or_eq.1 hj with h1 | rfl
    · rw [h j h1] at hs; cases hs
    · exact ltF_irrefl _
  · omega
theorem NxS.less {c : Int} {M : List Rf} {k i : Nat} (h : NxS c M k (i : Int)) (hx : isS c (M.getD k rf0) = true) (hl : ltF (flR (M.getD k rf0)) (flR (M.getD i rf0))) : NxS c M (k + 1) (k : Int) := by
  rcases h with ⟨h, -⟩ | ⟨i', e, h1, h2, h3⟩
  · omega
  · have : i = i' := by omega
    subst this
    refine .inr ⟨k, rfl, by omega, hx, fun j hj hs => ?_⟩
    rcases Nat.lt_succ_iff_lt_or_eq.1 hj with h4 | rfl
    · exact fun hh => h3 j h4 hs (ltF_trans hh hl)
    · exact ltF_irrefl _
theorem NxS.more {c : Int} {M : List Rf} {k i : Nat} (h : NxS c M k (i : Int)) (hl : ¬ ltF (flR (M.getD k rf0)) (flR (M.getD i rf0))) : NxS c M (k + 1) (i : Int) := by
  rcases h with ⟨h, -⟩ | ⟨i', e, h1, h2, h3⟩
  · omega
  · have : i = i' := by omega
    subst this
    refine .inr ⟨i, rfl, by omega, h2, fun j hj hs => ?_⟩
    rcases Nat.lt_succ_iff_lt_or_eq.1 hj with h4 | rfl
    · exact h3 j h4 hs
    · exact hl
theorem NxS.at {c : Int} {M : List Rf} {k : Nat} {o : Int} (h : NxS c M k o) (ho : ¬ o < 0) : ∃ i : Nat, o = (i : Int) ∧ i < k ∧ isS c (M.getD i rf0) = true := by
  rcases h with ⟨rfl, -⟩ | ⟨i, rfl, h1, h2, -⟩
  · exact absurd (by decide) ho
  · exact ⟨i, rfl, h1, h2⟩
theorem ltF_ints {x y : Rf} (hx : isE x = false) (hy : isE y = false) : ltF (flR x) (flR y) ↔ x.last < y.last ∨ x.last = y.last ∧ x.path < y.path := by
  unfold isE at hx hy
  have h1 := of_decide_eq_false hx
  have h2 := of_decide_eq_false hy
  unfold ltF flR
  simp only
  constructor
  · rintro (a | ⟨a, b⟩)
    · exact .inl (by omega)
    · exact .inr ⟨by omega, b⟩
  · rintro (a | ⟨a, b⟩)
    · exact .inl (by omega)
    · exact .inr ⟨by omega, b⟩
end Go.Proofs.YtcgilacmdckbfaaDoor
