/- Acts of darnerlaw14 in memory. -/
import Derived.Test.YtcgilacmdckbfaaDoorOwnK8
import Derived.Test.YtcgilacmdckbfaaDoorStr7
set_option linter.unusedSimpArgs false
set_option maxRecDepth 100000
set_option linter.unusedVariables false
namespace Go.Proofs.YtcgilacmdckbfaaDoor
open Go Go.RowKit

structure A14 where
  kind : Nat
  path : S8
  n : Int
def encA14 (x : A14) : List Value := [.int .u8 (x.kind : Int), .string (mkS x.path), .int .i64 x.n]
theorem encA14_len (x : A14) : (encA14 x).length = 3 := rfl
/-- A list of acts lies where a slice begins. -/
structure Acs14 (w : World) (p : Option Addr) (n cap : Nat) (l : List A14) : Prop where
  at_ : LsC w p (l.flatMap encA14)
  len : l.length = n
theorem Acs14.of_below {w w' : World} {p : Option Addr} {n cap : Nat} {l : List A14} (h : Acs14 w p n cap l) (hB : Below w.heap.size w w') : Acs14 w' p n cap l := ⟨h.at_.of_below hB, h.len⟩
theorem flat_len14 (l : List A14) : (l.flatMap encA14).length = l.length * 3 := by
  induction l with
  | nil => rfl
  | cons f l ih => rw [List.flatMap_cons, List.length_append, ih, encA14_len]; simp only [List.length_cons]; omega
theorem flat_get14 (l : List A14) (i j : Nat) (hi : i < l.length) (hj : j < 3) : (l.flatMap encA14)[i * 3 + j]? = (encA14 l[i])[j]? := by
  induction l generalizing i with
  | nil => simp at hi
  | cons f l ih =>
    rw [List.flatMap_cons]
    cases i with
    | zero => rw [List.getElem?_append_left (by rw [encA14_len]; omega)]; simp
    | succ i =>
      rw [List.getElem?_append_right (by rw [encA14_len]; omega)]
      have : (i + 1) * 3 + j - (encA14 f).length = i * 3 + j := by rw [encA14_len]; omega
      rw [this]
      exact ih i (by simpa using hi)
/-- The cells of one act. -/
theorem Acs14.cells {w : World} {p : Option Addr} {n cap : Nat} {l : List A14} (h : Acs14 w p n cap l) {i : Nat} (hi : i < l.length) : ∃ c o, p = some ⟨c, o, none⟩ ∧ ∀ j u, (encA14 l[i])[j]? = some u → w.cell? ⟨c, o + i * 3 + j, none⟩ = some u := by
  have hl : i * 3 < (l.flatMap encA14).length := by rw [flat_len14]; omega
  obtain ⟨c, o, hp, -⟩ := h.at_ (i * 3) hl
  refine ⟨c, o, hp, fun j u hu => ?_⟩
  have hj : j < 3 := by have := (List.getElem?_eq_some_iff.1 hu).1; rw [encA14_len] at this; exact this
  have hg := flat_get14 l i j hi hj
  obtain ⟨c1, o1, e1, h1⟩ := h.at_ (i * 3 + j) (by rw [flat_len14]; omega)
  rw [hp] at e1
  injection e1 with e1
  injection e1 with e1 e2
  subst e1 e2
  rw [Nat.add_assoc, h1, hg, hu]
end Go.Proofs.YtcgilacmdckbfaaDoor
