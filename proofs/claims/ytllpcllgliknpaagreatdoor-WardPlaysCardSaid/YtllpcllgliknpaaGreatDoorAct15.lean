/- Acts of darnerlaw15 in memory. -/
import Derived.Test.YtllpcllgliknpaaGreatDoorOwnK8
import Derived.Test.YtllpcllgliknpaaGreatDoorStr7
set_option linter.unusedSimpArgs false
set_option maxRecDepth 100000
set_option linter.unusedVariables false
namespace Go.Proofs.YtllpcllgliknpaaGreatDoor
open Go Go.RowKit

structure A15 where
  kind : Nat
  path : S8
  to_ : S8
  a : Int
  b : Int
def encA15 (x : A15) : List Value := [.int .u8 (x.kind : Int), .string (mkS x.path), .string (mkS x.to_), .int .i64 x.a, .int .i64 x.b]
theorem encA15_len (x : A15) : (encA15 x).length = 5 := rfl
/-- A list of acts lies where a slice begins. -/
structure Acs15 (w : World) (p : Option Addr) (n cap : Nat) (l : List A15) : Prop where
  at_ : LsC w p (l.flatMap encA15)
  len : l.length = n
theorem Acs15.of_below {w w' : World} {p : Option Addr} {n cap : Nat} {l : List A15} (h : Acs15 w p n cap l) (hB : Below w.heap.size w w') : Acs15 w' p n cap l := ⟨h.at_.of_below hB, h.len⟩
theorem flat_len15 (l : List A15) : (l.flatMap encA15).length = l.length * 5 := by
  induction l with
  | nil => rfl
  | cons f l ih => rw [List.flatMap_cons, List.length_append, ih, encA15_len]; simp only [List.length_cons]; omega
theorem flat_get15 (l : List A15) (i j : Nat) (hi : i < l.length) (hj : j < 5) : (l.flatMap encA15)[i * 5 + j]? = (encA15 l[i])[j]? := by
  induction l generalizing i with
  | nil => simp at hi
  | cons f l ih =>
    rw [List.flatMap_cons]
    cases i with
    | zero => rw [List.getElem?_append_left (by rw [encA15_len]; omega)]; simp
    | succ i =>
      rw [List.getElem?_append_right (by rw [encA15_len]; omega)]
      have : (i + 1) * 5 + j - (encA15 f).length = i * 5 + j := by rw [encA15_len]; omega
      rw [this]
      exact ih i (by simpa using hi)
/-- The cells of one act. -/
theorem Acs15.cells {w : World} {p : Option Addr} {n cap : Nat} {l : List A15} (h : Acs15 w p n cap l) {i : Nat} (hi : i < l.length) : ∃ c o, p = some ⟨c, o, none⟩ ∧ ∀ j u, (encA15 l[i])[j]? = some u → w.cell? ⟨c, o + i * 5 + j, none⟩ = some u := by
  have hl : i * 5 < (l.flatMap encA15).length := by rw [flat_len15]; omega
  obtain ⟨c, o, hp, -⟩ := h.at_ (i * 5) hl
  refine ⟨c, o, hp, fun j u hu => ?_⟩
  have hj : j < 5 := by have := (List.getElem?_eq_some_iff.1 hu).1; rw [encA15_len] at this; exact this
  have hg := flat_get15 l i j hi hj
  obtain ⟨c1, o1, e1, h1⟩ := h.at_ (i * 5 + j) (by rw [flat_len15]; omega)
  rw [hp] at e1
  injection e1 with e1
  injection e1 with e1 e2
  subst e1 e2
  rw [Nat.add_assoc, h1, hg, hu]
end Go.Proofs.YtllpcllgliknpaaGreatDoor
