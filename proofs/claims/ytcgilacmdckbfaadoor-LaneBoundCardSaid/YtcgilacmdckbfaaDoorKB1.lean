/- Merged texts: Rfm14, Rdr14, RefS7, RefK7. -/
import Derived.Test.YtcgilacmdckbfaaDoorLst14
import Derived.Deep.RegionHeld3
import Derived.Test.YtcgilacmdckbfaaDoorRef7
import Derived.Test.YtcgilacmdckbfaaDoorRefW7
set_option linter.unusedSimpArgs false
set_option linter.unusedVariables false
/- The document's lanes in memory; darnerref14.Find. -/
set_option maxRecDepth 100000
namespace Go.Proofs.YtcgilacmdckbfaaDoor
open Go Go.RowKit

def rfC (x : Rf) : List Value := [.string (mkS x.path), .int .i64 (x.blocks : Int), .int .i64 (x.done : Int), .int .i64 x.last]
def rfsC (l : List Rf) : List Value := l.flatMap rfC
theorem rfsC_len (l : List Rf) : (rfsC l).length = l.length * 4 := by
  unfold rfsC
  induction l with
  | nil => rfl
  | cons f l ih => rw [List.flatMap_cons, List.length_append, ih]; simp [rfC]; omega
theorem rfsC_get (l : List Rf) (i j : Nat) (hi : i < l.length) (hj : j < 4) : (rfsC l)[i * 4 + j]? = (rfC (l.getD i rf0))[j]? := by
  induction l generalizing i with
  | nil => simp at hi
  | cons f l ih =>
    unfold rfsC
    rw [List.flatMap_cons]
    cases i with
    | zero => rw [List.getElem?_append_left (by simp [rfC]; omega)]; simp
    | succ i =>
      rw [List.getElem?_append_right (by simp [rfC]; omega)]
      have : (i + 1) * 4 + j - (rfC f).length = i * 4 + j := by simp [rfC]; omega
      rw [this]
      exact ih i (by simpa using hi)
/-- The document's files where a slice begins. -/
def RLs (w : World) (p : Option Addr) (n cap : Nat) (M : List Rf) : Prop := M.length = n ∧ LsC w p (rfsC M) ∧ (p = none → cap = 0) ∧ n ≤ cap
theorem RLs.of_below {w w' : World} {p : Option Addr} {n cap : Nat} {M : List Rf} (h : RLs w p n cap M) (hB : Below w.heap.size w w') : RLs w' p n cap M := ⟨h.1, h.2.1.of_below hB, h.2.2⟩
theorem RLs.cells {w : World} {p : Option Addr} {n cap : Nat} {M : List Rf} (h : RLs w p n cap M) (i : Nat) (hi : i < n) : ∃ c o, p = some ⟨c, o, none⟩ ∧ ∀ j, j < 4 → w.cell? ⟨c, o + i * 4 + j, none⟩ = (rfC (M.getD i rf0))[j]? := by
  obtain ⟨c, o, e, -⟩ := h.2.1 (i * 4) (by rw [rfsC_len, h.1]; omega)
  refine ⟨c, o, e, fun j hj => ?_⟩
  obtain ⟨c', o', e', hc⟩ := h.2.1 (i * 4 + j) (by rw [rfsC_len, h.1]; omega)
  rw [e] at e'
  injection e' with e'
  injection e' with e1 e2
  subst e1 e2
  rw [Nat.add_assoc, hc, rfsC_get M i j (by rw [h.1]; exact hi) hj]
end Go.Proofs.YtcgilacmdckbfaaDoor
/- darnerref14.Drop. -/
set_option maxRecDepth 100000
namespace Go.Proofs.YtcgilacmdckbfaaDoor
open Go Go.RowKit

end Go.Proofs.YtcgilacmdckbfaaDoor
/- The reference of layer 7: beginnings. -/
set_option maxRecDepth 100000
namespace Go.Proofs.YtcgilacmdckbfaaDoor
open Go Go.RowKit

end Go.Proofs.YtcgilacmdckbfaaDoor
/- The reference's kinds. -/
set_option maxRecDepth 100000
namespace Go.Proofs.YtcgilacmdckbfaaDoor
open Go Go.RowKit

end Go.Proofs.YtcgilacmdckbfaaDoor
