/- Small laws that several walks want: a result that lies in memory; what a store of many cells leaves alone. -/
import Derived.Test.YtllpcllgliknpaaGreatDoorShWords
import Derived.Deep.MidRow
import Derived.Deep.WholeRow
import Derived.WalkSmall
set_option linter.unusedSimpArgs false
set_option maxRecDepth 100000
set_option linter.unusedVariables false
namespace Go.Proofs.YtllpcllgliknpaaGreatDoor.Sha
open Go Go.RowKit

theorem results_cell {P : Program} {fn : Func} {t : Tmp} {ty : TypeId} (h : fn.results = #[.cell t ty]) {tmps : Array Value} {b o : Nat} (ha : tmps.getD t undef = .pointer (some ⟨b, o, none⟩))
    {w : World} {cs : List Value} {d : TypeDesc} (hc : w.rangeAt b o cs) (hu : P.underlying ty = some d) (hd : d.isRow = true) (hi : (P.info? ty).map (·.size) = some cs.length) :
    (results fn tmps).run P w = .ok (.agg cs.toArray) w := by
  have hl := run_loadVar_mid (P := P) w b o ty cs d hc hu hd hi
  have h0 : tmps[t]?.getD undef = .pointer (some ⟨b, o, none⟩) := by rw [← ha]; simp [Array.getD_eq_getD_getElem?]
  simp [results, h, h0, asAddr, hl]
theorem body_cell {P : Program} {fn : Func} {R : Ending → World → Prop} {a : Act} {t : Tmp} {ty : TypeId} (h : fn.results = #[.cell t ty]) {b o : Nat} (ha : a.tmps.getD t undef = .pointer (some ⟨b, o, none⟩))
    {w : World} {cs : List Value} {d : TypeDesc} (hc : w.rangeAt b o cs) (hu : P.underlying ty = some d) (hd : d.isRow = true) (hi : (P.info? ty).map (·.size) = some cs.length)
    (hdef : a.defers = []) (hR : R (.returned (.agg cs.toArray)) w) : bodyPost P fn R .ret a w :=
  bodyPost_ret (results_cell h ha hc hu hd hi) hdef hR
theorem below_setCells {B : Nat} {a : World} {b : Nat} : ∀ (vs : List Value) (o : Nat) {w : World}, Below B a w → B ≤ b → Below B a (w.setCells b o vs)
  | [], _, _, h, _ => h
  | v :: r, o, _, h, hB => below_setCells r (o + 1) (h.setCell (p := ⟨b, o, none⟩) hB v) hB
theorem setCell_drewN (w : World) (n : Nat) (a : Addr) (v : Value) : (w.drewN n).setCell a v = (w.setCell a v).drewN n := rfl
attribute [go_sem] setCell_drewN
/-- The same world but for draws. -/
def Dr (w w' : World) : Prop := ∃ N, w' = w.drewN N
theorem Dr.refl (w : World) : Dr w w := ⟨0, rfl⟩
theorem Dr.drewN {x y : World} (h : Dr x y) (n : Nat) : Dr x (y.drewN n) := by
  obtain ⟨N, rfl⟩ := h; exact ⟨N + n, by rw [World.drewN_drewN]⟩
theorem Dr.drew {x y : World} (h : Dr x y) : Dr x y.drew := h.drewN 1
theorem Dr.trans {x y z : World} (h : Dr x y) (k : Dr y z) : Dr x z := by
  obtain ⟨N, rfl⟩ := k; exact h.drewN N
theorem Dr.heap {x y : World} (h : Dr x y) : y.heap = x.heap := by obtain ⟨N, rfl⟩ := h; rfl
theorem Dr.cell {x y : World} (h : Dr x y) (a : Addr) : y.cell? a = x.cell? a := by obtain ⟨N, rfl⟩ := h; rfl
theorem Dr.frozen {x y : World} (h : Dr x y) (a : Addr) : y.frozen? a = x.frozen? a := by obtain ⟨N, rfl⟩ := h; rfl
theorem Dr.below {x y : World} (h : Dr x y) (B : Nat) : Below B x y := by obtain ⟨N, rfl⟩ := h; exact below_drewN (Below.refl _ _) N
end Go.Proofs.YtllpcllgliknpaaGreatDoor.Sha
