/- Vectors merged, incremented; the reference's comparison. -/
import Derived.Test.YtjpennbmphhipaaDoorCmp9
set_option linter.unusedSimpArgs false
set_option maxRecDepth 100000
set_option linter.unusedVariables false
namespace Go.Proofs.YtjpennbmphhipaaDoor
open Go Go.RowKit

attribute [local go_sem ↓] exec_boxA exec_loadA exec_indexA exec_allocA exec_storeA exec_buildA exec_eqlA exec_neqA exec_boxV exec_loadV exec_indexV exec_allocV exec_storeV exec_buildV exec_eqlV exec_neqV
attribute [local go_sem] boxA indexA storeNewA buildA eqlA neqA boxV indexV storeNewV buildV eqlV neqV

theorem resV {fn : Func} {p : Tmp} {T : TypeId} (hT : VT T) (h : fn.results = #[.cell p T]) (tmps : Array Value) (w : World) (b : Nat) (T2 : TypeId) (f : Nat → Int) (hp : tmps.getD p undef = .pointer (some ⟨b, 0, none⟩)) (hR : Row w b T2 16 (vf f)) : (results fn tmps).run Tryd.prog w = .ok (vcV f) w := by
  have := results_cell_row (P := Tryd.prog) h tmps w b T2 (tab 16 (vf f)) (0, 0) _ hp hR hT.und rfl (by rw [hT.size, tab_size])
  unfold vcV
  exact this
/-- What the reference's Merge has after k steps. -/
def mxTo (f g : Nat → Int) (k : Nat) : Nat → Int := fun i => if i < k then max (f i) (g i) else f i
theorem mxTo_all (f g : Nat → Int) : ∀ i, i < 16 → mxTo f g 16 i = mxV f g i := fun i hi => by unfold mxTo mxV; rw [if_pos hi]
end Go.Proofs.YtjpennbmphhipaaDoor
