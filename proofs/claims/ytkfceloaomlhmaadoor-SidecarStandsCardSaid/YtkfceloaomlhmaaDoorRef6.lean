/- The reference's numbers and bytes, written. -/
import Derived.Test.YtkfceloaomlhmaaDoorNum6
import Derived.Test.YtkfceloaomlhmaaDoorBytes
import Derived.Lib.Walk
import Derived.Laws.OwnMore
set_option linter.unusedSimpArgs false
set_option maxRecDepth 100000
set_option linter.unusedVariables false
namespace Go.Proofs.YtkfceloaomlhmaaDoor
open Go Go.RowKit

theorem convIB6 (n : Nat) (w : World) : (convert 3 5 (.int .i64 (n : Int))).run Tryd.prog w = .ok (B (BitVec.ofNat 8 n)) w :=
  run_convert_IB w 3 5 n (by kernel_rfl) (by kernel_rfl)
theorem bsB0 (w : World) : (bsT 22 0 #[]).run Tryd.prog w = .ok (.value (.slice (some ⟨w.heap.size, 0, none⟩) 0 0)) (w.alloc (.cells #[] 5)) := by kernel_rfl
theorem bsB1 (x : BitVec 8) (w : World) : (bsT 22 1 #[(0, B x)]).run Tryd.prog w = .ok (.value (.slice (some ⟨w.heap.size, 0, none⟩) 1 1)) (w.alloc (.cells #[B x] 5)) := by kernel_rfl
theorem OwnB.one (w : World) (base : Nat) (x : BitVec 8) (hb : base ≤ w.heap.size) : OwnB (w.alloc (.cells #[B x] 5)) base (.slice (some ⟨w.heap.size, 0, none⟩) 1 1) [x] := by
  have := World.ownsRow_lit (e := 5) (size := 1) (base := base) w #[B x] 1 hb (by simp only [maxLen]; omega) (by simp)
  unfold OwnB
  simpa using this
theorem OwnB.lower {w : World} {base b2 : Nat} {v : Value} {l : List (BitVec 8)} (h : OwnB w base v l) (hb : b2 ≤ base) : OwnB w b2 v l := by
  refine ⟨h.1, ?_⟩
  rcases h.2 with h' | ⟨g, cap, cur, hv, h1, r⟩
  · exact .inl h'
  · exact .inr ⟨g, cap, cur, hv, by omega, r⟩
attribute [local go_sem ↓] exec_bs
attribute [local go_sem] convIB6 bsB0 bsB1
/-- What a call that makes bytes of its own tells. -/
def GivesB (w : World) (l : List (BitVec 8)) (e : Ending) (w' : World) : Prop := ∃ v, e = .returned v ∧ OwnB w' w.heap.size v l ∧ Below w.heap.size w w'
theorem bsb1 (x : Int) (w : World) : (bsT 22 1 #[(0, .int .u8 x)]).run Tryd.prog w = .ok (.value (.slice (some ⟨w.heap.size, 0, none⟩) 1 1)) (w.alloc (.cells #[.int .u8 x] 5)) := by kernel_rfl
theorem OwnB.oneN (w : World) (base n : Nat) (hn : n < 256) (hb : base ≤ w.heap.size) : OwnB (w.alloc (.cells #[.int .u8 (n : Int)] 5)) base (.slice (some ⟨w.heap.size, 0, none⟩) 1 1) [BitVec.ofNat 8 n] := by
  rw [← B_ofNat n hn]
  exact OwnB.one w base _ hb
attribute [local go_sem] bsb1
end Go.Proofs.YtkfceloaomlhmaaDoor
