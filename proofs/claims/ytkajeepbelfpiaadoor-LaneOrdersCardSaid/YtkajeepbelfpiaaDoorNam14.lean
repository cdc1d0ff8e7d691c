/- darnerlaw14.LaneOrders' names. -/
import Derived.Test.YtkajeepbelfpiaaDoorLnx14
import Derived.Test.YtkajeepbelfpiaaDoorBytes
set_option linter.unusedSimpArgs false
set_option maxRecDepth 100000
set_option linter.unusedVariables false
namespace Go.Proofs.YtkajeepbelfpiaaDoor
open Go Go.RowKit

def nmI (i : Nat) : S8 := [UInt8.ofNat (97 + i)]
theorem name_any (i : Nat) (hi : i < 26) (w : World) : Calls Tryd.prog 20 #[.int .i64 (i : Int)] w fun e w' => e = .returned (.string (mkS (nmI i))) ∧ Below w.heap.size w w' := by
  have h1 : IntKind.i64.wrap (97 + (i : Int)) = ((97 + i : Nat) : Int) := by rw [IntKind.wrap_i64]; omega
  obtain ⟨c, hc⟩ : ∃ c, 97 + i = c := ⟨_, rfl⟩
  rw [hc] at h1
  have h2 : IntKind.u8.wrap (c : Int) = (c : Int) := by simp [IntKind.wrap, IntKind.bits, IntKind.signed]; omega
  have hcv : (convert 58 9 (.slice (some ⟨w.heap.size, 0, none⟩) 1 1)).run Tryd.prog (w.alloc (.cells #[.int .u8 (c : Int)] 5)) = .ok (.string (mkS (nmI i))) (w.alloc (.cells #[.int .u8 (c : Int)] 5)) := by
    have hb : B (BitVec.ofNat 8 c) = .int .u8 (c : Int) := by unfold B; simp; omega
    have hsl : Sl (w.alloc (.cells #[.int .u8 (c : Int)] 5)) (some ⟨w.heap.size, 0, none⟩) [BitVec.ofNat 8 c] := by
      rw [← hb]
      intro j hj
      have : j = 0 := by simpa using hj
      subst this
      exact ⟨w.heap.size, 0, rfl, by have := World.alloc_heap_new w (.cells #[B (BitVec.ofNat 8 c)] 5); unfold World.cell?; simp only [this]; simp⟩
    have := conv_str _ _ _ 1 1 hsl rfl (fun e => by cases e)
    rw [this]
    have e : strOf [BitVec.ofNat 8 c] = mkS (nmI i) := by
      unfold strOf mkS nmI
      rw [hc]
      rfl
    rw [e]
  have HB := Lib.hid (show Below w.heap.size w (w.alloc (.cells #[.int .u8 (c : Int)] 5)) from (Below.refl _ w).alloc (Nat.le_refl _) _)
  generalize mkS (nmI i) = R at hcv ⊢
  clear hc
  go_enter Tryd.func20, Tryd.ntmps20
  go_wp2
  go_ret
  exact ⟨rfl, HB.out⟩
end Go.Proofs.YtkajeepbelfpiaaDoor
