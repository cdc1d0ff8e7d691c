/- The statements' own comparison of items. -/
import Derived.Test.YtgmogbgkokofoaaNextN6
set_option linter.unusedSimpArgs false
set_option linter.unusedVariables false
namespace Go.Proofs.Ytgmogbgkokofoaa
open Go Go.RowKit

set_option maxRecDepth 100000 in
set_option maxHeartbeats 4000000 in
theorem same_any (x : It) (p q : Option Addr) (c d : Nat) (w : World) (hp : Sl w p x.b) (hq : Sl w q x.b) (hp0 : p = none → c = 0) (hq0 : q = none → d = 0) : Calls Try.prog 16 #[x.v p c, x.v q d] w fun e w' => e = .returned (.bool true) ∧ Below w.heap.size w w' := by
  obtain ⟨k, n, b⟩ := x
  dsimp only at hp hq
  show Calls Try.prog 16 #[.agg #[.int .i64 (k : Int), .int .i64 (n : Int), .slice p b.length c], .agg #[.int .i64 (k : Int), .int .i64 (n : Int), .slice q b.length d]] w _
  obtain ⟨len, hl⟩ : ∃ len, b.length = len := ⟨_, rfl⟩
  rw [hl]
  obtain ⟨W1, hW1⟩ : ∃ W1, w.alloc (.cells #[.int .i64 (k : Int), .int .i64 (n : Int), .slice p len c] 29) = W1 := ⟨_, rfl⟩
  obtain ⟨W2, hW2⟩ : ∃ W2, W1.alloc (.cells #[.int .i64 (k : Int), .int .i64 (n : Int), .slice q len d] 29) = W2 := ⟨_, rfl⟩
  have hB : Below w.heap.size w W2 := by
    rw [← hW2, ← hW1]
    exact ((Below.refl _ _).alloc (Nat.le_refl _) _).alloc (by rw [World.size_alloc]; omega) _
  have h1 := conv_str W2 p b len c (hp.of_below hB) hl hp0
  have h2 := conv_str W2 q b len d (hq.of_below hB) hl hq0
  have ek : ((k : Int) == (k : Int)) = true := by simp
  have en : ((n : Int) == (n : Int)) = true := by simp
  have es : ((strOf b).toList == (strOf b).toList) = true := by simp
  rw [← hW2, ← hW1] at h1 h2
  have HB := Lib.hid (show Below w.heap.size w ((w.alloc (.cells #[.int .i64 (k : Int), .int .i64 (n : Int), .slice p len c] 29)).alloc (.cells #[.int .i64 (k : Int), .int .i64 (n : Int), .slice q len d] 29)) from by rw [hW1, hW2]; exact hB)
  clear hB hp hq hp0 hq0 hl hW1 hW2
  generalize strOf b = s at *
  go_enter Try.func16, Try.ntmps16
  go_wp2
  go_ret
  exact ⟨by simp, HB.out⟩
end Go.Proofs.Ytgmogbgkokofoaa
