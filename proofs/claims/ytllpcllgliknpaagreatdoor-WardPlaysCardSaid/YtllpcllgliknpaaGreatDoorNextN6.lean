/- The reference's items that begin with a number, read. -/
import Derived.Test.YtllpcllgliknpaaGreatDoorNext6
set_option linter.unusedSimpArgs false
set_option maxRecDepth 100000
set_option linter.unusedVariables false
namespace Go.Proofs.YtllpcllgliknpaaGreatDoor
open Go Go.RowKit

theorem takeI_ok {l : List (BitVec 8)} {most : Int} (h : (takeI l most).2.2 = 0) : (takeI l most).2.1 ≤ l.length ∧ (takeI l most).1 < 9223372036854775808 := by
  unfold takeI at h ⊢
  cases e : num7 l with
  | none => rw [e] at h; simp at h
  | some x =>
    obtain ⟨n, k⟩ := x
    rw [e] at h
    dsimp only at h ⊢
    have hi := num7_inv e
    split
    · rename_i hm; rw [if_pos hm] at h; simp at h
    · exact ⟨hi.2.1, hi.1⟩
theorem takeI_code (l : List (BitVec 8)) (most : Int) : (takeI l most).2.2 = 0 ∨ (takeI l most).2.2 = 6 ∨ (takeI l most).2.2 = 14 := by
  unfold takeI
  split
  · exact .inr (.inl rfl)
  · split
    · exact .inr (.inr rfl)
    · exact .inl rfl
theorem sl_lhB (q : Option Addr) (n cap a b : Nat) (w : World) (hab : a ≤ b) (hb : b ≤ cap) :
    (slT 53 (.slice q n cap) (some (.int .i64 (a : Int))) (some (.int .i64 (b : Int))) none).run Tryz.prog w = .ok (.value (.slice (cutA q cap a) (b - a) (cap - a))) w := by
  have h1 := run_sliceAt_slice (P := Tryz.prog) w 53 (.slice q n cap) (some (.int .i64 (a : Int))) (some (.int .i64 (b : Int))) none und35
  rw [run_slice_lh (P := Tryz.prog) w 53 q n cap und35 .i64 .i64 (a : Int) (b : Int) (by omega) (by omega) (by omega), sizeB] at h1
  simp only [slT, Sem.run_bind, h1, Result.andThen_ok, Sem.run_pure]
  simp only [sliced, Int.toNat_natCast, Nat.mul_one, cutA]
attribute [local go_sem ↓] exec_bs exec_slice
attribute [local go_sem] convIB6 bsB0 bsB1 bsb1
end Go.Proofs.YtllpcllgliknpaaGreatDoor
