/- The program's field: sums of any number of bytes. -/
import Derived.Test.YtfilicbbkaifcaaRows
import Derived.Test.YtfilicbbkaifcaaBase
import Derived.Deep.QuietTactic
import Derived.BigQuiet
import Derived.Deep.RegionWith
import Derived.Deep.LoopGhost
set_option linter.unusedSimpArgs false
set_option linter.unusedVariables false
namespace Go.Proofs.Ytfilicbbkaifcaa
open Go Go.RowKit

/-- The sum of all. -/
def sm (l : List (BitVec 8)) : BitVec 8 := l.foldl (· ^^^ ·) 0#8
theorem sm_snoc (l : List (BitVec 8)) (x : BitVec 8) : sm (l ++ [x]) = sm l ^^^ x := by simp [sm]
set_option maxHeartbeats 1000000 in
theorem add_any (f : Value) (l : List (BitVec 8)) (p : Option Addr) (n cap : Nat) (w : World) (hs : Sl w p l) (hl : l.length = n) (hn : n < 4294967296) :
    Calls Try.prog 37 #[f, .slice p n cap] w fun e w' => e = .returned (B (sm l)) ∧ Dr w w' := by
  have HS := Lib.hid hs
  have HL := Lib.hid hl
  clear hs hl
  go_enter Try.func37, Try.ntmps37
  go_wp2
  go_loopw [5, 10] (fun r i wr => ∃ k : Nat, k ≤ n ∧ i = .int .i64 k ∧ r = B (sm (l.take k)) ∧ Dr w wr) (fun _ i _ => n - (intOf i).toNat)
  case atStart => exact ⟨0, Nat.zero_le _, rfl, by simp [sm, B_0], Dr.refl _⟩
  case round =>
    obtain ⟨k, hk, rfl, rfl, hD⟩ := hrel
    have HD := Lib.hid hD
    by_cases hlt : k < n
    · obtain ⟨c, o, rfl, hc⟩ := HS.out k (by rw [HL.out]; exact hlt)
      have hx : wr.cell? ⟨c, o + k, none⟩ = some (B (l.getD k 0#8)) := by rw [hD.cell]; exact hc
      have hT := Lib.hid (take_getD l 0#8 k (by rw [HL.out]; exact hlt))
      have hd0 : decide ((k : Int) < (n : Int)) = true := decide_eq_true (by omega)
      have hl0 : (k : Int) < (n : Int) := by omega
      generalize l.getD k 0#8 = x at *
      clear hD hc
      go_wp2
      go_roundw
      case rel => exact ⟨k + 1, by omega, by go_num, by rw [hT.out, sm_snoc], HD.out⟩
      case measure => simp [intOf]; omega
    · have hd0 : decide ((k : Int) < (n : Int)) = false := decide_eq_false (by omega)
      have he : Hid (l.take k = l) := by show l.take k = l; exact List.take_of_length_le (by rw [HL.out]; omega)
      clear hD
      go_wp2
      go_ret
      exact ⟨by rw [he.out]; rfl, HD.out⟩
end Go.Proofs.Ytfilicbbkaifcaa
