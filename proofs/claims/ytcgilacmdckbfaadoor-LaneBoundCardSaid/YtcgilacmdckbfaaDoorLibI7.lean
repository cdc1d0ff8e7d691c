/- strings.Index at "/". -/
import Derived.Test.YtcgilacmdckbfaaDoorHd7
import Derived.Laws.Externs
import Derived.Deep.QuietTactic
import Derived.OwnWalk
import Derived.Lib.Hide
import Derived.Lib.OthersKept
set_option linter.unusedSimpArgs false
set_option maxRecDepth 100000
set_option linter.unusedVariables false
namespace Go.Proofs.YtcgilacmdckbfaaDoor
open Go Go.RowKit

theorem ixb (l : S8) (w : World) : (callFunc 94 #[.string (mkS l), .int .u8 47]).run Tryd.prog w = .ok (.value (.int .i64 (Lib.indexByte l 47))) w := by
  have h := run_callFunc_extern (P := Tryd.prog) (f := 94) (e := Extern.BytealgIndexByte.indexByte) Tryd.func94 (by kernel_rfl) (by kernel_rfl) (by kernel_rfl) (by kernel_rfl) #[.string (mkS l), .int .u8 47] w
  rw [h, Lib.run_indexByteString (P := Tryd.prog)]
  have e : (mkS l).data.toList = l := by rw [← ByteArray.toList_eq, mkS_toList]
  rw [e]
  rfl
set_option maxRecDepth 100000 in
theorem ix47 (w : World) : (Instr.index 9 (.string ⟨#[47]⟩) (.int .i64 0)).run Tryd.prog w = .ok (.int .u8 47) w := by
  have e : (⟨#[47]⟩ : ByteArray) = mkS [47] := mkS_lit [47]
  have h := ix_S [47] 0 w (by decide)
  rw [e]
  have c : chr [47] 0 = 47 := by rw [chr_eq (by decide)]; rfl
  rw [c] at h
  exact h
attribute [local go_sem] ixb
attribute [local go_sem high] ix47
set_option maxRecDepth 100000 in
set_option maxHeartbeats 1000000 in
theorem index47 (l : S8) (w : World) (hl : l.length < 1000000) : Calls Tryd.prog 84 #[.string (mkS l), .string ⟨#[47]⟩] w fun e w' => e = .returned (.int .i64 (Lib.indexByte l 47)) ∧ w = w' := by
  by_cases h : l = [47]
  · subst h
    have hi : Lib.indexByte [47] 47 = 0 := by rw [idx47]; rfl
    rw [hi]
    go_enter Tryd.func84, Tryd.ntmps84
    go_wp2
    go_ret
    exact ⟨rfl, rfl⟩
  · have hb : ([47] == l) = false := beq_eq_false_iff_ne.2 (fun e => h e.symm)
    clear h
    go_enter Tryd.func84, Tryd.ntmps84
    go_wp2
    go_ret
    exact ⟨rfl, rfl⟩
set_option maxHeartbeats 1000000 in
theorem sindex47 (l : S8) (w : World) (hl : l.length < 1000000) : Calls Tryd.prog 77 #[.string (mkS l), .string ⟨#[47]⟩] w fun e w' => e = .returned (.int .i64 (Lib.indexByte l 47)) ∧ w = w' := by
  have HC := Lib.hid (index47 l w hl)
  generalize Lib.indexByte l 47 = x at *
  go_enter Tryd.func77, Tryd.ntmps77
  go_wp2_with fail
  refine HC.out.mono ?_
  rintro e w' ⟨rfl, rfl⟩
  go_wp2
  go_ret
  exact ⟨rfl, rfl⟩
end Go.Proofs.YtcgilacmdckbfaaDoor
