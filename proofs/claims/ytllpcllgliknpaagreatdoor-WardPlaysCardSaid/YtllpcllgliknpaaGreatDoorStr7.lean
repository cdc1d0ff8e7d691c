/- Strings of the program as rows of bytes. -/
import Derived.Test.YtllpcllgliknpaaGreatDoorPth7
import Derived.Test.YtllpcllgliknpaaGreatDoorBase
import Derived.Laws.Concat
import Derived.Laws.Strings3
set_option linter.unusedSimpArgs false
set_option maxRecDepth 100000
set_option linter.unusedVariables false
namespace Go.Proofs.YtllpcllgliknpaaGreatDoor
open Go Go.RowKit

def mkS (l : S8) : ByteArray := ⟨l.toArray⟩
theorem mkS_of (s : ByteArray) : mkS s.data.toList = s := by cases s; simp [mkS]
theorem mkS_size (l : S8) : (mkS l).size = l.length := by show l.toArray.size = _; simp
theorem mkS_toList (l : S8) : (mkS l).toList = l := ByteArray.toList_mk l
theorem mkS_lit (l : S8) : (ByteArray.mk l.toArray) = mkS l := rfl
theorem mkS_add (a b : S8) : mkS a ++ mkS b = mkS (a ++ b) := by
  apply ByteArray.ext
  simp [mkS]
theorem mkS_cut (l : S8) (a b : Nat) : (mkS l).extract a b = mkS ((l.drop a).take (b - a)) := ByteArray.extract_mk l a b
theorem mkS_get (l : S8) (i : Nat) (h : i < (mkS l).size) : ((mkS l)[i]).toNat = chr l i := by
  have hl : i < l.length := by rw [mkS_size] at h; exact h
  rw [chr_eq hl]
  rfl
theorem mkS_inj {a b : S8} : mkS a = mkS b ↔ a = b := ⟨fun h => by have := congrArg ByteArray.toList h; rwa [mkS_toList, mkS_toList] at this, fun h => by rw [h]⟩
attribute [irreducible] mkS
theorem strT : Tryz.prog.underlying 9 = some .string := by kernel_rfl
theorem ix_S (l : S8) (i : Nat) (w : World) (h : i < l.length) : (Instr.index 9 (.string (mkS l)) (.int .i64 (i : Int))).run Tryz.prog w = .ok (.int .u8 (chr l i : Int)) w := by
  have hs : i < (mkS l).size := by rw [mkS_size]; exact h
  rw [run_index_string (P := Tryz.prog) w 9 (mkS l) .i64 (i : Int) strT, dif_pos ⟨by omega, by omega⟩]
  have := mkS_get l i hs
  simp only [Int.toNat_natCast]
  rw [this]
theorem sl_S (l : S8) (i j : Nat) (w : World) (h1 : i ≤ j) (h2 : j ≤ l.length) : (Instr.slice 9 (.string (mkS l)) (some (.int .i64 (i : Int))) (some (.int .i64 (j : Int))) none).run Tryz.prog w = .ok (.string (mkS ((l.drop i).take (j - i)))) w := by
  rw [run_slice_string (P := Tryz.prog) w 9 (mkS l) .i64 .i64 (i : Int) (j : Int) strT (by omega) (by omega) (by rw [mkS_size]; omega), mkS_cut]
  simp only [Int.toNat_natCast]
theorem sl_to (l : S8) (j : Nat) (w : World) (h2 : j ≤ l.length) : (Instr.slice 9 (.string (mkS l)) none (some (.int .i64 (j : Int))) none).run Tryz.prog w = .ok (.string (mkS (l.take j))) w := by
  rw [run_slice_string_h (P := Tryz.prog) w 9 (mkS l) strT .i64 (j : Int) (by omega) (by rw [mkS_size]; omega), mkS_cut]
  simp only [Int.toNat_natCast, List.drop_zero, Nat.sub_zero]
theorem sl_from (l : S8) (i : Nat) (w : World) (h2 : i ≤ l.length) : (Instr.slice 9 (.string (mkS l)) (some (.int .i64 (i : Int))) none none).run Tryz.prog w = .ok (.string (mkS (l.drop i))) w := by
  rw [run_slice_string_l (P := Tryz.prog) w 9 (mkS l) strT .i64 (i : Int) (by omega) (by rw [mkS_size]; omega), mkS_cut, mkS_size]
  simp only [Int.toNat_natCast]
  rw [List.take_of_length_le (by simp)]
/-- Two strings whose lengths have a sum. -/
def Fit (a b : S8) : Prop := a.length + b.length ≤ 9223372036854775807
theorem fit {a b : S8} (h : a.length + b.length ≤ 9223372036854775807) : Fit a b := h
theorem Fit.out {a b : S8} (h : Fit a b) : a.length + b.length ≤ 9223372036854775807 := h
attribute [irreducible] Fit
/-- One string behind the other. -/
def cat (a b : S8) : S8 := a ++ b
theorem cat_eq (a b : S8) : cat a b = a ++ b := rfl
theorem cat_len (a b : S8) : (cat a b).length = a.length + b.length := by rw [cat_eq, List.length_append]
attribute [irreducible] cat
theorem add_S (a b : S8) (w : World) (h : Fit a b) : (Op.stringOp .add (mkS a) (mkS b)).run Tryz.prog w = .ok (.string (mkS (cat a b))) w := by
  rw [run_string_add_sum (P := Tryz.prog) w (mkS a) (mkS b) (by rw [mkS_size, mkS_size]; exact h.out), mkS_add, cat_eq]
theorem add_SL (a b : S8) (w : World) (h : Fit a b) : (Op.stringOp .add (mkS a) ⟨b.toArray⟩).run Tryz.prog w = .ok (.string (mkS (cat a b))) w := by
  rw [mkS_lit]; exact add_S a b w h
theorem add_LS (a b : S8) (w : World) (h : Fit a b) : (Op.stringOp .add ⟨a.toArray⟩ (mkS b)).run Tryz.prog w = .ok (.string (mkS (cat a b))) w := by
  rw [mkS_lit]; exact add_S a b w h
attribute [go_sem high] ix_S sl_S sl_to sl_from add_S add_SL add_LS
attribute [go_sem] mkS_toList mkS_size
/-- A pure answer. -/
def Gives (v : Value) (w : World) (e : Ending) (w' : World) : Prop := e = .returned v ∧ Below w.heap.size w w'
end Go.Proofs.YtllpcllgliknpaaGreatDoor
