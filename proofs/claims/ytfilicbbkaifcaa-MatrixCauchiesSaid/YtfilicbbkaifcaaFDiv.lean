/- The program's field: quotients. -/
import Derived.Test.YtfilicbbkaifcaaField
set_option linter.unusedSimpArgs false
set_option linter.unusedVariables false
namespace Go.Proofs.Ytfilicbbkaifcaa
open Go Go.RowKit

attribute [local go_sem] ixA
/-- A byte and an error's number. -/
def be (x : BitVec 8) (e : Nat) : Ending := .returned (.tuple #[B x, .int .i64 (e : Int)])
theorem ret_be {v w : Value} {x : BitVec 8} {e : Nat} (h : v = B x) (k : w = .int .i64 (e : Int)) : Ending.returned (.tuple #[v, w]) = be x e := by rw [h, k]; rfl
set_option maxHeartbeats 1000000 in
theorem div_zero (b : Nat) (x : BitVec 8) (w : World) :
    Calls Try.prog 43 #[.pointer (some ⟨b, 0, none⟩), B x, B 0#8] w fun e w' => e = be 0#8 3 ∧ w = w' := by
  go_enter Try.func43, Try.ntmps43
  go_wp2
  go_ret2
  exact ⟨ret_be B_0.symm rfl, rfl⟩
set_option maxHeartbeats 1000000 in
theorem div_any (b : Nat) (x y : BitVec 8) (w : World) (h : Fld w b) (hy0 : y ≠ 0#8) :
    Calls Try.prog 43 #[.pointer (some ⟨b, 0, none⟩), B x, B y] w fun e w' => e = be (gd x y) 0 ∧ Dr w w' := by
  have HF := Lib.hid h
  have hx := h.log x
  have hy := h.log y
  have lx := lg_lt x
  have ly := lg_lt y
  have i1 : IntKind.i64.wrap ((lg x : Int) + 255) = (lg x : Int) + 255 := IntWalk.i64_in _ (by omega)
  have i2 : IntKind.i64.wrap ((lg x : Int) + 255 - (lg y : Int)) = (lg x : Int) + 255 - (lg y : Int) := IntWalk.i64_in _ (by omega)
  have hn : 0 ≤ (lg x : Int) + 255 - (lg y : Int) ∧ (lg x : Int) + 255 - (lg y : Int) < 4294967296 := by omega
  have HX := Lib.hid hx
  have HY := Lib.hid hy
  have H1 := Lib.hid i1
  have H2 := Lib.hid i2
  have HN := Lib.hid hn
  have he : Hid (((lg x : Int) + 255 - (lg y : Int)).toNat = lg x + 255 - lg y) := by show ((lg x : Int) + 255 - (lg y : Int)).toNat = lg x + 255 - lg y; omega
  have ey : (y == 0#8) = false := by simpa using hy0
  clear hx hy lx ly h i1 i2 hn
  by_cases zx : x = 0#8
  · have ex : (x == 0#8) = true := by simpa using zx
    have HZ := Lib.hid zx
    clear zx hy0
    go_enter Try.func43, Try.ntmps43
    go_wp2
    go_ret2
    exact ⟨ret_be (by rw [HZ.out, gd, gm_zl, B_0]; rfl) rfl, Dr.refl _⟩
  · have ex : (x == 0#8) = false := by simpa using zx
    have HG := Lib.hid (gd_log x y zx hy0)
    clear zx hy0
    go_enter Try.func43, Try.ntmps43
    go_wp2
    have hx := HX.out
    have hy := HY.out
    have i1 := H1.out
    have i2 := H2.out
    go_quiet ((go_at_call 45; exact Calls.quiet_of_same (power_at _ _ _ HF.out HN.out.1 HN.out.2)))
    go_wp2
    go_ret2
    exact ⟨ret_be (by rw [HG.out, ← he.out]; rfl) rfl, Dr.drewN (Dr.refl _) _⟩
end Go.Proofs.Ytfilicbbkaifcaa
