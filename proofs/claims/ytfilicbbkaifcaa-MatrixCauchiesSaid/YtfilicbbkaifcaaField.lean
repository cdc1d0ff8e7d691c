/- The program's field: its tables in memory, products, quotients and powers. -/
import Derived.Test.YtfilicbbkaifcaaRows
import Derived.Test.YtfilicbbkaifcaaBase
import Derived.Test.YtfilicbbkaifcaaGf
import Derived.Deep.QuietTactic
import Derived.BigQuiet
import Derived.Deep.RegionWith
import Derived.Deep.LoopGhost
set_option linter.unusedSimpArgs false
set_option linter.unusedVariables false
namespace Go.Proofs.Ytfilicbbkaifcaa
open Go Go.RowKit

theorem ixA (a : Addr) (x : BitVec 8) (w : World) : (Instr.indexAt 49 (.pointer (some a)) (B x)).run Try.prog w = .ok (.pointer (some (a.add x.toNat))) w :=
  run_indexAt_B 49 3 256 a x (by kernel_rfl) x.isLt (by kernel_rfl)
attribute [local go_sem] ixA
/-- The cells of a field behind n powers. -/
def fldN (n i : Nat) : Value := if i < 255 then (if i < n then B (pw i) else B 0#8) else .int .i64 ((if lgs.getD (i - 255) 0 < n then lgs.getD (i - 255) 0 else 0 : Nat) : Int)
/-- Block b is a field. -/
def Fld (w : World) (b : Nat) : Prop := Row w b 51 511 (fldN 255)
theorem Fld.lt {w : World} {b : Nat} (h : Fld w b) : b < w.heap.size := Row.lt h
theorem Fld.pow {w : World} {b : Nat} (h : Fld w b) (n : Nat) (hn : n < 255) : w.cell? ⟨b, n, none⟩ = some (B (pw n)) := by
  have := Row.cell h n (by omega)
  rw [this, fldN, if_pos hn, if_pos hn]
theorem Fld.log {w : World} {b : Nat} (h : Fld w b) (x : BitVec 8) : w.cell? ⟨b, 255 + x.toNat, none⟩ = some (.int .i64 (lg x : Int)) := by
  have := Row.cell h (255 + x.toNat) (by have := x.isLt; omega)
  have hl := lg_lt x
  rw [this, fldN, if_neg (by omega), Nat.add_sub_cancel_left]
  show some (Value.int .i64 ((if lg x < 255 then lg x else 0 : Nat) : Int)) = _
  rw [if_pos hl]
theorem Fld.of_below {w w' : World} {b : Nat} (h : Fld w b) (k : Below w.heap.size w w') : Fld w' b := Row.of_below h k
theorem Fld.below {w w' : World} {b N : Nat} (h : Fld w b) (k : Below N w w') (hb : b < N) : Fld w' b := Row.below h k hb
theorem Fld.dr {w w' : World} {b : Nat} (h : Fld w b) (k : Dr w w') : Fld w' b := Row.dr h k

theorem power_any (b n : Nat) (w : World) (h : Fld w b) (hn : n < 4294967296) :
    Calls Try.prog 45 #[.pointer (some ⟨b, 0, none⟩), .int .i64 n] w fun e w' => e = .returned (B (pw n)) ∧ w = w' := by
  have hc := h.pow (n % 255) (Nat.mod_lt _ (by decide))
  have hlt : n % 255 < 255 := Nat.mod_lt _ (by decide)
  rw [pw_mod] at hc
  have HC := Lib.hid hc
  clear h hc
  go_enter Try.func45, Try.ntmps45
  have hc := HC.out
  go_wp2
  go_ret
  exact ⟨rfl, rfl⟩
theorem power_at (b : Nat) (m : Int) (w : World) (h : Fld w b) (h0 : 0 ≤ m) (hn : m < 4294967296) :
    Calls Try.prog 45 #[.pointer (some ⟨b, 0, none⟩), .int .i64 m] w fun e w' => e = .returned (B (pw m.toNat)) ∧ w' = w := by
  obtain ⟨n, rfl⟩ := Int.eq_ofNat_of_zero_le h0
  exact (power_any b n w h (by omega)).mono fun e w' ⟨he, hw⟩ => ⟨he, hw.symm⟩
set_option maxHeartbeats 1000000 in
theorem times_any (b : Nat) (x y : BitVec 8) (w : World) (h : Fld w b) :
    Calls Try.prog 44 #[.pointer (some ⟨b, 0, none⟩), B x, B y] w fun e w' => e = .returned (B (gm x y)) ∧ Dr w w' := by
  have HF := Lib.hid h
  have hx := h.log x
  have hy := h.log y
  have lx := lg_lt x
  have ly := lg_lt y
  have isum : IntKind.i64.wrap ((lg x : Int) + (lg y : Int)) = (lg x : Int) + (lg y : Int) := IntWalk.i64_in _ (by omega)
  have hn : (lg x : Int) + (lg y : Int) < 4294967296 := by omega
  have HX := Lib.hid hx
  have HY := Lib.hid hy
  have HS := Lib.hid isum
  have HN := Lib.hid hn
  clear hx hy lx ly h isum hn
  by_cases zx : x = 0#8
  · have ex : (x == 0#8) = true := by simpa using zx
    have HZ := Lib.hid zx
    clear zx
    go_enter Try.func44, Try.ntmps44
    go_wp2
    go_ret
    exact ⟨by rw [HZ.out, gm_zl, B_0]; rfl, Dr.refl _⟩
  · have ex : (x == 0#8) = false := by simpa using zx
    by_cases zy : y = 0#8
    · have ey : (y == 0#8) = true := by simpa using zy
      have HZ := Lib.hid zy
      clear zx zy
      go_enter Try.func44, Try.ntmps44
      go_wp2
      go_ret
      exact ⟨by rw [HZ.out, gm_zr, B_0]; rfl, Dr.refl _⟩
    · have ey : (y == 0#8) = false := by simpa using zy
      have eg : gm x y = pw (lg x + lg y) := by unfold gm; rw [if_neg (by simp [zx, zy])]
      have HG := Lib.hid eg
      clear eg zx zy
      go_enter Try.func44, Try.ntmps44
      go_wp2
      have hx := HX.out
      have hy := HY.out
      have isum := HS.out
      go_quiet ((go_at_call 45; exact Calls.quiet_of_same (power_at _ _ _ HF.out (by omega) HN.out)))
      go_wp2
      go_ret
      exact ⟨by rw [HG.out]; rfl, Dr.drewN (Dr.refl _) _⟩
end Go.Proofs.Ytfilicbbkaifcaa
