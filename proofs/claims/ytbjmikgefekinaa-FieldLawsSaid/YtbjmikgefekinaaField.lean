/- The program's field: its tables in memory, products, quotients and powers. -/
import Derived.Test.YtbjmikgefekinaaRows
import Derived.Test.YtbjmikgefekinaaBase
import Derived.Test.YtbjmikgefekinaaGf
import Derived.Deep.QuietTactic
import Derived.BigQuiet
import Derived.Deep.RegionWith
import Derived.Deep.LoopGhost
set_option linter.unusedSimpArgs false
set_option linter.unusedVariables false
namespace Go.Proofs.Ytbjmikgefekinaa
open Go Go.RowKit

theorem ixA (a : Addr) (x : BitVec 8) (w : World) : (Instr.indexAt 43 (.pointer (some a)) (B x)).run Try.prog w = .ok (.pointer (some (a.add x.toNat))) w :=
  run_indexAt_B 43 3 256 a x (by kernel_rfl) x.isLt (by kernel_rfl)
attribute [local go_sem] ixA
/-- The cells of a field behind n powers. -/
def fldN (n i : Nat) : Value := if i < 255 then (if i < n then B (pw i) else B 0#8) else .int .i64 ((if lgs.getD (i - 255) 0 < n then lgs.getD (i - 255) 0 else 0 : Nat) : Int)
/-- Block b is a field. -/
def Fld (w : World) (b : Nat) : Prop := Row w b 45 511 (fldN 255)
theorem Fld.lt {w : World} {b : Nat} (h : Fld w b) : b < w.heap.size := Row.lt h
theorem Fld.pow {w : World} {b : Nat} (h : Fld w b) (n : Nat) (hn : n < 255) : w.cell? ⟨b, n, none⟩ = some (B (pw n)) := by
  have := Row.cell h n (by omega)
  rw [this, fldN, if_pos hn, if_pos hn]
theorem Fld.log {w : World} {b : Nat} (h : Fld w b) (x : BitVec 8) : w.cell? ⟨b, 255 + x.toNat, none⟩ = some (.int .i64 (lg x : Int)) := by
  have := Row.cell h (255 + x.toNat) (by have := x.isLt; omega)
  have hl := lg_lt x
  rw [this, fldN, if_neg (by omega), Nat.add_sub_cancel_left]
  show some (Value.int .i64 ((if lg x < 255 then lg x else 0 : Nat) : Int)) = _
  rw [if_pos hl]
theorem Fld.of_below {w w' : World} {b : Nat} (h : Fld w b) (k : Below w.heap.size w w') : Fld w' b := Row.of_below h k
theorem Fld.below {w w' : World} {b N : Nat} (h : Fld w b) (k : Below N w w') (hb : b < N) : Fld w' b := Row.below h k hb
theorem Fld.dr {w w' : World} {b : Nat} (h : Fld w b) (k : Dr w w') : Fld w' b := Row.dr h k

theorem power_any (b n : Nat) (w : World) (h : Fld w b) (hn : n < 4294967296) :
    Calls Try.prog 20 #[.pointer (some ⟨b, 0, none⟩), .int .i64 n] w fun e w' => e = .returned (B (pw n)) ∧ w = w' := by
  have hc := h.pow (n % 255) (Nat.mod_lt _ (by decide))
  have hlt : n % 255 < 255 := Nat.mod_lt _ (by decide)
  rw [pw_mod] at hc
  have HC := Lib.hid hc
  clear h hc
  go_enter Try.func20, Try.ntmps20
  have hc := HC.out
  go_wp2
  go_ret
  exact ⟨rfl, rfl⟩
theorem power_at (b : Nat) (m : Int) (w : World) (h : Fld w b) (h0 : 0 ≤ m) (hn : m < 4294967296) :
    Calls Try.prog 20 #[.pointer (some ⟨b, 0, none⟩), .int .i64 m] w fun e w' => e = .returned (B (pw m.toNat)) ∧ w' = w := by
  obtain ⟨n, rfl⟩ := Int.eq_ofNat_of_zero_le h0
  exact (power_any b n w h (by omega)).mono fun e w' ⟨he, hw⟩ => ⟨he, hw.symm⟩
set_option maxHeartbeats 1000000 in
theorem times_any (b : Nat) (x y : BitVec 8) (w : World) (h : Fld w b) :
    Calls Try.prog 19 #[.pointer (some ⟨b, 0, none⟩), B x, B y] w fun e w' => e = .returned (B (gm x y)) ∧ Dr w w' := by
  have HF := Lib.hid h
  have hx := h.log x
  have hy := h.log y
  have lx := lg_lt x
  have ly := lg_lt y
  have isum : IntKind.i64.wrap ((lg x : Int) + (lg y : Int)) = (lg x : Int) + (lg y : Int) := IntWalk.i64_in _ (by omega)
  have hn : (lg x : Int) + (lg y : Int) < 4294967296 := by omega
  have HX := Lib.hid hx
  have HY := Lib.hid hy
  have HS := Lib.hid isum
  have HN := Lib.hid hn
  clear hx hy lx ly h isum hn
  by_cases zx : x = 0#8
  · have ex : (x == 0#8) = true := by simpa using zx
    have HZ := Lib.hid zx
    clear zx
    go_enter Try.func19, Try.ntmps19
    go_wp2
    go_ret
    exact ⟨by rw [HZ.out, gm_zl, B_0]; rfl, Dr.refl _⟩
  · have ex : (x == 0#8) = false := by simpa using zx
    by_cases zy : y = 0#8
    · have ey : (y == 0#8) = true := by simpa using zy
      have HZ := Lib.hid zy
      clear zx zy
      go_enter Try.func19, Try.ntmps19
      go_wp2
      go_ret
      exact ⟨by rw [HZ.out, gm_zr, B_0]; rfl, Dr.refl _⟩
    · have ey : (y == 0#8) = false := by simpa using zy
      have eg : gm x y = pw (lg x + lg y) := by unfold gm; rw [if_neg (by simp [zx, zy])]
      have HG := Lib.hid eg
      clear eg zx zy
      go_enter Try.func19, Try.ntmps19
      go_wp2
      have hx := HX.out
      have hy := HY.out
      have isum := HS.out
      go_quiet ((go_at_call 20; exact Calls.quiet_of_same (power_at _ _ _ HF.out (by omega) HN.out)))
      go_wp2
      go_ret
      exact ⟨by rw [HG.out]; rfl, Dr.drewN (Dr.refl _) _⟩
/-- The product of all, the sum of all. -/
def pr (l : List (BitVec 8)) : BitVec 8 := l.foldl gm 1#8
def sm (l : List (BitVec 8)) : BitVec 8 := l.foldl (· ^^^ ·) 0#8
theorem pr_snoc (l : List (BitVec 8)) (x : BitVec 8) : pr (l ++ [x]) = gm (pr l) x := by simp [pr]
theorem sm_snoc (l : List (BitVec 8)) (x : BitVec 8) : sm (l ++ [x]) = sm l ^^^ x := by simp [sm]
set_option maxHeartbeats 1000000 in
theorem mul_any (b : Nat) (l : List (BitVec 8)) (p : Option Addr) (n cap : Nat) (w : World) (h : Fld w b) (hs : Sl w p l) (hl : l.length = n) (hn : n < 4294967296) :
    Calls Try.prog 11 #[.pointer (some ⟨b, 0, none⟩), .slice p n cap] w fun e w' => e = .returned (B (pr l)) ∧ Dr w w' := by
  have HF := Lib.hid h
  have HS := Lib.hid hs
  have HL := Lib.hid hl
  clear h hs hl
  go_enter Try.func11, Try.ntmps11
  go_wp2
  go_loopw [5, 10] (fun r i wr => ∃ k : Nat, k ≤ n ∧ i = .int .i64 k ∧ r = B (pr (l.take k)) ∧ Dr w wr) (fun _ i _ => n - (intOf i).toNat)
  case atStart => exact ⟨0, Nat.zero_le _, rfl, by simp [pr, B_1], Dr.refl _⟩
  case round =>
    obtain ⟨k, hk, rfl, rfl, hD⟩ := hrel
    have HD := Lib.hid hD
    by_cases hlt : k < n
    · obtain ⟨c, o, rfl, hc⟩ := HS.out k (by rw [HL.out]; exact hlt)
      have hx : wr.cell? ⟨c, o + k, none⟩ = some (B (l.getD k 0#8)) := by rw [hD.cell]; exact hc
      have hT := Lib.hid (take_getD l 0#8 k (by rw [HL.out]; exact hlt))
      have hd0 : decide ((k : Int) < (n : Int)) = true := decide_eq_true (by omega)
      have hl0 : (k : Int) < (n : Int) := by omega
      generalize l.getD k 0#8 = x at *
      clear hD hc
      go_wp2_with (go_at_call 19; refine (times_any b _ x wr (Fld.dr HF.out HD.out)).mono ?_; rintro e w2 ⟨rfl, hD2⟩)
      have HD2 := Lib.hid (HD.out.trans hD2)
      clear hD2
      go_roundw
      case rel => exact ⟨k + 1, by omega, by go_num, by rw [hT.out, pr_snoc], HD2.out⟩
      case measure => simp [intOf]; omega
    · have hd0 : decide ((k : Int) < (n : Int)) = false := decide_eq_false (by omega)
      have he : Hid (l.take k = l) := by show l.take k = l; exact List.take_of_length_le (by rw [HL.out]; omega)
      clear hD
      go_wp2
      go_ret
      exact ⟨by rw [he.out]; rfl, HD.out⟩
set_option maxHeartbeats 1000000 in
theorem add_any (f : Value) (l : List (BitVec 8)) (p : Option Addr) (n cap : Nat) (w : World) (hs : Sl w p l) (hl : l.length = n) (hn : n < 4294967296) :
    Calls Try.prog 13 #[f, .slice p n cap] w fun e w' => e = .returned (B (sm l)) ∧ Dr w w' := by
  have HS := Lib.hid hs
  have HL := Lib.hid hl
  clear hs hl
  go_enter Try.func13, Try.ntmps13
  go_wp2
  go_loopw [5, 10] (fun r i wr => ∃ k : Nat, k ≤ n ∧ i = .int .i64 k ∧ r = B (sm (l.take k)) ∧ Dr w wr) (fun _ i _ => n - (intOf i).toNat)
  case atStart => exact ⟨0, Nat.zero_le _, rfl, by simp [sm, B_0], Dr.refl _⟩
  case round =>
    obtain ⟨k, hk, rfl, rfl, hD⟩ := hrel
    have HD := Lib.hid hD
    by_cases hlt : k < n
    · obtain ⟨c, o, rfl, hc⟩ := HS.out k (by rw [HL.out]; exact hlt)
      have hx : wr.cell? ⟨c, o + k, none⟩ = some (B (l.getD k 0#8)) := by rw [hD.cell]; exact hc
      have hT := Lib.hid (take_getD l 0#8 k (by rw [HL.out]; exact hlt))
      have hd0 : decide ((k : Int) < (n : Int)) = true := decide_eq_true (by omega)
      have hl0 : (k : Int) < (n : Int) := by omega
      generalize l.getD k 0#8 = x at *
      clear hD hc
      go_wp2
      go_roundw
      case rel => exact ⟨k + 1, by omega, by go_num, by rw [hT.out, sm_snoc], HD.out⟩
      case measure => simp [intOf]; omega
    · have hd0 : decide ((k : Int) < (n : Int)) = false := decide_eq_false (by omega)
      have he : Hid (l.take k = l) := by show l.take k = l; exact List.take_of_length_le (by rw [HL.out]; omega)
      clear hD
      go_wp2
      go_ret
      exact ⟨by rw [he.out]; rfl, HD.out⟩
/-- A byte and an error's number. -/
def be (x : BitVec 8) (e : Nat) : Ending := .returned (.tuple #[B x, .int .i64 (e : Int)])
theorem ret_be {v w : Value} {x : BitVec 8} {e : Nat} (h : v = B x) (k : w = .int .i64 (e : Int)) : Ending.returned (.tuple #[v, w]) = be x e := by rw [h, k]; rfl
set_option maxHeartbeats 1000000 in
theorem div_zero (b : Nat) (x : BitVec 8) (w : World) :
    Calls Try.prog 14 #[.pointer (some ⟨b, 0, none⟩), B x, B 0#8] w fun e w' => e = be 0#8 3 ∧ w = w' := by
  go_enter Try.func14, Try.ntmps14
  go_wp2
  go_ret2
  exact ⟨ret_be B_0.symm rfl, rfl⟩
set_option maxHeartbeats 1000000 in
theorem div_any (b : Nat) (x y : BitVec 8) (w : World) (h : Fld w b) (hy0 : y ≠ 0#8) :
    Calls Try.prog 14 #[.pointer (some ⟨b, 0, none⟩), B x, B y] w fun e w' => e = be (gd x y) 0 ∧ Dr w w' := by
  have HF := Lib.hid h
  have hx := h.log x
  have hy := h.log y
  have lx := lg_lt x
  have ly := lg_lt y
  have i1 : IntKind.i64.wrap ((lg x : Int) + 255) = (lg x : Int) + 255 := IntWalk.i64_in _ (by omega)
  have i2 : IntKind.i64.wrap ((lg x : Int) + 255 - (lg y : Int)) = (lg x : Int) + 255 - (lg y : Int) := IntWalk.i64_in _ (by omega)
  have hn : 0 ≤ (lg x : Int) + 255 - (lg y : Int) ∧ (lg x : Int) + 255 - (lg y : Int) < 4294967296 := by omega
  have HX := Lib.hid hx
  have HY := Lib.hid hy
  have H1 := Lib.hid i1
  have H2 := Lib.hid i2
  have HN := Lib.hid hn
  have he : Hid (((lg x : Int) + 255 - (lg y : Int)).toNat = lg x + 255 - lg y) := by show ((lg x : Int) + 255 - (lg y : Int)).toNat = lg x + 255 - lg y; omega
  have ey : (y == 0#8) = false := by simpa using hy0
  clear hx hy lx ly h i1 i2 hn
  by_cases zx : x = 0#8
  · have ex : (x == 0#8) = true := by simpa using zx
    have HZ := Lib.hid zx
    clear zx hy0
    go_enter Try.func14, Try.ntmps14
    go_wp2
    go_ret2
    exact ⟨ret_be (by rw [HZ.out, gd, gm_zl, B_0]; rfl) rfl, Dr.refl _⟩
  · have ex : (x == 0#8) = false := by simpa using zx
    have HG := Lib.hid (gd_log x y zx hy0)
    clear zx hy0
    go_enter Try.func14, Try.ntmps14
    go_wp2
    have hx := HX.out
    have hy := HY.out
    have i1 := H1.out
    have i2 := H2.out
    go_quiet ((go_at_call 20; exact Calls.quiet_of_same (power_at _ _ _ HF.out HN.out.1 HN.out.2)))
    go_wp2
    go_ret2
    exact ⟨ret_be (by rw [HG.out, ← he.out]; rfl) rfl, Dr.drewN (Dr.refl _) _⟩
set_option maxHeartbeats 1000000 in
theorem power_neg (b : Nat) (x : BitVec 8) (n : Int) (w : World) (hn : n < 0) :
    Calls Try.prog 16 #[.pointer (some ⟨b, 0, none⟩), B x, .int .i64 n] w fun e w' => e = be 0#8 1 ∧ w = w' := by
  have hd : decide (n < 0) = true := decide_eq_true hn
  go_enter Try.func16, Try.ntmps16
  go_wp2
  go_ret2
  exact ⟨ret_be B_0.symm rfl, rfl⟩
set_option maxHeartbeats 1000000 in
theorem Power_any (b : Nat) (x : BitVec 8) (n : Nat) (w : World) (h : Fld w b) :
    Calls Try.prog 16 #[.pointer (some ⟨b, 0, none⟩), B x, .int .i64 n] w fun e w' => e = be (gp x n) 0 ∧ w = w' := by
  have HF := Lib.hid h
  have HX := Lib.hid (h.log x)
  have lx := lg_lt x
  have hq : n % 255 < 255 := Nat.mod_lt _ (by decide)
  have hm : lg x * (n % 255) ≤ 254 * 254 := Nat.mul_le_mul (by omega) (by omega)
  clear h
  by_cases h0 : n = 0
  · subst h0
    clear hq hm lx
    go_enter Try.func16, Try.ntmps16
    go_wp2
    go_ret2
    exact ⟨ret_be B_1.symm rfl, rfl⟩
  · have hd : decide ((n : Int) < 0) = false := decide_eq_false (by omega)
    have hd2 : ((n : Int) == 0) = false := by simp; omega
    by_cases zx : x = 0#8
    · have ex : (x == 0#8) = true := by simpa using zx
      have HZ := Lib.hid zx
      have H0 := Lib.hid (gp_zero n (by omega))
      clear zx h0 hq hm lx
      go_enter Try.func16, Try.ntmps16
      go_wp2
      go_ret2
      exact ⟨ret_be (by rw [HZ.out, H0.out, B_0]; rfl) rfl, rfl⟩
    · have ex : (x == 0#8) = false := by simpa using zx
      have HG := Lib.hid (gp_log x zx n)
      have hx := HX.out
      generalize hQ : n % 255 = q at *
      have HQ := Lib.hid (show ((n : Int) % 255) = (q : Int) by omega)
      have HM := Lib.hid (show ((lg x : Int) * (q : Int)) = ((lg x * q : Nat) : Int) by simp)
      have hmn : lg x * q < 4294967296 := by omega
      have hmw : IntKind.i64.wrap ((lg x : Int) * (q : Int)) = ((lg x * q : Nat) : Int) := by rw [HM.out]; exact IntWalk.i64_in _ (by omega)
      have HMW := Lib.hid hmw
      have HMN := Lib.hid hmn
      clear zx h0 hQ hm hmn hmw lx hq
      go_enter Try.func16, Try.ntmps16
      have hq := HQ.out
      have hw := HMW.out
      go_wp2_with fail
      rw [HM.out]
      refine (power_any _ _ _ HF.out HMN.out).mono ?_
      rintro e w' ⟨rfl, rfl⟩
      go_wp2
      go_ret2
      exact ⟨ret_be (by rw [HG.out]; rfl) rfl, rfl⟩
end Go.Proofs.Ytbjmikgefekinaa
