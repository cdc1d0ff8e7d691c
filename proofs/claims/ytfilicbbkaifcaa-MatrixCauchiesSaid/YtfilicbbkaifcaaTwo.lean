/- The program's field: the sum of two bytes, and inverses, as package matrix calls them. -/
import Derived.Test.YtfilicbbkaifcaaFAdd
import Derived.Test.YtfilicbbkaifcaaFDiv
import Derived.Test.YtfilicbbkaifcaaScale
import Derived.Test.YtfilicbbkaifcaaGd
import Derived.Deep.RegionHeld3
set_option linter.unusedSimpArgs false
set_option linter.unusedVariables false
namespace Go.Proofs.Ytfilicbbkaifcaa
open Go Go.RowKit

theorem bs2 (x y : BitVec 8) (w : World) : (bsT 35 2 #[(0, B x), (1, B y)]).run Try.prog w = .ok (.value (.slice (some ⟨w.heap.size, 0, none⟩) 2 2)) (w.alloc (.cells #[B x, B y] 5)) := by kernel_rfl
theorem Sl_two (w : World) (x y : BitVec 8) (T : TypeId) : Sl (w.alloc (.cells #[B x, B y] T)) (some ⟨w.heap.size, 0, none⟩) [x, y] := fun j hj => by
  refine ⟨w.heap.size, 0, rfl, ?_⟩
  rw [Nat.zero_add, World.cell?_alloc_new]
  match j, hj with
  | 0, _ => rfl
  | 1, _ => rfl
theorem sm_two (x y : BitVec 8) : sm [x, y] = x ^^^ y := by simp [sm]
theorem add_two (f : Value) (x y : BitVec 8) (p : Option Addr) (w : World) (hs : Sl w p [x, y]) :
    Calls Try.prog 37 #[f, .slice p 2 2] w fun e w' => e = .returned (B (x ^^^ y)) ∧ Dr w w' :=
  (add_any f [x, y] p 2 2 w hs rfl (by decide)).mono fun e w' ⟨he, hd⟩ => ⟨by rw [he, sm_two], hd⟩
theorem div_1 (b : Nat) (x : BitVec 8) (w : World) (h : Fld w b) (hx : x ≠ 0#8) :
    Calls Try.prog 43 #[.pointer (some ⟨b, 0, none⟩), .int .u8 1, B x] w fun e w' => e = .returned (.tuple #[B (gi x), .int .i64 0]) ∧ Dr w w' := by
  have := div_any b 1#8 x w h hx
  rw [B_1] at this
  exact this.mono fun e w' ⟨he, hd⟩ => ⟨by rw [he, gd, gm_one]; rfl, hd⟩
theorem inverse_any (b : Nat) (x : BitVec 8) (w : World) (h : Fld w b) (hx : x ≠ 0#8) :
    Calls Try.prog 36 #[.pointer (some ⟨b, 0, none⟩), B x] w fun e w' => e = .returned (B (gi x)) ∧ Dr w w' := by
  have HC := Lib.hid (div_1 b x w h hx)
  clear h hx
  go_enter Try.func36, Try.ntmps36
  go_wp2_with fail
  refine HC.out.mono ?_
  rintro e w2 ⟨rfl, hD⟩
  have HD := Lib.hid hD
  clear hD
  go_wp2
  go_ret
  exact ⟨rfl, HD.out⟩
attribute [local go_sem ↓] exec_store exec_make exec_bs
attribute [local go_sem] st_B st_I st_b mkB bs2
set_option maxHeartbeats 2000000 in
/-- One row, times a number, added to another. -/
theorem madd_any (b R n cap cap' : Nat) (c : BitVec 8) (s : Nat → BitVec 8) (q : Option Addr) (l : List (BitVec 8)) (w : World) (h : Fld w b) (hbR : b ≠ R) (hR : Row w R 5 n (fun j => B (s j))) (hs : Sl w q l) (hl : l.length = n) (hn : n < 4294967296) :
    Calls Try.prog 39 #[.pointer (some ⟨b, 0, none⟩), .slice (some ⟨R, 0, none⟩) n cap, B c, .slice q n cap'] w fun e w' =>
      e = .returned (.tuple #[]) ∧ Row w' R 5 n (fun j => B (s j ^^^ gm c (l.getD j 0#8))) ∧ Kp R w w' := by
  have HC := Lib.hid (scale_any b c l q n cap' w h hs hl hn)
  have HF := Lib.hid h
  have HR := Lib.hid hR
  have HL := Lib.hid hl
  have hlt : R < w.heap.size := hR.lt
  clear h hR hs hl
  go_enter Try.func39, Try.ntmps39
  go_wp2_with fail
  refine HC.out.mono ?_
  rintro e w1 ⟨rfl, hr1, hb1⟩
  have HR1 := Lib.hid (hr1.of_below (Below.refl _ _))
  have HK1 := Lib.hid ((Kp.refl R w).of_below hb1 : Kp R w w1)
  have HRR := Lib.hid ((HR.out.of_below hb1).congr (g' := fun j => B (if j < 0 then s j ^^^ gm c (l.getD j 0#8) else s j)) fun j _ => by rw [if_neg (by omega)])
  have HF1 := Lib.hid (HF.out.of_below hb1)
  have hsz1 : w.heap.size < w1.heap.size := hr1.lt
  clear hr1 hb1 HC HR HF
  generalize hN : w.heap.size = N at *
  have HN := Lib.hid hN
  clear hN
  go_wp2
  go_loopw [8, 9, 15] (fun _ _ i wr => ∃ k : Nat, k ≤ n ∧ i = .int .i64 k ∧ Row wr R 5 n (fun j => B (if j < k then s j ^^^ gm c (l.getD j 0#8) else s j)) ∧ Kp R w1 wr) (fun _ _ i _ => n - (intOf i).toNat)
  case atStart => exact ⟨0, Nat.zero_le _, rfl, HRR.out, Kp.refl _ _⟩
  case round =>
    clear HRR
    obtain ⟨k, hk, rfl, hR, hK⟩ := hrel
    have HRR := Lib.hid hR
    have HK := Lib.hid hK
    by_cases hlt2 : k < n
    · have hd0 : decide ((k : Int) < (n : Int)) = true := decide_eq_true (by omega)
      have hl0 : (k : Int) < (n : Int) := by omega
      have hx : wr.cell? ⟨N, k, none⟩ = some (B (gm c (l.getD k 0#8))) := by
        rw [hK.cell (by exact hsz1) (by show N ≠ R; omega)]; exact HR1.out.cell k hlt2
      have hy : wr.cell? ⟨R, k, none⟩ = some (B (s k)) := by
        have := hR.cell k hlt2
        rwa [if_neg (by omega)] at this
      have HFr := Lib.hid (show Fld wr b from Row.of_kp HF1.out hK hbR)
      have hRlt : R < wr.heap.size := hR.lt
      have HST := Lib.hid (fun j (_ : j < n) => show (if j = k then B (s k ^^^ gm c (l.getD k 0#8)) else B (if j < k then s j ^^^ gm c (l.getD j 0#8) else s j)) = B (if j < k + 1 then s j ^^^ gm c (l.getD j 0#8) else s j) from by
        by_cases e : j = k
        · subst e; rw [if_pos rfl, if_pos (by omega)]
        · rw [if_neg e]
          by_cases e2 : j < k
          · rw [if_pos e2, if_pos (by omega)]
          · rw [if_neg e2, if_neg (by omega)])
      generalize gm c (l.getD k 0#8) = y at *
      generalize hsk : s k = x at *
      clear hR hK hsk
      go_wp2_with fail
      refine (add_two _ x y _ _ (Sl_two _ x y _)).mono ?_
      rintro e w2 ⟨rfl, hD2⟩
      have hb0 : Below wr.heap.size wr (wr.alloc (.cells #[B x, B y] 5)) := (Below.refl _ _).alloc (Nat.le_refl _) _
      have hR2 := (HRR.out.of_below hb0).dr hD2
      have c1 : (w2.cell? ⟨R, k, none⟩).isSome = true := by rw [hR2.cell k (by omega)]; rfl
      have f1 : ∀ i, w2.frozen? ⟨R, i, none⟩ = false := hR2.free
      have HR2 := Lib.hid (hR2.set k (B (x ^^^ y)))
      have HK2 := Lib.hid ((HK.out.of_below hb0).of_below (hD2.below _) : Kp R w1 w2)
      clear hR2 hD2 hb0
      go_wp2
      go_roundw
      case rel => exact ⟨k + 1, by omega, by go_num, HR2.out.congr HST.out, HK2.out.setCell _ _⟩
      case measure => simp [intOf]; omega
    · have hd0 : decide ((k : Int) < (n : Int)) = false := decide_eq_false (by omega)
      obtain rfl : k = n := by omega
      clear hR hK
      go_wp2
      go_end0
      exact ⟨rfl, HRR.out.congr fun j hj => by rw [if_pos hj], HK1.out.trans HK.out⟩
end Go.Proofs.Ytfilicbbkaifcaa
