/- The program's Unit; Invert's errors. -/
import Derived.Test.YtfilicbbkaifcaaInvert
set_option linter.unusedSimpArgs false
set_option linter.unusedVariables false
namespace Go.Proofs.Ytfilicbbkaifcaa
open Go Go.RowKit

section
variable (la : List (List (BitVec 8))) (p : Option Addr) (n m cap : Nat) (w : World)
set_option maxHeartbeats 2000000 in
theorem invert_no (f : Value) (ha : Prt w p la) (hla : la.length = n) (hn : n < 4294967296) (ta : goodB la = false) :
    Calls Try.prog 19 #[f, .slice p n cap] w (RetNo w.heap.size w 1) := by
  have HA := Lib.hid ha
  have HL := Lib.hid hla
  clear ha hla
  go_enter Try.func19, Try.ntmps19
  go_wp2_with fail
  refine (good_any la _ n cap w HA.out HL.out hn).mono ?_
  rintro e w1 ⟨rfl, hB1⟩
  have HB1 := Lib.hid hB1
  clear hB1
  go_wp2
  go_ret2
  exact ⟨rfl, HB1.out⟩
set_option maxHeartbeats 2000000 in
theorem invert_len (f : Value) (ha : Prt w p la) (ga : Good la n m) (hne : m ≠ n) :
    Calls Try.prog 19 #[f, .slice p n cap] w (RetNo w.heap.size w 2) := by
  have g1 := ga.lo
  have g2 := ga.hi
  have g3 := ga.mlo
  have g4 := ga.mhi
  have HA := Lib.hid ha
  have GA := Lib.hid ga
  obtain ⟨c, o, q0, cap0, rfl, hc0, hc⟩ := ha.head (by rw [ga.len]; omega)
  rw [ga.head] at hc
  have ta := ga.true_
  have hn0 : (0 : Int) < (n : Int) := by omega
  have hd1 : ((m : Int) != (n : Int)) = true := by simp; omega
  have hd2 : ((m : Int) == (n : Int)) = false := by simp; omega
  have hd3 : decide (m = n) = false := by simp; omega
  clear ha ga hne
  go_enter Try.func19, Try.ntmps19
  go_wp2_with fail
  refine (good_any la _ n cap w HA.out GA.out.len (by omega)).mono ?_
  rintro e w1 ⟨rfl, hB1⟩
  have hx : w1.cell? ⟨c, o, none⟩ = some (.slice q0 m cap0) := by rw [hB1.cell (by exact hc0)]; exact hc
  have HB1 := Lib.hid hB1
  clear hB1
  go_wp2
  go_ret2
  exact ⟨rfl, HB1.out⟩
end
set_option maxHeartbeats 2000000 in
theorem unit_no (x : Int) (w : World) (h : permB x = false) : Calls Try.prog 24 #[.int .i64 x] w (RetNo w.heap.size w 1) := by
  go_enter Try.func24, Try.ntmps24
  go_wp2_with fail
  refine (permitted_any x w).mono ?_
  rintro e w1 ⟨rfl, rfl⟩
  go_wp2
  go_ret2
  exact ⟨rfl, Below.refl _ _⟩
attribute [local go_sem ↓] exec_store exec_make exec_bs
attribute [local go_sem] st_B st_I st_b st_H mkB mkR mkM
set_option maxRecDepth 100000 in
set_option maxHeartbeats 8000000 in
theorem unit_ok (n : Nat) (w : World) (h1 : 1 ≤ n) (h2 : n ≤ 64) : Calls Try.prog 24 #[.int .i64 (n : Int)] w (RetOk w.heap.size w n n id1) := by
  have hn8 : n < 100000000 := by omega
  have hn4 : n < 4294967296 := by omega
  have hp : permB (n : Int) = true := decide_eq_true ⟨by omega, by omega⟩
  have hmat : Mp (w.alloc (.cells (tab n (fun _ => .slice none 0 0)) 35)) w.heap.size w.heap.size n 0 n (fun _ => 0) id1 := Mp.zero (Row.new w _ n _) (Nat.le_refl _)
  have hb0 : Below w.heap.size w (w.alloc (.cells (tab n (fun _ => .slice none 0 0)) 35)) := (Below.refl _ _).alloc (Nat.le_refl _) _
  go_enter Try.func24, Try.ntmps24
  go_wp2_with fail
  refine (permitted_any _ w).mono ?_
  rintro e w1 ⟨rfl, rfl⟩
  go_wp2
  generalize w.alloc (.cells (tab n (fun _ => .slice none 0 0)) 35) = w1 at *
  have HM := Lib.hid hmat
  have HB0 := Lib.hid hb0
  clear hmat hb0
  generalize hN : w.heap.size = N at *
  have HN := Lib.hid hN
  clear hN
  go_loopw [13] (fun i wr => ∃ i0 : Nat, i0 ≤ n ∧ i = .int .i64 i0 ∧ ∃ D, Mp wr N N n i0 n D id1 ∧ Below N w wr) (fun i _ => n - (intOf i).toNat)
  case atStart => exact ⟨0, Nat.zero_le _, rfl, _, HM.out, HB0.out⟩
  case round =>
    clear HM HB0
    obtain ⟨i0, hi0, rfl, D, hM, hB⟩ := hrel
    rename World => WO
    have HM := Lib.hid hM
    have HBr := Lib.hid hB
    have hNlt : N < WO.heap.size := hM.ltG
    by_cases hlt : i0 < n
    · have hd0 : decide ((i0 : Int) < (n : Int)) = true := decide_eq_true (by omega)
      have hl0 : (i0 : Int) < (n : Int) := by omega
      have hbA : Below WO.heap.size WO (WO.alloc (.cells (zb n) 5)) := (Below.refl _ _).alloc (Nat.le_refl _) _
      have hr : Row (WO.alloc (.cells (zb n) 5)) WO.heap.size 5 n (fun j => B 0#8) := Row.new WO _ n _
      have hMA := hM.of_below hbA
      have hc2 : WO.cell? ⟨N, i0, none⟩ = some (hdr i0 n D i0) := hM.hds.cell i0 hlt
      have hf2 : WO.frozen? ⟨N, i0, none⟩ = false := hM.free i0
      have hcm : (WO.alloc (.cells (zb n) 5)).cell? ⟨N, i0, none⟩ = some (hdr i0 n D i0) := hMA.hds.cell i0 hlt
      have hMB := hMA.put i0 WO.heap.size (fun _ => 0#8) hr (i0 + 1) (.inr ⟨rfl, rfl⟩) (fun j hj _ => by have := hM.lt j hj; omega) (by omega) (by omega)
      have HB1 := Lib.hid (show Below N w ((WO.setCell ⟨N, i0, none⟩ (.slice (some ⟨WO.heap.size, 0, none⟩) n n)).alloc (.cells (zb n) 5)) from ((hB.setCell (Nat.le_refl _) _).alloc (by simp; omega) _))
      have hcomm : (WO.alloc (.cells (zb n) 5)).setCell ⟨N, i0, none⟩ (.slice (some ⟨WO.heap.size, 0, none⟩) n n) = (WO.setCell ⟨N, i0, none⟩ (.slice (some ⟨WO.heap.size, 0, none⟩) n n)).alloc (.cells (zb n) 5) := World.setCell_alloc_past _ N i0 _ hNlt
      rw [hcomm] at hMB
      have HM1 := Lib.hid hMB
      have HEN := Lib.hid hNlt
      have e1 : setD D i0 WO.heap.size i0 = WO.heap.size := if_pos rfl
      have hx1 := hMB.cellH i0 (Nat.lt_succ_self _) hlt
      have hx2 := hMB.cell i0 i0 (Nat.lt_succ_self _) hlt
      have hx3 := (hMB.row i0 (Nat.lt_succ_self _)).free i0
      rw [e1] at hx1 hx2 hx3
      clear hbA hr hMA hMB hM hB hcomm e1
      go_wp2
      clear hx1 hx2 hx3 hc2 hf2 hcm
      go_roundw
      case rel =>
        have e1 : setD D i0 WO.heap.size i0 = WO.heap.size := if_pos rfl
        have hW := World.setCell_alloc_at (w := WO.setCell ⟨N, i0, none⟩ (.slice (some ⟨WO.heap.size, 0, none⟩) n n)) (zb n) 5 WO.heap.size i0 (.int .u8 1) (by simp)
        have hrow := HM1.out.row i0 (Nat.lt_succ_self _)
        rw [e1] at hrow
        have hr := (hrow.set i0 (.int .u8 1)).congr (g' := fun j => B (if j = i0 then 1#8 else 0#8)) fun j _ => by
          by_cases h : j = i0
          · rw [if_pos h, if_pos h, B_1]
          · rw [if_neg h, if_neg h, setr, if_pos rfl]
        have hm := HM1.out.alter (D := setD D i0 WO.heap.size) i0 (Nat.lt_succ_self _) _ (by rw [e1]; exact (Kp.refl _ _).setCell i0 (.int .u8 1)) (by rw [e1]; exact hr)
        have hb := HB1.out.setCell (show N ≤ (⟨WO.heap.size, i0, none⟩ : Addr).block from Nat.le_of_lt HEN.out) (.int .u8 1)
        rw [hW] at hm hb
        refine ⟨i0 + 1, by omega, by go_num, _, hm.congr fun x y _ _ => ?_, hb⟩
        by_cases h : x = i0
        · rw [setr, if_pos h, id1, h]
          by_cases h2 : y = i0
          · rw [if_pos h2, if_pos h2.symm]
          · rw [if_neg h2, if_neg (Ne.symm h2)]
        · rw [setr, if_neg h, setr, if_neg h]
      case measure => simp [intOf]; omega
    · have hd0 : decide ((i0 : Int) < (n : Int)) = false := decide_eq_false (by omega)
      obtain rfl : i0 = n := by omega
      clear hM hB
      go_wp2
      go_ret2
      exact ⟨_, D, rfl, HM.out, HBr.out⟩
end Go.Proofs.Ytfilicbbkaifcaa
