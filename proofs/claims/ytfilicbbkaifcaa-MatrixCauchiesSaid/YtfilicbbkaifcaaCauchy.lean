/- The program's Cauchy. -/
import Derived.Test.YtfilicbbkaifcaaUnit
import Derived.Test.YtfilicbbkaifcaaNew
set_option linter.unusedSimpArgs false
set_option linter.unusedVariables false
namespace Go.Proofs.Ytfilicbbkaifcaa
open Go Go.RowKit

set_option maxHeartbeats 2000000 in
theorem cauchy_no1 (x : Int) (y : Value) (w : World) (h : permB x = false) : Calls Try.prog 22 #[.int .i64 x, y] w (RetNo w.heap.size w 1) := by
  go_enter Try.func22, Try.ntmps22
  go_wp2_with fail
  refine (permitted_any x w).mono ?_
  rintro e w1 ⟨rfl, rfl⟩
  go_wp2
  go_ret2
  exact ⟨rfl, Below.refl _ _⟩
set_option maxHeartbeats 2000000 in
theorem cauchy_no2 (x y : Int) (w : World) (h : permB x = true) (h2 : permB y = false) : Calls Try.prog 22 #[.int .i64 x, .int .i64 y] w (RetNo w.heap.size w 1) := by
  go_enter Try.func22, Try.ntmps22
  go_wp2_with fail
  refine (permitted_any x w).mono ?_
  rintro e w1 ⟨rfl, rfl⟩
  go_wp2_with fail
  refine (permitted_any y w).mono ?_
  rintro e w1 ⟨rfl, rfl⟩
  go_wp2
  go_ret2
  exact ⟨rfl, Below.refl _ _⟩
/-- The Cauchy matrix. -/
def cau (k : Nat) : Mx := fun i j => gi (BitVec.ofNat 8 (k + i) ^^^ BitVec.ofNat 8 j)
theorem cau_ne (k i j : Nat) (h1 : k + i < 256) (h2 : j < 256) (h3 : k + i ≠ j) : BitVec.ofNat 8 (k + i) ^^^ BitVec.ofNat 8 j ≠ 0#8 := fun e => h3 (by
  have := congrArg BitVec.toNat (xor_eq_zero _ _ e)
  simp only [BitVec.toNat_ofNat] at this
  omega)
attribute [local go_sem ↓] exec_store exec_make exec_bs
attribute [local go_sem] st_B st_I st_b st_H mkB mkR mkM bs2
set_option maxRecDepth 100000 in
set_option maxHeartbeats 16000000 in
theorem cauchy_ok (k m : Nat) (w : World) (hk1 : 1 ≤ k) (hk2 : k ≤ 64) (hm1 : 1 ≤ m) (hm2 : m ≤ 64) : Calls Try.prog 22 #[.int .i64 (k : Int), .int .i64 (m : Int)] w (RetOk w.heap.size w m k (cau k)) := by
  have hm8 : m < 100000000 := by omega
  have hk4 : k < 4294967296 := by omega
  have hp : permB (k : Int) = true := decide_eq_true ⟨by omega, by omega⟩
  have hq : permB (m : Int) = true := decide_eq_true ⟨by omega, by omega⟩
  go_enter Try.func22, Try.ntmps22
  go_wp2_with fail
  refine (permitted_any _ w).mono ?_
  rintro e w' ⟨rfl, rfl⟩
  go_wp2_with fail
  refine (permitted_any _ w).mono ?_
  rintro e w' ⟨rfl, rfl⟩
  go_wp2_with fail
  refine (new_any w).mono ?_
  rintro e w1 ⟨rfl, hF1, hB1⟩
  have hbN : w.heap.size < w1.heap.size := hF1.lt
  have hmat : Mp (w1.alloc (.cells (tab m (fun _ => .slice none 0 0)) 35)) w1.heap.size w1.heap.size m 0 k (fun _ => 0) (cau k) := Mp.zero (Row.new w1 _ m _) (Nat.le_refl _)
  have hb0 : Below w1.heap.size w1 (w1.alloc (.cells (tab m (fun _ => .slice none 0 0)) 35)) := (Below.refl _ _).alloc (Nat.le_refl _) _
  have HF := Lib.hid hF1
  have HB1 := Lib.hid hB1
  have hNb : w.heap.size ≤ w1.heap.size := hB1.size
  clear hF1 hB1
  generalize hb : w.heap.size = b at *
  have HBB := Lib.hid hb
  clear hb
  go_wp2
  generalize w1.alloc (.cells (tab m (fun _ => .slice none 0 0)) 35) = w2 at *
  have HM := Lib.hid hmat
  have HB0 := Lib.hid hb0
  clear hmat hb0
  generalize hN : w1.heap.size = N at *
  have HN := Lib.hid hN
  clear hN
  go_loopw [23] (fun i wr => ∃ i0 : Nat, i0 ≤ m ∧ i = .int .i64 i0 ∧ ∃ D, Mp wr N N m i0 k D (cau k) ∧ Below N w1 wr) (fun i _ => m - (intOf i).toNat)
  case atStart => exact ⟨0, Nat.zero_le _, rfl, _, HM.out, HB0.out⟩
  case round =>
    clear HM HB0
    obtain ⟨i0, hi0, rfl, D, hM, hB⟩ := hrel
    rename World => WO
    have HM := Lib.hid hM
    have HBr := Lib.hid hB
    have hNlt : N < WO.heap.size := hM.ltG
    by_cases hlt : i0 < m
    · have hd0 : decide ((i0 : Int) < (m : Int)) = true := decide_eq_true (by omega)
      have hl0 : (i0 : Int) < (m : Int) := by omega
      have hbA : Below WO.heap.size WO (WO.alloc (.cells (zb k) 5)) := (Below.refl _ _).alloc (Nat.le_refl _) _
      have hr : Row (WO.alloc (.cells (zb k) 5)) WO.heap.size 5 k (fun j => B 0#8) := Row.new WO _ k _
      have hMA := hM.of_below hbA
      have hc2 : WO.cell? ⟨N, i0, none⟩ = some (hdr i0 k D i0) := hM.hds.cell i0 hlt
      have hf2 : WO.frozen? ⟨N, i0, none⟩ = false := hM.free i0
      have hcm : (WO.alloc (.cells (zb k) 5)).cell? ⟨N, i0, none⟩ = some (hdr i0 k D i0) := hMA.hds.cell i0 hlt
      have hMB := hMA.put i0 WO.heap.size (fun _ => 0#8) hr (i0 + 1) (.inr ⟨rfl, rfl⟩) (fun j hj _ => by have := hM.lt j hj; omega) (by omega) (by omega)
      have HB1 := Lib.hid (show Below N w1 ((WO.setCell ⟨N, i0, none⟩ (.slice (some ⟨WO.heap.size, 0, none⟩) k k)).alloc (.cells (zb k) 5)) from ((hB.setCell (Nat.le_refl _) _).alloc (by simp; omega) _))
      have hcomm : (WO.alloc (.cells (zb k) 5)).setCell ⟨N, i0, none⟩ (.slice (some ⟨WO.heap.size, 0, none⟩) k k) = (WO.setCell ⟨N, i0, none⟩ (.slice (some ⟨WO.heap.size, 0, none⟩) k k)).alloc (.cells (zb k) 5) := World.setCell_alloc_past _ N i0 _ hNlt
      rw [hcomm] at hMB
      have HM1 := Lib.hid hMB
      have HEN := Lib.hid hNlt
      have e1 : setD D i0 WO.heap.size i0 = WO.heap.size := if_pos rfl
      have hx1 := hMB.cellH i0 (Nat.lt_succ_self _) hlt
      rw [e1] at hx1
      clear hbA hr hMA hMB hM hB hcomm e1
      go_wp2
      clear hx1 hc2 hf2 hcm
      generalize (WO.setCell ⟨N, i0, none⟩ (.slice (some ⟨WO.heap.size, 0, none⟩) k k)).alloc (.cells (zb k) 5) = w3 at *
      generalize WO.heap.size = E at *
      go_loopw [36] (fun i wr => ∃ j : Nat, j ≤ k ∧ i = .int .i64 j ∧ Mp wr N N m (i0 + 1) k (setD D i0 E) (setr (cau k) i0 (fun x => if x < j then cau k i0 x else 0#8)) ∧ Below N w1 wr) (fun i _ => k - (intOf i).toNat)
      case atStart => exact ⟨0, Nat.zero_le _, rfl, HM1.out.congr fun x y _ _ => by unfold setr; by_cases h : x = i0 <;> simp [h], HB1.out⟩
      case round =>
        clear HM1 HB1
        obtain ⟨j, hj, rfl, hM, hB⟩ := hrel
        rename World => WP
        have HM := Lib.hid hM
        have HB := Lib.hid hB
        by_cases hjk : j < k
        · have hdj : decide ((j : Int) < (k : Int)) = true := decide_eq_true (by omega)
          have hj0 : (j : Int) < (k : Int) := by omega
          have e1 : setD D i0 E i0 = E := if_pos rfl
          have x4 := hM.cellH i0 (Nat.lt_succ_self _) hlt
          have hrow := hM.row i0 (Nat.lt_succ_self _)
          rw [e1] at x4 hrow
          have hNE : N < E := by
            have h1 := hM.lo i0 (Nat.lt_succ_self _)
            have h2 := hM.ne i0 (Nat.lt_succ_self _)
            rw [e1] at h1 h2
            omega
          have HROW := Lib.hid hrow
          have HE1 := Lib.hid e1
          have HFr := Lib.hid (HF.out.below hB hbN)
          have HNEZ := Lib.hid (cau_ne k i0 j (by omega) (by omega) (by omega))
          have b1 : Value.int .u8 ((k : Int) + (i0 : Int)) = B (BitVec.ofNat 8 (k + i0)) := (B_ofNat (k + i0) (by omega)).symm
          have b2 : Value.int .u8 (j : Int) = B (BitVec.ofNat 8 j) := (B_ofNat j (by omega)).symm
          have hcv : ∀ w, (convert 3 5 (.int .i64 ((k : Int) + (i0 : Int)))).run Try.prog w = .ok (B (BitVec.ofNat 8 (k + i0))) w := fun w => convIB (k + i0) w
          have hcw : ∀ w, (convert 3 5 (.int .i64 (j : Int))).run Try.prog w = .ok (B (BitVec.ofNat 8 j)) w := fun w => convIB j w
          have hw : IntKind.i64.wrap ((k : Int) + (i0 : Int)) = (k : Int) + (i0 : Int) := IntWalk.i64_in _ (by omega)
          have HCAU := Lib.hid (show cau k i0 j = gi (BitVec.ofNat 8 (k + i0) ^^^ BitVec.ofNat 8 j) from rfl)
          generalize BitVec.ofNat 8 (k + i0) = z1 at *
          generalize BitVec.ofNat 8 j = z2 at *
          have hElt : E < WP.heap.size := hrow.lt
          clear hM hB hrow e1
          go_wp2_with fail
          go_region_held3 (fun w' : World => w'.cell? ⟨N, i0, none⟩ = some (.slice (some ⟨E, 0, none⟩) k k)) (first | exact hs1 _ | exact x6 | exact x5 | exact x4 | go_keep) ((first | (go_at_call 37; refine (add_two _ z1 z2 _ _ (by exact Sl_two _ z1 z2 _)).mono ?_; rintro e w5 ⟨rfl, hD5⟩; have hb5 : Below WP.heap.size WP w5 := ((((Below.refl _ _).alloc (Nat.le_refl _) _).drew).trans (hD5.below _)); have x5 : w5.cell? ⟨N, i0, none⟩ = some (.slice (some ⟨E, 0, none⟩) k k) := (by rw [hb5.cell (World.block_lt_of_cell? WP _ x4)]; exact x4); have HB5 := Lib.hid hb5; clear hD5 hb5) | (go_at_call 36; refine (inverse_any b (z1 ^^^ z2) _ (HFr.out.of_below HB5.out) HNEZ.out).mono ?_; rintro e w6 ⟨rfl, hD6⟩; have x6 : w6.cell? ⟨N, i0, none⟩ = some (.slice (some ⟨E, 0, none⟩) k k) := (by rw [hD6.cell]; exact x5); have hr6 := (HROW.out.of_below HB5.out).dr hD6; have c1 : (w6.cell? ⟨E, j, none⟩).isSome = true := (by rw [hr6.cell j (by omega)]; rfl); have f1 : w6.frozen? ⟨E, j, none⟩ = false := hr6.free j; have hs1 : ∀ v, (w6.setCell ⟨E, j, none⟩ v).cell? ⟨N, i0, none⟩ = some (.slice (some ⟨E, 0, none⟩) k k) := (fun v => by rw [World.cell?_setCell_other _ _ _ _ (by intro e; injection e; omega)]; exact x6); have HR6 := Lib.hid hr6; have HD6 := Lib.hid hD6; clear hr6 hD6)))
          go_wp2
          go_roundw
          case rel =>
            have hb6 := HB5.out.trans (HD6.out.below WP.heap.size)
            have hr7 := (HR6.out.set j (B (gi (z1 ^^^ z2)))).congr (g' := fun x => B (if x < j + 1 then cau k i0 x else 0#8)) fun x hx => by
              by_cases h : x = j
              · rw [if_pos h, if_pos (by omega), h, HCAU.out]
              · rw [if_neg h, setr, if_pos rfl]
                by_cases h2 : x < j
                · rw [if_pos h2, if_pos (by omega)]
                · rw [if_neg h2, if_neg (by omega)]
            have hk7 := (((Kp.refl E WP).of_below hb6).setCell j (B (gi (z1 ^^^ z2))))
            have hm7 := HM.out.alter (D := setD D i0 E) i0 (Nat.lt_succ_self _) _ (by rw [HE1.out]; exact hk7) (by rw [HE1.out]; exact hr7)
            refine ⟨j + 1, by omega, by go_num, hm7.congr fun x y _ _ => ?_, HB.out.trans (hk7.below (Nat.le_of_lt hNE) (by omega))⟩
            unfold setr
            by_cases e : x = i0
            · rw [if_pos e, if_pos e]
            · rw [if_neg e, if_neg e, if_neg e]
          case measure => simp [intOf]; omega
        · have hdj : decide ((j : Int) < (k : Int)) = false := decide_eq_false (by omega)
          obtain rfl : j = k := by omega
          clear hM hB
          go_wp2
          go_roundw
          case rel =>
            refine ⟨i0 + 1, by omega, by go_num, _, HM.out.congr fun x y _ hy => ?_, HB.out⟩
            unfold setr
            by_cases e : x = i0
            · rw [if_pos e, e]
              exact if_pos hy
            · rw [if_neg e]
          case measure => simp [intOf]; omega
    · have hd0 : decide ((i0 : Int) < (m : Int)) = false := decide_eq_false (by omega)
      obtain rfl : i0 = m := by omega
      clear hM hB
      go_wp2
      go_ret2
      exact ⟨_, D, rfl, ⟨HM.out.hds, HM.out.row, HM.out.inj, HM.out.ne, fun i hi => Nat.le_trans hNb (HM.out.lo i hi), Nat.le_trans hNb HM.out.loG⟩, HB1.out.trans (HBr.out.mono hNb)⟩
end Go.Proofs.Ytfilicbbkaifcaa
