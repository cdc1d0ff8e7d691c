/- A new field: its tables; rows scaled. -/
import Derived.Test.YtfilicbbkaifcaaField
import Derived.Test.YtfilicbbkaifcaaStores
set_option linter.unusedSimpArgs false
set_option linter.unusedVariables false
namespace Go.Proofs.Ytfilicbbkaifcaa
open Go Go.RowKit

def z511 : Array Value := (List.replicate 255 (Value.int .u8 0) ++ List.replicate 256 (Value.int .i64 0)).toArray
theorem z511_eq : z511 = tab 511 (fldN 0) := by
  have h : ∀ i, i < 511 → (fldN 0 i) = (if i < 255 then Value.int .u8 0 else Value.int .i64 0) := by
    intro i hi
    unfold fldN
    by_cases h1 : i < 255
    · rw [if_pos h1, if_pos h1, if_neg (by omega), B_0]
    · rw [if_neg h1, if_neg h1, if_neg (by omega)]; rfl
  rw [tab_congr h]
  have e : z511 = tab 511 (fun i => if i < 255 then Value.int .u8 0 else Value.int .i64 0) := by kernel_rfl
  exact e
theorem bdF (w : World) : (bdT 51 #[]).run Try.prog w = .ok (.value (.agg z511)) w := by kernel_rfl
theorem bxF (w : World) : (bxT 51 (.agg z511)).run Try.prog w = .ok (.value (.pointer (some ⟨w.heap.size, 0, none⟩))) (w.alloc (.cells z511 51)) := by kernel_rfl
theorem fldN_step (k : Nat) (hk : k < 255) (j : Nat) (hj : j < 511) : (if j = 255 + (pw k).toNat then Value.int .i64 (k : Int) else if j = k then B (pw k) else fldN k j) = fldN (k + 1) j := by
  have hX := (pw k).isLt
  have hlg : lgs.getD (pw k).toNat 0 = k := by
    have := lg_pw' k hk
    exact this
  unfold fldN
  by_cases h1 : j < 255
  · rw [if_neg (by omega), if_pos h1, if_pos h1]
    by_cases h2 : j = k
    · subst h2
      rw [if_pos rfl, if_pos (by omega)]
    · rw [if_neg h2]
      by_cases h3 : j < k
      · rw [if_pos h3, if_pos (by omega)]
      · rw [if_neg h3, if_neg (by omega)]
  · rw [if_neg h1, if_neg h1]
    by_cases h2 : j = 255 + (pw k).toNat
    · rw [if_pos h2, h2, Nat.add_sub_cancel_left, hlg, if_pos (by omega)]
    · rw [if_neg h2, if_neg (show ¬ j = k by omega)]
      by_cases h3 : lgs.getD (j - 255) 0 = k
      · by_cases h4 : j - 255 = 0
        · rw [h4]
          have : lgs.getD 0 0 = 0 := rfl
          rw [this]
          simp only [ite_self]
        · exfalso
          have e := pw_lg' (j - 255) (by omega) h4
          rw [h3] at e
          apply h2
          rw [e, BitVec.toNat_ofNat]
          omega
      · by_cases h5 : lgs.getD (j - 255) 0 < k
        · rw [if_pos h5, if_pos (by omega)]
        · rw [if_neg h5, if_neg (by omega)]
attribute [local go_sem ↓] exec_build exec_box exec_store exec_make
attribute [local go_sem] bdF bxF st_B st_I st_b mkB
set_option maxRecDepth 100000 in
set_option maxHeartbeats 2000000 in
theorem new_any (w : World) : Calls Try.prog 11 #[] w fun e w' => e = .returned (.pointer (some ⟨w.heap.size, 0, none⟩)) ∧ Fld w' w.heap.size ∧ Below w.heap.size w w' := by
  have hr : Row (w.alloc (.cells z511 51)) w.heap.size 51 511 (fldN 0) := by
    rw [z511_eq]; exact Row.new w _ 511 _
  have hb : Below w.heap.size w (w.alloc (.cells z511 51)) := (Below.refl _ _).alloc (Nat.le_refl _) _
  go_enter Try.func11, Try.ntmps11
  go_wp2
  generalize w.alloc (.cells z511 51) = w1 at *
  have HR := Lib.hid hr
  have HB := Lib.hid hb
  clear hr hb
  generalize hN : w.heap.size = N at *
  have HN := Lib.hid hN
  clear hN
  go_loopw [2, 6] (fun x i wr => ∃ k : Nat, k ≤ 255 ∧ i = .int .i64 k ∧ x = .int .i64 ((pw k).toNat : Int) ∧ Row wr N 51 511 (fldN k) ∧ Below N w wr) (fun _ i _ => 255 - (intOf i).toNat)
  case atStart => exact ⟨0, Nat.zero_le _, rfl, rfl, HR.out, HB.out⟩
  case round =>
    clear HR HB
    obtain ⟨k, hk, rfl, rfl, hR, hB⟩ := hrel
    have HB := Lib.hid hB
    by_cases hlt : k < 255
    · have hX := (pw k).isLt
      have c1 : (wr.cell? ⟨N, k, none⟩).isSome = true := by rw [hR.cell k (by omega)]; rfl
      have c2 : ∀ v, ((wr.setCell ⟨N, k, none⟩ v).cell? ⟨N, 255 + (pw k).toNat, none⟩).isSome = true := fun v => by
        rw [(hR.set k v).cell _ (by omega)]; rfl
      have c3 : (wr.cell? ⟨N, 255 + (pw k).toNat, none⟩).isSome = true := by rw [hR.cell _ (by omega)]; rfl
      have f1 : ∀ i, wr.frozen? ⟨N, i, none⟩ = false := hR.free
      have f2 : ∀ v i, (wr.setCell ⟨N, k, none⟩ v).frozen? ⟨N, i, none⟩ = false := fun v => (hR.set k v).free
      have HR2 := ((hR.set k (B (pw k))).set (255 + (pw k).toNat) (.int .i64 (k : Int))).congr (fldN_step k hlt)
      rw [B_eq'] at HR2
      replace HR2 := Lib.hid HR2
      have HPN := Lib.hid (pw_next k)
      have hd0 : decide ((k : Int) < 255) = true := decide_eq_true (by omega)
      have HE := Lib.hid (show BitVec.ofNat 8 (pw k).toNat = pw k by rw [BitVec.ofNat_toNat, BitVec.setWidth_eq])
      generalize hXX : (pw k).toNat = X at *
      have HXX := Lib.hid hXX
      have hY := (pw (k + 1)).isLt
      generalize hYY : (pw (k + 1)).toNat = Y at *
      have HYY := Lib.hid hYY
      clear hXX hYY hR hB
      by_cases hb : 255 < 2 * X
      · have hd1 : decide ((255 : Int) < (X : Int) * 2) = true := decide_eq_true (by omega)
        have hx : bits .xor .i64 ((X : Int) * 2) 285 = (Y : Int) := by
          have := HPN.out
          rw [if_pos hb] at this
          rw [show ((X : Int) * 2) = ((2 * X : Nat) : Int) by simp; omega, show (285 : Int) = ((285 : Nat) : Int) from rfl, i64_xor_nat _ _ (by omega) (by decide), this]
        clear hb hY
        go_wp2
        go_roundw
        case rel => exact ⟨k + 1, by omega, by go_num, by rw [HYY.out], HR2.out, (HB.out.setCell (Nat.le_refl _) _).setCell (Nat.le_refl _) _⟩
        case measure => simp [intOf]; omega
      · have hd1 : decide ((255 : Int) < (X : Int) * 2) = false := decide_eq_false (by omega)
        have he : Hid ((X : Int) * 2 = (Y : Int)) := by
          have := HPN.out
          rw [if_neg hb] at this
          show (X : Int) * 2 = (Y : Int)
          omega
        clear hb hY
        go_wp2
        go_roundw
        case rel => exact ⟨k + 1, by omega, by go_num, by rw [HYY.out, he.out], HR2.out, (HB.out.setCell (Nat.le_refl _) _).setCell (Nat.le_refl _) _⟩
        case measure => simp [intOf]; omega
    · obtain rfl : k = 255 := by omega
      have hd0 : decide (((255 : Nat) : Int) < 255) = false := rfl
      have HR := Lib.hid hR
      clear hR hB
      go_wp2
      go_ret
      exact ⟨by rw [HN.out]; rfl, by rw [HN.out]; exact HR.out, by rw [HN.out]; exact HB.out⟩
end Go.Proofs.Ytfilicbbkaifcaa
