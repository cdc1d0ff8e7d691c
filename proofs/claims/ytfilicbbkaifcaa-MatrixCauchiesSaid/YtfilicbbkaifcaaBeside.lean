/- The program's besideUnit: a matrix beside the unit. -/
import Derived.Test.YtfilicbbkaifcaaMulA
import Derived.Test.YtfilicbbkaifcaaCopyB
set_option linter.unusedSimpArgs false
set_option linter.unusedVariables false
namespace Go.Proofs.Ytfilicbbkaifcaa
open Go Go.RowKit

/-- A matrix of n columns beside the unit. -/
def wide (n : Nat) (a : Mx) : Mx := fun i j => if j < n then a i j else id1 i (j - n)
attribute [local go_sem ↓] exec_store exec_make exec_bs
attribute [local go_sem] st_B st_I st_b st_H mkB mkR
set_option maxRecDepth 100000 in
set_option maxHeartbeats 8000000 in
theorem beside_any (la : List (List (BitVec 8))) (p : Option Addr) (n cap M : Nat) (w : World) (ha : Prt w p la) (hla : la.length = n) (hra : ∀ i, i < n → (la.getD i []).length = n) (hn : n ≤ 64) (hM2 : M = 2 * n) :
    Calls Try.prog 32 #[.slice p n cap] w (RetMp w.heap.size w n M (wide n (mx la))) := by
  have HA := Lib.hid ha
  have HLA := Lib.hid hla
  have HRA := Lib.hid hra
  have hn8 : n < 100000000 := by omega
  have hMi : (2 : Int) * (n : Int) = (M : Int) := by omega
  have hM4 : M < 4294967296 := by omega
  have HMM := Lib.hid hM2
  have hmat : Mp (w.alloc (.cells (tab n (fun _ => .slice none 0 0)) 35)) w.heap.size w.heap.size n 0 M (fun _ => 0) (wide n (mx la)) := Mp.zero (Row.new w _ n _) (Nat.le_refl _)
  have hb0 : Below w.heap.size w (w.alloc (.cells (tab n (fun _ => .slice none 0 0)) 35)) := (Below.refl _ _).alloc (Nat.le_refl _) _
  clear ha hla hra hM2
  go_enter Try.func32, Try.ntmps32
  go_wp2
  generalize w.alloc (.cells (tab n (fun _ => .slice none 0 0)) 35) = w1 at *
  have HM := Lib.hid hmat
  have HB0 := Lib.hid hb0
  clear hmat hb0
  generalize hN : w.heap.size = N at *
  have HN := Lib.hid hN
  clear hN
  go_loopw [11] (fun i wr => ∃ i0 : Nat, i0 ≤ n ∧ i = .int .i64 i0 ∧ ∃ D, Mp wr N N n i0 M D (wide n (mx la)) ∧ Below N w wr) (fun i _ => n - (intOf i).toNat)
  case atStart => exact ⟨0, Nat.zero_le _, rfl, _, HM.out, HB0.out⟩
  case round =>
    clear HM HB0
    obtain ⟨i0, hi0, rfl, D, hM, hB⟩ := hrel
    rename World => WO
    have HM := Lib.hid hM
    have HBr := Lib.hid hB
    have hNlt : N < WO.heap.size := hM.ltG
    by_cases hlt : i0 < n
    · have hd0 : decide ((i0 : Int) < (n : Int)) = true := decide_eq_true (by omega)
      have hl0 : (i0 : Int) < (n : Int) := by omega
      obtain ⟨ca, oa, qa, ca0, rfl, hca0, hca1, hsa, hqa, -⟩ := HA.out.at_ i0 (by rw [HLA.out]; exact hlt)
      have hrl := HRA.out i0 hlt
      rw [hrl] at hca1
      have hxa : WO.cell? ⟨ca, oa + i0, none⟩ = some (.slice qa n ca0) := by
        rw [hB.cell (by rw [← HN.out]; exact hca0)]; exact hca1
      have hbA : Below WO.heap.size WO (WO.alloc (.cells (zb M) 5)) := (Below.refl _ _).alloc (Nat.le_refl _) _
      have hr : Row (WO.alloc (.cells (zb M) 5)) WO.heap.size 5 M (fun j => B 0#8) := Row.new WO _ M _
      have hMA := hM.of_below hbA
      have hc2 : WO.cell? ⟨N, i0, none⟩ = some (hdr i0 M D i0) := hM.hds.cell i0 hlt
      have hf2 : WO.frozen? ⟨N, i0, none⟩ = false := hM.free i0
      have hMB := hMA.put i0 WO.heap.size (fun _ => 0#8) hr (i0 + 1) (.inr ⟨rfl, rfl⟩) (fun j hj _ => by have := hM.lt j hj; omega) (by omega) (by omega)
      have HB1 := Lib.hid (show Below N w ((WO.setCell ⟨N, i0, none⟩ (.slice (some ⟨WO.heap.size, 0, none⟩) M M)).alloc (.cells (zb M) 5)) from ((hB.setCell (Nat.le_refl _) _).alloc (by simp; omega) _))
      have hcomm : (WO.alloc (.cells (zb M) 5)).setCell ⟨N, i0, none⟩ (.slice (some ⟨WO.heap.size, 0, none⟩) M M) = (WO.setCell ⟨N, i0, none⟩ (.slice (some ⟨WO.heap.size, 0, none⟩) M M)).alloc (.cells (zb M) 5) := World.setCell_alloc_past _ N i0 _ hNlt
      rw [hcomm] at hMB
      have HM1 := Lib.hid hMB
      have HSA := Lib.hid (show Sl ((WO.setCell ⟨N, i0, none⟩ (.slice (some ⟨WO.heap.size, 0, none⟩) M M)).alloc (.cells (zb M) 5)) qa (la.getD i0 []) from hsa.of_below (by rw [HN.out]; exact HB1.out))
      have HRL := Lib.hid hrl
      have hcm : (WO.alloc (.cells (zb M) 5)).cell? ⟨N, i0, none⟩ = some (hdr i0 M D i0) := hMA.hds.cell i0 hlt
      have hrowE := hMB.row i0 (Nat.lt_succ_self _)
      rw [show setD D i0 WO.heap.size i0 = WO.heap.size from if_pos rfl] at hrowE
      have HRE := Lib.hid hrowE
      have HEN := Lib.hid (show N < WO.heap.size from hNlt)
      clear hca1 hsa hbA hr hMA hMB hM hB hcomm hrl hqa hcm hrowE
      go_wp2_with (first | (refine wpl_copy _ rfl (.tmp 26) (.tmp 27) rfl WO.heap.size M M (fun x => B (setr (wide n (mx la)) i0 (fun _ => 0#8) i0 x)) qa n ca0 (la.getD i0 []) rfl rfl HRE.out HRL.out (by omega) HSA.out ?_; rintro w5 hR5 hK5; have HR5 := Lib.hid hR5; have HK5 := Lib.hid hK5; have g1 : w5.cell? ⟨N, i0, none⟩ = some (.slice (some ⟨WO.heap.size, 0, none⟩) M M) := (by rw [hK5.cell (by exact HM1.out.ltG) (by show N ≠ WO.heap.size; have := HEN.out; omega), HM1.out.cellH i0 (Nat.lt_succ_self _) hlt]; show some (Value.slice (some ⟨setD D i0 WO.heap.size i0, 0, none⟩) M M) = _; rw [show setD D i0 WO.heap.size i0 = WO.heap.size from if_pos rfl]); have g2 : (w5.cell? ⟨WO.heap.size, n + i0, none⟩).isSome = true := (by rw [hR5.cell (n + i0) (by have := HMM.out; omega)]; rfl); have g3 : ∀ i, w5.frozen? ⟨WO.heap.size, i, none⟩ = false := hR5.free; have g4 : (n : Int) + (i0 : Int) < (M : Int) := (by have := HMM.out; omega); clear hR5 hK5))
      clear g1 g2 g3 g4
      go_roundw
      case rel =>
        have e1 : setD D i0 WO.heap.size i0 = WO.heap.size := if_pos rfl
        have hk := HK5.out.setCell (n + i0) (.int .u8 1)
        have hr := (HR5.out.set (n + i0) (.int .u8 1)).congr (g' := fun j => B (if j = n + i0 then 1#8 else if j < n then (la.getD i0 []).getD j 0#8 else 0#8)) fun j _ => by
          by_cases h1 : j = n + i0
          · rw [if_pos h1, if_pos h1, B_1]
          · rw [if_neg h1, if_neg h1]
            by_cases h2 : j < n
            · rw [if_pos h2, if_pos h2]
            · rw [if_neg h2, if_neg h2, setr, if_pos rfl]
        have hm := HM1.out.alter (D := setD D i0 WO.heap.size) i0 (Nat.lt_succ_self _) _ (by rw [e1]; exact hk) (by rw [e1]; exact hr)
        refine ⟨i0 + 1, by omega, by go_num, _, hm.congr fun x y hx hy => ?_, HB1.out.trans (hk.below (Nat.le_of_lt HEN.out) (Nat.le_of_lt HM1.out.ltG))⟩
        by_cases h1 : x = i0
        · rw [setr, if_pos h1, wide, h1, id1]
          by_cases h2 : y = n + i0
          · rw [if_pos h2, if_neg (by omega), if_pos (by omega)]
          · rw [if_neg h2]
            by_cases h3 : y < n
            · rw [if_pos h3, if_pos h3]; rfl
            · rw [if_neg h3, if_neg h3, if_neg (by omega)]
        · rw [setr, if_neg h1, setr, if_neg h1]
      case measure => simp [intOf]; omega
    · have hd0 : decide ((i0 : Int) < (n : Int)) = false := decide_eq_false (by omega)
      obtain rfl : i0 = n := by omega
      clear hM hB
      go_wp2
      go_ret
      exact ⟨_, D, rfl, HM.out, HBr.out⟩
end Go.Proofs.Ytfilicbbkaifcaa
