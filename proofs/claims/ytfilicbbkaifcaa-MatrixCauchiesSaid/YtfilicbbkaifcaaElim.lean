/- The program's eliminate: one column of a matrix. -/
import Derived.Test.YtfilicbbkaifcaaMulA
import Derived.Deep.RegionLaw
set_option linter.unusedSimpArgs false
set_option linter.unusedVariables false
namespace Go.Proofs.Ytfilicbbkaifcaa
open Go Go.RowKit

/-- Row c scaled so that its number in column c is 1. -/
def pivM (c : Nat) (a : Mx) : Mx := rscale c (gi (a c c)) a
/-- The first k rows, but for row c, made 0 in column c. -/
def clrM (k c : Nat) (a : Mx) : Mx := fun i j => if i < k ∧ i ≠ c then a i j ^^^ gm (a i c) (a c j) else a i j
attribute [local go_sem ↓] exec_store exec_make exec_bs
attribute [local go_sem] st_B st_I st_b st_H mkB mkR
set_option maxRecDepth 100000 in
set_option maxHeartbeats 8000000 in
theorem elim_any (b G n m c N : Nat) (D : Nat → Nat) (a : Mx) (w : World) (hF : Fld w b) (hbN : b < N) (hM : Mp w N G n n m D a) (hc : c < n) (hcm : c < m) (hn : n ≤ 64) (hm : m < 100000) (ha : a c c ≠ 0#8) :
    Calls Try.prog 35 #[.pointer (some ⟨b, 0, none⟩), .slice (some ⟨G, 0, none⟩) n n, .int .i64 (c : Int)] w (fun e w' => e = .returned (.tuple #[]) ∧ ∃ D', Mp w' N G n n m D' (clrM n c (pivM c a)) ∧ Below N w w') := by
  have HF := Lib.hid hF
  have HM := Lib.hid hM
  have HA := Lib.hid ha
  have hcn : (c : Int) < (n : Int) := by omega
  have hcm' : (c : Int) < (m : Int) := by omega
  have x1 := hM.cellH c hc hc
  have x2 := hM.cell c c hc hcm
  have hN : N ≤ w.heap.size := Nat.le_trans hM.loG (Nat.le_of_lt hM.ltG)
  generalize hacc : a c c = y at *
  have HACC := Lib.hid hacc
  clear hF hM ha hacc
  go_enter Try.func35, Try.ntmps35
  go_wp2
  go_region_law (first | (go_simp; go_at_call 36; refine (inverse_any b y _ (HF.out.dr ((Dr.refl _).drew)) HA.out).mono ?_; rintro e w2 ⟨rfl, hD2⟩; have x3 : w2.cell? ⟨G, c, none⟩ = some (.slice (some ⟨D c, 0, none⟩) m m) := (by rw [hD2.cell]; exact x1); have HD2 := Lib.hid (((Dr.refl w).drew).trans hD2); clear hD2) | (go_simp; go_at_call 42; refine (scale_any b (gi y) (rowL m a c) _ m m _ (HF.out.dr HD2.out) ((HM.out.dr HD2.out).sl c hc) (rowL_length _ _ _) (by omega)).mono ?_; rintro e w3 ⟨rfl, hR3, hB3⟩; have hM3 := (HM.out.dr HD2.out).of_below hB3; have g1 : w3.cell? ⟨G, c, none⟩ = some (.slice (some ⟨D c, 0, none⟩) m m) := hM3.cellH c hc hc; have g2 : w3.frozen? ⟨G, c, none⟩ = false := hM3.free c; have HM3 := Lib.hid hM3; have HR3 := Lib.hid hR3; have HB3 := Lib.hid hB3; clear hM3 hR3 hB3))
  all_goals
    have hE : ∀ j, j < n → j ≠ c → D j ≠ w2.heap.size := fun j hj _ => by
      have h1 := HM.out.lt j hj
      rw [← HD2.out.heap] at h1
      exact Nat.ne_of_lt h1
    have hGE : w2.heap.size ≠ G := by
      have h1 := HM.out.ltG
      rw [← HD2.out.heap] at h1
      exact Ne.symm (Nat.ne_of_lt h1)
    have hNE : N ≤ w2.heap.size := by rw [HD2.out.heap]; exact hN
    have hput := HM3.out.put c w2.heap.size _ HR3.out n (.inl ⟨rfl, hc⟩) hE hGE hNE
    have HB4 := Lib.hid (((HD2.out.below N).trans (HB3.out.mono hNE)).setCell (show N ≤ (⟨G, c, none⟩ : Addr).block from HM.out.loG) (.slice (some ⟨w2.heap.size, 0, none⟩) m m))
    have HM4 := Lib.hid (hput.congr (b := clrM 0 c (pivM c a)) fun i j hi hj => by
      unfold clrM pivM rscale setr
      rw [if_neg (show ¬ (i < 0 ∧ i ≠ c) by omega)]
      by_cases h : i = c
      · rw [if_pos h, if_pos h]
        show gm (gi y) ((rowL m a c).getD j 0#8) = _
        rw [rowL_get _ _ _ _ hj, HACC.out, h]
      · rw [if_neg h, if_neg h])
    have HCC := Lib.hid (show setD D c w2.heap.size c = w2.heap.size from if_pos rfl)
    generalize setD D c w2.heap.size = D1 at *
    clear hput hE hGE hNE g1 g2 HM3 HR3 HB3 x1 x2 x3 HM HACC HCC
    generalize w3.setCell ⟨G, c, none⟩ (.slice (some ⟨w2.heap.size, 0, none⟩) m m) = w4 at *
    generalize hAA : pivM c a = A at *
    have HAA := Lib.hid hAA
    clear HD2 hAA
    go_wp2
    go_loopw [28] (fun i wr => ∃ k : Nat, k ≤ n ∧ i = .int .i64 k ∧ Mp wr N G n n m D1 (clrM k c A) ∧ Below N w wr) (fun i _ => n - (intOf i).toNat)
    case atStart => exact ⟨0, Nat.zero_le _, rfl, HM4.out, HB4.out⟩
    case round =>
      clear HM4 HB4
      obtain ⟨k, hk, rfl, hM, hB⟩ := hrel
      rename World => WP
      have HM4 := Lib.hid hM
      have HB4 := Lib.hid hB
      by_cases hlt : k < n
      · have hd0 : decide ((k : Int) < (n : Int)) = true := decide_eq_true (by omega)
        have hl0 : (k : Int) < (n : Int) := by omega
        have x5 := hM.cellH k hlt hlt
        by_cases hkc : k = c
        · have HKC := Lib.hid hkc
          have hd1 : ((k : Int) != (c : Int)) = false := by simp; omega
          have hd2 : ((k : Int) == (c : Int)) = true := by simp; omega
          clear hM hB hkc
          go_wp2
          go_roundw
          case rel =>
            refine ⟨k + 1, by omega, by go_num, HM4.out.congr fun i j _ _ => ?_, HB4.out⟩
            unfold clrM
            by_cases h : i < k ∧ i ≠ c
            · rw [if_pos h, if_pos (by omega)]
            · rw [if_neg h, if_neg (by have := HKC.out; omega)]
          case measure => simp [intOf]; omega
        · have hd1 : ((k : Int) != (c : Int)) = true := by simp; omega
          have hd2 : ((k : Int) == (c : Int)) = false := by simp; omega
          have hd3 : decide (k = c) = false := by simp; omega
          have x6 := hM.cell k c hlt hcm
          have x7 := hM.cellH c hc hc
          have HFr := Lib.hid (HF.out.below hB hbN)
          have HRK := Lib.hid (hM.row k hlt)
          have HSC := Lib.hid (hM.sl c hc)
          have hbk : b ≠ D1 k := by have := hM.lo k hlt; omega
          have HKC := Lib.hid hkc
          have HCL := Lib.hid (show ∀ i j, j < m → setr (clrM k c A) k (fun j => clrM k c A k j ^^^ gm (clrM k c A k c) ((rowL m (clrM k c A) c).getD j 0#8)) i j = clrM (k + 1) c A i j from fun i j hj => by
            unfold setr
            by_cases h : i = k
            · subst h
              rw [if_pos rfl]
              show clrM i c A i j ^^^ gm (clrM i c A i c) ((rowL m (clrM i c A) c).getD j 0#8) = _
              rw [rowL_get _ _ _ _ hj]
              unfold clrM
              rw [if_pos (show i < i + 1 ∧ i ≠ c from ⟨by omega, hkc⟩), if_neg (show ¬ (i < i ∧ i ≠ c) by omega), if_neg (show ¬ (i < i ∧ i ≠ c) by omega), if_neg (show ¬ (c < i ∧ c ≠ c) by omega)]
            · rw [if_neg h]
              unfold clrM
              by_cases h2 : i < k ∧ i ≠ c
              · rw [if_pos h2, if_pos (by omega)]
              · rw [if_neg h2, if_neg (by omega)])
          generalize hz : clrM k c A k c = z at *
          have HZ := Lib.hid hz
          clear hM hB hz hkc
          go_wp2
          refine wp_region_still_tail 10 (by kernel_rfl) (by kernel_rfl) ?_
          simp only [List.take_succ_cons, List.take_zero, List.drop_succ_cons, List.drop_zero, World.drew_eq]
          repeat (refine wpStill_step (fun K hK => ?_); go_simp; refine hK _ ?_; clear hK K)
          refine wpStill_nil ?_
          have hdr1 : Dr WP WP.drew := (Dr.refl _).drew
          go_wp2_with fail
          refine (madd_any b (D1 k) m m m z (fun j => clrM k c A k j) _ (rowL m (clrM k c A) c) WP.drew (HFr.out.dr hdr1) hbk (HRK.out.dr hdr1) (HSC.out.dr hdr1) (rowL_length _ _ _) (by omega)).mono ?_
          rintro e w5 ⟨rfl, hR5, hK5⟩
          have HM5 := Lib.hid ((HM4.out.dr hdr1).alter k hlt _ hK5 hR5)
          have HB5 := Lib.hid ((HB4.out.trans (hdr1.below N)).trans (hK5.below (HM4.out.lo k hlt) (by have := HM4.out.loG; have := HM4.out.ltG; show N ≤ WP.heap.size; omega)))
          clear hR5 hK5 hdr1
          go_wp2
          go_roundw
          case rel => exact ⟨k + 1, by omega, by go_num, HM5.out.congr fun i j _ hj => HCL.out i j hj, HB5.out⟩
          case measure => simp [intOf]; omega
      · have hd0 : decide ((k : Int) < (n : Int)) = false := decide_eq_false (by omega)
        obtain rfl : k = n := by omega
        clear hM hB
        go_wp2
        go_end0
        exact ⟨rfl, D1, by rw [HAA.out]; exact HM4.out, HB4.out⟩
end Go.Proofs.Ytfilicbbkaifcaa
