/- The program's product of a matrix and rows. -/
import Derived.Test.YtfilicbbkaifcaaTwo
import Derived.Test.YtfilicbbkaifcaaMp
import Derived.Test.YtfilicbbkaifcaaLaw3
import Derived.StillTailTactics
set_option linter.unusedSimpArgs false
set_option linter.unusedVariables false
namespace Go.Proofs.Ytfilicbbkaifcaa
open Go Go.RowKit

/-- A matrix of the call's own is returned; nothing that was there has changed. -/
def RetMp (N : Nat) (w : World) (n m : Nat) (a : Mx) (e : Ending) (w' : World) : Prop :=
  ∃ G D, e = .returned (.slice (some ⟨G, 0, none⟩) n n) ∧ Mp w' N G n n m D a ∧ Below N w w'
attribute [local go_sem ↓] exec_store exec_make exec_bs
attribute [local go_sem] st_B st_I st_b st_H mkB mkR
set_option maxRecDepth 100000 in
set_option maxHeartbeats 8000000 in
theorem product_any (b : Nat) (la lb : List (List (BitVec 8))) (p q : Option Addr) (n k m cap cap' : Nat) (w : World) (hF : Fld w b) (ha : Prt w p la) (hb : Prt w q lb) (hla : la.length = n) (hlb : lb.length = k)
    (hra : ∀ i, i < n → (la.getD i []).length = k) (hrb : ∀ i, i < k → (lb.getD i []).length = m) (hn : n < 1000000) (hk0 : 0 < k) (hk : k < 1000000) (hm : m < 4294967296) :
    Calls Try.prog 25 #[.pointer (some ⟨b, 0, none⟩), .slice p n cap, .slice q k cap'] w (RetMp w.heap.size w n m (mm k (mx la) (mx lb))) := by
  have HF := Lib.hid hF
  have HA := Lib.hid ha
  have HB := Lib.hid hb
  have HLA := Lib.hid hla
  have HLB := Lib.hid hlb
  have HRA := Lib.hid hra
  have HRB := Lib.hid hrb
  obtain ⟨cb, ob, q0, cb0, rfl, hcb0, hcb1, -, -⟩ := hb.at_ 0 (by omega)
  rw [Nat.add_zero, hrb 0 hk0] at hcb1
  have HCB := Lib.hid hcb1
  have hbN : b < w.heap.size := hF.lt
  have hn8 : n < 100000000 := by omega
  have hmat : Mp (w.alloc (.cells (tab n (fun _ => .slice none 0 0)) 35)) w.heap.size w.heap.size n 0 m (fun _ => 0) (mm k (mx la) (mx lb)) := Mp.zero (Row.new w _ n _) (Nat.le_refl _)
  have hb0 : Below w.heap.size w (w.alloc (.cells (tab n (fun _ => .slice none 0 0)) 35)) := (Below.refl _ _).alloc (Nat.le_refl _) _
  clear hF ha hb hla hlb hra hrb hcb1
  go_enter Try.func25, Try.ntmps25
  go_wp2
  generalize w.alloc (.cells (tab n (fun _ => .slice none 0 0)) 35) = w1 at *
  have HM := Lib.hid hmat
  have HB0 := Lib.hid hb0
  clear hmat hb0
  generalize hN : w.heap.size = N at *
  have HN := Lib.hid hN
  clear hN
  go_loopw [17] (fun i wr => ∃ i0 : Nat, i0 ≤ n ∧ i = .int .i64 i0 ∧ ∃ D, Mp wr N N n i0 m D (mm k (mx la) (mx lb)) ∧ Below N w wr) (fun i _ => n - (intOf i).toNat)
  case atStart => exact ⟨0, Nat.zero_le _, rfl, _, HM.out, HB0.out⟩
  case round =>
    clear HM HB0
    obtain ⟨i0, hi0, rfl, D, hM, hB⟩ := hrel
    rename World => WO
    have HM := Lib.hid hM
    have HBr := Lib.hid hB
    have hNlt : N < WO.heap.size := hM.ltG
    by_cases hlt : i0 < n
    · have hd0 : decide ((i0 : Int) < (n : Int)) = true := decide_eq_true (by omega)
      have hl0 : (i0 : Int) < (n : Int) := by omega
      have hk0' : (0 : Int) < (k : Int) := by omega
      have hxb : WO.cell? ⟨cb, ob, none⟩ = some (.slice q0 m cb0) := by
        rw [hB.cell (by exact hcb0)]; exact HCB.out
      obtain ⟨ca, oa, qa, ca0, rfl, hca0, hca1, hsa, -⟩ := HA.out.at_ i0 (by rw [HLA.out]; exact hlt)
      rw [HRA.out i0 hlt] at hca1
      have hxa : WO.cell? ⟨ca, oa + i0, none⟩ = some (.slice qa k ca0) := by
        rw [hB.cell (by rw [← HN.out]; exact hca0)]; exact hca1
      have HSA := Lib.hid hsa
      have hbA : Below WO.heap.size WO (WO.alloc (.cells (zb m) 5)) := (Below.refl _ _).alloc (Nat.le_refl _) _
      have hr : Row (WO.alloc (.cells (zb m) 5)) WO.heap.size 5 m (fun j => B 0#8) := Row.new WO _ m _
      have hMA := hM.of_below hbA
      have hc1 : ((WO.alloc (.cells (zb m) 5)).cell? ⟨N, i0, none⟩).isSome = true := by rw [hMA.hds.cell i0 hlt]; rfl
      have hf1 : (WO.alloc (.cells (zb m) 5)).frozen? ⟨N, i0, none⟩ = false := hMA.free i0
      have hc2 : WO.cell? ⟨N, i0, none⟩ = some (hdr i0 m D i0) := hM.hds.cell i0 hlt
      have hf2 : WO.frozen? ⟨N, i0, none⟩ = false := hM.free i0
      have hMB := hMA.put i0 WO.heap.size (fun _ => 0#8) hr (i0 + 1) (.inr ⟨rfl, rfl⟩) (fun j hj _ => by have := hM.lt j hj; omega) (by omega) (by omega)
      have HB1 := Lib.hid (show Below N w ((WO.setCell ⟨N, i0, none⟩ (.slice (some ⟨WO.heap.size, 0, none⟩) m m)).alloc (.cells (zb m) 5)) from ((hB.setCell (Nat.le_refl _) _).alloc (by simp; omega) _))
      have hcomm : (WO.alloc (.cells (zb m) 5)).setCell ⟨N, i0, none⟩ (.slice (some ⟨WO.heap.size, 0, none⟩) m m) = (WO.setCell ⟨N, i0, none⟩ (.slice (some ⟨WO.heap.size, 0, none⟩) m m)).alloc (.cells (zb m) 5) := World.setCell_alloc_past _ N i0 _ hNlt
      rw [hcomm] at hMB
      have HM1 := Lib.hid hMB
      clear hca1 hsa hbA hr hMA hMB hM hB hcomm
      go_wp2
      generalize (WO.setCell ⟨N, i0, none⟩ (.slice (some ⟨WO.heap.size, 0, none⟩) m m)).alloc (.cells (zb m) 5) = w1 at *
      clear hc1 hf1 hc2 hf2 hxb hxa
      generalize WO.heap.size = E at *
      go_loopw [32] (fun i wr => ∃ j : Nat, j ≤ k ∧ i = .int .i64 j ∧ Mp wr N N n (i0 + 1) m (setD D i0 E) (setr (mm k (mx la) (mx lb)) i0 (fun c => xs j (fun l => gm (mx la i0 l) (mx lb l c)))) ∧ Below N w wr) (fun i _ => k - (intOf i).toNat)
      case atStart => exact ⟨0, Nat.zero_le _, rfl, HM1.out.congr fun x y _ _ => rfl, HB1.out⟩
      case round =>
        clear HM1 HB1
        obtain ⟨j, hj, rfl, hM, hB⟩ := hrel
        rename World => WP
        have HM := Lib.hid hM
        have HB1 := Lib.hid hB
        by_cases hjk : j < k
        · have hdj : decide ((j : Int) < (k : Int)) = true := decide_eq_true (by omega)
          have hj0 : (j : Int) < (k : Int) := by omega
          obtain ⟨cb', ob', qb, cbj, eb, hcbl, hcbj, hsb, -⟩ := HB.out.at_ j (by rw [HLB.out]; exact hjk)
          injection eb with eb
          injection eb with eb1 eb2
          subst eb1 eb2
          have hrj := HRB.out j hjk
          rw [hrj] at hcbj
          obtain ⟨da, pa, rfl, hya⟩ := HSA.out j (by rw [HRA.out i0 hlt]; exact hjk)
          have kp : ∀ a : Addr, ∀ v, w.cell? a = some v → WP.cell? a = some v := fun a v h => by
            rw [hB.cell (by rw [← HN.out]; exact World.block_lt_of_cell? w a h)]; exact h
          have x2 := kp _ _ hcbj
          have x3 := kp _ _ hya
          have e1 : setD D i0 E i0 = E := if_pos rfl
          have x4 := hM.cellH i0 (Nat.lt_succ_self _) hlt
          have hrow := hM.row i0 (Nat.lt_succ_self _)
          rw [e1] at x4 hrow
          have HROW := Lib.hid (hrow.congr (g' := fun c => B (xs j (fun l => gm (mx la i0 l) (mx lb l c)))) fun x _ => by rw [setr, if_pos rfl])
          have HSB := Lib.hid (hsb.of_below (by rw [HN.out]; exact hB))
          have HRJ := Lib.hid hrj
          have HFr := Lib.hid (HF.out.below hB hbN)
          have hEN : N < E := by
            have h1 := hM.lo i0 (Nat.lt_succ_self _)
            have h2 := hM.ne i0 (Nat.lt_succ_self _)
            rw [e1] at h1 h2
            omega
          have HE1 := Lib.hid e1
          generalize hya' : (la.getD i0 []).getD j 0#8 = ya at *
          have HYA := Lib.hid hya'
          clear kp hM hB hcbj hya hsb hrj hrow e1 hya'
          go_wp2
          refine wp_region_still_tail 10 (by kernel_rfl) (by kernel_rfl) ?_
          simp only [List.take_succ_cons, List.take_zero, List.drop_succ_cons, List.drop_zero, World.drew_eq]
          repeat (refine wpStill_step (fun K hK => ?_); go_simp; refine hK _ ?_; clear hK K)
          refine wpStill_nil ?_
          have hd1 : Dr WP WP.drew := (Dr.refl _).drew
          go_wp2_with fail
          refine (madd_any b E m m cbj ya (fun c => xs j (fun l => gm (mx la i0 l) (mx lb l c))) qb (lb.getD j []) WP.drew (HFr.out.dr hd1) (by omega) (HROW.out.dr hd1) (HSB.out.dr hd1) HRJ.out hm).mono ?_
          rintro e w2 ⟨rfl, hR2, hK2⟩
          have HM2 := Lib.hid ((HM.out.dr hd1).alter i0 (Nat.lt_succ_self _) _ (by rw [HE1.out]; exact hK2) (by rw [HE1.out]; exact hR2))
          have HB2 := Lib.hid (((HB1.out.trans (hd1.below N)).trans (hK2.below (Nat.le_of_lt hEN) (by have := HM.out.ltG; exact Nat.le_of_lt this))))
          clear hd1 hR2 hK2
          go_wp2
          go_roundw
          case rel =>
            refine ⟨j + 1, by omega, by go_num, HM2.out.congr fun x y _ _ => ?_, HB2.out⟩
            unfold setr
            by_cases e : x = i0
            · rw [if_pos e, if_pos e, ← HYA.out]; rfl
            · rw [if_neg e, if_neg e, if_neg e]
          case measure => simp [intOf]; omega
        · have hdj : decide ((j : Int) < (k : Int)) = false := decide_eq_false (by omega)
          obtain rfl : j = k := by omega
          clear hM hB
          go_wp2
          go_roundw
          case rel =>
            refine ⟨i0 + 1, by omega, by go_num, _, HM.out.congr fun x y _ _ => ?_, HB1.out⟩
            unfold setr
            by_cases e : x = i0
            · rw [if_pos e, e]; rfl
            · rw [if_neg e]
          case measure => simp [intOf]; omega
    · have hd0 : decide ((i0 : Int) < (n : Int)) = false := decide_eq_false (by omega)
      obtain rfl : i0 = n := by omega
      clear hM hB
      go_wp2
      go_ret
      exact ⟨_, D, rfl, HM.out, HBr.out⟩
end Go.Proofs.Ytfilicbbkaifcaa
