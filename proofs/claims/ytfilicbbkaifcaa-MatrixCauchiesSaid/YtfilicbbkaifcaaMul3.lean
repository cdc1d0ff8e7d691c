/- The reference's product of matrices. -/
import Derived.Test.YtfilicbbkaifcaaCopy3
import Derived.Test.YtfilicbbkaifcaaStores
import Derived.Test.YtfilicbbkaifcaaUpto
import Derived.StillTailTactics
set_option linter.unusedSimpArgs false
set_option linter.unusedVariables false
namespace Go.Proofs.Ytfilicbbkaifcaa
open Go Go.RowKit

/-- The product as rows: n rows of m numbers, k products each. -/
def rowM (k m : Nat) (la lb : List (List (BitVec 8))) (i : Nat) : List (BitVec 8) := (List.range m).map fun c => mm k (mx la) (mx lb) i c
def mulL (n k m : Nat) (la lb : List (List (BitVec 8))) : List (List (BitVec 8)) := (List.range n).map (rowM k m la lb)
theorem rowM_length (k m : Nat) (la lb : List (List (BitVec 8))) (i : Nat) : (rowM k m la lb i).length = m := by simp [rowM]
theorem range_snoc {α : Type} (f : Nat → α) (k : Nat) : (List.range (k + 1)).map f = (List.range k).map f ++ [f k] := by rw [List.range_succ, List.map_append]; rfl
attribute [local go_sem ↓] exec_bs exec_make exec_store
attribute [local go_sem] bs0 bsR st_B st_I st_b mkB
/-- What a row holds in the midst of its number c. -/
def mid (f : Nat → BitVec 8) (g : BitVec 8) (c x : Nat) : Value := if x = c then B g else upto f c x
theorem mid_start (f : Nat → BitVec 8) (c x : Nat) : upto f c x = mid f 0#8 c x := by
  unfold mid
  by_cases h : x = c
  · rw [if_pos h, upto, if_neg (by omega)]
  · rw [if_neg h]
theorem mid_end (f : Nat → BitVec 8) (c x : Nat) : mid f (f c) c x = upto f (c + 1) x := upto_step f c x
theorem mid_step (f : Nat → BitVec 8) (g g' : BitVec 8) (c x : Nat) : (if x = c then B g' else mid f g c x) = mid f g' c x := by
  unfold mid
  by_cases h : x = c
  · rw [if_pos h, if_pos h]
  · rw [if_neg h, if_neg h, if_neg h]
theorem mid_at (f : Nat → BitVec 8) (g : BitVec 8) (c : Nat) : mid f g c c = B g := if_pos rfl
set_option maxRecDepth 100000 in
set_option maxHeartbeats 8000000 in
theorem refMulM_any (la lb : List (List (BitVec 8))) (p q : Option Addr) (n k m cap cap' : Nat) (w : World) (ha : Prt w p la) (hb : Prt w q lb) (hla : la.length = n) (hlb : lb.length = k) (hra : ∀ i, i < n → (la.getD i []).length = k) (hrb : ∀ i, i < k → (lb.getD i []).length = m)
    (hn : n < 1000000) (hk0 : 0 < k) (hk : k < 1000000) (hm : m < 1000000) :
    Calls Try.prog 18 #[.slice p n cap, .slice q k cap'] w (RetM w.heap.size w (mulL n k m la lb)) := by
  have HA := Lib.hid ha
  have HB := Lib.hid hb
  have HLA := Lib.hid hla
  have HLB := Lib.hid hlb
  have HRA := Lib.hid hra
  have HRB := Lib.hid hrb
  obtain ⟨cb, ob, q0, cb0, rfl, hcb0, hcb1, _⟩ := hb.at_ 0 (by omega)
  rw [Nat.add_zero, hrb 0 hk0] at hcb1
  have HCB := Lib.hid hcb1
  clear ha hb hla hlb hra hrb hcb1
  go_enter Try.func18, Try.ntmps18
  go_wp2
  generalize hN : w.heap.size = N at *
  have HN := Lib.hid hN
  clear hN
  go_loopw [5, 12] (fun v i wr => ∃ i0 : Nat, i0 ≤ n ∧ i = .int .i64 i0 ∧ (∃ q c, v = .slice q i0 c) ∧ OwnM wr N v ((List.range i0).map (rowM k m la lb)) ∧ Below N w wr) (fun _ i _ => n - (intOf i).toNat)
  case atStart => exact ⟨0, Nat.zero_le _, rfl, ⟨none, 0, rfl⟩, by simpa using OwnM.nil w N, Below.refl _ _⟩
  case round =>
    obtain ⟨i0, hi0, rfl, ⟨qv, cv, rfl⟩, hO, hB⟩ := hrel
    rename World => WO
    have hm4 : m < 4294967296 := by omega
    have HO := Lib.hid hO
    have HBr := Lib.hid hB
    have hNle : N ≤ WO.heap.size := by have := hB.size; have := HN.out; omega
    clear hO hB
    by_cases hlt : i0 < n
    · have hd0 : decide ((i0 : Int) < (n : Int)) = true := decide_eq_true (by omega)
      have hl0 : (i0 : Int) < (n : Int) := by omega
      have hk0' : (0 : Int) < (k : Int) := by omega
      have hxb : WO.cell? ⟨cb, ob, none⟩ = some (.slice q0 m cb0) := by
        rw [HBr.out.cell (by exact hcb0)]; exact HCB.out
      obtain ⟨ca, oa, qa, ca0, rfl, hca0, hca1, hsa, _⟩ := HA.out.at_ i0 (by rw [HLA.out]; exact hlt)
      rw [HRA.out i0 hlt] at hca1
      have HCA := Lib.hid hca1
      have HSA := Lib.hid hsa
      have hr : Row (WO.alloc (.cells (zb m) 5)) WO.heap.size 5 m (fun j => B 0#8) := Row.new WO _ m _
      have HR := Lib.hid (hr.congr fun x _ => upto_zero (fun c => mm k (mx la) (mx lb) i0 c) x)
      have HB1 := Lib.hid (show Below WO.heap.size WO (WO.alloc (.cells (zb m) 5)) from (Below.refl _ _).alloc (Nat.le_refl _) _)
      clear hr hca1 hsa
      go_wp2
      generalize WO.alloc (.cells (zb m) 5) = w1 at *
      generalize hRR : WO.heap.size = R at *
      have HRR := Lib.hid hRR
      clear hRR
      go_loopw [22] (fun i wr => ∃ c : Nat, c ≤ m ∧ i = .int .i64 c ∧ Row wr R 5 m (upto (fun c => mm k (mx la) (mx lb) i0 c) c) ∧ Below R WO wr) (fun i _ => m - (intOf i).toNat)
      case atStart => exact ⟨0, Nat.zero_le _, rfl, HR.out, HB1.out⟩
      case round =>
        clear HR HB1
        obtain ⟨c, hc, rfl, hR, hB⟩ := hrel
        rename World => WP
        have HR := Lib.hid hR
        have HB1 := Lib.hid hB
        clear hR hB
        by_cases hcm : c < m
        · have hdc : decide ((c : Int) < (m : Int)) = true := decide_eq_true (by omega)
          have hc0 : (c : Int) < (m : Int) := by omega
          go_wp2
          go_loopw [27] (fun i wr => ∃ j : Nat, j ≤ k ∧ i = .int .i64 j ∧ Row wr R 5 m (mid (fun c => mm k (mx la) (mx lb) i0 c) (xs j (fun l => gm (mx la i0 l) (mx lb l c))) c) ∧ Below R WO wr) (fun i _ => k - (intOf i).toNat)
          case atStart => exact ⟨0, Nat.zero_le _, rfl, HR.out.congr fun x _ => mid_start _ c x, HB1.out⟩
          case round =>
            clear HR HB1
            obtain ⟨j, hj, rfl, hR, hB⟩ := hrel
            have HR := Lib.hid hR
            have HB1 := Lib.hid hB
            by_cases hjk : j < k
            · have hdj : decide ((j : Int) < (k : Int)) = true := decide_eq_true (by omega)
              have hj0 : (j : Int) < (k : Int) := by omega
              obtain ⟨cb', ob', qb, cbj, eb, hcbl, hcbj, hsb, _⟩ := HB.out.at_ j (by rw [HLB.out]; exact hjk)
              injection eb with eb
              injection eb with eb1 eb2
              subst eb1 eb2
              rw [HRB.out j hjk] at hcbj
              have hBw : Below N w wr := HBr.out.trans (hB.mono hNle)
              obtain ⟨da, pa, rfl, hya⟩ := HSA.out j (by rw [HRA.out i0 hlt]; exact hjk)
              obtain ⟨db, pb, rfl, hyb⟩ := hsb c (by rw [HRB.out j hjk]; exact hcm)
              have kp : ∀ a : Addr, ∀ v, w.cell? a = some v → wr.cell? a = some v := fun a v h => by
                rw [hBw.cell (by rw [← HN.out]; exact World.block_lt_of_cell? w a h)]; exact h
              have x1 := kp _ _ HCA.out
              have x2 := kp _ _ hcbj
              have x3 := kp _ _ hya
              have x4 := kp _ _ hyb
              have x0 : wr.cell? ⟨R, c, none⟩ = some (B (xs j (fun l => gm (mx la i0 l) (mx lb l c)))) := by
                rw [hR.cell c hcm, mid_at]
              have xf : wr.frozen? ⟨R, c, none⟩ = false := hR.free c
              have HST := Lib.hid (fun x (_ : x < m) => mid_step (fun c => mm k (mx la) (mx lb) i0 c) (xs j (fun l => gm (mx la i0 l) (mx lb l c))) (xs (j + 1) (fun l => gm (mx la i0 l) (mx lb l c))) c x)
              have HXS := Lib.hid (show xs (j + 1) (fun l => gm (mx la i0 l) (mx lb l c)) = xs j (fun l => gm (mx la i0 l) (mx lb l c)) ^^^ gm ((la.getD i0 []).getD j 0#8) ((lb.getD j []).getD c 0#8) from rfl)
              generalize (la.getD i0 []).getD j 0#8 = ya at *
              generalize (lb.getD j []).getD c 0#8 = yb at *
              generalize hs0 : xs j (fun l => gm (mx la i0 l) (mx lb l c)) = s0 at *
              generalize hs1 : xs (j + 1) (fun l => gm (mx la i0 l) (mx lb l c)) = s1 at *
              have HS1 := Lib.hid hs1
              clear hs0 hs1 kp hBw hR hB hcbj hya hyb hsb
              go_wp2
              refine wp_region_still_tail 23 (by kernel_rfl) (by kernel_rfl) ?_
              simp only [List.take_succ_cons, List.take_zero, List.drop_succ_cons, List.drop_zero, World.drew_eq]
              repeat (refine wpStill_step (fun K hK => ?_); go_simp; refine hK _ ?_; clear hK K)
              refine wpStill_step (fun K hK => ?_)
              go_simp
              refine ⟨_, (refMul_any ya yb _).mono (fun e w' ⟨h, h2⟩ => ⟨h, h2.symm⟩), hK _ ?_⟩
              clear hK K
              repeat (refine wpStill_step (fun K hK => ?_); go_simp; refine hK _ ?_; clear hK K)
              refine wpStill_nil ?_
              go_wp2
              go_roundw
              case rel =>
                refine ⟨j + 1, by omega, by go_num, ?_, ?_⟩
                · rw [HS1.out]
                  have := (HR.out.set c (B s1)).congr HST.out
                  rw [HXS.out] at this ⊢
                  exact this.drewN 1
                · exact below_drewN (HB1.out.setCell (Nat.le_refl _) _) 1
              case measure => simp [intOf]; omega
            · have hdj : decide ((j : Int) < (k : Int)) = false := decide_eq_false (by omega)
              obtain rfl : j = k := by omega
              have HF := Lib.hid (show Row wr R 5 m (upto (fun c => mm j (mx la) (mx lb) i0 c) (c + 1)) from hR.congr fun x _ => mid_end (fun c => mm j (mx la) (mx lb) i0 c) c x)
              clear hR hB
              go_wp2
              go_roundw
              case rel => exact ⟨c + 1, by omega, by go_num, HF.out, HB1.out⟩
              case measure => simp [intOf]; omega
        · have hdc : decide ((c : Int) < (m : Int)) = false := decide_eq_false (by omega)
          obtain rfl : c = m := by omega
          have hrow : Sl WP (some ⟨R, 0, none⟩) (rowM k c la lb i0) := Sl.row HR.out (by rw [rowM_length]; exact Nat.le_refl _) (fun x hx => by
            rw [rowM_length] at hx
            rw [upto_full _ _ _ hx]
            simp [rowM, List.getD_eq_getElem?_getD, hx])
          have hRP : R < WP.heap.size := HR.out.lt
          have hB4 : Below WP.heap.size WP (WP.alloc (.cells #[.slice (some ⟨R, 0, none⟩) c c] 35)) := (Below.refl _ _).alloc (Nat.le_refl _) _
          have HO3 := Lib.hid ((HO.out.of_below (show Below WO.heap.size WO WP by rw [HRR.out]; exact HB1.out)).of_below hB4)
          have HCELL := Lib.hid (show (WP.alloc (.cells #[.slice (some ⟨R, 0, none⟩) c c] 35)).cell? ⟨WP.heap.size, 0, none⟩ = some (.slice (some ⟨R, 0, none⟩) c c) by rw [World.cell?_alloc_new]; rfl)
          have HS4 := Lib.hid (hrow.of_below hB4)
          have HQB := Lib.hid (show ∀ b, (some ⟨R, 0, none⟩ : Option Addr) = some b → N ≤ b.block ∧ b.block < (WP.alloc (.cells #[.slice (some ⟨R, 0, none⟩) c c] 35)).heap.size ∧ (Value.slice qv i0 cv).ownBlock ≠ some b.block from fun b hb => by
            injection hb with hb
            subst hb
            refine ⟨hNle, by rw [World.size_alloc]; exact Nat.lt_succ_of_lt hRP, fun e => ?_⟩
            have h2 := (HO.out.lt _ e).2
            rw [HRR.out] at h2
            exact Nat.lt_irrefl _ h2)
          have hN4 : N ≤ (WP.alloc (.cells #[.slice (some ⟨R, 0, none⟩) c c] 35)).heap.size := by rw [World.size_alloc]; omega
          have HB4 := Lib.hid (show Below N w (WP.alloc (.cells #[.slice (some ⟨R, 0, none⟩) c c] 35)) from (HBr.out.trans (HB1.out.mono hNle)).alloc (by omega) _)
          have HLR := Lib.hid (show ((List.range i0).map (rowM k c la lb)).length = i0 by simp)
          have HSN := Lib.hid (range_snoc (rowM k c la lb) i0)
          clear hrow hB4
          go_wp2_with (first | (refine wpl_push _ rfl (.tmp 55) (.tmp 57) rfl N (.slice qv i0 cv) _ rfl HO3.out ⟨WP.heap.size, 0, none⟩ rfl (some ⟨R, 0, none⟩) (rowM k c la lb i0) c c HCELL.out (rowM_length _ _ _ _ _) HS4.out (fun h => by cases h) (Nat.le_refl _) HQB.out i0 HLR.out (by omega) hN4 ?_; rintro g5 c5 w5 hM5 hg5 ho5 hl5; have HM5 := Lib.hid hM5; have HB5 := Lib.hid (HB4.out.grown hg5 hN4 (fun g hg => (hl5 g hg).1)); clear hM5 hg5 ho5 hl5))
          go_roundw
          case rel => exact ⟨i0 + 1, by omega, by go_num, ⟨_, _, rfl⟩, by rw [HSN.out]; exact HM5.out, HB5.out⟩
          case measure => simp [intOf]; omega
    · have hd0 : decide ((i0 : Int) < (n : Int)) = false := decide_eq_false (by omega)
      obtain rfl : i0 = n := by omega
      go_wp2
      go_ret
      exact ⟨_, rfl, HO.out, HBr.out⟩
end Go.Proofs.Ytfilicbbkaifcaa
