/- Merged texts: Elim, CopyB, Beside, InvM, Invert, InvNo, New, Cauchy, Ref4, Steps, CutM, AnyK, Code4, OwnV, Bls12, Par4, RngP, Blk10, AppL6, Zer12. -/
import Derived.Deep.RegionLaw
import Derived.Test.YtnmopjefjpifoaaGreatDoorKR1
import Derived.Laws.CopyOwn
import Derived.Test.YtnmopjefjpifoaaGreatDoorBytes
import Derived.BigRegion
import Derived.Test.YtnmopjefjpifoaaGreatDoorCuts
import Derived.Deep.QuietTactic
import Derived.BigQuiet
import Derived.StillTailTactics
import Derived.Test.YtnmopjefjpifoaaGreatDoorOwnK8
import Derived.RangeFuncNested
import Derived.RangeFuncBound
import Derived.RangeFuncCalls
import Derived.RangeFuncLeaves
import Derived.Shelf.Abstract
import Derived.Shelf.RegionOpen
import Derived.WalkKit
import Derived.OwnWalkIn
import Derived.TacticsInMore
import Derived.LoopNIn
import Derived.LoopIn
import Derived.Lib.Hide
import Derived.Lib.MinMax
import Derived.OwnWalk
import Derived.RegionTactic
import Derived.Maps.AppendAt
import Derived.Lib.AppendStr
set_option linter.unusedSimpArgs false
set_option linter.unusedVariables false
/- The program's eliminate: one column of a matrix. -/
set_option maxRecDepth 100000
namespace Go.Proofs.YtnmopjefjpifoaaGreatDoor
open Go Go.RowKit

/-- Row c scaled so that its number in column c is 1. -/
def pivM (c : Nat) (a : Mx) : Mx := rscale c (gi (a c c)) a
/-- The first k rows, but for row c, made 0 in column c. -/
def clrM (k c : Nat) (a : Mx) : Mx := fun i j => if i < k ∧ i ≠ c then a i j ^^^ gm (a i c) (a c j) else a i j
attribute [local go_sem ↓] exec_store exec_make exec_bs
attribute [local go_sem] st_B st_I st_b st_H mkB mkR
set_option maxRecDepth 100000 in
set_option maxHeartbeats 8000000 in
theorem elim_any (b G n m c N : Nat) (D : Nat → Nat) (a : Mx) (w : World) (hF : Fld w b) (hbN : b < N) (hM : Mp w N G n n m D a) (hc : c < n) (hcm : c < m) (hn : n ≤ 64) (hm : m < 100000) (ha : a c c ≠ 0#8) :
    Calls Tryz.prog 306 #[.pointer (some ⟨b, 0, none⟩), .slice (some ⟨G, 0, none⟩) n n, .int .i64 (c : Int)] w (fun e w' => e = .returned (.tuple #[]) ∧ ∃ D', Mp w' N G n n m D' (clrM n c (pivM c a)) ∧ Below N w w') := by
  have HF := Lib.hid hF
  have HM := Lib.hid hM
  have HA := Lib.hid ha
  have hcn : (c : Int) < (n : Int) := by omega
  have hcm' : (c : Int) < (m : Int) := by omega
  have x1 := hM.cellH c hc hc
  have x2 := hM.cell c c hc hcm
  have hN : N ≤ w.heap.size := Nat.le_trans hM.loG (Nat.le_of_lt hM.ltG)
  generalize hacc : a c c = y at *
  have HACC := Lib.hid hacc
  clear hF hM ha hacc
  go_enter Tryz.func306, Tryz.ntmps306
  go_wp2
  go_region_law (first | (go_simp; go_at_call 271; refine (inverse_any b y _ (HF.out.dr ((Dr.refl _).drew)) HA.out).mono ?_; rintro e w2 ⟨rfl, hD2⟩; have x3 : w2.cell? ⟨G, c, none⟩ = some (.slice (some ⟨D c, 0, none⟩) m m) := (by rw [hD2.cell]; exact x1); have HD2 := Lib.hid (((Dr.refl w).drew).trans hD2); clear hD2) | (go_simp; go_at_call 317; refine (scale_any b (gi y) (rowL m a c) _ m m _ (HF.out.dr HD2.out) ((HM.out.dr HD2.out).sl c hc) (rowL_length _ _ _) (by omega)).mono ?_; rintro e w3 ⟨rfl, hR3, hB3⟩; have hM3 := (HM.out.dr HD2.out).of_below hB3; have g1 : w3.cell? ⟨G, c, none⟩ = some (.slice (some ⟨D c, 0, none⟩) m m) := hM3.cellH c hc hc; have g2 : w3.frozen? ⟨G, c, none⟩ = false := hM3.free c; have HM3 := Lib.hid hM3; have HR3 := Lib.hid hR3; have HB3 := Lib.hid hB3; clear hM3 hR3 hB3))
  all_goals
    have hE : ∀ j, j < n → j ≠ c → D j ≠ w2.heap.size := fun j hj _ => by
      have h1 := HM.out.lt j hj
      rw [← HD2.out.heap] at h1
      exact Nat.ne_of_lt h1
    have hGE : w2.heap.size ≠ G := by
      have h1 := HM.out.ltG
      rw [← HD2.out.heap] at h1
      exact Ne.symm (Nat.ne_of_lt h1)
    have hNE : N ≤ w2.heap.size := by rw [HD2.out.heap]; exact hN
    have hput := HM3.out.put c w2.heap.size _ HR3.out n (.inl ⟨rfl, hc⟩) hE hGE hNE
    have HB4 := Lib.hid (((HD2.out.below N).trans (HB3.out.mono hNE)).setCell (show N ≤ (⟨G, c, none⟩ : Addr).block from HM.out.loG) (.slice (some ⟨w2.heap.size, 0, none⟩) m m))
    have HM4 := Lib.hid (hput.congr (b := clrM 0 c (pivM c a)) fun i j hi hj => by
      unfold clrM pivM rscale setr
      rw [if_neg (show ¬ (i < 0 ∧ i ≠ c) by omega)]
      by_cases h : i = c
      · rw [if_pos h, if_pos h]
        show gm (gi y) ((rowL m a c).getD j 0#8) = _
        rw [rowL_get _ _ _ _ hj, HACC.out, h]
      · rw [if_neg h, if_neg h])
    have HCC := Lib.hid (show setD D c w2.heap.size c = w2.heap.size from if_pos rfl)
    generalize setD D c w2.heap.size = D1 at *
    clear hput hE hGE hNE g1 g2 HM3 HR3 HB3 x1 x2 x3 HM HACC HCC
    generalize w3.setCell ⟨G, c, none⟩ (.slice (some ⟨w2.heap.size, 0, none⟩) m m) = w4 at *
    generalize hAA : pivM c a = A at *
    have HAA := Lib.hid hAA
    clear HD2 hAA
    go_wp2
    go_loopw [28] (fun i wr => ∃ k : Nat, k ≤ n ∧ i = .int .i64 k ∧ Mp wr N G n n m D1 (clrM k c A) ∧ Below N w wr) (fun i _ => n - (intOf i).toNat)
    case atStart => exact ⟨0, Nat.zero_le _, rfl, HM4.out, HB4.out⟩
    case round =>
      clear HM4 HB4
      obtain ⟨k, hk, rfl, hM, hB⟩ := hrel
      rename World => WP
      have HM4 := Lib.hid hM
      have HB4 := Lib.hid hB
      by_cases hlt : k < n
      · have hd0 : decide ((k : Int) < (n : Int)) = true := decide_eq_true (by omega)
        have hl0 : (k : Int) < (n : Int) := by omega
        have x5 := hM.cellH k hlt hlt
        by_cases hkc : k = c
        · have HKC := Lib.hid hkc
          have hd1 : ((k : Int) != (c : Int)) = false := by simp; omega
          have hd2 : ((k : Int) == (c : Int)) = true := by simp; omega
          clear hM hB hkc
          go_wp2
          go_roundw
          case rel =>
            refine ⟨k + 1, by omega, by go_num, HM4.out.congr fun i j _ _ => ?_, HB4.out⟩
            unfold clrM
            by_cases h : i < k ∧ i ≠ c
            · rw [if_pos h, if_pos (by omega)]
            · rw [if_neg h, if_neg (by have := HKC.out; omega)]
          case measure => simp [intOf]; omega
        · have hd1 : ((k : Int) != (c : Int)) = true := by simp; omega
          have hd2 : ((k : Int) == (c : Int)) = false := by simp; omega
          have hd3 : decide (k = c) = false := by simp; omega
          have x6 := hM.cell k c hlt hcm
          have x7 := hM.cellH c hc hc
          have HFr := Lib.hid (HF.out.below hB hbN)
          have HRK := Lib.hid (hM.row k hlt)
          have HSC := Lib.hid (hM.sl c hc)
          have hbk : b ≠ D1 k := by have := hM.lo k hlt; omega
          have HKC := Lib.hid hkc
          have HCL := Lib.hid (show ∀ i j, j < m → setr (clrM k c A) k (fun j => clrM k c A k j ^^^ gm (clrM k c A k c) ((rowL m (clrM k c A) c).getD j 0#8)) i j = clrM (k + 1) c A i j from fun i j hj => by
            unfold setr
            by_cases h : i = k
            · subst h
              rw [if_pos rfl]
              show clrM i c A i j ^^^ gm (clrM i c A i c) ((rowL m (clrM i c A) c).getD j 0#8) = _
              rw [rowL_get _ _ _ _ hj]
              unfold clrM
              rw [if_pos (show i < i + 1 ∧ i ≠ c from ⟨by omega, hkc⟩), if_neg (show ¬ (i < i ∧ i ≠ c) by omega), if_neg (show ¬ (i < i ∧ i ≠ c) by omega), if_neg (show ¬ (c < i ∧ c ≠ c) by omega)]
            · rw [if_neg h]
              unfold clrM
              by_cases h2 : i < k ∧ i ≠ c
              · rw [if_pos h2, if_pos (by omega)]
              · rw [if_neg h2, if_neg (by omega)])
          generalize hz : clrM k c A k c = z at *
          have HZ := Lib.hid hz
          clear hM hB hz hkc
          go_wp2
          refine wp_region_still_tail 10 (by kernel_rfl) (by kernel_rfl) ?_
          simp only [List.take_succ_cons, List.take_zero, List.drop_succ_cons, List.drop_zero, World.drew_eq]
          repeat (refine wpStill_step (fun K hK => ?_); go_simp; refine hK _ ?_; clear hK K)
          refine wpStill_nil ?_
          have hdr1 : Dr WP WP.drew := (Dr.refl _).drew
          go_wp2_with fail
          refine (madd_any b (D1 k) m m m z (fun j => clrM k c A k j) _ (rowL m (clrM k c A) c) WP.drew (HFr.out.dr hdr1) hbk (HRK.out.dr hdr1) (HSC.out.dr hdr1) (rowL_length _ _ _) (by omega)).mono ?_
          rintro e w5 ⟨rfl, hR5, hK5⟩
          have HM5 := Lib.hid ((HM4.out.dr hdr1).alter k hlt _ hK5 hR5)
          have HB5 := Lib.hid ((HB4.out.trans (hdr1.below N)).trans (hK5.below (HM4.out.lo k hlt) (by have := HM4.out.loG; have := HM4.out.ltG; show N ≤ WP.heap.size; omega)))
          clear hR5 hK5 hdr1
          go_wp2
          go_roundw
          case rel => exact ⟨k + 1, by omega, by go_num, HM5.out.congr fun i j _ hj => HCL.out i j hj, HB5.out⟩
          case measure => simp [intOf]; omega
      · have hd0 : decide ((k : Int) < (n : Int)) = false := decide_eq_false (by omega)
        obtain rfl : k = n := by omega
        clear hM hB
        go_wp2
        go_end0
        exact ⟨rfl, D1, by rw [HAA.out]; exact HM4.out, HB4.out⟩
end Go.Proofs.YtnmopjefjpifoaaGreatDoor
/- copy of bytes into a row of the call's own. -/
set_option maxRecDepth 100000
namespace Go.Proofs.YtnmopjefjpifoaaGreatDoor
open Go Go.RowKit

theorem tab_splice (m n : Nat) (g : Nat → Value) (l : List (BitVec 8)) (hl : l.length = n) (hle : n ≤ m) :
    ((tab m g).toList.take 0 ++ (l.map B ++ (tab m g).toList.drop (0 + (l.map B).length))).toArray = tab m (fun j => if j < n then B (l.getD j 0#8) else g j) := by
  subst hl
  unfold tab
  congr 1
  apply List.ext_getElem?
  intro j
  simp only [List.take_zero, List.nil_append, Nat.zero_add, List.length_map]
  rw [List.getElem?_append]
  by_cases h1 : j < l.length
  · have h2 : j < m := by omega
    simp [h1, h2, List.getD_eq_getElem?_getD]
  · rw [if_neg (by simpa using h1)]
    by_cases h2 : j < m
    · have h3 : l.length + (j - l.length) = j := by omega
      simp [h1, h2, h3]
    · have h3 : m ≤ j := by omega
      have h4 : m ≤ l.length + (j - l.length) := by omega
      simp [h3, h4]
theorem wpl_copy {ops : Array Oper} {rest : List Oper} {o : Oper} {a : Act} {Q : Exit → Act → World → Prop} (w : World) (hgd : o.guard = none) (d s : Operand)
    (ho : o.op = .call { callee := .builtin .copy, args := #[d, s], argTypes := #[53, 53] }) (E m c : Nat) (g : Nat → Value) (q : Option Addr) (n c' : Nat) (l : List (BitVec 8))
    (hd : a.eval d = .slice (some ⟨E, 0, none⟩) m c) (hs : a.eval s = .slice q n c') (hR : Row w E 5 m g) (hl : l.length = n) (hle : n ≤ m) (hsl : Sl w q l)
    (h : ∀ w', Row w' E 5 m (fun j => if j < n then B (l.getD j 0#8) else g j) → Kp E w w' → wpList Tryz.prog ops Q rest (a.put o.dst (.int .i64 (n : Int))) w') : wpList Tryz.prog ops Q (o :: rest) a w := by
  by_cases h0 : n = 0
  · subst h0
    refine wpList_copy_nothing hgd d s _ _ ho 5 und35 (by kernel_rfl) _ _ _ _ _ _ hd hs (by exact Nat.zero_min _) ?_
    exact h w (hR.congr fun j _ => by rw [if_neg (by omega)]) (Kp.refl _ _)
  · obtain ⟨c0, o0, rfl, hc⟩ := hsl 0 (by omega)
    have key := wpList_copy_own (P := Tryz.prog) (w := w) (Q := Q) (ops := ops) (rest := rest) (o := o) (a := a) hgd d s _ _ ho 5 und35 (by kernel_rfl) E 0 m c ⟨c0, o0, none⟩ n c' hd hs (tab m g) 5 hR (l.map B) (by rw [List.length_map, hl]; exact (Nat.min_eq_left hle).symm)
      (fun j v hv => hsl.news j v hv) (by rw [tab_size, List.length_map]; omega) (one_map l)
    refine key ?_
    rw [tab_splice m n g l hl hle]
    have hlen : (l.map B).length = n := by rw [List.length_map, hl]
    have hgi : goInt ((l.map B).length : Int) = .int .i64 (n : Int) := by rw [hlen]; rfl
    rw [hgi]
    exact h _ (setRow_heap w E _ _ 5 _ hR) ⟨rfl, rfl, rfl, by simp [World.setRow], fun k _ hk => setRow_other w E k _ hk⟩
end Go.Proofs.YtnmopjefjpifoaaGreatDoor
/- The program's besideUnit: a matrix beside the unit. -/
set_option maxRecDepth 100000
namespace Go.Proofs.YtnmopjefjpifoaaGreatDoor
open Go Go.RowKit

/-- A matrix of n columns beside the unit. -/
def wide (n : Nat) (a : Mx) : Mx := fun i j => if j < n then a i j else id1 i (j - n)
attribute [local go_sem ↓] exec_store exec_make exec_bs
attribute [local go_sem] st_B st_I st_b st_H mkB mkR
set_option maxRecDepth 100000 in
set_option maxHeartbeats 8000000 in
theorem beside_any (la : List (List (BitVec 8))) (p : Option Addr) (n cap M : Nat) (w : World) (ha : Prt w p la) (hla : la.length = n) (hra : ∀ i, i < n → (la.getD i []).length = n) (hn : n ≤ 64) (hM2 : M = 2 * n) :
    Calls Tryz.prog 303 #[.slice p n cap] w (RetMp w.heap.size w n M (wide n (mx la))) := by
  have HA := Lib.hid ha
  have HLA := Lib.hid hla
  have HRA := Lib.hid hra
  have hn8 : n < 100000000 := by omega
  have hMi : (2 : Int) * (n : Int) = (M : Int) := by omega
  have hM4 : M < 4294967296 := by omega
  have HMM := Lib.hid hM2
  have hmat : Mp (w.alloc (.cells (tab n (fun _ => .slice none 0 0)) 53)) w.heap.size w.heap.size n 0 M (fun _ => 0) (wide n (mx la)) := Mp.zero (Row.new w _ n _) (Nat.le_refl _)
  have hb0 : Below w.heap.size w (w.alloc (.cells (tab n (fun _ => .slice none 0 0)) 53)) := (Below.refl _ _).alloc (Nat.le_refl _) _
  clear ha hla hra hM2
  go_enter Tryz.func303, Tryz.ntmps303
  go_wp2
  generalize w.alloc (.cells (tab n (fun _ => .slice none 0 0)) 53) = w1 at *
  have HM := Lib.hid hmat
  have HB0 := Lib.hid hb0
  clear hmat hb0
  generalize hN : w.heap.size = N at *
  have HN := Lib.hid hN
  clear hN
  go_loopw [11] (fun i wr => ∃ i0 : Nat, i0 ≤ n ∧ i = .int .i64 i0 ∧ ∃ D, Mp wr N N n i0 M D (wide n (mx la)) ∧ Below N w wr) (fun i _ => n - (intOf i).toNat)
  case atStart => exact ⟨0, Nat.zero_le _, rfl, _, HM.out, HB0.out⟩
  case round =>
    clear HM HB0
    obtain ⟨i0, hi0, rfl, D, hM, hB⟩ := hrel
    rename World => WO
    have HM := Lib.hid hM
    have HBr := Lib.hid hB
    have hNlt : N < WO.heap.size := hM.ltG
    by_cases hlt : i0 < n
    · have hd0 : decide ((i0 : Int) < (n : Int)) = true := decide_eq_true (by omega)
      have hl0 : (i0 : Int) < (n : Int) := by omega
      obtain ⟨ca, oa, qa, ca0, rfl, hca0, hca1, hsa, hqa, -⟩ := HA.out.at_ i0 (by rw [HLA.out]; exact hlt)
      have hrl := HRA.out i0 hlt
      rw [hrl] at hca1
      have hxa : WO.cell? ⟨ca, oa + i0, none⟩ = some (.slice qa n ca0) := by
        rw [hB.cell (by rw [← HN.out]; exact hca0)]; exact hca1
      have hbA : Below WO.heap.size WO (WO.alloc (.cells (zb M) 5)) := (Below.refl _ _).alloc (Nat.le_refl _) _
      have hr : Row (WO.alloc (.cells (zb M) 5)) WO.heap.size 5 M (fun j => B 0#8) := Row.new WO _ M _
      have hMA := hM.of_below hbA
      have hc2 : WO.cell? ⟨N, i0, none⟩ = some (hdr i0 M D i0) := hM.hds.cell i0 hlt
      have hf2 : WO.frozen? ⟨N, i0, none⟩ = false := hM.free i0
      have hMB := hMA.put i0 WO.heap.size (fun _ => 0#8) hr (i0 + 1) (.inr ⟨rfl, rfl⟩) (fun j hj _ => by have := hM.lt j hj; omega) (by omega) (by omega)
      have HB1 := Lib.hid (show Below N w ((WO.setCell ⟨N, i0, none⟩ (.slice (some ⟨WO.heap.size, 0, none⟩) M M)).alloc (.cells (zb M) 5)) from ((hB.setCell (Nat.le_refl _) _).alloc (by simp; omega) _))
      have hcomm : (WO.alloc (.cells (zb M) 5)).setCell ⟨N, i0, none⟩ (.slice (some ⟨WO.heap.size, 0, none⟩) M M) = (WO.setCell ⟨N, i0, none⟩ (.slice (some ⟨WO.heap.size, 0, none⟩) M M)).alloc (.cells (zb M) 5) := World.setCell_alloc_past _ N i0 _ hNlt
      rw [hcomm] at hMB
      have HM1 := Lib.hid hMB
      have HSA := Lib.hid (show Sl ((WO.setCell ⟨N, i0, none⟩ (.slice (some ⟨WO.heap.size, 0, none⟩) M M)).alloc (.cells (zb M) 5)) qa (la.getD i0 []) from hsa.of_below (by rw [HN.out]; exact HB1.out))
      have HRL := Lib.hid hrl
      have hcm : (WO.alloc (.cells (zb M) 5)).cell? ⟨N, i0, none⟩ = some (hdr i0 M D i0) := hMA.hds.cell i0 hlt
      have hrowE := hMB.row i0 (Nat.lt_succ_self _)
      rw [show setD D i0 WO.heap.size i0 = WO.heap.size from if_pos rfl] at hrowE
      have HRE := Lib.hid hrowE
      have HEN := Lib.hid (show N < WO.heap.size from hNlt)
      clear hca1 hsa hbA hr hMA hMB hM hB hcomm hrl hqa hcm hrowE
      go_wp2_with (first | (refine wpl_copy _ rfl (.tmp 26) (.tmp 27) rfl WO.heap.size M M (fun x => B (setr (wide n (mx la)) i0 (fun _ => 0#8) i0 x)) qa n ca0 (la.getD i0 []) rfl rfl HRE.out HRL.out (by omega) HSA.out ?_; rintro w5 hR5 hK5; have HR5 := Lib.hid hR5; have HK5 := Lib.hid hK5; have g1 : w5.cell? ⟨N, i0, none⟩ = some (.slice (some ⟨WO.heap.size, 0, none⟩) M M) := (by rw [hK5.cell (by exact HM1.out.ltG) (by show N ≠ WO.heap.size; have := HEN.out; omega), HM1.out.cellH i0 (Nat.lt_succ_self _) hlt]; show some (Value.slice (some ⟨setD D i0 WO.heap.size i0, 0, none⟩) M M) = _; rw [show setD D i0 WO.heap.size i0 = WO.heap.size from if_pos rfl]); have g2 : (w5.cell? ⟨WO.heap.size, n + i0, none⟩).isSome = true := (by rw [hR5.cell (n + i0) (by have := HMM.out; omega)]; rfl); have g3 : ∀ i, w5.frozen? ⟨WO.heap.size, i, none⟩ = false := hR5.free; have g4 : (n : Int) + (i0 : Int) < (M : Int) := (by have := HMM.out; omega); clear hR5 hK5))
      clear g1 g2 g3 g4
      go_roundw
      case rel =>
        have e1 : setD D i0 WO.heap.size i0 = WO.heap.size := if_pos rfl
        have hk := HK5.out.setCell (n + i0) (.int .u8 1)
        have hr := (HR5.out.set (n + i0) (.int .u8 1)).congr (g' := fun j => B (if j = n + i0 then 1#8 else if j < n then (la.getD i0 []).getD j 0#8 else 0#8)) fun j _ => by
          by_cases h1 : j = n + i0
          · rw [if_pos h1, if_pos h1, B_1]
          · rw [if_neg h1, if_neg h1]
            by_cases h2 : j < n
            · rw [if_pos h2, if_pos h2]
            · rw [if_neg h2, if_neg h2, setr, if_pos rfl]
        have hm := HM1.out.alter (D := setD D i0 WO.heap.size) i0 (Nat.lt_succ_self _) _ (by rw [e1]; exact hk) (by rw [e1]; exact hr)
        refine ⟨i0 + 1, by omega, by go_num, _, hm.congr fun x y hx hy => ?_, HB1.out.trans (hk.below (Nat.le_of_lt HEN.out) (Nat.le_of_lt HM1.out.ltG))⟩
        by_cases h1 : x = i0
        · rw [setr, if_pos h1, wide, h1, id1]
          by_cases h2 : y = n + i0
          · rw [if_pos h2, if_neg (by omega), if_pos (by omega)]
          · rw [if_neg h2]
            by_cases h3 : y < n
            · rw [if_pos h3, if_pos h3]; rfl
            · rw [if_neg h3, if_neg h3, if_neg (by omega)]
        · rw [setr, if_neg h1, setr, if_neg h1]
      case measure => simp [intOf]; omega
    · have hd0 : decide ((i0 : Int) < (n : Int)) = false := decide_eq_false (by omega)
      obtain rfl : i0 = n := by omega
      clear hM hB
      go_wp2
      go_ret
      exact ⟨_, D, rfl, HM.out, HBr.out⟩
end Go.Proofs.YtnmopjefjpifoaaGreatDoor
/- The elimination as row steps; nothing of the program. -/
set_option maxRecDepth 100000
namespace Go.Proofs.YtnmopjefjpifoaaGreatDoor

/-- What steps do to a column hangs on that column alone. -/
theorem Rop.spread {n : Nat} {T U : Mx → Mx} (h : Rop n T U) (X : Mx) (j i : Nat) : T X i j = T (fun i _ => X i j) i 0 := by
  have e : ∀ (Z : Mx) i k, mm (j + 1) Z (fun l _ => if l = j then 1#8 else 0#8) i k = Z i j := fun Z i k => by
    unfold mm
    rw [xs_one (j + 1) j (by omega)]
    · show gm (Z i j) (if j = j then 1#8 else 0#8) = Z i j
      rw [if_pos rfl, gm_one_r]
    · intro l _ hl
      show gm (Z i l) (if l = j then 1#8 else 0#8) = 0#8
      rw [if_neg hl, gm_zr]
  have h1 := h.left (j + 1) X (fun l _ => if l = j then 1#8 else 0#8) i 0
  rw [e (T X) i 0, funext2 (e X)] at h1
  exact h1
theorem Rop.column {n : Nat} {T U : Mx → Mx} (h : Rop n T U) (X Y : Mx) (j l : Nat) (e : ∀ i, i < n → X i j = Y i l) (i : Nat) (hi : i < n) : T X i j = T Y i l := by
  rw [h.spread X j i, h.spread Y l i]
  exact h.congr _ _ 0 (fun i hi => e i hi) i hi
theorem clr_lt (k c : Nat) (P : Mx) (i j : Nat) (h : i < k ∧ i ≠ c) : clrM k c P i j = P i j ^^^ gm (P i c) (P c j) := if_pos h
theorem clr_ge (k c : Nat) (P : Mx) (i j : Nat) (h : ¬ (i < k ∧ i ≠ c)) : clrM k c P i j = P i j := if_neg h
theorem clr_steps (n c : Nat) (hc : c < n) (P : Mx) : ∀ k, k ≤ n → ∃ T U, Steps n T U ∧ clrM k c P = T P := by
  intro k
  induction k with
  | zero =>
    intro _
    refine ⟨_, _, Steps.refl n, funext2 fun i j => ?_⟩
    unfold clrM
    rw [if_neg (by omega)]
  | succ k ih =>
    intro hk
    obtain ⟨T, U, h, e⟩ := ih (by omega)
    by_cases hkc : k = c
    · refine ⟨T, U, h, ?_⟩
      rw [← e]
      refine funext2 fun i j => ?_
      unfold clrM
      by_cases h1 : i < k ∧ i ≠ c
      · rw [if_pos h1, if_pos (by omega)]
      · rw [if_neg h1, if_neg (by omega)]
    · refine ⟨_, _, h.trans (steps_add n c k hc (by omega) (Ne.symm hkc) (P k c)), ?_⟩
      refine funext2 fun i j => ?_
      show clrM (k + 1) c P i j = radd c k (P k c) (T P) i j
      rw [← e]
      unfold radd
      by_cases h1 : i = k
      · subst h1
        rw [if_pos rfl, clr_lt _ _ _ _ _ ⟨by omega, hkc⟩, clr_ge _ _ _ _ _ (by omega), clr_ge _ _ _ _ _ (by omega)]
      · rw [if_neg h1]
        by_cases h2 : i < k ∧ i ≠ c
        · rw [clr_lt _ _ _ _ _ h2, clr_lt _ _ _ _ _ (by omega)]
        · rw [clr_ge _ _ _ _ _ h2, clr_ge _ _ _ _ _ (by omega)]
theorem elim_steps (n c : Nat) (hc : c < n) (X : Mx) (h : X c c ≠ 0#8) : ∃ T U, Steps n T U ∧ clrM n c (pivM c X) = T X := by
  obtain ⟨T, U, h1, e⟩ := clr_steps n c hc (pivM c X) n (Nat.le_refl _)
  exact ⟨_, _, (steps_scale n c hc (gi (X c c)) (gi_ne _)).trans h1, e⟩
/-- The first c columns are the unit's. -/
def UpTo (n c : Nat) (X : Mx) : Prop := ∀ i j, i < n → j < c → X i j = id1 i j
theorem upTo_elim (n c : Nat) (hc : c < n) (X : Mx) (h : X c c ≠ 0#8) (hu : UpTo n c X) : UpTo n (c + 1) (clrM n c (pivM c X)) := by
  intro i j hi hj
  have hp : ∀ j, pivM c X c j = gm (gi (X c c)) (X c j) := fun j => by unfold pivM rscale; rw [if_pos rfl]
  have hq : ∀ i j, i ≠ c → pivM c X i j = X i j := fun i j hic => by unfold pivM rscale; rw [if_neg hic]
  unfold clrM
  by_cases hic : i = c
  · subst hic
    rw [if_neg (by omega), hp]
    by_cases hji : j = i
    · subst hji
      rw [gm_comm, gm_gi _ h, id1, if_pos rfl]
    · rw [hu i j hi (by omega), id1, if_neg (Ne.symm hji), gm_zr]
  · rw [if_pos ⟨hi, hic⟩, hq _ _ hic, hq _ _ hic, hp]
    by_cases hjc : j = c
    · subst hjc
      rw [gm_comm (gi (X j j)), gm_gi _ h, gm_one_r, xor_self', id1, if_neg hic]
    · rw [hu c j hc (by omega), hu i j hi (by omega)]
      show id1 i j ^^^ gm (X i c) (gm (gi (X c c)) (id1 c j)) = id1 i j
      rw [show id1 c j = 0#8 from if_neg (Ne.symm hjc), gm_zr, gm_zr, BitVec.xor_zero]
theorem upTo_swap (n c q : Nat) (hc : c < n) (hq : q < n) (hcq : c ≤ q) (X : Mx) (hu : UpTo n c X) : UpTo n c (rswap c q X) := by
  intro i j hi hj
  show X (swp c q i) j = id1 i j
  unfold swp
  by_cases h1 : i = c
  · rw [if_pos h1, hu q j hq hj, id1, id1, if_neg (by omega), if_neg (by omega)]
  · rw [if_neg h1]
    by_cases h2 : i = q
    · rw [if_pos h2, hu c j hc hj, id1, id1, if_neg (by omega), if_neg (by omega)]
    · rw [if_neg h2]; exact hu i j hi hj
/-- What the elimination has reached in column c. -/
def Reach (n c : Nat) (a X : Mx) : Prop := ∃ T U, Steps n T U ∧ X = T (wide n a) ∧ UpTo n c X
theorem reach_zero (n : Nat) (a : Mx) : Reach n 0 a (wide n a) := ⟨_, _, Steps.refl n, rfl, fun i j _ hj => absurd hj (by omega)⟩
theorem Reach.next {n c q : Nat} {a X : Mx} (h : Reach n c a X) (hc : c < n) (hq : q < n) (hcq : c ≤ q) (h0 : X q c ≠ 0#8) : Reach n (c + 1) a (clrM n c (pivM c (rswap c q X))) := by
  obtain ⟨T, U, h1, rfl, h3⟩ := h
  have hne : rswap c q (T (wide n a)) c c ≠ 0#8 := by
    show T (wide n a) (swp c q c) c ≠ 0#8
    rwa [show swp c q c = q from if_pos rfl]
  obtain ⟨T', U', h4, e⟩ := elim_steps n c hc _ hne
  exact ⟨_, _, (h1.trans (steps_swap n c q hc hq)).trans h4, e, upTo_elim n c hc _ hne (upTo_swap n c q hc hq hcq _ h3)⟩
/-- Steps are stuck: no inverse. -/
def NoInv (n : Nat) (a : Mx) : Prop := ∃ T U k, Steps n T U ∧ Stuck n k (T a)
theorem Reach.stuck {n c : Nat} {a X : Mx} (h : Reach n c a X) (hc : c < n) (h0 : ∀ i, c ≤ i → i < n → X i c = 0#8) : NoInv n a := by
  obtain ⟨T, U, h1, rfl, h3⟩ := h
  have e : ∀ i j, i < n → j < n → T a i j = T (wide n a) i j := fun i j hi hj => h1.1.column a (wide n a) j j (fun i _ => by unfold wide; rw [if_pos hj]) i hi
  exact ⟨T, U, c, h1, hc, fun i j hi hj => by rw [e i j hi (by omega)]; exact h3 i j hi hj, fun i hci hi => by rw [e i c hi hc]; exact h0 i hci hi⟩
/-- v is the inverse of a, on either side. -/
def IsInv (n : Nat) (a v : Mx) : Prop := (∀ i k, i < n → k < n → mm n v a i k = id1 i k) ∧ (∀ i k, i < n → k < n → mm n a v i k = id1 i k)
theorem Reach.done {n : Nat} {a X : Mx} (h : Reach n n a X) : IsInv n a (fun i j => X i (n + j)) ∧ det n a ≠ 0#8 := by
  obtain ⟨T, U, h1, rfl, h3⟩ := h
  have e : ∀ i j, i < n → j < n → T a i j = T (wide n a) i j := fun i j hi hj => h1.1.column a (wide n a) j j (fun i _ => by unfold wide; rw [if_pos hj]) i hi
  have e2 : ∀ i j, i < n → T (wide n a) i (n + j) = T id1 i j := fun i j hi => h1.1.column (wide n a) id1 (n + j) j (fun i _ => by unfold wide; rw [if_neg (by omega), Nat.add_sub_cancel_left]) i hi
  have hu : ∀ i k, i < n → k < n → T a i k = id1 i k := fun i k hi hk => by rw [e i k hi hk]; exact h3 i k hi hk
  obtain ⟨g1, g2⟩ := h1.1.inverse a hu
  refine ⟨⟨fun i k hi hk => ?_, fun i k hi hk => ?_⟩, h1.unit a hu⟩
  · rw [← g1 i k hi hk]; exact mm_congr (fun j _ => e2 i j hi) (fun j _ => rfl)
  · rw [← g2 i k hi hk]; exact mm_congr (fun j _ => rfl) (fun j hj => e2 j k hj)
theorem NoInv.det {n : Nat} {a : Mx} (h : NoInv n a) : det n a = 0#8 := by
  obtain ⟨T, U, k, h1, h2⟩ := h
  exact h1.stuck a h2
/-- Numbers that are not all 0 are taken to nothing. -/
theorem NoInv.kernel {n : Nat} {a : Mx} (h : NoInv n a) : ∃ (v : Nat → BitVec 8) (k : Nat), k < n ∧ v k = 1#8 ∧ ∀ i, i < n → xs n (fun j => gm (a i j) (v j)) = 0#8 := by
  obtain ⟨T, U, k, h1, h2⟩ := h
  obtain ⟨v, hv, h3⟩ := h1.kernel a h2
  exact ⟨v, k, h2.1, hv, h3⟩
theorem NoInv.not {n : Nat} {a u : Mx} (h : NoInv n a) (hu : ∀ i k, i < n → k < n → mm n u a i k = id1 i k) : False := by
  obtain ⟨v, k, hk, hv, h3⟩ := h.kernel
  have h1 := mm_assoc n u a (fun j _ => v j) k 0
  have e1 : mm n (mm n u a) (fun j _ => v j) k 0 = v k := by
    rw [mm_congr (a' := id1) (b' := fun j _ => v j) (fun j hj => hu k j hk hj) (fun j _ => rfl), mm_id_l n _ k 0 hk]
  have e2 : mm n u (mm n a (fun j _ => v j)) k 0 = 0#8 := xs_zero' fun j hj => by
    show gm (u k j) (xs n (fun l => gm (a j l) (v l))) = 0#8
    rw [h3 j hj, gm_zr]
  rw [e1, e2, hv] at h1
  exact absurd h1 (by decide)
end Go.Proofs.YtnmopjefjpifoaaGreatDoor
/- The program's Invert. -/
set_option maxRecDepth 100000
namespace Go.Proofs.YtnmopjefjpifoaaGreatDoor
open Go Go.RowKit

theorem sizeR (w : World) : (sizeOf (Tryz.prog.elem 73)).run Tryz.prog w = .ok 1 w := by kernel_rfl
theorem sl_rows (G n c : Nat) (w : World) (hc : c < n) :
    (slT 73 (.slice (some ⟨G, 0, none⟩) n n) (some (.int .i64 (c : Int))) none none).run Tryz.prog w = .ok (.value (.slice (some ⟨G, c, none⟩) (n - c) (n - c))) w := by
  have h1 := run_sliceAt_slice (P := Tryz.prog) w 73 (.slice (some ⟨G, 0, none⟩) n n) (some (.int .i64 (c : Int))) none none undRows
  rw [run_slice_l (P := Tryz.prog) w 73 (some ⟨G, 0, none⟩) n n undRows .i64 (c : Int) (by omega) (by omega), sizeR] at h1
  simp only [slT, Sem.run_bind, h1, Result.andThen_ok, Sem.run_pure]
  simp only [sliced, Int.toNat_natCast, Nat.mul_one]
  rw [if_neg (by omega)]
  simp [Addr.add]
  omega
theorem sl_bytes (D n m M : Nat) (w : World) (hM : M = n + m) (hm : 0 < m) :
    (slT 53 (.slice (some ⟨D, 0, none⟩) M M) (some (.int .i64 (n : Int))) none none).run Tryz.prog w = .ok (.value (.slice (some ⟨D, n, none⟩) m m)) w := by
  have h1 := run_sliceAt_slice (P := Tryz.prog) w 53 (.slice (some ⟨D, 0, none⟩) M M) (some (.int .i64 (n : Int))) none none und35
  rw [run_slice_l (P := Tryz.prog) w 53 (some ⟨D, 0, none⟩) M M und35 .i64 (n : Int) (by omega) (by omega), sizeB] at h1
  simp only [slT, Sem.run_bind, h1, Result.andThen_ok, Sem.run_pure]
  simp only [sliced, Int.toNat_natCast, Nat.mul_one]
  rw [if_neg (by omega), show M - n = m by omega]
  simp [Addr.add]
  omega
theorem enters_nz : ∀ args w, (callFunc 305 args).run Tryz.prog w = .ok (.enter 305 args) w := enters_of Tryz.func305 (by kernel_rfl) rfl
theorem nz_any (b c n cap : Nat) (q : Option Addr) (l : List (BitVec 8)) (w : World) (h1 : w.cell? ⟨b, 0, none⟩ = some (.int .i64 (c : Int))) (hl : l.length = n) (hs : Sl w q l) (hc : c < n) :
    Calls Tryz.prog 305 #[.slice q n cap, .pointer (some ⟨b, 0, none⟩)] w fun e w' => e = .returned (.bool (l.getD c 0#8 != 0#8)) ∧ w = w' := by
  obtain ⟨d, o, rfl, hx⟩ := hs c (by omega)
  have hcn : (c : Int) < (n : Int) := by omega
  generalize l.getD c 0#8 = x at *
  clear hs hl
  go_enter Tryz.func305, Tryz.ntmps305
  go_wp2
  go_ret
  exact ⟨rfl, rfl⟩
/-- The rows from row c on. -/
def fromL (n m c : Nat) (a : Mx) : List (List (BitVec 8)) := (List.range (n - c)).map fun k => rowL m a (c + k)
theorem fromL_length (n m c : Nat) (a : Mx) : (fromL n m c a).length = n - c := by simp [fromL]
theorem fromL_get (n m c : Nat) (a : Mx) (k : Nat) (h : k < n - c) : (fromL n m c a).getD k [] = rowL m a (c + k) := by simp [fromL, List.getD_eq_getElem?_getD, h]
theorem Mp.from {w : World} {N G n m : Nat} {D : Nat → Nat} {a : Mx} (h : Mp w N G n n m D a) (c : Nat) : Prt w (some ⟨G, c, none⟩) (fromL n m c a) := fun i hi => by
  rw [fromL_length] at hi
  rw [fromL_get _ _ _ _ _ hi, rowL_length]
  exact ⟨G, c, some ⟨D (c + i), 0, none⟩, m, rfl, h.cellH (c + i) (by omega) (by omega), h.sl (c + i) (by omega), (fun e => by cases e), Nat.le_refl _⟩
/-- What Invert gives of a square matrix. -/
def InvPost (w : World) (n : Nat) (a : Mx) (e : Ending) (w' : World) : Prop :=
  (NoInv n a ∧ RetNo w.heap.size w 4 e w') ∨ (det n a ≠ 0#8 ∧ ∃ G v, e = .returned (.tuple #[.slice (some ⟨G, 0, none⟩) n n, .int .i64 0]) ∧ IsInv n a v ∧ Prt w' (some ⟨G, 0, none⟩) (rowsL n n v) ∧ Below w.heap.size w w')
attribute [local go_sem ↓] exec_store exec_make exec_bs exec_slice
attribute [local go_sem] st_B st_I st_b st_H mkB mkR sl_rows
set_option maxRecDepth 100000 in
set_option maxHeartbeats 16000000 in
theorem invert_any (b : Nat) (la : List (List (BitVec 8))) (p : Option Addr) (n cap : Nat) (w : World) (hF : Fld w b) (ha : Prt w p la) (ga : Good la n n) :
    Calls Tryz.prog 281 #[.pointer (some ⟨b, 0, none⟩), .slice p n cap] w (InvPost w n (mx la)) := by
  have g1 := ga.lo
  have g2 := ga.hi
  have HF := Lib.hid hF
  have HA := Lib.hid ha
  have GA := Lib.hid ga
  obtain ⟨M, hM⟩ : ∃ M, M = n + n := ⟨_, rfl⟩
  have HMM := Lib.hid hM
  obtain ⟨c0, o0, q0, cap0, rfl, hc0, hcc0⟩ := ha.head (by rw [ga.len]; omega)
  rw [ga.head] at hcc0
  have ta := ga.true_
  have hn0 : (0 : Int) < (n : Int) := by omega
  have hnn : ((n : Int) != (n : Int)) = false := by simp
  have hbN : b < w.heap.size := hF.lt
  clear hF ha ga hM
  go_enter Tryz.func281, Tryz.ntmps281
  go_wp2_with fail
  refine (goodM_any la _ n cap w HA.out GA.out.len (by omega)).mono ?_
  rintro e w1 ⟨rfl, hB1⟩
  have hx : w1.cell? ⟨c0, o0, none⟩ = some (.slice q0 n cap0) := by rw [hB1.cell (by exact hc0)]; exact hcc0
  have HB1 := Lib.hid hB1
  clear hB1
  go_wp2_with fail
  refine (beside_any la _ n cap M w1 (HA.out.of_below HB1.out) GA.out.len GA.out.rows g2 (by have := HMM.out; omega)).mono ?_
  rintro e w2 ⟨G, D, rfl, hM2, hB2⟩
  have HB2 := Lib.hid (HB1.out.trans (hB2.mono HB1.out.size))
  have hsz := HB1.out.size
  have HM2 := Lib.hid (⟨hM2.hds, hM2.row, hM2.inj, hM2.ne, fun i hi => Nat.le_trans hsz (hM2.lo i hi), Nat.le_trans hsz hM2.loG⟩ : Mp w2 w.heap.size G n n M D (wide n (mx la)))
  clear hM2 hB2 hx hsz HB1 hcc0 ta
  generalize hN : w.heap.size = N at *
  have HN := Lib.hid hN
  clear hN
  go_wp2
  go_loopw [26] (fun i wr => ∃ c : Nat, c ≤ n ∧ i = .int .i64 c ∧ ∃ D X, Mp wr N G n n M D X ∧ Below N w wr ∧ Reach n c (mx la) X) (fun i _ => n - (intOf i).toNat)
  case atStart => exact ⟨0, Nat.zero_le _, rfl, D, _, HM2.out, HB2.out, reach_zero n (mx la)⟩
  case round =>
    clear HM2 HB2
    obtain ⟨c, hc, rfl, D1, X, hM, hB, hR⟩ := hrel
    rename World => WP
    have HM := Lib.hid hM
    have HB := Lib.hid hB
    have HR := Lib.hid hR
    have hNG : N ≤ G := hM.loG
    have hGP : G < WP.heap.size := hM.ltG
    by_cases hlt : c < n
    · have hd0 : decide ((c : Int) < (n : Int)) = true := decide_eq_true (by omega)
      have hl0 : (c : Int) < (n : Int) := by omega
      have hbb : Below WP.heap.size WP (WP.alloc (.cells #[.int .i64 (c : Int)] 3)) := (Below.refl _ _).alloc (Nat.le_refl _) _
      have HM1 := Lib.hid (hM.of_below hbb)
      have HB1 := Lib.hid (show Below N w (WP.alloc (.cells #[.int .i64 (c : Int)] 3)) from hB.alloc (by omega) _)
      have hbox : (WP.alloc (.cells #[.int .i64 (c : Int)] 3)).cell? ⟨WP.heap.size, 0, none⟩ = some (.int .i64 (c : Int)) := by rw [World.cell?_alloc_new]; rfl
      have hPRT := HM1.out.from c
      have hask : Asks 305 #[.pointer (some ⟨WP.heap.size, 0, none⟩)] (fromL n M c X) (fun k => ((fromL n M c X).getD k []).getD c 0#8 != 0#8) (WP.alloc (.cells #[.int .i64 (c : Int)] 3)) := by
        intro k hk q cap' hsl
        rw [fromL_length] at hk
        exact nz_any WP.heap.size c _ cap' q _ _ hbox rfl hsl (by rw [fromL_get _ _ _ _ _ hk, rowL_length]; have := HMM.out; omega)
      have HASK := Lib.hid hask
      have HPRT := Lib.hid hPRT
      have hfk : ∀ k, k < n - c → ((fromL n M c X).getD k []).getD c 0#8 = X (c + k) c := fun k hk => by
        rw [fromL_get _ _ _ _ _ hk, rowL_get _ _ _ _ (by have := HMM.out; omega)]
      clear hM hB hbb hask hPRT
      rcases hit_or (fun k => ((fromL n M c X).getD k []).getD c 0#8 != 0#8) (n - c) with ⟨t, ht⟩ | ht
      · have htn : t < n - c := ht.1
        have hxne : X (c + t) c ≠ 0#8 := by
          have h1 := ht.2.1
          rw [← hfk t htn]
          simpa using h1
        have HNEXT := Lib.hid (hR.next hlt (show c + t < n by omega) (by omega) hxne)
        have HNE := Lib.hid hxne
        have HT := Lib.hid ht
        have hdt : decide ((t : Int) < 0) = false := decide_eq_false (by omega)
        clear hR hfk ht hxne
        go_wp2_with fail
        refine (index_hit _ _ enters_nz (fromL n M c X) _ _ (n - c) (n - c) t _ HASK.out HPRT.out (fromL_length _ _ _ _) (by omega) HT.out).mono ?_
        rintro e w' ⟨rfl, rfl⟩
        clear HASK HPRT HT
        have hGB : G ≠ WP.heap.size := Nat.ne_of_lt hGP
        generalize WP.alloc (.cells #[.int .i64 (c : Int)] 3) = W1 at *
        generalize WP.heap.size = BX at *
        clear hGP
        have x1 := HM1.out.cellH c hlt hlt
        have x2 := HM1.out.cellH (c + t) (by omega) (by omega)
        have f1 : ∀ i, W1.frozen? ⟨G, i, none⟩ = false := HM1.out.free
        obtain ⟨v3, x3⟩ : ∃ v, (W1.setCell ⟨G, c, none⟩ (.slice (some ⟨D1 (c + t), 0, none⟩) M M)).cell? ⟨G, c + t, none⟩ = some v := ⟨_, (HM1.out.hds.set c _).cell (c + t) (by omega)⟩
        go_wp2
        have hw : IntKind.i64.wrap ((c : Int) + (t : Int)) = (c : Int) + (t : Int) := IntWalk.i64_in _ (by omega)
        have hw1 : 0 ≤ (c : Int) + (t : Int) := by omega
        have hw2 : (c : Int) + (t : Int) < (n : Int) := by omega
        have hw3 : ((c : Int) + (t : Int)).toNat = c + t := by omega
        have hw4 : c + t < n := by omega
        go_region
        have hs2 := HM1.out.swap c (c + t) hlt hw4
        have hx5 : (((W1.setCell ⟨G, c, none⟩ (.slice (some ⟨D1 (c + t), 0, none⟩) M M)).setCell ⟨G, c + t, none⟩ (.slice (some ⟨D1 c, 0, none⟩) M M)).drew).cell? ⟨BX, 0, none⟩ = some (.int .i64 (c : Int)) := by
          show ((W1.setCell ⟨G, c, none⟩ (.slice (some ⟨D1 (c + t), 0, none⟩) M M)).setCell ⟨G, c + t, none⟩ (.slice (some ⟨D1 c, 0, none⟩) M M)).cell? ⟨BX, 0, none⟩ = _
          rw [World.cell?_setCell_far _ _ _ _ hGB, World.cell?_setCell_far _ _ _ _ hGB]
          exact hbox
        have HM2 := Lib.hid (hs2.dr (Dr.refl _).drew)
        have HB2 := Lib.hid (((HB1.out.setCell (show N ≤ (⟨G, c, none⟩ : Addr).block from hNG) (.slice (some ⟨D1 (c + t), 0, none⟩) M M)).setCell (show N ≤ (⟨G, c + t, none⟩ : Addr).block from hNG) (.slice (some ⟨D1 c, 0, none⟩) M M)).drew)
        clear hs2 x1 x2 x3 f1 hbox hw hw1 hw2 hw3
        generalize ((W1.setCell ⟨G, c, none⟩ (.slice (some ⟨D1 (c + t), 0, none⟩) M M)).setCell ⟨G, c + t, none⟩ (.slice (some ⟨D1 c, 0, none⟩) M M)).drew = W2 at *
        clear HM1 HB1
        go_wp2_with fail
        refine (elim_any b G n M c N _ _ W2 (HF.out.below HB2.out hbN) hbN HM2.out hlt (by have := HMM.out; omega) g2 (by have := HMM.out; omega) (by show X (swp c (c + t) c) c ≠ 0#8; rw [show swp c (c + t) c = c + t from if_pos rfl]; exact HNE.out)).mono ?_
        rintro e w5 ⟨rfl, D5, hM5, hB5⟩
        have HM5 := Lib.hid hM5
        have HB5 := Lib.hid (HB2.out.trans hB5)
        clear hM5 hB5
        go_wp2
        go_roundw
        case rel => exact ⟨c + 1, by omega, by go_num, D5, _, HM5.out, HB5.out, HNEXT.out⟩
        case measure => simp [intOf]; omega
      · have HNO := Lib.hid (hR.stuck hlt fun i hci hi => by
          have h1 := ht (i - c) (by omega)
          rw [show i = c + (i - c) by omega, ← hfk (i - c) (by omega)]
          simpa using h1)
        have HT := Lib.hid ht
        clear hR hfk ht
        go_wp2_with fail
        refine (index_miss _ _ enters_nz (fromL n M c X) _ _ (n - c) (n - c) _ HASK.out HPRT.out (fromL_length _ _ _ _) (by omega) HT.out).mono ?_
        rintro e w' ⟨rfl, rfl⟩
        go_wp2
        go_ret2
        exact .inl ⟨HNO.out, rfl, by rw [HN.out]; exact HB1.out⟩
    · have hd0 : decide ((c : Int) < (n : Int)) = false := decide_eq_false (by omega)
      obtain rfl : c = n := by omega
      clear hM hB hR
      have hcut : ∀ (D : Nat) (w : World), (slT 53 (.slice (some ⟨D, 0, none⟩) M M) (some (.int .i64 (c : Int))) none none).run Tryz.prog w = .ok (.value (.slice (some ⟨D, c, none⟩) c c)) w := fun D w => sl_bytes D c c M w HMM.out (by omega)
      go_wp2
      go_loopw [61] (fun i wr => ∃ k : Nat, k ≤ c ∧ i = .int .i64 k ∧ Row wr G 53 c (fun i => if i < k then .slice (some ⟨D1 i, c, none⟩) c c else .slice (some ⟨D1 i, 0, none⟩) M M) ∧ Kp G WP wr) (fun i _ => c - (intOf i).toNat)
      case atStart => exact ⟨0, Nat.zero_le _, rfl, HM.out.hds.congr fun i hi => by rw [hdr, if_pos hi, if_neg (by omega)], Kp.refl _ _⟩
      case round =>
        obtain ⟨k, hk, rfl, hRow, hK⟩ := hrel
        have HRow := Lib.hid hRow
        have HK := Lib.hid hK
        by_cases hkc : k < c
        · have hdk : decide ((k : Int) < (c : Int)) = true := decide_eq_true (by omega)
          have hlk : (k : Int) < (c : Int) := by omega
          have x1 : wr.cell? ⟨G, k, none⟩ = some (.slice (some ⟨D1 k, 0, none⟩) M M) := by rw [hRow.cell k hkc, if_neg (by omega)]
          have f1 : ∀ i, wr.frozen? ⟨G, i, none⟩ = false := hRow.free
          clear hRow hK
          go_wp2
          go_roundw
          case rel =>
            refine ⟨k + 1, by omega, by go_num, (HRow.out.set k _).congr fun i hi => ?_, HK.out.setCell _ _⟩
            by_cases h1 : i = k
            · subst h1; rw [if_pos rfl, if_pos (by omega)]
            · rw [if_neg h1]
              by_cases h2 : i < k
              · rw [if_pos h2, if_pos (by omega)]
              · rw [if_neg h2, if_neg (by omega)]
          case measure => simp [intOf]; omega
        · have hdk : decide ((k : Int) < (c : Int)) = false := decide_eq_false (by omega)
          obtain rfl : k = c := by omega
          clear hRow hK
          have hdone := HR.out.done
          have hprt : Prt wr (some ⟨G, 0, none⟩) (rowsL k k (fun i j => X i (k + j))) := fun i hi => by
            rw [rowsL_length] at hi
            rw [rowsL_get _ _ _ _ hi]
            refine ⟨G, 0, some ⟨D1 i, k, none⟩, k, rfl, ?_, fun j hj => ⟨D1 i, k, rfl, ?_⟩, (fun e => by cases e), by rw [rowL_length]; exact Nat.le_refl _⟩
            · rw [Nat.zero_add, HRow.out.cell i hi, if_pos hi, rowL_length]
            · rw [rowL_length] at hj
              rw [rowL_get _ _ _ _ hj]
              exact ((HM.out.row i hi).of_kp HK.out (HM.out.ne i hi)).cell (k + j) (by have := HMM.out; omega)
          have HP := Lib.hid hprt
          have HD := Lib.hid hdone
          clear hdone hprt hcut
          go_wp2
          go_ret2
          exact .inr ⟨HD.out.2, G, _, rfl, HD.out.1, HP.out, by rw [HN.out]; exact HB.out.trans (HK.out.below hNG (Nat.le_of_lt (Nat.lt_of_le_of_lt hNG hGP)))⟩
end Go.Proofs.YtnmopjefjpifoaaGreatDoor
/- Invert's errors. -/
set_option maxRecDepth 100000
namespace Go.Proofs.YtnmopjefjpifoaaGreatDoor
open Go Go.RowKit

section
variable (la : List (List (BitVec 8))) (p : Option Addr) (n m cap : Nat) (w : World)
end
end Go.Proofs.YtnmopjefjpifoaaGreatDoor
/- A new field: its tables; rows scaled. -/
set_option maxRecDepth 100000
namespace Go.Proofs.YtnmopjefjpifoaaGreatDoor
open Go Go.RowKit

def z511 : Array Value := (List.replicate 255 (Value.int .u8 0) ++ List.replicate 256 (Value.int .i64 0)).toArray
theorem z511_eq : z511 = tab 511 (fldN 0) := by
  have h : ∀ i, i < 511 → (fldN 0 i) = (if i < 255 then Value.int .u8 0 else Value.int .i64 0) := by
    intro i hi
    unfold fldN
    by_cases h1 : i < 255
    · rw [if_pos h1, if_pos h1, if_neg (by omega), B_0]
    · rw [if_neg h1, if_neg h1, if_neg (by omega)]; rfl
  rw [tab_congr h]
  have e : z511 = tab 511 (fun i => if i < 255 then Value.int .u8 0 else Value.int .i64 0) := by kernel_rfl
  exact e
theorem bdF (w : World) : (bdT 347 #[]).run Tryz.prog w = .ok (.value (.agg z511)) w := by kernel_rfl
theorem bxF (w : World) : (bxT 347 (.agg z511)).run Tryz.prog w = .ok (.value (.pointer (some ⟨w.heap.size, 0, none⟩))) (w.alloc (.cells z511 347)) := by kernel_rfl
theorem fldN_step (k : Nat) (hk : k < 255) (j : Nat) (hj : j < 511) : (if j = 255 + (pw k).toNat then Value.int .i64 (k : Int) else if j = k then B (pw k) else fldN k j) = fldN (k + 1) j := by
  have hX := (pw k).isLt
  have hlg : lgs.getD (pw k).toNat 0 = k := by
    have := lg_pw' k hk
    exact this
  unfold fldN
  by_cases h1 : j < 255
  · rw [if_neg (by omega), if_pos h1, if_pos h1]
    by_cases h2 : j = k
    · subst h2
      rw [if_pos rfl, if_pos (by omega)]
    · rw [if_neg h2]
      by_cases h3 : j < k
      · rw [if_pos h3, if_pos (by omega)]
      · rw [if_neg h3, if_neg (by omega)]
  · rw [if_neg h1, if_neg h1]
    by_cases h2 : j = 255 + (pw k).toNat
    · rw [if_pos h2, h2, Nat.add_sub_cancel_left, hlg, if_pos (by omega)]
    · rw [if_neg h2, if_neg (show ¬ j = k by omega)]
      by_cases h3 : lgs.getD (j - 255) 0 = k
      · by_cases h4 : j - 255 = 0
        · rw [h4]
          have : lgs.getD 0 0 = 0 := rfl
          rw [this]
          simp only [ite_self]
        · exfalso
          have e := pw_lg' (j - 255) (by omega) h4
          rw [h3] at e
          apply h2
          rw [e, BitVec.toNat_ofNat]
          omega
      · by_cases h5 : lgs.getD (j - 255) 0 < k
        · rw [if_pos h5, if_pos (by omega)]
        · rw [if_neg h5, if_neg (by omega)]
attribute [local go_sem ↓] exec_build exec_box exec_store exec_make
attribute [local go_sem] bdF bxF st_B st_I st_b mkB
set_option maxRecDepth 100000 in
set_option maxHeartbeats 2000000 in
theorem new_any (w : World) : Calls Tryz.prog 230 #[] w fun e w' => e = .returned (.pointer (some ⟨w.heap.size, 0, none⟩)) ∧ Fld w' w.heap.size ∧ Below w.heap.size w w' := by
  have hr : Row (w.alloc (.cells z511 347)) w.heap.size 347 511 (fldN 0) := by
    rw [z511_eq]; exact Row.new w _ 511 _
  have hb : Below w.heap.size w (w.alloc (.cells z511 347)) := (Below.refl _ _).alloc (Nat.le_refl _) _
  go_enter Tryz.func230, Tryz.ntmps230
  go_wp2
  generalize w.alloc (.cells z511 347) = w1 at *
  have HR := Lib.hid hr
  have HB := Lib.hid hb
  clear hr hb
  generalize hN : w.heap.size = N at *
  have HN := Lib.hid hN
  clear hN
  go_loopw [2, 6] (fun x i wr => ∃ k : Nat, k ≤ 255 ∧ i = .int .i64 k ∧ x = .int .i64 ((pw k).toNat : Int) ∧ Row wr N 347 511 (fldN k) ∧ Below N w wr) (fun _ i _ => 255 - (intOf i).toNat)
  case atStart => exact ⟨0, Nat.zero_le _, rfl, rfl, HR.out, HB.out⟩
  case round =>
    clear HR HB
    obtain ⟨k, hk, rfl, rfl, hR, hB⟩ := hrel
    have HB := Lib.hid hB
    by_cases hlt : k < 255
    · have hX := (pw k).isLt
      have c1 : (wr.cell? ⟨N, k, none⟩).isSome = true := by rw [hR.cell k (by omega)]; rfl
      have c2 : ∀ v, ((wr.setCell ⟨N, k, none⟩ v).cell? ⟨N, 255 + (pw k).toNat, none⟩).isSome = true := fun v => by
        rw [(hR.set k v).cell _ (by omega)]; rfl
      have c3 : (wr.cell? ⟨N, 255 + (pw k).toNat, none⟩).isSome = true := by rw [hR.cell _ (by omega)]; rfl
      have f1 : ∀ i, wr.frozen? ⟨N, i, none⟩ = false := hR.free
      have f2 : ∀ v i, (wr.setCell ⟨N, k, none⟩ v).frozen? ⟨N, i, none⟩ = false := fun v => (hR.set k v).free
      have HR2 := ((hR.set k (B (pw k))).set (255 + (pw k).toNat) (.int .i64 (k : Int))).congr (fldN_step k hlt)
      rw [B_eq'] at HR2
      replace HR2 := Lib.hid HR2
      have HPN := Lib.hid (pw_next k)
      have hd0 : decide ((k : Int) < 255) = true := decide_eq_true (by omega)
      have HE := Lib.hid (show BitVec.ofNat 8 (pw k).toNat = pw k by rw [BitVec.ofNat_toNat, BitVec.setWidth_eq])
      generalize hXX : (pw k).toNat = X at *
      have HXX := Lib.hid hXX
      have hY := (pw (k + 1)).isLt
      generalize hYY : (pw (k + 1)).toNat = Y at *
      have HYY := Lib.hid hYY
      clear hXX hYY hR hB
      by_cases hb : 255 < 2 * X
      · have hd1 : decide ((255 : Int) < (X : Int) * 2) = true := decide_eq_true (by omega)
        have hx : bits .xor .i64 ((X : Int) * 2) 285 = (Y : Int) := by
          have := HPN.out
          rw [if_pos hb] at this
          rw [show ((X : Int) * 2) = ((2 * X : Nat) : Int) by simp; omega, show (285 : Int) = ((285 : Nat) : Int) from rfl, i64_xor_nat _ _ (by omega) (by decide), this]
        clear hb hY
        go_wp2
        go_roundw
        case rel => exact ⟨k + 1, by omega, by go_num, by rw [HYY.out], HR2.out, (HB.out.setCell (Nat.le_refl _) _).setCell (Nat.le_refl _) _⟩
        case measure => simp [intOf]; omega
      · have hd1 : decide ((255 : Int) < (X : Int) * 2) = false := decide_eq_false (by omega)
        have he : Hid ((X : Int) * 2 = (Y : Int)) := by
          have := HPN.out
          rw [if_neg hb] at this
          show (X : Int) * 2 = (Y : Int)
          omega
        clear hb hY
        go_wp2
        go_roundw
        case rel => exact ⟨k + 1, by omega, by go_num, by rw [HYY.out, he.out], HR2.out, (HB.out.setCell (Nat.le_refl _) _).setCell (Nat.le_refl _) _⟩
        case measure => simp [intOf]; omega
    · obtain rfl : k = 255 := by omega
      have hd0 : decide (((255 : Nat) : Int) < 255) = false := rfl
      have HR := Lib.hid hR
      clear hR hB
      go_wp2
      go_ret
      exact ⟨by rw [HN.out]; rfl, by rw [HN.out]; exact HR.out, by rw [HN.out]; exact HB.out⟩
end Go.Proofs.YtnmopjefjpifoaaGreatDoor
/- The program's Cauchy. -/
set_option maxRecDepth 100000
namespace Go.Proofs.YtnmopjefjpifoaaGreatDoor
open Go Go.RowKit

/-- The Cauchy matrix. -/
def cau (k : Nat) : Mx := fun i j => gi (BitVec.ofNat 8 (k + i) ^^^ BitVec.ofNat 8 j)
theorem cau_ne (k i j : Nat) (h1 : k + i < 256) (h2 : j < 256) (h3 : k + i ≠ j) : BitVec.ofNat 8 (k + i) ^^^ BitVec.ofNat 8 j ≠ 0#8 := fun e => h3 (by
  have := congrArg BitVec.toNat (xor_eq_zero _ _ e)
  simp only [BitVec.toNat_ofNat] at this
  omega)
attribute [local go_sem ↓] exec_store exec_make exec_bs
attribute [local go_sem] st_B st_I st_b st_H mkB mkR mkM bs2
set_option maxRecDepth 100000 in
set_option maxHeartbeats 16000000 in
theorem cauchy_ok (k m : Nat) (w : World) (hk1 : 1 ≤ k) (hk2 : k ≤ 64) (hm1 : 1 ≤ m) (hm2 : m ≤ 64) : Calls Tryz.prog 229 #[.int .i64 (k : Int), .int .i64 (m : Int)] w (RetOk w.heap.size w m k (cau k)) := by
  have hm8 : m < 100000000 := by omega
  have hk4 : k < 4294967296 := by omega
  have hp : permB (k : Int) = true := decide_eq_true ⟨by omega, by omega⟩
  have hq : permB (m : Int) = true := decide_eq_true ⟨by omega, by omega⟩
  go_enter Tryz.func229, Tryz.ntmps229
  go_wp2_with fail
  refine (permitted_any _ w).mono ?_
  rintro e w' ⟨rfl, rfl⟩
  go_wp2_with fail
  refine (permitted_any _ w).mono ?_
  rintro e w' ⟨rfl, rfl⟩
  go_wp2_with fail
  refine (new_any w).mono ?_
  rintro e w1 ⟨rfl, hF1, hB1⟩
  have hbN : w.heap.size < w1.heap.size := hF1.lt
  have hmat : Mp (w1.alloc (.cells (tab m (fun _ => .slice none 0 0)) 53)) w1.heap.size w1.heap.size m 0 k (fun _ => 0) (cau k) := Mp.zero (Row.new w1 _ m _) (Nat.le_refl _)
  have hb0 : Below w1.heap.size w1 (w1.alloc (.cells (tab m (fun _ => .slice none 0 0)) 53)) := (Below.refl _ _).alloc (Nat.le_refl _) _
  have HF := Lib.hid hF1
  have HB1 := Lib.hid hB1
  have hNb : w.heap.size ≤ w1.heap.size := hB1.size
  clear hF1 hB1
  generalize hb : w.heap.size = b at *
  have HBB := Lib.hid hb
  clear hb
  go_wp2
  generalize w1.alloc (.cells (tab m (fun _ => .slice none 0 0)) 53) = w2 at *
  have HM := Lib.hid hmat
  have HB0 := Lib.hid hb0
  clear hmat hb0
  generalize hN : w1.heap.size = N at *
  have HN := Lib.hid hN
  clear hN
  go_loopw [23] (fun i wr => ∃ i0 : Nat, i0 ≤ m ∧ i = .int .i64 i0 ∧ ∃ D, Mp wr N N m i0 k D (cau k) ∧ Below N w1 wr) (fun i _ => m - (intOf i).toNat)
  case atStart => exact ⟨0, Nat.zero_le _, rfl, _, HM.out, HB0.out⟩
  case round =>
    clear HM HB0
    obtain ⟨i0, hi0, rfl, D, hM, hB⟩ := hrel
    rename World => WO
    have HM := Lib.hid hM
    have HBr := Lib.hid hB
    have hNlt : N < WO.heap.size := hM.ltG
    by_cases hlt : i0 < m
    · have hd0 : decide ((i0 : Int) < (m : Int)) = true := decide_eq_true (by omega)
      have hl0 : (i0 : Int) < (m : Int) := by omega
      have hbA : Below WO.heap.size WO (WO.alloc (.cells (zb k) 5)) := (Below.refl _ _).alloc (Nat.le_refl _) _
      have hr : Row (WO.alloc (.cells (zb k) 5)) WO.heap.size 5 k (fun j => B 0#8) := Row.new WO _ k _
      have hMA := hM.of_below hbA
      have hc2 : WO.cell? ⟨N, i0, none⟩ = some (hdr i0 k D i0) := hM.hds.cell i0 hlt
      have hf2 : WO.frozen? ⟨N, i0, none⟩ = false := hM.free i0
      have hcm : (WO.alloc (.cells (zb k) 5)).cell? ⟨N, i0, none⟩ = some (hdr i0 k D i0) := hMA.hds.cell i0 hlt
      have hMB := hMA.put i0 WO.heap.size (fun _ => 0#8) hr (i0 + 1) (.inr ⟨rfl, rfl⟩) (fun j hj _ => by have := hM.lt j hj; omega) (by omega) (by omega)
      have HB1 := Lib.hid (show Below N w1 ((WO.setCell ⟨N, i0, none⟩ (.slice (some ⟨WO.heap.size, 0, none⟩) k k)).alloc (.cells (zb k) 5)) from ((hB.setCell (Nat.le_refl _) _).alloc (by simp; omega) _))
      have hcomm : (WO.alloc (.cells (zb k) 5)).setCell ⟨N, i0, none⟩ (.slice (some ⟨WO.heap.size, 0, none⟩) k k) = (WO.setCell ⟨N, i0, none⟩ (.slice (some ⟨WO.heap.size, 0, none⟩) k k)).alloc (.cells (zb k) 5) := World.setCell_alloc_past _ N i0 _ hNlt
      rw [hcomm] at hMB
      have HM1 := Lib.hid hMB
      have HEN := Lib.hid hNlt
      have e1 : setD D i0 WO.heap.size i0 = WO.heap.size := if_pos rfl
      have hx1 := hMB.cellH i0 (Nat.lt_succ_self _) hlt
      rw [e1] at hx1
      clear hbA hr hMA hMB hM hB hcomm e1
      go_wp2
      clear hx1 hc2 hf2 hcm
      generalize (WO.setCell ⟨N, i0, none⟩ (.slice (some ⟨WO.heap.size, 0, none⟩) k k)).alloc (.cells (zb k) 5) = w3 at *
      generalize WO.heap.size = E at *
      go_loopw [36] (fun i wr => ∃ j : Nat, j ≤ k ∧ i = .int .i64 j ∧ Mp wr N N m (i0 + 1) k (setD D i0 E) (setr (cau k) i0 (fun x => if x < j then cau k i0 x else 0#8)) ∧ Below N w1 wr) (fun i _ => k - (intOf i).toNat)
      case atStart => exact ⟨0, Nat.zero_le _, rfl, HM1.out.congr fun x y _ _ => by unfold setr; by_cases h : x = i0 <;> simp [h], HB1.out⟩
      case round =>
        clear HM1 HB1
        obtain ⟨j, hj, rfl, hM, hB⟩ := hrel
        rename World => WP
        have HM := Lib.hid hM
        have HB := Lib.hid hB
        by_cases hjk : j < k
        · have hdj : decide ((j : Int) < (k : Int)) = true := decide_eq_true (by omega)
          have hj0 : (j : Int) < (k : Int) := by omega
          have e1 : setD D i0 E i0 = E := if_pos rfl
          have x4 := hM.cellH i0 (Nat.lt_succ_self _) hlt
          have hrow := hM.row i0 (Nat.lt_succ_self _)
          rw [e1] at x4 hrow
          have hNE : N < E := by
            have h1 := hM.lo i0 (Nat.lt_succ_self _)
            have h2 := hM.ne i0 (Nat.lt_succ_self _)
            rw [e1] at h1 h2
            omega
          have HROW := Lib.hid hrow
          have HE1 := Lib.hid e1
          have HFr := Lib.hid (HF.out.below hB hbN)
          have HNEZ := Lib.hid (cau_ne k i0 j (by omega) (by omega) (by omega))
          have b1 : Value.int .u8 ((k : Int) + (i0 : Int)) = B (BitVec.ofNat 8 (k + i0)) := (B_ofNat (k + i0) (by omega)).symm
          have b2 : Value.int .u8 (j : Int) = B (BitVec.ofNat 8 j) := (B_ofNat j (by omega)).symm
          have hcv : ∀ w, (convert 3 5 (.int .i64 ((k : Int) + (i0 : Int)))).run Tryz.prog w = .ok (B (BitVec.ofNat 8 (k + i0))) w := fun w => convIB (k + i0) w
          have hcw : ∀ w, (convert 3 5 (.int .i64 (j : Int))).run Tryz.prog w = .ok (B (BitVec.ofNat 8 j)) w := fun w => convIB j w
          have hw : IntKind.i64.wrap ((k : Int) + (i0 : Int)) = (k : Int) + (i0 : Int) := IntWalk.i64_in _ (by omega)
          have HCAU := Lib.hid (show cau k i0 j = gi (BitVec.ofNat 8 (k + i0) ^^^ BitVec.ofNat 8 j) from rfl)
          generalize BitVec.ofNat 8 (k + i0) = z1 at *
          generalize BitVec.ofNat 8 j = z2 at *
          have hElt : E < WP.heap.size := hrow.lt
          clear hM hB hrow e1
          go_wp2_with fail
          go_region_held3 (fun w' : World => w'.cell? ⟨N, i0, none⟩ = some (.slice (some ⟨E, 0, none⟩) k k)) (first | exact hs1 _ | exact x6 | exact x5 | exact x4 | go_keep) ((first | (go_at_call 272; refine (add_two _ z1 z2 _ _ (by exact Sl_two _ z1 z2 _)).mono ?_; rintro e w5 ⟨rfl, hD5⟩; have hb5 : Below WP.heap.size WP w5 := ((((Below.refl _ _).alloc (Nat.le_refl _) _).drew).trans (hD5.below _)); have x5 : w5.cell? ⟨N, i0, none⟩ = some (.slice (some ⟨E, 0, none⟩) k k) := (by rw [hb5.cell (World.block_lt_of_cell? WP _ x4)]; exact x4); have HB5 := Lib.hid hb5; clear hD5 hb5) | (go_at_call 271; refine (inverse_any b (z1 ^^^ z2) _ (HFr.out.of_below HB5.out) HNEZ.out).mono ?_; rintro e w6 ⟨rfl, hD6⟩; have x6 : w6.cell? ⟨N, i0, none⟩ = some (.slice (some ⟨E, 0, none⟩) k k) := (by rw [hD6.cell]; exact x5); have hr6 := (HROW.out.of_below HB5.out).dr hD6; have c1 : (w6.cell? ⟨E, j, none⟩).isSome = true := (by rw [hr6.cell j (by omega)]; rfl); have f1 : w6.frozen? ⟨E, j, none⟩ = false := hr6.free j; have hs1 : ∀ v, (w6.setCell ⟨E, j, none⟩ v).cell? ⟨N, i0, none⟩ = some (.slice (some ⟨E, 0, none⟩) k k) := (fun v => by rw [World.cell?_setCell_other _ _ _ _ (by intro e; injection e; omega)]; exact x6); have HR6 := Lib.hid hr6; have HD6 := Lib.hid hD6; clear hr6 hD6)))
          go_wp2
          go_roundw
          case rel =>
            have hb6 := HB5.out.trans (HD6.out.below WP.heap.size)
            have hr7 := (HR6.out.set j (B (gi (z1 ^^^ z2)))).congr (g' := fun x => B (if x < j + 1 then cau k i0 x else 0#8)) fun x hx => by
              by_cases h : x = j
              · rw [if_pos h, if_pos (by omega), h, HCAU.out]
              · rw [if_neg h, setr, if_pos rfl]
                by_cases h2 : x < j
                · rw [if_pos h2, if_pos (by omega)]
                · rw [if_neg h2, if_neg (by omega)]
            have hk7 := (((Kp.refl E WP).of_below hb6).setCell j (B (gi (z1 ^^^ z2))))
            have hm7 := HM.out.alter (D := setD D i0 E) i0 (Nat.lt_succ_self _) _ (by rw [HE1.out]; exact hk7) (by rw [HE1.out]; exact hr7)
            refine ⟨j + 1, by omega, by go_num, hm7.congr fun x y _ _ => ?_, HB.out.trans (hk7.below (Nat.le_of_lt hNE) (by omega))⟩
            unfold setr
            by_cases e : x = i0
            · rw [if_pos e, if_pos e]
            · rw [if_neg e, if_neg e, if_neg e]
          case measure => simp [intOf]; omega
        · have hdj : decide ((j : Int) < (k : Int)) = false := decide_eq_false (by omega)
          obtain rfl : j = k := by omega
          clear hM hB
          go_wp2
          go_roundw
          case rel =>
            refine ⟨i0 + 1, by omega, by go_num, _, HM.out.congr fun x y _ hy => ?_, HB.out⟩
            unfold setr
            by_cases e : x = i0
            · rw [if_pos e, e]
              exact if_pos hy
            · rw [if_neg e]
          case measure => simp [intOf]; omega
    · have hd0 : decide ((i0 : Int) < (m : Int)) = false := decide_eq_false (by omega)
      obtain rfl : i0 = m := by omega
      clear hM hB
      go_wp2
      go_ret2
      exact ⟨_, D, rfl, ⟨HM.out.hds, HM.out.row, HM.out.inj, HM.out.ne, fun i hi => Nat.le_trans hNb (HM.out.lo i hi), Nat.le_trans hNb HM.out.loG⟩, HB1.out.trans (HBr.out.mono hNb)⟩
end Go.Proofs.YtnmopjefjpifoaaGreatDoor
/- The reference's Even and Parity. -/
set_option maxRecDepth 100000
namespace Go.Proofs.YtnmopjefjpifoaaGreatDoor
open Go Go.RowKit

end Go.Proofs.YtnmopjefjpifoaaGreatDoor
/- Worlds that go on; a new field. -/
set_option maxRecDepth 100000
namespace Go.Proofs.YtnmopjefjpifoaaGreatDoor
open Go Go.RowKit

theorem bel_step {w0 w w' : World} (h : Below w0.heap.size w0 w) (k : Below w.heap.size w w') : Below w0.heap.size w0 w' := h.trans (k.mono h.size)
end Go.Proofs.YtnmopjefjpifoaaGreatDoor
/- Rows and columns cut out of a Cauchy matrix; nothing of the program. -/
set_option maxRecDepth 100000
namespace Go.Proofs.YtnmopjefjpifoaaGreatDoor

/-- Different numbers below m. -/
def Picks (m : Nat) (l : List Nat) : Prop := ∀ i, i < l.length → l.getD i 0 < m ∧ ∀ j, j < i → l.getD i 0 ≠ l.getD j 0
theorem Picks.nil (m : Nat) : Picks m [] := fun i hi => absurd hi (by simp)
theorem Picks.push {m : Nat} {l : List Nat} (h : Picks m l) (a : Nat) (ha : a < m) (hd : ∀ j, j < l.length → l.getD j 0 ≠ a) : Picks m (l ++ [a]) := by
  have e1 : ∀ i, i < l.length → (l ++ [a]).getD i 0 = l.getD i 0 := fun i hi => by simp [List.getD_eq_getElem?_getD, List.getElem?_append_left hi]
  have e2 : (l ++ [a]).getD l.length 0 = a := by simp [List.getD_eq_getElem?_getD]
  intro i hi
  rw [List.length_append] at hi
  have h1 : ([a] : List Nat).length = 1 := rfl
  by_cases h2 : i < l.length
  · rw [e1 i h2]
    exact ⟨(h i h2).1, fun j hj => by rw [e1 j (by omega)]; exact (h i h2).2 j hj⟩
  · obtain rfl : i = l.length := by omega
    rw [e2]
    exact ⟨ha, fun j hj => by rw [e1 j hj]; exact (hd j hj).symm⟩
/-- What is cut out. -/
def cutM (k : Nat) (rl sl : List Nat) : Mx := fun i j => cau k (rl.getD i 0) (sl.getD j 0)
theorem ofNat8_ne (a b : Nat) (ha : a < 256) (hb : b < 256) (h : a ≠ b) : BitVec.ofNat 8 a ≠ BitVec.ofNat 8 b := fun e => h (by
  have := congrArg BitVec.toNat e
  simp only [BitVec.toNat_ofNat] at this
  omega)
theorem picks_ne {m : Nat} {l : List Nat} (h : Picks m l) (i j : Nat) (hi : i < l.length) (hj : j < l.length) (hij : i ≠ j) : l.getD i 0 ≠ l.getD j 0 := by
  rcases Nat.lt_or_gt_of_ne hij with h1 | h1
  · exact ((h j hj).2 i h1).symm
  · exact (h i hi).2 j h1
theorem cut_not (k m t : Nat) (rl sl : List Nat) (hk : k ≤ 64) (hm : m ≤ 64) (hr : Picks m rl) (hs : Picks k sl) (h1 : rl.length = t) (h2 : sl.length = t) : ¬ NoInv t (mx (rowsL t t (cutM k rl sl))) := fun h => by
  obtain ⟨v, l, hl, hv, h3⟩ := h.kernel
  have hrm : ∀ i, i < t → rl.getD i 0 < m := fun i hi => (hr i (by omega)).1
  have hsk : ∀ j, j < t → sl.getD j 0 < k := fun j hj => (hs j (by omega)).1
  have h0 := cauchy_kernel t (fun i => BitVec.ofNat 8 (k + rl.getD i 0)) (fun j => BitVec.ofNat 8 (sl.getD j 0))
    (fun i j hi hj hij => ofNat8_ne _ _ (by have := hrm i hi; omega) (by have := hrm j hj; omega) (fun e => picks_ne hr i j (by omega) (by omega) hij (by omega)))
    (fun i j hi hj hij => ofNat8_ne _ _ (by have := hsk i hi; omega) (by have := hsk j hj; omega) (picks_ne hs i j (by omega) (by omega) hij))
    (fun i j hi hj => ofNat8_ne _ _ (by have := hrm i hi; omega) (by have := hsk j hj; omega) (by have := hsk j hj; omega))
    v (fun i hi => by
      rw [← h3 i hi]
      exact xs_congr fun j hj => by rw [rowsL_mx _ _ _ _ _ hi hj]; rfl) l hl
  rw [hv] at h0
  exact absurd h0 (by decide)
end Go.Proofs.YtnmopjefjpifoaaGreatDoor
/- Any k rows of the unit above a Cauchy matrix have an inverse; nothing of the program. -/
set_option maxRecDepth 100000
namespace Go.Proofs.YtnmopjefjpifoaaGreatDoor

/-- The unit above the Cauchy matrix: row i of all shards. -/
def ext (k : Nat) : Mx := fun i j => if i < k then id1 i j else cau k (i - k) j
/-- A sum over all numbers below n is the sum over those of which p holds, if nothing is added elsewhere. -/
theorem xs_filter (n : Nat) (p : Nat → Bool) (f : Nat → BitVec 8) (h : ∀ i, i < n → p i = false → f i = 0#8) : xs n f = xs ((List.range n).filter p).length (fun t => f (((List.range n).filter p).getD t 0)) := by
  induction n with
  | zero => rfl
  | succ n ih =>
    show xs n f ^^^ f n = _
    rw [ih fun i hi => h i (by omega)]
    rw [List.range_succ, List.filter_append]
    cases hp : p n with
    | true =>
      have e1 : List.filter p [n] = [n] := by simp [hp]
      rw [e1, List.length_append]
      show _ = xs (((List.range n).filter p).length + 1) _
      show _ = xs ((List.range n).filter p).length _ ^^^ _
      have e2 : (((List.range n).filter p) ++ [n]).getD ((List.range n).filter p).length 0 = n := by simp [List.getD_eq_getElem?_getD]
      have e3 : (fun t => f ((((List.range n).filter p) ++ [n]).getD t 0)) ((List.range n).filter p).length = f n := by
        show f _ = f n
        rw [e2]
      rw [e3]
      congr 1
      exact xs_congr fun t ht => by simp [List.getD_eq_getElem?_getD, List.getElem?_append_left ht]
    | false =>
      have e1 : List.filter p [n] = [] := by simp [hp]
      rw [e1, List.append_nil, h n (by omega) hp, BitVec.xor_zero]
end Go.Proofs.YtnmopjefjpifoaaGreatDoor
/- What the program's codes are asked to do, whatever they look like in memory: the premises of layer 4's walks. -/
set_option maxRecDepth 100000
namespace Go.Proofs.YtnmopjefjpifoaaGreatDoor
open Go Go.RowKit

/-- The bools that lie where a slice of their number begins. -/
def Bl (w : World) (q : Option Addr) (th : List Bool) : Prop := ∀ j, j < th.length → ∃ c o, q = some ⟨c, o, none⟩ ∧ w.cell? ⟨c, o + j, none⟩ = some (.bool (th.getD j false))
/-- The shards that are there. -/
def thereL (ls : List (List (BitVec 8))) (th : List Bool) : List (List (BitVec 8)) := ((List.range ls.length).filter fun i => th.getD i false).map fun i => ls.getD i []
theorem bs00 (w : World) : (bsT 53 2 #[(0, .int .u8 0), (1, .int .u8 0)]).run Tryz.prog w = .ok (.value (.slice (some ⟨w.heap.size, 0, none⟩) 2 2)) (w.alloc (.cells #[B 0#8, B 0#8] 5)) := by
  rw [B_0]; kernel_rfl
attribute [local go_sem ↓] exec_bs
attribute [local go_sem] bs00 bsR
end Go.Proofs.YtnmopjefjpifoaaGreatDoor
/- Slices of ints of the call's own, two side by side; a matrix whose rows are appended to. -/
set_option maxRecDepth 100000
namespace Go.Proofs.YtnmopjefjpifoaaGreatDoor
open Go Go.RowKit

theorem infoIV : (Tryz.prog.info? 3).map (fun i => (i.zero, i.size, i.bytes)) = some (some (.int .i64 0), 1, 8) := by kernel_rfl
theorem undIV : Tryz.prog.underlying 70 = some (.slice 3) := by kernel_rfl
def vI (n : Nat) : Value := .int .i64 (n : Int)
/-- The slice v, among the blocks from base on, holds the ints l. -/
def OwnIV (w : World) (base : Nat) (v : Value) (l : List Nat) : Prop := w.ownsRow base 3 1 v l.length (l.map vI)
section
variable {w w' : World} {base : Nat} {v : Value} {l : List Nat}
theorem OwnIV.lt (h : OwnIV w base v l) : ∀ k, v.ownBlock = some k → base ≤ k ∧ k < w.heap.size := World.ownsRow.lt h
theorem OwnIV.keep (h : OwnIV w base v l) (hb : ∀ k, v.ownBlock = some k → w'.heap[k]? = w.heap[k]?) : OwnIV w' base v l := by
  refine ⟨h.1, ?_⟩
  rcases h.2 with h' | ⟨g, cap, cur, hv, h1, hg, r⟩
  · exact .inl h'
  · exact .inr ⟨g, cap, cur, hv, h1, by rw [hb g (by rw [hv]; rfl)]; exact hg, r⟩
theorem OwnIV.of_below (h : OwnIV w base v l) (k : Below w.heap.size w w') : OwnIV w' base v l := h.keep fun g hg => k.block g (h.lt g hg).2
theorem OwnIV.nil (w : World) (base : Nat) : OwnIV w base (.slice none 0 0) [] := ⟨rfl, .inl ⟨rfl, rfl⟩⟩
theorem OwnIV.cells (h : OwnIV w base v l) : ∃ p cap, v = .slice p l.length cap ∧ ∀ j, j < l.length → ∃ g, p = some ⟨g, 0, none⟩ ∧ w.cell? ⟨g, j, none⟩ = some (.int .i64 ((l.getD j 0 : Nat) : Int)) := by
  rcases h.2 with ⟨hv, hl⟩ | ⟨g, cap, cur, hv, _, hg, hle, _, hsz, ht⟩
  · exact ⟨none, 0, by rw [hv, hl], fun j hj => absurd hj (by omega)⟩
  · refine ⟨some ⟨g, 0, none⟩, cap, hv, fun j hj => ⟨g, rfl, ?_⟩⟩
    rw [cell_of_row w g j cur 3 (0, 0) hg]
    have h1 : (cur.toList.take (l.length * 1))[j]? = (l.map vI)[j]? := by rw [ht]
    rw [List.getElem?_take, if_pos (by omega)] at h1
    simpa [hj, vI] using h1
end
/-- Two such slices, apart from each other. -/
structure Pr (w : World) (N : Nat) (r s : Value) (rl sl : List Nat) : Prop where
  own1 : OwnIV w N r rl
  own2 : OwnIV w N s sl
  sep : ∀ g, r.ownBlock = some g → s.ownBlock ≠ some g
section
variable {w w' : World} {N : Nat} {r s : Value} {rl sl : List Nat}
theorem Pr.symm (h : Pr w N r s rl sl) : Pr w N s r sl rl := ⟨h.own2, h.own1, fun g e1 e2 => h.sep g e2 e1⟩
theorem Pr.nil (w : World) (N : Nat) : Pr w N (.slice none 0 0) (.slice none 0 0) [] [] := ⟨OwnIV.nil w N, OwnIV.nil w N, fun g e => by cases e⟩
theorem Pr.of_below (h : Pr w N r s rl sl) (k : Below w.heap.size w w') : Pr w' N r s rl sl := ⟨h.own1.of_below k, h.own2.of_below k, h.sep⟩
theorem Pr.push (h : Pr w N r s rl sl) {g n c : Nat} {rl' : List Nat} (hO : OwnIV w' N (.slice (some ⟨g, 0, none⟩) n c) rl') (hg : w.grownBy w' r.ownBlock) (hor : r.ownBlock = some g ∨ g = w.heap.size) : Pr w' N (.slice (some ⟨g, 0, none⟩) n c) s rl' sl := by
  refine ⟨hO, h.own2.keep fun k hk => hg.block k (h.own2.lt k hk).2 fun e => h.sep k e.symm hk, fun k hk e => ?_⟩
  have hk' : g = k := by simpa [Value.ownBlock] using hk
  subst hk'
  rcases hor with h1 | h1
  · exact h.sep g h1 e
  · have := (h.own2.lt g e).2
    omega
end
theorem bs1I (x : Int) (w : World) : (bsT 70 1 #[(0, .int .i64 x)]).run Tryz.prog w = .ok (.value (.slice (some ⟨w.heap.size, 0, none⟩) 1 1)) (w.alloc (.cells #[.int .i64 x] 3)) := by kernel_rfl
theorem bs1B (x : BitVec 8) (w : World) : (bsT 53 1 #[(0, B x)]).run Tryz.prog w = .ok (.value (.slice (some ⟨w.heap.size, 0, none⟩) 1 1)) (w.alloc (.cells #[B x] 5)) := by kernel_rfl
/-- One int appended. -/
theorem wpl_pushI {ops : Array Oper} {rest : List Oper} {o : Oper} {a : Act} {Q : Exit → Act → World → Prop} (w : World) (hgd : o.guard = none) (s x : Operand)
    (ho : o.op = .call { callee := .builtin .append, args := #[s, x], argTypes := #[70, 70] })
    (base : Nat) (v : Value) (l : List Nat) (hs : a.eval s = v) (hown : OwnIV w base v l) (ad : Addr) (hx : a.eval x = .slice (some ad) 1 1) (u : Nat) (hc : w.cell? ad = some (.int .i64 (u : Int)))
    (n0 : Nat) (hn0 : l.length = n0) (hlen : n0 < 100000000) (hb : base ≤ w.heap.size)
    (h : ∀ g cap' w', OwnIV w' base (.slice (some ⟨g, 0, none⟩) (n0 + 1) cap') (l ++ [u]) → w.grownBy w' v.ownBlock → (v.ownBlock = some g ∨ g = w.heap.size) → wpList Tryz.prog ops Q rest (a.put o.dst (.slice (some ⟨g, 0, none⟩) (n0 + 1) cap')) w') : wpList Tryz.prog ops Q (o :: rest) a w := by
  subst hn0
  obtain ⟨i0, hi, hz0, hz1, hz2⟩ := info_parts infoIV
  exact wpList_append_lies (P := Tryz.prog) (w := w) hgd s x 70 ho base 3 i0 (.int .i64 0) 1 8 undIV hi hz0 hz1 hz2 rfl (by decide) v l.length (l.map vI) hs hown ad 1 1 [vI u] hx rfl
    (fun j u' hu => by
      have : j = 0 := by
        rcases Nat.eq_zero_or_pos j with h | h
        · exact h
        · rw [List.getElem?_eq_none (by simp; omega)] at hu; cases hu
      subst this
      rw [Addr.add_zero', hc]
      simpa [vI] using hu)
    (by intro u' hu; simp at hu; subst hu; rfl) (by decide) (by simp only [maxLen]; omega) (by omega) hb w.heap.size rfl
    (fun g cap' w' h2 h3 h4 _ => h g cap' w' (by unfold OwnIV; rw [List.length_append, List.map_append]; exact h2) h3 h4)
/-- One byte appended, at a step of a region that draws its order. -/
theorem step_pushB {ops : Array Oper} {o : Oper} {a : Act} {w : World} {K : Act → World → Prop} {Q : Exit → Act → World → Prop} {E : Prop} (hgd : o.guard = none) (s x : Operand)
    (ho : o.op = .call { callee := .builtin .append, args := #[s, x], argTypes := #[53, 53] })
    (base : Nat) (v : Value) (l : List (BitVec 8)) (hs : a.eval s = v) (hown : OwnB w base v l) (ad : Addr) (hx : a.eval x = .slice (some ad) 1 1) (u : BitVec 8) (hc : w.cell? ad = some (B u))
    (n0 : Nat) (hn0 : l.length = n0) (hlen : n0 < 100000000) (hb : base ≤ w.heap.size)
    (h : ∀ g cap' w', OwnB w' base (.slice (some ⟨g, 0, none⟩) (n0 + 1) cap') (l ++ [u]) → w.grownBy w' v.ownBlock → (v.ownBlock = some g ∨ g = w.heap.size) → K (a.put o.dst (.slice (some ⟨g, 0, none⟩) (n0 + 1) cap')) w') :
    if Region.wanted o (yielded ops a.tmps) = true then Oper.wp Tryz.prog o a w K Q else E := by
  subst hn0
  obtain ⟨i0, hi, hz0, hz1, hz2⟩ := info_parts info5
  exact step_append_lies (P := Tryz.prog) (w := w) hgd s x 53 ho base 5 i0 (.int .u8 0) 1 1 und35 hi hz0 hz1 hz2 rfl (by decide) v l.length (l.map B) hs hown ad 1 1 [B u] hx rfl
    (fun j u' hu => by
      have : j = 0 := by
        rcases Nat.eq_zero_or_pos j with h | h
        · exact h
        · rw [List.getElem?_eq_none (by simp; omega)] at hu; cases hu
      subst this
      rw [Addr.add_zero', hc]
      simpa using hu)
    (by intro u' hu; simp at hu; subst hu; exact one_B u) (by decide) (by simp only [maxLen]; omega) (by omega) hb w.heap.size rfl
    (fun g cap' w' h2 h3 h4 _ => h g cap' w' (by unfold OwnB; rw [List.length_append, List.map_append]; exact h2) h3 h4)
/-- Block G holds the headers of t rows that are appended to. -/
structure Ct (w : World) (N G t : Nat) (V : Nat → Value) (L : Nat → List (BitVec 8)) : Prop where
  hds : Row w G 53 t V
  own : ∀ i, i < t → OwnB w N (V i) (L i)
  sep : ∀ i j, i < t → j < t → i ≠ j → ∀ g, (V i).ownBlock = some g → (V j).ownBlock ≠ some g
  neG : ∀ i, i < t → (V i).ownBlock ≠ some G
  loG : N ≤ G
def setV (V : Nat → Value) (i : Nat) (v : Value) : Nat → Value := fun j => if j = i then v else V j
def setL (L : Nat → List (BitVec 8)) (i : Nat) (l : List (BitVec 8)) : Nat → List (BitVec 8) := fun j => if j = i then l else L j
section
variable {w w' : World} {N G t : Nat} {V : Nat → Value} {L L' : Nat → List (BitVec 8)}
theorem OwnB.nilB (w : World) (base : Nat) : OwnB w base (.slice none 0 0) [] := ⟨rfl, .inl ⟨rfl, rfl⟩⟩
theorem Ct.zero (h : Row w G 53 t (fun _ => .slice none 0 0)) (hN : N ≤ G) : Ct w N G t (fun _ => .slice none 0 0) (fun _ => []) :=
  ⟨h, fun i _ => OwnB.nilB w N, (fun i j _ _ _ g e => by cases e), (fun i _ e => by cases e), hN⟩
theorem Ct.congr (h : Ct w N G t V L) (e : ∀ i, i < t → L i = L' i) : Ct w N G t V L' := ⟨h.hds, fun i hi => by rw [← e i hi]; exact h.own i hi, h.sep, h.neG, h.loG⟩
theorem Ct.of_below (h : Ct w N G t V L) (k : Below w.heap.size w w') : Ct w' N G t V L := ⟨h.hds.of_below k, fun i hi => (h.own i hi).of_below k, h.sep, h.neG, h.loG⟩
theorem Ct.push (h : Ct w N G t V L) (i : Nat) (hi : i < t) {g n c : Nat} {l : List (BitVec 8)} (hO : OwnB w' N (.slice (some ⟨g, 0, none⟩) n c) l) (hg : w.grownBy w' (V i).ownBlock) (hor : (V i).ownBlock = some g ∨ g = w.heap.size) :
    Ct (w'.setCell ⟨G, i, none⟩ (.slice (some ⟨g, 0, none⟩) n c)) N G t (setV V i (.slice (some ⟨g, 0, none⟩) n c)) (setL L i l) := by
  have hGl := h.hds.lt
  have hgG : g ≠ G := by
    rcases hor with h1 | h1
    · intro e; subst e; exact h.neG i hi h1
    · omega
  have hrow : Row w' G 53 t V := h.hds.of_block (hg.block G hGl (Ne.symm (h.neG i hi)))
  have ob : (Value.slice (some ⟨g, 0, none⟩) n c).ownBlock = some g := rfl
  have far : ∀ j, j < t → j ≠ i → (V j).ownBlock ≠ some g := fun j hj hne e => by
    rcases hor with h1 | h1
    · exact h.sep i j hi hj (Ne.symm hne) g h1 e
    · have := ((h.own j hj).lt g e).2
      omega
  refine ⟨(hrow.set i _).congr fun j _ => rfl, fun j hj => ?_, fun p q hp hq hpq k e1 e2 => ?_, fun j hj => ?_, h.loG⟩
  · unfold setV setL
    by_cases e : j = i
    · rw [if_pos e, if_pos e]
      exact hO.keep fun k hk => Below.heap_setCell _ _ _ _ (by rw [ob] at hk; injection hk with hk; subst hk; exact hgG)
    · rw [if_neg e, if_neg e]
      refine (h.own j hj).keep fun k hk => ?_
      rw [Below.heap_setCell _ _ _ _ (show k ≠ G from fun e => by subst e; exact h.neG j hj hk)]
      exact hg.block k ((h.own j hj).lt k hk).2 fun e2 => h.sep i j hi hj (Ne.symm e) k e2.symm hk
  · unfold setV at e1 e2
    by_cases h1 : p = i
    · rw [if_pos h1, ob] at e1
      rw [if_neg (by omega)] at e2
      injection e1 with e1
      subst e1
      exact far q hq (by omega) e2
    · rw [if_neg h1] at e1
      by_cases h2 : q = i
      · rw [if_pos h2, ob] at e2
        injection e2 with e2
        subst e2
        exact far p hp h1 e1
      · rw [if_neg h2] at e2
        exact h.sep p q hp hq hpq k e1 e2
  · unfold setV
    by_cases e : j = i
    · rw [if_pos e, ob]
      intro e2
      injection e2 with e2
      exact hgG e2
    · rw [if_neg e]; exact h.neG j hj
theorem Ct.prt (h : Ct w N G t V L) : Prt w (some ⟨G, 0, none⟩) ((List.range t).map L) := fun i hi => by
  have hi' : i < t := by simpa using hi
  have e : ((List.range t).map L).getD i [] = L i := by simp [List.getD_eq_getElem?_getD, hi']
  rw [e]
  obtain ⟨q, c, hv, hs, hq, hle⟩ := (h.own i hi').shape
  exact ⟨G, 0, q, c, rfl, by rw [Nat.zero_add, h.hds.cell i hi', hv], hs, hq, hle⟩
end
end Go.Proofs.YtnmopjefjpifoaaGreatDoor
/- Slices of bools of the call's own; slices.Clone of bools. -/
set_option maxRecDepth 100000
namespace Go.Proofs.YtnmopjefjpifoaaGreatDoor
open Go Go.RowKit

theorem elBo12 : ElK 85 4 (.bool false) 1 1 := ⟨by kernel_rfl, by kernel_rfl, rfl, by decide, by decide⟩
/-- The slice v, among the blocks from base on, holds the bools l. -/
def OwnBl (w : World) (base : Nat) (v : Value) (l : List Bool) : Prop := w.ownsRow base 4 1 v l.length (l.map Value.bool)
section
variable {w w' : World} {base : Nat} {v : Value} {q : Option Addr} {l : List Bool}
theorem Bl.of_below (h : Bl w q l) (k : Below w.heap.size w w') : Bl w' q l := fun j hj => by
  obtain ⟨c, o, e, hc⟩ := h j hj
  exact ⟨c, o, e, by rw [k.cell (by exact World.block_lt_of_cell? w _ hc)]; exact hc⟩
theorem Bl.lsc (h : Bl w q l) : LsC w q (l.map Value.bool) := fun j hj => by
  have hj' : j < l.length := by simpa using hj
  obtain ⟨c, o, e, hc⟩ := h j hj'
  exact ⟨c, o, e, by rw [hc]; simp [hj', List.getD_eq_getElem?_getD]⟩
theorem OwnBl.lt (h : OwnBl w base v l) : ∀ k, v.ownBlock = some k → base ≤ k ∧ k < w.heap.size := World.ownsRow.lt h
theorem OwnBl.of_below (h : OwnBl w base v l) (k : Below w.heap.size w w') : OwnBl w' base v l := own_below h k
theorem OwnBl.keep (h : OwnBl w base v l) (hb : ∀ k, v.ownBlock = some k → w'.heap[k]? = w.heap[k]?) : OwnBl w' base v l := own_keep h hb
theorem OwnBl.nil (w : World) (base : Nat) : OwnBl w base (.slice none 0 0) [] := ⟨rfl, .inl ⟨rfl, rfl⟩⟩
theorem OwnBl.shape (h : OwnBl w base v l) : ∃ q cap, v = .slice q l.length cap ∧ Bl w q l ∧ (q = none → cap = 0) ∧ l.length ≤ cap := by
  obtain ⟨p, cap, e, hs, h1, h2, -⟩ := own_shape h
  refine ⟨p, cap, e, fun j hj => ?_, h1, h2⟩
  obtain ⟨c, o, e2, hc⟩ := hs j (by simpa using hj)
  exact ⟨c, o, e2, by rw [hc]; simp [hj, List.getD_eq_getElem?_getD]⟩
theorem OwnBl.row (h : OwnBl w base v l) (hl : 0 < l.length) : ∃ G cap f, v = .slice (some ⟨G, 0, none⟩) l.length cap ∧ base ≤ G ∧ l.length ≤ cap ∧ Row w G 4 cap f ∧ ∀ j, j < l.length → f j = .bool (l.getD j false) := by
  rcases h.2 with ⟨-, h0⟩ | ⟨g, cap, cur, hv, hb, hg, hle, _, hsz, ht⟩
  · omega
  · have hcap : cur.size = cap := by omega
    refine ⟨g, cap, fun j => cur.getD j default, hv, hb, hle, ?_, fun j hj => ?_⟩
    · unfold Row
      rw [hg]
      congr 2
      apply Array.ext
      · rw [hcap]; simp [tab]
      · intro i h1 h2
        simp [tab, h1]
    · have h1 : (cur.toList.take (l.length * 1))[j]? = (l.map Value.bool)[j]? := by rw [ht]
      rw [List.getElem?_take, if_pos (by omega)] at h1
      have hj2 : j < cur.size := by omega
      simp [hj2, hj, List.getD_eq_getElem?_getD] at h1 ⊢
      exact h1
end
theorem nilBl_yes (w : World) : (binOp BinOp.eql 85 (.slice none 0 0) (.slice none 0 0)).run Tryz.prog w = .ok (.bool true) w := by kernel_rfl
theorem nilBl_no (a : Addr) (n cap : Nat) (w : World) : (binOp BinOp.eql 85 (.slice (some a) n cap) (.slice none 0 0)).run Tryz.prog w = .ok (.bool false) w := by kernel_rfl
attribute [local go_sem] nilBl_yes nilBl_no
set_option maxRecDepth 100000 in
set_option maxHeartbeats 1000000 in
theorem cloneBl_any (l : List Bool) (p : Addr) (n cap : Nat) (w : World) (hl : l.length = n) (hs : Bl w (some p) l) (hn : n < 1000000) : Calls Tryz.prog 240 #[.slice (some p) n cap] w (fun e w' => ∃ v, e = .returned v ∧ OwnBl w' w.heap.size v l ∧ Below w.heap.size w w') := by
  have HSE := Lib.hid (hs.of_below (show Below w.heap.size w (w.alloc (.cells #[] 4)) from (Below.refl _ _).alloc (Nat.le_refl _) _)).lsc
  have HO := Lib.hid (own_empty (E := 4) (k := 1) w w.heap.size (Nat.le_refl _))
  have HB := Lib.hid (show Below w.heap.size w (w.alloc (.cells #[] 4)) from (Below.refl _ _).alloc (Nat.le_refl _) _)
  have HL := Lib.hid (show (l.map Value.bool).length = n * 1 by rw [List.length_map]; omega)
  have hsz : w.heap.size ≤ (w.alloc (.cells #[] 4)).heap.size := by rw [World.size_alloc]; omega
  have HON := Lib.hid (show ∀ u ∈ l.map Value.bool, u.oneCell' = true from fun u hu => by
    obtain ⟨b, -, rfl⟩ := List.mem_map.1 hu; rfl)
  have HL0 := Lib.hid hl
  clear hs hl
  go_enter Tryz.func240, Tryz.ntmps240
  go_wp2_with (first | (refine wpl_appendK elBo12 _ rfl (.tmp 5) (.tmp 6) rfl w.heap.size (v := .slice (some ⟨w.heap.size, 0, none⟩) 0 0) (n := 0) (cs := []) rfl HO.out (some p) n cap (l.map Value.bool) HL.out rfl HSE.out (fun h => by cases h) HON.out (by omega) hsz ?_; rintro v3 w3 hO3 hg3 -; rw [List.nil_append] at hO3; have HO3 := Lib.hid hO3; have HG3 := Lib.hid hg3; clear hO3 hg3))
  go_wp2
  go_ret
  exact ⟨_, rfl, (by have h := HO3.out; unfold OwnBl; rw [HL0.out]; rw [Nat.zero_add] at h; exact h), HB.out.grown HG3.out hsz (fun k hk => by have : w.heap.size = k := (by simpa [Value.ownBlock] using hk); omega)⟩
end Go.Proofs.YtnmopjefjpifoaaGreatDoor
/- The reference's parity. -/
set_option maxRecDepth 100000
namespace Go.Proofs.YtnmopjefjpifoaaGreatDoor
open Go Go.RowKit

attribute [local go_sem ↓] exec_bs exec_make exec_store
attribute [local go_sem] bs0 bsR st_B st_I st_b mkB
end Go.Proofs.YtnmopjefjpifoaaGreatDoor
/- A range over an iterator that writes nothing: the law, and what such an iterator owes. -/
set_option maxRecDepth 100000
namespace Go.Proofs.YtnmopjefjpifoaaGreatDoor
open Go Go.RowKit Go.Shelf

/-- A call of yield: it goes on, block b as it was; or it says that there is to be no more. -/
def YieldsP {α : Type} (m l : Nat) (encs : α → Array Value) (b : Nat) (xs : List α) (J Jx : List α → World → Prop) : Prop :=
  ∀ pre x A, pre ++ [x] <+: xs → J pre A → YieldAt Fence.wide m Tryz.prog l (encs x) A fun e A' =>
    (e = .returned (.bool true) ∧ J (pre ++ [x]) A' ∧ A'.heap[b]? = A.heap[b]?) ∨ (e = .returned (.bool false) ∧ Jx (pre ++ [x]) A')
/-- The iterator hands out xs; it writes nothing, and reads block b. -/
def SeqP {α : Type} (m g : Nat) (lb : Array Value) (encs : α → Array Value) (b : Nat) (xs : List α) (w : World) : Prop :=
  ∀ (l : Nat) (J Jx : List α → World → Prop) (A : World), Below w.heap.size w A → (∀ pre B k, J pre B → J pre (B.drewN k)) →
    YieldsP (m - 1) l encs b xs J Jx → J [] A →
    CallsIn Fence.wide m Tryz.prog g (#[.func (.yield l) #[] #[]] ++ lb) A fun e A' => (∃ v, e = .returned v) ∧ (J xs A' ∨ ∃ pre, pre <+: xs ∧ Jx pre A')
/-- How the body may be left: it goes on, or returns. -/
def bodyOutP {α : Type} (b : Nat) (I Ix : List α → World → Prop) (xs : List α) (A : World) : Exit → Act → World → Prop
  | .normal, _, A' => KeepsOthers A A' ∧ A'.heap[b]? = A.heap[b]? ∧ I xs A'
  | .ret, _, A' => KeepsOthers A A' ∧ Ix xs A'
  | _, _, _ => False
/-- What a caller's invariant must bear: new blocks, the loop's own blocks, draws. -/
structure BearsP {α : Type} (N : Nat) (I : List α → World → Prop) : Prop where
  new : ∀ pre A o, I pre A → I pre (A.alloc o)
  put : ∀ pre A o, N + 1 < A.heap.size → I pre A → I pre (A.putObj (N + 1) o)
  drew : ∀ pre A k, I pre A → I pre (A.drewN k)
theorem below_putP {N k : Nat} {A : World} (o : Obj) (hk : N ≤ k) (hlt : k < A.heap.size) : Below N A (A.putObj k o) :=
  (Below.refl N A).grown (grownBy_putObj' A k o) (by omega) (fun j e => by cases e; exact hk)
theorem BearsP.put' {α : Type} {N n : Nat} {I : List α → World → Prop} (hI : BearsP N I) (hn : N = n) {pre : List α} {A : World} {o : Obj} (hlt : n + 1 < A.heap.size) (h : I pre A) : I pre (A.putObj (n + 1) o) := by
  subst hn
  exact hI.put pre A o hlt h
theorem range_pure {α : Type} {g : Operand} {ps : Array Tmp} {assign body : Code} {Q : Exit → Act → World → Prop} {a : Act} {w : World} {m : Nat} (hm : 1 ≤ m)
    {gf : Nat} {lb : Array Value} (hg : a.eval g = .func (.func gf) #[] lb) (eg : ∀ args w, (callFunc gf args).run Tryz.prog w = .ok (.enter gf args) w)
    {encs : α → Array Value} (hps : ∀ x, (encs x).size = ps.size) {b : Nat} (hb : b < w.heap.size) {xs : List α} (hseq : SeqP (m - 1) gf lb encs b xs w)
    (I Ix : List α → World → Prop) (hI : BearsP w.heap.size I) (hIx : ∀ pre A o, w.heap.size + 1 < A.heap.size → Ix pre A → Ix pre (A.putObj (w.heap.size + 1) o)) (h0 : I [] w) (a₁ : α → Act)
    (hassign : ∀ (l : Nat) (x : α) (W : World) (K : Act → World → Prop), K (a₁ x) W →
      assign.wpIn (Fence.wide.inRound l) (m - 1 - 1) Tryz.prog (Exit.then K (fun _ _ _ => False)) { tmps := (ps.zip (encs x)).foldl (fun t (p, v) => t.setIfInBounds p v) a.tmps, defers := [] } W)
    (hbody : ∀ (l : Nat) (pre : List α) (x : α) (A : World), pre ++ [x] <+: xs → w.heap.size + 1 < A.heap.size → I pre A → body.wpIn (Fence.wide.inRound l) (m - 1 - 1) Tryz.prog (bodyOutP b I Ix (pre ++ [x]) A) (a₁ x) A)
    (hdone : ∀ (D : Nat) (A : World), D = w.heap.size → I xs A → A.heap[D]? = some (.deferred (some [])) → Q .normal { a with defers := { target := .collected D, args := #[] } :: a.defers } A)
    (hstop : ∀ (D : Nat) (pre : List α) (A : World), D = w.heap.size → pre <+: xs → Ix pre A → A.heap[D]? = some (.deferred (some [])) → Code.ret.wpIn Fence.wide m Tryz.prog Q { a with defers := { target := .collected D, args := #[] } :: a.defers } A) :
    (Code.rangeFunc g ps assign body).wpIn Fence.wide m Tryz.prog Q a w := by
  refine wpIn_rangeFunc fun fn hfn => ?_
  -- the loop's record (block n + 1) and the block of its deferred calls (block n)
  obtain ⟨n, hn⟩ : ∃ n, w.heap.size = n := ⟨_, rfl⟩
  have hIx' : ∀ {pre : List α} {A : World} {o : Obj}, n + 1 < A.heap.size → Ix pre A → Ix pre (A.putObj (n + 1) o) := fun {pre A o} h1 h2 => by rw [← hn] at h1 ⊢; exact hIx pre A o h1 h2
  have hbn : b < n := by omega
  obtain ⟨R, hR⟩ : ∃ R : LoopState → Option Code → Loop, R = fun st pe => { state := st, pending := pe, fn, tmps := a.tmps, params := ps, assign, body, defers := n } := ⟨_, rfl⟩
  obtain ⟨W, hW⟩ : ∃ W, (w.alloc (.deferred (some []))).alloc (.loop (R .ready none)) = W := ⟨_, rfl⟩
  have two : ∀ {A : World}, A.heap[n + 1]? = some (.loop (R .busy none)) ∨ A.heap[n + 1]? = some (.loop (R .ready none)) → n + 1 < A.heap.size := fun h => by
    rcases h with h | h <;> exact (Array.getElem?_eq_some_iff.1 h).1
  let At : LoopState → Option Code → World → Prop := fun st pe A => A.heap[n + 1]? = some (.loop (R st pe)) ∧ A.heap[n]? = some (.deferred (some []))
  have at0 : At .ready none W := by
    constructor
    · rw [← hW]
      have := World.alloc_heap_new (w.alloc (.deferred (some []))) (.loop (R .ready none))
      rwa [World.size_alloc, hn] at this
    · rw [← hW]
      have h1 := World.alloc_heap_new w (.deferred (some []))
      rw [hn] at h1
      exact (Below.heap_alloc _ _ _ (by simp; omega)).trans h1
  have putAt : ∀ {st st' : LoopState} {pe pe' : Option Code} {A : World}, At st pe A → At st' pe' (A.putObj (n + 1) (.loop (R st' pe'))) := fun h =>
    ⟨World.putObj_heap_same (Array.getElem?_eq_some_iff.1 h.1).1, (World.putObj_heap_other (by omega)).trans h.2⟩
  refine ⟨n + 1, [{ target := .collected n, args := #[] }], W, { target := .fn (.func gf) lb, args := #[.func (.yield (n + 1)) #[] #[]] }, W, gf, #[.func (.yield (n + 1)) #[] #[]] ++ lb, W, ?_, ?_, ?_, ?_, fun _ => hm, ?_⟩
  · rw [← hW, hR, ← hn]; exact run_enterLoop_outer _ _ _ _ _
  · simp only [resolve, hg]
    simp [go_sem]
  · intro f' hf'
    simp [Target.leads] at hf'
    subst hf'
    trivial
  · simp [invoke, go_sem, eg]
  · have hbel : Below w.heap.size w W := by rw [← hW]; exact ((Below.refl _ w).alloc (Nat.le_refl _) _).alloc (by simp) _
    refine (hseq (n + 1) (fun pre A => I pre A ∧ At .ready none A) (fun pre A => Ix pre A ∧ At .done (some .ret) A) W hbel
      (fun pre B k h => ⟨hI.drew pre B k h.1, h.2⟩)
      ?_ ⟨by rw [← hW]; exact hI.new _ _ _ (hI.new _ _ _ h0), at0⟩).mono ?_
    · rintro pre x A hpx ⟨hi, hat⟩
      have hlt := two (.inr hat.1)
      have hy := run_yield (P := Tryz.prog) (args := encs x) hat.1 (by rw [hR]; exact hps x)
      rw [hR] at hy
      refine ⟨fn, _, assign, body, hy, roundIn_of_wpIn hfn (hassign _ x A _ ⟨_, run_beginRound hat.1 (by rw [hR]), ?_⟩)⟩
      have hbusy : ({ R .ready none with state := .busy } : Loop) = R .busy none := by rw [hR]
      rw [hbusy]
      have hat2 : At .busy none (A.putObj (n + 1) (.loop (R .busy none))) := putAt hat
      refine wpIn_mono (hbody _ pre x _ hpx (by rw [hn]; exact Nat.lt_of_lt_of_le hlt (below_putP (N := 0) _ (Nat.zero_le _) hlt).size) (hI.put' hn hlt hi)) ?_
      have fin : ∀ (st : LoopState) (jump : Option Code) (A3 : World), st = (if jump.isNone then .ready else .done) → KeepsOthers (A.putObj (n + 1) (.loop (R .busy none))) A3 →
          n + 1 < A3.heap.size ∧ (Instr.endRound (n + 1) jump).run Tryz.prog A3 = .ok (.bool jump.isNone) (A3.putObj (n + 1) (.loop (R st jump))) ∧ At st jump (A3.putObj (n + 1) (.loop (R st jump))) := fun st jump A3 hst hk => by
        have h3 : At .busy none A3 := ⟨hk.same _ _ hat2.1 rfl, hk.same _ _ hat2.2 rfl⟩
        have he := run_endRound (P := Tryz.prog) jump h3.1
        have e : ({ R .busy none with state := (if jump.isNone then .ready else .done), pending := jump } : Loop) = R st jump := by rw [hR, hst]
        rw [e] at he
        exact ⟨two (.inl h3.1), he, putAt h3⟩
      rintro e a3 A3 hp
      cases e with
      | normal =>
        obtain ⟨hk, hB, hi3⟩ := hp
        obtain ⟨hl3, he, h4⟩ := fin .ready none A3 rfl hk
        exact ⟨_, _, he, .inl ⟨rfl, ⟨hI.put' hn hl3 hi3, h4⟩, ((World.putObj_heap_other (by omega)).trans hB).trans (World.putObj_heap_other (by omega))⟩⟩
      | ret =>
        obtain ⟨hk, hi3⟩ := hp
        obtain ⟨hl3, he, h4⟩ := fin .done (some .ret) A3 rfl hk
        exact ⟨_, _, he, .inr ⟨rfl, hIx' hl3 hi3, h4⟩⟩
      | exit id => exact hp.elim
      | goto t => exact hp.elim
      | panic ch => exact hp.elim
      | outgrown => exact hp.elim
    · rintro e A2 ⟨⟨v, rfl⟩, ⟨hi, hat⟩ | ⟨pre, hpre, hi, hat⟩⟩
      · have hlt := two (.inr hat.1)
        have he := run_endLoop (P := Tryz.prog) hat.1 (by rw [hR]; simp)
        refine ⟨none, _, by rw [he, hR], ?_⟩
        exact hdone n _ (by omega) (hI.put' hn hlt hi) ((World.putObj_heap_other (by omega)).trans hat.2)
      · have hlt := (Array.getElem?_eq_some_iff.1 hat.1).1
        have he := run_endLoop (P := Tryz.prog) hat.1 (by rw [hR]; simp)
        refine ⟨some .ret, _, by rw [he, hR], ?_⟩
        exact hstop n pre _ (by omega) hpre (hIx' hlt hi) ((World.putObj_heap_other (by omega)).trans hat.2)
/-- Is an operation a defer statement? -/
def isDefer (o : Oper) : Bool := match o.op with
  | .defer _ => true
  | _ => false
theorem oper_round {F : Fence} {m l : Nat} {o : Oper} {a : Act} {w : World} {K : Act → World → Prop} {Q : Exit → Act → World → Prop} (hr : F.round = none) (hd : isDefer o = false) (h : o.wpIn F m Tryz.prog a w K Q) : o.wpIn (F.inRound l) m Tryz.prog a w K Q := by
  have hn : ∀ c, o.op ≠ .defer c := fun c e => by unfold isDefer at hd; rw [e] at hd; cases hd
  unfold Oper.wpIn at h ⊢
  refine ⟨h.1, ?_⟩
  have h2 := h.2
  rw [hr, Oper.semAt_none] at h2
  rw [Oper.semAt_eq _ _ _ hn]
  generalize (execOp a.eval o).run Tryz.prog w = r at *
  cases r with
  | ok x w' => cases x <;> exact h2
  | halt x w' => cases x <;> exact h2
theorem wpOpsIn_round {F : Fence} {m l : Nat} {ops : Array Oper} {Q : Exit → Act → World → Prop} (hr : F.round = none) (hd : ∀ (i : Nat) (o : Oper), ops[i]? = some o → isDefer o = false) : ∀ (is : List Nat) (a : Act) (w : World), wpOpsIn F m Tryz.prog ops Q is a w → wpOpsIn (F.inRound l) m Tryz.prog ops Q is a w
  | [], a, w, h => h
  | i :: rest, a, w, h => by
    have ih := fun a w => wpOpsIn_round (m := m) (l := l) (Q := Q) hr hd rest a w
    unfold wpOpsIn at h ⊢
    cases ho : ops[i]? with
    | none => rw [ho] at h; exact ih a w h
    | some o =>
      rw [ho] at h
      dsimp only at h ⊢
      split
      · rename_i hw
        rw [if_pos hw] at h
        exact oper_round hr (hd i o ho) (Oper.wpIn_mono ih h)
      · rename_i hw
        rw [if_neg hw] at h
        exact ⟨h.1, ih _ _ h.2⟩
theorem wpIn_region_round {L m id : Nat} {ops : Array Oper} {Q : Exit → Act → World → Prop} {a : Act} {w : World} (hm : Tryz.prog.follows .mixedOrders = true) (hd : ops.all (fun o => !isDefer o) = true)
    (h : wpAnyIn Fence.wide m Tryz.prog .any ops Q ops.size (Array.replicate ops.size false) a w.drew) : (Code.region id ops true).wpIn (Fence.wide.inRound L) m Tryz.prog Q a w :=
  wpIn_region_draw fun t => by
    simp only [Region.schedule, hm, Bool.true_or, if_true]
    exact wpOpsIn_round rfl (fun i o ho => by
      have := Array.all_eq_true_iff_forall_mem.1 hd o (Array.mem_of_getElem? ho)
      simpa using this) _ _ _ (wpAnyIn_sound ops.size t _ a _ h)
end Go.Proofs.YtnmopjefjpifoaaGreatDoor
/- The iterator over the blocks of bytes. -/
set_option maxRecDepth 100000
namespace Go.Proofs.YtnmopjefjpifoaaGreatDoor
open Go Go.RowKit Go.Shelf

attribute [local go_sem] Oper.semAt_some
/-- How many blocks so many bytes have; how long a block is; a block. -/
def nblk (n : Nat) : Nat := (n + 255) / 256
def blen (n i : Nat) : Nat := min (256 * i + 256) n - 256 * i
def blkL (l : List (BitVec 8)) (i : Nat) : List (BitVec 8) := (l.drop (256 * i)).take 256
/-- A block as a slice. -/
def blkS (q : Option Addr) (n i : Nat) : Value := .slice (q.map (·.add (256 * i))) (blen n i) (blen n i)
theorem blkL_len (l : List (BitVec 8)) (i : Nat) : (blkL l i).length = blen l.length i := by
  unfold blkL blen
  rw [List.length_take, List.length_drop]
  omega
theorem blkL_sl {w : World} {q : Option Addr} {l : List (BitVec 8)} (h : Sl w q l) (i : Nat) : Sl w (q.map (·.add (256 * i))) (blkL l i) := fun j hj => by
  have hj' : j < 256 ∧ 256 * i + j < l.length := by
    unfold blkL at hj
    rw [List.length_take, List.length_drop] at hj
    omega
  obtain ⟨c, o, e, hc⟩ := h (256 * i + j) hj'.2
  refine ⟨c, o + 256 * i, by rw [e]; show some ((⟨c, o, none⟩ : Addr).add (256 * i)) = _; rw [Addr.add_mid], ?_⟩
  rw [show o + 256 * i + j = o + (256 * i + j) by omega, hc]
  unfold blkL
  simp [List.getD_eq_getElem?_getD, List.getElem?_take, List.getElem?_drop, hj'.1]
theorem nblk_lt {n i : Nat} (h : i < nblk n) : 256 * i < n := by unfold nblk at h; omega
theorem count_any (n : Nat) (w : World) (hn : n < 100000000) : Calls Tryz.prog 143 #[.int .i64 (n : Int)] w fun e w' => e = .returned (.int .i64 (nblk n : Int)) ∧ w = w' := by
  have h1 : IntKind.i64.wrap ((n : Int) + 256) = (n : Int) + 256 := by rw [IntKind.wrap_i64]; omega
  have h2 : IntKind.i64.wrap ((n : Int) + 256 - 1) = (n : Int) + 255 := by rw [IntKind.wrap_i64]; omega
  have h3 : ((n : Int) + 255).tdiv 256 = (nblk n : Int) := by rw [Int.tdiv_eq_ediv_of_nonneg (by omega)]; unfold nblk; omega
  have h4 : IntKind.i64.wrap (nblk n : Int) = (nblk n : Int) := by unfold nblk; rw [IntKind.wrap_i64]; omega
  have h5 : ((n : Int) + 255) / 256 = (nblk n : Int) := by unfold nblk; omega
  generalize nblk n = k at *
  go_enter Tryz.func143, Tryz.ntmps143
  go_wp2
  go_ret
  exact ⟨rfl, rfl⟩
theorem blk_cut (q : Option Addr) (n cap i : Nat) (w : World) (hi : 256 * i < n) (hc : n ≤ cap) : (Instr.slice 53 (.slice q n cap) (some (.int .i64 ((i : Int) * 256))) (some (.int .i64 (min ((i : Int) * 256 + 256) (n : Int)))) (some (.int .i64 (min ((i : Int) * 256 + 256) (n : Int))))).run Tryz.prog w = .ok (blkS q n i) w := by
  have hm : min ((i : Int) * 256 + 256) (n : Int) = ((min (256 * i + 256) n : Nat) : Int) := by omega
  rw [hm, run_slice_lhm (P := Tryz.prog) w 53 q n cap und35 .i64 .i64 .i64 _ _ _ (by omega) (by omega) (by omega) (by omega), sizeB]
  have h1 : ((i : Int) * 256).toNat = 256 * i := by omega
  have h2 : (((min (256 * i + 256) n : Nat) : Int)).toNat = min (256 * i + 256) n := by omega
  simp only [Sem.run_bind, Result.andThen_ok, Sem.run_pure, sliced, h1, h2]
  unfold blkS blen
  rw [if_neg (by omega), Nat.mul_one]
set_option maxRecDepth 100000 in
set_option maxHeartbeats 2000000 in
theorem blocks_seq (m : Nat) (hm : 3 ≤ m) (bb : Nat) (q : Option Addr) (n cap : Nat) (w : World) (hb : w.cell? ⟨bb, 0, none⟩ = some (.slice q n cap)) (hn : n < 1000000) (hc : n ≤ cap) :
    SeqP m 204 #[.pointer (some ⟨bb, 0, none⟩)] (fun i : Nat => #[.int .i64 (i : Int), blkS q n i]) bb (List.range (nblk n)) w := by
  intro L J Jx A hA hJd hY h0
  have hm1 : 1 ≤ m := by omega
  have hbw := World.block_lt_of_cell? w _ hb
  have hbA : A.cell? ⟨bb, 0, none⟩ = some (.slice q n cap) := by rw [hA.cell (by exact hbw)]; exact hb
  have HC := Lib.hid (count_any n A (by omega))
  obtain ⟨k, hk⟩ : ∃ k, nblk n = k := ⟨_, rfl⟩
  have HK := Lib.hid hk
  rw [hk] at HC hY ⊢
  have hk2 : k ≤ 10000 := by rw [← hk]; unfold nblk; omega
  refine callsIn_of_wp Tryz.func204 rfl trivial ?_ rfl
  simp only [Tryz.ntmps204, List.size_toArray, List.length_cons, List.length_nil, Nat.reduceAdd, Nat.reduceSub, Array.replicate_succ, Array.replicate_zero, List.push_toArray, List.append_toArray, List.nil_append, List.cons_append]
  clear hb hk
  have HBA := Lib.hid hbA
  gi_wp2_with (refine ⟨trivial, ?_⟩; gi_at_call 143; refine (callsIn_wide.2 HC.out).mono ?_; rintro e w' ⟨rfl, rfl⟩)
  gi_loopw [9] (fun v9 wr => ∃ i : Nat, v9 = .int .i64 (i : Int) ∧ i ≤ k ∧ wr.cell? ⟨bb, 0, none⟩ = some (.slice q n cap) ∧ J (List.range i) wr) (fun v9 wr => k - (intOf v9).toNat)
  case atStart => exact ⟨0, rfl, Nat.zero_le _, HBA.out, h0⟩
  case round =>
    obtain ⟨i, rfl, hik, hbr, hJ0⟩ := hrel
    have HJ0 := Lib.hid hJ0
    have HBR := Lib.hid hbr
    by_cases hlt : i < k
    · have z1 : (i : Int) < (k : Int) := by omega
      have z2 : decide ((i : Int) < (k : Int)) = true := decide_eq_true z1
      have hi256 : 256 * i < n := nblk_lt (by rw [HK.out]; exact hlt)
      have w1 : IntKind.i64.wrap ((i : Int) * 256) = (i : Int) * 256 := by rw [IntKind.wrap_i64]; omega
      have w2 : IntKind.i64.wrap ((i : Int) * 256 + 256) = (i : Int) * 256 + 256 := by rw [IntKind.wrap_i64]; omega
      have w3 : IntKind.i64.wrap ((i : Int) + 1) = (i : Int) + 1 := by rw [IntKind.wrap_i64]; omega
      have hcut := fun u => blk_cut q n cap i u hi256 hc
      have hpre : List.range i ++ [i] <+: List.range k := by
        rw [← List.range_succ]
        exact ⟨(List.range k).drop (i + 1), by
          have h := List.take_append_drop (i + 1) (List.range k)
          rw [List.take_range, Nat.min_eq_left (by omega)] at h
          exact h⟩
      have HPRE := Lib.hid hpre
      obtain ⟨fn, tmps, assign, body, hy, hR⟩ := hY (List.range i) i wr hpre hJ0
      clear hpre
      dsimp only at hy
      clear hJ0
      gi_wp2
      refine hR.mono ?_
      rintro e W3 (⟨rfl, hJ3, hB3⟩ | ⟨rfl, hJx3⟩)
      · have hb3 : W3.cell? ⟨bb, 0, none⟩ = some (.slice q n cap) := by rw [World.cell?_of_block (w := wr) hB3]; exact HBR.out
        have HJ3 := Lib.hid (show J (List.range (i + 1)) W3 from by rw [List.range_succ]; exact hJ3)
        have HB3 := Lib.hid hb3
        clear hJ3 hB3 hb3
        gi_wp2
        go_roundw
        case rel => exact ⟨i + 1, by go_num, by omega, HB3.out, HJ3.out⟩
        case measure => simp [intOf]; omega
      · have HJX := Lib.hid (show ∃ pre, pre <+: List.range k ∧ Jx pre W3 from ⟨List.range i ++ [i], HPRE.out, hJx3⟩)
        clear hJx3
        gi_wp2
        refine bodyPost_ret (results_none rfl _ _ _) rfl ?_
        exact ⟨⟨_, rfl⟩, .inr HJX.out⟩
    · have z1 : ¬ (i : Int) < (k : Int) := by omega
      have z2 : decide ((i : Int) < (k : Int)) = false := decide_eq_false z1
      obtain rfl : i = k := by omega
      gi_wp2
      go_end0
      exact ⟨⟨_, rfl⟩, .inl HJ0.out⟩
theorem mkFnB : ∀ (fn : Fn) (first cap : Array Value) (w : World), (Instr.makeFunc fn first cap).run Tryz.prog w = .ok (.func fn first cap) w := fun _ _ _ _ => rfl
attribute [local go_sem] mkFnB
theorem blocks_any (q : Option Addr) (n cap : Nat) (u : World) : Calls Tryz.prog 154 #[.slice q n cap] u fun e w' => e = .returned (.func (.func 204) #[] #[.pointer (some ⟨u.heap.size, 0, none⟩)]) ∧ w' = u.alloc (.cells #[.slice q n cap] 53) := by
  go_enter Tryz.func154, Tryz.ntmps154
  go_wp2
  go_ret
  exact ⟨rfl, rfl⟩
end Go.Proofs.YtnmopjefjpifoaaGreatDoor
/- Bytes appended to a slice of the call's own: the block afterwards is the old one or a new one. -/
set_option maxRecDepth 100000
namespace Go.Proofs.YtnmopjefjpifoaaGreatDoor
open Go Go.RowKit

theorem append_ownL (w : World) (base : Nat) (ty : TypeId) (v : Value) (l : List (BitVec 8)) (hown : OwnB w base v l) (p : Option Addr) (n cap : Nat) (bs : List (BitVec 8)) (hbl : bs.length = n) (hs : Sl w p bs) (hc : p = none → cap = 0)
    (hn : l.length + n < 1000000000000) (hb : base ≤ w.heap.size) :
    ∃ v' w', (Builtin.append_ #[53, 53] ty #[v, .slice p n cap]).run Tryz.prog w = .ok v' w' ∧ OwnB w' base v' (l ++ bs) ∧ w.grownBy w' v.ownBlock ∧ (v'.ownBlock = v.ownBlock ∨ v'.ownBlock = some w.heap.size) := by
  subst hbl
  obtain ⟨i0, hi, hz0, hz1, hz2⟩ := info_parts info5
  cases p with
  | some a =>
    obtain ⟨v', w', h1, h2, h3, _, h5⟩ := run_append_own_at (P := Tryz.prog) w base 53 ty 5 i0 (.int .u8 0) 1 1 und35 hi hz0 hz1 hz2 rfl (by decide) v l.length (l.map B) hown a bs.length cap (bs.map B) (by simp) hs.news (one_map bs)
      (by simp only [maxLen]; omega) (by omega) hb
    exact ⟨v', w', h1, by unfold OwnB; rw [List.length_append, List.map_append]; exact h2, h3, h5⟩
  | none =>
    have : bs = [] := by
      cases bs with
      | nil => rfl
      | cons x r => obtain ⟨c, o, e, _⟩ := hs 0 (by simp); cases e
    subst this
    obtain rfl := hc rfl
    exact ⟨v, w, run_append_owned_none (P := Tryz.prog) w base 53 ty 5 i0 1 und35 hi v l.length (l.map B) hown, by rw [List.append_nil]; exact hown, World.grownBy.refl _ _, .inl rfl⟩
theorem wpl_appendL {ops : Array Oper} {rest : List Oper} {o : Oper} {a : Act} {Q : Exit → Act → World → Prop} (w : World) (hgd : o.guard = none) (s x : Operand)
    (ho : o.op = .call { callee := .builtin .append, args := #[s, x], argTypes := #[53, 53] })
    (base : Nat) (v : Value) (l : List (BitVec 8)) (hs : a.eval s = v) (hown : OwnB w base v l) (p : Option Addr) (n cap : Nat) (bs : List (BitVec 8)) (hbl : bs.length = n) (hx : a.eval x = .slice p n cap) (hsl : Sl w p bs) (hc : p = none → cap = 0)
    (hn : l.length + n < 1000000000000) (hb : base ≤ w.heap.size)
    (h : ∀ v' w', OwnB w' base v' (l ++ bs) → w.grownBy w' v.ownBlock → (v'.ownBlock = v.ownBlock ∨ v'.ownBlock = some w.heap.size) → wpList Tryz.prog ops Q rest (a.put o.dst v') w') : wpList Tryz.prog ops Q (o :: rest) a w := by
  refine wpList_plain hgd fun K hK => ?_
  obtain ⟨v', w', hr, h2, h3, h4⟩ := append_ownL w base o.type v l hown p n cap bs hbl hsl hc hn hb
  unfold Oper.wp execOp
  simp only [ho, resolve, invoke, builtin, Sem.run_bind, Sem.run_pure, Result.andThen_ok, List.map_toArray, List.map_cons, List.map_nil, hs, hx, hr]
  exact hK _ _ (h v' w' h2 h3 h4)
end Go.Proofs.YtnmopjefjpifoaaGreatDoor
/- append(bytes, make([]byte, n)...): as many noughts are appended. -/
set_option maxRecDepth 100000
namespace Go.Proofs.YtnmopjefjpifoaaGreatDoor
open Go Go.RowKit

/-- Noughts. -/
def zs12 (n : Nat) : List (BitVec 8) := List.replicate n 0#8
end Go.Proofs.YtnmopjefjpifoaaGreatDoor
