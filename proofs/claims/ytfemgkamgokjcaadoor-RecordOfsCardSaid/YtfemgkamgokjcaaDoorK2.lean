/- Merged texts: Awk9, Nbr9, Tak9, Rtk9, Enc9, Tke9, Enc10, Dgs10, Dga10, AppL6, Rct10, RefL7. -/
import Derived.Deep.RegionHeld3
import Derived.Test.YtfemgkamgokjcaaDoorK1
import Derived.Test.YtfemgkamgokjcaaDoorNum6
import Derived.Test.YtfemgkamgokjcaaDoorRcd10
import Derived.Test.YtfemgkamgokjcaaDoorSha10
import Derived.Test.YtfemgkamgokjcaaDoorNextN6
import Derived.Test.YtfemgkamgokjcaaDoorDig6
import Derived.Test.YtfemgkamgokjcaaDoorDeq10
import Derived.OwnWalk
import Derived.RegionTactic
import Derived.Maps.AppendAt
import Derived.Test.YtfemgkamgokjcaaDoorBytes
import Derived.Test.YtfemgkamgokjcaaDoorOwnK8
import Derived.Test.YtfemgkamgokjcaaDoorRef7
set_option linter.unusedSimpArgs false
set_option linter.unusedVariables false
/- awake of stage 9. -/
set_option maxRecDepth 100000
namespace Go.Proofs.YtfemgkamgokjcaaDoor
open Go Go.RowKit
attribute [-go_sem] Sha.exec_store

attribute [local go_sem ↓] exec_boxA exec_loadA exec_indexA exec_allocA exec_storeA exec_buildA exec_eqlA exec_neqA exec_boxV exec_loadV exec_indexV exec_allocV exec_storeV exec_buildV exec_eqlV exec_neqV
attribute [local go_sem] boxA indexA storeNewA buildA eqlA neqA boxV indexV storeNewV buildV eqlV neqV

def one (k : Nat) : Nat → Int := fun i => if i = k then 1 else 0
/-- A vector as a list of cells: where the order of a region is drawn. -/
theorem vc_list (f : Nat → Int) : ∃ cs : List Value, vcV f = .agg cs.toArray ∧ cs.length = 16 ∧ ∀ (w : World) (b : Nat) (T : TypeId), Row w b T 16 (vf f) → w.rangeAt b 0 cs := by
  refine ⟨(tab 16 (vf f)).toList, ?_, by simp [tab], fun w b T h => h.range⟩
  unfold vcV
  rw [Array.toArray_toList]
theorem one_good : gdV (fun _ => 0) = true := by decide
theorem one_bump1 : vcV (bmV (fun _ => 0) 1) = vcV (one 1) ∧ bmE (fun _ => 0) 1 = 0 := ⟨vcV_congr (by decide), by decide⟩
theorem one_bump2 : vcV (bmV (fun _ => 0) 2) = vcV (one 2) ∧ bmE (fun _ => 0) 2 = 0 := ⟨vcV_congr (by decide), by decide⟩
theorem one_cmp : cmpV (one 1) (one 2) = 2 := by decide
theorem one_mrg : cmpV (one 1) (mgL [one 1, one 2]) = -1 := by decide
end Go.Proofs.YtfemgkamgokjcaaDoor
/- A number in a range, read by package vector. -/
set_option maxRecDepth 100000
namespace Go.Proofs.YtfemgkamgokjcaaDoor
open Go Go.RowKit
attribute [-go_sem] Sha.exec_store

/-- The number at the beginning of bytes if it is in a range, how many bytes it has; the error. -/
def rngI (l : List (BitVec 8)) (lo hi : Int) : Nat × Nat × Nat :=
  match num7 l with
  | none => (0, 0, 6)
  | some (n, k) => if (n : Int) < lo ∨ hi < (n : Int) then (0, 0, 6) else (n, k, 0)
theorem rngI_none {l : List (BitVec 8)} (lo hi : Int) (h : num7 l = none) : rngI l lo hi = (0, 0, 6) := by unfold rngI; rw [h]
theorem rngI_out {l : List (BitVec 8)} {lo hi : Int} {n k : Nat} (h : num7 l = some (n, k)) (hm : (n : Int) < lo ∨ hi < (n : Int)) : rngI l lo hi = (0, 0, 6) := by unfold rngI; rw [h]; exact if_pos hm
theorem rngI_in {l : List (BitVec 8)} {lo hi : Int} {n k : Nat} (h : num7 l = some (n, k)) (hm : ¬ ((n : Int) < lo ∨ hi < (n : Int))) : rngI l lo hi = (n, k, 0) := by unfold rngI; rw [h]; exact if_neg hm
set_option maxRecDepth 100000 in
set_option maxHeartbeats 2000000 in
theorem number9_any (p : Option Addr) (N : Nat) (w : World) (a : Addr) (l : List (BitVec 8)) (lo hi : Int) (h : RdP p N w a l) : Calls Tryd.prog 73 #[.pointer (some a), .int .i64 lo, .int .i64 hi] w (RdPost RdP ThrP p N w a l (rngI l lo hi).2.2 (rngI l lo hi).2.1 fun v _ => v = .int .i64 ((rngI l lo hi).1 : Int)) := by
  have HN := Lib.hid (rdP_number p N w a l 9223372036854775807 h)
  clear h
  cases e7 : num7 l with
  | none =>
    rw [rngI_none lo hi e7]
    rw [takeI_none _ e7] at HN
    clear e7
    go_enter Tryd.func73, Tryd.ntmps73
    go_wp2_with fail
    refine HN.out.mono ?_
    rintro e w' ⟨hK, ⟨hcode, -⟩ | ⟨hc, v, hv, rfl⟩⟩
    · exact absurd hcode (by decide)
    · exact ⟨rfl, hK, .inr ⟨by decide, v, hv, rfl⟩⟩
  | some x =>
    obtain ⟨n, k⟩ := x
    have hi7 := num7_inv e7
    rw [takeI_some e7 (by omega)] at HN
    by_cases h1 : (n : Int) < lo
    · rw [rngI_out e7 (.inl h1)]
      have t1 : decide ((n : Int) < lo) = true := decide_eq_true h1
      clear e7 hi7
      go_enter Tryd.func73, Tryd.ntmps73
      go_wp2_with fail
      refine HN.out.mono ?_
      rintro e w' ⟨hK, ⟨-, ⟨v, rfl, rfl⟩, hR⟩ | ⟨hc, -⟩⟩
      · have HK := Lib.hid hK
        have HF := Lib.hid (rdP_fail p N w' a (l.drop k) 6 hR (by decide))
        clear hK hR
        go_wp2_with fail
        refine HF.out.mono ?_
        rintro e w2 ⟨⟨v, hv, rfl⟩, hK2⟩
        exact ⟨rfl, HK.out.trans hK2, .inr ⟨by decide, v, hv, rfl⟩⟩
      · exact absurd rfl hc
    · have t1 : decide ((n : Int) < lo) = false := decide_eq_false h1
      by_cases h2 : hi < (n : Int)
      · rw [rngI_out e7 (.inr h2)]
        have t2 : decide (hi < (n : Int)) = true := decide_eq_true h2
        clear e7 hi7
        go_enter Tryd.func73, Tryd.ntmps73
        go_wp2_with fail
        refine HN.out.mono ?_
        rintro e w' ⟨hK, ⟨-, ⟨v, rfl, rfl⟩, hR⟩ | ⟨hc, -⟩⟩
        · have HK := Lib.hid hK
          have HF := Lib.hid (rdP_fail p N w' a (l.drop k) 6 hR (by decide))
          clear hK hR
          go_wp2_with fail
          refine HF.out.mono ?_
          rintro e w2 ⟨⟨v, hv, rfl⟩, hK2⟩
          exact ⟨rfl, HK.out.trans hK2, .inr ⟨by decide, v, hv, rfl⟩⟩
        · exact absurd rfl hc
      · rw [rngI_in e7 (by omega)]
        have t2 : decide (hi < (n : Int)) = false := decide_eq_false h2
        clear e7 hi7
        go_enter Tryd.func73, Tryd.ntmps73
        go_wp2_with fail
        refine HN.out.mono ?_
        rintro e w' ⟨hK, ⟨-, ⟨v, rfl, rfl⟩, hR⟩ | ⟨hc, -⟩⟩
        · have HK := Lib.hid hK
          have HR := Lib.hid hR
          clear hK hR
          go_wp2
          go_ret
          exact ⟨HK.out, .inl ⟨rfl, ⟨_, rfl, rfl⟩, HR.out⟩⟩
        · exact absurd rfl hc
end Go.Proofs.YtfemgkamgokjcaaDoor
/- Take of the program. -/
set_option maxRecDepth 100000
namespace Go.Proofs.YtfemgkamgokjcaaDoor
open Go Go.RowKit
attribute [-go_sem] Sha.exec_store

/-- c numbers of a vector at the beginning of bytes, no replica less than a given one: the vector, and what is left. -/
def stepsV : Nat → Nat → List (BitVec 8) → (Nat → Int) → Option ((Nat → Int) × List (BitVec 8))
  | 0, _, l, f => some (f, l)
  | c + 1, least, l, f =>
    if (rngI l least 15).2.2 = 0 then
      if (rngI (l.drop (rngI l least 15).2.1) 1 1099511627776).2.2 = 0 then
        stepsV c ((rngI l least 15).1 + 1) ((l.drop (rngI l least 15).2.1).drop (rngI (l.drop (rngI l least 15).2.1) 1 1099511627776).2.1) (fun i => if i = (rngI l least 15).1 then ((rngI (l.drop (rngI l least 15).2.1) 1 1099511627776).1 : Int) else f i)
      else none
    else none
def takeV (l : List (BitVec 8)) : Option ((Nat → Int) × List (BitVec 8)) :=
  if (rngI l 0 16).2.2 = 0 then stepsV (rngI l 0 16).1 0 (l.drop (rngI l 0 16).2.1) (fun _ => 0) else none
theorem rngI_le {l : List (BitVec 8)} {lo hi : Int} (h : (rngI l lo hi).2.2 = 0) : lo ≤ ((rngI l lo hi).1 : Int) ∧ ((rngI l lo hi).1 : Int) ≤ hi := by
  unfold rngI at h ⊢
  split at h
  · cases h
  · rename_i n k e
    split at h
    · cases h
    · rename_i hh
      rw [if_neg hh]
      show lo ≤ (n : Int) ∧ (n : Int) ≤ hi
      omega
theorem rngI_code {l : List (BitVec 8)} {lo hi : Int} (h : (rngI l lo hi).2.2 ≠ 0) : (rngI l lo hi).2.2 = 6 := by
  unfold rngI at h ⊢
  split
  · rfl
  · rename_i n k e
    split
    · rfl
    · rename_i hh
      rw [e] at h
      simp only [if_neg hh] at h
      exact absurd rfl h
theorem stepsV_one {c least : Nat} {l : List (BitVec 8)} {f : Nat → Int} {r k n k2 : Nat} (h1 : rngI l least 15 = (r, k, 0)) (h2 : rngI (l.drop k) 1 1099511627776 = (n, k2, 0)) : stepsV (c + 1) least l f = stepsV c (r + 1) ((l.drop k).drop k2) (fun i => if i = r then (n : Int) else f i) := by
  rw [stepsV]
  simp only [h1, h2, if_true]
theorem stepsV_no1 {c least : Nat} {l : List (BitVec 8)} {f : Nat → Int} (h1 : (rngI l least 15).2.2 ≠ 0) : stepsV (c + 1) least l f = none := by unfold stepsV; rw [if_neg h1]
theorem stepsV_no2 {c least : Nat} {l : List (BitVec 8)} {f : Nat → Int} {r k : Nat} (h1 : rngI l least 15 = (r, k, 0)) (h2 : (rngI (l.drop k) 1 1099511627776).2.2 ≠ 0) : stepsV (c + 1) least l f = none := by
  unfold stepsV
  simp only [h1, if_true, if_neg h2]
attribute [local go_sem ↓] exec_boxA exec_loadA exec_indexA exec_allocA exec_storeA exec_buildA exec_eqlA exec_neqA exec_boxV exec_loadV exec_indexV exec_allocV exec_storeV exec_buildV exec_eqlV exec_neqV
attribute [local go_sem] boxA indexA storeNewA buildA eqlA neqA boxV indexV storeNewV buildV eqlV neqV

/-- What Take tells. -/
def TakePost (p : Option Addr) (N : Nat) (w : World) (a : Addr) (r : Option ((Nat → Int) × List (BitVec 8))) (e : Ending) (w' : World) : Prop :=
  Kp a.block w w' ∧ match r with
    | some (f, rest) => e = .returned (vcV f) ∧ RdP p N w' a rest
    | none => Thrown (ThrP a) 6 e w'
set_option maxRecDepth 100000 in
set_option maxHeartbeats 8000000 in
theorem take9_any (p : Option Addr) (N : Nat) (w : World) (a : Addr) (l : List (BitVec 8)) (h : RdP p N w a l) : Calls Tryd.prog 57 #[.pointer (some a)] w (TakePost p N w a (takeV l)) := by
  have HL := Lib.hid (rdP_lie _ _ _ _ _ h)
  have HST : Hid (Row ((w.alloc (.cells (tab 16 (vf fun _ => 0)) 31)).alloc (.cells (tab 16 (vf fun _ => 0)) 31)) w.heap.size 31 16 (vf fun _ => 0) ∧ Row ((w.alloc (.cells (tab 16 (vf fun _ => 0)) 31)).alloc (.cells (tab 16 (vf fun _ => 0)) 31)) (w.heap.size + 1) 31 16 (vf fun _ => 0) ∧ Below w.heap.size w ((w.alloc (.cells (tab 16 (vf fun _ => 0)) 31)).alloc (.cells (tab 16 (vf fun _ => 0)) 31))) := Lib.hid (twoRows w 31 (vf fun _ => 0) (vf fun _ => 0) 16)
  have HR := Lib.hid (rdP_stay _ _ _ _ _ _ h HST.out.2.2.size (HST.out.2.2.block _ HL.out.2) fun c o _ hc => HST.out.2.2.block _ (by have := HL.out; omega))
  have HN := Lib.hid (number9_any p N ((w.alloc (.cells (tab 16 (vf fun _ => 0)) 31)).alloc (.cells (tab 16 (vf fun _ => 0)) 31)) a l 0 16 HR.out)
  have HK0 := Lib.hid ((Kp.refl a.block w).of_below HST.out.2.2)
  clear h
  obtain ⟨x, hx⟩ : ∃ x, rngI l 0 16 = x := ⟨_, rfl⟩
  obtain ⟨c, k0, cd⟩ := x
  rw [hx] at HN
  by_cases hcd : cd = 0
  · subst hcd
    have htk : takeV l = stepsV c 0 (l.drop k0) (fun _ => 0) := by unfold takeV; simp only [hx, if_true]
    have hc16 : c ≤ 16 := by have := (rngI_le (l := l) (lo := 0) (hi := 16) (by rw [hx])).2; rw [hx] at this; exact Int.ofNat_le.1 this
    obtain ⟨T, hT⟩ : ∃ T, takeV l = T := ⟨_, rfl⟩
    rw [hT] at htk
    rw [hT]
    have HT := Lib.hid htk
    clear hx hT htk
    go_enter Tryd.func57, Tryd.ntmps57
    go_wp2_with fail
    refine HN.out.mono ?_
    rintro e w1 ⟨hK, ⟨-, ⟨v, rfl, rfl⟩, hR1⟩ | ⟨hc, -⟩⟩
    · have HR1 := Lib.hid hR1
      have HK1 := Lib.hid (HK0.out.trans hK)
      have HA := Lib.hid (show Row w1 w.heap.size 31 16 (vf fun _ => 0) ∧ Row w1 (w.heap.size + 1) 31 16 (vf fun _ => 0) from ⟨HST.out.1.of_kp hK (by have := HL.out; omega), HST.out.2.1.of_kp hK (by have := HL.out; omega)⟩)
      clear hK hR1
      go_wp2
      go_loopw [4, 8] (fun s i wr => ∃ j least : Nat, j ≤ c ∧ i = .int .i64 j ∧ s = .int .i64 least ∧ least ≤ 16 ∧ ∃ f l', stepsV (c - j) least l' f = T ∧ RdP p N wr a l' ∧ Row wr w.heap.size 31 16 (vf fun _ => 0) ∧ Row wr (w.heap.size + 1) 31 16 (vf f) ∧ Kp a.block w wr) (fun s i _ => c - (intOf i).toNat)
      case atStart => exact ⟨0, 0, Nat.zero_le _, rfl, rfl, Nat.zero_le _, _, _, HT.out.symm, HR1.out, HA.out.1, HA.out.2, HK1.out⟩
      case round =>
        clear HR1 HK1 HA
        obtain ⟨j, least, hj, rfl, rfl, hle, f, l', hst, hR, hZ, hF, hK⟩ := hrel
        have HS := Lib.hid hst
        have HRr := Lib.hid hR
        have HZ := Lib.hid hZ
        have HF := Lib.hid hF
        have HK := Lib.hid hK
        clear hst hK hR
        by_cases hjc : j < c
        · have z1 : (j : Int) < (c : Int) := by omega
          have z2 : decide ((j : Int) < (c : Int)) = true := decide_eq_true z1
          have hw := i64v j (by omega)
          have hcj : c - j = (c - (j + 1)) + 1 := by omega
          have HN1 := Lib.hid (number9_any p N wr a l' (least : Int) 15 HRr.out)
          obtain ⟨y, hy⟩ : ∃ y, rngI l' (least : Int) 15 = y := ⟨_, rfl⟩
          obtain ⟨r, k1, c1⟩ := y
          by_cases hc1 : c1 = 0
          · subst hc1
            have hr15 := rngI_le (l := l') (lo := (least : Int)) (hi := 15) (by rw [hy])
            rw [hy] at HN1 hr15
            have hr16 : r < 16 := by have := hr15.2; show r < 16; simp at this; omega
            have HY := Lib.hid hy
            clear hy hr15 hZ hF
            go_wp2_with fail
            refine HN1.out.mono ?_
            rintro e w2 ⟨hK2, ⟨-, ⟨v, rfl, rfl⟩, hR2⟩ | ⟨hc, -⟩⟩
            · have HR2 := Lib.hid hR2
              have HKc := Lib.hid (HK.out.trans hK2)
              have HZ2 := Lib.hid (HZ.out.of_kp hK2 (by have := HL.out; omega))
              have HF2 := Lib.hid (HF.out.of_kp hK2 (by have := HL.out; omega))
              have HN2 := Lib.hid (number9_any p N w2 a (l'.drop k1) 1 1099511627776 hR2)
              obtain ⟨y2, hy2⟩ : ∃ y, rngI (l'.drop k1) 1 1099511627776 = y := ⟨_, rfl⟩
              obtain ⟨n, k2, c2⟩ := y2
              rw [hy2] at HN2
              have HY2 := Lib.hid hy2
              clear hK2 hR2 hy2
              by_cases hc2 : c2 = 0
              · subst hc2
                have HSN := Lib.hid (show stepsV (c - (j + 1)) (r + 1) ((l'.drop k1).drop k2) (fun i => if i = r then (n : Int) else f i) = T by rw [← HS.out, hcj, stepsV_one HY.out HY2.out])
                go_wp2_with fail
                refine HN2.out.mono ?_
                rintro e w3 ⟨hK3, ⟨-, ⟨v, rfl, rfl⟩, hR3⟩ | ⟨hc, -⟩⟩
                · have HKd := Lib.hid (HKc.out.trans hK3)
                  have HZ3 := Lib.hid (HZ2.out.of_kp hK3 (by have := HL.out; omega))
                  have hF3 := HF2.out.of_kp hK3 (by have := HL.out; omega)
                  have HF3 := Lib.hid hF3
                  have x5 : w3.cell? ⟨w.heap.size + 1, r, none⟩ = some (.int .i64 (f r)) := hF3.cell r hr16
                  have x6 := hF3.free r
                  have hwr := i64v r hr16
                  have HR4 := Lib.hid (rdP_stay _ _ _ (w3.setCell ⟨w.heap.size + 1, r, none⟩ (.int .i64 (n : Int))) _ _ hR3 (by simp) (Below.heap_setCell _ _ _ _ (by show a.block ≠ w.heap.size + 1; have := HL.out; omega)) fun c o _ hc => Below.heap_setCell _ _ _ _ (by show c ≠ w.heap.size + 1; have := HL.out; omega))
                  clear hK3 hR3 hF3
                  go_wp2
                  go_roundw
                  case rel => exact ⟨j + 1, r + 1, by omega, by go_num, by go_num, by omega, _, _, HSN.out, HR4.out, HZ3.out.of_block (Below.heap_setCell _ _ _ _ (by show w.heap.size ≠ w.heap.size + 1; omega)), (HF3.out.set r (.int .i64 (n : Int))).congr fun i _ => by
                    unfold vf
                    by_cases e : i = r
                    · simp [e]
                    · simp [e], HKd.out.setNew (by show w.heap.size ≤ w.heap.size + 1; omega) _⟩
                  case measure => simp [intOf]; omega
                · exact absurd rfl hc
              · have hTn : T = none := by rw [← HS.out, hcj]; exact stepsV_no2 HY.out (by rw [HY2.out]; exact hc2)
                have h6 : c2 = 6 := by have := rngI_code (l := l'.drop k1) (lo := 1) (hi := 1099511627776) (by rw [HY2.out]; exact hc2); rw [HY2.out] at this; exact this
                subst h6
                subst hTn
                go_wp2_with fail
                refine HN2.out.mono ?_
                rintro e w3 ⟨hK3, ⟨hcc, -⟩ | ⟨hc, v, hv, rfl⟩⟩
                · exact absurd hcc (by decide)
                · exact ⟨rfl, HKc.out.trans hK3, v, hv, rfl⟩
            · exact absurd rfl hc
          · have hTn : T = none := by rw [← HS.out, hcj]; exact stepsV_no1 (by rw [hy]; exact hc1)
            have h6 : c1 = 6 := by have := rngI_code (l := l') (lo := (least : Int)) (hi := 15) (by rw [hy]; exact hc1); rw [hy] at this; exact this
            rw [hy] at HN1
            subst h6
            subst hTn
            clear hy hZ hF
            go_wp2_with fail
            refine HN1.out.mono ?_
            rintro e w3 ⟨hK3, ⟨hcc, -⟩ | ⟨hc, v, hv, rfl⟩⟩
            · exact absurd hcc (by decide)
            · exact ⟨rfl, HK.out.trans hK3, v, hv, rfl⟩
        · have z1 : ¬ (j : Int) < (c : Int) := by omega
          have z2 : decide ((j : Int) < (c : Int)) = false := decide_eq_false z1
          have hT2 : T = some (f, l') := by rw [← HS.out, show c - j = 0 by omega]; rfl
          subst hT2
          have l3 := loadVT vtV (VecAt.of_row hF (Nat.le_refl _))
          obtain ⟨w5, hs5, hR5, hK5⟩ := storeVT vtV hZ f
          have HR5 := Lib.hid hR5
          have HRd := Lib.hid (rdP_stay _ _ _ w5 _ _ HRr.out hK5.size (hK5.block _ (rdP_lie _ _ _ _ _ HRr.out).2 (by have := HL.out; omega)) fun c o _ hc => hK5.block _ (by have := rdP_lie _ _ _ _ _ HRr.out; omega) (by have := HL.out; omega))
          have HK5 := Lib.hid (show Kp a.block w w5 from ⟨hK5.os.trans HK.out.os, hK5.tape.trans HK.out.tape, hK5.output.trans HK.out.output, Nat.le_trans HK.out.size hK5.size, fun i hi hb => (hK5.block i (Nat.lt_of_lt_of_le hi HK.out.size) (by omega)).trans (HK.out.block i hi hb)⟩)
          clear hZ hF hR5 hK5
          go_wp2
          refine bodyPost_ret (resV vtV rfl _ w5 w.heap.size 31 f rfl HR5.out) rfl ?_
          exact ⟨HK5.out, rfl, HRd.out⟩
    · exact absurd rfl hc
  · have htk : takeV l = none := by unfold takeV; simp only [hx, if_neg hcd]
    have h6 : cd = 6 := by have := rngI_code (l := l) (lo := 0) (hi := 16) (by rw [hx]; exact hcd); rw [hx] at this; exact this
    subst h6
    rw [htk]
    clear hx htk
    go_enter Tryd.func57, Tryd.ntmps57
    go_wp2_with fail
    refine HN.out.mono ?_
    rintro e w1 ⟨hK, ⟨hcc, -⟩ | ⟨hc, v, hv, rfl⟩⟩
    · exact absurd hcc (by decide)
    · exact ⟨rfl, HK0.out.trans hK, v, hv, rfl⟩
end Go.Proofs.YtfemgkamgokjcaaDoor
/- Take of the reference. -/
set_option maxRecDepth 100000
namespace Go.Proofs.YtfemgkamgokjcaaDoor
open Go Go.RowKit
attribute [-go_sem] Sha.exec_store

/-- The vector at the beginning of bytes, by the reference. -/
def takeR (l : List (BitVec 8)) : Option ((Nat → Int) × List (BitVec 8)) :=
  match num7 l with
  | none => none
  | some (c, k) => stepsV c 0 (l.drop k) (fun _ => 0)
theorem stepsV_bound : ∀ (c least : Nat) (l : List (BitVec 8)) (f : Nat → Int), least ≤ 16 → stepsV c least l f ≠ none → c + least ≤ 16
  | 0, least, l, f, h, _ => by omega
  | c + 1, least, l, f, h, hs => by
    by_cases h1 : (rngI l least 15).2.2 = 0
    · obtain ⟨x, hx⟩ : ∃ x, rngI l least 15 = x := ⟨_, rfl⟩
      obtain ⟨r, k, cd⟩ := x
      have hle := rngI_le h1
      rw [hx] at h1 hle
      have h1' : cd = 0 := h1
      subst h1'
      by_cases h2 : (rngI (l.drop k) 1 1099511627776).2.2 = 0
      · obtain ⟨y, hy⟩ : ∃ y, rngI (l.drop k) 1 1099511627776 = y := ⟨_, rfl⟩
        obtain ⟨n, k2, c2⟩ := y
        rw [hy] at h2
        have h2' : c2 = 0 := h2
        subst h2'
        rw [stepsV_one hx hy] at hs
        have hr : (least : Int) ≤ (r : Int) ∧ (r : Int) ≤ 15 := hle
        have := stepsV_bound c (r + 1) _ _ (by omega) hs
        omega
      · exact absurd (stepsV_no2 hx h2) hs
    · exact absurd (stepsV_no1 h1) hs
theorem takeV_eq (l : List (BitVec 8)) : takeV l = takeR l := by
  unfold takeV takeR
  cases e : num7 l with
  | none => rw [rngI_none 0 16 e]; rfl
  | some x =>
    obtain ⟨c, k⟩ := x
    by_cases h : (c : Int) < 0 ∨ 16 < (c : Int)
    · rw [rngI_out e h]
      show none = stepsV c 0 (l.drop k) (fun _ => 0)
      cases hs : stepsV c 0 (l.drop k) (fun _ => 0) with
      | none => rfl
      | some y => have := stepsV_bound c 0 _ _ (by omega) (by rw [hs]; exact fun q => by cases q); omega
    · rw [rngI_in e h]
      rfl
theorem sl_fromB (q : Option Addr) (n cap k : Nat) (w : World) (hk : k ≤ n) :
    (slT 27 (.slice q n cap) (some (.int .i64 (k : Int))) none none).run Tryd.prog w = .ok (.value (.slice (cutA q cap k) (n - k) (cap - k))) w := by
  have h1 := run_sliceAt_slice (P := Tryd.prog) w 27 (.slice q n cap) (some (.int .i64 (k : Int))) none none und35
  rw [run_slice_l (P := Tryd.prog) w 27 q n cap und35 .i64 (k : Int) (by omega) (by omega), sizeB] at h1
  simp only [slT, Sem.run_bind, h1, Result.andThen_ok, Sem.run_pure]
  simp only [sliced, Int.toNat_natCast, Nat.mul_one, cutA]
attribute [local go_sem ↓] exec_boxA exec_loadA exec_indexA exec_allocA exec_storeA exec_buildA exec_eqlA exec_neqA exec_boxV exec_loadV exec_indexV exec_allocV exec_storeV exec_buildV exec_eqlV exec_neqV
attribute [local go_sem] boxA indexA storeNewA buildA eqlA neqA boxV indexV storeNewV buildV eqlV neqV

attribute [local go_sem ↓] exec_slice
theorem resV3 {fn : Func} {p q r : Tmp} {T : TypeId} (hT : VT T) (h : fn.results = #[.cell p T, .tmp q, .tmp r]) (tmps : Array Value) (w : World) (b : Nat) (T2 : TypeId) (f : Nat → Int) (v u : Value) (hp : tmps.getD p undef = .pointer (some ⟨b, 0, none⟩)) (hq : tmps.getD q undef = v) (hr : tmps.getD r undef = u) (hR : Row w b T2 16 (vf f)) : (results fn tmps).run Tryd.prog w = .ok (.tuple #[vcV f, v, u]) w := by
  have hp' : tmps[p]?.getD undef = .pointer (some ⟨b, 0, none⟩) := by simpa using hp
  have hq' : tmps[q]?.getD undef = v := by simpa using hq
  have hr' : tmps[r]?.getD undef = u := by simpa using hr
  have hl := run_loadVar_row (P := Tryd.prog) w b T2 T (tab 16 (vf f)) (0, 0) _ hR hT.und rfl (by rw [hT.size, tab_size])
  unfold vcV
  simp [results, h, hp', hq', hr', asAddr, hl]
/-- What the reference's Take returns. -/
def RTakePost (l : List (BitVec 8)) (w : World) (r : Option ((Nat → Int) × List (BitVec 8))) (e : Ending) (w' : World) : Prop :=
  Below w.heap.size w w' ∧ match r with
    | some (f, rest) => ∃ at_ : Nat, at_ ≤ l.length ∧ rest = l.drop at_ ∧ e = .returned (.tuple #[vcV f, .int .i64 (at_ : Int), .int .i64 0])
    | none => e = .returned (.tuple #[vcV fun _ => 0, .int .i64 0, .int .i64 6])
theorem i64k (i : Nat) (h : i < 9223372036854775807) : IntKind.i64.wrap ((i : Int) + 1) = (i : Int) + 1 := by rw [IntKind.wrap_i64]; omega
theorem i64s9 (a b : Nat) (h : a + b ≤ 10000000) : IntKind.i64.wrap ((a : Int) + (b : Int)) = ((a + b : Nat) : Int) := by rw [IntKind.wrap_i64]; omega
theorem takeI_fits (l : List (BitVec 8)) {n k c : Nat} (h : takeI l 9223372036854775807 = (n, k, c)) : k ≤ l.length := by
  cases e : num7 l with
  | none => rw [takeI_none _ e] at h; injection h with _ h; injection h with h _; omega
  | some x =>
    obtain ⟨a, b⟩ := x
    have hi := num7_inv e
    rw [takeI_some e (by omega)] at h
    injection h with _ h
    injection h with h _
    omega
theorem rngI_of {l : List (BitVec 8)} {n k c : Nat} {lo hi : Int} (h : takeI l 9223372036854775807 = (n, k, c)) : rngI l lo hi = if c = 0 ∧ lo ≤ (n : Int) ∧ (n : Int) ≤ hi then (n, k, 0) else (0, 0, 6) := by
  cases e : num7 l with
  | none =>
    rw [takeI_none _ e] at h
    rw [rngI_none _ _ e, if_neg (by injection h with _ h; injection h with _ h; omega)]
  | some x =>
    obtain ⟨a, b⟩ := x
    have h7 := num7_inv e
    rw [takeI_some e (by omega)] at h
    injection h with h1 h
    injection h with h2 h3
    subst h1 h2 h3
    by_cases g : (a : Int) < lo ∨ hi < (a : Int)
    · rw [rngI_out e g, if_neg (by omega)]
    · rw [rngI_in e g, if_pos (by omega)]
theorem i64m (x : Nat) (h : x < 100000000) : IntKind.i64.wrap (x : Int) = (x : Int) := by rw [IntKind.wrap_i64]; omega
end Go.Proofs.YtfemgkamgokjcaaDoor
/- The encoding of a vector, plain. -/
set_option maxRecDepth 100000
namespace Go.Proofs.YtfemgkamgokjcaaDoor
open Go Go.RowKit
attribute [-go_sem] Sha.exec_store

/-- What is written of the numbers of the first replicas. -/
def bodyV (f : Nat → Int) : Nat → List (BitVec 8)
  | 0 => []
  | i + 1 => if f i = 0 then bodyV f i else bodyV f i ++ enc7 i ++ enc7 (f i).toNat
/-- How many of them are not 0. -/
def cntV (f : Nat → Int) : Nat → Nat
  | 0 => 0
  | i + 1 => if f i = 0 then cntV f i else cntV f i + 1
/-- The encoding of a vector. -/
def encV (f : Nat → Int) : List (BitVec 8) := enc7 (cntV f 16) ++ bodyV f 16
theorem bodyV_zero {f : Nat → Int} {i : Nat} (h : f i = 0) : bodyV f (i + 1) = bodyV f i := by rw [bodyV, if_pos h]
theorem bodyV_one {f : Nat → Int} {i : Nat} (h : f i ≠ 0) : bodyV f (i + 1) = bodyV f i ++ enc7 i ++ enc7 (f i).toNat := by rw [bodyV, if_neg h]
theorem cntV_zero {f : Nat → Int} {i : Nat} (h : f i = 0) : cntV f (i + 1) = cntV f i := by rw [cntV, if_pos h]
theorem cntV_one {f : Nat → Int} {i : Nat} (h : f i ≠ 0) : cntV f (i + 1) = cntV f i + 1 := by rw [cntV, if_neg h]
theorem cntV_le (f : Nat → Int) : ∀ i, cntV f i ≤ i
  | 0 => Nat.le_refl _
  | i + 1 => by
    have := cntV_le f i
    by_cases h : f i = 0
    · rw [cntV_zero h]; omega
    · rw [cntV_one h]; omega
theorem bodyV_congr {f g : Nat → Int} : ∀ i, (∀ j, j < i → f j = g j) → bodyV f i = bodyV g i
  | 0, _ => rfl
  | i + 1, h => by
    have ih := bodyV_congr i (fun j hj => h j (by omega))
    have hi := h i (by omega)
    by_cases h0 : f i = 0
    · rw [bodyV_zero h0, bodyV_zero (by rw [← hi]; exact h0), ih]
    · rw [bodyV_one h0, bodyV_one (by rw [← hi]; exact h0), ih, hi]
theorem cntV_congr {f g : Nat → Int} : ∀ i, (∀ j, j < i → f j = g j) → cntV f i = cntV g i
  | 0, _ => rfl
  | i + 1, h => by
    have ih := cntV_congr i (fun j hj => h j (by omega))
    have hi := h i (by omega)
    by_cases h0 : f i = 0
    · rw [cntV_zero h0, cntV_zero (by rw [← hi]; exact h0), ih]
    · rw [cntV_one h0, cntV_one (by rw [← hi]; exact h0), ih]
theorem encV_congr {f g : Nat → Int} (h : ∀ j, j < 16 → f j = g j) : encV f = encV g := by unfold encV; rw [bodyV_congr 16 h, cntV_congr 16 h]
/-- Where nothing comes from a replica on, nothing is written. -/
theorem bodyV_rest {f : Nat → Int} (k : Nat) (h : ∀ j, k ≤ j → f j = 0) : ∀ d, bodyV f (k + d) = bodyV f k ∧ cntV f (k + d) = cntV f k
  | 0 => ⟨rfl, rfl⟩
  | d + 1 => by
    have ih := bodyV_rest k h d
    have h0 := h (k + d) (by omega)
    rw [show k + (d + 1) = (k + d) + 1 by omega, bodyV_zero h0, cntV_zero h0]
    exact ih
theorem enc7_len40 {n : Nat} (h : n ≤ 1099511627776) : (enc7 n).length ≤ 6 := enc7_len 5 n (by show n < 4398046511104; omega)
theorem bodyV_len {f : Nat → Int} (h : ∀ i, i < 16 → 0 ≤ f i ∧ f i ≤ 1099511627776) : ∀ i, i ≤ 16 → (bodyV f i).length ≤ 7 * i
  | 0, _ => by show 0 ≤ _; omega
  | i + 1, hi => by
    have ih := bodyV_len h i (by omega)
    by_cases h0 : f i = 0
    · rw [bodyV_zero h0]; omega
    · rw [bodyV_one h0]
      have h1 := enc7_len 0 i (by show i < 128; omega)
      have h2 := enc7_len40 (n := (f i).toNat) (by have := h i (by omega); omega)
      simp only [List.length_append]
      omega
theorem encV_len {f : Nat → Int} (h : ∀ i, i < 16 → 0 ≤ f i ∧ f i ≤ 1099511627776) : (encV f).length ≤ 113 := by
  have h1 := bodyV_len h 16 (Nat.le_refl _)
  have h2 := enc7_len 0 (cntV f 16) (by have := cntV_le f 16; show _ < 128; omega)
  unfold encV
  simp only [List.length_append]
  omega
end Go.Proofs.YtfemgkamgokjcaaDoor
/- What was taken as a vector has just the bytes that were taken. -/
set_option maxRecDepth 100000
namespace Go.Proofs.YtfemgkamgokjcaaDoor
open Go Go.RowKit
attribute [-go_sem] Sha.exec_store

theorem rngI_inv {l : List (BitVec 8)} {lo hi : Int} {n k : Nat} (h : rngI l lo hi = (n, k, 0)) : k ≤ l.length ∧ l.take k = enc7 n ∧ lo ≤ (n : Int) ∧ (n : Int) ≤ hi := by
  cases e : num7 l with
  | none => rw [rngI_none lo hi e] at h; injection h with _ h; injection h with _ h; cases h
  | some x =>
    obtain ⟨a, b⟩ := x
    by_cases g : (a : Int) < lo ∨ hi < (a : Int)
    · rw [rngI_out e g] at h; injection h with _ h; injection h with _ h; cases h
    · rw [rngI_in e g] at h
      injection h with h1 h
      injection h with h2 h
      subst h1 h2
      have := num7_inv e
      exact ⟨this.2.1, this.2.2.1, by omega, by omega⟩
theorem stepsV_enc : ∀ (c least : Nat) (l : List (BitVec 8)) (f : Nat → Int) (g : Nat → Int) (rest : List (BitVec 8)), least ≤ 16 → (∀ j, least ≤ j → f j = 0) → (∀ j, j < 16 → 0 ≤ f j ∧ f j ≤ 1099511627776) → stepsV c least l f = some (g, rest) →
    ∃ mid, l = mid ++ rest ∧ bodyV g 16 = bodyV f least ++ mid ∧ cntV g 16 = cntV f least + c ∧ ∀ j, j < 16 → 0 ≤ g j ∧ g j ≤ 1099511627776
  | 0, least, l, f, g, rest, hl, hz, hg, h => by
    injection h with h
    injection h with h1 h2
    subst h1 h2
    have := bodyV_rest least hz (16 - least)
    rw [show least + (16 - least) = 16 by omega] at this
    exact ⟨[], rfl, by rw [this.1, List.append_nil], by rw [this.2]; rfl, hg⟩
  | c + 1, least, l, f, g, rest, hl, hz, hg, h => by
    by_cases h1 : (rngI l least 15).2.2 = 0
    · obtain ⟨x, hx⟩ : ∃ x, rngI l least 15 = x := ⟨_, rfl⟩
      obtain ⟨r, k, cd⟩ := x
      rw [hx] at h1
      have h1' : cd = 0 := h1
      subst h1'
      by_cases h2 : (rngI (l.drop k) 1 1099511627776).2.2 = 0
      · obtain ⟨y, hy⟩ : ∃ y, rngI (l.drop k) 1 1099511627776 = y := ⟨_, rfl⟩
        obtain ⟨n, k2, c2⟩ := y
        rw [hy] at h2
        have h2' : c2 = 0 := h2
        subst h2'
        rw [stepsV_one hx hy] at h
        have i1 := rngI_inv hx
        have i2 := rngI_inv hy
        have hr : least ≤ r ∧ r ≤ 15 := by omega
        have hn : 1 ≤ n ∧ n ≤ 1099511627776 := by omega
        obtain ⟨mid, e1, e2, e3, e4⟩ := stepsV_enc c (r + 1) _ (fun i => if i = r then (n : Int) else f i) g rest (by omega) (fun j hj => by
          show (if j = r then (n : Int) else f j) = 0
          rw [if_neg (by omega)]; exact hz j (by omega)) (fun j hj => by
          show 0 ≤ (if j = r then (n : Int) else f j) ∧ (if j = r then (n : Int) else f j) ≤ 1099511627776
          split
          · omega
          · exact hg j hj) h
        have hb : bodyV (fun i => if i = r then (n : Int) else f i) (r + 1) = bodyV f least ++ enc7 r ++ enc7 n ∧ cntV (fun i => if i = r then (n : Int) else f i) (r + 1) = cntV f least + 1 := by
          have q : (fun i => if i = r then (n : Int) else f i) r = (n : Int) := if_pos rfl
          have q0 : (fun i => if i = r then (n : Int) else f i) r ≠ 0 := by rw [q]; omega
          have hrest := bodyV_rest least hz (r - least)
          rw [show least + (r - least) = r by omega] at hrest
          rw [bodyV_one q0, cntV_one q0, if_pos rfl, bodyV_congr (g := f) r (fun j hj => if_neg (by omega)), cntV_congr (g := f) r (fun j hj => if_neg (by omega)), hrest.1, hrest.2]
          exact ⟨by rw [Int.toNat_natCast], rfl⟩
        refine ⟨enc7 r ++ enc7 n ++ mid, ?_, ?_, ?_, e4⟩
        · rw [← i1.2.1, ← i2.2.1, List.append_assoc, List.append_assoc, ← e1, List.take_append_drop, List.take_append_drop]
        · rw [e2, hb.1]; simp only [List.append_assoc]
        · rw [e3, hb.2]; omega
      · rw [stepsV_no2 hx h2] at h; cases h
    · rw [stepsV_no1 h1] at h; cases h
theorem takeR_enc {l : List (BitVec 8)} {g : Nat → Int} {rest : List (BitVec 8)} (h : takeR l = some (g, rest)) : l = encV g ++ rest ∧ ∀ j, j < 16 → 0 ≤ g j ∧ g j ≤ 1099511627776 := by
  unfold takeR at h
  cases e : num7 l with
  | none => rw [e] at h; cases h
  | some x =>
    obtain ⟨c, k⟩ := x
    rw [e] at h
    obtain ⟨mid, e1, e2, e3, e4⟩ := stepsV_enc c 0 _ _ g rest (by omega) (fun _ _ => rfl) (fun _ _ => ⟨by decide, by decide⟩) h
    have hi := num7_inv e
    refine ⟨?_, e4⟩
    unfold encV
    rw [e2, e3, List.append_assoc]
    show l = enc7 (cntV (fun _ => 0) 0 + c) ++ (([] ++ mid) ++ rest)
    rw [show cntV (fun _ => 0) 0 + c = c from Nat.zero_add _, List.nil_append, ← e1, ← hi.2.2.1, List.take_append_drop]
/-- What is written of a good vector is read as it. -/
theorem stepsV_back {f : Nat → Int} (hf : ∀ j, j < 16 → 0 ≤ f j ∧ f j ≤ 1099511627776) (rest : List (BitVec 8)) : ∀ (d i : Nat) (c : Nat) (l : List (BitVec 8)) (least : Nat), i + d = 16 → least ≤ i → (∀ j, least ≤ j → j < i → f j = 0) → cntV f 16 = cntV f i + c → bodyV f 16 ++ rest = bodyV f i ++ l →
    ∃ g, stepsV c least l (fun j => if j < least then f j else 0) = some (g, rest) ∧ ∀ j, j < 16 → g j = f j
  | 0, i, c, l, least, hi, hl, hz, hc, hb => by
    obtain rfl : i = 16 := by omega
    obtain rfl : c = 0 := by omega
    have hb' := List.append_cancel_left hb
    subst hb'
    exact ⟨_, rfl, fun j hj => by
      show (if j < least then f j else 0) = f j
      by_cases h : j < least
      · rw [if_pos h]
      · rw [if_neg h, hz j (by omega) hj]⟩
  | d + 1, i, c, l, least, hi, hl, hz, hc, hb => by
    by_cases h0 : f i = 0
    · exact stepsV_back hf rest d (i + 1) c l least (by omega) (by omega) (fun j h1 h2 => by
        by_cases e : j = i
        · rw [e]; exact h0
        · exact hz j h1 (by omega)) (by rw [cntV_zero h0]; exact hc) (by rw [bodyV_zero h0]; exact hb)
    · have hfi := hf i (by omega)
      -- the bytes from here on
      have hpre : ∀ e, ∃ t, bodyV f (i + 1 + e) = bodyV f (i + 1) ++ t ∧ cntV f (i + 1) ≤ cntV f (i + 1 + e) := by
        intro e
        induction e with
        | zero => exact ⟨[], (List.append_nil _).symm, Nat.le_refl _⟩
        | succ e ih =>
          obtain ⟨t, ht, htc⟩ := ih
          by_cases g0 : f (i + 1 + e) = 0
          · exact ⟨t, by rw [show i + 1 + (e + 1) = (i + 1 + e) + 1 by omega, bodyV_zero g0, ht], by rw [show i + 1 + (e + 1) = (i + 1 + e) + 1 by omega, cntV_zero g0]; exact htc⟩
          · exact ⟨t ++ enc7 (i + 1 + e) ++ enc7 (f (i + 1 + e)).toNat, by rw [show i + 1 + (e + 1) = (i + 1 + e) + 1 by omega, bodyV_one g0, ht]; simp only [List.append_assoc], by rw [show i + 1 + (e + 1) = (i + 1 + e) + 1 by omega, cntV_one g0]; omega⟩
      obtain ⟨t, ht, htc⟩ := hpre (15 - i)
      rw [show i + 1 + (15 - i) = 16 by omega] at ht htc
      rw [cntV_one h0] at htc
      obtain ⟨c', rfl⟩ : ∃ c', c = c' + 1 := ⟨c - 1, by omega⟩
      have hl' : l = enc7 i ++ (enc7 (f i).toNat ++ (t ++ rest)) := by
        rw [ht, bodyV_one h0] at hb
        simp only [List.append_assoc] at hb
        exact (List.append_cancel_left hb).symm
      have r1 : rngI l least 15 = (i, (enc7 i).length, 0) := by
        rw [hl']
        exact rngI_in (num7_enc i _ (by omega)) (by omega)
      have r2 : rngI (l.drop (enc7 i).length) 1 1099511627776 = ((f i).toNat, (enc7 (f i).toNat).length, 0) := by
        rw [hl', List.drop_left]
        exact rngI_in (num7_enc (f i).toNat _ (by omega)) (by omega)
      rw [stepsV_one r1 r2]
      have hd : (l.drop (enc7 i).length).drop (enc7 (f i).toNat).length = t ++ rest := by rw [hl', List.drop_left, List.drop_left]
      rw [hd]
      have hfun : (fun j => if j = i then (((f i).toNat : Nat) : Int) else if j < least then f j else 0) = fun j => if j < i + 1 then f j else 0 := by
        funext j
        by_cases e : j = i
        · rw [if_pos e, if_pos (by omega), e]; omega
        · rw [if_neg e]
          by_cases e2 : j < least
          · rw [if_pos e2, if_pos (by omega)]
          · rw [if_neg e2]
            by_cases e3 : j < i + 1
            · rw [if_pos e3, hz j (by omega) (by omega)]
            · rw [if_neg e3]
      rw [hfun]
      exact stepsV_back hf rest d (i + 1) c' (t ++ rest) (i + 1) (by omega) (Nat.le_refl _) (fun j h1 h2 => by omega) (by rw [cntV_one h0]; omega) (by rw [ht, List.append_assoc])
theorem takeV_back {f : Nat → Int} (hf : ∀ j, j < 16 → 0 ≤ f j ∧ f j ≤ 1099511627776) (rest : List (BitVec 8)) : ∃ g, takeV (encV f ++ rest) = some (g, rest) ∧ ∀ j, j < 16 → g j = f j := by
  have hc := cntV_le f 16
  have h1 : rngI (encV f ++ rest) 0 16 = (cntV f 16, (enc7 (cntV f 16)).length, 0) := by
    unfold encV
    rw [List.append_assoc]
    exact rngI_in (num7_enc _ _ (by omega)) (by omega)
  have h2 : (encV f ++ rest).drop (enc7 (cntV f 16)).length = bodyV f 16 ++ rest := by unfold encV; rw [List.append_assoc, List.drop_left]
  obtain ⟨g, hg, hgf⟩ := stepsV_back hf rest 16 0 (cntV f 16) (bodyV f 16 ++ rest) 0 rfl (Nat.le_refl _) (fun j h1 h2 => by omega) (by show cntV f 16 = 0 + _; omega) rfl
  refine ⟨g, ?_, hgf⟩
  unfold takeV
  simp only [h1, h2, if_true]
  rw [show (fun _ : Nat => (0 : Int)) = fun j => if j < 0 then f j else 0 from funext fun j => (if_neg (by omega)).symm]
  exact hg
end Go.Proofs.YtfemgkamgokjcaaDoor
/- The encoding of a record, and what is taken of bytes as one; plain functions. -/
set_option maxRecDepth 100000
namespace Go.Proofs.YtfemgkamgokjcaaDoor
open Go Go.RowKit
attribute [-go_sem] Sha.exec_store

abbrev By := List (BitVec 8)
/-- A path's bytes. -/
def pB (p : S8) : By := p.map UInt8.toBitVec
theorem pB_len (p : S8) : (pB p).length = p.length := by unfold pB; rw [List.length_map]
def pS (b : By) : S8 := b.map UInt8.ofBitVec
theorem pS_len (b : By) : (pS b).length = b.length := by unfold pS; rw [List.length_map]
theorem pS_pB (p : S8) : pS (pB p) = p := by
  unfold pS pB
  rw [List.map_map]
  exact (List.map_congr_left fun x _ => by rfl).trans (List.map_id p)
theorem strOf_pS (b : By) : strOf b = mkS (pS b) := by unfold mkS pS strOf; rfl
theorem strOf_pB (p : S8) : strOf (pB p) = mkS p := by rw [strOf_pS, pS_pB]
/-- One step of a reading. -/
def stp {α β : Type} (x : α × Nat × Nat) (l : By) (f : α → By → Except Nat β) : Except Nat β := if x.2.2 = 0 then f x.1 (l.drop x.2.1) else .error x.2.2
theorem stp_ok {α β : Type} {x : α × Nat × Nat} {l : By} {f : α → By → Except Nat β} {a : α} {k : Nat} (h : x = (a, k, 0)) : stp x l f = f a (l.drop k) := by subst h; rfl
theorem stp_no {α β : Type} {x : α × Nat × Nat} {l : By} {f : α → By → Except Nat β} (h : x.2.2 ≠ 0) : stp x l f = .error x.2.2 := by unfold stp; rw [if_neg h]
/-- What a record tells but for where its digests lie. -/
structure RcT where
  path : By
  size : Nat
  time : Nat
  chg : Nat
  ver : Nat → Int
  dead : Bool
  whole : By
  ds : List By
def maxT : Int := 9223372036854775807
/-- k digests at the beginning of bytes. -/
def digsN : Nat → By → Option (List By × By)
  | 0, l => some ([], l)
  | k + 1, l => if l.length < 32 then none else (digsN k (l.drop 32)).map fun x => (l.take 32 :: x.1, x.2)
/-- The record at the beginning of bytes; or the error. -/
def takeRc (l : By) : Except Nat (RcT × By) :=
  stp (nextI l 2 100) l fun x l1 => stp (takeI l1 maxT) l1 fun s l2 => stp (takeI l2 maxT) l2 fun t l3 => stp (takeI l3 maxT) l3 fun c l4 =>
    match takeV l4 with
    | none => .error 6
    | some (f, l5) => stp (nextI l5 3 0) l5 fun d l6 =>
      if d.n = 1 then .ok (⟨x.b, s, t, c, f, true, z32, []⟩, l6)
      else stp (nextI l6 4 0) l6 fun h l7 => stp (takeI l7 64) l7 fun k l8 =>
        match digsN k l8 with
        | none => .error 6
        | some (ds, l9) => .ok (⟨x.b, s, t, c, f, false, h.b, ds⟩, l9)
/-- What goes ahead of a record's last digest. -/
def bodyRc (r : RcT) : By :=
  (enc7 r.path.length ++ r.path) ++ enc7 r.size ++ enc7 r.time ++ enc7 r.chg ++ encV r.ver ++ (if r.dead then [1#8] else ([0#8] ++ r.whole) ++ enc7 r.ds.length ++ r.ds.flatten)
def encRc (r : RcT) : By := bodyRc r ++ digL (bodyRc r)
theorem takeI_encT {n : Nat} (r : By) {most : Int} (h : n < 9223372036854775808) (hm : (n : Int) ≤ most) : takeI (enc7 n ++ r) most = (n, (enc7 n).length, 0) := takeI_some (num7_enc n r h) (by omega)
theorem next_text (b r : By) {most : Int} (h : b.length < 9223372036854775808) (hm : (b.length : Int) ≤ most) : nextI ((enc7 b.length ++ b) ++ r) 2 most = (⟨2, 0, b⟩, (enc7 b.length ++ b).length, 0) := by
  rw [nextI_take (by decide) (by decide), List.append_assoc, takeI_encT _ h hm, if_neg (by simp), if_neg (by omega)]
  dsimp only
  rw [if_neg (by simp), List.drop_left, List.length_append, List.take_left]
theorem next_bytes (b r : By) {most : Int} (h : b.length < 9223372036854775808) (hm : (b.length : Int) ≤ most) : nextI ((enc7 b.length ++ b) ++ r) 1 most = (⟨1, 0, b⟩, (enc7 b.length ++ b).length, 0) := by
  rw [nextI_take (by decide) (by decide), List.append_assoc, takeI_encT _ h hm, if_neg (by simp), if_neg (by omega)]
  dsimp only
  rw [if_neg (by simp), List.drop_left, List.length_append, List.take_left]
theorem next_one (r : By) : nextI (1#8 :: r) 3 0 = (⟨3, 1, []⟩, 1, 0) := by unfold nextI; rw [if_pos rfl, if_neg (by simp)]; rfl
theorem next_zero (r : By) : nextI (0#8 :: r) 3 0 = (⟨3, 0, []⟩, 1, 0) := by unfold nextI; rw [if_pos rfl, if_neg (by simp)]; rfl
theorem next_dig (d r : By) (h : d.length = 32) : nextI (d ++ r) 4 0 = (⟨4, 0, d⟩, 32, 0) := by
  unfold nextI
  rw [if_neg (by decide), if_pos rfl, if_neg (by rw [List.length_append]; omega), List.take_append_of_le_length (by omega), List.take_of_length_le (by omega)]
theorem digsN_back : ∀ (ds : List By) (r : By), (∀ d ∈ ds, d.length = 32) → digsN ds.length (ds.flatten ++ r) = some (ds, r)
  | [], r, _ => rfl
  | d :: ds, r, h => by
    have hd := h d (by simp)
    have ih := digsN_back ds r fun x hx => h x (by simp [hx])
    show (if ((d :: ds).flatten ++ r).length < 32 then none else _) = _
    have e : (d :: ds).flatten ++ r = d ++ (ds.flatten ++ r) := by simp
    rw [e, if_neg (by rw [List.length_append]; omega), List.drop_append_of_le_length (by omega), List.drop_of_length_le (by omega), List.nil_append, ih, List.take_append_of_le_length (by omega), List.take_of_length_le (by omega)]
    rfl
/-- What may be written and read again. -/
structure RcW (r : RcT) : Prop where
  path : r.path.length ≤ 100
  size : r.size < 9223372036854775808
  time : r.time < 9223372036854775808
  chg : r.chg < 9223372036854775808
  ver : ∀ i, i < 16 → 0 ≤ r.ver i ∧ r.ver i ≤ 1099511627776
  whole : r.dead = false → r.whole.length = 32
  ds : r.dead = false → r.ds.length ≤ 64
  each : r.dead = false → ∀ d ∈ r.ds, d.length = 32
/-- A record as it is read. -/
def RcT.nrm (r : RcT) (g : Nat → Int) : RcT := if r.dead then { r with ver := g, whole := z32, ds := [] } else { r with ver := g }
theorem takeRc_back {r : RcT} (h : RcW r) (rest : By) : ∃ g, takeRc (bodyRc r ++ rest) = .ok (r.nrm g, rest) ∧ ∀ j, j < 16 → g j = r.ver j := by
  obtain ⟨h1, h2, h3, h4, h5, h6, h7, h8⟩ := h
  obtain ⟨path, size, time, chg, ver, dead, whole, ds⟩ := r
  dsimp only at *
  obtain ⟨g, hg, hgf⟩ := takeV_back h5 ((if dead then [1#8] else ([0#8] ++ whole) ++ enc7 ds.length ++ ds.flatten) ++ rest)
  refine ⟨g, ?_, hgf⟩
  unfold bodyRc takeRc
  dsimp only
  have e : (enc7 path.length ++ path) ++ enc7 size ++ enc7 time ++ enc7 chg ++ encV ver ++ (if dead = true then [1#8] else ([0#8] ++ whole) ++ enc7 ds.length ++ ds.flatten) ++ rest = (enc7 path.length ++ path) ++ (enc7 size ++ (enc7 time ++ (enc7 chg ++ (encV ver ++ ((if dead = true then [1#8] else ([0#8] ++ whole) ++ enc7 ds.length ++ ds.flatten) ++ rest))))) := by
    simp only [List.append_assoc]
  rw [e, stp_ok (next_text path _ (by omega) (by omega)), List.drop_left, stp_ok (takeI_encT _ h2 (by unfold maxT; omega)), List.drop_left, stp_ok (takeI_encT _ h3 (by unfold maxT; omega)), List.drop_left, stp_ok (takeI_encT _ h4 (by unfold maxT; omega)), List.drop_left, hg]
  dsimp only
  cases dead with
  | true =>
    rw [if_pos rfl, List.singleton_append, stp_ok (next_one rest)]
    dsimp only
    rw [if_pos rfl]
    rfl
  | false =>
    rw [if_neg (by decide), List.append_assoc, List.append_assoc, List.append_assoc, List.singleton_append, stp_ok (next_zero _)]
    dsimp only
    rw [if_neg (by decide), List.drop_succ_cons, List.drop_zero, stp_ok (next_dig _ _ (h6 rfl))]
    have hd : ∀ x : By, (whole ++ x).drop 32 = x := fun x => by rw [List.drop_append_of_le_length (by rw [h6 rfl]; exact Nat.le_refl _), List.drop_of_length_le (by rw [h6 rfl]; exact Nat.le_refl _), List.nil_append]
    rw [hd, stp_ok (takeI_encT _ (by have := h7 rfl; omega) (by have := h7 rfl; omega)), List.drop_left, digsN_back ds rest (h8 rfl)]
    rfl
end Go.Proofs.YtfemgkamgokjcaaDoor
/- record.digests. -/
set_option maxRecDepth 100000
namespace Go.Proofs.YtfemgkamgokjcaaDoor
open Go Go.RowKit Go.Shelf

attribute [-go_sem] Sha.exec_store
theorem elD : ElK 24 23 (.agg (Array.replicate 32 (Value.int .u8 0))) 32 32 := ⟨by kernel_rfl, by kernel_rfl, rfl, by decide, by decide⟩
/-- A digest's cells. -/
def digC (d : List (BitVec 8)) : List Value := d.map B
theorem digC_len (d : List (BitVec 8)) : (digC d).length = d.length := by unfold digC; rw [List.length_map]
theorem digC_one (d : List (BitVec 8)) : ∀ u ∈ digC d, u.oneCell' = true := one_map d
theorem below_newD (w : World) (o : Obj) : Below w.heap.size w (w.alloc o) := (Below.refl _ _).alloc (Nat.le_refl _) _
theorem dig_tab {d : List (BitVec 8)} (h : d.length = 32) : (tab 32 (dgF d)).toList = digC d := by
  apply List.ext_getElem?
  intro i
  unfold tab digC dgF
  by_cases hi : i < 32
  · simp [hi, List.getD_eq_getElem?_getD, show i < d.length by omega]
  · rw [List.getElem?_eq_none (by simp; omega), List.getElem?_eq_none (by simp; omega)]
theorem lsc_dig (w : World) (d : List (BitVec 8)) (h : d.length = 32) : LsC (w.alloc (.cells (tab 32 (dgF d)) 23)) (some ⟨w.heap.size, 0, none⟩) (digC d) := by
  have := LsC.made w (digC d) 23
  have e : (digC d).toArray = tab 32 (dgF d) := by rw [← dig_tab h, Array.toArray_toList]
  rw [e] at this
  exact this
set_option maxRecDepth 100000 in
theorem bsD1 (d : List (BitVec 8)) (w : World) : (bsT 24 1 #[(0, digV d)]).run Tryd.prog w = .ok (.value (.slice (some ⟨w.heap.size, 0, none⟩) 1 1)) (w.alloc (.cells (tab 32 (dgF d)) 23)) := by
  unfold digV
  kernel_rfl
set_option maxRecDepth 100000 in
theorem bsBlk (q : Option Addr) (n i : Nat) (w : World) : (bsT 52 1 #[(0, blkS q n i)]).run Tryd.prog w = .ok (.value (.slice (some ⟨w.heap.size, 0, none⟩) 1 1)) (w.alloc (.cells #[blkS q n i] 27)) := by
  unfold blkS
  kernel_rfl
attribute [local go_sem] Oper.semAt_some bsD1 bsBlk
attribute [local go_sem ↓] exec_bs
/-- What the walk carries. -/
def InvD (w : World) (N : Nat) (l : List (BitVec 8)) (pre : List Nat) (A : World) : Prop :=
  ∃ v, A.cell? ⟨N, 0, none⟩ = some v ∧ A.frozen? ⟨N, 0, none⟩ = false ∧ A.ownsRow (N + 4) 23 32 v pre.length (pre.flatMap fun i => digC (digL (blkL l i))) ∧ Below w.heap.size w A ∧ N + 2 ≤ A.heap.size
theorem InvD.of_below {w : World} {N : Nat} {l : List (BitVec 8)} {pre : List Nat} {A A' : World} (h : InvD w N l pre A) (hB : Below A.heap.size A A') : InvD w N l pre A' := by
  obtain ⟨v, h1, h2, h3, h4, h5⟩ := h
  have hlt := World.block_lt_of_cell? A _ h1
  exact ⟨v, by rw [hB.cell (by exact hlt)]; exact h1, by rw [hB.frozen (by exact hlt)]; exact h2, own_below h3 hB, h4.trans (hB.mono h4.size), Nat.le_trans h5 hB.size⟩
theorem InvD.bears (w : World) (N : Nat) (l : List (BitVec 8)) (hw : w.heap.size = N) : BearsP (N + 2) (InvD w N l) :=
  ⟨fun pre A o h => h.of_below (below_newD _ _),
   fun pre A o hlt h => by
    obtain ⟨v, h1, h2, h3, h4, h5⟩ := h
    have hB := below_putP (N := N + 2 + 1) o (Nat.le_refl _) hlt
    exact ⟨v, by rw [hB.cell (by show N < _; omega)]; exact h1, by rw [hB.frozen (by show N < _; omega)]; exact h2, own_keep h3 (fun g hg => World.putObj_heap_other (by have := (h3.lt g hg).1; omega)), h4.trans (hB.mono (by omega)), Nat.le_trans h5 hB.size⟩,
   fun pre A k h => h.of_below ((show Dr A (A.drewN k) from ⟨k, rfl⟩).below _)⟩
theorem blk_sum (l : List (BitVec 8)) (q : Option Addr) (n cap i : Nat) (u : World) (b : Nat) (hl : l.length = n) (hs : Sl u q l) (hc : u.cell? ⟨b, 0, none⟩ = some (blkS q n i)) (hT : Tb u) :
    Calls Tryd.prog 22 #[.slice (some ⟨b, 0, none⟩) 1 1] u fun e w' => e = .returned (digV (digL (blkL l i))) ∧ Below u.heap.size u w' := by
  have h3 := blen_le n i
  exact sum1_any (blkL l i) b 0 _ (blen n i) _ u (by rw [blkL_len, hl]) hc (blkL_sl hs i) hT (by omega)
set_option maxRecDepth 100000 in
set_option maxHeartbeats 4000000 in
theorem digests_any (l : List (BitVec 8)) (q : Option Addr) (n cap : Nat) (w : World) (hl : l.length = n) (hs : Sl w q l) (hc : n ≤ cap) (hn : n < 1000000) (hT : Tb w) :
    Calls Tryd.prog 23 #[.slice q n cap] w fun e w' => ∃ v, e = .returned v ∧ w'.ownsRow w.heap.size 23 32 v (nblk n) ((List.range (nblk n)).flatMap fun i => digC (digL (blkL l i))) ∧ Below w.heap.size w w' := by
  refine (callsIn_wide (n := 7)).1 ?_
  refine callsIn_of_wp_marks Tryd.func23 rfl trivial ?_ rfl
  simp only [Tryd.ntmps23, List.size_toArray, List.length_cons, List.length_nil, Nat.reduceAdd, Nat.reduceSub, Array.replicate_succ, Array.replicate_zero, List.push_toArray, List.append_toArray, List.nil_append, List.cons_append]
  have HSL := Lib.hid hs
  have HLN := Lib.hid hl
  have HTB := Lib.hid hT
  clear hs hl hT
  gi_wp2_with (refine ⟨trivial, ?_⟩; gi_at_call 28; refine (callsIn_wide.2 (blocks_any q n cap _)).mono ?_; rintro e w' ⟨rfl, rfl⟩)
  obtain ⟨N, hN⟩ : ∃ N, w.heap.size = N := ⟨_, rfl⟩
  obtain ⟨W1, hW1⟩ : ∃ W1, w.alloc (.cells #[.slice none 0 0] 24) = W1 := ⟨_, rfl⟩
  obtain ⟨W2, hW2⟩ : ∃ W2, W1.alloc (.cells #[.slice q n cap] 27) = W2 := ⟨_, rfl⟩
  have s1 : W1.heap.size = N + 1 := by rw [← hW1]; simp [hN]
  have s2 : W2.heap.size = N + 2 := by rw [← hW2]; simp [s1]
  have hB1 : Below w.heap.size w W1 := by rw [← hW1]; exact below_newD _ _
  have hB2 : Below W1.heap.size W1 W2 := by rw [← hW2]; exact below_newD _ _
  obtain ⟨c0, f0⟩ := new_cP w (.slice none 0 0) 24
  rw [hW1, hN] at c0 f0
  have c1 : W2.cell? ⟨N + 1, 0, none⟩ = some (.slice q n cap) := by rw [← hW2, ← s1]; exact World.cell?_alloc_new _ _ _ _
  have c0' : W2.cell? ⟨N, 0, none⟩ = some (.slice none 0 0) := by rw [hB2.cell (by show N < _; omega)]; exact c0
  have f0' : W2.frozen? ⟨N, 0, none⟩ = false := by rw [hB2.frozen (by show N < _; omega)]; exact f0
  have inv0 : InvD w N l [] W2 := ⟨_, c0', f0', ⟨rfl, .inl ⟨rfl, rfl⟩⟩, hB1.trans (hB2.mono hB1.size), by omega⟩
  have HSEQ := Lib.hid (blocks_seq 6 (by decide) (N + 1) q n cap W2 c1 hn hc)
  rw [hW1, hW2]
  try rw [hN]
  clear hW1 hW2 hB1 hB2 c0 f0 c1 c0' f0'
  refine range_pure (m := 7) (by decide) (gf := 52) (lb := #[.pointer (some ⟨N + 1, 0, none⟩)]) (by rfl) (enters_of Tryd.func52 (by kernel_rfl) rfl)
    (encs := fun i : Nat => #[.int .i64 (i : Int), blkS q n i]) (fun _ => rfl) (b := N + 1) (by omega) HSEQ.out
    (InvD w N l) (fun _ _ => False) (by have := InvD.bears w N l hN; rw [← s2] at this; exact this) (fun _ _ _ _ h => h) inv0
    (fun i => { tmps := #[.slice q n cap, undef, .slice none 0 0, .pointer (some ⟨N, 0, none⟩), undef, blkS q n i, .slice q n cap, .func (.func 52) #[] #[.pointer (some ⟨N + 1, 0, none⟩)], .int .i64 (i : Int), blkS q n i, undef, undef, undef, undef, undef, undef, undef], defers := [] }) ?assign ?body ?done ?stop
  case assign =>
    intro L x A K hK
    gi_wp2
    exact hK
  case body =>
    rintro L pre i A hpx hNA hinv
    rw [s2] at hNA
    have hNA : N + 4 ≤ A.heap.size := hNA
    obtain ⟨v, hcx, hfx, hOW, hBE, -⟩ := hinv
    have hik := pre_range hpx
    have hlen : pre.length + 1 < 100000000 := by have := hik.2.1; unfold nblk at this; omega
    have HOW := Lib.hid hOW
    have HSM := Lib.hid (fun (b : Nat) (u : World) (hu : Below A.heap.size A u) (hc : u.cell? ⟨b, 0, none⟩ = some (blkS q n i)) => blk_sum l q n cap i u b HLN.out (HSL.out.of_below (hBE.trans (hu.mono hBE.size))) hc (HTB.out.on (hBE.trans (hu.mono hBE.size))))
    have HBE := Lib.hid hBE
    have HX := Lib.hid (show Below A.heap.size A A.drew from (Below.refl _ _).drew)
    have hcx : A.drew.cell? ⟨N, 0, none⟩ = some v := hcx
    have hfx : A.drew.frozen? ⟨N, 0, none⟩ = false := hfx
    have hcy := hcx
    have HN := Lib.hid hN
    clear hOW hBE hpx hik hN
    gi_wp2
    refine wpIn_region_round (by kernel_rfl) (by kernel_rfl) ?_
    generalize A.drew = x at *
    refine wpAnyIn_take (i := 1) (v := ?_) rfl (by simp only [List.getElem?_toArray, List.getElem?_cons_succ, List.getElem?_cons_zero]; exact rfl) (by kernel_rfl) (by kernel_rfl) (by kernel_rfl) (fun _ _ _ h => h) ⟨Or.inl ⟨by rfl, ?_⟩, fun _ => rfl⟩ ?_
    rotate_left 1
    · (intro w; go_simp; try with_reducible rfl)
    try simp only [Act.put, List.setIfInBounds_toArray, List.set_cons_zero, List.set_cons_succ]
    refine wpAnyIn_ready (rs := [0, 2]) (by kernel_rfl) (by simp) ?_
    refine (AllReadyIn.cons (by simp only [List.getElem?_toArray, List.getElem?_cons_succ, List.getElem?_cons_zero]; exact rfl) (fun K hK => ?_) (AllReadyIn.cons (by simp only [List.getElem?_toArray, List.getElem?_cons_succ, List.getElem?_cons_zero]; exact rfl) (fun K hK => ?_) AllReadyIn.nil))
    · go_simp
      refine hK _ _ ?_
      clear hK K
      try simp only [Act.put, List.setIfInBounds_toArray, List.set_cons_zero, List.set_cons_succ]
      refine wpAnyIn_ready (rs := [2]) (by kernel_rfl) (by simp) ?_
      refine (AllReadyIn.cons (by simp only [List.getElem?_toArray, List.getElem?_cons_succ, List.getElem?_cons_zero]; exact rfl) (fun K hK => ?_) AllReadyIn.nil)
      go_simp
      obtain ⟨x2, hy⟩ : ∃ y, (x.alloc (.cells #[blkS q n i] 27)) = y := ⟨_, rfl⟩
      have hBa : Below x.heap.size x x2 := by rw [← hy]; exact below_newD _ _
      obtain ⟨hhc, -⟩ := new_cP x (blkS q n i) 27
      rw [hy] at hhc
      have hcx := (show x2.cell? ⟨N, 0, none⟩ = some v from by rw [hBa.cell (by exact World.block_lt_of_cell? x _ hcx)]; exact hcx)
      have hfx := (show x2.frozen? ⟨N, 0, none⟩ = false from by rw [hBa.frozen (by exact World.block_lt_of_cell? x _ hcy)]; exact hfx)
      have hcy := hcx
      have HX := Lib.hid (HX.out.trans (hBa.mono HX.out.size))
      have HH := Lib.hid hhc
      refine hK _ _ ?_
      clear hK K
      rw [hy]
      clear hy hBa hhc
      generalize x.heap.size = hb at *
      try simp only [Act.put, List.setIfInBounds_toArray, List.set_cons_zero, List.set_cons_succ]
      refine wpAnyIn_ready (rs := [3]) (by kernel_rfl) (by simp) ?_
      refine (AllReadyIn.cons (by simp only [List.getElem?_toArray, List.getElem?_cons_succ, List.getElem?_cons_zero]; exact rfl) (fun K hK => ?_) AllReadyIn.nil)
      go_simp
      refine ⟨trivial, (callsIn_wide.2 (HSM.out hb _ HX.out HH.out)).mono ?_⟩
      rintro e x23 ⟨rfl, hB3⟩
      have hcx := (show x23.cell? ⟨N, 0, none⟩ = some v from by rw [hB3.cell (by exact World.block_lt_of_cell? x2 _ hcx)]; exact hcx)
      have hfx := (show x23.frozen? ⟨N, 0, none⟩ = false from by rw [hB3.frozen (by exact World.block_lt_of_cell? x2 _ hcy)]; exact hfx)
      have hcy := hcx
      have HX := Lib.hid (HX.out.trans (hB3.mono HX.out.size))
      clear hB3
      refine hK _ _ ?_
      clear hK K
      try simp only [Act.put, List.setIfInBounds_toArray, List.set_cons_zero, List.set_cons_succ]
      refine wpAnyIn_ready (rs := [4]) (by kernel_rfl) (by simp) ?_
      refine (AllReadyIn.cons (by simp only [List.getElem?_toArray, List.getElem?_cons_succ, List.getElem?_cons_zero]; exact rfl) (fun K hK => ?_) AllReadyIn.nil)
      go_simp
      obtain ⟨x234, hy⟩ : ∃ y, (x23.alloc (.cells (tab 32 (dgF (digL (blkL l i)))) 23)) = y := ⟨_, rfl⟩
      have hBa : Below x23.heap.size x23 x234 := by rw [← hy]; exact below_newD _ _
      have hcx := (show x234.cell? ⟨N, 0, none⟩ = some v from by rw [hBa.cell (by exact World.block_lt_of_cell? x23 _ hcx)]; exact hcx)
      have hfx := (show x234.frozen? ⟨N, 0, none⟩ = false from by rw [hBa.frozen (by exact World.block_lt_of_cell? x23 _ hcy)]; exact hfx)
      have hcy := hcx
      have HX := Lib.hid (HX.out.trans (hBa.mono HX.out.size))
      have HD := Lib.hid (show LsC x234 (some ⟨x23.heap.size, 0, none⟩) (digC (digL (blkL l i))) from by rw [← hy]; exact lsc_dig _ _ (digL_len _))
      refine hK _ _ ?_
      clear hK K
      rw [hy]
      clear hy hBa
      try simp only [Act.put, List.setIfInBounds_toArray, List.set_cons_zero, List.set_cons_succ]
      refine wpAnyIn_ready (rs := [5]) (by kernel_rfl) (by simp) ?_
      refine (AllReadyIn.cons (by simp only [List.getElem?_toArray, List.getElem?_cons_succ, List.getElem?_cons_zero]; exact rfl) (fun K hK => ?_) AllReadyIn.nil)
      have hO := own_below HOW.out HX.out
      refine stepIn_appendK elD x234 rfl (.tmp 10) (.tmp 14) rfl (N + 4) rfl hO _ 1 1 (digC (digL (blkL l i))) (by rw [digC_len, digL_len]) rfl HD.out (fun h => by cases h) (digC_one _) (by omega) (Nat.le_trans hNA HX.out.size) ?_
      rintro v' x2345 hO' hg hor
      have hne : some N ≠ v.ownBlock := fun e => by have := (World.ownsRow.lt hO N e.symm).1; omega
      have hcx := (show x2345.cell? ⟨N, 0, none⟩ = some v from hg.cell hcx hne)
      have hfx := (show x2345.frozen? ⟨N, 0, none⟩ = false from by rw [World.frozen?_of_block (w := x234) (hg.block N (by exact World.block_lt_of_cell? x234 _ hcy) hne)]; exact hfx)
      have HBB := Lib.hid (show x2345.heap[N + 1]? = A.heap[N + 1]? from by
        rw [hg.block (N + 1) (by have := HX.out.size; have := HN.out; omega) (fun e => by have := (World.ownsRow.lt hO (N + 1) e.symm).1; omega)]
        exact HX.out.block _ (by omega))
      have HBW := Lib.hid (HBE.out.trans ((HX.out.mono (by have := HN.out; omega)).grown hg (by have := HX.out.size; have := HN.out; omega) (fun k hk => by have := (World.ownsRow.lt hO k hk).1; have := HN.out; omega)))
      have HKO := Lib.hid ((others_belowP HX.out).trans (KeepsOthers.grown_own hO hg))
      have HO2 := Lib.hid hO'
      have hv4 : ∃ p n c, v' = .slice p n c := by obtain ⟨p', c', e', -⟩ := own_shape hO'; exact ⟨_, _, _, e'⟩
      obtain ⟨p4, n4, c4, rfl⟩ := hv4
      have HZ4 := Lib.hid (show N + 4 ≤ x2345.heap.size from Nat.le_trans (Nat.le_trans hNA HX.out.size) hg.size)
      clear hO hO' hg hor hne
      refine hK _ _ ?_
      clear hK K
      try simp only [Act.put, List.setIfInBounds_toArray, List.set_cons_zero, List.set_cons_succ]
      refine wpAnyIn_ready (rs := [6]) (by kernel_rfl) (by simp) ?_
      refine (AllReadyIn.cons (by simp only [List.getElem?_toArray, List.getElem?_cons_succ, List.getElem?_cons_zero]; exact rfl) (fun K hK => ?_) AllReadyIn.nil)
      go_simp
      refine hK _ _ ?_
      clear hK K
      try simp only [Act.put, List.setIfInBounds_toArray, List.set_cons_zero, List.set_cons_succ]
      refine wpAnyIn_done (by kernel_rfl) ?_ _
      refine ⟨HKO.out.trans (KeepsOthers.setCell _ _ _), (Below.heap_setCell _ _ _ _ (show N + 1 ≠ N by omega)).trans HBB.out, _, World.cell?_setCell_same _ _ _ hcx, by rw [World.frozen?_setCell]; exact hfx, ?_, HBW.out.setCell (show w.heap.size ≤ (⟨N, 0, none⟩ : Addr).block by rw [HN.out]; exact Nat.le_refl _) _, by have := HZ4.out; simp; omega⟩
      rw [List.length_append, List.flatMap_append]
      have e : [i].flatMap (fun i => digC (digL (blkL l i))) = digC (digL (blkL l i)) := by simp
      rw [e]
      exact own_keep HO2.out (fun k hk => Below.heap_setCell _ _ _ _ (by show k ≠ N; have := (World.ownsRow.lt HO2.out k hk).1; omega))
    · go_simp
      obtain ⟨x2, hy⟩ : ∃ y, (x.alloc (.cells #[blkS q n i] 27)) = y := ⟨_, rfl⟩
      have hBa : Below x.heap.size x x2 := by rw [← hy]; exact below_newD _ _
      obtain ⟨hhc, -⟩ := new_cP x (blkS q n i) 27
      rw [hy] at hhc
      have hcx := (show x2.cell? ⟨N, 0, none⟩ = some v from by rw [hBa.cell (by exact World.block_lt_of_cell? x _ hcx)]; exact hcx)
      have hfx := (show x2.frozen? ⟨N, 0, none⟩ = false from by rw [hBa.frozen (by exact World.block_lt_of_cell? x _ hcy)]; exact hfx)
      have hcy := hcx
      have HX := Lib.hid (HX.out.trans (hBa.mono HX.out.size))
      have HH := Lib.hid hhc
      refine hK _ _ ?_
      clear hK K
      rw [hy]
      clear hy hBa hhc
      generalize x.heap.size = hb at *
      try simp only [Act.put, List.setIfInBounds_toArray, List.set_cons_zero, List.set_cons_succ]
      refine wpAnyIn_ready (rs := [0, 3]) (by kernel_rfl) (by simp) ?_
      refine (AllReadyIn.cons (by simp only [List.getElem?_toArray, List.getElem?_cons_succ, List.getElem?_cons_zero]; exact rfl) (fun K hK => ?_) (AllReadyIn.cons (by simp only [List.getElem?_toArray, List.getElem?_cons_succ, List.getElem?_cons_zero]; exact rfl) (fun K hK => ?_) AllReadyIn.nil))
      · go_simp
        refine hK _ _ ?_
        clear hK K
        try simp only [Act.put, List.setIfInBounds_toArray, List.set_cons_zero, List.set_cons_succ]
        refine wpAnyIn_ready (rs := [3]) (by kernel_rfl) (by simp) ?_
        refine (AllReadyIn.cons (by simp only [List.getElem?_toArray, List.getElem?_cons_succ, List.getElem?_cons_zero]; exact rfl) (fun K hK => ?_) AllReadyIn.nil)
        go_simp
        refine ⟨trivial, (callsIn_wide.2 (HSM.out hb _ HX.out HH.out)).mono ?_⟩
        rintro e x23 ⟨rfl, hB3⟩
        have hcx := (show x23.cell? ⟨N, 0, none⟩ = some v from by rw [hB3.cell (by exact World.block_lt_of_cell? x2 _ hcx)]; exact hcx)
        have hfx := (show x23.frozen? ⟨N, 0, none⟩ = false from by rw [hB3.frozen (by exact World.block_lt_of_cell? x2 _ hcy)]; exact hfx)
        have hcy := hcx
        have HX := Lib.hid (HX.out.trans (hB3.mono HX.out.size))
        clear hB3
        refine hK _ _ ?_
        clear hK K
        try simp only [Act.put, List.setIfInBounds_toArray, List.set_cons_zero, List.set_cons_succ]
        refine wpAnyIn_ready (rs := [4]) (by kernel_rfl) (by simp) ?_
        refine (AllReadyIn.cons (by simp only [List.getElem?_toArray, List.getElem?_cons_succ, List.getElem?_cons_zero]; exact rfl) (fun K hK => ?_) AllReadyIn.nil)
        go_simp
        obtain ⟨x234, hy⟩ : ∃ y, (x23.alloc (.cells (tab 32 (dgF (digL (blkL l i)))) 23)) = y := ⟨_, rfl⟩
        have hBa : Below x23.heap.size x23 x234 := by rw [← hy]; exact below_newD _ _
        have hcx := (show x234.cell? ⟨N, 0, none⟩ = some v from by rw [hBa.cell (by exact World.block_lt_of_cell? x23 _ hcx)]; exact hcx)
        have hfx := (show x234.frozen? ⟨N, 0, none⟩ = false from by rw [hBa.frozen (by exact World.block_lt_of_cell? x23 _ hcy)]; exact hfx)
        have hcy := hcx
        have HX := Lib.hid (HX.out.trans (hBa.mono HX.out.size))
        have HD := Lib.hid (show LsC x234 (some ⟨x23.heap.size, 0, none⟩) (digC (digL (blkL l i))) from by rw [← hy]; exact lsc_dig _ _ (digL_len _))
        refine hK _ _ ?_
        clear hK K
        rw [hy]
        clear hy hBa
        try simp only [Act.put, List.setIfInBounds_toArray, List.set_cons_zero, List.set_cons_succ]
        refine wpAnyIn_ready (rs := [5]) (by kernel_rfl) (by simp) ?_
        refine (AllReadyIn.cons (by simp only [List.getElem?_toArray, List.getElem?_cons_succ, List.getElem?_cons_zero]; exact rfl) (fun K hK => ?_) AllReadyIn.nil)
        have hO := own_below HOW.out HX.out
        refine stepIn_appendK elD x234 rfl (.tmp 10) (.tmp 14) rfl (N + 4) rfl hO _ 1 1 (digC (digL (blkL l i))) (by rw [digC_len, digL_len]) rfl HD.out (fun h => by cases h) (digC_one _) (by omega) (Nat.le_trans hNA HX.out.size) ?_
        rintro v' x2345 hO' hg hor
        have hne : some N ≠ v.ownBlock := fun e => by have := (World.ownsRow.lt hO N e.symm).1; omega
        have hcx := (show x2345.cell? ⟨N, 0, none⟩ = some v from hg.cell hcx hne)
        have hfx := (show x2345.frozen? ⟨N, 0, none⟩ = false from by rw [World.frozen?_of_block (w := x234) (hg.block N (by exact World.block_lt_of_cell? x234 _ hcy) hne)]; exact hfx)
        have HBB := Lib.hid (show x2345.heap[N + 1]? = A.heap[N + 1]? from by
          rw [hg.block (N + 1) (by have := HX.out.size; have := HN.out; omega) (fun e => by have := (World.ownsRow.lt hO (N + 1) e.symm).1; omega)]
          exact HX.out.block _ (by omega))
        have HBW := Lib.hid (HBE.out.trans ((HX.out.mono (by have := HN.out; omega)).grown hg (by have := HX.out.size; have := HN.out; omega) (fun k hk => by have := (World.ownsRow.lt hO k hk).1; have := HN.out; omega)))
        have HKO := Lib.hid ((others_belowP HX.out).trans (KeepsOthers.grown_own hO hg))
        have HO2 := Lib.hid hO'
        have hv4 : ∃ p n c, v' = .slice p n c := by obtain ⟨p', c', e', -⟩ := own_shape hO'; exact ⟨_, _, _, e'⟩
        obtain ⟨p4, n4, c4, rfl⟩ := hv4
        have HZ4 := Lib.hid (show N + 4 ≤ x2345.heap.size from Nat.le_trans (Nat.le_trans hNA HX.out.size) hg.size)
        clear hO hO' hg hor hne
        refine hK _ _ ?_
        clear hK K
        try simp only [Act.put, List.setIfInBounds_toArray, List.set_cons_zero, List.set_cons_succ]
        refine wpAnyIn_ready (rs := [6]) (by kernel_rfl) (by simp) ?_
        refine (AllReadyIn.cons (by simp only [List.getElem?_toArray, List.getElem?_cons_succ, List.getElem?_cons_zero]; exact rfl) (fun K hK => ?_) AllReadyIn.nil)
        go_simp
        refine hK _ _ ?_
        clear hK K
        try simp only [Act.put, List.setIfInBounds_toArray, List.set_cons_zero, List.set_cons_succ]
        refine wpAnyIn_done (by kernel_rfl) ?_ _
        refine ⟨HKO.out.trans (KeepsOthers.setCell _ _ _), (Below.heap_setCell _ _ _ _ (show N + 1 ≠ N by omega)).trans HBB.out, _, World.cell?_setCell_same _ _ _ hcx, by rw [World.frozen?_setCell]; exact hfx, ?_, HBW.out.setCell (show w.heap.size ≤ (⟨N, 0, none⟩ : Addr).block by rw [HN.out]; exact Nat.le_refl _) _, by have := HZ4.out; simp; omega⟩
        rw [List.length_append, List.flatMap_append]
        have e : [i].flatMap (fun i => digC (digL (blkL l i))) = digC (digL (blkL l i)) := by simp
        rw [e]
        exact own_keep HO2.out (fun k hk => Below.heap_setCell _ _ _ _ (by show k ≠ N; have := (World.ownsRow.lt HO2.out k hk).1; omega))
      · go_simp
        refine ⟨trivial, (callsIn_wide.2 (HSM.out hb _ HX.out HH.out)).mono ?_⟩
        rintro e x23 ⟨rfl, hB3⟩
        have hcx := (show x23.cell? ⟨N, 0, none⟩ = some v from by rw [hB3.cell (by exact World.block_lt_of_cell? x2 _ hcx)]; exact hcx)
        have hfx := (show x23.frozen? ⟨N, 0, none⟩ = false from by rw [hB3.frozen (by exact World.block_lt_of_cell? x2 _ hcy)]; exact hfx)
        have hcy := hcx
        have HX := Lib.hid (HX.out.trans (hB3.mono HX.out.size))
        clear hB3
        refine hK _ _ ?_
        clear hK K
        try simp only [Act.put, List.setIfInBounds_toArray, List.set_cons_zero, List.set_cons_succ]
        refine wpAnyIn_ready (rs := [0, 4]) (by kernel_rfl) (by simp) ?_
        refine (AllReadyIn.cons (by simp only [List.getElem?_toArray, List.getElem?_cons_succ, List.getElem?_cons_zero]; exact rfl) (fun K hK => ?_) (AllReadyIn.cons (by simp only [List.getElem?_toArray, List.getElem?_cons_succ, List.getElem?_cons_zero]; exact rfl) (fun K hK => ?_) AllReadyIn.nil))
        · go_simp
          refine hK _ _ ?_
          clear hK K
          try simp only [Act.put, List.setIfInBounds_toArray, List.set_cons_zero, List.set_cons_succ]
          refine wpAnyIn_ready (rs := [4]) (by kernel_rfl) (by simp) ?_
          refine (AllReadyIn.cons (by simp only [List.getElem?_toArray, List.getElem?_cons_succ, List.getElem?_cons_zero]; exact rfl) (fun K hK => ?_) AllReadyIn.nil)
          go_simp
          obtain ⟨x234, hy⟩ : ∃ y, (x23.alloc (.cells (tab 32 (dgF (digL (blkL l i)))) 23)) = y := ⟨_, rfl⟩
          have hBa : Below x23.heap.size x23 x234 := by rw [← hy]; exact below_newD _ _
          have hcx := (show x234.cell? ⟨N, 0, none⟩ = some v from by rw [hBa.cell (by exact World.block_lt_of_cell? x23 _ hcx)]; exact hcx)
          have hfx := (show x234.frozen? ⟨N, 0, none⟩ = false from by rw [hBa.frozen (by exact World.block_lt_of_cell? x23 _ hcy)]; exact hfx)
          have hcy := hcx
          have HX := Lib.hid (HX.out.trans (hBa.mono HX.out.size))
          have HD := Lib.hid (show LsC x234 (some ⟨x23.heap.size, 0, none⟩) (digC (digL (blkL l i))) from by rw [← hy]; exact lsc_dig _ _ (digL_len _))
          refine hK _ _ ?_
          clear hK K
          rw [hy]
          clear hy hBa
          try simp only [Act.put, List.setIfInBounds_toArray, List.set_cons_zero, List.set_cons_succ]
          refine wpAnyIn_ready (rs := [5]) (by kernel_rfl) (by simp) ?_
          refine (AllReadyIn.cons (by simp only [List.getElem?_toArray, List.getElem?_cons_succ, List.getElem?_cons_zero]; exact rfl) (fun K hK => ?_) AllReadyIn.nil)
          have hO := own_below HOW.out HX.out
          refine stepIn_appendK elD x234 rfl (.tmp 10) (.tmp 14) rfl (N + 4) rfl hO _ 1 1 (digC (digL (blkL l i))) (by rw [digC_len, digL_len]) rfl HD.out (fun h => by cases h) (digC_one _) (by omega) (Nat.le_trans hNA HX.out.size) ?_
          rintro v' x2345 hO' hg hor
          have hne : some N ≠ v.ownBlock := fun e => by have := (World.ownsRow.lt hO N e.symm).1; omega
          have hcx := (show x2345.cell? ⟨N, 0, none⟩ = some v from hg.cell hcx hne)
          have hfx := (show x2345.frozen? ⟨N, 0, none⟩ = false from by rw [World.frozen?_of_block (w := x234) (hg.block N (by exact World.block_lt_of_cell? x234 _ hcy) hne)]; exact hfx)
          have HBB := Lib.hid (show x2345.heap[N + 1]? = A.heap[N + 1]? from by
            rw [hg.block (N + 1) (by have := HX.out.size; have := HN.out; omega) (fun e => by have := (World.ownsRow.lt hO (N + 1) e.symm).1; omega)]
            exact HX.out.block _ (by omega))
          have HBW := Lib.hid (HBE.out.trans ((HX.out.mono (by have := HN.out; omega)).grown hg (by have := HX.out.size; have := HN.out; omega) (fun k hk => by have := (World.ownsRow.lt hO k hk).1; have := HN.out; omega)))
          have HKO := Lib.hid ((others_belowP HX.out).trans (KeepsOthers.grown_own hO hg))
          have HO2 := Lib.hid hO'
          have hv4 : ∃ p n c, v' = .slice p n c := by obtain ⟨p', c', e', -⟩ := own_shape hO'; exact ⟨_, _, _, e'⟩
          obtain ⟨p4, n4, c4, rfl⟩ := hv4
          have HZ4 := Lib.hid (show N + 4 ≤ x2345.heap.size from Nat.le_trans (Nat.le_trans hNA HX.out.size) hg.size)
          clear hO hO' hg hor hne
          refine hK _ _ ?_
          clear hK K
          try simp only [Act.put, List.setIfInBounds_toArray, List.set_cons_zero, List.set_cons_succ]
          refine wpAnyIn_ready (rs := [6]) (by kernel_rfl) (by simp) ?_
          refine (AllReadyIn.cons (by simp only [List.getElem?_toArray, List.getElem?_cons_succ, List.getElem?_cons_zero]; exact rfl) (fun K hK => ?_) AllReadyIn.nil)
          go_simp
          refine hK _ _ ?_
          clear hK K
          try simp only [Act.put, List.setIfInBounds_toArray, List.set_cons_zero, List.set_cons_succ]
          refine wpAnyIn_done (by kernel_rfl) ?_ _
          refine ⟨HKO.out.trans (KeepsOthers.setCell _ _ _), (Below.heap_setCell _ _ _ _ (show N + 1 ≠ N by omega)).trans HBB.out, _, World.cell?_setCell_same _ _ _ hcx, by rw [World.frozen?_setCell]; exact hfx, ?_, HBW.out.setCell (show w.heap.size ≤ (⟨N, 0, none⟩ : Addr).block by rw [HN.out]; exact Nat.le_refl _) _, by have := HZ4.out; simp; omega⟩
          rw [List.length_append, List.flatMap_append]
          have e : [i].flatMap (fun i => digC (digL (blkL l i))) = digC (digL (blkL l i)) := by simp
          rw [e]
          exact own_keep HO2.out (fun k hk => Below.heap_setCell _ _ _ _ (by show k ≠ N; have := (World.ownsRow.lt HO2.out k hk).1; omega))
        · go_simp
          obtain ⟨x234, hy⟩ : ∃ y, (x23.alloc (.cells (tab 32 (dgF (digL (blkL l i)))) 23)) = y := ⟨_, rfl⟩
          have hBa : Below x23.heap.size x23 x234 := by rw [← hy]; exact below_newD _ _
          have hcx := (show x234.cell? ⟨N, 0, none⟩ = some v from by rw [hBa.cell (by exact World.block_lt_of_cell? x23 _ hcx)]; exact hcx)
          have hfx := (show x234.frozen? ⟨N, 0, none⟩ = false from by rw [hBa.frozen (by exact World.block_lt_of_cell? x23 _ hcy)]; exact hfx)
          have hcy := hcx
          have HX := Lib.hid (HX.out.trans (hBa.mono HX.out.size))
          have HD := Lib.hid (show LsC x234 (some ⟨x23.heap.size, 0, none⟩) (digC (digL (blkL l i))) from by rw [← hy]; exact lsc_dig _ _ (digL_len _))
          refine hK _ _ ?_
          clear hK K
          rw [hy]
          clear hy hBa
          try simp only [Act.put, List.setIfInBounds_toArray, List.set_cons_zero, List.set_cons_succ]
          refine wpAnyIn_ready (rs := [0]) (by kernel_rfl) (by simp) ?_
          refine (AllReadyIn.cons (by simp only [List.getElem?_toArray, List.getElem?_cons_succ, List.getElem?_cons_zero]; exact rfl) (fun K hK => ?_) AllReadyIn.nil)
          go_simp
          refine hK _ _ ?_
          clear hK K
          try simp only [Act.put, List.setIfInBounds_toArray, List.set_cons_zero, List.set_cons_succ]
          refine wpAnyIn_ready (rs := [5]) (by kernel_rfl) (by simp) ?_
          refine (AllReadyIn.cons (by simp only [List.getElem?_toArray, List.getElem?_cons_succ, List.getElem?_cons_zero]; exact rfl) (fun K hK => ?_) AllReadyIn.nil)
          have hO := own_below HOW.out HX.out
          refine stepIn_appendK elD x234 rfl (.tmp 10) (.tmp 14) rfl (N + 4) rfl hO _ 1 1 (digC (digL (blkL l i))) (by rw [digC_len, digL_len]) rfl HD.out (fun h => by cases h) (digC_one _) (by omega) (Nat.le_trans hNA HX.out.size) ?_
          rintro v' x2345 hO' hg hor
          have hne : some N ≠ v.ownBlock := fun e => by have := (World.ownsRow.lt hO N e.symm).1; omega
          have hcx := (show x2345.cell? ⟨N, 0, none⟩ = some v from hg.cell hcx hne)
          have hfx := (show x2345.frozen? ⟨N, 0, none⟩ = false from by rw [World.frozen?_of_block (w := x234) (hg.block N (by exact World.block_lt_of_cell? x234 _ hcy) hne)]; exact hfx)
          have HBB := Lib.hid (show x2345.heap[N + 1]? = A.heap[N + 1]? from by
            rw [hg.block (N + 1) (by have := HX.out.size; have := HN.out; omega) (fun e => by have := (World.ownsRow.lt hO (N + 1) e.symm).1; omega)]
            exact HX.out.block _ (by omega))
          have HBW := Lib.hid (HBE.out.trans ((HX.out.mono (by have := HN.out; omega)).grown hg (by have := HX.out.size; have := HN.out; omega) (fun k hk => by have := (World.ownsRow.lt hO k hk).1; have := HN.out; omega)))
          have HKO := Lib.hid ((others_belowP HX.out).trans (KeepsOthers.grown_own hO hg))
          have HO2 := Lib.hid hO'
          have hv4 : ∃ p n c, v' = .slice p n c := by obtain ⟨p', c', e', -⟩ := own_shape hO'; exact ⟨_, _, _, e'⟩
          obtain ⟨p4, n4, c4, rfl⟩ := hv4
          have HZ4 := Lib.hid (show N + 4 ≤ x2345.heap.size from Nat.le_trans (Nat.le_trans hNA HX.out.size) hg.size)
          clear hO hO' hg hor hne
          refine hK _ _ ?_
          clear hK K
          try simp only [Act.put, List.setIfInBounds_toArray, List.set_cons_zero, List.set_cons_succ]
          refine wpAnyIn_ready (rs := [6]) (by kernel_rfl) (by simp) ?_
          refine (AllReadyIn.cons (by simp only [List.getElem?_toArray, List.getElem?_cons_succ, List.getElem?_cons_zero]; exact rfl) (fun K hK => ?_) AllReadyIn.nil)
          go_simp
          refine hK _ _ ?_
          clear hK K
          try simp only [Act.put, List.setIfInBounds_toArray, List.set_cons_zero, List.set_cons_succ]
          refine wpAnyIn_done (by kernel_rfl) ?_ _
          refine ⟨HKO.out.trans (KeepsOthers.setCell _ _ _), (Below.heap_setCell _ _ _ _ (show N + 1 ≠ N by omega)).trans HBB.out, _, World.cell?_setCell_same _ _ _ hcx, by rw [World.frozen?_setCell]; exact hfx, ?_, HBW.out.setCell (show w.heap.size ≤ (⟨N, 0, none⟩ : Addr).block by rw [HN.out]; exact Nat.le_refl _) _, by have := HZ4.out; simp; omega⟩
          rw [List.length_append, List.flatMap_append]
          have e : [i].flatMap (fun i => digC (digL (blkL l i))) = digC (digL (blkL l i)) := by simp
          rw [e]
          exact own_keep HO2.out (fun k hk => Below.heap_setCell _ _ _ _ (by show k ≠ N; have := (World.ownsRow.lt HO2.out k hk).1; omega))
  case done =>
    rintro D A hD hinv hK
    obtain ⟨v, hcx, hfx, hO, hBE, -⟩ := hinv
    have HO := Lib.hid hO
    have HBE := Lib.hid hBE
    clear hO hBE hfx inv0
    gi_wp2
    refine ⟨by simp, .inl ⟨_, _, rfl, run_takeDeferred hK, ?_⟩⟩
    have hDl := (Array.getElem?_eq_some_iff.1 hK).1
    have hO2 := own_lower (own_keep HO.out (fun g hg => World.putObj_heap_other (o := .deferred none) (show g ≠ D by have := (HO.out.lt g hg).1; omega))) (b2 := w.heap.size) (by omega)
    rw [List.length_range] at hO2
    refine ⟨v, ?_, v, rfl, hO2, HBE.out.trans (below_putP _ (by omega) hDl)⟩
    simp [results, Tryd.f23, go_sem]
  case stop =>
    rintro D pre A hD hpre hF hK
    exact hF.elim
end Go.Proofs.YtfemgkamgokjcaaDoor
/- Where a record's digests lie. -/
set_option maxRecDepth 100000
namespace Go.Proofs.YtfemgkamgokjcaaDoor
open Go Go.RowKit
attribute [-go_sem] Sha.exec_store

/-- The digests ds are where the record has them. -/
structure DgAt (w : World) (r : Rc) (ds : List By) : Prop where
  n : r.n = ds.length
  lie : LsC w r.q (ds.flatMap digC)
  each : ∀ d ∈ ds, d.length = 32
  nil : r.q = none → r.cap = 0
  le : r.n ≤ r.cap
  whole : r.whole.length = 32
theorem DgAt.of_below {w u : World} {r : Rc} {ds : List By} (h : DgAt w r ds) (hB : Below w.heap.size w u) : DgAt u r ds := ⟨h.n, h.lie.of_below hB, h.each, h.nil, h.le, h.whole⟩
theorem DgAt.keep {w u : World} {r : Rc} {ds : List By} (h : DgAt w r ds) (hk : ∀ c o, r.q = some ⟨c, o, none⟩ → c < w.heap.size → u.heap[c]? = w.heap[c]?) : DgAt u r ds := ⟨h.n, h.lie.keep hk, h.each, h.nil, h.le, h.whole⟩
theorem flat_digC : ∀ ds : List By, ds.flatMap digC = (ds.flatten).map B
  | [] => rfl
  | d :: ds => by
    have ih := flat_digC ds
    unfold digC at ih ⊢
    rw [List.flatMap_cons, ih, List.flatten_cons, List.map_append]
theorem flat_len32 : ∀ {ds : List By}, (∀ d ∈ ds, d.length = 32) → ds.flatten.length = ds.length * 32
  | [], _ => rfl
  | d :: ds, h => by
    rw [List.flatten_cons, List.length_append, h d (by simp), flat_len32 (fun x hx => h x (by simp [hx])), List.length_cons]
    omega
theorem flat_get32 : ∀ {ds : List By} (h : ∀ d ∈ ds, d.length = 32) (i j : Nat), j < 32 → i < ds.length → (ds.flatten)[32 * i + j]? = (ds.getD i [])[j]?
  | [], _, i, j, _, hi => absurd hi (by simp)
  | d :: ds, h, i, j, hj, hi => by
    have hd := h d (by simp)
    cases i with
    | zero => rw [List.flatten_cons, List.getElem?_append_left (by omega)]; simp
    | succ i =>
      rw [List.flatten_cons, List.getElem?_append_right (by omega), hd, show 32 * (i + 1) + j - 32 = 32 * i + j by omega, flat_get32 (fun x hx => h x (by simp [hx])) i j hj (by simpa using hi)]
      simp
/-- One digest of a record, where it lies. -/
theorem DgAt.at {w : World} {r : Rc} {ds : List By} (h : DgAt w r ds) (i : Nat) (hi : i < ds.length) : ∃ c o, r.q = some ⟨c, o, none⟩ ∧ c < w.heap.size ∧ (∀ j, j < 32 → w.cell? ⟨c, o + 32 * i + j, none⟩ = some (B ((ds.getD i []).getD j 0#8))) ∧ (ds.getD i []).length = 32 := by
  have hm : ds.getD i [] ∈ ds := by rw [List.getD_eq_getElem?_getD, List.getElem?_eq_getElem hi]; exact List.getElem_mem hi
  have h32 := h.each _ hm
  have hl : (ds.flatMap digC).length = ds.length * 32 := by rw [flat_digC, List.length_map, flat_len32 h.each]
  have hcell : ∀ j, j < 32 → (ds.flatMap digC)[32 * i + j]? = some (B ((ds.getD i []).getD j 0#8)) := fun j hj => by
    rw [flat_digC, List.getElem?_map, flat_get32 h.each i j hj hi]
    rw [List.getElem?_eq_getElem (by omega), List.getD_eq_getElem?_getD (l := ds.getD i []), List.getElem?_eq_getElem (by omega)]
    rfl
  obtain ⟨c, o, e, hlt, hc⟩ := h.lie.cell (hcell 0 (by decide))
  refine ⟨c, o, e, hlt, fun j hj => ?_, h32⟩
  obtain ⟨c2, o2, e2, -, hc2⟩ := h.lie.cell (hcell j hj)
  rw [e] at e2
  injection e2 with e2
  injection e2 with e3 e4
  subst e3 e4
  rw [Nat.add_assoc]
  exact hc2
theorem DgAt.sl {w : World} {r : Rc} {ds : List By} (h : DgAt w r ds) : Sl w r.q ds.flatten := fun j hj => by
  have e : (ds.flatMap digC)[j]? = some (B (ds.flatten.getD j 0#8)) := by rw [flat_digC, List.getElem?_map, List.getElem?_eq_getElem hj, List.getD_eq_getElem?_getD, List.getElem?_eq_getElem hj]; rfl
  obtain ⟨c, o, e1, -, e2⟩ := h.lie.cell e
  exact ⟨c, o, e1, e2⟩
/-- The digests of the blocks. -/
def digs (l : By) : List By := (List.range (nblk l.length)).map fun i => digL (blkL l i)
theorem digs_len (l : By) : (digs l).length = nblk l.length := by unfold digs; simp
theorem digs_each (l : By) : ∀ d ∈ digs l, d.length = 32 := fun d hd => by
  unfold digs at hd
  obtain ⟨i, -, rfl⟩ := List.mem_map.1 hd
  exact digL_len _
theorem digs_flat (l : By) (n : Nat) (hn : l.length = n) : (List.range (nblk n)).flatMap (fun i => digC (digL (blkL l i))) = (digs l).flatMap digC := by
  subst hn
  unfold digs
  rw [List.flatMap_map]
/-- Digests of the call's own, as a record has them. -/
theorem dg_own {w : World} {base : Nat} {v : Value} {ds : List By} {n : Nat} (h : w.ownsRow base 23 32 v n (ds.flatMap digC)) (hn : n = ds.length) (he : ∀ d ∈ ds, d.length = 32) : ∃ q cap, v = .slice q ds.length cap ∧ (∀ c o, q = some ⟨c, o, none⟩ → base ≤ c ∧ c < w.heap.size) ∧ ∀ (r : Rc), r.q = q → r.n = ds.length → r.cap = cap → r.whole.length = 32 → DgAt w r ds := by
  subst hn
  obtain ⟨p, cap, e, h1, h2, h3, h4⟩ := own_shape h
  exact ⟨p, cap, e, h4, fun r e1 e2 e3 e4 => ⟨e2, by rw [e1]; exact h1, he, by rw [e1, e3]; exact h2, by rw [e2, e3]; exact h3, e4⟩⟩
theorem dg_nil (w : World) (r : Rc) (h1 : r.q = none) (h2 : r.n = 0) (h3 : r.cap = 0) (h4 : r.whole.length = 32) : DgAt w r [] := ⟨by rw [h2]; rfl, fun j hj => absurd hj (by simp), (fun d hd => by cases hd), fun _ => h3, by omega, h4⟩
theorem z32_len : z32.length = 32 := by unfold z32; simp
/-- Are two records the same? -/
def sameR (a b : Rc) (ds es : List By) : Bool :=
  decide (a.path = b.path) && (decide (a.size = b.size) && (decide (a.time = b.time) && (decide (a.chg = b.chg) && (veq a.ver b.ver && (decide (a.dead = b.dead) && (deq a.whole b.whole && decide (ds = es)))))))
end Go.Proofs.YtfemgkamgokjcaaDoor
/- Bytes appended to a slice of the call's own: the block afterwards is the old one or a new one. -/
set_option maxRecDepth 100000
namespace Go.Proofs.YtfemgkamgokjcaaDoor
open Go Go.RowKit
attribute [-go_sem] Sha.exec_store

theorem append_ownL (w : World) (base : Nat) (ty : TypeId) (v : Value) (l : List (BitVec 8)) (hown : OwnB w base v l) (p : Option Addr) (n cap : Nat) (bs : List (BitVec 8)) (hbl : bs.length = n) (hs : Sl w p bs) (hc : p = none → cap = 0)
    (hn : l.length + n < 1000000000000) (hb : base ≤ w.heap.size) :
    ∃ v' w', (Builtin.append_ #[27, 27] ty #[v, .slice p n cap]).run Tryd.prog w = .ok v' w' ∧ OwnB w' base v' (l ++ bs) ∧ w.grownBy w' v.ownBlock ∧ (v'.ownBlock = v.ownBlock ∨ v'.ownBlock = some w.heap.size) := by
  subst hbl
  obtain ⟨i0, hi, hz0, hz1, hz2⟩ := info_parts info5
  cases p with
  | some a =>
    obtain ⟨v', w', h1, h2, h3, _, h5⟩ := run_append_own_at (P := Tryd.prog) w base 27 ty 5 i0 (.int .u8 0) 1 1 und35 hi hz0 hz1 hz2 rfl (by decide) v l.length (l.map B) hown a bs.length cap (bs.map B) (by simp) hs.news (one_map bs)
      (by simp only [maxLen]; omega) (by omega) hb
    exact ⟨v', w', h1, by unfold OwnB; rw [List.length_append, List.map_append]; exact h2, h3, h5⟩
  | none =>
    have : bs = [] := by
      cases bs with
      | nil => rfl
      | cons x r => obtain ⟨c, o, e, _⟩ := hs 0 (by simp); cases e
    subst this
    obtain rfl := hc rfl
    exact ⟨v, w, run_append_owned_none (P := Tryd.prog) w base 27 ty 5 i0 1 und35 hi v l.length (l.map B) hown, by rw [List.append_nil]; exact hown, World.grownBy.refl _ _, .inl rfl⟩
theorem wpl_appendL {ops : Array Oper} {rest : List Oper} {o : Oper} {a : Act} {Q : Exit → Act → World → Prop} (w : World) (hgd : o.guard = none) (s x : Operand)
    (ho : o.op = .call { callee := .builtin .append, args := #[s, x], argTypes := #[27, 27] })
    (base : Nat) (v : Value) (l : List (BitVec 8)) (hs : a.eval s = v) (hown : OwnB w base v l) (p : Option Addr) (n cap : Nat) (bs : List (BitVec 8)) (hbl : bs.length = n) (hx : a.eval x = .slice p n cap) (hsl : Sl w p bs) (hc : p = none → cap = 0)
    (hn : l.length + n < 1000000000000) (hb : base ≤ w.heap.size)
    (h : ∀ v' w', OwnB w' base v' (l ++ bs) → w.grownBy w' v.ownBlock → (v'.ownBlock = v.ownBlock ∨ v'.ownBlock = some w.heap.size) → wpList Tryd.prog ops Q rest (a.put o.dst v') w') : wpList Tryd.prog ops Q (o :: rest) a w := by
  refine wpList_plain hgd fun K hK => ?_
  obtain ⟨v', w', hr, h2, h3, h4⟩ := append_ownL w base o.type v l hown p n cap bs hbl hsl hc hn hb
  unfold Oper.wp execOp
  simp only [ho, resolve, invoke, builtin, Sem.run_bind, Sem.run_pure, Result.andThen_ok, List.map_toArray, List.map_cons, List.map_nil, hs, hx, hr]
  exact hK _ _ (h v' w' h2 h3 h4)
theorem step_appendL {ops : Array Oper} {o : Oper} {a : Act} {Q : Exit → Act → World → Prop} {K : Act → World → Prop} {Z : Prop} (w : World) (hgd : o.guard = none) (s x : Operand)
    (ho : o.op = .call { callee := .builtin .append, args := #[s, x], argTypes := #[27, 27] })
    (base : Nat) (v : Value) (l : List (BitVec 8)) (hs : a.eval s = v) (hown : OwnB w base v l) (p : Option Addr) (n cap : Nat) (bs : List (BitVec 8)) (hbl : bs.length = n) (hx : a.eval x = .slice p n cap) (hsl : Sl w p bs) (hc : p = none → cap = 0)
    (hn : l.length + n < 1000000000000) (hb : base ≤ w.heap.size)
    (h : ∀ v' w', OwnB w' base v' (l ++ bs) → w.grownBy w' v.ownBlock → (v'.ownBlock = v.ownBlock ∨ v'.ownBlock = some w.heap.size) → K (a.put o.dst v') w') : if Region.wanted o (yielded ops a.tmps) = true then Oper.wp Tryd.prog o a w K Q else Z := by
  have hw : Region.wanted o (yielded ops a.tmps) = true := by simp [Region.wanted, hgd]
  rw [if_pos hw]
  obtain ⟨v', w', hr, h2, h3, h4⟩ := append_ownL w base o.type v l hown p n cap bs hbl hsl hc hn hb
  unfold Oper.wp execOp
  simp only [ho, resolve, invoke, builtin, Sem.run_bind, Sem.run_pure, Result.andThen_ok, List.map_toArray, List.map_cons, List.map_nil, hs, hx, hr]
  exact h v' w' h2 h3 h4
end Go.Proofs.YtfemgkamgokjcaaDoor
/- The reference's blocks and their digests. -/
set_option maxRecDepth 100000
namespace Go.Proofs.YtfemgkamgokjcaaDoor
open Go Go.RowKit Go.Shelf

attribute [-go_sem] Sha.exec_store
theorem blk_cut2 (q : Option Addr) (n cap i A : Nat) (w : World) (hA : A = 256 * i) (hi : 256 * i < n) (hc : n ≤ cap) : (Instr.slice 27 (.slice q n cap) (some (.int .i64 (A : Int))) (some (.int .i64 (min ((A : Int) + 256) (n : Int)))) none).run Tryd.prog w = .ok (.slice (q.map (·.add (256 * i))) (blen n i) (cap - 256 * i)) w := by
  have hm : min ((A : Int) + 256) (n : Int) = ((min (256 * i + 256) n : Nat) : Int) := by omega
  rw [hm, run_slice_lh (P := Tryd.prog) w 27 q n cap und35 .i64 .i64 _ _ (by omega) (by omega) (by omega), sizeB]
  have h1 : (A : Int).toNat = 256 * i := by omega
  have h2 : (((min (256 * i + 256) n : Nat) : Int)).toNat = min (256 * i + 256) n := by omega
  simp only [Sem.run_bind, Result.andThen_ok, Sem.run_pure, sliced, h1, h2]
  unfold blen
  rw [if_neg (by omega), Nat.mul_one]
theorem below_newR (w : World) (o : Obj) : Below w.heap.size w (w.alloc o) := (Below.refl _ _).alloc (Nat.le_refl _) _
theorem own_sliceR {w : World} {base : Nat} {E : TypeId} {k n : Nat} {v : Value} {cs : List Value} (h : w.ownsRow base E k v n cs) : ∃ q c, v = .slice q n c := by
  obtain ⟨p, cap, e, _⟩ := own_shape h
  exact ⟨p, cap, e⟩
theorem own_emptyB (w : World) : OwnB (w.alloc (.cells #[] 5)) w.heap.size (.slice (some ⟨w.heap.size, 0, none⟩) 0 0) [] := own_empty (E := 5) (k := 1) w w.heap.size (Nat.le_refl _)
set_option maxRecDepth 100000 in
set_option maxHeartbeats 4000000 in
theorem refCut10_any (l : By) (q : Option Addr) (n cap : Nat) (w : World) (hl : l.length = n) (hs : Sl w q l) (hq : q = none → cap = 0) (hc : n ≤ cap) (hn : n < 1000000) :
    Calls Tryd.prog 48 #[.slice q n cap] w fun e w' => ∃ v, e = .returned v ∧ Hds w' w.heap.size v ((List.range (nblk n)).map (blkL l)) ∧ Below w.heap.size w w' := by
  have HSL := Lib.hid hs
  have HLN := Lib.hid hl
  have HQ := Lib.hid hq
  clear hs hl hq
  go_enter Tryd.func48, Tryd.ntmps48
  go_wp2
  go_loopw [3, 4] (fun sv sa wr => ∃ i A : Nat, i ≤ nblk n ∧ A = 256 * i ∧ sa = .int .i64 (A : Int) ∧ Hds wr w.heap.size sv ((List.range i).map (blkL l)) ∧ Below w.heap.size w wr) (fun _ sa _ => nblk n + 1 - ((intOf sa).toNat + 255) / 256)
  case atStart => exact ⟨0, 0, Nat.zero_le _, rfl, rfl, Hds.nil _ _, Below.refl _ _⟩
  case round =>
    obtain ⟨i, A, hi, hA, rfl, hH, hB⟩ := hrel
    have HA := Lib.hid hA
    by_cases hlt : A < n
    · have z1 : (A : Int) < (n : Int) := by omega
      have z2 : decide ((A : Int) < (n : Int)) = true := decide_eq_true z1
      have hi256 : 256 * i < n := by omega
      have hik : i < nblk n := by unfold nblk; omega
      have hil : ((List.range i).map (blkL l)).length + 1 < 100000000 := by rw [List.length_map, List.length_range]; unfold nblk at hik; omega
      have hcut := fun u => blk_cut2 q n cap i A u hA hi256 hc
      have w2 : IntKind.i64.wrap ((A : Int) + 256) = (A : Int) + 256 := by rw [IntKind.wrap_i64]; omega
      have HB := Lib.hid hB
      obtain ⟨hds, hOW, hrows⟩ := hH
      obtain ⟨pv, cv, hve⟩ := own_sliceR hOW
      subst hve
      have hvlt : ∀ g, (Value.slice pv ((List.range i).map (blkL l)).length cv).ownBlock = some g → w.heap.size ≤ g ∧ g < wr.heap.size := fun g hg => hOW.lt g hg
      have HOW := Lib.hid hOW
      have hB1 := below_newR wr (.cells #[] 5)
      have HB1 := Lib.hid hB1
      have HSR := Lib.hid (show Sl (wr.alloc (.cells #[] 5)) (q.map (·.add (256 * i))) (blkL l i) from blkL_sl (HSL.out.of_below (hB.trans (hB1.mono hB.size))) i)
      have hbl : (blkL l i).length = blen n i := by rw [blkL_len, HLN.out]
      have hb256 := blen_le n i
      have hqn : q.map (·.add (256 * i)) = none → cap - 256 * i = 0 := fun e => by
        cases q with
        | none => have := HQ.out rfl; omega
        | some a => cases e
      have HBL := Lib.hid hbl
      have HQN := Lib.hid hqn
      have HHD := Lib.hid (fun (x y : World) (v' : Value) (p : Option Addr) (c : Nat) (hX : Below wr.heap.size wr x) (h1 : Sl x p (blkL l i)) (h2 : p = none → c = 0) (h3 : ∀ c o, p = some ⟨c, o, none⟩ → wr.heap.size ≤ c ∧ c < x.heap.size)
        (h4 : y.ownsRow w.heap.size 27 1 v' (((List.range i).map (blkL l)).length + 1) (hds ++ [.slice p (blkL l i).length c])) (h5 : x.grownBy y (Value.slice pv ((List.range i).map (blkL l)).length cv).ownBlock) (h6 : v'.ownBlock = (Value.slice pv ((List.range i).map (blkL l)).length cv).ownBlock ∨ v'.ownBlock = some x.heap.size) => (Hds.push (own_below hOW hX) (fun j hj => by
          obtain ⟨p', cap', e1, e2, e3, e4⟩ := hrows j hj
          exact ⟨p', cap', e1, e2.of_below hX, e3, fun c o e => ⟨(e4 c o e).1, Nat.lt_of_lt_of_le (e4 c o e).2.1 hX.size, (e4 c o e).2.2⟩⟩) h1 h2 (fun c o e => ⟨Nat.le_trans hB.size (h3 c o e).1, (h3 c o e).2, fun e2 => by have := (hvlt c e2).2; have := (h3 c o e).1; omega⟩) h4 h5 h6 : Hds y w.heap.size v' ((List.range i).map (blkL l) ++ [blkL l i])))
      have hsz1 : wr.heap.size ≤ (wr.alloc (.cells #[] 5)).heap.size := by rw [World.size_alloc]; omega
      obtain ⟨kk, hkk⟩ : ∃ kk, ((List.range i).map (blkL l)).length = kk := ⟨_, rfl⟩
      have HKK := Lib.hid hkk
      obtain ⟨mb, hmb⟩ : ∃ mb, blen n i = mb := ⟨_, rfl⟩
      rw [hmb] at hbl hb256 HBL hcut
      rw [hkk] at hil HOW ⊢
      rw [hkk] at HHD
      rw [hbl] at HHD
      clear hOW hrows hB hB1 hbl hvlt hqn hmb hkk hA
      go_wp2_with (first
        | (refine wpl_appendL (wr.alloc (.cells #[] 5)) rfl (.tmp 12) (.tmp 20) rfl wr.heap.size (.slice (some ⟨wr.heap.size, 0, none⟩) 0 0) [] rfl (own_emptyB wr) _ mb _ (blkL l i) HBL.out rfl HSR.out HQN.out (by simp; omega) hsz1 ?_
           rintro v3 w3 hO3 hg3 ho3
           rw [List.nil_append] at hO3
           obtain ⟨p3, c3, rfl, hs3, hp3, hc3⟩ := hO3.shape
           have hlt3 : ∀ c o, p3 = some ⟨c, o, none⟩ → wr.heap.size ≤ c ∧ c < w3.heap.size := fun c o e => hO3.lt c (by rw [e]; rfl)
           have hB3 : Below wr.heap.size wr w3 := HB1.out.grown hg3 hsz1 (fun k hk => by have : wr.heap.size = k := (by simpa [Value.ownBlock] using hk); omega)
           rw [HBL.out]
           have hB4 := below_newR w3 (.cells #[.slice p3 mb c3] 27)
           have HX := Lib.hid (hB3.trans (hB4.mono hB3.size))
           have HS3 := Lib.hid (And.intro (hs3.of_below hB4) (And.intro hp3 (fun c o e => (⟨(hlt3 c o e).1, Nat.lt_of_lt_of_le (hlt3 c o e).2 hB4.size⟩ : _ ∧ _))))
           have HLS := Lib.hid (show LsC (w3.alloc (.cells #[.slice p3 mb c3] 27)) (some ⟨w3.heap.size, 0, none⟩) [.slice p3 mb c3] from LsC.made _ [Value.slice p3 mb c3] _)
           have hsz4 : w.heap.size ≤ (w3.alloc (.cells #[.slice p3 mb c3] 27)).heap.size := Nat.le_trans HB.out.size HX.out.size
           clear hO3 hg3 ho3 hs3 hp3 hc3 hlt3 hB3 hB4)
        | (refine wpl_appendK elR _ rfl (.tmp 11) (.tmp 22) rfl w.heap.size rfl (own_below HOW.out HX.out) _ 1 1 [.slice p3 mb c3] rfl rfl HLS.out (fun h => by cases h) (fun u hu => by rw [List.mem_singleton] at hu; subst hu; rfl) hil hsz4 ?_
           rintro v5 w5 hO5 hg5 ho5
           have hBB := HB.out.trans ((HX.out.mono HB.out.size).grown hg5 hsz4 (fun k hk => ((own_below HOW.out HX.out).lt k hk).1))
           have HD5 := Lib.hid (And.intro (HHD.out _ _ _ _ _ HX.out HS3.out.1 HS3.out.2.1 HS3.out.2.2 hO5 hg5 ho5) hBB)
           clear hO5 hg5 ho5 hBB))
      go_roundw
      case rel => exact ⟨i + 1, A + 256, by omega, by have := HA.out; omega, by go_num, by rw [List.range_succ, List.map_append]; exact HD5.out.1, HD5.out.2⟩
      case measure => have := HA.out; simp [intOf]; omega
    · have z1 : ¬ (A : Int) < (n : Int) := by omega
      have z2 : decide ((A : Int) < (n : Int)) = false := decide_eq_false z1
      obtain rfl : i = nblk n := by unfold nblk at hi ⊢; omega
      have HB := Lib.hid hB
      have HH := Lib.hid hH
      obtain ⟨hds, hOW, -⟩ := hH
      obtain ⟨pv, cv, hve⟩ := own_sliceR hOW
      rw [show ((List.range (nblk n)).map (blkL l)).length = nblk n from by simp] at hve
      subst hve
      clear hB hOW
      go_wp2
      go_ret
      exact ⟨_, rfl, HH.out, HB.out⟩
end Go.Proofs.YtfemgkamgokjcaaDoor
/- The reference's last slash. -/
set_option maxRecDepth 100000
namespace Go.Proofs.YtfemgkamgokjcaaDoor
open Go Go.RowKit
attribute [-go_sem] Sha.exec_store

set_option maxHeartbeats 1000000 in
theorem refSlash_any (l : S8) (hl : l.length < 1000000) (w : World) : Calls Tryd.prog 50 #[.string (mkS l)] w fun e w' => e = .returned (.int .i64 ((kL l : Int) - 1)) ∧ w = w' := by
  obtain ⟨n, hn⟩ : ∃ n, l.length = n := ⟨_, rfl⟩
  rw [hn] at hl
  have HN := Lib.hid hn
  go_enter Tryd.func50, Tryd.ntmps50
  go_wp2
  go_loopw [3, 4] (fun vo vi wr => ∃ i m : Nat, i ≤ n ∧ vi = .int .i64 i ∧ vo = .int .i64 ((m : Int) - 1) ∧ kTo l i = m ∧ w = wr) (fun vo vi _ => n - (intOf vi).toNat)
  case atStart => exact ⟨0, 0, Nat.zero_le _, rfl, rfl, rfl, rfl⟩
  case round =>
    obtain ⟨i, m, hi, rfl, rfl, hm, rfl⟩ := hrel
    by_cases hlt : i < n
    · have hli : i < l.length := by omega
      have z1 : (i : Int) < (n : Int) := by omega
      have z2 : decide ((i : Int) < (n : Int)) = true := decide_eq_true z1
      have hw := i64s i (by omega)
      have hk : kTo l (i + 1) = if chr l i = 47 then i + 1 else kTo l i := rfl
      rw [hm] at hk
      have HK := Lib.hid hk
      obtain ⟨c, hc⟩ : ∃ c, chr l i = c := ⟨_, rfl⟩
      rw [hc] at HK
      clear hm hk
      by_cases h47 : c = 47
      · subst h47
        go_wp2
        exact ⟨⟨i + 1, i + 1, by omega, by go_num, by go_num, by rw [HK.out, if_pos rfl], trivial⟩, by simp [intOf]; omega⟩
      · have hz : ((c : Int) == 47) = false := by simp; omega
        go_wp2
        exact ⟨⟨i + 1, m, by omega, by go_num, rfl, by rw [HK.out, if_neg h47], trivial⟩, by simp [intOf]; omega⟩
    · obtain rfl : i = n := by omega
      have z1 : ¬ (i : Int) < (i : Int) := by omega
      have z2 : decide ((i : Int) < (i : Int)) = false := decide_eq_false z1
      have HM := Lib.hid (show kL l = m from by unfold kL; rw [HN.out]; exact hm)
      clear hm
      go_wp2
      go_ret
      exact ⟨by rw [HM.out]; rfl, rfl⟩
end Go.Proofs.YtfemgkamgokjcaaDoor
