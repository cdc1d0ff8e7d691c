/- Take of the program. -/
import Derived.Test.YtjpennbmphhipaaDoorNbr9
set_option linter.unusedSimpArgs false
set_option maxRecDepth 100000
set_option linter.unusedVariables false
namespace Go.Proofs.YtjpennbmphhipaaDoor
open Go Go.RowKit

/-- c numbers of a vector at the beginning of bytes, no replica less than a given one: the vector, and what is left. -/
def stepsV : Nat → Nat → List (BitVec 8) → (Nat → Int) → Option ((Nat → Int) × List (BitVec 8))
  | 0, _, l, f => some (f, l)
  | c + 1, least, l, f =>
    if (rngI l least 15).2.2 = 0 then
      if (rngI (l.drop (rngI l least 15).2.1) 1 1099511627776).2.2 = 0 then
        stepsV c ((rngI l least 15).1 + 1) ((l.drop (rngI l least 15).2.1).drop (rngI (l.drop (rngI l least 15).2.1) 1 1099511627776).2.1) (fun i => if i = (rngI l least 15).1 then ((rngI (l.drop (rngI l least 15).2.1) 1 1099511627776).1 : Int) else f i)
      else none
    else none
def takeV (l : List (BitVec 8)) : Option ((Nat → Int) × List (BitVec 8)) :=
  if (rngI l 0 16).2.2 = 0 then stepsV (rngI l 0 16).1 0 (l.drop (rngI l 0 16).2.1) (fun _ => 0) else none
theorem rngI_le {l : List (BitVec 8)} {lo hi : Int} (h : (rngI l lo hi).2.2 = 0) : lo ≤ ((rngI l lo hi).1 : Int) ∧ ((rngI l lo hi).1 : Int) ≤ hi := by
  unfold rngI at h ⊢
  split at h
  · cases h
  · rename_i n k e
    split at h
    · cases h
    · rename_i hh
      rw [if_neg hh]
      show lo ≤ (n : Int) ∧ (n : Int) ≤ hi
      omega
theorem rngI_code {l : List (BitVec 8)} {lo hi : Int} (h : (rngI l lo hi).2.2 ≠ 0) : (rngI l lo hi).2.2 = 6 := by
  unfold rngI at h ⊢
  split
  · rfl
  · rename_i n k e
    split
    · rfl
    · rename_i hh
      rw [e] at h
      simp only [if_neg hh] at h
      exact absurd rfl h
theorem stepsV_one {c least : Nat} {l : List (BitVec 8)} {f : Nat → Int} {r k n k2 : Nat} (h1 : rngI l least 15 = (r, k, 0)) (h2 : rngI (l.drop k) 1 1099511627776 = (n, k2, 0)) : stepsV (c + 1) least l f = stepsV c (r + 1) ((l.drop k).drop k2) (fun i => if i = r then (n : Int) else f i) := by
  rw [stepsV]
  simp only [h1, h2, if_true]
theorem stepsV_no1 {c least : Nat} {l : List (BitVec 8)} {f : Nat → Int} (h1 : (rngI l least 15).2.2 ≠ 0) : stepsV (c + 1) least l f = none := by unfold stepsV; rw [if_neg h1]
theorem stepsV_no2 {c least : Nat} {l : List (BitVec 8)} {f : Nat → Int} {r k : Nat} (h1 : rngI l least 15 = (r, k, 0)) (h2 : (rngI (l.drop k) 1 1099511627776).2.2 ≠ 0) : stepsV (c + 1) least l f = none := by
  unfold stepsV
  simp only [h1, if_true, if_neg h2]
attribute [local go_sem ↓] exec_boxA exec_loadA exec_indexA exec_allocA exec_storeA exec_buildA exec_eqlA exec_neqA exec_boxV exec_loadV exec_indexV exec_allocV exec_storeV exec_buildV exec_eqlV exec_neqV
attribute [local go_sem] boxA indexA storeNewA buildA eqlA neqA boxV indexV storeNewV buildV eqlV neqV

/-- What Take tells. -/
def TakePost (p : Option Addr) (N : Nat) (w : World) (a : Addr) (r : Option ((Nat → Int) × List (BitVec 8))) (e : Ending) (w' : World) : Prop :=
  Kp a.block w w' ∧ match r with
    | some (f, rest) => e = .returned (vcV f) ∧ RdP p N w' a rest
    | none => Thrown (ThrP a) 6 e w'
set_option maxRecDepth 100000 in
set_option maxHeartbeats 8000000 in
theorem take9_any (p : Option Addr) (N : Nat) (w : World) (a : Addr) (l : List (BitVec 8)) (h : RdP p N w a l) : Calls Tryd.prog 12 #[.pointer (some a)] w (TakePost p N w a (takeV l)) := by
  have HL := Lib.hid (rdP_lie _ _ _ _ _ h)
  have HST : Hid (Row ((w.alloc (.cells (tab 16 (vf fun _ => 0)) 28)).alloc (.cells (tab 16 (vf fun _ => 0)) 28)) w.heap.size 28 16 (vf fun _ => 0) ∧ Row ((w.alloc (.cells (tab 16 (vf fun _ => 0)) 28)).alloc (.cells (tab 16 (vf fun _ => 0)) 28)) (w.heap.size + 1) 28 16 (vf fun _ => 0) ∧ Below w.heap.size w ((w.alloc (.cells (tab 16 (vf fun _ => 0)) 28)).alloc (.cells (tab 16 (vf fun _ => 0)) 28))) := Lib.hid (twoRows w 28 (vf fun _ => 0) (vf fun _ => 0) 16)
  have HR := Lib.hid (rdP_stay _ _ _ _ _ _ h HST.out.2.2.size (HST.out.2.2.block _ HL.out.2) fun c o _ hc => HST.out.2.2.block _ (by have := HL.out; omega))
  have HN := Lib.hid (number9_any p N ((w.alloc (.cells (tab 16 (vf fun _ => 0)) 28)).alloc (.cells (tab 16 (vf fun _ => 0)) 28)) a l 0 16 HR.out)
  have HK0 := Lib.hid ((Kp.refl a.block w).of_below HST.out.2.2)
  clear h
  obtain ⟨x, hx⟩ : ∃ x, rngI l 0 16 = x := ⟨_, rfl⟩
  obtain ⟨c, k0, cd⟩ := x
  rw [hx] at HN
  by_cases hcd : cd = 0
  · subst hcd
    have htk : takeV l = stepsV c 0 (l.drop k0) (fun _ => 0) := by unfold takeV; simp only [hx, if_true]
    have hc16 : c ≤ 16 := by have := (rngI_le (l := l) (lo := 0) (hi := 16) (by rw [hx])).2; rw [hx] at this; exact Int.ofNat_le.1 this
    obtain ⟨T, hT⟩ : ∃ T, takeV l = T := ⟨_, rfl⟩
    rw [hT] at htk
    rw [hT]
    have HT := Lib.hid htk
    clear hx hT htk
    go_enter Tryd.func12, Tryd.ntmps12
    go_wp2_with fail
    refine HN.out.mono ?_
    rintro e w1 ⟨hK, ⟨-, ⟨v, rfl, rfl⟩, hR1⟩ | ⟨hc, -⟩⟩
    · have HR1 := Lib.hid hR1
      have HK1 := Lib.hid (HK0.out.trans hK)
      have HA := Lib.hid (show Row w1 w.heap.size 28 16 (vf fun _ => 0) ∧ Row w1 (w.heap.size + 1) 28 16 (vf fun _ => 0) from ⟨HST.out.1.of_kp hK (by have := HL.out; omega), HST.out.2.1.of_kp hK (by have := HL.out; omega)⟩)
      clear hK hR1
      go_wp2
      go_loopw [4, 8] (fun s i wr => ∃ j least : Nat, j ≤ c ∧ i = .int .i64 j ∧ s = .int .i64 least ∧ least ≤ 16 ∧ ∃ f l', stepsV (c - j) least l' f = T ∧ RdP p N wr a l' ∧ Row wr w.heap.size 28 16 (vf fun _ => 0) ∧ Row wr (w.heap.size + 1) 28 16 (vf f) ∧ Kp a.block w wr) (fun s i _ => c - (intOf i).toNat)
      case atStart => exact ⟨0, 0, Nat.zero_le _, rfl, rfl, Nat.zero_le _, _, _, HT.out.symm, HR1.out, HA.out.1, HA.out.2, HK1.out⟩
      case round =>
        clear HR1 HK1 HA
        obtain ⟨j, least, hj, rfl, rfl, hle, f, l', hst, hR, hZ, hF, hK⟩ := hrel
        have HS := Lib.hid hst
        have HRr := Lib.hid hR
        have HZ := Lib.hid hZ
        have HF := Lib.hid hF
        have HK := Lib.hid hK
        clear hst hK hR
        by_cases hjc : j < c
        · have z1 : (j : Int) < (c : Int) := by omega
          have z2 : decide ((j : Int) < (c : Int)) = true := decide_eq_true z1
          have hw := i64v j (by omega)
          have hcj : c - j = (c - (j + 1)) + 1 := by omega
          have HN1 := Lib.hid (number9_any p N wr a l' (least : Int) 15 HRr.out)
          obtain ⟨y, hy⟩ : ∃ y, rngI l' (least : Int) 15 = y := ⟨_, rfl⟩
          obtain ⟨r, k1, c1⟩ := y
          by_cases hc1 : c1 = 0
          · subst hc1
            have hr15 := rngI_le (l := l') (lo := (least : Int)) (hi := 15) (by rw [hy])
            rw [hy] at HN1 hr15
            have hr16 : r < 16 := by have := hr15.2; show r < 16; simp at this; omega
            have HY := Lib.hid hy
            clear hy hr15 hZ hF
            go_wp2_with fail
            refine HN1.out.mono ?_
            rintro e w2 ⟨hK2, ⟨-, ⟨v, rfl, rfl⟩, hR2⟩ | ⟨hc, -⟩⟩
            · have HR2 := Lib.hid hR2
              have HKc := Lib.hid (HK.out.trans hK2)
              have HZ2 := Lib.hid (HZ.out.of_kp hK2 (by have := HL.out; omega))
              have HF2 := Lib.hid (HF.out.of_kp hK2 (by have := HL.out; omega))
              have HN2 := Lib.hid (number9_any p N w2 a (l'.drop k1) 1 1099511627776 hR2)
              obtain ⟨y2, hy2⟩ : ∃ y, rngI (l'.drop k1) 1 1099511627776 = y := ⟨_, rfl⟩
              obtain ⟨n, k2, c2⟩ := y2
              rw [hy2] at HN2
              have HY2 := Lib.hid hy2
              clear hK2 hR2 hy2
              by_cases hc2 : c2 = 0
              · subst hc2
                have HSN := Lib.hid (show stepsV (c - (j + 1)) (r + 1) ((l'.drop k1).drop k2) (fun i => if i = r then (n : Int) else f i) = T by rw [← HS.out, hcj, stepsV_one HY.out HY2.out])
                go_wp2_with fail
                refine HN2.out.mono ?_
                rintro e w3 ⟨hK3, ⟨-, ⟨v, rfl, rfl⟩, hR3⟩ | ⟨hc, -⟩⟩
                · have HKd := Lib.hid (HKc.out.trans hK3)
                  have HZ3 := Lib.hid (HZ2.out.of_kp hK3 (by have := HL.out; omega))
                  have hF3 := HF2.out.of_kp hK3 (by have := HL.out; omega)
                  have HF3 := Lib.hid hF3
                  have x5 : w3.cell? ⟨w.heap.size + 1, r, none⟩ = some (.int .i64 (f r)) := hF3.cell r hr16
                  have x6 := hF3.free r
                  have hwr := i64v r hr16
                  have HR4 := Lib.hid (rdP_stay _ _ _ (w3.setCell ⟨w.heap.size + 1, r, none⟩ (.int .i64 (n : Int))) _ _ hR3 (by simp) (Below.heap_setCell _ _ _ _ (by show a.block ≠ w.heap.size + 1; have := HL.out; omega)) fun c o _ hc => Below.heap_setCell _ _ _ _ (by show c ≠ w.heap.size + 1; have := HL.out; omega))
                  clear hK3 hR3 hF3
                  go_wp2
                  go_roundw
                  case rel => exact ⟨j + 1, r + 1, by omega, by go_num, by go_num, by omega, _, _, HSN.out, HR4.out, HZ3.out.of_block (Below.heap_setCell _ _ _ _ (by show w.heap.size ≠ w.heap.size + 1; omega)), (HF3.out.set r (.int .i64 (n : Int))).congr fun i _ => by
                    unfold vf
                    by_cases e : i = r
                    · simp [e]
                    · simp [e], HKd.out.setNew (by show w.heap.size ≤ w.heap.size + 1; omega) _⟩
                  case measure => simp [intOf]; omega
                · exact absurd rfl hc
              · have hTn : T = none := by rw [← HS.out, hcj]; exact stepsV_no2 HY.out (by rw [HY2.out]; exact hc2)
                have h6 : c2 = 6 := by have := rngI_code (l := l'.drop k1) (lo := 1) (hi := 1099511627776) (by rw [HY2.out]; exact hc2); rw [HY2.out] at this; exact this
                subst h6
                subst hTn
                go_wp2_with fail
                refine HN2.out.mono ?_
                rintro e w3 ⟨hK3, ⟨hcc, -⟩ | ⟨hc, v, hv, rfl⟩⟩
                · exact absurd hcc (by decide)
                · exact ⟨rfl, HKc.out.trans hK3, v, hv, rfl⟩
            · exact absurd rfl hc
          · have hTn : T = none := by rw [← HS.out, hcj]; exact stepsV_no1 (by rw [hy]; exact hc1)
            have h6 : c1 = 6 := by have := rngI_code (l := l') (lo := (least : Int)) (hi := 15) (by rw [hy]; exact hc1); rw [hy] at this; exact this
            rw [hy] at HN1
            subst h6
            subst hTn
            clear hy hZ hF
            go_wp2_with fail
            refine HN1.out.mono ?_
            rintro e w3 ⟨hK3, ⟨hcc, -⟩ | ⟨hc, v, hv, rfl⟩⟩
            · exact absurd hcc (by decide)
            · exact ⟨rfl, HK.out.trans hK3, v, hv, rfl⟩
        · have z1 : ¬ (j : Int) < (c : Int) := by omega
          have z2 : decide ((j : Int) < (c : Int)) = false := decide_eq_false z1
          have hT2 : T = some (f, l') := by rw [← HS.out, show c - j = 0 by omega]; rfl
          subst hT2
          have l3 := loadVT vtV (VecAt.of_row hF (Nat.le_refl _))
          obtain ⟨w5, hs5, hR5, hK5⟩ := storeVT vtV hZ f
          have HR5 := Lib.hid hR5
          have HRd := Lib.hid (rdP_stay _ _ _ w5 _ _ HRr.out hK5.size (hK5.block _ (rdP_lie _ _ _ _ _ HRr.out).2 (by have := HL.out; omega)) fun c o _ hc => hK5.block _ (by have := rdP_lie _ _ _ _ _ HRr.out; omega) (by have := HL.out; omega))
          have HK5 := Lib.hid (show Kp a.block w w5 from ⟨hK5.os.trans HK.out.os, hK5.tape.trans HK.out.tape, hK5.output.trans HK.out.output, Nat.le_trans HK.out.size hK5.size, fun i hi hb => (hK5.block i (Nat.lt_of_lt_of_le hi HK.out.size) (by omega)).trans (HK.out.block i hi hb)⟩)
          clear hZ hF hR5 hK5
          go_wp2
          refine bodyPost_ret (resV vtV rfl _ w5 w.heap.size 28 f rfl HR5.out) rfl ?_
          exact ⟨HK5.out, rfl, HRd.out⟩
    · exact absurd rfl hc
  · have htk : takeV l = none := by unfold takeV; simp only [hx, if_neg hcd]
    have h6 : cd = 6 := by have := rngI_code (l := l) (lo := 0) (hi := 16) (by rw [hx]; exact hcd); rw [hx] at this; exact this
    subst h6
    rw [htk]
    clear hx htk
    go_enter Tryd.func12, Tryd.ntmps12
    go_wp2_with fail
    refine HN.out.mono ?_
    rintro e w1 ⟨hK, ⟨hcc, -⟩ | ⟨hc, v, hv, rfl⟩⟩
    · exact absurd hcc (by decide)
    · exact ⟨rfl, HK0.out.trans hK, v, hv, rfl⟩
end Go.Proofs.YtjpennbmphhipaaDoor
