/- The statement ShardDecodes, walked over the premises. -/
import Derived.Test.YtphpliclecmnlaaK6
import Derived.Test.YtphpliclecmnlaaK7
import Derived.Test.YtphpliclecmnlaaK9
import Derived.Test.YtphpliclecmnlaaK10
import Derived.Test.YtphpliclecmnlaaZLaw4E
set_option linter.unusedSimpArgs false
set_option linter.unusedVariables false
namespace Go.Proofs.Ytphpliclecmnlaa
open Go Go.RowKit

attribute [local go_sem ↓] exec_slice exec_store exec_bs
attribute [local go_sem] st_H bs63 conv63
section
variable {Cd : World → Nat → Nat → Nat → Prop} (S : CodeSpec Cd) (a c : Int) (la : List (List (BitVec 8))) (th : List Bool) (p q : Option Addr) (n cap l cap' : Nat) (w : World) (hs : Prt w p la) (hl : la.length = n)
include S hs hl
set_option maxRecDepth 100000 in
set_option maxHeartbeats 4000000 in
theorem sd_a (hn : n < 9223372036854775808) (h : few4B la = false) : Calls Try.prog 4 #[.agg #[.int .u8 a, .int .u8 c], .slice p n cap, .slice q l cap'] w fun e w' => e = .returned (.bool true) ∧ Below w.heap.size w w' := by
  have HB0 := Lib.hid (show Below w.heap.size w (w.alloc (.cells #[.int .u8 a, .int .u8 c] 22)) from (Below.refl _ _).alloc (Nat.le_refl _) _)
  have HS := Lib.hid S
  have HA := Lib.hid hs
  have HL := Lib.hid hl
  clear S hs hl
  go_enter Try.func4, Try.ntmps4
  go_wp2_with fail
  refine (awake4 HS.out w _ HB0.out).mono ?_
  rintro e w1 ⟨rfl, hB1⟩
  have HB1 := Lib.hid hB1
  clear hB1
  go_wp2_with fail
  refine (few4_any la p n cap w1 (HA.out.of_below HB1.out) HL.out hn).mono ?_
  rintro e w2 ⟨rfl, rfl⟩
  go_wp2_with fail
  refine (awake4 HS.out w w1 HB1.out).mono ?_
  rintro e w2 ⟨rfl, hB2⟩
  have HB2 := Lib.hid hB2
  clear hB2
  go_wp2
  go_ret
  exact ⟨rfl, HB2.out⟩
set_option maxRecDepth 100000 in
set_option maxHeartbeats 4000000 in
theorem sd_l (h : few4B la = true) (h64 : 64 < l) : Calls Try.prog 4 #[.agg #[.int .u8 a, .int .u8 c], .slice p n cap, .slice q l cap'] w fun e w' => e = .returned (.bool true) ∧ Below w.heap.size w w' := by
  have hn : n ≤ 32 := by have := (of_decide_eq_true h).1; omega
  have hd : decide ((64 : Int) < (l : Int)) = true := decide_eq_true (by omega)
  have HB0 := Lib.hid (show Below w.heap.size w (w.alloc (.cells #[.int .u8 a, .int .u8 c] 22)) from (Below.refl _ _).alloc (Nat.le_refl _) _)
  have HS := Lib.hid S
  have HA := Lib.hid hs
  have HL := Lib.hid hl
  clear S hs hl
  go_enter Try.func4, Try.ntmps4
  go_wp2_with fail
  refine (awake4 HS.out w _ HB0.out).mono ?_
  rintro e w1 ⟨rfl, hB1⟩
  have HB1 := Lib.hid hB1
  clear hB1
  go_wp2_with fail
  refine (few4_any la p n cap w1 (HA.out.of_below HB1.out) HL.out (by omega)).mono ?_
  rintro e w2 ⟨rfl, rfl⟩
  go_wp2_with fail
  refine (awake4 HS.out w w1 HB1.out).mono ?_
  rintro e w2 ⟨rfl, hB2⟩
  have HB2 := Lib.hid hB2
  clear hB2
  go_wp2
  go_ret
  exact ⟨rfl, HB2.out⟩
set_option maxRecDepth 100000 in
set_option maxHeartbeats 16000000 in
theorem sd_b (hb : Bl w q th) (hth : th.length = l) (h : few4B la = true) (h64 : l ≤ 64) (ha : 0 ≤ a) (ha2 : a < 256) (hc : 0 ≤ c) (hc2 : c < 256) (k m : Nat) (hk : 1 + a % 8 = (k : Int)) (hm : 1 + c % 8 = (m : Int)) :
    Calls Try.prog 4 #[.agg #[.int .u8 a, .int .u8 c], .slice p n cap, .slice q l cap'] w fun e w' => e = .returned (.bool true) ∧ Below w.heap.size w w' := by
  have hk1 : 1 ≤ k := by omega
  have hk2 : k ≤ 8 := by omega
  have hm1 : 1 ≤ m := by omega
  have hm2 : m ≤ 8 := by omega
  have hd64 : decide ((64 : Int) < (l : Int)) = false := decide_eq_false (by omega)
  obtain ⟨hn32, hlen40⟩ := of_decide_eq_true h
  have hn : n ≤ 32 := by omega
  have hB0 : Below w.heap.size w (w.alloc (.cells #[.int .u8 a, .int .u8 c] 22)) := (Below.refl _ _).alloc (Nat.le_refl _) _
  have HB0 := Lib.hid hB0
  have HC0 := Lib.hid (show (w.alloc (.cells #[.int .u8 a, .int .u8 c] 22)).cell? ⟨w.heap.size, 0, none⟩ = some (.int .u8 a) by rw [World.cell?_alloc_new]; rfl)
  have HC1 := Lib.hid (show (w.alloc (.cells #[.int .u8 a, .int .u8 c] 22)).cell? ⟨w.heap.size, 1, none⟩ = some (.int .u8 c) by rw [World.cell?_alloc_new]; rfl)
  have hs0 : w.heap.size < (w.alloc (.cells #[.int .u8 a, .int .u8 c] 22)).heap.size := by rw [World.size_alloc]; omega
  have HS := Lib.hid S
  have HA := Lib.hid hs
  have HL := Lib.hid hl
  have HLEN := Lib.hid hlen40
  have HBL := Lib.hid hb
  have HTH := Lib.hid hth
  clear S hB0 hs hl hlen40 hn32 hb hth
  go_enter Try.func4, Try.ntmps4
  go_wp2_with fail
  refine (awake4 HS.out _ _ (Below.refl _ _)).mono ?_
  rintro e w1 ⟨rfl, hB1⟩
  have hx0 : w1.cell? ⟨w.heap.size, 0, none⟩ = some (.int .u8 a) := by rw [hB1.cell (by exact hs0)]; exact HC0.out
  have hx1 : w1.cell? ⟨w.heap.size, 1, none⟩ = some (.int .u8 c) := by rw [hB1.cell (by exact hs0)]; exact HC1.out
  have HB1 := Lib.hid (bel_step HB0.out hB1)
  clear hB1
  go_wp2_with fail
  refine (few4_any la p n cap w1 (HA.out.of_below HB1.out) HL.out (by omega)).mono ?_
  rintro e w2 ⟨rfl, rfl⟩
  go_wp2
  go_quiet (fail)
  try simp only [hk, hm]
  have HB2 := Lib.hid (below_drewN HB1.out nq)
  clear HB1 hx0 hx1 hs0 HB0 HC0 HC1 hk hm
  generalize w1.drewN nq = w2 at *
  go_wp2_with fail
  refine (HS.out.new k m w2 hk1 hm1 (by omega)).mono ?_
  rintro e w3 ⟨b, rfl, hC, hB3⟩
  have HC3 := Lib.hid hC
  have HB3 := Lib.hid (bel_step HB2.out hB3)
  clear hC hB3 HB2
  go_wp2_with fail
  refine (refEven_any la p n cap k w3 (HA.out.of_below HB3.out) HL.out (by omega)).mono ?_
  rintro e w4 ⟨rfl, hD4⟩
  have HC4 := Lib.hid (HS.out.keep HC3.out (hD4.below _))
  have HB4 := Lib.hid (bel_dr HB3.out hD4)
  clear hD4 HC3 HB3
  cases hev : evB la k with
  | false =>
    go_wp2
    go_ret
    exact ⟨rfl, HB4.out⟩
  | true =>
    obtain ⟨hnk, hrow⟩ := ev_parts hev
    obtain rfl : n = k := by rw [← HL.out]; exact hnk
    have HROW := Lib.hid hrow
    have HEV := Lib.hid hev
    have hL0 : (la.getD 0 []).length ≤ 40 := HLEN.out 0 (by have := HL.out; omega)
    obtain ⟨L, hLL⟩ : ∃ L, L = (la.getD 0 []).length := ⟨_, rfl⟩
    rw [← hLL] at hL0
    have HLL := Lib.hid hLL
    clear hrow hnk hev hLL
    go_wp2_with fail
    refine (copX la p n cap w4 (HA.out.of_below HB4.out) HL.out (by omega) (fun i hi => by have := HLEN.out i (by have := HL.out; omega); omega)).mono ?_
    rintro e w5 ⟨q5, c5, rfl, hO5, -, hB5⟩
    have HO5 := Lib.hid hO5
    have HC5 := Lib.hid (HS.out.keep HC4.out hB5)
    have HB5 := Lib.hid (bel_step HB4.out hB5)
    have hsz5 : w4.heap.size ≤ w5.heap.size := hB5.size
    have HK5 := Lib.hid hB5
    clear hO5 hB5
    go_wp2_with fail
    refine (refParity_any la p n m cap L w5 (HA.out.of_below HB5.out) HL.out (by have := HROW.out; rw [← HLL.out] at this; exact this) hk1 (by omega) (by omega)).mono ?_
    rintro e w6 ⟨v6, rfl, hO6, hB6⟩
    have HO6 := Lib.hid (show OwnM w6 w5.heap.size v6 (parL n m la) by unfold parL; rw [← HLL.out]; exact hO6)
    have HK6 := Lib.hid hB6
    have HB6 := Lib.hid (bel_step HB5.out hB6)
    have HKK := Lib.hid (bel_step HK5.out hB6)
    obtain ⟨q6, c6, hv6, -, -, -⟩ := HO6.out.prt
    rw [parL_length] at hv6
    subst hv6
    clear hO6 hB6
    have hN6 : w4.heap.size ≤ w6.heap.size := HKK.out.size
    have HAL := Lib.hid (fun i hi => all_len (m := m) HEV.out hk1 i hi)
    have HLA := Lib.hid (show (la ++ parL n m la).length = n + m by rw [List.length_append, parL_length, HL.out])
    go_wp2_with (first | (refine wpl_joinM _ rfl (.tmp 57) (.tmp 60) rfl w4.heap.size w5.heap.size (.slice q5 n c5) (.slice q6 m c6) la (parL n m la) rfl rfl w5 HO5.out HK6.out HO6.out (Nat.le_refl _) n m HL.out (parL_length _ _ _) (by omega) (by omega) hsz5 ?_; rintro g7 c7 w7 hp7 hB7 hg7; have HP7 := Lib.hid hp7; have HK7 := Lib.hid (HKK.out.trans hB7); clear hp7 hB7 hg7))
    have HCW := Lib.hid (HS.out.keep HC4.out HK7.out)
    have HBW := Lib.hid (HB4.out.trans (HK7.out.mono HB4.out.size))
    have hT40 : ∀ i, i < n + m → ((la ++ parL n m la).getD i []).length = L := fun i hi => by rw [HAL.out i hi, ← HLL.out]
    obtain ⟨AL, hAL⟩ : ∃ AL, AL = la ++ parL n m la := ⟨_, rfl⟩
    rw [← hAL] at hT40 HLA HP7
    generalize hT : n + m = T at *
    have HT := Lib.hid hT
    have HALL := Lib.hid hAL
    have HT40 := Lib.hid hT40
    have hT16 : T ≤ 16 := by omega
    have hTi : (n : Int) + (m : Int) = (T : Int) := by omega
    clear hT hAL hT40 HO5 HO6 HK5 HK6 HKK HC5 HC4 HB5 HB6 HB4 HAL HK7
    go_wp2_with fail
    refine (copX AL _ T c7 w7 HP7.out HLA.out (by omega) (fun i hi => by rw [HT40.out i hi]; omega)).mono ?_
    rintro e w8 ⟨q8, c8, rfl, hO8, -, hB8⟩
    have HO8 := Lib.hid (show OwnM w8 w7.heap.size (.slice q8 T c8) (mixL AL (fun i => th.getD i false) 0) from hO8.toM)
    have HK8 := Lib.hid hB8
    clear hO8 hB8
    generalize hN7 : w7.heap.size = N7 at *
    have HN7 := Lib.hid hN7
    clear hN7
    go_wp2
    go_loopw [13, 14, 66] (fun v _ i wr => ∃ t : Nat, t ≤ T ∧ i = .int .i64 t ∧ v = .int .i64 ((pick (fun i => th.getD i false) t).length : Nat) ∧ OwnM wr N7 (.slice q8 T c8) (mixL AL (fun i => th.getD i false) t) ∧ Below N7 w7 wr) (fun _ _ i _ => T - (intOf i).toNat)
    case atStart => exact ⟨0, Nat.zero_le _, rfl, rfl, HO8.out, HK8.out⟩
    case round =>
      clear HO8 HK8
      obtain ⟨t, ht, rfl, rfl, hO, hB⟩ := hrel
      have HO := Lib.hid hO
      have HB := Lib.hid hB
      have hpl := pick_len (fun i => th.getD i false) t
      have HYES := Lib.hid (show th.getD t false = true → (pick (fun i => th.getD i false) (t + 1)).length = (pick (fun i => th.getD i false) t).length + 1 from fun h => by rw [pick_yes (f := fun i => th.getD i false) h, List.length_append]; rfl)
      have HNO := Lib.hid (show th.getD t false = false → (pick (fun i => th.getD i false) (t + 1)).length = (pick (fun i => th.getD i false) t).length from fun h => by rw [pick_no (f := fun i => th.getD i false) h])
      obtain ⟨cnt, hcnt⟩ : ∃ cnt, cnt = (pick (fun i => th.getD i false) t).length := ⟨_, rfl⟩
      rw [← hcnt] at hpl HYES HNO
      rw [← hcnt]
      have HCNT := Lib.hid hcnt
      have hNle : N7 ≤ wr.heap.size := by have := hB.size; have := HN7.out; omega
      clear hO hB hcnt
      by_cases hlt : t < T
      · have hd0 : decide ((t : Int) < (T : Int)) = true := decide_eq_true (by omega)
        have hl0 : (t : Int) < (T : Int) := by omega
        have hwc : IntKind.i64.wrap ((cnt : Int) + 1) = (cnt : Int) + 1 := IntWalk.i64_in _ (by omega)
        have HML := Lib.hid (show (mixL AL (fun i => th.getD i false) t).length = T by rw [mixL_length]; exact HLA.out)
        cases hf : th.getD t false with
        | true =>
          have htl : t < l := by
            rcases Nat.lt_or_ge t l with h1 | h1
            · exact h1
            · rw [List.getD_eq_getElem?_getD, List.getElem?_eq_none (by rw [HTH.out]; exact h1)] at hf; cases hf
          have hd1 : decide ((t : Int) < (l : Int)) = true := decide_eq_true (by omega)
          have hl1 : (t : Int) < (l : Int) := by omega
          obtain ⟨cb, ob, rfl, hcb⟩ := (HBL.out.of_below HBW.out) t (by rw [HTH.out]; exact htl)
          rw [hf] at hcb
          have hx : wr.cell? ⟨cb, ob + t, none⟩ = some (.bool true) := by rw [HB.out.cell (by rw [← HN7.out]; exact World.block_lt_of_cell? w7 _ hcb)]; exact hcb
          have HF := Lib.hid hf
          have HMX := Lib.hid (show mixL AL (fun i => th.getD i false) (t + 1) = mixL AL (fun i => th.getD i false) t from if_pos hf)
          clear hcb hf
          go_wp2
          go_roundw
          case rel => exact ⟨t + 1, by omega, by go_num, by have := HYES.out HF.out; show Value.int .i64 ((cnt : Int) + 1) = _; rw [this]; rfl, by rw [HMX.out]; exact HO.out, HB.out⟩
          case measure => simp [intOf]; omega
        | false =>
          have HF := Lib.hid hf
          have HMX := Lib.hid (show mixL AL (fun i => th.getD i false) (t + 1) = (mixL AL (fun i => th.getD i false) t).set t [63#8] from if_neg (by show ¬ th.getD t false = true; rw [hf]; exact Bool.false_ne_true))
          have hbA : Below wr.heap.size wr (wr.alloc (.cells #[B 63#8] 5 (1, 2))) := (Below.refl _ _).alloc (Nat.le_refl _) _
          have hszA : (wr.alloc (.cells #[B 63#8] 5 (1, 2))).heap.size = wr.heap.size + 1 := World.size_alloc ..
          obtain ⟨g9, c9, e9, ⟨vy, hy1⟩, hx2, hbg, hg9, hput⟩ := (HO.out.of_below hbA).hput t (by rw [HML.out]; exact hlt) ⟨wr.heap.size, 0, none⟩ [63#8] 1 1 rfl (sl63 wr) (Nat.le_refl _) hNle (by rw [hszA]; exact Nat.lt_succ_self _) (fun e => by have := (HO.out.lt _ e).2; exact Nat.lt_irrefl _ this)
          rw [HML.out] at e9
          injection e9 with e9 _ _
          subst e9
          have hg9 : g9 < wr.heap.size := by
            have := (HO.out.lt g9 rfl).2
            exact this
          rw [World.cell?_alloc_lt _ _ _ (by exact hg9)] at hy1
          have hfr : wr.frozen? ⟨g9, t, none⟩ = false := by
            rw [← hbA.frozen (by exact hg9)]; exact hx2
          have hcomm : (wr.alloc (.cells #[B 63#8] 5 (1, 2))).setCell ⟨g9, t, none⟩ (.slice (some ⟨wr.heap.size, 0, none⟩) 1 1) = (wr.setCell ⟨g9, t, none⟩ (.slice (some ⟨wr.heap.size, 0, none⟩) 1 1)).alloc (.cells #[B 63#8] 5 (1, 2)) := World.setCell_alloc_past _ g9 t _ hg9
          rw [hcomm] at hput
          have HPUT := Lib.hid hput
          have HBG := Lib.hid (show Below N7 w7 ((wr.setCell ⟨g9, t, none⟩ (.slice (some ⟨wr.heap.size, 0, none⟩) 1 1)).alloc (.cells #[B 63#8] 5 (1, 2))) from ((HB.out.setCell (show N7 ≤ (⟨g9, t, none⟩ : Addr).block from hbg) _).alloc (by simpa using hNle) _))
          clear hbA hput hcomm hx2 hszA
          by_cases htl : t < l
          · have hd1 : decide ((t : Int) < (l : Int)) = true := decide_eq_true (by omega)
            have hl1 : (t : Int) < (l : Int) := by omega
            obtain ⟨cb, ob, rfl, hcb⟩ := (HBL.out.of_below HBW.out) t (by rw [HTH.out]; exact htl)
            rw [hf] at hcb
            have hx : wr.cell? ⟨cb, ob + t, none⟩ = some (.bool false) := by rw [HB.out.cell (by rw [← HN7.out]; exact World.block_lt_of_cell? w7 _ hcb)]; exact hcb
            clear hcb hf
            go_wp2
            go_roundw
            case rel => exact ⟨t + 1, by omega, by go_num, by rw [HNO.out HF.out], by rw [HMX.out]; exact HPUT.out, HBG.out⟩
            case measure => simp [intOf]; omega
          · have hd1 : decide ((t : Int) < (l : Int)) = false := decide_eq_false (by omega)
            clear hf
            go_wp2
            go_roundw
            case rel => exact ⟨t + 1, by omega, by go_num, by rw [HNO.out HF.out], by rw [HMX.out]; exact HPUT.out, HBG.out⟩
            case measure => simp [intOf]; omega
      · have hd0 : decide ((t : Int) < (T : Int)) = false := decide_eq_false (by omega)
        obtain rfl : t = T := by omega
        have HML := Lib.hid (show (mixL AL (fun i => th.getD i false) t).length = t by rw [mixL_length]; exact HLA.out)
        have hBr : Below w7.heap.size w7 wr := by rw [HN7.out]; exact HB.out
        have HCr := Lib.hid (HS.out.keep HCW.out hBr)
        have HBr := Lib.hid (bel_step HBW.out hBr)
        have HPr := Lib.hid (show Prt wr q8 (mixL AL (fun i => th.getD i false) t) from by
          obtain ⟨p', c', e', h', -, -⟩ := HO.out.prt
          injection e' with e1 _ _
          subst e1
          exact h')
        have HPA := Lib.hid (HP7.out.of_below hBr)
        have HTL := Lib.hid (show (thereL (mixL AL (fun i => th.getD i false) t) th).length = cnt by rw [there_len, HML.out]; exact HCNT.out.symm)
        have HEQ := Lib.hid (there_eq (mixL AL (fun i => th.getD i false) t) th L fun i hi hf => by rw [mixL_get AL (fun i => th.getD i false) t i hf]; exact HT40.out i (by rw [HML.out] at hi; exact hi))
        have HMG := Lib.hid (fun i (hf : th.getD i false = true) => mixL_get AL (fun i => th.getD i false) t i hf)
        have HSM := Lib.hid (fun i (hi : i < t) => mixL_small AL (fun i => th.getD i false) t 40 (by omega) (fun j hj => by rw [HT40.out j (by rw [HLA.out] at hj; exact hj)]; exact hL0) i (by rw [HLA.out]; exact hi))
        clear HO hBr
        generalize mixL AL (fun i => th.getD i false) t = ML at *
        go_wp2_with fail
        refine (HS.out.dec b n m ML th q8 q t l c8 cap' wr HCr.out HPr.out (HBL.out.of_below HBr.out) HML.out HTH.out (by omega) (by omega) (fun i hi => by have := HSM.out i hi; omega)).mono ?_
        rintro e w10 ⟨r, tt, rfl, hR, hB10⟩
        have HB10 := Lib.hid (bel_step HBr.out hB10)
        have HC10 := Lib.hid (HS.out.keep HCr.out hB10)
        have HPA10 := Lib.hid (HPA.out.of_below hB10)
        have HR := Lib.hid hR
        clear hR hB10 HPr HPA HBr HCr
        by_cases hlT : l = t
        · have h1 : ((l : Int) != (t : Int)) = false := by simp; omega
          have h2 : ((l : Int) == (t : Int)) = true := by simp; omega
          have HLT := Lib.hid hlT
          clear hlT
          rcases HR.out with ⟨hno, rfl, rfl⟩ | ⟨-, ⟨hfew, rfl, rfl⟩ | ⟨hge, rfl, q10, c10, out, rfl, hcap, hp10, hdec⟩⟩
          · exact absurd ⟨by rw [HML.out, HT.out], by rw [HTH.out, HLT.out, HT.out], HEQ.out⟩ hno
          · rw [HTL.out] at hfew
            have h3 : decide ((cnt : Int) < (n : Int)) = true := decide_eq_true (by omega)
            clear HR
            go_wp2
            go_ret
            exact ⟨rfl, HB10.out⟩
          · rw [HTL.out] at hge
            have h3 : decide ((cnt : Int) < (n : Int)) = false := decide_eq_false (by omega)
            have hout : out = AL := by
              rw [HALL.out]
              refine dec_full hk1 (by omega) HEV.out hdec fun i hi hf => ?_
              rw [← HALL.out]; exact HMG.out i hf
            subst hout
            have HP10 := Lib.hid hp10
            have hsame : sameB out out = true := decide_eq_true rfl
            have HCK := Lib.hid (show chkI n m out = 0 by rw [HALL.out]; exact chk_ok HEV.out hk1)
            rw [HT.out] at hcap
            clear HR hdec hp10
            rw [HT.out]
            go_wp2_with fail
            refine (same4G out out q10 _ t t c10 c7 w10 HP10.out HPA10.out HLA.out HLA.out (by omega) (by omega)).mono ?_
            rintro e w11 ⟨rfl, hD11⟩
            have HB11 := Lib.hid (bel_dr HB10.out hD11)
            have HC11 := Lib.hid (HS.out.keep HC10.out (hD11.below _))
            have HP11 := Lib.hid (HP10.out.dr hD11)
            clear hD11
            go_wp2_with fail
            refine (HS.out.chk b n m out q10 t c10 w11 HC11.out HP11.out HLA.out (by omega) hcap (fun i hi => by rw [HT40.out i hi]; omega)).mono ?_
            rintro e w12 ⟨rfl, hB12⟩
            rw [HCK.out]
            have HB12 := Lib.hid (bel_step HB11.out hB12)
            clear hB12
            go_wp2
            go_ret
            exact ⟨rfl, HB12.out⟩
        · have h1 : ((l : Int) != (t : Int)) = true := by simp; omega
          have h2 : ((l : Int) == (t : Int)) = false := by simp; omega
          have HLT := Lib.hid hlT
          have h4 : decide (l = t) = false := decide_eq_false hlT
          clear hlT
          rcases HR.out with ⟨hno, rfl, rfl⟩ | ⟨⟨-, h3, -⟩, -⟩
          · clear HR hno
            go_wp2
            go_ret
            exact ⟨rfl, HB10.out⟩
          · exact absurd (by rw [HTH.out, HT.out] at h3; exact h3) HLT.out
end
end Go.Proofs.Ytphpliclecmnlaa
