/- The statement ShardRaw, walked over the premises. -/
import Derived.Test.YtphpliclecmnlaaK6
import Derived.Test.YtphpliclecmnlaaK7
import Derived.Test.YtphpliclecmnlaaK10
import Derived.Test.YtphpliclecmnlaaZLaw4E
import Derived.Test.YtphpliclecmnlaaZRawM
set_option linter.unusedSimpArgs false
set_option linter.unusedVariables false
namespace Go.Proofs.Ytphpliclecmnlaa
open Go Go.RowKit

attribute [local go_sem ↓] exec_slice exec_store exec_bs
attribute [local go_sem] st_H bsR
section
variable {Cd : World → Nat → Nat → Nat → Prop} (S : CodeSpec Cd) (a c : Int) (la : List (List (BitVec 8))) (th : List Bool) (p q : Option Addr) (n cap l cap' : Nat) (w : World) (hs : Prt w p la) (hl : la.length = n)
include S hs hl
set_option maxRecDepth 100000 in
set_option maxHeartbeats 4000000 in
theorem rr_a (hn : n < 9223372036854775808) (h : few4B la = false) : Calls Try.prog 5 #[.agg #[.int .u8 a, .int .u8 c], .slice p n cap, .slice q l cap'] w fun e w' => e = .returned (.bool true) ∧ Below w.heap.size w w' := by
  have HB0 := Lib.hid (show Below w.heap.size w (w.alloc (.cells #[.int .u8 a, .int .u8 c] 22)) from (Below.refl _ _).alloc (Nat.le_refl _) _)
  have HS := Lib.hid S
  have HA := Lib.hid hs
  have HL := Lib.hid hl
  clear S hs hl
  go_enter Try.func5, Try.ntmps5
  go_wp2_with fail
  refine (awake4 HS.out w _ HB0.out).mono ?_
  rintro e w1 ⟨rfl, hB1⟩
  have HB1 := Lib.hid hB1
  clear hB1
  go_wp2_with fail
  refine (few4_any la p n cap w1 (HA.out.of_below HB1.out) HL.out hn).mono ?_
  rintro e w2 ⟨rfl, rfl⟩
  go_wp2_with fail
  refine (awake4 HS.out w w1 HB1.out).mono ?_
  rintro e w2 ⟨rfl, hB2⟩
  have HB2 := Lib.hid hB2
  clear hB2
  go_wp2
  go_ret
  exact ⟨rfl, HB2.out⟩
set_option maxRecDepth 100000 in
set_option maxHeartbeats 4000000 in
theorem rr_l (h : few4B la = true) (h64 : 64 < l) : Calls Try.prog 5 #[.agg #[.int .u8 a, .int .u8 c], .slice p n cap, .slice q l cap'] w fun e w' => e = .returned (.bool true) ∧ Below w.heap.size w w' := by
  have hn : n ≤ 32 := by have := (of_decide_eq_true h).1; omega
  have hd : decide ((64 : Int) < (l : Int)) = true := decide_eq_true (by omega)
  have HB0 := Lib.hid (show Below w.heap.size w (w.alloc (.cells #[.int .u8 a, .int .u8 c] 22)) from (Below.refl _ _).alloc (Nat.le_refl _) _)
  have HS := Lib.hid S
  have HA := Lib.hid hs
  have HL := Lib.hid hl
  clear S hs hl
  go_enter Try.func5, Try.ntmps5
  go_wp2_with fail
  refine (awake4 HS.out w _ HB0.out).mono ?_
  rintro e w1 ⟨rfl, hB1⟩
  have HB1 := Lib.hid hB1
  clear hB1
  go_wp2_with fail
  refine (few4_any la p n cap w1 (HA.out.of_below HB1.out) HL.out (by omega)).mono ?_
  rintro e w2 ⟨rfl, rfl⟩
  go_wp2_with fail
  refine (awake4 HS.out w w1 HB1.out).mono ?_
  rintro e w2 ⟨rfl, hB2⟩
  have HB2 := Lib.hid hB2
  clear hB2
  go_wp2
  go_ret
  exact ⟨rfl, HB2.out⟩
set_option maxRecDepth 100000 in
set_option maxHeartbeats 16000000 in
theorem rr_b (hb : Bl w q th) (hth : th.length = l) (h : few4B la = true) (h64 : l ≤ 64) (ha : 0 ≤ a) (ha2 : a < 256) (hc : 0 ≤ c) (hc2 : c < 256) (k m : Nat) (hk : 1 + a % 8 = (k : Int)) (hm : 1 + c % 8 = (m : Int)) :
    Calls Try.prog 5 #[.agg #[.int .u8 a, .int .u8 c], .slice p n cap, .slice q l cap'] w fun e w' => e = .returned (.bool true) ∧ Below w.heap.size w w' := by
  have hk1 : 1 ≤ k := by omega
  have hk2 : k ≤ 8 := by omega
  have hm1 : 1 ≤ m := by omega
  have hm2 : m ≤ 8 := by omega
  have hd64 : decide ((64 : Int) < (l : Int)) = false := decide_eq_false (by omega)
  obtain ⟨hn32, hlen40⟩ := of_decide_eq_true h
  have hn : n ≤ 32 := by omega
  have hB0 : Below w.heap.size w (w.alloc (.cells #[.int .u8 a, .int .u8 c] 22)) := (Below.refl _ _).alloc (Nat.le_refl _) _
  have HB0 := Lib.hid hB0
  have HC0 := Lib.hid (show (w.alloc (.cells #[.int .u8 a, .int .u8 c] 22)).cell? ⟨w.heap.size, 0, none⟩ = some (.int .u8 a) by rw [World.cell?_alloc_new]; rfl)
  have HC1 := Lib.hid (show (w.alloc (.cells #[.int .u8 a, .int .u8 c] 22)).cell? ⟨w.heap.size, 1, none⟩ = some (.int .u8 c) by rw [World.cell?_alloc_new]; rfl)
  have hs0 : w.heap.size < (w.alloc (.cells #[.int .u8 a, .int .u8 c] 22)).heap.size := by rw [World.size_alloc]; omega
  have HS := Lib.hid S
  have HA := Lib.hid hs
  have HL := Lib.hid hl
  have HLEN := Lib.hid hlen40
  have HBL := Lib.hid hb
  have HTH := Lib.hid hth
  clear S hB0 hs hl hlen40 hn32 hb hth
  go_enter Try.func5, Try.ntmps5
  go_wp2_with fail
  refine (awake4 HS.out _ _ (Below.refl _ _)).mono ?_
  rintro e w1 ⟨rfl, hB1⟩
  have hx0 : w1.cell? ⟨w.heap.size, 0, none⟩ = some (.int .u8 a) := by rw [hB1.cell (by exact hs0)]; exact HC0.out
  have hx1 : w1.cell? ⟨w.heap.size, 1, none⟩ = some (.int .u8 c) := by rw [hB1.cell (by exact hs0)]; exact HC1.out
  have HB1 := Lib.hid (bel_step HB0.out hB1)
  clear hB1
  go_wp2_with fail
  refine (few4_any la p n cap w1 (HA.out.of_below HB1.out) HL.out (by omega)).mono ?_
  rintro e w2 ⟨rfl, rfl⟩
  go_wp2
  go_quiet (fail)
  try simp only [hk, hm]
  have HB2 := Lib.hid (below_drewN HB1.out nq)
  clear HB1 hx0 hx1 hs0 HB0 HC0 HC1 hk hm
  generalize w1.drewN nq = w2 at *
  go_wp2_with fail
  refine (HS.out.new k m w2 hk1 hm1 (by omega)).mono ?_
  rintro e w3 ⟨b, rfl, hC, hB3⟩
  have HC3 := Lib.hid hC
  have HB3 := Lib.hid (bel_step HB2.out hB3)
  clear hC hB3 HB2
  obtain ⟨LT, hLT⟩ : ∃ LT : Nat → List (List (BitVec 8)), LT = fun t => (pick (fun i => th.getD i false) t).map fun i => la.getD i [] := ⟨_, rfl⟩
  have HYES := Lib.hid (show ∀ t, th.getD t false = true → LT (t + 1) = LT t ++ [la.getD t []] from fun t h => by rw [hLT]; show List.map _ (pick _ (t + 1)) = _; rw [pick_yes (f := fun i => th.getD i false) h, List.map_append]; rfl)
  have HNO := Lib.hid (show ∀ t, th.getD t false = false → LT (t + 1) = LT t from fun t h => by rw [hLT]; show List.map _ (pick _ (t + 1)) = _; rw [pick_no (f := fun i => th.getD i false) h])
  have HLT0 := Lib.hid (show LT 0 = [] by rw [hLT]; rfl)
  have HLTL := Lib.hid (show ∀ t, (LT t).length = (pick (fun i => th.getD i false) t).length from fun t => by rw [hLT]; exact List.length_map ..)
  have HLTN := Lib.hid (show LT n = thereL la th by rw [hLT]; unfold thereL; rw [HL.out]; rfl)
  clear hLT
  have HA3 := Lib.hid (HA.out.of_below HB3.out)
  have HBL3 := Lib.hid (HBL.out.of_below HB3.out)
  generalize hN : w3.heap.size = N at *
  have HN := Lib.hid hN
  clear hN
  go_wp2
  go_loopw [11, 12, 13, 55] (fun v _ _ i wr => ∃ t : Nat, t ≤ n ∧ i = .int .i64 t ∧ OwnP wr N v (LT t) ∧ Below N w3 wr) (fun _ _ _ i _ => n - (intOf i).toNat)
  case atStart => exact ⟨0, Nat.zero_le _, rfl, by rw [HLT0.out]; exact OwnP.nil _ _, Below.refl _ _⟩
  case round =>
    obtain ⟨t, ht, rfl, hO, hB⟩ := hrel
    obtain ⟨pv, cv, hv, -, -, -⟩ := hO.prt
    obtain ⟨cnt, hcnt⟩ : ∃ cnt, cnt = (LT t).length := ⟨_, rfl⟩
    rw [← hcnt] at hv
    subst hv
    have hct : cnt ≤ t := by rw [hcnt, HLTL.out]; exact pick_len _ _
    have HCNT := Lib.hid hcnt
    have HO := Lib.hid hO
    have HB := Lib.hid hB
    have hNO : N ≤ wr.heap.size := by have := hB.size; have := HN.out; omega
    clear hcnt
    by_cases hlt : t < n
    · have hd0 : decide ((t : Int) < (n : Int)) = true := decide_eq_true (by omega)
      have hl0 : (t : Int) < (n : Int) := by omega
      obtain ⟨c1, o1, q1, cp1, rfl, -, hc1, hs1, hq1, hle1⟩ := HA3.out.at_ t (by rw [HL.out]; exact hlt)
      have x1 : wr.cell? ⟨c1, o1 + t, none⟩ = some (.slice q1 (la.getD t []).length cp1) := by rw [hB.cell (by rw [← HN.out]; exact World.block_lt_of_cell? w3 _ hc1)]; exact hc1
      have HS1 := Lib.hid hs1
      have HQ1 := Lib.hid hq1
      have HLE1 := Lib.hid hle1
      have HYT := Lib.hid (HYES.out t)
      have HNT := Lib.hid (HNO.out t)
      generalize hrr : la.getD t [] = r at *
      generalize hmm : r.length = mr at *
      have HMR := Lib.hid hmm
      clear hO hB hc1 hs1 hq1 hle1 hrr hmm
      cases hf : th.getD t false with
      | true =>
        have htl : t < l := by
          rcases Nat.lt_or_ge t l with h1 | h1
          · exact h1
          · rw [List.getD_eq_getElem?_getD, List.getElem?_eq_none (by rw [HTH.out]; exact h1)] at hf; cases hf
        have hd1 : decide ((t : Int) < (l : Int)) = true := decide_eq_true (by omega)
        have hl1 : (t : Int) < (l : Int) := by omega
        obtain ⟨cb, ob, rfl, hcb⟩ := HBL3.out t (by rw [HTH.out]; exact htl)
        rw [hf] at hcb
        have hx : wr.cell? ⟨cb, ob + t, none⟩ = some (.bool true) := by rw [HB.out.cell (by rw [← HN.out]; exact World.block_lt_of_cell? w3 _ hcb)]; exact hcb
        have HF := Lib.hid hf
        have hbW : Below wr.heap.size wr (wr.alloc (.cells #[.slice q1 mr cp1] 38)) := (Below.refl _ _).alloc (Nat.le_refl _) _
        have HOB := Lib.hid (HO.out.of_below hbW)
        have HBB := Lib.hid (HB.out.trans (hbW.mono hNO))
        have HCL := Lib.hid (show (wr.alloc (.cells #[.slice q1 mr cp1] 38)).cell? ⟨wr.heap.size, 0, none⟩ = some (.slice q1 mr cp1) from World.cell?_alloc_new _ _ _ _)
        have hN8 : N ≤ (wr.alloc (.cells #[.slice q1 mr cp1] 38)).heap.size := by rw [World.size_alloc]; omega
        have HSB := Lib.hid (show ∀ j, j < mr → ∃ c o, q1 = some ⟨c, o, none⟩ ∧ c < N ∧ (wr.alloc (.cells #[.slice q1 mr cp1] 38)).cell? ⟨c, o + j, none⟩ = some (B (r.getD j 0#8)) from fun j hj => by
          obtain ⟨c5, o5, e5, hx5⟩ := HS1.out j (by rw [HMR.out]; exact hj)
          have hb5 := World.block_lt_of_cell? w3 _ hx5
          have hb6 : c5 < N := by rw [← HN.out]; exact hb5
          exact ⟨c5, o5, e5, hb6, by rw [HBB.out.cell (by exact hb6)]; exact hx5⟩)
        clear hbW hcb hf
        go_wp2_with (first | (refine wpl_pushP _ rfl (.tmp 70) (.tmp 72) rfl N (.slice pv cnt cv) (LT t) rfl HOB.out ⟨wr.heap.size, 0, none⟩ rfl q1 r mr cp1 HCL.out HMR.out HQ1.out HLE1.out HSB.out cnt HCNT.out.symm (by omega) hN8 ?_; rintro g7 d7 w7 hO7 hg7; have HO7 := Lib.hid hO7; have HB7 := Lib.hid (HBB.out.grown hg7 hN8 (fun g hg => (HOB.out.lt g hg).1)); clear hO7 hg7))
        go_roundw
        case rel => exact ⟨t + 1, by omega, by go_num, by rw [HYT.out HF.out]; exact HO7.out, HB7.out⟩
        case measure => simp [intOf]; omega
      | false =>
        have HF := Lib.hid hf
        by_cases htl : t < l
        · have hd1 : decide ((t : Int) < (l : Int)) = true := decide_eq_true (by omega)
          have hl1 : (t : Int) < (l : Int) := by omega
          obtain ⟨cb, ob, rfl, hcb⟩ := HBL3.out t (by rw [HTH.out]; exact htl)
          rw [hf] at hcb
          have hx : wr.cell? ⟨cb, ob + t, none⟩ = some (.bool false) := by rw [HB.out.cell (by rw [← HN.out]; exact World.block_lt_of_cell? w3 _ hcb)]; exact hcb
          clear hcb hf
          go_wp2
          go_roundw
          case rel => exact ⟨t + 1, by omega, by go_num, by rw [HNT.out HF.out]; exact HO.out, HB.out⟩
          case measure => simp [intOf]; omega
        · have hd1 : decide ((t : Int) < (l : Int)) = false := decide_eq_false (by omega)
          clear hf
          go_wp2
          go_roundw
          case rel => exact ⟨t + 1, by omega, by go_num, by rw [HNT.out HF.out]; exact HO.out, HB.out⟩
          case measure => simp [intOf]; omega
    · have hd0 : decide ((t : Int) < (n : Int)) = false := decide_eq_false (by omega)
      obtain rfl : t = n := by omega
      have hBO : Below w3.heap.size w3 wr := by rw [HN.out]; exact hB
      have HBW := Lib.hid (bel_step HB3.out hBO)
      have HCW := Lib.hid (HS.out.keep HC3.out hBO)
      have HAW := Lib.hid (HA3.out.of_below hBO)
      have HBLW := Lib.hid (HBL3.out.of_below hBO)
      have HPW := Lib.hid (show Prt wr pv (LT t) by
        obtain ⟨p', c', e', h', -, -⟩ := hO.prt
        injection e' with e1 _ _
        subst e1
        exact h')
      rw [HLTN.out] at HPW HCNT
      have HLEN5 := Lib.hid (show ∀ i, i < t → (la.getD i []).length < 100000 from fun i hi => by have := HLEN.out i (by rw [HL.out]; exact hi); omega)
      clear hO hB hBO HO HB HA3 HBL3 HC3 HB3 HYES HNO HLT0 HLTN
      go_wp2_with fail
      refine (copX la p t cap wr HAW.out HL.out (by omega) HLEN5.out).mono ?_
      rintro e w5 ⟨q5, c5, rfl, -, hp5, hB5⟩
      have HP5 := Lib.hid hp5
      have HB5 := Lib.hid (bel_step HBW.out hB5)
      have HC5 := Lib.hid (HS.out.keep HCW.out hB5)
      have HA5 := Lib.hid (HAW.out.of_below hB5)
      have HBL5 := Lib.hid (HBLW.out.of_below hB5)
      have HPL5 := Lib.hid (HPW.out.of_below hB5)
      clear hp5 hB5 HBW HCW HAW HBLW HPW
      go_wp2_with fail
      refine (HS.out.dec b k m la th q5 q t l c5 cap' w5 HC5.out HP5.out HBL5.out HL.out HTH.out (by omega) (by omega) HLEN5.out).mono ?_
      rintro e w6 ⟨r6, t6, rfl, hR6, hB6⟩
      have HR := Lib.hid hR6
      have HB6 := Lib.hid (bel_step HB5.out hB6)
      have HC6 := Lib.hid (HS.out.keep HC5.out hB6)
      have HA6 := Lib.hid (HA5.out.of_below hB6)
      have HBL6 := Lib.hid (HBL5.out.of_below hB6)
      have HPL6 := Lib.hid (HPL5.out.of_below hB6)
      clear hR6 hB6 HB5 HC5 HA5 HBL5 HPL5 HP5
      obtain ⟨T, hT⟩ : ∃ T, T = k + m := ⟨_, rfl⟩
      have HTT := Lib.hid hT
      have hTi : (k : Int) + (m : Int) = (T : Int) := by omega
      have hT16 : T ≤ 16 := by omega
      have hTw : IntKind.i64.wrap (T : Int) = (T : Int) := IntWalk.i64_in _ (by omega)
      clear hT
      by_cases hnT : t = T
      · have HNT := Lib.hid hnT
        have e1 : ((t : Int) != (T : Int)) = false := by simp; omega
        have e2 : ((t : Int) == (T : Int)) = true := by simp; omega
        clear hnT
        by_cases hlT : l = T
        · have HLT := Lib.hid hlT
          have e3 : ((l : Int) != (T : Int)) = false := by simp; omega
          have e4 : ((l : Int) == (T : Int)) = true := by simp; omega
          clear hlT
          have HEVQ := Lib.hid (show evB (thereL la th) cnt = eqB (thereL la th) by
            unfold evB eqB
            rw [decide_eq_decide]
            exact ⟨fun g => g.2, fun g => ⟨HCNT.out.symm, g⟩⟩)
          go_wp2_with fail
          refine (refEven_any (thereL la th) pv cnt cv cnt w6 HPL6.out HCNT.out.symm (by omega)).mono ?_
          rintro e w7 ⟨rfl, hD7⟩
          rw [HEVQ.out]
          have HB7 := Lib.hid (bel_dr HB6.out hD7)
          have HC7 := Lib.hid (HS.out.keep HC6.out (hD7.below _))
          have HA7 := Lib.hid (HA6.out.dr hD7)
          have HBL7 := Lib.hid (HBL6.out.dr hD7)
          have HD7 := Lib.hid (hD7.below w6.heap.size)
          clear hD7 HB6 HC6 HA6 HBL6 HPL6
          rcases HR.out with ⟨hno, rfl, rfl⟩ | ⟨⟨hg1, hg2, heq⟩, ⟨hfew, rfl, rfl⟩ | ⟨hge, rfl, q14, c14, out, rfl, hcap, hp14, hdec⟩⟩
          · have heq : eqB (thereL la th) = false := by
              cases h : eqB (thereL la th) with
              | false => rfl
              | true => exact absurd ⟨by rw [HL.out, HNT.out, HTT.out], by rw [HTH.out, HLT.out, HTT.out], h⟩ hno
            rw [heq]
            clear HR hno heq
            go_wp2
            go_ret
            exact ⟨rfl, HB7.out⟩
          · rw [heq]
            rw [← HCNT.out] at hfew
            have hck : decide ((cnt : Int) < (k : Int)) = true := decide_eq_true (by omega)
            clear HR hg1 hg2 heq
            go_wp2
            go_ret
            exact ⟨rfl, HB7.out⟩
          · rw [heq]
            rw [← HCNT.out] at hge
            have hck : decide ((cnt : Int) < (k : Int)) = false := decide_eq_false (by omega)
            have HEO := Lib.hid (show evB out T = true by rw [HTT.out]; exact dec_even hdec hk1)
            have HOL := Lib.hid (show out.length = T by rw [(of_decide_eq_true HEO.out).1])
            have HQ7 := Lib.hid (hp14.of_below HD7.out)
            have HOUT := Lib.hid (show ∀ i, i < T → th.getD i false = true → out.getD i [] = la.getD i [] from fun i hi hf => by
              obtain ⟨L, o1, o2, o3, D, rl, -, -, -, o4⟩ := hdec
              have h1 := o2 i (by rw [← HTT.out]; exact hi)
              have h2 := o3 i (by rw [← HTT.out]; exact hi) hf
              have h3 : ∀ x, x < L → (out.getD i []).getD x 0#8 = (la.getD i []).getD x 0#8 := fun x hx => by
                have := o4 i x (by rw [← HTT.out]; exact hi) hx
                rw [if_pos hf] at this
                exact this
              generalize out.getD i [] = r at *
              generalize la.getD i [] = r' at *
              refine List.ext_getElem (by omega) fun x h4 h5 => ?_
              have := h3 x (by omega)
              simpa [List.getD_eq_getElem?_getD, h4, h5] using this)
            have HEX := Lib.hid (show cnt = k → chkI k m out = 0 from fun h => dec_exact hk1 hdec (by
              have h1 : (pick (fun i => th.getD i false) (k + m)).length = cnt := by rw [HCNT.out, there_len, HL.out, HNT.out, HTT.out]
              rw [h1, h]))
            have HOS := Lib.hid (show ∀ i, i < T → (out.getD i []).length < 100000 from fun i hi => by
              obtain ⟨L, o1, o2, o3, D, rl, p1, p2, p3, -⟩ := hdec
              have h0 := (p1 0 (by omega)).1
              have h1 := o3 _ h0 (p3 0 (by omega)).1
              have h2 := HLEN.out (rl.getD 0 0) (by rw [HL.out, HNT.out, HTT.out]; exact h0)
              rw [o2 i (by rw [← HTT.out]; exact hi)]
              omega)
            rw [← HTT.out] at hcap
            have HCAP := Lib.hid hcap
            have HGE := Lib.hid hge
            clear HR hg1 hg2 heq hdec hp14 hcap HD7
            rw [← HTT.out]
            go_wp2_with fail
            refine (refEven_any out q14 T c14 T w7 HQ7.out HOL.out (by omega)).mono ?_
            rintro e w8 ⟨he8, hD8⟩
            obtain rfl := he8.trans (by rw [HEO.out] : _ = Ending.returned (.bool true))
            have HB8 := Lib.hid (bel_dr HB7.out hD8)
            have HC8 := Lib.hid (HS.out.keep HC7.out (hD8.below _))
            have HA8 := Lib.hid (HA7.out.dr hD8)
            have HBL8 := Lib.hid (HBL7.out.dr hD8)
            have HQ8 := Lib.hid (HQ7.out.dr hD8)
            clear hD8 HB7 HC7 HA7 HBL7 HQ7
            go_wp2
            go_loopw [16, 17, 134] (fun _ _ i wr => ∃ s : Nat, s ≤ t ∧ i = .int .i64 s ∧ Dr w8 wr) (fun _ _ i _ => t - (intOf i).toNat)
            case atStart => exact ⟨0, Nat.zero_le _, rfl, Dr.refl _⟩
            case round =>
              obtain ⟨s, hs, rfl, hD⟩ := hrel
              rename World => WS
              have HD := Lib.hid hD
              by_cases hst : s < t
              · have hds : decide ((s : Int) < (t : Int)) = true := decide_eq_true (by omega)
                have hs0 : (s : Int) < (t : Int) := by omega
                have hsl : (s : Int) < (l : Int) := by have := HLT.out; have := HNT.out; omega
                have hsT : (s : Int) < (T : Int) := by have := HNT.out; omega
                have hsTn : s < T := by have := HNT.out; omega
                obtain ⟨c1, o1, q1, cp1, rfl, -, hc1, hs1, hq1, -⟩ := HA8.out.at_ s (by rw [HL.out]; exact hst)
                obtain ⟨c2, o2, q2, cp2, rfl, -, hc2, hs2, hq2, -⟩ := HQ8.out.at_ s (by rw [HOL.out]; exact hsTn)
                obtain ⟨cb, ob, rfl, hcb⟩ := HBL8.out s (by rw [HTH.out]; omega)
                have x1 : WS.cell? ⟨c1, o1 + s, none⟩ = some (.slice q1 (la.getD s []).length cp1) := by rw [hD.cell]; exact hc1
                have x2 : WS.cell? ⟨c2, o2 + s, none⟩ = some (.slice q2 (out.getD s []).length cp2) := by rw [hD.cell]; exact hc2
                have x3 : WS.cell? ⟨cb, ob + s, none⟩ = some (.bool (th.getD s false)) := by rw [hD.cell]; exact hcb
                cases hf : th.getD s false with
                | true =>
                  rw [HOUT.out s hsTn hf] at x2 hs2
                  rw [hf] at x3
                  have hv1 := conv_str WS.drew q1 _ _ cp1 (hs1.dr hD.drew) rfl hq1
                  have hv2 := conv_str WS.drew q2 _ _ cp2 (hs2.dr hD.drew) rfl hq2
                  clear hc1 hc2 hcb hs1 hs2 hq1 hq2 hf hD
                  generalize la.getD s [] = r at *
                  go_wp2
                  go_region_held3 (fun w' : World => w'.cell? ⟨cb, ob + s, none⟩ = some (.bool true) ∧ w'.cell? ⟨c2, o2 + s, none⟩ = some (.slice q2 r.length cp2) ∧ (convert 38 9 (.slice q1 r.length cp1)).run Try.prog w' = .ok (.string (strOf r)) w' ∧ (convert 38 9 (.slice q2 r.length cp2)).run Try.prog w' = .ok (.string (strOf r)) w') (exact ⟨x3, x2, hv1, hv2⟩) (fail)
                  go_wp2
                  go_roundw
                  case rel => exact ⟨s + 1, by omega, by go_num, HD.out.drew⟩
                  case measure => simp [intOf]; omega
                | false =>
                  rw [hf] at x3
                  clear hc1 hc2 hcb hs1 hs2 hq1 hq2 hf hD x2
                  generalize la.getD s [] = r at *
                  go_wp2
                  go_quiet (fail)
                  go_wp2
                  go_roundw
                  case rel => exact ⟨s + 1, by omega, by go_num, HD.out.drewN _⟩
                  case measure => simp [intOf]; omega
              · have hds : decide ((s : Int) < (t : Int)) = false := decide_eq_false (by omega)
                have HB9 := Lib.hid (bel_dr HB8.out HD.out)
                have HC9 := Lib.hid (HS.out.keep HC8.out (HD.out.below _))
                have HQ9 := Lib.hid (HQ8.out.dr HD.out)
                clear hD
                by_cases hgt : k < cnt
                · have h1 : decide ((k : Int) < (cnt : Int)) = true := decide_eq_true (by omega)
                  go_wp2
                  go_ret
                  exact ⟨rfl, HB9.out⟩
                · have h1 : decide ((k : Int) < (cnt : Int)) = false := decide_eq_false (by omega)
                  have HZ := Lib.hid (HEX.out (by have := HGE.out; omega))
                  go_wp2_with fail
                  refine (HS.out.chk b k m out q14 T c14 WS HC9.out HQ9.out HOL.out (by omega) HCAP.out HOS.out).mono ?_
                  rintro e w12 ⟨rfl, hB12⟩
                  rw [HZ.out]
                  have HB12 := Lib.hid (bel_step HB9.out hB12)
                  clear hB12
                  go_wp2
                  go_ret
                  exact ⟨rfl, HB12.out⟩
        · have HLT := Lib.hid hlT
          have e3 : ((l : Int) != (T : Int)) = true := by simp; omega
          have e4 : ((l : Int) == (T : Int)) = false := by simp; omega
          have e5 : decide (l = T) = false := decide_eq_false hlT
          clear hlT
          rcases HR.out with ⟨hno, rfl, rfl⟩ | ⟨⟨-, h3, -⟩, -⟩
          · clear HR hno
            go_wp2
            go_ret
            exact ⟨rfl, HB6.out⟩
          · exact absurd (by rw [HTH.out, ← HTT.out] at h3; exact h3) HLT.out
      · have HNT := Lib.hid hnT
        have e1 : ((t : Int) != (T : Int)) = true := by simp; omega
        have e2 : ((t : Int) == (T : Int)) = false := by simp; omega
        have e5 : decide (t = T) = false := decide_eq_false hnT
        clear hnT
        rcases HR.out with ⟨hno, rfl, rfl⟩ | ⟨⟨h3, -, -⟩, -⟩
        · clear HR hno
          go_wp2
          go_ret
          exact ⟨rfl, HB6.out⟩
        · exact absurd (by rw [HL.out, ← HTT.out] at h3; exact h3) HNT.out
end
end Go.Proofs.Ytphpliclecmnlaa
