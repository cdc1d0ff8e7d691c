/- The statement ShardEncodes, walked over the premises. -/
import Derived.Test.YtphpliclecmnlaaK6
import Derived.Test.YtphpliclecmnlaaK9
import Derived.Test.YtphpliclecmnlaaK10
set_option linter.unusedSimpArgs false
set_option linter.unusedVariables false
namespace Go.Proofs.Ytphpliclecmnlaa
open Go Go.RowKit

theorem OwnX.open {w : World} {base : Nat} {v : Value} {ls : List (List (BitVec 8))} (h : OwnX w base v ls) (hpos : 0 < ls.length) : ∃ (vs : List Value) (ad : Addr) (c : Nat), v = .slice (some ad) ls.length c ∧ vs.length = ls.length ∧ (∀ j u, vs[j]? = some u → w.cell? (ad.add j) = some u) ∧ (∀ u ∈ vs, u.oneCell' = true) ∧
    (∀ i, i < ls.length → OwnB w base (vd vs i) (ls.getD i [])) ∧ (∀ i j g, i < ls.length → j < ls.length → i ≠ j → (vd vs i).ownBlock = some g → (vd vs j).ownBlock ≠ some g) := by
  obtain ⟨vs, h1, h2, h3, _, h5⟩ := h
  rcases h2.2 with ⟨hv, hl⟩ | ⟨g, cap, cur, hv, hb, hg, hle, _, hsz, ht⟩
  · omega
  refine ⟨vs, ⟨g, 0, none⟩, cap, hv, h1, fun j u hu => ?_, fun u hu => ?_, h3, h5⟩
  · have hj : j < vs.length := (List.getElem?_eq_some_iff.1 hu).1
    show w.cell? (Addr.add ⟨g, 0, none⟩ j) = some u
    rw [Addr.add_mid, Nat.zero_add, cell_of_row w g j cur 38 (0, 0) hg]
    have e : (cur.toList.take (ls.length * 1))[j]? = vs[j]? := by rw [ht]
    rw [List.getElem?_take, if_pos (by omega), hu] at e
    simpa using e
  · obtain ⟨i, hi, rfl⟩ := List.getElem_of_mem hu
    obtain ⟨q, c, e, _⟩ := (h3 i (by omega)).shape
    have e2 : vs[i] = vd vs i := by simp [vd, List.getD_eq_getElem?_getD, hi]
    rw [e2, e]; rfl
theorem xor_1 (t : TypeId) (x : BitVec 8) : binOp .xor t (B x) (.int .u8 1) = pure (B (x ^^^ 1#8)) := by
  have := bB_xor t x 1#8
  rw [B_1] at this
  exact this
theorem sizeR4 (w : World) : (sizeOf (Try.prog.elem 23)).run Try.prog w = .ok 1 w := by kernel_rfl
theorem sl_one (g n cap : Nat) (w : World) (hn : 1 ≤ n) (hc : 1 < cap) :
    (slT 23 (.slice (some ⟨g, 0, none⟩) n cap) (some (.int .i64 1)) none none).run Try.prog w = .ok (.value (.slice (some ⟨g, 1, none⟩) (n - 1) (cap - 1))) w := by
  have h1 := run_sliceAt_slice (P := Try.prog) w 23 (.slice (some ⟨g, 0, none⟩) n cap) (some (.int .i64 1)) none none undRows
  rw [run_slice_l (P := Try.prog) w 23 (some ⟨g, 0, none⟩) n cap undRows .i64 1 (by omega) (by omega), sizeR4] at h1
  simp only [slT, Sem.run_bind, h1, Result.andThen_ok, Sem.run_pure]
  simp only [sliced, Nat.mul_one]
  rw [if_neg (by show ¬ cap = Int.toNat 1; simp; omega)]
  simp [Addr.add]
theorem Prt.tail {w : World} {g : Nat} {ls : List (List (BitVec 8))} (h : Prt w (some ⟨g, 0, none⟩) ls) : Prt w (some ⟨g, 1, none⟩) (ls.drop 1) := fun i hi => by
  rw [List.length_drop] at hi
  obtain ⟨c, o, q, cap, e, h1, h2, h3, h4⟩ := h (i + 1) (by omega)
  injection e with e
  injection e with e1 e2
  subst e1 e2
  have hg : (ls.drop 1).getD i [] = ls.getD (i + 1) [] := by simp [List.getD_eq_getElem?_getD, List.getElem?_drop, Nat.add_comm]
  rw [hg]
  exact ⟨g, 1, q, cap, rfl, by rw [Nat.zero_add] at h1; rw [Nat.add_comm 1 i]; exact h1, h2, h3, h4⟩
theorem same4G (la lb : List (List (BitVec 8))) (p q : Option Addr) (n m c d : Nat) (w : World) (ha : Prt w p la) (hb : Prt w q lb) (hla : la.length = n) (hlb : lb.length = m) (hn : n < 9223372036854775808) (hm : m < 9223372036854775808) :
    Calls Try.prog 15 #[.slice p n c, .slice q m d] w fun e w' => e = .returned (.bool (sameB la lb)) ∧ Dr w w' := by
  by_cases h : n = m
  · subst h
    exact same4_any la lb p q n c d w ha hb hla hlb hn
  · have hf : sameB la lb = false := decide_eq_false fun e => h (by rw [← hla, ← hlb, e])
    rw [hf]
    exact (same4_odd p q n m c d w hn hm h).mono fun e w' ⟨he, hw⟩ => ⟨he, by rw [← hw]; exact Dr.refl _⟩
theorem copX (ls : List (List (BitVec 8))) (p : Option Addr) (n cap : Nat) (w : World) (hs : Prt w p ls) (hl : ls.length = n) (hn : n ≤ 100) (hlen : ∀ i, i < n → (ls.getD i []).length < 100000) :
    Calls Try.prog 13 #[.slice p n cap] w fun e w' => ∃ q c, e = .returned (.slice q n c) ∧ OwnX w' w.heap.size (.slice q n c) ls ∧ Prt w' q ls ∧ Below w.heap.size w w' := by
  refine (copiedX_any ls p n cap w hs hl (by omega) (fun i hi => by have := hlen i (by omega); omega)).mono ?_
  rintro e w' ⟨v, rfl, hO, hB⟩
  obtain ⟨q, c, hv, hp, -, -⟩ := hO.prt
  rw [hl] at hv
  subst hv
  exact ⟨q, c, rfl, hO, hp, hB⟩
attribute [local go_sem ↓] exec_slice exec_store
attribute [local go_sem] sl_one st_B xor_1
section
variable {Cd : World → Nat → Nat → Nat → Prop} (S : CodeSpec Cd) (a c d : Int) (la : List (List (BitVec 8))) (p : Option Addr) (n cap : Nat) (w : World) (hs : Prt w p la) (hl : la.length = n)
include S hs hl
set_option maxRecDepth 100000 in
set_option maxHeartbeats 4000000 in
theorem se_a (hn : n < 9223372036854775808) (h : few4B la = false) : Calls Try.prog 3 #[.agg #[.int .u8 a, .int .u8 c], .slice p n cap, .int .u16 d] w fun e w' => e = .returned (.bool true) ∧ Below w.heap.size w w' := by
  have HB0 := Lib.hid (show Below w.heap.size w (w.alloc (.cells #[.int .u8 a, .int .u8 c] 22)) from (Below.refl _ _).alloc (Nat.le_refl _) _)
  have HS := Lib.hid S
  have HA := Lib.hid hs
  have HL := Lib.hid hl
  clear S hs hl
  go_enter Try.func3, Try.ntmps3
  go_wp2_with fail
  refine (awake4 HS.out w _ HB0.out).mono ?_
  rintro e w1 ⟨rfl, hB1⟩
  have HB1 := Lib.hid hB1
  clear hB1
  go_wp2_with fail
  refine (few4_any la p n cap w1 (HA.out.of_below HB1.out) HL.out hn).mono ?_
  rintro e w2 ⟨rfl, rfl⟩
  go_wp2_with fail
  refine (awake4 HS.out w w1 HB1.out).mono ?_
  rintro e w2 ⟨rfl, hB2⟩
  have HB2 := Lib.hid hB2
  clear hB2
  go_wp2
  go_ret
  exact ⟨rfl, HB2.out⟩
set_option maxRecDepth 100000 in
set_option maxHeartbeats 16000000 in
theorem se_b (h : few4B la = true) (ha : 0 ≤ a) (ha2 : a < 256) (hc : 0 ≤ c) (hc2 : c < 256) (hd0 : 0 ≤ d) (hd2 : d < 65536) (k m : Nat) (hk : 1 + a % 12 = (k : Int)) (hm : 1 + c % 12 = (m : Int)) :
    Calls Try.prog 3 #[.agg #[.int .u8 a, .int .u8 c], .slice p n cap, .int .u16 d] w fun e w' => e = .returned (.bool true) ∧ Below w.heap.size w w' := by
  have hk1 : 1 ≤ k := by omega
  have hk2 : k ≤ 12 := by omega
  have hm1 : 1 ≤ m := by omega
  have hm2 : m ≤ 12 := by omega
  obtain ⟨hn32, hlen40⟩ := of_decide_eq_true h
  have hn : n ≤ 32 := by omega
  have hlen : ∀ i, i < n → (la.getD i []).length < 100000 := fun i hi => by have := hlen40 i (by omega); omega
  have hB0 : Below w.heap.size w (w.alloc (.cells #[.int .u8 a, .int .u8 c] 22)) := (Below.refl _ _).alloc (Nat.le_refl _) _
  have HB0 := Lib.hid hB0
  have HC0 := Lib.hid (show (w.alloc (.cells #[.int .u8 a, .int .u8 c] 22)).cell? ⟨w.heap.size, 0, none⟩ = some (.int .u8 a) by rw [World.cell?_alloc_new]; rfl)
  have HC1 := Lib.hid (show (w.alloc (.cells #[.int .u8 a, .int .u8 c] 22)).cell? ⟨w.heap.size, 1, none⟩ = some (.int .u8 c) by rw [World.cell?_alloc_new]; rfl)
  have hs0 : w.heap.size < (w.alloc (.cells #[.int .u8 a, .int .u8 c] 22)).heap.size := by rw [World.size_alloc]; omega
  have HS := Lib.hid S
  have HA := Lib.hid hs
  have HL := Lib.hid hl
  have HLEN := Lib.hid hlen
  have hsa : sameB la la = true := decide_eq_true rfl
  clear S hB0 hs hl hlen hlen40 hn32
  go_enter Try.func3, Try.ntmps3
  go_wp2_with fail
  refine (awake4 HS.out _ _ (Below.refl _ _)).mono ?_
  rintro e w1 ⟨rfl, hB1⟩
  have hx0 : w1.cell? ⟨w.heap.size, 0, none⟩ = some (.int .u8 a) := by rw [hB1.cell (by exact hs0)]; exact HC0.out
  have hx1 : w1.cell? ⟨w.heap.size, 1, none⟩ = some (.int .u8 c) := by rw [hB1.cell (by exact hs0)]; exact HC1.out
  have HB1 := Lib.hid (bel_step HB0.out hB1)
  clear hB1
  go_wp2_with fail
  refine (few4_any la p n cap w1 (HA.out.of_below HB1.out) HL.out (by omega)).mono ?_
  rintro e w2 ⟨rfl, rfl⟩
  go_wp2
  go_quiet (fail)
  try simp only [hk, hm]
  have HB2 := Lib.hid (below_drewN HB1.out nq)
  clear HB1 hx0 hx1 hs0 HB0 HC0 HC1 hk hm
  generalize w1.drewN nq = w2 at *
  go_wp2_with fail
  refine (HS.out.new k m w2 hk1 hm1 (by omega)).mono ?_
  rintro e w3 ⟨b, rfl, hC, hB3⟩
  have HC3 := Lib.hid hC
  have HB3 := Lib.hid (bel_step HB2.out hB3)
  clear hC hB3 HB2
  go_wp2_with fail
  refine (copX la p n cap w3 (HA.out.of_below HB3.out) HL.out (by omega) HLEN.out).mono ?_
  rintro e w4 ⟨q1, c1, rfl, -, hp4, hB4⟩
  have HP4 := Lib.hid hp4
  have HC4 := Lib.hid (HS.out.keep HC3.out hB4)
  have HB4 := Lib.hid (bel_step HB3.out hB4)
  clear hp4 hB4 HC3 HB3
  go_wp2_with fail
  refine (HS.out.enc b k m la q1 n c1 w4 HC4.out HP4.out HL.out (by omega) HLEN.out).mono ?_
  rintro e w5 ⟨r, t, rfl, hR, hB5⟩
  have HR5 := Lib.hid hR
  have HP5 := Lib.hid (HP4.out.of_below hB5)
  have HC5 := Lib.hid (HS.out.keep HC4.out hB5)
  have HB5 := Lib.hid (bel_step HB4.out hB5)
  clear hR hB5 HP4 HC4 HB4
  go_wp2_with fail
  refine (same4G la la q1 p n n c1 cap w5 HP5.out (HA.out.of_below HB5.out) HL.out HL.out (by omega) (by omega)).mono ?_
  rintro e w6 ⟨rfl, hD6⟩
  have HD6 := Lib.hid (hD6.below w5.heap.size)
  have HC6 := Lib.hid (HS.out.keep HC5.out (hD6.below _))
  have HB6 := Lib.hid (bel_dr HB5.out hD6)
  clear hD6 HP5 HC5 HB5
  go_wp2_with fail
  refine (refEven_any la p n cap k w6 (HA.out.of_below HB6.out) HL.out (by omega)).mono ?_
  rintro e w7 ⟨rfl, hD7⟩
  have HD7 := Lib.hid (bel_dr HD6.out hD7)
  have HC7 := Lib.hid (HS.out.keep HC6.out (hD7.below _))
  have HB7 := Lib.hid (bel_dr HB6.out hD7)
  clear hD7 HC6 HB6 HD6
  rcases HR5.out with ⟨hev, rfl, rfl⟩ | ⟨hev, rfl, q2, c2, rfl, hp5⟩
  · clear HR5
    go_wp2
    go_ret
    exact ⟨rfl, HB7.out⟩
  obtain ⟨hnk, hrow⟩ := ev_parts hev
  obtain rfl : n = k := by rw [← HL.out]; exact hnk
  have HROW := Lib.hid hrow
  have HP7 := Lib.hid (hp5.of_below HD7.out)
  have hL0 : (la.getD 0 []).length < 100000 := HLEN.out 0 (by omega)
  have HEV := Lib.hid hev
  clear HR5 hp5 HD7 hrow hnk
  go_wp2_with fail
  refine (refParity_any la p n m cap (la.getD 0 []).length w7 (HA.out.of_below HB7.out) HL.out HROW.out hk1 (by omega) (by omega)).mono ?_
  rintro e w8 ⟨v8, rfl, hO8, hB8⟩
  obtain ⟨q8, c8, rfl, hp8, -, -⟩ := hO8.prt
  rw [rowsL_length]
  have HP8 := Lib.hid (HP7.out.of_below hB8)
  have HQ8 := Lib.hid (show Prt w8 q8 (parL n m la) from hp8)
  have HC8 := Lib.hid (HS.out.keep HC7.out hB8)
  have HB8 := Lib.hid (bel_step HB7.out hB8)
  have hsp : sameB (parL n m la) (parL n m la) = true := decide_eq_true rfl
  clear hp8 hO8 hB8 HP7 HC7 HB7
  go_wp2_with fail
  refine (same4G (parL n m la) (parL n m la) q2 q8 m m c2 c8 w8 HP8.out HQ8.out (parL_length _ _ _) (parL_length _ _ _) (by omega) (by omega)).mono ?_
  rintro e w9 ⟨rfl, hD9⟩
  have HP9 := Lib.hid (HP8.out.dr hD9)
  have HC9 := Lib.hid (HS.out.keep HC8.out (hD9.below _))
  have HB9 := Lib.hid (bel_dr HB8.out hD9)
  clear hD9 HP8 HQ8 HC8 HB8
  go_wp2_with fail
  refine (copX la p n cap w9 (HA.out.of_below HB9.out) HL.out (by omega) HLEN.out).mono ?_
  rintro e w10 ⟨q10, c10, rfl, hO10, -, hB10⟩
  have HO10 := Lib.hid hO10
  have HP10 := Lib.hid (HP9.out.of_below hB10)
  have HC10 := Lib.hid (HS.out.keep HC9.out hB10)
  have HB10 := Lib.hid (bel_step HB9.out hB10)
  have hN10 : w9.heap.size ≤ w10.heap.size := hB10.size
  have HK10 := Lib.hid hB10
  clear hO10 hB10 HP9
  go_wp2_with fail
  refine (copX (parL n m la) q2 m c2 w10 HP10.out (parL_length _ _ _) (by omega) (fun i hi => by rw [parL_len _ _ _ _ hi]; exact hL0)).mono ?_
  rintro e w11 ⟨q11, c11, rfl, hO11, -, hB11⟩
  obtain ⟨vs, ad, cc, hv11, hvl, hnews, hone, hown, hsep⟩ := hO11.open (by rw [parL_length]; omega)
  rw [parL_length] at hv11 hvl
  injection hv11 with e1 e2 e3
  subst e1 e3
  have HK11 := Lib.hid hB11
  have HKK := Lib.hid (bel_step HK10.out hB11)
  have HB11 := Lib.hid (bel_step HB10.out hB11)
  have HU := Lib.hid (show ∀ i, i < m → OwnB w11 w9.heap.size (vd vs i) ((parL n m la).getD i []) from fun i hi => (hown i (by rw [parL_length]; exact hi)).low hN10)
  have HF := Lib.hid (show ∀ i g, i < m → (vd vs i).ownBlock = some g → w10.heap.size ≤ g from fun i g hi hg => ((hown i (by rw [parL_length]; exact hi)).lt g hg).1)
  have HDD := Lib.hid (show ∀ i j g, i < m → j < m → i ≠ j → (vd vs i).ownBlock = some g → (vd vs j).ownBlock ≠ some g from fun i j g hi hj hij hg => hsep i j g (by rw [parL_length]; exact hi) (by rw [parL_length]; exact hj) hij hg)
  have HNW := Lib.hid hnews
  have HON := Lib.hid hone
  have HVL := Lib.hid hvl
  clear hO11 hB11 hnews hone hown hsep HC10 hvl
  have hNw : w.heap.size ≤ w9.heap.size := HB9.out.size
  have hN11 : w9.heap.size ≤ w11.heap.size := HKK.out.size
  have hall := all_even (m := m) HEV.out hk1
  have HOK := Lib.hid (chk_ok (m := m) HEV.out hk1)
  have HLL := Lib.hid (fun i hi => all_len (m := m) HEV.out hk1 i hi)
  go_wp2_with (first | (refine wpl_joinX _ rfl (.tmp 80) (.tmp 82) rfl w9.heap.size (.slice q10 n c10) la rfl w10 HO10.out HK11.out vs (parL n m la) n m HL.out (parL_length _ _ _) HVL.out ad _ rfl HU.out HF.out HDD.out (by omega) HNW.out HON.out (by omega) hN10 ?_; rintro g12 d12 w12 hO12 hg12 ho12; have HO12 := Lib.hid hO12; have HK12 := Lib.hid (HKK.out.grown hg12 hN11 (fun g hg => (HO10.out.lt g hg).1)); have HB12 := Lib.hid (HB11.out.grown hg12 (by omega) (fun g hg => Nat.le_trans hNw (HO10.out.lt g hg).1)); clear hO12 hg12 ho12))
  have HC12 := Lib.hid (HS.out.keep HC9.out HK12.out)
  obtain ⟨p12, u12, e12, hp12, -, hcap12⟩ := HO12.out.prt
  rw [show (la ++ parL n m la).length = n + m by rw [List.length_append, parL_length, HL.out]] at e12 hcap12
  injection e12 with e1 _ e3
  subst e1 e3
  have HP12 := Lib.hid hp12
  have HLA := Lib.hid (show (la ++ parL n m la).length = n + m by rw [List.length_append, parL_length, HL.out])
  have hT1 : 1 < d12 := by omega
  have hT2 : 1 ≤ n + m := by omega
  clear hp12 hall HU HF HDD HNW HON HVL HK11 HKK HO10 HP10 HB11 HB10 HB9 HK10
  go_wp2_with fail
  refine (HS.out.chk b n m (la ++ parL n m la) _ (n + m) d12 w12 HC12.out HP12.out HLA.out (by omega) hcap12 (fun i hi => by rw [HLL.out i hi]; exact hL0)).mono ?_
  rintro e w13 ⟨rfl, hB13⟩
  rw [HOK.out]
  have HB13 := Lib.hid (bel_step HB12.out hB13)
  have HK13 := Lib.hid (bel_step HK12.out hB13)
  have HC13 := Lib.hid (HS.out.keep HC12.out hB13)
  have HO13 := Lib.hid (HO12.out.of_below hB13)
  have HP13 := Lib.hid (HP12.out.of_below hB13)
  clear hB13 HB12 HC12 HO12 HP12
  go_wp2_with fail
  refine (HS.out.chk b n m ((la ++ parL n m la).drop 1) _ (n + m - 1) (d12 - 1) w13 HC13.out HP13.out.tail (by rw [List.length_drop, HLA.out]) (by omega) (by omega) (fun i hi => by
    have hg : ((la ++ parL n m la).drop 1).getD i [] = (la ++ parL n m la).getD (i + 1) [] := by
      generalize la ++ parL n m la = L at *
      simp [List.getD_eq_getElem?_getD, List.getElem?_drop, Nat.add_comm]
    rw [hg, HLL.out (i + 1) (by omega)]; exact hL0)).mono ?_
  rintro e w14 ⟨rfl, hB14⟩
  rw [chk_len (show ((la ++ parL n m la).drop 1).length ≠ n + m by rw [List.length_drop, HLA.out]; omega)]
  have HB14 := Lib.hid (bel_step HB13.out hB14)
  have HK14 := Lib.hid (bel_step HK13.out hB14)
  have HC14 := Lib.hid (HS.out.keep HC13.out hB14)
  have HO14 := Lib.hid (HO13.out.of_below hB14)
  clear hB14 HB13 HC13 HO13 HP13
  obtain ⟨T, hT⟩ : ∃ T, T = n + m := ⟨_, rfl⟩
  obtain ⟨I, hI⟩ : ∃ I, I = d.toNat % T := ⟨_, rfl⟩
  have hIT : I < T := by rw [hI]; exact Nat.mod_lt _ (by omega)
  have qT : (n : Int) + (m : Int) = (T : Int) := by omega
  have qI : d % (T : Int) = (I : Int) := by
    rw [hI, Int.natCast_emod, Int.toNat_of_nonneg hd0]
  have hIl := HLL.out I (by omega)
  have hrow := HO14.out.prt
  obtain ⟨p14, u14, e14, hp14, -, -⟩ := hrow
  rw [HLA.out] at e14
  injection e14 with e1 _ e3
  subst e1 e3
  obtain ⟨c15, o15, q15, u15, e15, -, hc15, -, -⟩ := hp14.at_ I (by rw [HLA.out]; omega)
  injection e15 with e15
  injection e15 with e1 e2
  subst e1 e2
  rw [Nat.zero_add, hIl] at hc15
  have HTT := Lib.hid hT
  have HIT := Lib.hid hIT
  have hITi : (I : Int) < (T : Int) := by omega
  have hTz : (0 : Int) < (T : Int) := by omega
  have qTn : n + m = T := hT.symm
  have d16 : d < 65536 := hd2
  generalize hLL : (la.getD 0 []).length = LL at *
  have HLLL := Lib.hid hLL
  clear hI hT hIT hp14 hIl hLL
  rw [qTn]
  clear qTn
  by_cases hz : LL = 0
  · have z1 : ((LL : Int) == 0) = true := by simp; omega
    have z2 : (LL == 0) = true := by simp; omega
    clear hz
    go_wp2
    go_ret
    exact ⟨rfl, HB14.out⟩
  · have z1 : ((LL : Int) == 0) = false := by simp; omega
    have z2 : (LL == 0) = false := by simp; omega
    have z3 : decide (LL = 0) = false := decide_eq_false hz
    obtain ⟨Y, hY⟩ : ∃ Y : Nat, (Y : Int) = d / 32 := ⟨(d / 32).toNat, Int.toNat_of_nonneg (by omega)⟩
    obtain ⟨X, hX⟩ : ∃ X, X = Y % LL := ⟨_, rfl⟩
    have hXL : X < LL := by rw [hX]; exact Nat.mod_lt _ (by omega)
    have i1 : IntKind.i64.wrap d = d := IntWalk.i64_in _ (by omega)
    have i2 : d.tdiv 32 = (Y : Int) := by rw [Int.tdiv_eq_ediv_of_nonneg hd0, hY]
    have i3 : IntKind.i64.wrap (Y : Int) = (Y : Int) := IntWalk.i64_in _ (by omega)
    have i4 : (Y : Int).tmod (LL : Int) = (X : Int) := by rw [Int.tmod_eq_emod_of_nonneg (by omega), hX, Int.natCast_emod]
    have i5 : IntKind.i64.wrap (X : Int) = (X : Int) := IntWalk.i64_in _ (by have := HLLL.out; omega)
    have hIn : I < n + m := by have := HTT.out; have := HIT.out; omega
    have hIl := HLL.out I hIn
    have HIL := Lib.hid hIl
    obtain ⟨g, ⟨n', cap', eg⟩, dI, cI, hx1, hx2, hx3, hbd, hput⟩ := HO14.out.put I X (by rw [HLA.out]; exact hIn) (by rw [hIl]; exact hXL) (((la ++ parL n m la).getD I []).getD X 0#8 ^^^ 1#8)
    injection eg with e1 _ _
    injection e1 with e1
    injection e1 with e1 _
    subst e1
    rw [hIl] at hx1
    have hLi : (X : Int) < (LL : Int) := by omega
    have hLz : (0 : Int) < (LL : Int) := by omega
    have HFL := Lib.hid (chk_flip (m := m) HEV.out hk1 hm1 (by omega) I X hIn (by rw [HLLL.out]; exact hXL) (((la ++ parL n m la).getD I []).getD X 0#8 ^^^ 1#8) (xor_one_ne _))
    have hSL : (la ++ parL n m la).set I (((la ++ parL n m la).getD I []).set X (((la ++ parL n m la).getD I []).getD X 0#8 ^^^ 1#8)) = (la ++ parL n m la).set I (((la ++ parL n m la).getD I []).set X (((la ++ parL n m la).getD I []).getD X 0#8 ^^^ 1#8)) := rfl
    have HPUT := Lib.hid hput
    have HSIZ := Lib.hid (show ((la ++ parL n m la).set I (((la ++ parL n m la).getD I []).set X (((la ++ parL n m la).getD I []).getD X 0#8 ^^^ 1#8))).length = n + m by rw [List.length_set, HLA.out])
    have HBD := Lib.hid (show w9.heap.size ≤ dI from hbd)
    generalize hyy : ((la ++ parL n m la).getD I []).getD X 0#8 = by_ at *
    have HYY := Lib.hid hyy
    have isome : (w14.cell? ⟨dI, X, none⟩).isSome = true := by rw [hx2]; rfl
    clear hX hY hXL hIn hIl hput hbd hSL hyy hc15
    go_wp2
    refine wp_region_still_tail 17 (by kernel_rfl) (by kernel_rfl) ?_
    simp only [List.take_succ_cons, List.take_zero, List.drop_succ_cons, List.drop_zero, World.drew_eq]
    repeat (refine wpStill_step (fun K hK => ?_); go_simp; refine hK _ ?_; clear hK K)
    refine wpStill_nil ?_
    have hk15 := (HK14.out.setCell (show w9.heap.size ≤ (⟨dI, X, none⟩ : Addr).block from HBD.out) (B (by_ ^^^ 1#8))).drew
    have HC15 := Lib.hid (HS.out.keep HC9.out hk15)
    have HB15 := Lib.hid ((HB14.out.setCell (show w.heap.size ≤ (⟨dI, X, none⟩ : Addr).block from Nat.le_trans hNw HBD.out) (B (by_ ^^^ 1#8))).drew)
    obtain ⟨p15, u15', e15, hp15, -, -⟩ := (HPUT.out.dr (Dr.refl _).drew).prt
    rw [HSIZ.out] at e15
    injection e15 with e1 e2 e3
    subst e1 e3
    have HP15 := Lib.hid hp15
    have hlen15 : ∀ i, i < T → (((la ++ parL n m la).set I (((la ++ parL n m la).getD I []).set X (by_ ^^^ 1#8))).getD i []).length < 100000 := fun i hi => by
      have hi2 : i < n + m := by have := HTT.out; omega
      by_cases e : i = I
      · subst e
        have e2 : ((la ++ parL n m la).set i (((la ++ parL n m la).getD i []).set X (by_ ^^^ 1#8))).getD i [] = ((la ++ parL n m la).getD i []).set X (by_ ^^^ 1#8) := by
          have hh := HLA.out
          generalize la ++ parL n m la = L at *
          simp [List.getD_eq_getElem?_getD, hh, hi2]
        rw [e2, List.length_set, HIL.out]; exact hL0
      · have e2 : ((la ++ parL n m la).set I (((la ++ parL n m la).getD I []).set X (by_ ^^^ 1#8))).getD i [] = (la ++ parL n m la).getD i [] := by
          generalize la ++ parL n m la = L at *
          simp [List.getD_eq_getElem?_getD, List.getElem?_set, Ne.symm e]
        rw [e2, HLL.out i hi2]; exact hL0
    have HL15 := Lib.hid hlen15
    clear hk15 hp15 hlen15
    go_wp2_with fail
    refine (HS.out.chk b n m ((la ++ parL n m la).set I (((la ++ parL n m la).getD I []).set X (by_ ^^^ 1#8))) _ T _ _ HC15.out HP15.out (by rw [HSIZ.out]; exact HTT.out.symm) (by have := HTT.out; omega) (by have := HTT.out; omega) HL15.out).mono ?_
    rintro e w16 ⟨rfl, hB16⟩
    rw [HFL.out]
    have HB16 := Lib.hid (bel_step HB15.out hB16)
    clear hB16
    go_wp2
    go_ret
    exact ⟨rfl, HB16.out⟩
end
end Go.Proofs.Ytphpliclecmnlaa
