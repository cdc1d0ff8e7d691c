/- The statement CodecAnys, walked over the premises. -/
import Derived.Test.YtgmogbgkokofoaaAnysL6
import Derived.Test.YtgmogbgkokofoaaCuts6W
import Derived.Test.YtgmogbgkokofoaaCopyM
set_option linter.unusedSimpArgs false
set_option linter.unusedVariables false
namespace Go.Proofs.Ytgmogbgkokofoaa
open Go Go.RowKit

theorem enters_anys : ∀ args w, (callFunc 19 args).run Try.prog w = .ok (.enter 19 args) w := enters_of Try.func19 (by kernel_rfl) rfl
theorem refNext_any (l : List (BitVec 8)) (k : Nat) (most : Int) (p : Option Addr) (n cap : Nat) (w : World) (hl : l.length = n) (hs : Sl w p l) (hp : p = none → cap = 0) (hc : n ≤ cap) (hn : n < 1000000) : Calls Try.prog 18 #[.slice p n cap, .int .i64 (k : Int), .int .i64 most] w (NextR w (nextI l k most)) := by
  by_cases h3 : k = 3
  · subst h3; exact refNext3 l most p n cap w hl hs
  · by_cases h4 : k = 4
    · subst h4; exact refNext4 l most p n cap w hl hs hp hc
    · exact refNextN l k most p n cap w hl hs hp hc hn h3 h4
theorem nextI_used {l : List (BitVec 8)} {k : Nat} {most : Int} (hc : (nextI l k most).2.2 = 0) : (nextI l k most).2.1 ≤ l.length := by
  unfold nextI at hc ⊢
  by_cases h3 : k = 3
  · rw [if_pos h3] at hc ⊢
    split
    · exact Nat.zero_le _
    · rename_i h
      show 1 ≤ _
      omega
  · rw [if_neg h3] at hc ⊢
    by_cases h4 : k = 4
    · rw [if_pos h4] at hc ⊢
      split
      · exact Nat.zero_le _
      · rename_i h
        show 32 ≤ _
        omega
    · rw [if_neg h4] at hc ⊢
      by_cases ht : (takeI l most).2.2 = 0
      · have hk := (takeI_ok ht).1
        rw [if_neg (by rw [ht]; exact fun h => h rfl)] at hc ⊢
        split
        · exact hk
        · split
          · exact Nat.zero_le _
          · rename_i h
            show (takeI l most).2.1 + (takeI l most).1 ≤ _
            omega
      · rw [if_pos ht] at hc
        exact absurd hc ht
-- the walks, by gen-anys6.py
attribute [local go_sem] mkFn bsB0 bsI slb_lo
attribute [local go_sem ↓] exec_slice exec_bs
section
variable {Rd : Option Addr → Nat → World → Addr → List (BitVec 8) → Prop} {Thr : Addr → Nat → World → Value → Prop} (S : RdSpec Rd Thr) (HA : ∀ w : World, Calls Try.prog 7 #[] w fun e w' => e = .returned (.bool true) ∧ Below w.heap.size w w')
include HA
set_option maxHeartbeats 4000000 in
theorem ca_a (p pk : Option Addr) (n cap m ck : Nat) (most : Int) (w : World) (h : 300 < n) : Calls Try.prog 4 #[.slice p n cap, .slice pk m ck, .int .i64 most] w fun e w' => e = .returned (.bool true) ∧ Below w.heap.size w w' := by
  have HAW := Lib.hid HA
  have hd : decide ((300 : Int) < (n : Int)) = true := decide_eq_true (by omega)
  have HB0 := Lib.hid (show Below w.heap.size w ((w.alloc (.cells #[.slice pk m ck] 23)).alloc (.cells #[.int .i64 most] 3)) from ((Below.refl _ _).alloc (Nat.le_refl _) _).alloc (by simp [World.size_alloc]) _)
  have y0 : ((w.alloc (.cells #[.slice pk m ck] 23)).alloc (.cells #[.int .i64 most] 3)).cell? ⟨w.heap.size, 0, none⟩ = some (.slice pk m ck) := by go_simp
  have hz : w.heap.size < ((w.alloc (.cells #[.slice pk m ck] 23)).alloc (.cells #[.int .i64 most] 3)).heap.size := by simp [World.size_alloc]; omega
  have HY := Lib.hid y0
  clear HA y0
  go_enter Try.func4, Try.ntmps4
  go_wp2_with fail
  refine (HAW.out _).mono ?_
  rintro e w1 ⟨rfl, hB1⟩
  have y1 : w1.cell? ⟨w.heap.size, 0, none⟩ = some (.slice pk m ck) := by rw [hB1.cell (by exact hz)]; exact HY.out
  have HB1 := Lib.hid (HB0.out.trans (hB1.mono HB0.out.size))
  clear hB1
  go_wp2_with fail
  refine (HAW.out _).mono ?_
  rintro e w2 ⟨rfl, hB2⟩
  have HB2 := Lib.hid (HB1.out.trans (hB2.mono HB1.out.size))
  clear hB2
  go_wp2
  go_ret
  exact ⟨rfl, HB2.out⟩
omit HA
include HA
set_option maxHeartbeats 4000000 in
theorem ca_b (p pk : Option Addr) (n cap m ck : Nat) (most : Int) (w : World) (h : n ≤ 300) (h2 : 60 < m) : Calls Try.prog 4 #[.slice p n cap, .slice pk m ck, .int .i64 most] w fun e w' => e = .returned (.bool true) ∧ Below w.heap.size w w' := by
  have HAW := Lib.hid HA
  have hd : decide ((300 : Int) < (n : Int)) = false := decide_eq_false (by omega)
  have hd2 : decide ((60 : Int) < (m : Int)) = true := decide_eq_true (by omega)
  have HB0 := Lib.hid (show Below w.heap.size w ((w.alloc (.cells #[.slice pk m ck] 23)).alloc (.cells #[.int .i64 most] 3)) from ((Below.refl _ _).alloc (Nat.le_refl _) _).alloc (by simp [World.size_alloc]) _)
  have y0 : ((w.alloc (.cells #[.slice pk m ck] 23)).alloc (.cells #[.int .i64 most] 3)).cell? ⟨w.heap.size, 0, none⟩ = some (.slice pk m ck) := by go_simp
  have hz : w.heap.size < ((w.alloc (.cells #[.slice pk m ck] 23)).alloc (.cells #[.int .i64 most] 3)).heap.size := by simp [World.size_alloc]; omega
  have HY := Lib.hid y0
  clear HA y0
  go_enter Try.func4, Try.ntmps4
  go_wp2_with fail
  refine (HAW.out _).mono ?_
  rintro e w1 ⟨rfl, hB1⟩
  have y1 : w1.cell? ⟨w.heap.size, 0, none⟩ = some (.slice pk m ck) := by rw [hB1.cell (by exact hz)]; exact HY.out
  have HB1 := Lib.hid (HB0.out.trans (hB1.mono HB0.out.size))
  clear hB1
  go_wp2_with fail
  refine (HAW.out _).mono ?_
  rintro e w2 ⟨rfl, hB2⟩
  have HB2 := Lib.hid (HB1.out.trans (hB2.mono HB1.out.size))
  clear hB2
  go_wp2
  go_ret
  exact ⟨rfl, HB2.out⟩
omit HA
include S HA
set_option maxRecDepth 100000 in
set_option maxHeartbeats 8000000 in
theorem ca_c (b kb : List (BitVec 8)) (p pk : Option Addr) (n cap m ck : Nat) (most : Int) (w : World) (hbl : b.length = n) (hsp : Sl w p b) (hpn : p = none → cap = 0) (hnc : n ≤ cap) (hkl : kb.length = m) (hsk : Sl w pk kb) (hn300 : n ≤ 300) (hm60 : m ≤ 60) : Calls Try.prog 4 #[.slice p n cap, .slice pk m ck, .int .i64 most] w fun e w' => e = .returned (.bool true) ∧ Below w.heap.size w w' := by
  have HAW := Lib.hid HA
  have HS := Lib.hid S
  have HBL := Lib.hid hbl
  have HPN := Lib.hid hpn
  have HKL := Lib.hid hkl
  have hd : decide ((300 : Int) < (n : Int)) = false := decide_eq_false (by omega)
  have hd2 : decide ((60 : Int) < (m : Int)) = false := decide_eq_false (by omega)
  have HB0 := Lib.hid (show Below w.heap.size w ((w.alloc (.cells #[.slice pk m ck] 23)).alloc (.cells #[.int .i64 most] 3)) from ((Below.refl _ _).alloc (Nat.le_refl _) _).alloc (by simp [World.size_alloc]) _)
  have y0 : ((w.alloc (.cells #[.slice pk m ck] 23)).alloc (.cells #[.int .i64 most] 3)).cell? ⟨w.heap.size, 0, none⟩ = some (.slice pk m ck) := by go_simp
  have z0 : ((w.alloc (.cells #[.slice pk m ck] 23)).alloc (.cells #[.int .i64 most] 3)).cell? ⟨w.heap.size + 1, 0, none⟩ = some (.int .i64 most) := by go_simp
  have hz : w.heap.size + 1 < ((w.alloc (.cells #[.slice pk m ck] 23)).alloc (.cells #[.int .i64 most] 3)).heap.size := by simp [World.size_alloc]
  have HY := Lib.hid (And.intro y0 z0)
  have HP0 := Lib.hid hsp
  have HK0 := Lib.hid hsk
  clear HA S y0 z0 hbl hsp hpn hkl hsk
  go_enter Try.func4, Try.ntmps4
  go_wp2_with fail
  refine (HAW.out _).mono ?_
  rintro e w1 ⟨rfl, hB1⟩
  have y1 : w1.cell? ⟨w.heap.size, 0, none⟩ = some (.slice pk m ck) := by rw [hB1.cell (by show w.heap.size < _; omega)]; exact HY.out.1
  have z1 : w1.cell? ⟨w.heap.size + 1, 0, none⟩ = some (.int .i64 most) := by rw [hB1.cell (by exact hz)]; exact HY.out.2
  have hBW : Below w.heap.size w w1 := HB0.out.trans (hB1.mono HB0.out.size)
  have hw1 : w.heap.size ≤ w1.heap.size := hBW.size
  have HBW := Lib.hid hBW
  have HSP := Lib.hid (HP0.out.of_below hBW)
  have HSK := Lib.hid (HK0.out.of_below hBW)
  have hU : Below w1.heap.size w1 (w1.alloc (.cells #[.slice none 0 0] 22)) := (Below.refl _ _).alloc (Nat.le_refl _) _
  have hy2 : (w1.alloc (.cells #[.slice none 0 0] 22)).cell? ⟨w.heap.size, 0, none⟩ = some (.slice pk m ck) := by rw [hU.cell (by exact World.block_lt_of_cell? w1 _ y1)]; exact y1
  have HU := Lib.hid hU
  have HKC := Lib.hid y1
  have HMC := Lib.hid z1
  have HW0 := Lib.hid (show (w1.alloc (.cells #[.slice none 0 0] 22)).cell? ⟨w1.heap.size, 0, none⟩ = some (.slice none 0 0) from World.cell?_alloc_new _ _ _ _)
  have HWF := Lib.hid (show (w1.alloc (.cells #[.slice none 0 0] 22)).frozen? ⟨w1.heap.size, 0, none⟩ = false from by go_simp)
  clear hB1 hBW hU
  go_wp2
  clear hy2
  generalize hbk : w.heap.size = bk at *
  generalize hbm : bk + 1 = bm at *
  generalize hM0 : w1.heap.size = M0 at *
  have HM0 := Lib.hid hM0
  have HBK := Lib.hid hbk
  have HBM := Lib.hid hbm
  clear hM0 hbk hbm
  go_loopw [8, 9, 35] (fun vl vc vi wr => ∃ (i : Nat) (W : List It) (l : List (BitVec 8)) (pl : Option Addr) (cl : Nat) (v : Value), i ≤ m ∧ vi = .int .i64 i ∧ vc = .int .i64 0 ∧ vl = .slice pl l.length cl ∧ AnySt most b (kb.map fun x => x.toNat % 6) i W l ∧ Sl w1 pl l ∧ (pl = none → cl = 0) ∧ l.length ≤ cl ∧ wr.cell? ⟨M0, 0, none⟩ = some v ∧ wr.frozen? ⟨M0, 0, none⟩ = false ∧ OwnI wr (M0 + 1) v (W.map It.raw) ∧ Below M0 w1 wr) (fun _ _ vi _ => m - (intOf vi).toNat)
  case atStart => exact ⟨0, [], b, p, cap, .slice none 0 0, Nat.zero_le _, rfl, rfl, by rw [HBL.out], AnySt.zero _ _ _, HSP.out, HPN.out, by rw [HBL.out]; exact hnc, HW0.out, HWF.out, OwnI.nil _ _, HU.out⟩
  case round =>
    obtain ⟨i, W, l, pl, cl, v, him, rfl, rfl, rfl, hSt, hsl, hpl, hcl, hbv, hbf, hO, hB⟩ := hrel
    have HOI := Lib.hid hO
    have HB := Lib.hid hB
    have HST := Lib.hid hSt
    have hlb : l.length ≤ 300 := Nat.le_trans hSt.short (by rw [HBL.out]; exact hn300)
    have hKL : (kb.map fun x => x.toNat % 6).length = m := by rw [List.length_map, HKL.out]
    have hM0r : M0 ≤ wr.heap.size := by have := hB.size; rw [HM0.out] at this; exact this
    generalize hll : l.length = ll at *
    have HLL := Lib.hid hll
    clear hll
    by_cases hlt : i < m
    · have hltz : (i : Int) < (m : Int) := by omega
      have hld : decide ((i : Int) < (m : Int)) = true := decide_eq_true hltz
      obtain ⟨c0, o0, rfl, hx⟩ := HSK.out i (by rw [HKL.out]; exact hlt)
      rw [B_eq'] at hx
      have hkd : (kb.map fun x => x.toNat % 6).getD i 0 = (kb.getD i 0#8).toNat % 6 := by
        simp [List.getD_eq_getElem?_getD, show i < kb.length by rw [HKL.out]; exact hlt]
      have hcl' := (kb.getD i 0#8).isLt
      obtain ⟨c, hc⟩ : ∃ c, (kb.getD i 0#8).toNat = c := ⟨_, rfl⟩
      rw [hc] at hx hkd hcl'
      obtain ⟨K, hK⟩ : ∃ K, K = c % 6 := ⟨_, rfl⟩
      rw [← hK] at hkd
      have k1 : (c : Int) % 6 = (K : Int) := by omega
      have k2 : (c : Int).tmod 6 = (K : Int) := by rw [Int.tmod_eq_emod_of_nonneg (by omega)]; exact k1
      have k3 : IntKind.u8.wrap (K : Int) = (K : Int) := by rw [IntKind.wrap_u8']; omega
      have k4 : IntKind.i64.wrap (K : Int) = (K : Int) := i64w _ (by omega) (by omega)
      have hxr : wr.cell? ⟨c0, o0 + i, none⟩ = some (.int .u8 (c : Int)) := by rw [hB.cell (by show c0 < M0; rw [← HM0.out]; exact World.block_lt_of_cell? w1 _ hx)]; exact hx
      have hmo : wr.cell? ⟨bm, 0, none⟩ = some (.int .i64 most) := by rw [hB.cell (by show bm < M0; rw [← HM0.out]; exact World.block_lt_of_cell? w1 _ HMC.out)]; exact HMC.out
      have HNX := Lib.hid (refNext_any l K most pl ll cl wr HLL.out (hsl.of_below (by rw [HM0.out]; exact hB)) hpl hcl (by omega))
      have hKlt : i < (kb.map fun x => x.toNat % 6).length := by rw [hKL]; exact hlt
      have hST1 := hSt.next hKlt
      have hSTb := hSt.bad hKlt
      rw [hkd] at hST1 hSTb
      have hus := @nextI_used l K most
      have HC1 := Lib.hid (And.intro hbv hbf)
      have HSL := Lib.hid hsl
      have HPL := Lib.hid hpl
      generalize nextI l K most = nx at *
      obtain ⟨⟨xk, xn, xb⟩, used, code⟩ := nx
      dsimp only at hST1 hSTb hus
      have HST1 := Lib.hid hST1
      have HSTb := Lib.hid hSTb
      have HUS := Lib.hid hus
      clear hSt hx hkd hc hK hST1 hSTb hKL hKlt hbv hbf hB hcl' hO hsl hpl hus
      go_wp2_with fail
      refine HNX.out.mono ?_
      rintro e w2 ⟨q, c2, rfl, hs2, hp2, hl2, hb2, hB2⟩
      dsimp only at hs2 hl2 hb2
      obtain ⟨len, hlen⟩ : ∃ len, xb.length = len := ⟨_, rfl⟩
      dsimp only
      rw [show (It.mk xk xn xb).v q c2 = .agg #[.int .i64 (xk : Int), .int .i64 (xn : Int), .slice q len c2] from by rw [← hlen]; rfl]
      have HLEN := Lib.hid hlen
      have hv2 : w2.cell? ⟨M0, 0, none⟩ = some v := by rw [hB2.cell (by exact World.block_lt_of_cell? wr _ HC1.out.1)]; exact HC1.out.1
      have hf2 : w2.frozen? ⟨M0, 0, none⟩ = false := by rw [hB2.frozen (by exact World.block_lt_of_cell? wr _ HC1.out.1)]; exact HC1.out.2
      have HO2 := Lib.hid (HOI.out.of_below hB2)
      have HBB := Lib.hid (HB.out.trans (hB2.mono hM0r))
      have HBT := Lib.hid (show Bt w2 (It.mk xk xn xb).raw q c2 from ⟨hs2, hp2, hl2⟩)
      have HQB := Lib.hid hb2
      have hMw : M0 < wr.heap.size := World.block_lt_of_cell? wr _ HC1.out.1
      have hlw : wr.heap.size ≤ w2.heap.size := hB2.size
      clear hs2 hp2 hl2 hb2 hB2 HNX hlen k1 k2 k3 k4 hxr hmo
      by_cases hcd : code = 0
      · subst hcd
        have hcz : ((0 : Int) != 0) = false := by decide
        have hul := HUS.out rfl
        rw [HLL.out] at hul
        have hW60 : (W.map It.raw).length < 1000000 := by rw [List.length_map, HST.out.len]; omega
        have hU3 : Below w2.heap.size w2 ((w2.alloc (.cells #[.int .i64 (xk : Int), .int .i64 (xn : Int), .slice q len c2] 29)).alloc (.cells #[.int .i64 (xk : Int), .int .i64 (xn : Int), .slice q len c2] 29)) := ((Below.refl _ _).alloc (Nat.le_refl _) _).alloc (by simp [World.size_alloc]) _
        have f0 : ((w2.alloc (.cells #[.int .i64 (xk : Int), .int .i64 (xn : Int), .slice q len c2] 29)).alloc (.cells #[.int .i64 (xk : Int), .int .i64 (xn : Int), .slice q len c2] 29)).cell? ⟨w2.heap.size + 1, 0, none⟩ = some (.int .i64 (xk : Int)) := by go_simp
        have f1 : ((w2.alloc (.cells #[.int .i64 (xk : Int), .int .i64 (xn : Int), .slice q len c2] 29)).alloc (.cells #[.int .i64 (xk : Int), .int .i64 (xn : Int), .slice q len c2] 29)).cell? ⟨w2.heap.size + 1, 1, none⟩ = some (.int .i64 (xn : Int)) := by go_simp
        have f2 : ((w2.alloc (.cells #[.int .i64 (xk : Int), .int .i64 (xn : Int), .slice q len c2] 29)).alloc (.cells #[.int .i64 (xk : Int), .int .i64 (xn : Int), .slice q len c2] 29)).cell? ⟨w2.heap.size + 1, 2, none⟩ = some (.slice q xb.length c2) := by rw [HLEN.out]; go_simp
        have HU3 := Lib.hid hU3
        have F := Lib.hid (And.intro f0 (And.intro f1 f2))
        have HNE := Lib.hid (show 0 < (It.mk xk xn xb).raw.b.length → ∀ d o, q = some ⟨d, o, none⟩ → M0 + 1 ≤ d ∧ v.ownBlock ≠ some d from fun _ d o e => by
          have h1 := HQB.out d (by rw [e]; rfl)
          refine ⟨by omega, fun he => ?_⟩
          have h2 := (HOI.out.lt d he).2
          omega)
        have hb3 : M0 + 1 ≤ ((w2.alloc (.cells #[.int .i64 (xk : Int), .int .i64 (xn : Int), .slice q len c2] 29)).alloc (.cells #[.int .i64 (xk : Int), .int .i64 (xn : Int), .slice q len c2] 29)).heap.size := by simp [World.size_alloc]; omega
        have HBU := Lib.hid (HBB.out.trans (hU3.mono (by omega)))
        have HC3 := Lib.hid (show ∀ w4, World.grownBy ((w2.alloc (.cells #[.int .i64 (xk : Int), .int .i64 (xn : Int), .slice q len c2] 29)).alloc (.cells #[.int .i64 (xk : Int), .int .i64 (xn : Int), .slice q len c2] 29)) w4 v.ownBlock → w4.cell? ⟨M0, 0, none⟩ = some v ∧ w4.frozen? ⟨M0, 0, none⟩ = false ∧ Below M0 w1 w4 from fun w4 hg => by
          have hne : some M0 ≠ v.ownBlock := fun e => by have := (HO2.out.lt M0 e.symm).1; omega
          have hM2 : M0 < w2.heap.size := by omega
          refine ⟨hg.cell (by rw [hU3.cell (by exact hM2)]; exact hv2) hne, ?_, HBU.out.grown hg (by omega) (fun k hk => by have := (HO2.out.lt k hk).1; omega)⟩
          rw [hg.frozen_far _ (by show M0 < _; omega) hne, hU3.frozen (by exact hM2)]
          exact hf2)
        have hv3 : (w2.alloc (.cells #[.int .i64 (xk : Int), .int .i64 (xn : Int), .slice q len c2] 29)).cell? ⟨M0, 0, none⟩ = some v := by rw [((Below.refl w2.heap.size w2).alloc (Nat.le_refl _) _).cell (by exact World.block_lt_of_cell? w2 _ hv2)]; exact hv2
        clear f0 f1 f2 hU3 hf2
        go_wp2_with (first | (refine wpl_appendI _ rfl (.tmp 52) (.tmp 54) rfl (M0 + 1) v (W.map It.raw) rfl (HO2.out.of_below HU3.out) (w2.heap.size + 1) (It.mk xk xn xb).raw q c2 1 rfl F.out.1 F.out.2.1 F.out.2.2 (HBT.out.of_below HU3.out) HNE.out hW60 hb3 ?_; rintro v4 w4 hO4 hg4; obtain ⟨v0, vf, hB4⟩ := HC3.out w4 hg4; obtain ⟨p4, c4, hve4, -, -, -⟩ := hO4.shape; subst hve4; have HO4 := Lib.hid hO4; have HB4 := Lib.hid hB4; have HVF := Lib.hid (And.intro v0 vf); clear hO4 hg4 hB4))
        have hMM : M0 < M0 + 1 := Nat.lt_succ_self _
        exact ⟨⟨i + 1, W ++ [⟨xk, xn, xb⟩], l.drop used, cutA pl cl used, cl - used, _, by omega, by go_num, rfl, by rw [List.length_drop, HLL.out], HST1.out rfl, HSL.out.drop (by rw [HLL.out]; exact hcl) used, fun e => cutA_none HPL.out e, by rw [List.length_drop, HLL.out]; omega, World.cell?_setCell_same _ _ _ HVF.out.1, by rw [World.frozen?_setCell]; exact HVF.out.2, by have h := HO4.out.far hMM 0 (Value.slice p4 (W.length + 1) c4); simpa using h, HB4.out.setCell (show M0 ≤ (⟨M0, 0, none⟩ : Addr).block from Nat.le_refl M0) _⟩, by simp [intOf]; omega⟩
      · have hcz : ((code : Int) != 0) = true := by simp; omega
        have hcy : ((code : Int) == 0) = false := by simp; omega
        have HANY := Lib.hid (HSTb.out hcd)
        obtain ⟨R, hRe⟩ : ∃ R, l = R := ⟨_, rfl⟩
        rw [hRe] at HANY
        obtain ⟨C, hCe⟩ : ∃ C, code = C := ⟨_, rfl⟩
        have HCF := Lib.hid (show finC (W, R, C) = code from by unfold finC; rw [if_neg (by rw [← hCe]; exact hcd)]; exact hCe.symm)
        rw [hCe] at HANY
        clear hCe hRe
        have hUQ : Below w2.heap.size w2 (w2.alloc (.cells #[.int .i64 (xk : Int), .int .i64 (xn : Int), .slice q len c2] 29)) := (Below.refl _ _).alloc (Nat.le_refl _) _
        have hbv := (show (w2.alloc (.cells #[.int .i64 (xk : Int), .int .i64 (xn : Int), .slice q len c2] 29)).cell? ⟨M0, 0, none⟩ = some v from by rw [hUQ.cell (by exact World.block_lt_of_cell? w2 _ hv2)]; exact hv2)
        have hbf := hf2
        have HB := Lib.hid (HBB.out.trans (hUQ.mono (by omega)))
        have HOI := Lib.hid (HO2.out.of_below hUQ)
        have hM0r : M0 ≤ w2.heap.size + 1 := by omega
        clear hUQ hv2 hf2 HO2 HBB
        obtain ⟨pw, cw, hve, hIw, -, -⟩ := HOI.out.shape
        rw [List.length_map] at hve
        have HVE := Lib.hid hve
        have HIW := Lib.hid hIw
        have HEB := Lib.hid (show Below (w2.heap.size + 1) (w2.alloc (.cells #[.int .i64 (xk : Int), .int .i64 (xn : Int), .slice q len c2] 29)) ((w2.alloc (.cells #[.int .i64 (xk : Int), .int .i64 (xn : Int), .slice q len c2] 29)).alloc (.cells #[] 5)) from (Below.refl _ _).alloc (by simp [World.size_alloc]) _)
        have HOB := Lib.hid (show OwnB ((w2.alloc (.cells #[.int .i64 (xk : Int), .int .i64 (xn : Int), .slice q len c2] 29)).alloc (.cells #[] 5)) (w2.heap.size + 1) (.slice (some ⟨w2.heap.size + 1, 0, none⟩) 0 0) [] from by have := OwnB.empty (w2.alloc (.cells #[.int .i64 (xk : Int), .int .i64 (xn : Int), .slice q len c2] 29)) (w2.heap.size + 1) (by simp [World.size_alloc]); simpa [World.size_alloc] using this)
        have HSB := Lib.hid (show Sl ((w2.alloc (.cells #[.int .i64 (xk : Int), .int .i64 (xn : Int), .slice q len c2] 29)).alloc (.cells #[] 5)) p b from HSP.out.of_below (by rw [HM0.out]; exact HB.out.trans (HEB.out.mono hM0r)))
        have HCW := Lib.hid hbv
        have hbv2 : w2.heap.size + 1 ≤ ((w2.alloc (.cells #[.int .i64 (xk : Int), .int .i64 (xn : Int), .slice q len c2] 29)).alloc (.cells #[] 5)).heap.size := by simp [World.size_alloc]; try omega
        clear hve hIw hbv hbf
        go_wp2_with (first | (refine wpl_append _ rfl (.tmp 67) (.tmp 68) rfl (w2.heap.size + 1) (.slice (some ⟨w2.heap.size + 1, 0, none⟩) 0 0) [] rfl HOB.out p n cap b HBL.out rfl HSB.out HPN.out (by simp; omega) hbv2 ?_; rintro v5 w5 hO5 hg5; rw [List.nil_append] at hO5; have HG5 := Lib.hid (HEB.out.grown hg5 hbv2 (fun k hk => Nat.le_of_eq (by simpa [Value.ownBlock] using hk))); obtain ⟨po, co, rfl, hSo, hPo, hCo⟩ := hO5.shape; rw [HBL.out] at hCo ⊢; rw [HBL.out] at hO5; have HSO := Lib.hid hSo; have HPO := Lib.hid hPo; have HOO := Lib.hid hO5; clear hO5 hg5 hSo hPo))
        clear hbv2
        have hB5 : Below M0 w1 w5 := HB.out.trans (HG5.out.mono hM0r)
        have HB5 := Lib.hid hB5
        have hV : Below w5.heap.size w5 ((w5.alloc (.cells #[.int .i64 0] 3)).alloc (.cells #[.bool true] 4)) := ((Below.refl _ _).alloc (Nat.le_refl _) _).alloc (by simp [World.size_alloc]) _
        have hVz : ((w5.alloc (.cells #[.int .i64 0] 3)).alloc (.cells #[.bool true] 4)).heap.size = w5.heap.size + 1 + 1 := by simp [World.size_alloc]
        have v0 : ((w5.alloc (.cells #[.int .i64 0] 3)).alloc (.cells #[.bool true] 4)).cell? ⟨w5.heap.size, 0, none⟩ = some (.int .i64 0) := by go_simp
        have v1 : ((w5.alloc (.cells #[.int .i64 0] 3)).alloc (.cells #[.bool true] 4)).frozen? ⟨w5.heap.size, 0, none⟩ = false := by go_simp
        have v2 : ((w5.alloc (.cells #[.int .i64 0] 3)).alloc (.cells #[.bool true] 4)).cell? ⟨w5.heap.size + 1, 0, none⟩ = some (.bool true) := by go_simp
        have v3 : ((w5.alloc (.cells #[.int .i64 0] 3)).alloc (.cells #[.bool true] 4)).frozen? ⟨w5.heap.size + 1, 0, none⟩ = false := by go_simp
        have HCB := Lib.hid (And.intro hV (And.intro hVz (And.intro v0 (And.intro v1 (And.intro v2 v3)))))
        clear v0 v1 v2 v3 hV hVz hB5
        have HREAD : Calls Try.prog 13 #[.slice po n co, .func (.func 19) #[] #[.pointer (some ⟨bk, 0, none⟩), .pointer (some ⟨bm, 0, none⟩), .pointer (some ⟨w5.heap.size + 1, 0, none⟩), .pointer (some ⟨w5.heap.size, 0, none⟩), .pointer (some ⟨M0, 0, none⟩)]] ((w5.alloc (.cells #[.int .i64 0] 3)).alloc (.cells #[.bool true] 4)) fun e w' => e = .returned (.int .i64 (code : Int)) ∧ w'.cell? ⟨w5.heap.size, 0, none⟩ = some (.int .i64 (W.length : Int)) ∧ w'.cell? ⟨w5.heap.size + 1, 0, none⟩ = some (.bool true) ∧ Below w5.heap.size ((w5.alloc (.cells #[.int .i64 0] 3)).alloc (.cells #[.bool true] 4)) w' := by
          generalize ((w5.alloc (.cells #[.int .i64 0] 3)).alloc (.cells #[.bool true] 4)) = V at *
          obtain ⟨hV, hVz, v0, v1, v2, v3⟩ := HCB.out
          have hg0 := HG5.out
          have hk0 : ∀ k v, (w2.alloc (.cells #[.int .i64 (xk : Int), .int .i64 (xn : Int), .slice q len c2] 29)).cell? ⟨k, 0, none⟩ = some v → w5.cell? ⟨k, 0, none⟩ = some v := fun k v h => by rw [hg0.cell (by have := World.block_lt_of_cell? (w2.alloc (.cells #[.int .i64 (xk : Int), .int .i64 (xn : Int), .slice q len c2] 29)) _ h; simpa [World.size_alloc] using this)]; exact h
          have hk1 : ∀ k v, w1.cell? ⟨k, 0, none⟩ = some v → (w2.alloc (.cells #[.int .i64 (xk : Int), .int .i64 (xn : Int), .slice q len c2] 29)).cell? ⟨k, 0, none⟩ = some v := fun k v h => by rw [HB.out.cell (by show k < M0; rw [← HM0.out]; exact World.block_lt_of_cell? w1 _ h)]; exact h
          have hpo : ∀ c o, po = some ⟨c, o, none⟩ → c < w5.heap.size := fun c o e => (HOO.out.lt c (by rw [e]; rfl)).2
          have h := HS.out.read b po n co 19 #[.pointer (some ⟨bk, 0, none⟩), .pointer (some ⟨bm, 0, none⟩), .pointer (some ⟨w5.heap.size + 1, 0, none⟩), .pointer (some ⟨w5.heap.size, 0, none⟩), .pointer (some ⟨M0, 0, none⟩)] V (fun c w' => c = code ∧ w'.cell? ⟨w5.heap.size, 0, none⟩ = some (.int .i64 (W.length : Int)) ∧ w'.cell? ⟨w5.heap.size + 1, 0, none⟩ = some (.bool true) ∧ Below w5.heap.size V w')
            HBL.out (HSO.out.of_below hV) HPO.out hCo (by omega) enters_anys
            (fun c x y ⟨h1, h2, h3, h4⟩ k => ⟨h1, by rw [k.cell (by show w5.heap.size < V.heap.size; omega)]; exact h2, by rw [k.cell (by show w5.heap.size + 1 < V.heap.size; omega)]; exact h3, h4.trans (k.mono (by omega))⟩)
            (fun a u hb hr => (anys_in HS.out w5 V W pw _ po cw ck m W.length w5.heap.size bk bm M0 most kb b R C a u rfl hV (by omega) (hk0 _ _ (hk1 _ _ HKC.out)) HKL.out (HSK.out.of_below (by rw [HM0.out]; exact HB5.out)) (hk0 _ _ (hk1 _ _ HMC.out)) (hk0 _ _ (by rw [HCW.out, HVE.out])) rfl (HIW.out.of_below (by simpa [World.size_alloc] using hg0)) v0 v1 v2 v3 hb hr (fun c o e => .inl (hpo c o e)) HANY.out hm60 (by rw [HBL.out]; exact hn300)).mono fun e w' ⟨h1, h2, h3, h4, hlo⟩ => ⟨hlo, by
              rcases h1 with ⟨h5, h6⟩ | ⟨h5, h6, h7⟩
              · exact .inr ⟨C, h6, by have hf := HCF.out; unfold finC at hf; rw [if_neg h5] at hf; exact hf, h2, h3, h4⟩
              · exact .inl ⟨R, h6, h7, by have hf := HCF.out; unfold finC at hf; rw [if_pos h5] at hf; exact hf, h2, h3, h4⟩⟩)
          exact h.mono fun e w' ⟨c, h1, h2, h3⟩ => ⟨by (rw [h1, h2]; try rfl), h3⟩
        have HREAD := Lib.hid HREAD
        go_wp2_with fail
        refine HREAD.out.mono ?_
        rintro e w8 ⟨rfl, n8, o8, hB8⟩
        have hB58 : Below w5.heap.size w5 w8 := HCB.out.1.trans hB8
        have b8 : w8.cell? ⟨M0, 0, none⟩ = some (.slice pw W.length cw) := by
          have h1 : w5.cell? ⟨M0, 0, none⟩ = some (.slice pw W.length cw) := by rw [HG5.out.cell (by have := World.block_lt_of_cell? (w2.alloc (.cells #[.int .i64 (xk : Int), .int .i64 (xn : Int), .slice q len c2] 29)) _ HCW.out; simpa [World.size_alloc] using this), HCW.out, HVE.out]
          rw [hB58.cell (by exact World.block_lt_of_cell? w5 _ h1)]; exact h1
        have c1 := conv_str w8 po b n co (HSO.out.of_below hB58) HBL.out HPO.out
        have c2 := conv_str w8 p b n cap ((HSP.out.of_below (by rw [HM0.out]; exact HB5.out)).of_below hB58) HBL.out HPN.out
        have HB8 := Lib.hid (HBW.out.trans ((HB5.out.trans (hB58.mono (by have := HB5.out.size; rw [HM0.out] at this; exact this))).mono hw1))
        have q1 : ((code : Int) == (code : Int)) = true := by simp
        have q2 : ((W.length : Int) == (W.length : Int)) = true := by simp
        have q3 : ((strOf b).toList == (strOf b).toList) = true := by simp
        clear hB58 hB8 HREAD
        generalize strOf b = sb at *
        go_wp2
        go_ret
        exact ⟨rfl, by rw [HBK.out]; exact HB8.out⟩
    · have hltz : ¬ (i : Int) < (m : Int) := by omega
      have hld : decide ((i : Int) < (m : Int)) = false := decide_eq_false hltz
      obtain rfl : m = i := by omega
      have HANY := Lib.hid (hSt.done (by rw [hKL]; exact Nat.le_refl _))
      obtain ⟨R, hRe⟩ : ∃ R, l = R := ⟨_, rfl⟩
      obtain ⟨C, hCe⟩ : ∃ C, 0 = C := ⟨_, rfl⟩
      have hnil : R = [] ↔ ll = 0 := by rw [← hRe]; constructor; (intro h; have := HLL.out; rw [h] at this; exact this.symm); (intro h; exact List.eq_nil_of_length_eq_zero (by rw [HLL.out]; exact h))
      rw [hRe, hCe] at HANY
      have HFC := Lib.hid (show finC (W, R, C) = if ll = 0 then 0 else 6 from by
        unfold finC
        rw [if_pos hCe.symm]
        by_cases h : ll = 0
        · rw [if_pos (hnil.2 h), if_pos h]
        · rw [if_neg (fun e => h (hnil.1 e)), if_neg h])
      clear hCe hRe hnil hSt hsl hpl hB hO HST
      by_cases hl0 : ll = 0
      · subst hl0
        have HCF := Lib.hid (show finC (W, R, C) = 0 from HFC.out)
        clear HFC

        obtain ⟨pw, cw, hve, hIw, -, -⟩ := HOI.out.shape
        rw [List.length_map] at hve
        have HVE := Lib.hid hve
        have HIW := Lib.hid hIw
        have HEB := Lib.hid (show Below (wr.heap.size) wr (wr.alloc (.cells #[] 5)) from (Below.refl _ _).alloc (by simp [World.size_alloc]) _)
        have HOB := Lib.hid (show OwnB (wr.alloc (.cells #[] 5)) (wr.heap.size) (.slice (some ⟨wr.heap.size, 0, none⟩) 0 0) [] from by have := OwnB.empty wr (wr.heap.size) (by simp [World.size_alloc]); simpa [World.size_alloc] using this)
        have HSB := Lib.hid (show Sl (wr.alloc (.cells #[] 5)) p b from HSP.out.of_below (by rw [HM0.out]; exact HB.out.trans (HEB.out.mono hM0r)))
        have HCW := Lib.hid hbv
        have hbv2 : wr.heap.size ≤ (wr.alloc (.cells #[] 5)).heap.size := by simp [World.size_alloc]; try omega
        clear hve hIw hbv hbf
        go_wp2_with (first | (refine wpl_append _ rfl (.tmp 67) (.tmp 68) rfl (wr.heap.size) (.slice (some ⟨wr.heap.size, 0, none⟩) 0 0) [] rfl HOB.out p n cap b HBL.out rfl HSB.out HPN.out (by simp; omega) hbv2 ?_; rintro v5 w5 hO5 hg5; rw [List.nil_append] at hO5; have HG5 := Lib.hid (HEB.out.grown hg5 hbv2 (fun k hk => Nat.le_of_eq (by simpa [Value.ownBlock] using hk))); obtain ⟨po, co, rfl, hSo, hPo, hCo⟩ := hO5.shape; rw [HBL.out] at hCo ⊢; rw [HBL.out] at hO5; have HSO := Lib.hid hSo; have HPO := Lib.hid hPo; have HOO := Lib.hid hO5; clear hO5 hg5 hSo hPo))
        clear hbv2
        have hB5 : Below M0 w1 w5 := HB.out.trans (HG5.out.mono hM0r)
        have HB5 := Lib.hid hB5
        have hV : Below w5.heap.size w5 ((w5.alloc (.cells #[.int .i64 0] 3)).alloc (.cells #[.bool true] 4)) := ((Below.refl _ _).alloc (Nat.le_refl _) _).alloc (by simp [World.size_alloc]) _
        have hVz : ((w5.alloc (.cells #[.int .i64 0] 3)).alloc (.cells #[.bool true] 4)).heap.size = w5.heap.size + 1 + 1 := by simp [World.size_alloc]
        have v0 : ((w5.alloc (.cells #[.int .i64 0] 3)).alloc (.cells #[.bool true] 4)).cell? ⟨w5.heap.size, 0, none⟩ = some (.int .i64 0) := by go_simp
        have v1 : ((w5.alloc (.cells #[.int .i64 0] 3)).alloc (.cells #[.bool true] 4)).frozen? ⟨w5.heap.size, 0, none⟩ = false := by go_simp
        have v2 : ((w5.alloc (.cells #[.int .i64 0] 3)).alloc (.cells #[.bool true] 4)).cell? ⟨w5.heap.size + 1, 0, none⟩ = some (.bool true) := by go_simp
        have v3 : ((w5.alloc (.cells #[.int .i64 0] 3)).alloc (.cells #[.bool true] 4)).frozen? ⟨w5.heap.size + 1, 0, none⟩ = false := by go_simp
        have HCB := Lib.hid (And.intro hV (And.intro hVz (And.intro v0 (And.intro v1 (And.intro v2 v3)))))
        clear v0 v1 v2 v3 hV hVz hB5
        have HREAD : Calls Try.prog 13 #[.slice po n co, .func (.func 19) #[] #[.pointer (some ⟨bk, 0, none⟩), .pointer (some ⟨bm, 0, none⟩), .pointer (some ⟨w5.heap.size + 1, 0, none⟩), .pointer (some ⟨w5.heap.size, 0, none⟩), .pointer (some ⟨M0, 0, none⟩)]] ((w5.alloc (.cells #[.int .i64 0] 3)).alloc (.cells #[.bool true] 4)) fun e w' => e = .returned (.int .i64 (0 : Int)) ∧ w'.cell? ⟨w5.heap.size, 0, none⟩ = some (.int .i64 (W.length : Int)) ∧ w'.cell? ⟨w5.heap.size + 1, 0, none⟩ = some (.bool true) ∧ Below w5.heap.size ((w5.alloc (.cells #[.int .i64 0] 3)).alloc (.cells #[.bool true] 4)) w' := by
          generalize ((w5.alloc (.cells #[.int .i64 0] 3)).alloc (.cells #[.bool true] 4)) = V at *
          obtain ⟨hV, hVz, v0, v1, v2, v3⟩ := HCB.out
          have hg0 := HG5.out
          have hk0 : ∀ k v, wr.cell? ⟨k, 0, none⟩ = some v → w5.cell? ⟨k, 0, none⟩ = some v := fun k v h => by rw [hg0.cell (by have := World.block_lt_of_cell? wr _ h; simpa [World.size_alloc] using this)]; exact h
          have hk1 : ∀ k v, w1.cell? ⟨k, 0, none⟩ = some v → wr.cell? ⟨k, 0, none⟩ = some v := fun k v h => by rw [HB.out.cell (by show k < M0; rw [← HM0.out]; exact World.block_lt_of_cell? w1 _ h)]; exact h
          have hpo : ∀ c o, po = some ⟨c, o, none⟩ → c < w5.heap.size := fun c o e => (HOO.out.lt c (by rw [e]; rfl)).2
          have h := HS.out.read b po n co 19 #[.pointer (some ⟨bk, 0, none⟩), .pointer (some ⟨bm, 0, none⟩), .pointer (some ⟨w5.heap.size + 1, 0, none⟩), .pointer (some ⟨w5.heap.size, 0, none⟩), .pointer (some ⟨M0, 0, none⟩)] V (fun c w' => c = 0 ∧ w'.cell? ⟨w5.heap.size, 0, none⟩ = some (.int .i64 (W.length : Int)) ∧ w'.cell? ⟨w5.heap.size + 1, 0, none⟩ = some (.bool true) ∧ Below w5.heap.size V w')
            HBL.out (HSO.out.of_below hV) HPO.out hCo (by omega) enters_anys
            (fun c x y ⟨h1, h2, h3, h4⟩ k => ⟨h1, by rw [k.cell (by show w5.heap.size < V.heap.size; omega)]; exact h2, by rw [k.cell (by show w5.heap.size + 1 < V.heap.size; omega)]; exact h3, h4.trans (k.mono (by omega))⟩)
            (fun a u hb hr => (anys_in HS.out w5 V W pw _ po cw ck m W.length w5.heap.size bk bm M0 most kb b R C a u rfl hV (by omega) (hk0 _ _ (hk1 _ _ HKC.out)) HKL.out (HSK.out.of_below (by rw [HM0.out]; exact HB5.out)) (hk0 _ _ (hk1 _ _ HMC.out)) (hk0 _ _ (by rw [HCW.out, HVE.out])) rfl (HIW.out.of_below (by simpa [World.size_alloc] using hg0)) v0 v1 v2 v3 hb hr (fun c o e => .inl (hpo c o e)) HANY.out hm60 (by rw [HBL.out]; exact hn300)).mono fun e w' ⟨h1, h2, h3, h4, hlo⟩ => ⟨hlo, by
              rcases h1 with ⟨h5, h6⟩ | ⟨h5, h6, h7⟩
              · exact .inr ⟨C, h6, by have hf := HCF.out; unfold finC at hf; rw [if_neg h5] at hf; exact hf, h2, h3, h4⟩
              · exact .inl ⟨R, h6, h7, by have hf := HCF.out; unfold finC at hf; rw [if_pos h5] at hf; exact hf, h2, h3, h4⟩⟩)
          exact h.mono fun e w' ⟨c, h1, h2, h3⟩ => ⟨by (rw [h1, h2]; try rfl), h3⟩
        have HREAD := Lib.hid HREAD
        go_wp2_with fail
        refine HREAD.out.mono ?_
        rintro e w8 ⟨rfl, n8, o8, hB8⟩
        have hB58 : Below w5.heap.size w5 w8 := HCB.out.1.trans hB8
        have b8 : w8.cell? ⟨M0, 0, none⟩ = some (.slice pw W.length cw) := by
          have h1 : w5.cell? ⟨M0, 0, none⟩ = some (.slice pw W.length cw) := by rw [HG5.out.cell (by have := World.block_lt_of_cell? wr _ HCW.out; simpa [World.size_alloc] using this), HCW.out, HVE.out]
          rw [hB58.cell (by exact World.block_lt_of_cell? w5 _ h1)]; exact h1
        have c1 := conv_str w8 po b n co (HSO.out.of_below hB58) HBL.out HPO.out
        have c2 := conv_str w8 p b n cap ((HSP.out.of_below (by rw [HM0.out]; exact HB5.out)).of_below hB58) HBL.out HPN.out
        have HB8 := Lib.hid (HBW.out.trans ((HB5.out.trans (hB58.mono (by have := HB5.out.size; rw [HM0.out] at this; exact this))).mono hw1))
        have q1 : ((0 : Int) == (0 : Int)) = true := by simp
        have q2 : ((W.length : Int) == (W.length : Int)) = true := by simp
        have q3 : ((strOf b).toList == (strOf b).toList) = true := by simp
        clear hB58 hB8 HREAD
        generalize strOf b = sb at *
        go_wp2
        go_ret
        exact ⟨rfl, by rw [HBK.out]; exact HB8.out⟩
      · have HCF := Lib.hid (show finC (W, R, C) = 6 from by rw [HFC.out, if_neg hl0])
        have hg : decide ((0 : Int) < (ll : Int)) = true := decide_eq_true (by omega)
        clear HFC

        obtain ⟨pw, cw, hve, hIw, -, -⟩ := HOI.out.shape
        rw [List.length_map] at hve
        have HVE := Lib.hid hve
        have HIW := Lib.hid hIw
        have HEB := Lib.hid (show Below (wr.heap.size) wr (wr.alloc (.cells #[] 5)) from (Below.refl _ _).alloc (by simp [World.size_alloc]) _)
        have HOB := Lib.hid (show OwnB (wr.alloc (.cells #[] 5)) (wr.heap.size) (.slice (some ⟨wr.heap.size, 0, none⟩) 0 0) [] from by have := OwnB.empty wr (wr.heap.size) (by simp [World.size_alloc]); simpa [World.size_alloc] using this)
        have HSB := Lib.hid (show Sl (wr.alloc (.cells #[] 5)) p b from HSP.out.of_below (by rw [HM0.out]; exact HB.out.trans (HEB.out.mono hM0r)))
        have HCW := Lib.hid hbv
        have hbv2 : wr.heap.size ≤ (wr.alloc (.cells #[] 5)).heap.size := by simp [World.size_alloc]; try omega
        clear hve hIw hbv hbf
        go_wp2_with (first | (refine wpl_append _ rfl (.tmp 67) (.tmp 68) rfl (wr.heap.size) (.slice (some ⟨wr.heap.size, 0, none⟩) 0 0) [] rfl HOB.out p n cap b HBL.out rfl HSB.out HPN.out (by simp; omega) hbv2 ?_; rintro v5 w5 hO5 hg5; rw [List.nil_append] at hO5; have HG5 := Lib.hid (HEB.out.grown hg5 hbv2 (fun k hk => Nat.le_of_eq (by simpa [Value.ownBlock] using hk))); obtain ⟨po, co, rfl, hSo, hPo, hCo⟩ := hO5.shape; rw [HBL.out] at hCo ⊢; rw [HBL.out] at hO5; have HSO := Lib.hid hSo; have HPO := Lib.hid hPo; have HOO := Lib.hid hO5; clear hO5 hg5 hSo hPo))
        clear hbv2
        have hB5 : Below M0 w1 w5 := HB.out.trans (HG5.out.mono hM0r)
        have HB5 := Lib.hid hB5
        have hV : Below w5.heap.size w5 ((w5.alloc (.cells #[.int .i64 0] 3)).alloc (.cells #[.bool true] 4)) := ((Below.refl _ _).alloc (Nat.le_refl _) _).alloc (by simp [World.size_alloc]) _
        have hVz : ((w5.alloc (.cells #[.int .i64 0] 3)).alloc (.cells #[.bool true] 4)).heap.size = w5.heap.size + 1 + 1 := by simp [World.size_alloc]
        have v0 : ((w5.alloc (.cells #[.int .i64 0] 3)).alloc (.cells #[.bool true] 4)).cell? ⟨w5.heap.size, 0, none⟩ = some (.int .i64 0) := by go_simp
        have v1 : ((w5.alloc (.cells #[.int .i64 0] 3)).alloc (.cells #[.bool true] 4)).frozen? ⟨w5.heap.size, 0, none⟩ = false := by go_simp
        have v2 : ((w5.alloc (.cells #[.int .i64 0] 3)).alloc (.cells #[.bool true] 4)).cell? ⟨w5.heap.size + 1, 0, none⟩ = some (.bool true) := by go_simp
        have v3 : ((w5.alloc (.cells #[.int .i64 0] 3)).alloc (.cells #[.bool true] 4)).frozen? ⟨w5.heap.size + 1, 0, none⟩ = false := by go_simp
        have HCB := Lib.hid (And.intro hV (And.intro hVz (And.intro v0 (And.intro v1 (And.intro v2 v3)))))
        clear v0 v1 v2 v3 hV hVz hB5
        have HREAD : Calls Try.prog 13 #[.slice po n co, .func (.func 19) #[] #[.pointer (some ⟨bk, 0, none⟩), .pointer (some ⟨bm, 0, none⟩), .pointer (some ⟨w5.heap.size + 1, 0, none⟩), .pointer (some ⟨w5.heap.size, 0, none⟩), .pointer (some ⟨M0, 0, none⟩)]] ((w5.alloc (.cells #[.int .i64 0] 3)).alloc (.cells #[.bool true] 4)) fun e w' => e = .returned (.int .i64 (6 : Int)) ∧ w'.cell? ⟨w5.heap.size, 0, none⟩ = some (.int .i64 (W.length : Int)) ∧ w'.cell? ⟨w5.heap.size + 1, 0, none⟩ = some (.bool true) ∧ Below w5.heap.size ((w5.alloc (.cells #[.int .i64 0] 3)).alloc (.cells #[.bool true] 4)) w' := by
          generalize ((w5.alloc (.cells #[.int .i64 0] 3)).alloc (.cells #[.bool true] 4)) = V at *
          obtain ⟨hV, hVz, v0, v1, v2, v3⟩ := HCB.out
          have hg0 := HG5.out
          have hk0 : ∀ k v, wr.cell? ⟨k, 0, none⟩ = some v → w5.cell? ⟨k, 0, none⟩ = some v := fun k v h => by rw [hg0.cell (by have := World.block_lt_of_cell? wr _ h; simpa [World.size_alloc] using this)]; exact h
          have hk1 : ∀ k v, w1.cell? ⟨k, 0, none⟩ = some v → wr.cell? ⟨k, 0, none⟩ = some v := fun k v h => by rw [HB.out.cell (by show k < M0; rw [← HM0.out]; exact World.block_lt_of_cell? w1 _ h)]; exact h
          have hpo : ∀ c o, po = some ⟨c, o, none⟩ → c < w5.heap.size := fun c o e => (HOO.out.lt c (by rw [e]; rfl)).2
          have h := HS.out.read b po n co 19 #[.pointer (some ⟨bk, 0, none⟩), .pointer (some ⟨bm, 0, none⟩), .pointer (some ⟨w5.heap.size + 1, 0, none⟩), .pointer (some ⟨w5.heap.size, 0, none⟩), .pointer (some ⟨M0, 0, none⟩)] V (fun c w' => c = 6 ∧ w'.cell? ⟨w5.heap.size, 0, none⟩ = some (.int .i64 (W.length : Int)) ∧ w'.cell? ⟨w5.heap.size + 1, 0, none⟩ = some (.bool true) ∧ Below w5.heap.size V w')
            HBL.out (HSO.out.of_below hV) HPO.out hCo (by omega) enters_anys
            (fun c x y ⟨h1, h2, h3, h4⟩ k => ⟨h1, by rw [k.cell (by show w5.heap.size < V.heap.size; omega)]; exact h2, by rw [k.cell (by show w5.heap.size + 1 < V.heap.size; omega)]; exact h3, h4.trans (k.mono (by omega))⟩)
            (fun a u hb hr => (anys_in HS.out w5 V W pw _ po cw ck m W.length w5.heap.size bk bm M0 most kb b R C a u rfl hV (by omega) (hk0 _ _ (hk1 _ _ HKC.out)) HKL.out (HSK.out.of_below (by rw [HM0.out]; exact HB5.out)) (hk0 _ _ (hk1 _ _ HMC.out)) (hk0 _ _ (by rw [HCW.out, HVE.out])) rfl (HIW.out.of_below (by simpa [World.size_alloc] using hg0)) v0 v1 v2 v3 hb hr (fun c o e => .inl (hpo c o e)) HANY.out hm60 (by rw [HBL.out]; exact hn300)).mono fun e w' ⟨h1, h2, h3, h4, hlo⟩ => ⟨hlo, by
              rcases h1 with ⟨h5, h6⟩ | ⟨h5, h6, h7⟩
              · exact .inr ⟨C, h6, by have hf := HCF.out; unfold finC at hf; rw [if_neg h5] at hf; exact hf, h2, h3, h4⟩
              · exact .inl ⟨R, h6, h7, by have hf := HCF.out; unfold finC at hf; rw [if_pos h5] at hf; exact hf, h2, h3, h4⟩⟩)
          exact h.mono fun e w' ⟨c, h1, h2, h3⟩ => ⟨by (rw [h1, h2]; try rfl), h3⟩
        have HREAD := Lib.hid HREAD
        go_wp2_with fail
        refine HREAD.out.mono ?_
        rintro e w8 ⟨rfl, n8, o8, hB8⟩
        have hB58 : Below w5.heap.size w5 w8 := HCB.out.1.trans hB8
        have b8 : w8.cell? ⟨M0, 0, none⟩ = some (.slice pw W.length cw) := by
          have h1 : w5.cell? ⟨M0, 0, none⟩ = some (.slice pw W.length cw) := by rw [HG5.out.cell (by have := World.block_lt_of_cell? wr _ HCW.out; simpa [World.size_alloc] using this), HCW.out, HVE.out]
          rw [hB58.cell (by exact World.block_lt_of_cell? w5 _ h1)]; exact h1
        have c1 := conv_str w8 po b n co (HSO.out.of_below hB58) HBL.out HPO.out
        have c2 := conv_str w8 p b n cap ((HSP.out.of_below (by rw [HM0.out]; exact HB5.out)).of_below hB58) HBL.out HPN.out
        have HB8 := Lib.hid (HBW.out.trans ((HB5.out.trans (hB58.mono (by have := HB5.out.size; rw [HM0.out] at this; exact this))).mono hw1))
        have q1 : ((6 : Int) == (6 : Int)) = true := by simp
        have q2 : ((W.length : Int) == (W.length : Int)) = true := by simp
        have q3 : ((strOf b).toList == (strOf b).toList) = true := by simp
        clear hB58 hB8 HREAD
        generalize strOf b = sb at *
        go_wp2
        go_ret
        exact ⟨rfl, by rw [HBK.out]; exact HB8.out⟩
end
end Go.Proofs.Ytgmogbgkokofoaa
