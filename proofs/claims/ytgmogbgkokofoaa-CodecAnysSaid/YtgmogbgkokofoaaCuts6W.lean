/- The statement CodecCuts, walked over the premises. -/
import Derived.Test.YtgmogbgkokofoaaCutsL6
import Derived.Test.YtgmogbgkokofoaaAwake6
set_option linter.unusedSimpArgs false
set_option linter.unusedVariables false
namespace Go.Proofs.Ytgmogbgkokofoaa
open Go Go.RowKit

theorem OwnB.nil (w : World) (base : Nat) : OwnB w base (.slice none 0 0) [] := ⟨rfl, .inl ⟨rfl, rfl⟩⟩
theorem modK (cut L : Nat) (h0 : ¬ L = 0) (hL : L ≤ 400 * 30) (hc : cut < 65536) : ∃ K : Nat, ((L : Int) == 0) = false ∧ ¬ (L : Int) = 0 ∧ 0 < L ∧ K < L ∧ (cut : Int) % (L : Int) = (K : Int) ∧ (cut : Int).tmod (L : Int) = (K : Int) ∧ IntKind.i64.wrap (K : Int) = (K : Int) ∧ wrap64 (K : Int) = (K : Int) ∧ IntKind.i64.wrap (cut : Int) = (cut : Int) := by
  have hL0 : 0 < L := Nat.pos_of_ne_zero h0
  have hK : cut % L < L := Nat.mod_lt _ hL0
  have k1 : (cut : Int) % (L : Int) = ((cut % L : Nat) : Int) := (Int.natCast_emod cut L).symm
  have k2 : (cut : Int).tmod (L : Int) = ((cut % L : Nat) : Int) := (Int.tmod_eq_emod_of_nonneg (Int.natCast_nonneg _)).trans k1
  generalize cut % L = K at *
  refine ⟨K, ?_, ?_, hL0, hK, k1, k2, i64n _ ?_, w64n _ ?_, i64n _ ?_⟩
  · have : ¬ (L : Int) = 0 := by clear k1 k2; omega
    simpa using h0
  all_goals (clear k1 k2; omega)
theorem enters_cuts : ∀ args w, (callFunc 24 args).run Try.prog w = .ok (.enter 24 args) w := enters_of Try.func24 (by kernel_rfl) rfl
attribute [local go_sem] mkFn
attribute [local go_sem ↓] exec_slice
attribute [local go_sem] sl_hi
section
variable {Rd : Option Addr → Nat → World → Addr → List (BitVec 8) → Prop} {Thr : Addr → Nat → World → Value → Prop} (S : RdSpec Rd Thr) (HA : ∀ w : World, Calls Try.prog 7 #[] w fun e w' => e = .returned (.bool true) ∧ Below w.heap.size w w')
include S HA
set_option maxRecDepth 100000 in
set_option maxHeartbeats 4000000 in
theorem cc_a (xs : List Rw) (p : Option Addr) (n cap : Nat) (cut : Nat) (w : World) (hn : xs.length = n) (hs : Its w p xs) (hr : ∀ x ∈ xs, x.n < 9223372036854775808) (hcut : cut < 65536) :
    Calls Try.prog 6 #[.slice p n cap, .int .u16 (cut : Int)] w fun e w' => e = .returned (.bool true) ∧ Below w.heap.size w w' := by
  have HS := Lib.hid S
  have HAW := Lib.hid (HA w)
  have HN := Lib.hid hn
  have HI := Lib.hid hs
  have HOK := Lib.hid (rightL_ok hr)
  have hlen := rightL_len xs
  have HSZ := Lib.hid (@rightL_size xs)
  clear S HA hn hs hr
  go_enter Try.func6, Try.ntmps6
  go_wp2_with fail
  refine HAW.out.mono ?_
  rintro e w1 ⟨rfl, hB1⟩
  have HB1 := Lib.hid hB1
  have HR := Lib.hid (right_any xs p n cap w1 HN.out (HI.out.of_below hB1))
  clear hB1 HAW
  go_wp2_with fail
  refine HR.out.mono ?_
  rintro e w2 ⟨v, rfl, hO, hB2⟩
  obtain ⟨px, cx, rfl, hIx, -, -⟩ := hO.shape
  rw [List.length_map] at *
  generalize rightL xs = ys at *
  obtain ⟨m, hm⟩ : ∃ m, ys.length = m := ⟨_, rfl⟩
  rw [hm] at hlen
  have HM := Lib.hid hm
  rw [hm]
  have hB3 : Below w2.heap.size w2 (w2.alloc (.cells #[.slice px m cx] 22)) := (Below.refl _ _).alloc (Nat.le_refl _) _
  have HB2 := Lib.hid (HB1.out.trans (hB2.mono HB1.out.size))
  have HB3 := Lib.hid (HB2.out.trans (hB3.mono HB2.out.size))
  have hI3 := hIx.of_below hB3
  have hx3 : (w2.alloc (.cells #[.slice px m cx] 22)).cell? ⟨w2.heap.size, 0, none⟩ = some (.slice px m cx) := World.cell?_alloc_new _ _ _ _
  have hlt3 : w2.heap.size < (w2.alloc (.cells #[.slice px m cx] 22)).heap.size := by rw [World.size_alloc]; exact Nat.lt_succ_self _
  have hN2 : w.heap.size ≤ w2.heap.size := HB2.out.size
  clear hO hIx hB2 hB3 HR HI HB1 hm
  go_wp2
  generalize hVV : w2.alloc (.cells #[.slice px m cx] 22) = V0 at *
  generalize hbx : w2.heap.size = bx at *
  have HI3 := Lib.hid hI3
  have HX3 := Lib.hid hx3
  have HVV := Lib.hid hVV
  clear hI3 hx3 hVV hbx HB2
  go_loopw [6, 18] (fun va vi wr => ∃ i : Nat, i ≤ m ∧ vi = .int .i64 i ∧ OwnB wr V0.heap.size va (encL (ys.take i)) ∧ Below V0.heap.size V0 wr) (fun _ vi _ => m - (intOf vi).toNat)
  case atStart => exact ⟨0, Nat.zero_le _, rfl, OwnB.nil _ _, Below.refl _ _⟩
  case round =>
    obtain ⟨i, him, rfl, hO, hB⟩ := hrel
    have HO := Lib.hid hO
    have HB := Lib.hid hB
    have hcx : wr.cell? ⟨bx, 0, none⟩ = some (.slice px m cx) := by rw [hB.cell hlt3]; exact HX3.out
    clear hO hB
    by_cases hlt : i < m
    · have hltz : (i : Int) < (m : Int) := by omega
      have hld : decide ((i : Int) < (m : Int)) = true := decide_eq_true hltz
      have hix : i < ys.length := by rw [HM.out]; exact hlt
      have hIr := (HI3.out.of_below HB.out) i (by simpa using hix)
      rw [raw_get ys i hix] at hIr
      obtain ⟨c, o, rfl, hcl, q, cp, e0, e1, e2, hbt⟩ := hIr
      have hmem : ys.getD i it0 ∈ ys := by
        rw [List.getD_eq_getElem?_getD, List.getElem?_eq_getElem hix]
        exact List.getElem_mem hix
      have HXO := Lib.hid (HOK.out _ hmem)
      have HXZ := Lib.hid (HSZ.out _ hmem)
      have HET := Lib.hid (encL_take ys i hix)
      have HEL := Lib.hid (show (encL (ys.take i)).length ≤ 400 * 30 from Nat.le_trans (encL_len fun y hy => ⟨(HOK.out y (List.mem_of_mem_take hy)).1, HSZ.out y (List.mem_of_mem_take hy)⟩) (Nat.mul_le_mul_left _ (by rw [List.length_take]; omega)))
      obtain ⟨x, hxx⟩ : ∃ x, ys.getD i it0 = x := ⟨_, rfl⟩
      rw [hxx] at e0 e1 e2 hbt HXO HXZ HET
      have HPL := Lib.hid (put_len HXO.out.1 HXZ.out)
      obtain ⟨xk, xn, xb⟩ := x
      change wr.cell? ⟨c, o + i * 3, none⟩ = some (.int .i64 (xk : Int)) at e0
      change wr.cell? ⟨c, o + i * 3 + 1, none⟩ = some (.int .i64 (xn : Int)) at e1
      change wr.cell? ⟨c, o + i * 3 + 2, none⟩ = some (.slice q xb.length cp) at e2
      have hU : Below wr.heap.size wr (wr.alloc (.cells #[.int .i64 (xk : Int), .int .i64 (xn : Int), .slice q xb.length cp] 29)) := (Below.refl _ _).alloc (Nat.le_refl _) _
      have hbu := hbt.of_below hU
      have HPUT := Lib.hid (refPut_any (It.mk xk xn xb) q cp _ HXO.out.1 hbu.sl hbu.nil)
      have HOU := Lib.hid (HO.out.of_below hU)
      have HBU := Lib.hid (HB.out.trans (hU.mono HB.out.size))
      obtain ⟨len, hlenb⟩ : ∃ len, xb.length = len := ⟨_, rfl⟩
      have HPUT2 := Lib.hid (show Calls Try.prog 10 #[.agg #[.int .i64 (xk : Int), .int .i64 (xn : Int), .slice q len cp]] (wr.alloc (.cells #[.int .i64 (xk : Int), .int .i64 (xn : Int), .slice q len cp] 29)) (GivesB (wr.alloc (.cells #[.int .i64 (xk : Int), .int .i64 (xn : Int), .slice q len cp] 29)) (It.mk xk xn xb).put) from by rw [← hlenb]; exact HPUT.out)
      rw [hlenb] at e2 HOU HBU
      clear hU hbu hbt HPUT hmem hxx hlenb
      go_wp2_with fail
      refine HPUT2.out.mono ?_
      rintro e w4 ⟨v4, rfl, hO4, hB4⟩
      obtain ⟨p4, c4, rfl, hS4, hP4, -⟩ := hO4.shape
      have HO4 := Lib.hid (HOU.out.of_below hB4)
      have HB4 := Lib.hid (HBU.out.trans (hB4.mono HBU.out.size))
      have HS4 := Lib.hid hS4
      have HP4 := Lib.hid hP4
      clear hB4 hO4 hS4 hP4 HPUT2
      have hpl := HPL.out
      have hel := HEL.out
      generalize (It.mk xk xn xb).put = bb at *
      go_wp2_with (first | (refine wpl_append _ rfl (.tmp 22) (.tmp 24) rfl V0.heap.size u6 (encL (ys.take i)) rfl HO4.out p4 bb.length c4 bb rfl rfl HS4.out HP4.out (by omega) HB4.out.size ?_; rintro v5 w5 hO5 hg5; have HO5 := Lib.hid hO5; have HG5 := Lib.hid hg5; clear hO5 hg5))
      go_wp2
      exact ⟨⟨i + 1, by omega, by go_num, by rw [HET.out]; exact HO5.out, HB4.out.grown HG5.out HB4.out.size (fun j hj => (HO4.out.lt j hj).1)⟩, by simp [intOf]; omega⟩
    · have hltz : ¬ (i : Int) < (m : Int) := by omega
      have hld : decide ((i : Int) < (m : Int)) = false := decide_eq_false hltz
      obtain rfl : i = m := by omega
      have hO := HO.out
      rw [List.take_of_length_le (by rw [HM.out]; exact Nat.le_refl _)] at hO
      obtain ⟨pa, ca, rfl, hSa, hPa, hCa⟩ := hO.shape
      have hLL : (encL ys).length ≤ 400 * 30 := Nat.le_trans (encL_len fun y hy => ⟨(HOK.out y hy).1, HSZ.out y hy⟩) (Nat.mul_le_mul_left _ (by rw [HM.out]; exact hlen))
      obtain ⟨L, hL⟩ : ∃ L, (encL ys).length = L := ⟨_, rfl⟩
      rw [hL] at hLL hCa ⊢
      have HLEN := Lib.hid hL
      have HSA := Lib.hid hSa
      have HPA := Lib.hid hPa
      have hNB := HB3.out.size
      clear hO hSa hPa hL
      by_cases h0 : L = 0
      · subst h0
        clear hcx
        go_wp2
        go_ret
        exact ⟨rfl, HB3.out.trans (HB.out.mono hNB)⟩
      · obtain ⟨K, h0z, h0y, hL0, hKL, k1, k2, k3, k4, k5⟩ := modK cut L h0 hLL hcut
        have hKc : K ≤ ca := Nat.le_trans (Nat.le_of_lt hKL) hCa
        have KS := Lib.hid (And.intro k1 (And.intro k2 (And.intro k3 (And.intro k4 k5))))
        clear k1 k2 k3 k4 k5
        have HREAD : Calls Try.prog 13 #[.slice pa K ca, .func (.func 24) #[] #[.pointer (some ⟨bx, 0, none⟩), .pointer (some ⟨wr.heap.size, 0, none⟩)]] (wr.alloc (.cells #[.int .i64 0] 3)) fun e w' => e = .returned (.int .i64 6) ∧ ∃ j : Nat, j < i ∧ w'.cell? ⟨wr.heap.size, 0, none⟩ = some (.int .i64 (j : Int)) ∧ Kp wr.heap.size (wr.alloc (.cells #[.int .i64 0] 3)) w' := by
          have hV : Below wr.heap.size wr (wr.alloc (.cells #[.int .i64 0] 3)) := (Below.refl _ _).alloc (Nat.le_refl _) _
          have hVz : (wr.alloc (.cells #[.int .i64 0] 3)).heap.size = wr.heap.size + 1 := by rw [World.size_alloc]
          have hVc : (wr.alloc (.cells #[.int .i64 0] 3)).cell? ⟨wr.heap.size, 0, none⟩ = some (.int .i64 0) := World.cell?_alloc_new _ _ _ _
          have hVf : (wr.alloc (.cells #[.int .i64 0] 3)).frozen? ⟨wr.heap.size, 0, none⟩ = false := by go_simp
          generalize wr.alloc (.cells #[.int .i64 0] 3) = V at *
          have hpb : ∀ c o, pa = some ⟨c, o, none⟩ → c ≠ wr.heap.size := fun c o e => Nat.ne_of_lt (HSA.out.blk' (by rw [HLEN.out]; exact hL0) c o e)
          have h := HS.out.read ((encL ys).take K) pa K ca 24 #[.pointer (some ⟨bx, 0, none⟩), .pointer (some ⟨wr.heap.size, 0, none⟩)] V (fun c w' => c = 6 ∧ ∃ j : Nat, j < i ∧ w'.cell? ⟨wr.heap.size, 0, none⟩ = some (.int .i64 (j : Int)) ∧ Kp wr.heap.size V w')
            (by rw [List.length_take, HLEN.out]; omega) ((HSA.out.take K).of_below hV) HPA.out hKc (by omega) enters_cuts
            (fun c x y ⟨h1, j, h2, h3, h4⟩ k => ⟨h1, j, h2, by rw [k.cell (by show wr.heap.size < V.heap.size; omega)]; exact h3, h4.thenBelow k⟩)
            (fun a w1 hb hr => (cuts_in HS.out V0 V ys px cx bx wr.heap.size pa a w1 _ K i HM.out HOK.out hlen HI3.out HX3.out (HB.out.trans (hV.mono HB.out.size)) HB.out.size (by omega) hVc hVf hb hr hpb rfl (by rw [HLEN.out]; exact hKL)).mono fun e w' ⟨⟨h1, h2⟩, hlo⟩ => ⟨hlo, .inr ⟨6, h1, rfl, h2⟩⟩)
          exact h.mono fun e w' ⟨c, h1, h2, h3⟩ => ⟨by rw [h1, h2]; rfl, h3⟩
        have HREAD := Lib.hid HREAD
        have HCX := Lib.hid hcx
        clear hcx
        obtain ⟨k1, k2, k3, k4, k5⟩ := KS.out
        go_wp2_with fail
        clear k1 k2 k3 k4 k5
        refine HREAD.out.mono ?_
        rintro e w7 ⟨rfl, j, hj, hcj, hK7⟩
        have hbx7 : w7.cell? ⟨bx, 0, none⟩ = some (.slice px i cx) := by
          have hb : bx < wr.heap.size := World.block_lt_of_cell? wr _ HCX.out
          rw [hK7.cell (by show bx < _; rw [World.size_alloc]; omega) (by show bx ≠ _; omega), ((Below.refl wr.heap.size wr).alloc (Nat.le_refl _) _).cell (by exact hb)]
          exact HCX.out
        have hjz : decide ((j : Int) < (i : Int)) = true := decide_eq_true (by omega)
        have HB7 := Lib.hid ((HB3.out.trans (HB.out.mono hNB)).trans (((((Below.refl wr.heap.size wr).alloc (Nat.le_refl _) (.cells #[.int .i64 0] 3)).trans (hK7.below (Nat.le_refl _) (by rw [World.size_alloc]; omega)))).mono (Nat.le_trans hNB HB.out.size)))
        clear hK7 HREAD
        go_wp2
        go_ret
        exact ⟨rfl, HB7.out⟩
end
end Go.Proofs.Ytgmogbgkokofoaa
