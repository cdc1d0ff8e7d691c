/- The statement CodecBacks, walked over the premises. -/
import Derived.Test.YtgmogbgkokofoaaBacksL6
import Derived.Test.YtgmogbgkokofoaaAnysL6
import Derived.Test.YtgmogbgkokofoaaCuts6W
import Derived.Test.YtgmogbgkokofoaaPutL6
import Derived.Test.YtgmogbgkokofoaaAppL6
import Derived.Deep.QuietTactic
set_option linter.unusedSimpArgs false
set_option linter.unusedVariables false
namespace Go.Proofs.Ytgmogbgkokofoaa
open Go Go.RowKit

theorem enters_backs : ∀ args w, (callFunc 14 args).run Try.prog w = .ok (.enter 14 args) w := enters_of Try.func14 (by kernel_rfl) rfl
attribute [local go_sem] mkFn
attribute [local go_sem ↓] exec_slice bx255
section
variable {Rd : Option Addr → Nat → World → Addr → List (BitVec 8) → Prop} {Thr : Addr → Nat → World → Value → Prop} (S : RdSpec Rd Thr) {Wr : Nat → World → Addr → Option Nat → List (BitVec 8) → Prop} (T : WrSpec Wr) (HA : ∀ w : World, Calls Try.prog 7 #[] w fun e w' => e = .returned (.bool true) ∧ Below w.heap.size w w')
include HA
set_option maxHeartbeats 4000000 in
theorem cb_a (p pm : Option Addr) (n cap mm cm : Nat) (w : World) (h : 50 < mm) : Calls Try.prog 3 #[.slice p n cap, .slice pm mm cm] w fun e w' => e = .returned (.bool true) ∧ Below w.heap.size w w' := by
  have HAW := Lib.hid HA
  have hd : decide ((50 : Int) < (mm : Int)) = true := decide_eq_true (by omega)
  have HB0 := Lib.hid (show Below w.heap.size w (w.alloc (.cells #[.slice pm mm cm] 23)) from (Below.refl _ _).alloc (Nat.le_refl _) _)
  have y0 : (w.alloc (.cells #[.slice pm mm cm] 23)).cell? ⟨w.heap.size, 0, none⟩ = some (.slice pm mm cm) := World.cell?_alloc_new _ _ _ _
  have hz : w.heap.size < (w.alloc (.cells #[.slice pm mm cm] 23)).heap.size := by rw [World.size_alloc]; exact Nat.lt_succ_self _
  have HY := Lib.hid y0
  clear HA y0
  go_enter Try.func3, Try.ntmps3
  go_wp2_with fail
  refine (HAW.out _).mono ?_
  rintro e w1 ⟨rfl, hB1⟩
  have y1 : w1.cell? ⟨w.heap.size, 0, none⟩ = some (.slice pm mm cm) := by rw [hB1.cell (by exact hz)]; exact HY.out
  have HB1 := Lib.hid (HB0.out.trans (hB1.mono HB0.out.size))
  clear hB1
  go_wp2_with fail
  refine (HAW.out _).mono ?_
  rintro e w2 ⟨rfl, hB2⟩
  have HB2 := Lib.hid (HB1.out.trans (hB2.mono HB1.out.size))
  clear hB2
  go_wp2
  go_ret
  exact ⟨rfl, HB2.out⟩
omit HA
include S T HA
set_option maxRecDepth 100000 in
set_option maxHeartbeats 8000000 in
theorem cb_b (xs : List Rw) (more : List (BitVec 8)) (p pm : Option Addr) (n cap mm cm : Nat) (w : World) (hn : xs.length = n) (hs : Its w p xs) (hr : ∀ x ∈ xs, x.n < 9223372036854775808) (hml : more.length = mm) (hsm : Sl w pm more) (hpm : pm = none → cm = 0) (h50 : mm ≤ 50) :
    Calls Try.prog 3 #[.slice p n cap, .slice pm mm cm] w fun e w' => e = .returned (.bool true) ∧ Below w.heap.size w w' := by
  have HAW := Lib.hid HA
  have HS := Lib.hid S
  have HT := Lib.hid T
  have HN := Lib.hid hn
  have HML := Lib.hid hml
  have HPM := Lib.hid hpm
  have HOK := Lib.hid (rightL_ok hr)
  have hlen := rightL_len xs
  have HSZ := Lib.hid (@rightL_size xs)
  have hd : decide ((50 : Int) < (mm : Int)) = false := decide_eq_false (by omega)
  have hB0 : Below w.heap.size w (w.alloc (.cells #[.slice pm mm cm] 23)) := (Below.refl _ _).alloc (Nat.le_refl _) _
  have y0 : (w.alloc (.cells #[.slice pm mm cm] 23)).cell? ⟨w.heap.size, 0, none⟩ = some (.slice pm mm cm) := World.cell?_alloc_new _ _ _ _
  have hz : w.heap.size < (w.alloc (.cells #[.slice pm mm cm] 23)).heap.size := by rw [World.size_alloc]; exact Nat.lt_succ_self _
  have HB0 := Lib.hid hB0
  have HY := Lib.hid y0
  have HI := Lib.hid hs
  have HSM := Lib.hid hsm
  clear S T HA hn hs hr hml hsm hpm y0 hB0
  go_enter Try.func3, Try.ntmps3
  go_wp2_with fail
  refine (HAW.out _).mono ?_
  rintro e w1 ⟨rfl, hB1⟩
  have y1 : w1.cell? ⟨w.heap.size, 0, none⟩ = some (.slice pm mm cm) := by rw [hB1.cell (by exact hz)]; exact HY.out
  have hB01 := HB0.out.trans (hB1.mono HB0.out.size)
  have HB1 := Lib.hid hB01
  have HR := Lib.hid (right_any xs p n cap w1 HN.out (HI.out.of_below hB01))
  have HSM1 := Lib.hid (HSM.out.of_below hB01)
  clear hB1 hB01
  go_wp2_with fail
  refine HR.out.mono ?_
  rintro e w2 ⟨v, rfl, hO, hB2⟩
  obtain ⟨px, cx, rfl, hIx, -, -⟩ := hO.shape
  rw [List.length_map] at *
  generalize rightL xs = ys at *
  obtain ⟨m, hm⟩ : ∃ m, ys.length = m := ⟨_, rfl⟩
  rw [hm] at hlen
  have HM := Lib.hid hm
  rw [hm]
  have hB3 : Below w2.heap.size w2 (w2.alloc (.cells #[.slice px m cx] 22)) := (Below.refl _ _).alloc (Nat.le_refl _) _
  have HB2 := Lib.hid (HB1.out.trans (hB2.mono HB1.out.size))
  have HB3 := Lib.hid (HB2.out.trans (hB3.mono HB2.out.size))
  have hI3 := hIx.of_below hB3
  have hx3 : (w2.alloc (.cells #[.slice px m cx] 22)).cell? ⟨w2.heap.size, 0, none⟩ = some (.slice px m cx) := World.cell?_alloc_new _ _ _ _
  have hy3 : (w2.alloc (.cells #[.slice px m cx] 22)).cell? ⟨w.heap.size, 0, none⟩ = some (.slice pm mm cm) := by
    have h2 : w2.cell? ⟨w.heap.size, 0, none⟩ = some (.slice pm mm cm) := by rw [hB2.cell (by exact World.block_lt_of_cell? w1 _ y1)]; exact y1
    rw [hB3.cell (by exact World.block_lt_of_cell? w2 _ h2)]; exact h2
  have hsm3 := (HSM1.out.of_below hB2).of_below hB3
  have hN2 : w.heap.size ≤ w2.heap.size := HB2.out.size
  have hz3 : (w2.alloc (.cells #[.slice px m cx] 22)).heap.size = w2.heap.size + 1 := by rw [World.size_alloc]
  have hW4 := HT.out.zero (w2.heap.size + 1) (w2.alloc (.cells #[.slice px m cx] 22)) (by rw [hz3]; exact Nat.le_refl _)
  have hB4 : Below (w2.heap.size + 1) (w2.alloc (.cells #[.slice px m cx] 22)) ((w2.alloc (.cells #[.slice px m cx] 22)).alloc (.cells zW 27)) := (Below.refl _ _).alloc (by rw [hz3]; exact Nat.le_refl _) _
  have hz4 : ((w2.alloc (.cells #[.slice px m cx] 22)).alloc (.cells zW 27)).heap.size = w2.heap.size + 1 + 1 := by simp [World.size_alloc]
  have hx4 : ((w2.alloc (.cells #[.slice px m cx] 22)).alloc (.cells zW 27)).cell? ⟨w2.heap.size, 0, none⟩ = some (.slice px m cx) := by rw [hB4.cell (by exact Nat.lt_succ_self _)]; exact hx3
  rw [hz3] at hW4
  unfold zW at hW4 hB4 hz4 hx4
  have HW4 := Lib.hid hW4
  have HB4 := Lib.hid hB4
  have HZ4 := Lib.hid hz4
  have HI3 := Lib.hid hI3
  have HX3 := Lib.hid hx3
  have HY3 := Lib.hid hy3
  have HSM3 := Lib.hid hsm3
  have HZ3 := Lib.hid hz3
  clear hO hIx hB2 hB3 HR HI hm y1 hI3 hx3 hy3 hsm3 hz3 hW4 hB4 hz4 HSM1 HSM HY hz HB0
  go_wp2
  clear hx4
  generalize hV1 : (w2.alloc (.cells #[.slice px m cx] 22)).alloc (.cells #[.slice none 0 0] 27) = V1 at *
  generalize hV0 : w2.alloc (.cells #[.slice px m cx] 22) = V0 at *
  generalize hbx : w2.heap.size = bx at *
  obtain ⟨bW, hbW⟩ : ∃ bW, bx + 1 = bW := ⟨_, rfl⟩
  rw [hbW] at HW4 HB4 HZ4 HZ3 ⊢
  clear hV1 hV0 hbx HB2
  have hbxW : bx < bW := by omega
  go_loopw [7, 27] (fun va vi wr => ∃ (i : Nat) (g : Option Nat), i ≤ m ∧ vi = .int .i64 i ∧ OwnB wr (bW + 1) va (encL (ys.take i)) ∧ Wr bW wr ⟨bW, 0, none⟩ g (encL (ys.take i)) ∧ (∀ k, g = some k → va.ownBlock ≠ some k) ∧ Below bW V0 wr) (fun _ vi _ => m - (intOf vi).toNat)
  case atStart => exact ⟨0, none, Nat.zero_le _, rfl, OwnB.nil _ _, HW4.out, (fun k hk => by cases hk), HB4.out⟩
  case round =>
    obtain ⟨i, g, him, rfl, hO, hW, hg, hB⟩ := hrel
    have HO := Lib.hid hO
    have HB := Lib.hid hB
    have hEL : (encL (ys.take i)).length ≤ 400 * 30 := Nat.le_trans (encL_len fun y hy => ⟨(HOK.out y (List.mem_of_mem_take hy)).1, HSZ.out y (List.mem_of_mem_take hy)⟩) (Nat.mul_le_mul_left _ (by rw [List.length_take]; omega))
    have hlw := HT.out.lie _ _ _ _ _ hW
    have hVr : bW ≤ wr.heap.size := by have h1 := hlw.2.1; exact Nat.le_of_lt h1
    by_cases hlt : i < m
    · have hltz : (i : Int) < (m : Int) := by omega
      have hld : decide ((i : Int) < (m : Int)) = true := decide_eq_true hltz
      have hix : i < ys.length := by rw [HM.out]; exact hlt
      have hI0 := HI3.out i (by simpa using hix)
      rw [raw_get ys i hix] at hI0
      obtain ⟨c, o, rfl, hcl, q, cp, e0, e1, e2, hbt⟩ := hI0
      rw [HZ3.out] at hcl
      have hmem : ys.getD i it0 ∈ ys := by
        rw [List.getD_eq_getElem?_getD, List.getElem?_eq_getElem hix]
        exact List.getElem_mem hix
      have HXO := Lib.hid (HOK.out _ hmem)
      have HXZ := Lib.hid (HSZ.out _ hmem)
      have HET := Lib.hid (encL_take ys i hix)
      obtain ⟨x, hxx⟩ : ∃ x, ys.getD i it0 = x := ⟨_, rfl⟩
      rw [hxx] at e0 e1 e2 hbt HXO HXZ HET
      have hpl := put_len HXO.out.1 HXZ.out
      obtain ⟨xk, xn, xb⟩ := x
      have e0 : wr.cell? ⟨c, o + i * 3, none⟩ = some (.int .i64 (xk : Int)) := by rw [hB.cell (by exact hcl)]; exact e0
      have e1 : wr.cell? ⟨c, o + i * 3 + 1, none⟩ = some (.int .i64 (xn : Int)) := by rw [hB.cell (by exact hcl)]; exact e1
      have e2 : wr.cell? ⟨c, o + i * 3 + 2, none⟩ = some (.slice q xb.length cp) := by rw [hB.cell (by exact hcl)]; exact e2
      have hqb : 0 < xb.length → ∀ d o', q = some ⟨d, o', none⟩ → d < bW := fun hl d o' e => by rw [← HZ3.out]; exact hbt.sl.blk' hl d o' e
      have HQB := Lib.hid hqb
      have HBT := Lib.hid hbt
      obtain ⟨len, hlen⟩ : ∃ len, xb.length = len := ⟨_, rfl⟩
      rw [hlen] at e2
      have HLEN := Lib.hid hlen
      have hU : Below wr.heap.size wr (wr.alloc (.cells #[.int .i64 (xk : Int), .int .i64 (xn : Int), .slice q len cp] 29)) := (Below.refl _ _).alloc (Nat.le_refl _) _
      have HSW := Lib.hid (show ∀ w5, Below bW V0 w5 → Bt w5 (It.mk xk xn xb).raw q cp from fun w5 h => HBT.out.of_below (by rw [HZ3.out]; exact h))
      have hBU := HB.out.trans (hU.mono hVr)
      have HPUT := Lib.hid (show Calls Try.prog 9 #[.pointer (some ⟨bW, 0, none⟩), .agg #[.int .i64 (xk : Int), .int .i64 (xn : Int), .slice q len cp]] (wr.alloc (.cells #[.int .i64 (xk : Int), .int .i64 (xn : Int), .slice q len cp] 29)) fun e w' => e = .returned (.bool true) ∧ WrPost Wr bW (wr.alloc (.cells #[.int .i64 (xk : Int), .int .i64 (xn : Int), .slice q len cp] 29)) ⟨bW, 0, none⟩ g (encL (ys.take i) ++ (It.mk xk xn xb).put) w' from by
        have h := put_any HT.out bW (wr.alloc (.cells #[.int .i64 (xk : Int), .int .i64 (xn : Int), .slice q len cp] 29)) ⟨bW, 0, none⟩ g (encL (ys.take i)) (It.mk xk xn xb) q cp (HT.out.keep hW hU) (by omega) HXO.out.1 (HSW.out _ hBU) hqb
        rw [← HLEN.out]
        rw [← HLEN.out] at h
        exact h)
      have x0 : (wr.alloc (.cells #[.int .i64 (xk : Int), .int .i64 (xn : Int), .slice q len cp] 29)).cell? ⟨wr.heap.size, 0, none⟩ = some (.int .i64 (xk : Int)) := by go_simp
      have x1 : (wr.alloc (.cells #[.int .i64 (xk : Int), .int .i64 (xn : Int), .slice q len cp] 29)).cell? ⟨wr.heap.size, 1, none⟩ = some (.int .i64 (xn : Int)) := by go_simp
      have x2 : (wr.alloc (.cells #[.int .i64 (xk : Int), .int .i64 (xn : Int), .slice q len cp] 29)).cell? ⟨wr.heap.size, 2, none⟩ = some (.slice q len cp) := by go_simp
      have hzU : (wr.alloc (.cells #[.int .i64 (xk : Int), .int .i64 (xn : Int), .slice q len cp] 29)).heap.size = wr.heap.size + 1 := by rw [World.size_alloc]
      have HXC := Lib.hid (And.intro x0 (And.intro x1 x2))
      have HBU := Lib.hid hBU
      have HOU := Lib.hid (HO.out.of_below hU)
      have HLW := Lib.hid hlw
      have HG := Lib.hid hg
      have HZU := Lib.hid hzU
      have HOLT := Lib.hid (HO.out.lt)
      clear hU hqb hbt hlen hO hW hB hmem hxx hlw hg hBU x0 x1 x2 hzU
      go_wp2_with fail
      refine HPUT.out.mono ?_
      rintro e w5 ⟨rfl, g5, hW5, hg5, hK5⟩
      generalize (wr.alloc (.cells #[.int .i64 (xk : Int), .int .i64 (xn : Int), .slice q len cp] 29)) = u at *
      obtain ⟨Y, hY⟩ : ∃ Y, wr.heap.size = Y := ⟨_, rfl⟩
      rw [hY] at HXC HZU HLW HOLT hVr ⊢
      have hzu := HZU.out
      have hl2 := HLW.out
      have gne : ∀ k, k < bW ∨ k = Y → g ≠ some k := fun k hk e => by have := hl2.2.2 k e; omega
      have t0 : w5.cell? ⟨Y, 0, none⟩ = some (.int .i64 (xk : Int)) := by rw [World.cell?_of_block (w := u) (hK5.block Y (by omega) (by show Y ≠ bW; have := hl2.2.1; omega) (gne Y (.inr rfl)))]; exact HXC.out.1
      have t1 : w5.cell? ⟨Y, 1, none⟩ = some (.int .i64 (xn : Int)) := by rw [World.cell?_of_block (w := u) (hK5.block Y (by omega) (by show Y ≠ bW; have := hl2.2.1; omega) (gne Y (.inr rfl)))]; exact HXC.out.2.1
      have t2 : w5.cell? ⟨Y, 2, none⟩ = some (.slice q len cp) := by rw [World.cell?_of_block (w := u) (hK5.block Y (by omega) (by show Y ≠ bW; have := hl2.2.1; omega) (gne Y (.inr rfl)))]; exact HXC.out.2.2
      have hB5 : Below bW V0 w5 := HBU.out.trans (hK5.below (Nat.le_refl _) (fun k hk => (hl2.2.2 k hk).1) (by omega))
      have hO5 : OwnB w5 (bW + 1) u7 (encL (ys.take i)) := HOU.out.keep fun k hk => hK5.block k (by have := (HOLT.out k hk).2; omega) (by show k ≠ bW; have := (HOLT.out k hk).1; omega) (fun e => HG.out k e hk)
      have HP2 := Lib.hid (show Calls Try.prog 10 #[.agg #[.int .i64 (xk : Int), .int .i64 (xn : Int), .slice q len cp]] w5 (GivesB w5 (It.mk xk xn xb).put) from by
        have hbt5 := HSW.out w5 hB5
        have h := refPut_any (It.mk xk xn xb) q cp w5 HXO.out.1 hbt5.sl hbt5.nil
        rw [← HLEN.out]
        exact h)
      have HO5 := Lib.hid hO5
      have HB5 := Lib.hid hB5
      have HW5 := Lib.hid hW5
      have HG5 := Lib.hid (show ∀ k, g5 = some k → u7.ownBlock ≠ some k from fun k hk e => by
        rcases hg5 k hk with h | h
        · exact HG.out k h e
        · have := (HOLT.out k e).2; omega)
      have hl5 := HT.out.lie _ _ _ _ _ hW5
      have HL5 := Lib.hid hl5
      have hz5 : Y + 1 ≤ w5.heap.size := by have := hK5.size; omega
      clear hY hK5 hg5 hO5 hB5 hW5 gne hl2 hl5 HPUT HXC
      go_wp2_with fail
      refine HP2.out.mono ?_
      rintro e w6 ⟨v6, rfl, hO6, hB6⟩
      obtain ⟨p6, c6, rfl, hS6, hP6, -⟩ := hO6.shape
      have HOW6 := Lib.hid (HO5.out.of_below hB6)
      have HB6 := Lib.hid (HB5.out.trans (hB6.mono (by omega)))
      have HS6 := Lib.hid hS6
      have HP6 := Lib.hid hP6
      have HW6 := Lib.hid (HT.out.keep HW5.out hB6)
      have hz6 : w5.heap.size ≤ w6.heap.size := hB6.size
      clear hO6 hB6 hS6 hP6 HP2
      generalize (It.mk xk xn xb).put = bb at *
      go_wp2_with (first | (refine wpl_appendL _ rfl (.tmp 34) (.tmp 36) rfl (bW + 1) u7 (encL (ys.take i)) rfl HOW6.out p6 bb.length c6 bb rfl rfl HS6.out HP6.out (by omega) (by omega) ?_; rintro v7 w7 hO7 hg7 hor7; have HO7 := Lib.hid hO7; have HG7 := Lib.hid hg7; have HOR := Lib.hid hor7; clear hO7 hg7 hor7))
      go_wp2
      have hlt6 := HOW6.out.lt
      have hg7 := HG7.out
      have hl5 := HL5.out
      have hW7 : Wr bW w7 ⟨bW, 0, none⟩ g5 (encL (ys.take i) ++ bb) := by
        refine HT.out.stay _ _ _ _ _ _ HW6.out hg7.size (hg7.block _ (by have h := hl5.2.1; show bW < _; exact Nat.lt_of_lt_of_le h hz6) (fun e => by have h := (hlt6 bW e.symm).1; omega)) fun k hk => hg7.block k (by have h := (hl5.2.2 k hk).2.1; omega) (fun e => HG5.out k hk e.symm)
      have hG7 : ∀ k, g5 = some k → v7.ownBlock ≠ some k := fun k hk e => by
        rcases HOR.out with h | h
        · exact HG5.out k hk (by rw [← h]; exact e)
        · rw [h] at e
          injection e with e
          have h1 := (hl5.2.2 k hk).2.1
          omega
      exact ⟨⟨i + 1, g5, by omega, by go_num, by rw [HET.out]; exact HO7.out, by rw [HET.out]; exact hW7, hG7, HB6.out.grown hg7 (by omega) (fun j hj => by have h := (hlt6 j hj).1; omega)⟩, by simp [intOf]; omega⟩
    · have hltz : ¬ (i : Int) < (m : Int) := by omega
      have hld : decide ((i : Int) < (m : Int)) = false := decide_eq_false hltz
      obtain rfl : m = i := by omega
      rw [List.take_of_length_le (by rw [HM.out]; exact Nat.le_refl _)] at hW hEL
      have hO := HO.out
      rw [List.take_of_length_le (by rw [HM.out]; exact Nat.le_refl _)] at hO
      obtain ⟨pa, ca, hve, hSa, hPa, hCa⟩ := hO.shape
      obtain ⟨L, hL⟩ : ∃ L, (encL ys).length = L := ⟨_, rfl⟩
      rw [hL] at hEL hCa hve
      subst hve
      have HLL := Lib.hid hL
      have HWR := Lib.hid hW
      have HG := Lib.hid hg
      have HOW := Lib.hid hO
      have HLW := Lib.hid hlw
      have HD := Lib.hid (HT.out.done bW wr ⟨bW, 0, none⟩ g _ hW (by omega))
      clear hO hW hg hB hSa hPa hlw HO hL
      go_wp2_with fail
      refine HD.out.mono ?_
      rintro e w8 ⟨v8, rfl, hO8, hB8⟩
      obtain ⟨pb, cb, rfl, hF8⟩ := hO8.fresh
      rw [HLL.out]
      have HF8 := Lib.hid hF8
      have HB8 := Lib.hid hB8
      have HOW8 := Lib.hid (HOW.out.of_below hB8)
      have HW8 := Lib.hid (HT.out.keep HWR.out hB8)
      have hz8 : wr.heap.size ≤ w8.heap.size := hB8.size
      have HBV8 := Lib.hid (HB.out.trans (hB8.mono hVr))
      clear hO8 hB8 hF8 HD
      obtain ⟨sb, hsb⟩ : ∃ sb, strOf (encL ys) = sb := ⟨_, rfl⟩
      have HCV := Lib.hid (show ∀ w', Below w8.heap.size w8 w' → (convert 23 9 (.slice pb L cb)).run Try.prog w' = .ok (.string sb) w' ∧ (convert 23 9 (.slice pa L ca)).run Try.prog w' = .ok (.string sb) w' from fun w' h => by
        have hf := HF8.out.of_below h
        obtain ⟨p', c', e', hs', hp', -⟩ := (HOW8.out.of_below h).shape
        injection e' with e1 e2 e3
        subst e1 e3
        rw [← hsb]
        exact ⟨conv_str w' pb _ L cb hf.sl HLL.out hf.nil, conv_str w' _ _ L _ hs' HLL.out hp'⟩)
      have HSB := Lib.hid hsb
      clear hsb
      have HNEG := Lib.hid (show Calls Try.prog 12 #[.pointer (some ⟨bW, 0, none⟩), .int .i64 (-1)] w8.drew fun e w' => e = .returned (.bool false) ∧ Below w8.heap.size w8 w' from
        (HT.out.neg bW w8.drew ⟨bW, 0, none⟩ g (encL ys) (-1) (HT.out.keep HW8.out ((Below.refl _ _).drew)) (by decide)).mono fun e w' ⟨h1, h2⟩ => ⟨h1, ((Below.refl w8.heap.size w8).drew).trans h2⟩)
      have HDN := Lib.hid (show ∀ w9, Below w8.heap.size w8 w9 → Calls Try.prog 11 #[.pointer (some ⟨bW, 0, none⟩)] w9 (GivesB w9 (encL ys)) from fun w9 h => HT.out.done bW w9 ⟨bW, 0, none⟩ g _ (HT.out.keep HW8.out h) (by rw [HLL.out]; omega))
      go_wp2_with fail
      refine wp_region_noPanic ?_
      refine wp_region_held_drew (S := (fun w' : World => (convert 23 9 (.slice pb L cb)).run Try.prog w' = .ok (.string sb) w' ∧ (convert 23 9 (.slice pa L ca)).run Try.prog w' = .ok (.string sb) w')) (by kernel_rfl) (HCV.out _ ((Below.refl _ _).drew)) (fun hHeld => ?_)
      refine wpAnyH_take (i := 0) (v := ?_) (by simp only [List.getElem?_toArray, List.getElem?_cons_succ, List.getElem?_cons_zero]; exact rfl) (by kernel_rfl) (by kernel_rfl) (by kernel_rfl) (fun _ _ _ h => h) (Or.inl ⟨by rfl, ?_⟩) (by assumption) ?_
      rotate_left 1
      · (intro w hSw; (try dsimp only at hSw); go_simp; try with_reducible rfl)
      try simp only [Act.put, List.setIfInBounds_toArray, List.set_cons_zero, List.set_cons_succ]
      refine wpAnyH_take (i := 1) (v := ?_) (by simp only [List.getElem?_toArray, List.getElem?_cons_succ, List.getElem?_cons_zero]; exact rfl) (by kernel_rfl) (by kernel_rfl) (by kernel_rfl) (fun _ _ _ h => h) (Or.inl ⟨by rfl, ?_⟩) (by assumption) ?_
      rotate_left 1
      · (intro w hSw; (try dsimp only at hSw); go_simp; try with_reducible rfl)
      try simp only [Act.put, List.setIfInBounds_toArray, List.set_cons_zero, List.set_cons_succ]
      refine wpAnyH_take (i := 2) (v := ?_) (by simp only [List.getElem?_toArray, List.getElem?_cons_succ, List.getElem?_cons_zero]; exact rfl) (by kernel_rfl) (by kernel_rfl) (by kernel_rfl) (fun _ _ _ h => h) (Or.inl ⟨by rfl, ?_⟩) (by assumption) ?_
      rotate_left 1
      · (intro w hSw; (try dsimp only at hSw); go_simp; try with_reducible rfl)
      try simp only [Act.put, List.setIfInBounds_toArray, List.set_cons_zero, List.set_cons_succ]
      refine wpAnyH_take (i := 3) (v := ?_) (by simp only [List.getElem?_toArray, List.getElem?_cons_succ, List.getElem?_cons_zero]; exact rfl) (by kernel_rfl) (by kernel_rfl) (by kernel_rfl) (fun _ _ _ h => h) (Or.inl ⟨by rfl, ?_⟩) (by assumption) ?_
      rotate_left 1
      · (intro w hSw; (try dsimp only at hSw); go_simp; try with_reducible rfl)
      try simp only [Act.put, List.setIfInBounds_toArray, List.set_cons_zero, List.set_cons_succ]
      refine wpAnyH_take (i := 4) (v := ?_) (by simp only [List.getElem?_toArray, List.getElem?_cons_succ, List.getElem?_cons_zero]; exact rfl) (by kernel_rfl) (by kernel_rfl) (by kernel_rfl) (fun _ _ _ h => h) (Or.inl ⟨by rfl, ?_⟩) (by assumption) ?_
      rotate_left 1
      · (intro w hSw; (try dsimp only at hSw); go_simp; try with_reducible rfl)
      try simp only [Act.put, List.setIfInBounds_toArray, List.set_cons_zero, List.set_cons_succ]
      refine wpAnyH_take (i := 5) (v := ?_) (by simp only [List.getElem?_toArray, List.getElem?_cons_succ, List.getElem?_cons_zero]; exact rfl) (by kernel_rfl) (by kernel_rfl) (by kernel_rfl) (fun _ _ _ h => h) (Or.inl ⟨by rfl, ?_⟩) (by assumption) ?_
      rotate_left 1
      · (intro w hSw; (try dsimp only at hSw); go_simp; try with_reducible rfl)
      try simp only [Act.put, List.setIfInBounds_toArray, List.set_cons_zero, List.set_cons_succ]
      refine wpAnyH_ready (rs := [6]) (by kernel_rfl) (by simp) ?_
      refine AllReadyH.cons (by simp only [List.getElem?_toArray, List.getElem?_cons_succ, List.getElem?_cons_zero]; exact rfl) (fun K hK => ?_) AllReadyH.nil
      go_simp
      refine HNEG.out.mono ?_
      rintro e w9 ⟨rfl, hB9⟩
      have HB9 := Lib.hid hB9
      clear hB9
      go_wp2_with fail
      refine hK.out _ _ (HCV.out _ HB9.out) (fun hHeld => ?_)
      clear hK K
      try simp only [Act.put, List.setIfInBounds_toArray, List.set_cons_zero, List.set_cons_succ]
      refine wpAnyH_take (i := 7) (v := ?_) (by simp only [List.getElem?_toArray, List.getElem?_cons_succ, List.getElem?_cons_zero]; exact rfl) (by kernel_rfl) (by kernel_rfl) (by kernel_rfl) (fun _ _ _ h => h) (Or.inl ⟨by rfl, ?_⟩) (by assumption) ?_
      rotate_left 1
      · (intro w hSw; (try dsimp only at hSw); go_simp; try with_reducible rfl)
      try simp only [Act.put, List.setIfInBounds_toArray, List.set_cons_zero, List.set_cons_succ]
      refine wpAnyH_take (i := 8) (v := ?_) (by simp only [List.getElem?_toArray, List.getElem?_cons_succ, List.getElem?_cons_zero]; exact rfl) (by kernel_rfl) (by kernel_rfl) (by kernel_rfl) (fun _ _ _ h => h) (Or.inl ⟨by rfl, ?_⟩) (by assumption) ?_
      rotate_left 1
      · (intro w hSw; (try dsimp only at hSw); go_simp; try with_reducible rfl)
      try simp only [Act.put, List.setIfInBounds_toArray, List.set_cons_zero, List.set_cons_succ]
      refine wpAnyH_take (i := 11) (v := ?_) (by simp only [List.getElem?_toArray, List.getElem?_cons_succ, List.getElem?_cons_zero]; exact rfl) (by kernel_rfl) (by kernel_rfl) (by kernel_rfl) (fun _ _ _ h => h) (Or.inl ⟨by rfl, ?_⟩) (by assumption) ?_
      rotate_left 1
      · (intro w hSw; (try dsimp only at hSw); go_simp; try with_reducible rfl)
      try simp only [Act.put, List.setIfInBounds_toArray, List.set_cons_zero, List.set_cons_succ]
      refine wpAnyH_take (i := 12) (v := ?_) (by simp only [List.getElem?_toArray, List.getElem?_cons_succ, List.getElem?_cons_zero]; exact rfl) (by kernel_rfl) (by kernel_rfl) (by kernel_rfl) (fun _ _ _ h => h) (Or.inl ⟨by rfl, ?_⟩) (by assumption) ?_
      rotate_left 1
      · (intro w hSw; (try dsimp only at hSw); go_simp; try with_reducible rfl)
      try simp only [Act.put, List.setIfInBounds_toArray, List.set_cons_zero, List.set_cons_succ]
      refine wpAnyH_ready (rs := [9]) (by kernel_rfl) (by simp) ?_
      refine AllReadyH.cons (by simp only [List.getElem?_toArray, List.getElem?_cons_succ, List.getElem?_cons_zero]; exact rfl) (fun K hK => ?_) AllReadyH.nil
      go_simp
      refine (HDN.out _ HB9.out).mono ?_
      rintro e w10 ⟨v10, rfl, hO10, hB10⟩
      obtain ⟨p10, c10, rfl, hs10, hp10, -⟩ := hO10.shape
      have hcv := conv_str w10 p10 _ _ c10 hs10 rfl hp10
      rw [HSB.out] at hcv
      have HB10 := Lib.hid (HB9.out.trans (hB10.mono HB9.out.size))
      clear hO10 hB10 hs10 hp10
      go_wp2_with fail
      refine hK.out _ _ (HCV.out _ HB10.out) (fun hHeld => ?_)
      clear hK K
      try simp only [Act.put, List.setIfInBounds_toArray, List.set_cons_zero, List.set_cons_succ]
      refine wpAnyH_ready (rs := [10]) (by kernel_rfl) (by simp) ?_
      refine AllReadyH.cons (by simp only [List.getElem?_toArray, List.getElem?_cons_succ, List.getElem?_cons_zero]; exact rfl) (fun K hK => ?_) AllReadyH.nil
      go_simp
      refine hK.out _ _ (HCV.out _ HB10.out) (fun hHeld => ?_)
      clear hK K
      try simp only [Act.put, List.setIfInBounds_toArray, List.set_cons_zero, List.set_cons_succ]
      refine wpAnyH_take (i := 13) (v := ?_) (by simp only [List.getElem?_toArray, List.getElem?_cons_succ, List.getElem?_cons_zero]; exact rfl) (by kernel_rfl) (by kernel_rfl) (by kernel_rfl) (fun _ _ _ h => h) (Or.inl ⟨by rfl, ?_⟩) (by assumption) ?_
      rotate_left 1
      · (intro w hSw; (try dsimp only at hSw); go_simp; try with_reducible rfl)
      try simp only [Act.put, List.setIfInBounds_toArray, List.set_cons_zero, List.set_cons_succ]
      refine wpAnyH_take (i := 14) (v := ?_) (by simp only [List.getElem?_toArray, List.getElem?_cons_succ, List.getElem?_cons_zero]; exact rfl) (by kernel_rfl) (by kernel_rfl) (by kernel_rfl) (fun _ _ _ h => h) (Or.inl ⟨by rfl, ?_⟩) (by assumption) ?_
      rotate_left 1
      · (intro w hSw; (try dsimp only at hSw); go_simp; try with_reducible rfl)
      try simp only [Act.put, List.setIfInBounds_toArray, List.set_cons_zero, List.set_cons_succ]
      refine wpAnyH_done (by kernel_rfl) ?_ _
      refine NoPanic.normal ?_
      clear hcv
      have hF10 := HF8.out.of_below HB10.out
      have HOW10 := Lib.hid (HOW8.out.of_below HB10.out)
      have HW10 := Lib.hid (HT.out.keep HW8.out HB10.out)
      have hz10 : w8.heap.size ≤ w10.heap.size := HB10.out.size
      have HBV10 := Lib.hid (HBV8.out.trans (HB10.out.mono (by omega)))
      obtain ⟨dd, od, hd1, -, hd3, hd4⟩ := hF10.blk (w' := w10) w10.heap.size (by omega) rfl (fun d _ _ => rfl)
      rw [HLL.out] at hd3 hd4
      have HD3 := Lib.hid hd3
      have HD4 := Lib.hid hd4
      clear hF10 hd3 hd4 HNEG HDN HCV HB9 HF8
      go_wp2
      generalize hZ : wr.heap.size = Z at *
      have HZ := Lib.hid hZ
      clear hZ
      have HWRL := Lib.hid (show ∀ k, g = some k → k < Z from fun k hk => (HLW.out.2.2 k hk).2.1)
      have HOWL := Lib.hid (show ∀ k, (Value.slice pa L ca).ownBlock = some k → bW + 1 ≤ k ∧ k < Z from fun k hk => by have h := HOW.out.lt k hk; rw [HZ.out] at h; exact h)
      have hWZ : bW < Z := HLW.out.2.1
      go_loopw [57] (fun vj wz => ∃ j : Nat, j ≤ L ∧ vj = .int .i64 j ∧ Kp dd w10 wz ∧ ∀ j', j' < L → (∃ v : Int, wz.cell? ⟨dd, od + j', none⟩ = some (.int .u8 v)) ∧ wz.frozen? ⟨dd, od + j', none⟩ = false) (fun vj _ => L - (intOf vj).toNat)
      case atStart => exact ⟨0, Nat.zero_le _, rfl, Kp.refl _ _, HD4.out⟩
      case round =>
        obtain ⟨j, hjl, rfl, hKd, hcd⟩ := hrel
        by_cases hj : j < L
        · have hjz : (j : Int) < (L : Int) := by omega
          have hjd : decide ((j : Int) < (L : Int)) = true := decide_eq_true hjz
          obtain rfl := HD3.out (by omega)
          obtain ⟨⟨v, hv⟩, hvf⟩ := hcd j hj
          have HKD := Lib.hid hKd
          have HCD := Lib.hid hcd
          have HJ := Lib.hid hj
          clear hKd hcd
          go_wp2
          have hj := HJ.out
          refine ⟨⟨j + 1, by omega, by go_num, HKD.out.setCell _ _, fun j' hj' => ⟨?_, by rw [World.frozen?_setCell]; exact (HCD.out j' hj').2⟩⟩, by simp [intOf]; omega⟩
          by_cases e : j' = j
          · subst e
            exact ⟨_, World.cell?_setCell_same _ _ _ hv⟩
          · obtain ⟨v', hv'⟩ := (HCD.out j' hj').1
            exact ⟨v', by rw [World.cell?_setCell_other _ _ _ _ (by intro e'; injection e' with _ e2; omega)]; exact hv'⟩
        · have hjz : ¬ (j : Int) < (L : Int) := by omega
          have hjd : decide ((j : Int) < (L : Int)) = false := decide_eq_false hjz
          have hz11 : w10.heap.size ≤ wr.heap.size := hKd.size
          have HW11 := Lib.hid (HT.out.stay _ _ _ _ _ _ HW10.out hKd.size (hKd.block bW (by omega) (by omega)) fun k hk => hKd.block k (by have := HWRL.out k hk; omega) (by have := HWRL.out k hk; omega))
          have HOW11 := Lib.hid (HOW10.out.keep (w' := wr) fun k hk => hKd.block k (by have := (HOWL.out k hk).2; omega) (by have := (HOWL.out k hk).2; omega))
          have HBV11 := Lib.hid (HBV10.out.trans (hKd.below (show bW ≤ dd by omega) (by omega)))
          clear hKd hcd HD3 HD4 HW10 HOW10 HBV10
          have HCV2 := Lib.hid (show ∀ w', Below wr.heap.size wr w' → (convert 23 9 (.slice pa L ca)).run Try.prog w' = .ok (.string sb) w' from fun w' h => by
            obtain ⟨p', c', e', hs', hp', -⟩ := (HOW11.out.of_below h).shape
            injection e' with e1 e2 e3
            subst e1 e3
            rw [← HSB.out]
            exact conv_str w' _ _ L _ hs' HLL.out hp')
          have HDN := Lib.hid (show Calls Try.prog 11 #[.pointer (some ⟨bW, 0, none⟩)] wr.drew (GivesB wr.drew (encL ys)) from HT.out.done bW wr.drew ⟨bW, 0, none⟩ g _ (HT.out.keep HW11.out ((Below.refl _ _).drew)) (by rw [HLL.out]; omega))
          go_wp2_with fail
          refine wp_region_noPanic ?_
          refine wp_region_held_drew (S := (fun w' : World => (convert 23 9 (.slice pa L ca)).run Try.prog w' = .ok (.string sb) w')) (by kernel_rfl) (HCV2.out _ ((Below.refl _ _).drew)) (fun hHeld => ?_)
          refine wpAnyH_take (i := 2) (v := ?_) (by simp only [List.getElem?_toArray, List.getElem?_cons_succ, List.getElem?_cons_zero]; exact rfl) (by kernel_rfl) (by kernel_rfl) (by kernel_rfl) (fun _ _ _ h => h) (Or.inl ⟨by rfl, ?_⟩) (by assumption) ?_
          rotate_left 1
          · (intro w hSw; (try dsimp only at hSw); go_simp; try with_reducible rfl)
          try simp only [Act.put, List.setIfInBounds_toArray, List.set_cons_zero, List.set_cons_succ]
          refine wpAnyH_take (i := 3) (v := ?_) (by simp only [List.getElem?_toArray, List.getElem?_cons_succ, List.getElem?_cons_zero]; exact rfl) (by kernel_rfl) (by kernel_rfl) (by kernel_rfl) (fun _ _ _ h => h) (Or.inl ⟨by rfl, ?_⟩) (by assumption) ?_
          rotate_left 1
          · (intro w hSw; (try dsimp only at hSw); go_simp; try with_reducible rfl)
          try simp only [Act.put, List.setIfInBounds_toArray, List.set_cons_zero, List.set_cons_succ]
          refine wpAnyH_ready (rs := [0]) (by kernel_rfl) (by simp) ?_
          refine AllReadyH.cons (by simp only [List.getElem?_toArray, List.getElem?_cons_succ, List.getElem?_cons_zero]; exact rfl) (fun K hK => ?_) AllReadyH.nil
          go_simp
          refine HDN.out.mono ?_
          rintro e w13 ⟨v13, rfl, hO13, hB13⟩
          obtain ⟨p13, c13, rfl, hs13, hp13, -⟩ := hO13.shape
          have hcv := conv_str w13 p13 _ _ c13 hs13 rfl hp13
          rw [HSB.out] at hcv
          have HB13 := Lib.hid (((Below.refl wr.heap.size wr).drew).trans hB13)
          clear hO13 hB13 hs13 hp13
          go_wp2_with fail
          refine hK.out _ _ (HCV2.out _ HB13.out) (fun hHeld => ?_)
          clear hK K
          try simp only [Act.put, List.setIfInBounds_toArray, List.set_cons_zero, List.set_cons_succ]
          refine wpAnyH_ready (rs := [1]) (by kernel_rfl) (by simp) ?_
          refine AllReadyH.cons (by simp only [List.getElem?_toArray, List.getElem?_cons_succ, List.getElem?_cons_zero]; exact rfl) (fun K hK => ?_) AllReadyH.nil
          go_simp
          refine hK.out _ _ (HCV2.out _ HB13.out) (fun hHeld => ?_)
          clear hK K
          try simp only [Act.put, List.setIfInBounds_toArray, List.set_cons_zero, List.set_cons_succ]
          refine wpAnyH_take (i := 4) (v := ?_) (by simp only [List.getElem?_toArray, List.getElem?_cons_succ, List.getElem?_cons_zero]; exact rfl) (by kernel_rfl) (by kernel_rfl) (by kernel_rfl) (fun _ _ _ h => h) (Or.inl ⟨by rfl, ?_⟩) (by assumption) ?_
          rotate_left 1
          · (intro w hSw; (try dsimp only at hSw); go_simp; try with_reducible rfl)
          try simp only [Act.put, List.setIfInBounds_toArray, List.set_cons_zero, List.set_cons_succ]
          refine wpAnyH_done (by kernel_rfl) ?_ _
          refine NoPanic.normal ?_
          clear hcv HCV2 HDN
          have hz13 : wr.heap.size ≤ w13.heap.size := HB13.out.size
          have HOW13 := Lib.hid (HOW11.out.of_below HB13.out)
          have HBV13 := Lib.hid (HBV11.out.trans (HB13.out.mono (by omega)))
          obtain ⟨M, hM⟩ : ∃ M, w13.heap.size = M := ⟨_, rfl⟩
          have hU : Below w13.heap.size w13 (w13.alloc (.cells #[.bool true] 4)) := (Below.refl _ _).alloc (Nat.le_refl _) _
          have hzU : (w13.alloc (.cells #[.bool true] 4)).heap.size = M + 1 := by rw [World.size_alloc, hM]
          have hcU : (w13.alloc (.cells #[.bool true] 4)).cell? ⟨w13.heap.size, 0, none⟩ = some (.bool true) := World.cell?_alloc_new _ _ _ _
          have hfU : (w13.alloc (.cells #[.bool true] 4)).frozen? ⟨w13.heap.size, 0, none⟩ = false := by go_simp
          have hVM : bW < M := by omega
          have hbm : w13.cell? ⟨w.heap.size, 0, none⟩ = some (.slice pm mm cm) := by
            have h : w.heap.size < bW := by omega
            rw [HBV13.out.cell (by exact h)]; exact HY3.out
          have hbx13 : w13.cell? ⟨bx, 0, none⟩ = some (.slice px m cx) := by rw [HBV13.out.cell (by exact hbxW)]; exact HX3.out
          have hsm13 := HSM3.out.of_below (show Below V0.heap.size V0 w13 by rw [HZ3.out]; exact HBV13.out)
          have hI13 := HI3.out.of_below (show Below V0.heap.size V0 w13 by rw [HZ3.out]; exact HBV13.out)
          have HU := Lib.hid hU
          have HZU := Lib.hid hzU
          rw [hM] at hcU hfU
          have HCU := Lib.hid (And.intro hcU hfU)
          have HBM13 := Lib.hid hbm
          have HBX13 := Lib.hid hbx13
          have HSM13 := Lib.hid hsm13
          have HI13 := Lib.hid hI13
          have hbmo : (w13.alloc (.cells #[.bool true] 4)).cell? ⟨w.heap.size, 0, none⟩ = some (.slice pm mm cm) := by rw [hU.cell (by exact World.block_lt_of_cell? w13 _ hbm)]; exact hbm
          have HBU := Lib.hid hbmo
          have HML2 := Lib.hid (show (encL ys ++ more).length = L + mm from by rw [List.length_append, HLL.out, HML.out])
          clear hU hzU hcU hfU hbm hbx13 hsm13 hI13 hbmo
          go_wp2_with fail
          generalize (w13.alloc (.cells #[.bool true] 4)) = u at *
          rw [hM] at HU
          try rw [hM]
          have HMM := Lib.hid hM
          clear hM
          -- what stands of old in a world that came of u
          have HOLD := Lib.hid (show ∀ x, Below (M + 1) u x → x.cell? ⟨w.heap.size, 0, none⟩ = some (.slice pm mm cm) ∧ Sl x pm more ∧ Sl x pa (encL ys) ∧ Below M w13 x from fun x hx => by
            have hb : Below M w13 x := HU.out.trans (hx.mono (Nat.le_succ M))
            have hb2 : Below w13.heap.size w13 x := by rw [HMM.out]; exact hb
            obtain ⟨p', c', e', hs', -, -⟩ := HOW13.out.shape
            injection e' with e1 e2 e3
            subst e1
            exact ⟨by rw [hb2.cell (by exact World.block_lt_of_cell? w13 _ HBM13.out)]; exact HBM13.out, HSM13.out.of_below hb2, hs'.of_below hb2, hb⟩)
          have hpa0 : pa = none → ca = 0 := by
            obtain ⟨p', c', e', -, hp', -⟩ := HOW13.out.shape
            injection e' with e1 e2 e3
            subst e1 e3
            exact hp'
          refine wp_region_noPanic ?_
          refine wp_region_held_drew (S := (fun w' : World => w'.cell? ⟨w.heap.size, 0, none⟩ = some (.slice pm mm cm))) (by kernel_rfl) HBU.out (fun hHeld => ?_)
          have HX := Lib.hid (show Below (M + 1) u u.drew from (Below.refl _ _).drew)
          generalize u.drew = x0 at *
          refine wpAnyH_take (i := 1) (v := ?_) (by simp only [List.getElem?_toArray, List.getElem?_cons_succ, List.getElem?_cons_zero]; exact rfl) (by kernel_rfl) (by kernel_rfl) (by kernel_rfl) (fun _ _ _ h => h) (Or.inl ⟨by rfl, ?_⟩) (by assumption) ?_
          rotate_left 1
          · (intro w hSw; (try dsimp only at hSw); go_simp; try with_reducible rfl)
          try simp only [Act.put, List.setIfInBounds_toArray, List.set_cons_zero, List.set_cons_succ]
          refine wpAnyH_take (i := 3) (v := ?_) (by simp only [List.getElem?_toArray, List.getElem?_cons_succ, List.getElem?_cons_zero]; exact rfl) (by kernel_rfl) (by kernel_rfl) (by kernel_rfl) (fun _ _ _ h => h) (Or.inl ⟨by rfl, ?_⟩) (by assumption) ?_
          rotate_left 1
          · (intro w hSw; (try dsimp only at hSw); go_simp; try with_reducible rfl)
          try simp only [Act.put, List.setIfInBounds_toArray, List.set_cons_zero, List.set_cons_succ]
          refine wpAnyH_ready (rs := [0, 5]) (by kernel_rfl) (by simp) ?_
          refine AllReadyH.cons (by simp only [List.getElem?_toArray, List.getElem?_cons_succ, List.getElem?_cons_zero]; exact rfl) (fun K hK => ?_) (AllReadyH.cons (by simp only [List.getElem?_toArray, List.getElem?_cons_succ, List.getElem?_cons_zero]; exact rfl) (fun K hK => ?_) AllReadyH.nil)
          · go_simp
            have hb : Below (M + 1) u (x0.alloc (.cells #[] 5)) := HX.out.alloc (by have h := HX.out.size; have h2 := HZU.out; omega) _
            refine hK.out _ _ (HOLD.out _ hb).1 (fun hHeld => ?_)
            clear hK K
            try simp only [Act.put, List.setIfInBounds_toArray, List.set_cons_zero, List.set_cons_succ]
            have HO := Lib.hid (OwnB.empty x0 (M + 1) (by have h := HX.out.size; have h2 := HZU.out; omega))
            have HX := Lib.hid hb
            clear hb
            generalize hv0 : Value.slice (some ⟨x0.heap.size, 0, none⟩) 0 0 = v0 at *
            clear hv0
            generalize x0.alloc (.cells #[] 5) = x1 at *
            refine wpAnyH_ready (rs := [2, 5]) (by kernel_rfl) (by simp) ?_
            refine AllReadyH.cons (by simp only [List.getElem?_toArray, List.getElem?_cons_succ, List.getElem?_cons_zero]; exact rfl) (fun K hK => ?_) (AllReadyH.cons (by simp only [List.getElem?_toArray, List.getElem?_cons_succ, List.getElem?_cons_zero]; exact rfl) (fun K hK => ?_) AllReadyH.nil)
            · refine step_appendL _ rfl (.tmp 72) (.tmp 73) rfl (M + 1) v0 [] rfl HO.out pa L ca (encL ys) HLL.out rfl (HOLD.out _ HX.out).2.2.1 hpa0 (by simp; omega) (by have h := HX.out.size; have h2 := HZU.out; omega) ?_
              rintro v2 x2 hO hg hor
              have hb : Below (M + 1) u x2 := HX.out.grown hg (by have h := HX.out.size; have h2 := HZU.out; omega) (fun j hj => (HO.out.lt j hj).1)
              refine hK.out _ _ (HOLD.out _ hb).1 (fun hHeld => ?_)
              clear hK K
              try simp only [Act.put, List.setIfInBounds_toArray, List.set_cons_zero, List.set_cons_succ]
              have HX := Lib.hid hb
              have HO := Lib.hid (show OwnB x2 (M + 1) v2 (encL ys) from by rw [List.nil_append] at hO; exact hO)
              clear hb hO hg hor
              refine wpAnyH_ready (rs := [4, 5]) (by kernel_rfl) (by simp) ?_
              refine AllReadyH.cons (by simp only [List.getElem?_toArray, List.getElem?_cons_succ, List.getElem?_cons_zero]; exact rfl) (fun K hK => ?_) (AllReadyH.cons (by simp only [List.getElem?_toArray, List.getElem?_cons_succ, List.getElem?_cons_zero]; exact rfl) (fun K hK => ?_) AllReadyH.nil)
              · refine step_appendL _ rfl (.tmp 74) (.tmp 75) rfl (M + 1) v2 (encL ys) rfl HO.out pm mm cm more HML.out rfl (HOLD.out _ HX.out).2.1 HPM.out (by rw [HLL.out]; omega) (by have h := HX.out.size; have h2 := HZU.out; omega) ?_
                rintro v4 x3 hO hg hor
                have hb : Below (M + 1) u x3 := HX.out.grown hg (by have h := HX.out.size; have h2 := HZU.out; omega) (fun j hj => (HO.out.lt j hj).1)
                refine hK.out _ _ (HOLD.out _ hb).1 (fun hHeld => ?_)
                clear hK K
                try simp only [Act.put, List.setIfInBounds_toArray, List.set_cons_zero, List.set_cons_succ]
                have HX := Lib.hid hb
                have HO := Lib.hid hO
                clear hb hO hg hor
                refine wpAnyH_ready (rs := [5]) (by kernel_rfl) (by simp) ?_
                refine AllReadyH.cons (by simp only [List.getElem?_toArray, List.getElem?_cons_succ, List.getElem?_cons_zero]; exact rfl) (fun K hK => ?_) AllReadyH.nil
                · go_simp
                  have hb : Below (M + 1) u (x3.alloc (.cells #[.slice none 0 0] 23)) := HX.out.alloc (by have h := HX.out.size; have h2 := HZU.out; omega) _
                  refine hK.out _ _ (HOLD.out _ hb).1 (fun hHeld => ?_)
                  clear hK K
                  try simp only [Act.put, List.setIfInBounds_toArray, List.set_cons_zero, List.set_cons_succ]
                  obtain ⟨ba, hba⟩ : ∃ ba, x3.heap.size = ba := ⟨_, rfl⟩
                  have hbaM : M + 1 ≤ ba := by have h := HX.out.size; have h2 := HZU.out; omega
                  have HA := Lib.hid (show (x3.alloc (.cells #[.slice none 0 0] 23)).cell? ⟨ba, 0, none⟩ = some (.slice none 0 0) ∧ (x3.alloc (.cells #[.slice none 0 0] 23)).frozen? ⟨ba, 0, none⟩ = false from by rw [← hba]; exact ⟨World.cell?_alloc_new _ _ _ _, by go_simp⟩)
                  have HNE := Lib.hid (show v4.ownBlock ≠ some ba from fun e => by have h := (HO.out.lt ba e).2; omega)
                  have HO := Lib.hid (HO.out.of_below ((Below.refl x3.heap.size x3).alloc (Nat.le_refl _) (.cells #[.slice none 0 0] 23)))
                  have HX := Lib.hid hb
                  clear hb
                  rw [hba]
                  clear hba
                  generalize (x3.alloc (.cells #[.slice none 0 0] 23)) = x4 at *
                  obtain ⟨po, co, hve, hSo, hPo, hCo⟩ := HO.out.shape
                  rw [HML2.out] at hve hCo
                  subst hve
                  have HPB := Lib.hid (show ∀ c o, po = some ⟨c, o, none⟩ → M + 1 ≤ c ∧ c ≠ ba from fun c o e => ⟨(HO.out.lt c (by rw [e]; rfl)).1, fun e2 => HNE.out (by rw [e, ← e2]; rfl)⟩)
                  have HSo := Lib.hid hSo
                  have HPo := Lib.hid hPo
                  obtain ⟨ha1, ha2⟩ := HA.out
                  have hst : (x4.setCell ⟨ba, 0, none⟩ (.slice po (L + mm) co)).cell? ⟨w.heap.size, 0, none⟩ = some (.slice pm mm cm) := by rw [World.cell?_setCell_far _ _ _ _ (show ba ≠ w.heap.size by omega)]; exact (HOLD.out _ HX.out).1
                  clear hSo hPo
                  refine wpAnyH_ready (rs := [6]) (by kernel_rfl) (by simp) ?_
                  refine AllReadyH.cons (by simp only [List.getElem?_toArray, List.getElem?_cons_succ, List.getElem?_cons_zero]; exact rfl) (fun K hK => ?_) AllReadyH.nil
                  go_simp
                  refine hK.out _ _ hst (fun hHeld => ?_)
                  clear hK K
                  try simp only [Act.put, List.setIfInBounds_toArray, List.set_cons_zero, List.set_cons_succ]
                  refine wpAnyH_done (by kernel_rfl) ?_ _
                  refine NoPanic.normal ?_
                  have HBF := Lib.hid (show Below (M + 1) u (x4.setCell ⟨ba, 0, none⟩ (.slice po (L + mm) co)) from HX.out.setCell (show M + 1 ≤ (⟨ba, 0, none⟩ : Addr).block from hbaM) _)
                  have HCF := Lib.hid (show (x4.setCell ⟨ba, 0, none⟩ (.slice po (L + mm) co)).cell? ⟨ba, 0, none⟩ = some (.slice po (L + mm) co) from World.cell?_setCell_same _ _ _ ha1)
                  have HSF := Lib.hid (show Sl (x4.setCell ⟨ba, 0, none⟩ (.slice po (L + mm) co)) po (encL ys ++ more) from fun j hj => by
                    obtain ⟨d, o', e, hx⟩ := HSo.out j hj
                    exact ⟨d, o', e, by rw [World.cell?_setCell_far _ _ _ _ (show ba ≠ d from Ne.symm (HPB.out d o' e).2)]; exact hx⟩)
                  clear ha1 ha2 hst HA HNE HO HX
                  generalize x4.setCell ⟨ba, 0, none⟩ (.slice po (L + mm) co) = xf at *
                  have hM1 : M < xf.heap.size := by have h := HBF.out.size; have h2 := HZU.out; omega
                  have hfc : xf.cell? ⟨M, 0, none⟩ = some (.bool true) := by rw [HBF.out.cell (by exact Nat.lt_succ_self M)]; exact HCU.out.1
                  have hff : xf.frozen? ⟨M, 0, none⟩ = false := by rw [HBF.out.frozen (by exact Nat.lt_succ_self M)]; exact HCU.out.2
                  obtain ⟨Cf, hCf⟩ : ∃ Cf : Nat, (if mm = 0 then 0 else 6) = Cf := ⟨_, rfl⟩
                  have HREAD := Lib.hid (show Calls Try.prog 13 #[.slice po (L + mm) co, .func (.func 14) #[] #[.pointer (some ⟨ba, 0, none⟩), .pointer (some ⟨bx, 0, none⟩), .pointer (some ⟨M, 0, none⟩), .pointer (some ⟨w.heap.size, 0, none⟩)]] xf fun e w' => e = .returned (.int .i64 (Cf : Int)) ∧ w'.cell? ⟨M, 0, none⟩ = some (.bool true) ∧ Kp M xf w' from by
                    have hold := HOLD.out _ HBF.out
                    have h := HS.out.read (encL ys ++ more) po (L + mm) co 14 #[.pointer (some ⟨ba, 0, none⟩), .pointer (some ⟨bx, 0, none⟩), .pointer (some ⟨M, 0, none⟩), .pointer (some ⟨w.heap.size, 0, none⟩)] xf (fun c w' => c = Cf ∧ w'.cell? ⟨M, 0, none⟩ = some (.bool true) ∧ Kp M xf w')
                      HML2.out HSF.out HPo.out hCo (by omega) enters_backs
                      (fun c x y ⟨h1, h2, h3⟩ k => ⟨h1, by rw [k.cell (by exact hM1)]; exact h2, h3.thenBelow k⟩)
                      (fun a w' hb hr => (backs_in HS.out w13 xf ys more px po po m cx (L + mm) co mm cm M bx ba w.heap.size pm a w' HM.out (fun y hy => ⟨(HOK.out y hy).1, (HOK.out y hy).2, HSZ.out y hy⟩) hlen HI13.out HBX13.out HBM13.out HMM.out hold.2.2.2 hM1 HCF.out HML2.out HML.out h50 hfc hff hb hr (fun c o e => by have := (HPB.out c o e).1; omega)).mono fun e w2 ⟨h1, h2, h3, h4, hlo⟩ => ⟨hlo, .inl ⟨more, h1, h2, by
                        rw [← hCf]
                        by_cases h0 : mm = 0
                        · rw [if_pos h0, if_pos (List.eq_nil_of_length_eq_zero (by rw [HML.out]; exact h0))]
                        · rw [if_neg h0, if_neg (fun e => h0 (by rw [← HML.out, e]; rfl))], h3, h4⟩⟩)
                    exact h.mono fun e w' ⟨c, h1, h2, h3⟩ => ⟨by rw [h1, h2], h3⟩)
                  have HCf := Lib.hid hCf
                  have hcf := HCF.out
                  clear hCf hfc hff
                  go_wp2_with fail
                  refine HREAD.out.mono ?_
                  rintro e w9 ⟨rfl, ok9, hK9⟩
                  have bm9 : w9.cell? ⟨w.heap.size, 0, none⟩ = some (.slice pm mm cm) := by
                    have h := (HOLD.out _ HBF.out).1
                    rw [hK9.cell (by exact World.block_lt_of_cell? xf _ h) (by show w.heap.size ≠ M; omega)]
                    exact h
                  have HEND := Lib.hid (show Below w.heap.size w w9 from (HB3.out.trans ((HBV13.out.trans (((HOLD.out _ HBF.out).2.2.2.trans (hK9.below (Nat.le_refl M) (Nat.le_of_lt hM1))).mono (Nat.le_of_lt hVM))).mono (by omega))))
                  clear hK9 HREAD hcf
                  by_cases h0 : mm = 0
                  · have q1 : ((Cf : Int) == 0) = true := by rw [← HCf.out, if_pos h0]; rfl
                    have q2 : ((mm : Int) == 0) = true := by rw [h0]; rfl
                    go_wp2
                    go_ret
                    exact ⟨rfl, HEND.out⟩
                  · have q1 : ((Cf : Int) == 0) = false := by rw [← HCf.out, if_neg h0]; rfl
                    have q2 : ((mm : Int) == 0) = false := by simp; omega
                    have q3 : ((Cf : Int) == 6) = true := by rw [← HCf.out, if_neg h0]; rfl
                    go_wp2
                    go_ret
                    exact ⟨rfl, HEND.out⟩
              · go_simp
                have hb : Below (M + 1) u (x2.alloc (.cells #[.slice none 0 0] 23)) := HX.out.alloc (by have h := HX.out.size; have h2 := HZU.out; omega) _
                refine hK.out _ _ (HOLD.out _ hb).1 (fun hHeld => ?_)
                clear hK K
                try simp only [Act.put, List.setIfInBounds_toArray, List.set_cons_zero, List.set_cons_succ]
                obtain ⟨ba, hba⟩ : ∃ ba, x2.heap.size = ba := ⟨_, rfl⟩
                have hbaM : M + 1 ≤ ba := by have h := HX.out.size; have h2 := HZU.out; omega
                have HA := Lib.hid (show (x2.alloc (.cells #[.slice none 0 0] 23)).cell? ⟨ba, 0, none⟩ = some (.slice none 0 0) ∧ (x2.alloc (.cells #[.slice none 0 0] 23)).frozen? ⟨ba, 0, none⟩ = false from by rw [← hba]; exact ⟨World.cell?_alloc_new _ _ _ _, by go_simp⟩)
                have HNE := Lib.hid (show v2.ownBlock ≠ some ba from fun e => by have h := (HO.out.lt ba e).2; omega)
                have HO := Lib.hid (HO.out.of_below ((Below.refl x2.heap.size x2).alloc (Nat.le_refl _) (.cells #[.slice none 0 0] 23)))
                have HX := Lib.hid hb
                clear hb
                rw [hba]
                clear hba
                generalize (x2.alloc (.cells #[.slice none 0 0] 23)) = x3 at *
                refine wpAnyH_ready (rs := [4]) (by kernel_rfl) (by simp) ?_
                refine AllReadyH.cons (by simp only [List.getElem?_toArray, List.getElem?_cons_succ, List.getElem?_cons_zero]; exact rfl) (fun K hK => ?_) AllReadyH.nil
                · refine step_appendL _ rfl (.tmp 74) (.tmp 75) rfl (M + 1) v2 (encL ys) rfl HO.out pm mm cm more HML.out rfl (HOLD.out _ HX.out).2.1 HPM.out (by rw [HLL.out]; omega) (by have h := HX.out.size; have h2 := HZU.out; omega) ?_
                  rintro v4 x4 hO hg hor
                  have hb : Below (M + 1) u x4 := HX.out.grown hg (by have h := HX.out.size; have h2 := HZU.out; omega) (fun j hj => (HO.out.lt j hj).1)
                  refine hK.out _ _ (HOLD.out _ hb).1 (fun hHeld => ?_)
                  clear hK K
                  try simp only [Act.put, List.setIfInBounds_toArray, List.set_cons_zero, List.set_cons_succ]
                  have hlt := World.block_lt_of_cell? x3 _ HA.out.1
                  have HA := Lib.hid (show x4.cell? ⟨ba, 0, none⟩ = some (.slice none 0 0) ∧ x4.frozen? ⟨ba, 0, none⟩ = false from ⟨hg.cell HA.out.1 (fun e => HNE.out e.symm), by rw [hg.frozen_far _ (by exact hlt) (fun e => HNE.out e.symm)]; exact HA.out.2⟩)
                  have HNE := Lib.hid (show v4.ownBlock ≠ some ba from fun e => by
                    rcases hor with h | h
                    · exact HNE.out (by rw [← h]; exact e)
                    · rw [h] at e
                      injection e with e
                      have h2 : ba < x3.heap.size := hlt
                      omega)
                  clear hlt
                  have HX := Lib.hid hb
                  have HO := Lib.hid hO
                  clear hb hO hg hor
                  obtain ⟨po, co, hve, hSo, hPo, hCo⟩ := HO.out.shape
                  rw [HML2.out] at hve hCo
                  subst hve
                  have HPB := Lib.hid (show ∀ c o, po = some ⟨c, o, none⟩ → M + 1 ≤ c ∧ c ≠ ba from fun c o e => ⟨(HO.out.lt c (by rw [e]; rfl)).1, fun e2 => HNE.out (by rw [e, ← e2]; rfl)⟩)
                  have HSo := Lib.hid hSo
                  have HPo := Lib.hid hPo
                  obtain ⟨ha1, ha2⟩ := HA.out
                  have hst : (x4.setCell ⟨ba, 0, none⟩ (.slice po (L + mm) co)).cell? ⟨w.heap.size, 0, none⟩ = some (.slice pm mm cm) := by rw [World.cell?_setCell_far _ _ _ _ (show ba ≠ w.heap.size by omega)]; exact (HOLD.out _ HX.out).1
                  clear hSo hPo
                  refine wpAnyH_ready (rs := [6]) (by kernel_rfl) (by simp) ?_
                  refine AllReadyH.cons (by simp only [List.getElem?_toArray, List.getElem?_cons_succ, List.getElem?_cons_zero]; exact rfl) (fun K hK => ?_) AllReadyH.nil
                  go_simp
                  refine hK.out _ _ hst (fun hHeld => ?_)
                  clear hK K
                  try simp only [Act.put, List.setIfInBounds_toArray, List.set_cons_zero, List.set_cons_succ]
                  refine wpAnyH_done (by kernel_rfl) ?_ _
                  refine NoPanic.normal ?_
                  have HBF := Lib.hid (show Below (M + 1) u (x4.setCell ⟨ba, 0, none⟩ (.slice po (L + mm) co)) from HX.out.setCell (show M + 1 ≤ (⟨ba, 0, none⟩ : Addr).block from hbaM) _)
                  have HCF := Lib.hid (show (x4.setCell ⟨ba, 0, none⟩ (.slice po (L + mm) co)).cell? ⟨ba, 0, none⟩ = some (.slice po (L + mm) co) from World.cell?_setCell_same _ _ _ ha1)
                  have HSF := Lib.hid (show Sl (x4.setCell ⟨ba, 0, none⟩ (.slice po (L + mm) co)) po (encL ys ++ more) from fun j hj => by
                    obtain ⟨d, o', e, hx⟩ := HSo.out j hj
                    exact ⟨d, o', e, by rw [World.cell?_setCell_far _ _ _ _ (show ba ≠ d from Ne.symm (HPB.out d o' e).2)]; exact hx⟩)
                  clear ha1 ha2 hst HA HNE HO HX
                  generalize x4.setCell ⟨ba, 0, none⟩ (.slice po (L + mm) co) = xf at *
                  have hM1 : M < xf.heap.size := by have h := HBF.out.size; have h2 := HZU.out; omega
                  have hfc : xf.cell? ⟨M, 0, none⟩ = some (.bool true) := by rw [HBF.out.cell (by exact Nat.lt_succ_self M)]; exact HCU.out.1
                  have hff : xf.frozen? ⟨M, 0, none⟩ = false := by rw [HBF.out.frozen (by exact Nat.lt_succ_self M)]; exact HCU.out.2
                  obtain ⟨Cf, hCf⟩ : ∃ Cf : Nat, (if mm = 0 then 0 else 6) = Cf := ⟨_, rfl⟩
                  have HREAD := Lib.hid (show Calls Try.prog 13 #[.slice po (L + mm) co, .func (.func 14) #[] #[.pointer (some ⟨ba, 0, none⟩), .pointer (some ⟨bx, 0, none⟩), .pointer (some ⟨M, 0, none⟩), .pointer (some ⟨w.heap.size, 0, none⟩)]] xf fun e w' => e = .returned (.int .i64 (Cf : Int)) ∧ w'.cell? ⟨M, 0, none⟩ = some (.bool true) ∧ Kp M xf w' from by
                    have hold := HOLD.out _ HBF.out
                    have h := HS.out.read (encL ys ++ more) po (L + mm) co 14 #[.pointer (some ⟨ba, 0, none⟩), .pointer (some ⟨bx, 0, none⟩), .pointer (some ⟨M, 0, none⟩), .pointer (some ⟨w.heap.size, 0, none⟩)] xf (fun c w' => c = Cf ∧ w'.cell? ⟨M, 0, none⟩ = some (.bool true) ∧ Kp M xf w')
                      HML2.out HSF.out HPo.out hCo (by omega) enters_backs
                      (fun c x y ⟨h1, h2, h3⟩ k => ⟨h1, by rw [k.cell (by exact hM1)]; exact h2, h3.thenBelow k⟩)
                      (fun a w' hb hr => (backs_in HS.out w13 xf ys more px po po m cx (L + mm) co mm cm M bx ba w.heap.size pm a w' HM.out (fun y hy => ⟨(HOK.out y hy).1, (HOK.out y hy).2, HSZ.out y hy⟩) hlen HI13.out HBX13.out HBM13.out HMM.out hold.2.2.2 hM1 HCF.out HML2.out HML.out h50 hfc hff hb hr (fun c o e => by have := (HPB.out c o e).1; omega)).mono fun e w2 ⟨h1, h2, h3, h4, hlo⟩ => ⟨hlo, .inl ⟨more, h1, h2, by
                        rw [← hCf]
                        by_cases h0 : mm = 0
                        · rw [if_pos h0, if_pos (List.eq_nil_of_length_eq_zero (by rw [HML.out]; exact h0))]
                        · rw [if_neg h0, if_neg (fun e => h0 (by rw [← HML.out, e]; rfl))], h3, h4⟩⟩)
                    exact h.mono fun e w' ⟨c, h1, h2, h3⟩ => ⟨by rw [h1, h2], h3⟩)
                  have HCf := Lib.hid hCf
                  have hcf := HCF.out
                  clear hCf hfc hff
                  go_wp2_with fail
                  refine HREAD.out.mono ?_
                  rintro e w9 ⟨rfl, ok9, hK9⟩
                  have bm9 : w9.cell? ⟨w.heap.size, 0, none⟩ = some (.slice pm mm cm) := by
                    have h := (HOLD.out _ HBF.out).1
                    rw [hK9.cell (by exact World.block_lt_of_cell? xf _ h) (by show w.heap.size ≠ M; omega)]
                    exact h
                  have HEND := Lib.hid (show Below w.heap.size w w9 from (HB3.out.trans ((HBV13.out.trans (((HOLD.out _ HBF.out).2.2.2.trans (hK9.below (Nat.le_refl M) (Nat.le_of_lt hM1))).mono (Nat.le_of_lt hVM))).mono (by omega))))
                  clear hK9 HREAD hcf
                  by_cases h0 : mm = 0
                  · have q1 : ((Cf : Int) == 0) = true := by rw [← HCf.out, if_pos h0]; rfl
                    have q2 : ((mm : Int) == 0) = true := by rw [h0]; rfl
                    go_wp2
                    go_ret
                    exact ⟨rfl, HEND.out⟩
                  · have q1 : ((Cf : Int) == 0) = false := by rw [← HCf.out, if_neg h0]; rfl
                    have q2 : ((mm : Int) == 0) = false := by simp; omega
                    have q3 : ((Cf : Int) == 6) = true := by rw [← HCf.out, if_neg h0]; rfl
                    go_wp2
                    go_ret
                    exact ⟨rfl, HEND.out⟩
            · go_simp
              have hb : Below (M + 1) u (x1.alloc (.cells #[.slice none 0 0] 23)) := HX.out.alloc (by have h := HX.out.size; have h2 := HZU.out; omega) _
              refine hK.out _ _ (HOLD.out _ hb).1 (fun hHeld => ?_)
              clear hK K
              try simp only [Act.put, List.setIfInBounds_toArray, List.set_cons_zero, List.set_cons_succ]
              obtain ⟨ba, hba⟩ : ∃ ba, x1.heap.size = ba := ⟨_, rfl⟩
              have hbaM : M + 1 ≤ ba := by have h := HX.out.size; have h2 := HZU.out; omega
              have HA := Lib.hid (show (x1.alloc (.cells #[.slice none 0 0] 23)).cell? ⟨ba, 0, none⟩ = some (.slice none 0 0) ∧ (x1.alloc (.cells #[.slice none 0 0] 23)).frozen? ⟨ba, 0, none⟩ = false from by rw [← hba]; exact ⟨World.cell?_alloc_new _ _ _ _, by go_simp⟩)
              have HNE := Lib.hid (show v0.ownBlock ≠ some ba from fun e => by have h := (HO.out.lt ba e).2; omega)
              have HO := Lib.hid (HO.out.of_below ((Below.refl x1.heap.size x1).alloc (Nat.le_refl _) (.cells #[.slice none 0 0] 23)))
              have HX := Lib.hid hb
              clear hb
              rw [hba]
              clear hba
              generalize (x1.alloc (.cells #[.slice none 0 0] 23)) = x2 at *
              refine wpAnyH_ready (rs := [2]) (by kernel_rfl) (by simp) ?_
              refine AllReadyH.cons (by simp only [List.getElem?_toArray, List.getElem?_cons_succ, List.getElem?_cons_zero]; exact rfl) (fun K hK => ?_) AllReadyH.nil
              · refine step_appendL _ rfl (.tmp 72) (.tmp 73) rfl (M + 1) v0 [] rfl HO.out pa L ca (encL ys) HLL.out rfl (HOLD.out _ HX.out).2.2.1 hpa0 (by simp; omega) (by have h := HX.out.size; have h2 := HZU.out; omega) ?_
                rintro v2 x3 hO hg hor
                have hb : Below (M + 1) u x3 := HX.out.grown hg (by have h := HX.out.size; have h2 := HZU.out; omega) (fun j hj => (HO.out.lt j hj).1)
                refine hK.out _ _ (HOLD.out _ hb).1 (fun hHeld => ?_)
                clear hK K
                try simp only [Act.put, List.setIfInBounds_toArray, List.set_cons_zero, List.set_cons_succ]
                have hlt := World.block_lt_of_cell? x2 _ HA.out.1
                have HA := Lib.hid (show x3.cell? ⟨ba, 0, none⟩ = some (.slice none 0 0) ∧ x3.frozen? ⟨ba, 0, none⟩ = false from ⟨hg.cell HA.out.1 (fun e => HNE.out e.symm), by rw [hg.frozen_far _ (by exact hlt) (fun e => HNE.out e.symm)]; exact HA.out.2⟩)
                have HNE := Lib.hid (show v2.ownBlock ≠ some ba from fun e => by
                  rcases hor with h | h
                  · exact HNE.out (by rw [← h]; exact e)
                  · rw [h] at e
                    injection e with e
                    have h2 : ba < x2.heap.size := hlt
                    omega)
                clear hlt
                have HX := Lib.hid hb
                have HO := Lib.hid (show OwnB x3 (M + 1) v2 (encL ys) from by rw [List.nil_append] at hO; exact hO)
                clear hb hO hg hor
                refine wpAnyH_ready (rs := [4]) (by kernel_rfl) (by simp) ?_
                refine AllReadyH.cons (by simp only [List.getElem?_toArray, List.getElem?_cons_succ, List.getElem?_cons_zero]; exact rfl) (fun K hK => ?_) AllReadyH.nil
                · refine step_appendL _ rfl (.tmp 74) (.tmp 75) rfl (M + 1) v2 (encL ys) rfl HO.out pm mm cm more HML.out rfl (HOLD.out _ HX.out).2.1 HPM.out (by rw [HLL.out]; omega) (by have h := HX.out.size; have h2 := HZU.out; omega) ?_
                  rintro v4 x4 hO hg hor
                  have hb : Below (M + 1) u x4 := HX.out.grown hg (by have h := HX.out.size; have h2 := HZU.out; omega) (fun j hj => (HO.out.lt j hj).1)
                  refine hK.out _ _ (HOLD.out _ hb).1 (fun hHeld => ?_)
                  clear hK K
                  try simp only [Act.put, List.setIfInBounds_toArray, List.set_cons_zero, List.set_cons_succ]
                  have hlt := World.block_lt_of_cell? x3 _ HA.out.1
                  have HA := Lib.hid (show x4.cell? ⟨ba, 0, none⟩ = some (.slice none 0 0) ∧ x4.frozen? ⟨ba, 0, none⟩ = false from ⟨hg.cell HA.out.1 (fun e => HNE.out e.symm), by rw [hg.frozen_far _ (by exact hlt) (fun e => HNE.out e.symm)]; exact HA.out.2⟩)
                  have HNE := Lib.hid (show v4.ownBlock ≠ some ba from fun e => by
                    rcases hor with h | h
                    · exact HNE.out (by rw [← h]; exact e)
                    · rw [h] at e
                      injection e with e
                      have h2 : ba < x3.heap.size := hlt
                      omega)
                  clear hlt
                  have HX := Lib.hid hb
                  have HO := Lib.hid hO
                  clear hb hO hg hor
                  obtain ⟨po, co, hve, hSo, hPo, hCo⟩ := HO.out.shape
                  rw [HML2.out] at hve hCo
                  subst hve
                  have HPB := Lib.hid (show ∀ c o, po = some ⟨c, o, none⟩ → M + 1 ≤ c ∧ c ≠ ba from fun c o e => ⟨(HO.out.lt c (by rw [e]; rfl)).1, fun e2 => HNE.out (by rw [e, ← e2]; rfl)⟩)
                  have HSo := Lib.hid hSo
                  have HPo := Lib.hid hPo
                  obtain ⟨ha1, ha2⟩ := HA.out
                  have hst : (x4.setCell ⟨ba, 0, none⟩ (.slice po (L + mm) co)).cell? ⟨w.heap.size, 0, none⟩ = some (.slice pm mm cm) := by rw [World.cell?_setCell_far _ _ _ _ (show ba ≠ w.heap.size by omega)]; exact (HOLD.out _ HX.out).1
                  clear hSo hPo
                  refine wpAnyH_ready (rs := [6]) (by kernel_rfl) (by simp) ?_
                  refine AllReadyH.cons (by simp only [List.getElem?_toArray, List.getElem?_cons_succ, List.getElem?_cons_zero]; exact rfl) (fun K hK => ?_) AllReadyH.nil
                  go_simp
                  refine hK.out _ _ hst (fun hHeld => ?_)
                  clear hK K
                  try simp only [Act.put, List.setIfInBounds_toArray, List.set_cons_zero, List.set_cons_succ]
                  refine wpAnyH_done (by kernel_rfl) ?_ _
                  refine NoPanic.normal ?_
                  have HBF := Lib.hid (show Below (M + 1) u (x4.setCell ⟨ba, 0, none⟩ (.slice po (L + mm) co)) from HX.out.setCell (show M + 1 ≤ (⟨ba, 0, none⟩ : Addr).block from hbaM) _)
                  have HCF := Lib.hid (show (x4.setCell ⟨ba, 0, none⟩ (.slice po (L + mm) co)).cell? ⟨ba, 0, none⟩ = some (.slice po (L + mm) co) from World.cell?_setCell_same _ _ _ ha1)
                  have HSF := Lib.hid (show Sl (x4.setCell ⟨ba, 0, none⟩ (.slice po (L + mm) co)) po (encL ys ++ more) from fun j hj => by
                    obtain ⟨d, o', e, hx⟩ := HSo.out j hj
                    exact ⟨d, o', e, by rw [World.cell?_setCell_far _ _ _ _ (show ba ≠ d from Ne.symm (HPB.out d o' e).2)]; exact hx⟩)
                  clear ha1 ha2 hst HA HNE HO HX
                  generalize x4.setCell ⟨ba, 0, none⟩ (.slice po (L + mm) co) = xf at *
                  have hM1 : M < xf.heap.size := by have h := HBF.out.size; have h2 := HZU.out; omega
                  have hfc : xf.cell? ⟨M, 0, none⟩ = some (.bool true) := by rw [HBF.out.cell (by exact Nat.lt_succ_self M)]; exact HCU.out.1
                  have hff : xf.frozen? ⟨M, 0, none⟩ = false := by rw [HBF.out.frozen (by exact Nat.lt_succ_self M)]; exact HCU.out.2
                  obtain ⟨Cf, hCf⟩ : ∃ Cf : Nat, (if mm = 0 then 0 else 6) = Cf := ⟨_, rfl⟩
                  have HREAD := Lib.hid (show Calls Try.prog 13 #[.slice po (L + mm) co, .func (.func 14) #[] #[.pointer (some ⟨ba, 0, none⟩), .pointer (some ⟨bx, 0, none⟩), .pointer (some ⟨M, 0, none⟩), .pointer (some ⟨w.heap.size, 0, none⟩)]] xf fun e w' => e = .returned (.int .i64 (Cf : Int)) ∧ w'.cell? ⟨M, 0, none⟩ = some (.bool true) ∧ Kp M xf w' from by
                    have hold := HOLD.out _ HBF.out
                    have h := HS.out.read (encL ys ++ more) po (L + mm) co 14 #[.pointer (some ⟨ba, 0, none⟩), .pointer (some ⟨bx, 0, none⟩), .pointer (some ⟨M, 0, none⟩), .pointer (some ⟨w.heap.size, 0, none⟩)] xf (fun c w' => c = Cf ∧ w'.cell? ⟨M, 0, none⟩ = some (.bool true) ∧ Kp M xf w')
                      HML2.out HSF.out HPo.out hCo (by omega) enters_backs
                      (fun c x y ⟨h1, h2, h3⟩ k => ⟨h1, by rw [k.cell (by exact hM1)]; exact h2, h3.thenBelow k⟩)
                      (fun a w' hb hr => (backs_in HS.out w13 xf ys more px po po m cx (L + mm) co mm cm M bx ba w.heap.size pm a w' HM.out (fun y hy => ⟨(HOK.out y hy).1, (HOK.out y hy).2, HSZ.out y hy⟩) hlen HI13.out HBX13.out HBM13.out HMM.out hold.2.2.2 hM1 HCF.out HML2.out HML.out h50 hfc hff hb hr (fun c o e => by have := (HPB.out c o e).1; omega)).mono fun e w2 ⟨h1, h2, h3, h4, hlo⟩ => ⟨hlo, .inl ⟨more, h1, h2, by
                        rw [← hCf]
                        by_cases h0 : mm = 0
                        · rw [if_pos h0, if_pos (List.eq_nil_of_length_eq_zero (by rw [HML.out]; exact h0))]
                        · rw [if_neg h0, if_neg (fun e => h0 (by rw [← HML.out, e]; rfl))], h3, h4⟩⟩)
                    exact h.mono fun e w' ⟨c, h1, h2, h3⟩ => ⟨by rw [h1, h2], h3⟩)
                  have HCf := Lib.hid hCf
                  have hcf := HCF.out
                  clear hCf hfc hff
                  go_wp2_with fail
                  refine HREAD.out.mono ?_
                  rintro e w9 ⟨rfl, ok9, hK9⟩
                  have bm9 : w9.cell? ⟨w.heap.size, 0, none⟩ = some (.slice pm mm cm) := by
                    have h := (HOLD.out _ HBF.out).1
                    rw [hK9.cell (by exact World.block_lt_of_cell? xf _ h) (by show w.heap.size ≠ M; omega)]
                    exact h
                  have HEND := Lib.hid (show Below w.heap.size w w9 from (HB3.out.trans ((HBV13.out.trans (((HOLD.out _ HBF.out).2.2.2.trans (hK9.below (Nat.le_refl M) (Nat.le_of_lt hM1))).mono (Nat.le_of_lt hVM))).mono (by omega))))
                  clear hK9 HREAD hcf
                  by_cases h0 : mm = 0
                  · have q1 : ((Cf : Int) == 0) = true := by rw [← HCf.out, if_pos h0]; rfl
                    have q2 : ((mm : Int) == 0) = true := by rw [h0]; rfl
                    go_wp2
                    go_ret
                    exact ⟨rfl, HEND.out⟩
                  · have q1 : ((Cf : Int) == 0) = false := by rw [← HCf.out, if_neg h0]; rfl
                    have q2 : ((mm : Int) == 0) = false := by simp; omega
                    have q3 : ((Cf : Int) == 6) = true := by rw [← HCf.out, if_neg h0]; rfl
                    go_wp2
                    go_ret
                    exact ⟨rfl, HEND.out⟩
          · go_simp
            have hb : Below (M + 1) u (x0.alloc (.cells #[.slice none 0 0] 23)) := HX.out.alloc (by have h := HX.out.size; have h2 := HZU.out; omega) _
            refine hK.out _ _ (HOLD.out _ hb).1 (fun hHeld => ?_)
            clear hK K
            try simp only [Act.put, List.setIfInBounds_toArray, List.set_cons_zero, List.set_cons_succ]
            obtain ⟨ba, hba⟩ : ∃ ba, x0.heap.size = ba := ⟨_, rfl⟩
            have hbaM : M + 1 ≤ ba := by have h := HX.out.size; have h2 := HZU.out; omega
            have HA := Lib.hid (show (x0.alloc (.cells #[.slice none 0 0] 23)).cell? ⟨ba, 0, none⟩ = some (.slice none 0 0) ∧ (x0.alloc (.cells #[.slice none 0 0] 23)).frozen? ⟨ba, 0, none⟩ = false from by rw [← hba]; exact ⟨World.cell?_alloc_new _ _ _ _, by go_simp⟩)
            have HX := Lib.hid hb
            clear hb
            rw [hba]
            clear hba
            generalize (x0.alloc (.cells #[.slice none 0 0] 23)) = x1 at *
            refine wpAnyH_ready (rs := [0]) (by kernel_rfl) (by simp) ?_
            refine AllReadyH.cons (by simp only [List.getElem?_toArray, List.getElem?_cons_succ, List.getElem?_cons_zero]; exact rfl) (fun K hK => ?_) AllReadyH.nil
            · go_simp
              have hb : Below (M + 1) u (x1.alloc (.cells #[] 5)) := HX.out.alloc (by have h := HX.out.size; have h2 := HZU.out; omega) _
              refine hK.out _ _ (HOLD.out _ hb).1 (fun hHeld => ?_)
              clear hK K
              try simp only [Act.put, List.setIfInBounds_toArray, List.set_cons_zero, List.set_cons_succ]
              have HO := Lib.hid (OwnB.empty x1 (M + 1) (by have h := HX.out.size; have h2 := HZU.out; omega))
              have hlt := World.block_lt_of_cell? x1 _ HA.out.1
              have HA := Lib.hid (show (x1.alloc (.cells #[] 5)).cell? ⟨ba, 0, none⟩ = some (.slice none 0 0) ∧ (x1.alloc (.cells #[] 5)).frozen? ⟨ba, 0, none⟩ = false from ⟨by rw [((Below.refl x1.heap.size x1).alloc (Nat.le_refl _) _).cell (by exact hlt)]; exact HA.out.1, by rw [((Below.refl x1.heap.size x1).alloc (Nat.le_refl _) _).frozen (by exact hlt)]; exact HA.out.2⟩)
              have HNE := Lib.hid (show (Value.slice (some ⟨x1.heap.size, 0, none⟩) 0 0).ownBlock ≠ some ba from fun e => by injection e with e; have e : x1.heap.size = ba := e; have h : ba < x1.heap.size := hlt; omega)
              clear hlt
              have HX := Lib.hid hb
              clear hb
              generalize hv0 : Value.slice (some ⟨x1.heap.size, 0, none⟩) 0 0 = v0 at *
              clear hv0
              generalize x1.alloc (.cells #[] 5) = x2 at *
              refine wpAnyH_ready (rs := [2]) (by kernel_rfl) (by simp) ?_
              refine AllReadyH.cons (by simp only [List.getElem?_toArray, List.getElem?_cons_succ, List.getElem?_cons_zero]; exact rfl) (fun K hK => ?_) AllReadyH.nil
              · refine step_appendL _ rfl (.tmp 72) (.tmp 73) rfl (M + 1) v0 [] rfl HO.out pa L ca (encL ys) HLL.out rfl (HOLD.out _ HX.out).2.2.1 hpa0 (by simp; omega) (by have h := HX.out.size; have h2 := HZU.out; omega) ?_
                rintro v2 x3 hO hg hor
                have hb : Below (M + 1) u x3 := HX.out.grown hg (by have h := HX.out.size; have h2 := HZU.out; omega) (fun j hj => (HO.out.lt j hj).1)
                refine hK.out _ _ (HOLD.out _ hb).1 (fun hHeld => ?_)
                clear hK K
                try simp only [Act.put, List.setIfInBounds_toArray, List.set_cons_zero, List.set_cons_succ]
                have hlt := World.block_lt_of_cell? x2 _ HA.out.1
                have HA := Lib.hid (show x3.cell? ⟨ba, 0, none⟩ = some (.slice none 0 0) ∧ x3.frozen? ⟨ba, 0, none⟩ = false from ⟨hg.cell HA.out.1 (fun e => HNE.out e.symm), by rw [hg.frozen_far _ (by exact hlt) (fun e => HNE.out e.symm)]; exact HA.out.2⟩)
                have HNE := Lib.hid (show v2.ownBlock ≠ some ba from fun e => by
                  rcases hor with h | h
                  · exact HNE.out (by rw [← h]; exact e)
                  · rw [h] at e
                    injection e with e
                    have h2 : ba < x2.heap.size := hlt
                    omega)
                clear hlt
                have HX := Lib.hid hb
                have HO := Lib.hid (show OwnB x3 (M + 1) v2 (encL ys) from by rw [List.nil_append] at hO; exact hO)
                clear hb hO hg hor
                refine wpAnyH_ready (rs := [4]) (by kernel_rfl) (by simp) ?_
                refine AllReadyH.cons (by simp only [List.getElem?_toArray, List.getElem?_cons_succ, List.getElem?_cons_zero]; exact rfl) (fun K hK => ?_) AllReadyH.nil
                · refine step_appendL _ rfl (.tmp 74) (.tmp 75) rfl (M + 1) v2 (encL ys) rfl HO.out pm mm cm more HML.out rfl (HOLD.out _ HX.out).2.1 HPM.out (by rw [HLL.out]; omega) (by have h := HX.out.size; have h2 := HZU.out; omega) ?_
                  rintro v4 x4 hO hg hor
                  have hb : Below (M + 1) u x4 := HX.out.grown hg (by have h := HX.out.size; have h2 := HZU.out; omega) (fun j hj => (HO.out.lt j hj).1)
                  refine hK.out _ _ (HOLD.out _ hb).1 (fun hHeld => ?_)
                  clear hK K
                  try simp only [Act.put, List.setIfInBounds_toArray, List.set_cons_zero, List.set_cons_succ]
                  have hlt := World.block_lt_of_cell? x3 _ HA.out.1
                  have HA := Lib.hid (show x4.cell? ⟨ba, 0, none⟩ = some (.slice none 0 0) ∧ x4.frozen? ⟨ba, 0, none⟩ = false from ⟨hg.cell HA.out.1 (fun e => HNE.out e.symm), by rw [hg.frozen_far _ (by exact hlt) (fun e => HNE.out e.symm)]; exact HA.out.2⟩)
                  have HNE := Lib.hid (show v4.ownBlock ≠ some ba from fun e => by
                    rcases hor with h | h
                    · exact HNE.out (by rw [← h]; exact e)
                    · rw [h] at e
                      injection e with e
                      have h2 : ba < x3.heap.size := hlt
                      omega)
                  clear hlt
                  have HX := Lib.hid hb
                  have HO := Lib.hid hO
                  clear hb hO hg hor
                  obtain ⟨po, co, hve, hSo, hPo, hCo⟩ := HO.out.shape
                  rw [HML2.out] at hve hCo
                  subst hve
                  have HPB := Lib.hid (show ∀ c o, po = some ⟨c, o, none⟩ → M + 1 ≤ c ∧ c ≠ ba from fun c o e => ⟨(HO.out.lt c (by rw [e]; rfl)).1, fun e2 => HNE.out (by rw [e, ← e2]; rfl)⟩)
                  have HSo := Lib.hid hSo
                  have HPo := Lib.hid hPo
                  obtain ⟨ha1, ha2⟩ := HA.out
                  have hst : (x4.setCell ⟨ba, 0, none⟩ (.slice po (L + mm) co)).cell? ⟨w.heap.size, 0, none⟩ = some (.slice pm mm cm) := by rw [World.cell?_setCell_far _ _ _ _ (show ba ≠ w.heap.size by omega)]; exact (HOLD.out _ HX.out).1
                  clear hSo hPo
                  refine wpAnyH_ready (rs := [6]) (by kernel_rfl) (by simp) ?_
                  refine AllReadyH.cons (by simp only [List.getElem?_toArray, List.getElem?_cons_succ, List.getElem?_cons_zero]; exact rfl) (fun K hK => ?_) AllReadyH.nil
                  go_simp
                  refine hK.out _ _ hst (fun hHeld => ?_)
                  clear hK K
                  try simp only [Act.put, List.setIfInBounds_toArray, List.set_cons_zero, List.set_cons_succ]
                  refine wpAnyH_done (by kernel_rfl) ?_ _
                  refine NoPanic.normal ?_
                  have HBF := Lib.hid (show Below (M + 1) u (x4.setCell ⟨ba, 0, none⟩ (.slice po (L + mm) co)) from HX.out.setCell (show M + 1 ≤ (⟨ba, 0, none⟩ : Addr).block from hbaM) _)
                  have HCF := Lib.hid (show (x4.setCell ⟨ba, 0, none⟩ (.slice po (L + mm) co)).cell? ⟨ba, 0, none⟩ = some (.slice po (L + mm) co) from World.cell?_setCell_same _ _ _ ha1)
                  have HSF := Lib.hid (show Sl (x4.setCell ⟨ba, 0, none⟩ (.slice po (L + mm) co)) po (encL ys ++ more) from fun j hj => by
                    obtain ⟨d, o', e, hx⟩ := HSo.out j hj
                    exact ⟨d, o', e, by rw [World.cell?_setCell_far _ _ _ _ (show ba ≠ d from Ne.symm (HPB.out d o' e).2)]; exact hx⟩)
                  clear ha1 ha2 hst HA HNE HO HX
                  generalize x4.setCell ⟨ba, 0, none⟩ (.slice po (L + mm) co) = xf at *
                  have hM1 : M < xf.heap.size := by have h := HBF.out.size; have h2 := HZU.out; omega
                  have hfc : xf.cell? ⟨M, 0, none⟩ = some (.bool true) := by rw [HBF.out.cell (by exact Nat.lt_succ_self M)]; exact HCU.out.1
                  have hff : xf.frozen? ⟨M, 0, none⟩ = false := by rw [HBF.out.frozen (by exact Nat.lt_succ_self M)]; exact HCU.out.2
                  obtain ⟨Cf, hCf⟩ : ∃ Cf : Nat, (if mm = 0 then 0 else 6) = Cf := ⟨_, rfl⟩
                  have HREAD := Lib.hid (show Calls Try.prog 13 #[.slice po (L + mm) co, .func (.func 14) #[] #[.pointer (some ⟨ba, 0, none⟩), .pointer (some ⟨bx, 0, none⟩), .pointer (some ⟨M, 0, none⟩), .pointer (some ⟨w.heap.size, 0, none⟩)]] xf fun e w' => e = .returned (.int .i64 (Cf : Int)) ∧ w'.cell? ⟨M, 0, none⟩ = some (.bool true) ∧ Kp M xf w' from by
                    have hold := HOLD.out _ HBF.out
                    have h := HS.out.read (encL ys ++ more) po (L + mm) co 14 #[.pointer (some ⟨ba, 0, none⟩), .pointer (some ⟨bx, 0, none⟩), .pointer (some ⟨M, 0, none⟩), .pointer (some ⟨w.heap.size, 0, none⟩)] xf (fun c w' => c = Cf ∧ w'.cell? ⟨M, 0, none⟩ = some (.bool true) ∧ Kp M xf w')
                      HML2.out HSF.out HPo.out hCo (by omega) enters_backs
                      (fun c x y ⟨h1, h2, h3⟩ k => ⟨h1, by rw [k.cell (by exact hM1)]; exact h2, h3.thenBelow k⟩)
                      (fun a w' hb hr => (backs_in HS.out w13 xf ys more px po po m cx (L + mm) co mm cm M bx ba w.heap.size pm a w' HM.out (fun y hy => ⟨(HOK.out y hy).1, (HOK.out y hy).2, HSZ.out y hy⟩) hlen HI13.out HBX13.out HBM13.out HMM.out hold.2.2.2 hM1 HCF.out HML2.out HML.out h50 hfc hff hb hr (fun c o e => by have := (HPB.out c o e).1; omega)).mono fun e w2 ⟨h1, h2, h3, h4, hlo⟩ => ⟨hlo, .inl ⟨more, h1, h2, by
                        rw [← hCf]
                        by_cases h0 : mm = 0
                        · rw [if_pos h0, if_pos (List.eq_nil_of_length_eq_zero (by rw [HML.out]; exact h0))]
                        · rw [if_neg h0, if_neg (fun e => h0 (by rw [← HML.out, e]; rfl))], h3, h4⟩⟩)
                    exact h.mono fun e w' ⟨c, h1, h2, h3⟩ => ⟨by rw [h1, h2], h3⟩)
                  have HCf := Lib.hid hCf
                  have hcf := HCF.out
                  clear hCf hfc hff
                  go_wp2_with fail
                  refine HREAD.out.mono ?_
                  rintro e w9 ⟨rfl, ok9, hK9⟩
                  have bm9 : w9.cell? ⟨w.heap.size, 0, none⟩ = some (.slice pm mm cm) := by
                    have h := (HOLD.out _ HBF.out).1
                    rw [hK9.cell (by exact World.block_lt_of_cell? xf _ h) (by show w.heap.size ≠ M; omega)]
                    exact h
                  have HEND := Lib.hid (show Below w.heap.size w w9 from (HB3.out.trans ((HBV13.out.trans (((HOLD.out _ HBF.out).2.2.2.trans (hK9.below (Nat.le_refl M) (Nat.le_of_lt hM1))).mono (Nat.le_of_lt hVM))).mono (by omega))))
                  clear hK9 HREAD hcf
                  by_cases h0 : mm = 0
                  · have q1 : ((Cf : Int) == 0) = true := by rw [← HCf.out, if_pos h0]; rfl
                    have q2 : ((mm : Int) == 0) = true := by rw [h0]; rfl
                    go_wp2
                    go_ret
                    exact ⟨rfl, HEND.out⟩
                  · have q1 : ((Cf : Int) == 0) = false := by rw [← HCf.out, if_neg h0]; rfl
                    have q2 : ((mm : Int) == 0) = false := by simp; omega
                    have q3 : ((Cf : Int) == 6) = true := by rw [← HCf.out, if_neg h0]; rfl
                    go_wp2
                    go_ret
                    exact ⟨rfl, HEND.out⟩
end
end Go.Proofs.Ytgmogbgkokofoaa
