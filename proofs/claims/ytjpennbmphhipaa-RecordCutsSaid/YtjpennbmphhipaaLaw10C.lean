/- The layer's example; RecordCuts. -/
import Derived.Test.YtjpennbmphhipaaCuts10
import Derived.Test.YtjpennbmphhipaaStores
import Derived.Test.YtjpennbmphhipaaRef6
import Derived.Deep.RegionHeld3
set_option linter.unusedSimpArgs false
set_option linter.unusedVariables false
namespace Go.Proofs.Ytjpennbmphhipaa
open Go Go.RowKit

theorem below_new (w : World) (o : Obj) : Below w.heap.size w (w.alloc o) := (Below.refl _ _).alloc (Nat.le_refl _) _
theorem bsR0 (w : World) : (bsT 36 0 #[]).run Try.prog w = .ok (.value (.slice (some ⟨w.heap.size, 0, none⟩) 0 0)) (w.alloc (.cells #[] 22)) := by kernel_rfl
theorem zb_sl (w : World) (n : Nat) : Sl (w.alloc (.cells (zb n) 5)) (some ⟨w.heap.size, 0, none⟩) (List.replicate n 0#8) := by
  refine Sl.row (g := fun _ => B 0#8) (Row.new w 5 n _) (by simp) fun j hj => ?_
  simp at hj
  simp [List.getD_eq_getElem?_getD, hj]
section
attribute [local go_sem ↓] exec_make
set_option maxRecDepth 100000 in
set_option maxHeartbeats 2000000 in
theorem awake10 (w : World) : Calls Try.prog 12 #[] w fun e w' => e = .returned (.bool true) ∧ Below w.heap.size w w' := by
  obtain ⟨W, hW⟩ : ∃ W, w.alloc (.cells (zb 257) 5) = W := ⟨_, rfl⟩
  have hB : Below w.heap.size w W := by rw [← hW]; exact (Below.refl _ _).alloc (Nat.le_refl _) _
  have HC := Lib.hid (cut_any10 (List.replicate 257 0#8) (some ⟨w.heap.size, 0, none⟩) 257 257 W (by simp) (by rw [← hW]; exact zb_sl w 257) (fun h => by cases h) (Nat.le_refl _) (by decide))
  have HB := Lib.hid hB
  have HW := Lib.hid hW
  have hmk : ∀ u, (mkT 22 (.int .i64 257) (.int .i64 257)).run Try.prog u = .ok (.value (.slice (some ⟨u.heap.size, 0, none⟩) 257 257)) (u.alloc (.cells (zb 257) 5)) := fun u => mkB 257 u (by decide)
  clear hB hW
  go_enter Try.func12, Try.ntmps12
  go_wp2_with fail
  rw [HW.out]
  refine HC.out.mono ?_
  rintro e w2 ⟨v, rfl, hH, hB2⟩
  obtain ⟨hs, p, cap, hv, hl, hls, hp, hcap, hrows, -⟩ := hH.open
  have hlen : ((List.range (nblk 257)).map (blkL (List.replicate 257 0#8))).length = 2 := by simp; rfl
  obtain ⟨c0, o0, q0, d0, e0, x0, -, -⟩ := hrows.cell hls 0 (by rw [hlen]; decide)
  obtain ⟨c1, o1, q1, d1, e1, x1, -, -⟩ := hrows.cell hls 1 (by rw [hlen]; decide)
  have g0 : (((List.range (nblk 257)).map (blkL (List.replicate 257 0#8))).getD 0 []).length = 256 := by show (blkL (List.replicate 257 0#8) 0).length = 256; rw [blkL_len]; simp; rfl
  have g1 : (((List.range (nblk 257)).map (blkL (List.replicate 257 0#8))).getD 1 []).length = 1 := by show (blkL (List.replicate 257 0#8) 1).length = 1; rw [blkL_len]; simp; rfl
  rw [g0, Nat.add_zero] at x0
  rw [g1] at x1
  rw [hlen] at hv hcap
  subst hv
  subst e0
  injection e1 with e1
  injection e1 with e1 e2
  subst e1 e2
  have HBB := Lib.hid (HB.out.trans (hB2.mono HB.out.size))
  clear hrows hls hp hH hB2 g0 g1 hlen hl
  go_wp2
  go_ret
  exact ⟨rfl, HBB.out⟩
end
attribute [local go_sem] bsB0 bsR0
attribute [local go_sem ↓] exec_slice exec_bs
set_option maxRecDepth 100000 in
set_option maxHeartbeats 4000000 in
theorem cuts10_any (a b : List (BitVec 8)) (p q : Option Addr) (n m cap cbp : Nat) (w : World) (hal : a.length = n) (hsa : Sl w p a) (hpn : p = none → cap = 0) (hnc : n ≤ cap) (hbl : b.length = m) (hsb : Sl w q b) (hqn : q = none → cbp = 0) (hmc : m ≤ cbp) :
    Calls Try.prog 4 #[.slice p n cap, .slice q m cbp] w fun e w' => e = .returned (.bool true) ∧ Below w.heap.size w w' := by
  have HAW := Lib.hid awake10
  by_cases h1 : 1500 < n
  · have z1 : decide ((1500 : Int) < (n : Int)) = true := decide_eq_true (by omega)
    clear hal hsa hpn hnc hbl hsb hqn hmc
    go_enter Try.func4, Try.ntmps4
    go_wp2_with fail
    refine (HAW.out _).mono ?_
    rintro e w1 ⟨rfl, hB1⟩
    have HB1 := Lib.hid hB1
    clear hB1
    go_wp2_with fail
    refine (HAW.out _).mono ?_
    rintro e w2 ⟨rfl, hB2⟩
    have HB2 := Lib.hid (HB1.out.trans (hB2.mono HB1.out.size))
    clear hB2
    go_wp2
    go_ret
    exact ⟨rfl, HB2.out⟩
  · have z1 : decide ((1500 : Int) < (n : Int)) = false := decide_eq_false (by omega)
    by_cases h2 : 1500 < m
    · have z2 : decide ((1500 : Int) < (m : Int)) = true := decide_eq_true (by omega)
      clear hal hsa hpn hnc hbl hsb hqn hmc
      go_enter Try.func4, Try.ntmps4
      go_wp2_with fail
      refine (HAW.out _).mono ?_
      rintro e w1 ⟨rfl, hB1⟩
      have HB1 := Lib.hid hB1
      clear hB1
      go_wp2_with fail
      refine (HAW.out _).mono ?_
      rintro e w2 ⟨rfl, hB2⟩
      have HB2 := Lib.hid (HB1.out.trans (hB2.mono HB1.out.size))
      clear hB2
      go_wp2
      go_ret
      exact ⟨rfl, HB2.out⟩
    · have z2 : decide ((1500 : Int) < (m : Int)) = false := decide_eq_false (by omega)
      obtain ⟨k, hk⟩ : ∃ k, n / 256 = k := ⟨_, rfl⟩
      have hk0 : (n : Int) / 256 = (k : Int) := by omega
      have hk1 : (n : Int).tdiv 256 = (k : Int) := by rw [Int.tdiv_eq_ediv_of_nonneg (by omega)]; omega
      have hk2 : IntKind.i64.wrap (k : Int) = (k : Int) := by rw [IntKind.wrap_i64]; omega
      have hk3 : IntKind.i64.wrap ((k : Int) * 256) = (k : Int) * 256 := by rw [IntKind.wrap_i64]; omega
      have hkn : 256 * k ≤ n := by omega
      have hsl : ∀ u, (slT 22 (.slice p n cap) none (some (.int .i64 ((k : Int) * 256))) none).run Try.prog u = .ok (.value (.slice p (256 * k) cap)) u := fun u => by
        rw [show (k : Int) * 256 = ((256 * k : Nat) : Int) by omega]
        exact sl_hi p n cap (256 * k) u (by omega)
      obtain ⟨x, hx⟩ : ∃ x, a.take (256 * k) = x := ⟨_, rfl⟩
      have hxl : x.length = 256 * k := by rw [← hx, List.length_take]; omega
      have HXL := Lib.hid hxl
      have HSX := Lib.hid (show Sl w p x from by rw [← hx]; exact hsa.take _)
      have HSB := Lib.hid hsb
      have HBL := Lib.hid hbl
      have HPN := Lib.hid hpn
      have HQN := Lib.hid hqn
      have hkc : 256 * k ≤ cap := by omega
      have hk1500 : 256 * k ≤ 1500 := by omega
      clear hx hal hsa hpn hbl hsb hqn hk hxl hkn
      generalize hK : 256 * k = K at *
      have HKK := Lib.hid hK
      clear hK
      go_enter Try.func4, Try.ntmps4
      go_wp2_with fail
      refine (HAW.out _).mono ?_
      rintro e w1 ⟨rfl, hB1⟩
      have HB1 := Lib.hid hB1
      have HC1 := Lib.hid (cut_any10 x p K cap w1 HXL.out (HSX.out.of_below hB1) HPN.out hkc (by omega))
      clear hB1
      go_wp2_with fail
      refine HC1.out.mono ?_
      rintro e w2 ⟨v1, rfl, hX, hB2⟩
      have hb2 := HB1.out.trans (hB2.mono HB1.out.size)
      have HB2 := Lib.hid hb2
      have HC2 := Lib.hid (cut_any10 b q m cbp w2 HBL.out (HSB.out.of_below hb2) HQN.out hmc (by omega))
      rw [← HXL.out] at hX
      have HX := Lib.hid (show Hds w2 w1.heap.size v1 (blks x) from hX)
      obtain ⟨hsX, pX, cX, rfl, hX1, hX2, hX3, hX4, hX5, hX6⟩ := HX.out.open
      have HX1 := Lib.hid hX1
      have HX2 := Lib.hid hX2
      have HX3 := Lib.hid (And.intro hX3 (And.intro hX4 hX6))
      have HX5 := Lib.hid hX5
      clear hB2 hb2 hX hX1 hX2 hX3 hX4 hX5 hX6
      go_wp2_with fail
      refine HC2.out.mono ?_
      rintro e w3 ⟨v2, rfl, hY, hB3⟩
      rw [← HBL.out] at hY
      have HY := Lib.hid (show Hds w3 w2.heap.size v2 (blks b) from hY)
      obtain ⟨hsY, pY, cY, rfl, hY1, hY2, hY3, hY4, hY5, hY6⟩ := HY.out.open
      have HY1 := Lib.hid hY1
      have HY2 := Lib.hid hY2
      have HY3 := Lib.hid (And.intro hY3 (And.intro hY4 hY6))
      have HY5 := Lib.hid hY5
      have HB3 := Lib.hid hB3
      have HBW := Lib.hid (HB2.out.trans (hB3.mono HB2.out.size))
      clear hY hY1 hY2 hY3 hY4 hY5 hY6 hB3
      have hBE : Below w3.heap.size w3 (w3.alloc (.cells #[] 5)) := below_new _ _
      have HBE := Lib.hid hBE
      have HE := Lib.hid (OwnB.empty w3 w3.heap.size (Nat.le_refl _))
      have HSX3 := Lib.hid (HSX.out.of_below (HBW.out.trans (hBE.mono HBW.out.size)))
      have hz3 : w3.heap.size ≤ (w3.alloc (.cells #[] 5)).heap.size := hBE.size
      clear hBE
      go_wp2_with (first | (refine wpl_append _ rfl (.tmp 33) (.tmp 34) rfl w3.heap.size (.slice (some ⟨w3.heap.size, 0, none⟩) 0 0) [] rfl HE.out p K cap x HXL.out rfl HSX3.out HPN.out (by simp; omega) hz3 ?_
                            rintro v4 w4 hO4 hg4
                            rw [List.nil_append] at hO4
                            have hB4 : Below w3.heap.size w3 w4 := HBE.out.grown hg4 hz3 (fun k hk => (HE.out.lt k hk).1)
                            have HB4 := Lib.hid hB4
                            have HO4 := Lib.hid hO4
                            have HSB4 := Lib.hid (HSB.out.of_below (HBW.out.trans (hB4.mono HBW.out.size)))
                            have hz4 : w3.heap.size ≤ w4.heap.size := hB4.size
                            obtain ⟨p4, c4, rfl, -⟩ := hO4.shape
                            clear hO4 hg4 hB4)
                         | (refine wpl_append _ rfl (.tmp 35) (.tmp 36) rfl w3.heap.size (.slice p4 x.length c4) x rfl HO4.out q m cbp b HBL.out rfl HSB4.out HQN.out (by rw [HXL.out]; omega) hz4 ?_
                            rintro v5 w5 hO5 hg5
                            have HB5 := Lib.hid (HB4.out.grown hg5 hz4 (fun k hk => (HO4.out.lt k hk).1))
                            have HO5 := Lib.hid hO5
                            obtain ⟨p5, c5, rfl, hS5, hP5, hC5⟩ := hO5.shape
                            have HC3 := Lib.hid (cut_any10 (x ++ b) p5 (x.length + b.length) c5 w5 (List.length_append) hS5 hP5 (by rw [← List.length_append]; exact hC5) (by rw [HXL.out, HBL.out]; omega))
                            clear hO5 hg5 hS5 hP5 hC5))
      refine HC3.out.mono ?_
      rintro e w6 ⟨v3, rfl, hZ, hB6⟩
      rw [show x.length + b.length = (x ++ b).length from List.length_append.symm] at hZ
      have hZ2 : Hds w6 w5.heap.size v3 (blks (x ++ b)) := hZ
      have HZR := Lib.hid (blks_append (l := x) (m := b) (k := k) (by rw [HXL.out]; exact HKK.out.symm))
      rw [HZR.out] at hZ2
      obtain ⟨hsZ, pZ, cZ, rfl, hZ1, hZ3, hZ4, hZ5, hZ6, -⟩ := hZ2.open
      have hB36 : Below w3.heap.size w3 w6 := HB5.out.trans (hB6.mono HB5.out.size)
      have hB26 : Below w2.heap.size w2 w6 := HB3.out.trans (hB36.mono HB3.out.size)
      have HBW6 := Lib.hid (HBW.out.trans (hB36.mono HBW.out.size))
      obtain ⟨LX, hLX⟩ : ∃ LX, (blks x).length = LX := ⟨_, rfl⟩
      obtain ⟨LY, hLY⟩ : ∃ LY, (blks b).length = LY := ⟨_, rfl⟩
      have hLXb : LX ≤ 10 := by rw [← hLX, blks_len, HXL.out]; unfold nblk; omega
      have hLYb : LY ≤ 10 := by rw [← hLY, blks_len, HBL.out]; unfold nblk; omega
      obtain ⟨Z, hZl⟩ : ∃ Z, (blks x ++ blks b).length = Z := ⟨_, rfl⟩
      have hZs : Z = LX + LY := by rw [← hZl, List.length_append, hLX, hLY]
      have HZl := Lib.hid hZl
      have HX3' := Lib.hid HX3.out
      have HY3' := Lib.hid HY3.out
      have HX1' := Lib.hid HX1.out
      have HY1' := Lib.hid HY1.out
      have HX5' := Lib.hid HX5.out
      have HY5' := Lib.hid HY5.out
      rw [hLX] at HX3' HX1' ⊢
      rw [hLY] at HY3' HY1' ⊢
      rw [hZl] at hZ5 ⊢
      have hwz : IntKind.i64.wrap ((LX : Int) + (LY : Int)) = (Z : Int) := by rw [IntKind.wrap_i64, hZs]; omega
      have hwn : LX + LY = Z := hZs.symm
      have HWN := Lib.hid hwn
      have hBE2 : Below w6.heap.size w6 (w6.alloc (.cells #[] 22)) := below_new _ _
      have HBE2 := Lib.hid hBE2
      have HOE := Lib.hid (own_empty (E := 22) (k := 1) w6 w6.heap.size (Nat.le_refl _))
      have hz6 : w6.heap.size ≤ (w6.alloc (.cells #[] 22)).heap.size := hBE2.size
      have HLX := Lib.hid (HX2.out.of_below (hB26.trans (hBE2.mono hB26.size)))
      have HLY := Lib.hid (HY2.out.of_below (hB36.trans (hBE2.mono hB36.size)))
      have HLY6 := Lib.hid (HY2.out.of_below hB36)
      have HZ3 := Lib.hid hZ3
      have HZ6 := Lib.hid hZ6
      have HRX := Lib.hid (HX5.out.of_below hB26)
      have HRY := Lib.hid (HY5.out.of_below hB36)
      clear hZ hZ2 hB6 hZ1 hZ3 hZ4 hZ5 hZ6 hB36 hB26 hLX hLY hZl hZs hBE2 hwn
      go_wp2_with (first | (refine wpl_appendK elR _ rfl (.tmp 47) (.tmp 48) rfl w6.heap.size rfl HOE.out pX LX cX hsX (by rw [HX1'.out, Nat.mul_one]) rfl HLX.out HX3'.out.1 HX3'.out.2.2 (by omega) hz6 ?_
                            rintro v7 w7 hO7 hg7 hor7
                            rw [Nat.zero_add, List.nil_append] at hO7
                            have hB7 : Below w6.heap.size w6 w7 := HBE2.out.grown hg7 hz6 (fun k hk => (World.ownsRow.lt HOE.out k hk).1)
                            have HB7 := Lib.hid hB7
                            have HO7 := Lib.hid hO7
                            have HLY7 := Lib.hid (HLY6.out.of_below hB7)
                            have hz7 : w6.heap.size ≤ w7.heap.size := hB7.size
                            obtain ⟨p7, c7, rfl, -⟩ := own_shape hO7
                            clear hO7 hg7 hB7 hor7)
                         | (refine wpl_appendK elR _ rfl (.tmp 49) (.tmp 50) rfl w6.heap.size rfl HO7.out pY LY cY hsY (by rw [HY1'.out, Nat.mul_one]) rfl HLY7.out HY3'.out.1 HY3'.out.2.2 (by omega) hz7 ?_
                            rintro v8 w8 hO8 hg8 hor8
                            rw [HWN.out] at hO8
                            have HB8 := Lib.hid (HB7.out.grown hg8 hz7 (fun k hk => (World.ownsRow.lt HO7.out k hk).1))
                            have HO8 := Lib.hid hO8
                            obtain ⟨p8, c8, rfl, hL8, -, hC8, -⟩ := own_shape hO8
                            have HL8 := Lib.hid hL8
                            clear hO8 hg8 hor8 hL8))
      have hR8 := (HRX.out.append HRY.out HX1.out).of_below HB8.out
      have hL8 := HL8.out
      have hZ8 := HZ3.out.of_below HB8.out
      have hZR8 := HZ6.out.of_below HB8.out
      have HR8 := Lib.hid hR8
      have HZ8 := Lib.hid hZ8
      have HZR8 := Lib.hid hZR8
      have HBF := Lib.hid (HBW6.out.trans (HB8.out.mono HBW6.out.size))
      have hZb : Z < 100 := by have := HWN.out; omega
      clear hR8 hL8 hZ8 hZR8 hwz hC8
      go_wp2
      go_loopw [53] (fun vi wr => ∃ i : Nat, i ≤ Z ∧ vi = .int .i64 (i : Int) ∧ Dr w8 wr) (fun vi _ => Z - (intOf vi).toNat)
      case atStart => exact ⟨0, Nat.zero_le _, rfl, Dr.refl _⟩
      case round =>
        obtain ⟨i, hi, rfl, hdr⟩ := hrel
        have HDR := Lib.hid hdr
        by_cases hlt : i < Z
        · have y1 : (i : Int) < (Z : Int) := by omega
          have y2 : decide ((i : Int) < (Z : Int)) = true := decide_eq_true y1
          have hwi : IntKind.i64.wrap ((i : Int) + 1) = (i : Int) + 1 := by rw [IntKind.wrap_i64]; omega
          obtain ⟨ca, oa, qa, da, rfl, xa, sa, na⟩ := HR8.out.cell HL8.out i (by rw [HZl.out]; exact hlt)
          obtain ⟨cz, oz, qz, dz, rfl, xz, sz, nz⟩ := HZR8.out.cell HZ8.out i (by rw [HZl.out]; exact hlt)
          obtain ⟨bz, hbz⟩ : ∃ bz, (blks x ++ blks b).getD i [] = bz := ⟨_, rfl⟩
          obtain ⟨len, hlen⟩ : ∃ len, bz.length = len := ⟨_, rfl⟩
          rw [hbz] at xa sa xz sz
          rw [hlen] at xa xz
          have x1 : wr.cell? ⟨ca, oa + i, none⟩ = some (.slice qa len da) := by rw [hdr.cell]; exact xa
          have HSS := Lib.hid (show wr.drew.cell? ⟨cz, oz + i, none⟩ = some (.slice qz len dz) ∧ (convert 22 9 (.slice qz len dz)).run Try.prog wr.drew = .ok (.string (strOf bz)) wr.drew ∧ (convert 22 9 (.slice qa len da)).run Try.prog wr.drew = .ok (.string (strOf bz)) wr.drew ∧ Below wr.heap.size wr wr.drew from ⟨(hdr.drew.cell _).trans xz, conv_str _ qz bz len dz (sz.dr hdr.drew) hlen nz, conv_str _ qa bz len da (sa.dr hdr.drew) hlen na, (Below.refl _ _).drew⟩)
          clear hdr xa sa xz sz na nz hbz hlen
          go_wp2
          refine wp_region_noPanic ?_
          refine wp_region_held_drew (S := (fun u : World => u.cell? ⟨cz, oz + i, none⟩ = some (.slice qz len dz) ∧ (convert 22 9 (.slice qz len dz)).run Try.prog u = .ok (.string (strOf bz)) u ∧ (convert 22 9 (.slice qa len da)).run Try.prog u = .ok (.string (strOf bz)) u ∧ Below wr.heap.size wr u)) (by kernel_rfl) (HSS.out) (fun hHeld => ?_)
          refine wpAnyH_take (i := 0) (v := ?_) (by simp only [List.getElem?_toArray, List.getElem?_cons_succ, List.getElem?_cons_zero]; exact rfl) (by kernel_rfl) (by kernel_rfl) (by kernel_rfl) (fun _ _ _ h => h) (Or.inl ⟨by rfl, ?_⟩) (by assumption) ?_
          rotate_left 1
          · (intro w hSw; (try dsimp only at hSw); go_simp; try with_reducible rfl)
          try simp only [Act.put, List.setIfInBounds_toArray, List.set_cons_zero, List.set_cons_succ]
          refine wpAnyH_take (i := 1) (v := ?_) (by simp only [List.getElem?_toArray, List.getElem?_cons_succ, List.getElem?_cons_zero]; exact rfl) (by kernel_rfl) (by kernel_rfl) (by kernel_rfl) (fun _ _ _ h => h) (Or.inl ⟨by rfl, ?_⟩) (by assumption) ?_
          rotate_left 1
          · (intro w hSw; (try dsimp only at hSw); go_simp; try with_reducible rfl)
          try simp only [Act.put, List.setIfInBounds_toArray, List.set_cons_zero, List.set_cons_succ]
          refine wpAnyH_take (i := 2) (v := ?_) (by simp only [List.getElem?_toArray, List.getElem?_cons_succ, List.getElem?_cons_zero]; exact rfl) (by kernel_rfl) (by kernel_rfl) (by kernel_rfl) (fun _ _ _ h => h) (Or.inl ⟨by rfl, ?_⟩) (by assumption) ?_
          rotate_left 1
          · (intro w hSw; (try dsimp only at hSw); go_simp; try with_reducible rfl)
          try simp only [Act.put, List.setIfInBounds_toArray, List.set_cons_zero, List.set_cons_succ]
          refine wpAnyH_take (i := 3) (v := ?_) (by simp only [List.getElem?_toArray, List.getElem?_cons_succ, List.getElem?_cons_zero]; exact rfl) (by kernel_rfl) (by kernel_rfl) (by kernel_rfl) (fun _ _ _ h => h) (Or.inl ⟨by rfl, ?_⟩) (by assumption) ?_
          rotate_left 1
          · (intro w hSw; (try dsimp only at hSw); go_simp; try with_reducible rfl)
          try simp only [Act.put, List.setIfInBounds_toArray, List.set_cons_zero, List.set_cons_succ]
          refine wpAnyH_take (i := 4) (v := ?_) (by simp only [List.getElem?_toArray, List.getElem?_cons_succ, List.getElem?_cons_zero]; exact rfl) (by kernel_rfl) (by kernel_rfl) (by kernel_rfl) (fun _ _ _ h => h) (Or.inl ⟨by rfl, ?_⟩) (by assumption) ?_
          rotate_left 1
          · (intro w hSw; (try dsimp only at hSw); go_simp; try with_reducible rfl)
          try simp only [Act.put, List.setIfInBounds_toArray, List.set_cons_zero, List.set_cons_succ]
          refine wpAnyH_take (i := 5) (v := ?_) (by simp only [List.getElem?_toArray, List.getElem?_cons_succ, List.getElem?_cons_zero]; exact rfl) (by kernel_rfl) (by kernel_rfl) (by kernel_rfl) (fun _ _ _ h => h) (Or.inl ⟨by rfl, ?_⟩) (by assumption) ?_
          rotate_left 1
          · (intro w hSw; (try dsimp only at hSw); go_simp; try with_reducible rfl)
          try simp only [Act.put, List.setIfInBounds_toArray, List.set_cons_zero, List.set_cons_succ]
          refine wpAnyH_take (i := 6) (v := ?_) (by simp only [List.getElem?_toArray, List.getElem?_cons_succ, List.getElem?_cons_zero]; exact rfl) (by kernel_rfl) (by kernel_rfl) (by kernel_rfl) (fun _ _ _ h => h) (Or.inl ⟨by rfl, ?_⟩) (by assumption) ?_
          rotate_left 1
          · (intro w hSw; (try dsimp only at hSw); go_simp; try with_reducible rfl)
          try simp only [Act.put, List.setIfInBounds_toArray, List.set_cons_zero, List.set_cons_succ]
          refine wpAnyH_take (i := 7) (v := ?_) (by simp only [List.getElem?_toArray, List.getElem?_cons_succ, List.getElem?_cons_zero]; exact rfl) (by kernel_rfl) (by kernel_rfl) (by kernel_rfl) (fun _ _ _ h => h) (Or.inl ⟨by rfl, ?_⟩) (by assumption) ?_
          rotate_left 1
          · (intro w hSw; (try dsimp only at hSw); go_simp; try with_reducible rfl)
          try simp only [Act.put, List.setIfInBounds_toArray, List.set_cons_zero, List.set_cons_succ]
          refine wpAnyH_done (by kernel_rfl) ?_ _
          refine NoPanic.normal ?_
          go_wp2
          go_roundw
          case rel => exact ⟨i + 1, by omega, by go_num, HDR.out.drew⟩
          case measure => simp [intOf]; omega
        · have y1 : ¬ (i : Int) < (Z : Int) := by omega
          have y2 : decide ((i : Int) < (Z : Int)) = false := decide_eq_false y1
          go_wp2
          go_ret
          exact ⟨rfl, HBF.out.trans (HDR.out.below _)⟩
end Go.Proofs.Ytjpennbmphhipaa
