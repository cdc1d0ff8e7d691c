/- The statement PathSides, walked over the premises. -/
import Derived.Test.YtbnolmbbpdjibaaDoorSid7
set_option linter.unusedSimpArgs false
set_option linter.unusedVariables false
namespace Go.Proofs.YtbnolmbbpdjibaaDoor
open Go Go.RowKit

def hexS : S8 := [48, 49, 50, 51, 52, 53, 54, 55, 56, 57, 97, 98, 99, 100, 101, 102]
theorem hexS_hex : ∀ r : Fin 16, hexB (chr hexS r.val) = true := by
  intro r
  rw [chr_eq (show r.val < hexS.length from r.isLt)]
  revert r
  decide
theorem ixH (r : Nat) (h : r < 16) (w : World) : (Instr.index 9 (.string ⟨#[48, 49, 50, 51, 52, 53, 54, 55, 56, 57, 97, 98, 99, 100, 101, 102]⟩) (.int .u16 (r : Int))).run Tryd.prog w = .ok (.int .u8 (chr hexS r : Int)) w := by
  have e : (⟨#[48, 49, 50, 51, 52, 53, 54, 55, 56, 57, 97, 98, 99, 100, 101, 102]⟩ : ByteArray) = mkS hexS := mkS_lit hexS
  have hs : r < (mkS hexS).size := by rw [mkS_size]; exact h
  rw [e, run_index_string (P := Tryd.prog) w 9 (mkS hexS) .u16 (r : Int) strT, dif_pos ⟨by omega, by omega⟩]
  have := mkS_get hexS r hs
  simp only [Int.toNat_natCast]
  rw [this]
theorem rep_ok {c : Nat} (hc : hexB c = true) (h256 : c < 256) {q : Nat} (hq : q < 16384) : okHome (q : Int) (List.replicate 64 (UInt8.ofNat c)) = true := by
  unfold okHome
  rw [decide_eq_true (by omega), decide_eq_true (by omega), decide_eq_true (by simp)]
  simp only [Bool.true_and, List.all_eq_true]
  intro x hx
  rw [List.eq_of_mem_replicate hx]
  have : (UInt8.ofNat c).toNat = c := by simp [Nat.mod_eq_of_lt h256]
  rw [this]
  exact hc
section
variable {w : World} (S : PathSpec True w)
include S
set_option maxRecDepth 100000 in
set_option maxHeartbeats 4000000 in
theorem law_pathSides (s : S8) (n : Nat) (hn : n < 65536) : Calls Tryd.prog 7 #[.string (mkS s), .int .u16 (n : Int)] w fun e w' => Gives (.bool true) w e w' := by
  have HAW := Lib.hid (fun u => awake7 S u)
  by_cases ha : 300 < s.length
  · have x1 : (300 : Int) < (s.length : Int) := by omega
    have x2 : decide ((300 : Int) < (s.length : Int)) = true := decide_eq_true x1
    go_enter Tryd.func7, Tryd.ntmps7
    go_wp2_with fail
    refine (HAW.out _).mono ?_
    rintro e w1 ⟨rfl, hB1⟩
    have HB1 := Lib.hid hB1
    clear hB1
    go_wp2_with fail
    refine (onto HB1.out HB1.out.size (HAW.out _)).mono ?_
    rintro e w2 ⟨rfl, hB2⟩
    have HB2 := Lib.hid hB2
    clear hB2 HB1
    go_wp2
    go_ret
    exact ⟨rfl, HB2.out⟩
  · have x1 : ¬ (300 : Int) < (s.length : Int) := by omega
    have x2 : decide ((300 : Int) < (s.length : Int)) = false := decide_eq_false x1
    have HTE := Lib.hid (fun u => S.temp s u (by omega))
    have HSI := Lib.hid (fun u => S.side s u (by omega))
    have HKI := Lib.hid (fun u => S.kind s u (by omega))
    have HDS := Lib.hid (fun u => S.dir s u (by omega))
    by_cases hg : goodL s = false
    · rw [with_bad tmpS hg] at HTE
      rw [with_bad parS hg] at HSI
      rw [kind_zero.2 hg] at HKI
      unfold pairS at HTE HSI
      clear S ha HDS
      go_enter Tryd.func7, Tryd.ntmps7
      go_wp2_with fail
      refine (HAW.out _).mono ?_
      rintro e w1 ⟨rfl, hB1⟩
      have HB1 := Lib.hid hB1
      clear hB1
      go_wp2_with fail
      refine (onto HB1.out HB1.out.size (HTE.out _)).mono ?_
      rintro e w2 ⟨rfl, hB2⟩
      have HB2 := Lib.hid hB2
      clear hB2 HB1
      go_wp2_with fail
      refine (onto HB2.out HB2.out.size (HSI.out _)).mono ?_
      rintro e w3 ⟨rfl, hB3⟩
      have HB3 := Lib.hid hB3
      clear hB3 HB2
      go_wp2_with fail
      refine (onto HB3.out HB3.out.size (HKI.out _)).mono ?_
      rintro e w4 ⟨rfl, hB4⟩
      have HB4 := Lib.hid hB4
      clear hB4 HB3
      go_wp2
      go_ret
      exact ⟨rfl, HB4.out⟩
    · have hgt : goodL s = true := by simpa using hg
      obtain ⟨m, hm⟩ : ∃ m, kindL s = m := ⟨_, rfl⟩
      have hm0 : ¬ m = 0 := fun e => hg (kind_zero.1 (by rw [hm]; exact e))
      have hmz : ((m : Int) == 0) = false := by simp; omega
      rw [hm] at HKI
      obtain ⟨r, hr⟩ : ∃ r, n % 16 = r := ⟨_, rfl⟩
      obtain ⟨q, hq⟩ : ∃ q, n % 16384 = q := ⟨_, rfl⟩
      have hr16 : r < 16 := by omega
      have hq1 : q < 16384 := by omega
      have r1 : (n : Int) % 16 = (r : Int) := by omega
      have r2 : (n : Int).tmod 16 = (r : Int) := by rw [Int.tmod_eq_emod_of_nonneg (by omega)]; exact r1
      have q1 : (n : Int) % 16384 = (q : Int) := by clear r2; omega
      have q2 : (n : Int).tmod 16384 = (q : Int) := by rw [Int.tmod_eq_emod_of_nonneg (by clear r2; omega)]; exact q1
      have q3 : IntKind.i64.wrap (q : Int) = (q : Int) := by rw [IntKind.wrap_i64]; clear r1 r2 q1 q2; omega
      obtain ⟨c, hc⟩ : ∃ c, chr hexS r = c := ⟨_, rfl⟩
      have hix := fun u => ixH r hr16 u
      have hch : hexB c = true := by rw [← hc]; exact hexS_hex ⟨r, hr16⟩
      have hc256 : c < 256 := by rw [← hc]; exact chr_lt _ _
      rw [hc] at hix
      obtain ⟨h, hh⟩ : ∃ h, homeL (q : Int) (List.replicate 64 (UInt8.ofNat c)) = (h, 0) := ⟨homeOf (q : Int) (List.replicate 64 (UInt8.ofNat c)), by unfold homeL; rw [if_pos (rep_ok hch hc256 hq1)]⟩
      obtain ⟨cc, hcc, hgc, hor⟩ := copy_ok hgt hh
      have hhl : h.length ≤ 20000 := by have := homeL_len (q : Int) (List.replicate 64 (UInt8.ofNat c)); rw [hh] at this; exact this
      have hcl : cc.length < 100000 := by
        rcases hor with e | e
        · rw [e]; omega
        · rw [e, cat_len, cat_len]; simp; omega
      have HCO := Lib.hid (fun u hu => S.copy s (q : Int) (List.replicate 64 (UInt8.ofNat c)) u trivial hu (by omega) (by simp))
      have HHO := Lib.hid (fun u hu => S.home (q : Int) (List.replicate 64 (UInt8.ofNat c)) u trivial hu (by simp))
      have HGC := Lib.hid (fun u => S.good cc u hcl)
      rw [hcc] at HCO
      rw [hh] at HHO
      rw [hgc] at HGC
      have HOR := Lib.hid hor
      have hf1 : Fit s [46] := fit (by simp; omega)
      have hf2 : Fit (cat s [46]) h := fit (by rw [cat_len]; simp; omega)
      obtain ⟨t, i, hti⟩ : ∃ t i, withL s tmpS = (t, i) := ⟨_, _, rfl⟩
      obtain ⟨v, j, hvj⟩ : ∃ v j, withL s parS = (v, j) := ⟨_, _, rfl⟩
      have hi : i = 0 ∨ i = 7 := by have := with_code s tmpS; rw [hti] at this; exact this
      have hj : j = 0 ∨ j = 7 := by have := with_code s parS; rw [hvj] at this; exact this
      rw [hti] at HTE
      rw [hvj] at HSI
      unfold pairS at HTE HSI HCO HHO
      dsimp only at HTE HSI HCO HHO
      clear hg hgt hm hm0 hr hq hc hch hh hcc hgc hor hhl hcl
      rcases hi with rfl | rfl
      · obtain ⟨k1, k2, k3⟩ := with_tmp hti
        have a1 : (t == s) = false := beq_eq_false_iff_ne.2 k3
        have htl : t.length < 100000 := by rw [(with_ok hti).1, putL_len]; show s.length + 5 < _; clear r1 r2 q1 q2; omega
        have HKT := Lib.hid (fun u => S.kind t u htl)
        have HDT := Lib.hid (fun u => S.dir t u htl)
        rw [k1] at HKT
        rw [k2] at HDT
        rcases hj with rfl | rfl
        · obtain ⟨l1, l2, l3⟩ := with_par hvj
          have a2 : (v == s) = false := beq_eq_false_iff_ne.2 l3
          have hvl : v.length < 100000 := by rw [(with_ok hvj).1, putL_len]; show s.length + 5 < _; clear r1 r2 q1 q2; omega
          have HKV := Lib.hid (fun u => S.kind v u hvl)
          have HDV := Lib.hid (fun u => S.dir v u hvl)
          rw [l1] at HKV
          rw [l2] at HDV
          have a3 : (t == v) = false := beq_eq_false_iff_ne.2 (with_two hti hvj)
          clear S k1 k2 k3 l1 l2 l3 htl hvl hti hvj ha
          generalize dirL s = D at *
          go_enter Tryd.func7, Tryd.ntmps7
          go_wp2_with fail
          refine (HAW.out _).mono ?_
          rintro e w1 ⟨rfl, hB1⟩
          have HB1 := Lib.hid hB1
          clear hB1
          go_wp2_with fail
          refine (onto HB1.out HB1.out.size (HTE.out _)).mono ?_
          rintro e w2 ⟨rfl, hB2⟩
          have HB2 := Lib.hid hB2
          clear hB2 HB1
          go_wp2_with fail
          refine (onto HB2.out HB2.out.size (HSI.out _)).mono ?_
          rintro e w3 ⟨rfl, hB3⟩
          have HB3 := Lib.hid hB3
          clear hB3 HB2
          go_wp2_with fail
          refine (onto HB3.out HB3.out.size (HKI.out _)).mono ?_
          rintro e w4 ⟨rfl, hB4⟩
          have HB4 := Lib.hid hB4
          clear hB4 HB3
          go_wp2_with fail
          refine (onto HB4.out HB4.out.size (HKT.out _)).mono ?_
          rintro e w5 ⟨rfl, hB5⟩
          have HB5 := Lib.hid hB5
          clear hB5 HB4
          go_wp2_with fail
          refine (onto HB5.out HB5.out.size (HDT.out _)).mono ?_
          rintro e w6 ⟨rfl, hB6⟩
          have HB6 := Lib.hid hB6
          clear hB6 HB5
          go_wp2_with fail
          refine (onto HB6.out HB6.out.size (HDS.out _)).mono ?_
          rintro e w7 ⟨rfl, hB7⟩
          have HB7 := Lib.hid hB7
          clear hB7 HB6
          go_wp2_with fail
          refine (onto HB7.out HB7.out.size (HKV.out _)).mono ?_
          rintro e w8 ⟨rfl, hB8⟩
          have HB8 := Lib.hid hB8
          clear hB8 HB7
          go_wp2_with fail
          refine (onto HB8.out HB8.out.size (HDV.out _)).mono ?_
          rintro e w9 ⟨rfl, hB9⟩
          have HB9 := Lib.hid hB9
          clear hB9 HB8
          go_wp2_with fail
          refine (onto HB9.out HB9.out.size (HDS.out _)).mono ?_
          rintro e w10 ⟨rfl, hB10⟩
          have HB10 := Lib.hid hB10
          clear hB10 HB9
          go_wp2
          go_loopw [9, 94] (fun vs vi wr => ∃ a : Nat, a ≤ 64 ∧ vi = .int .i64 a ∧ vs = .string (mkS (List.replicate a (UInt8.ofNat c))) ∧ Below w.heap.size w wr) (fun vs vi _ => 64 - (intOf vi).toNat)
          case atStart => exact ⟨0, by decide, rfl, by rw [List.replicate_zero, mkS_nil], HB10.out⟩
          case round =>
            obtain ⟨a, ha, rfl, rfl, hB⟩ := hrel
            have HBR := Lib.hid hB
            clear hB
            by_cases hlt : a < 64
            · have z1 : (a : Int) < 64 := by clear r1 r2 q1 q2; omega
              have z2 : decide ((a : Int) < 64) = true := decide_eq_true z1
              have hw := i64s a (by clear r1 r2 q1 q2; omega)
              have hcv := conv1 (wr.alloc (.cells #[.int .u8 (c : Int)] 5)) wr.heap.size c (World.cell?_alloc_new _ _ _ _) hc256
              have hf3 : Fit (List.replicate a (UInt8.ofNat c)) [UInt8.ofNat c] := fit (by simp; clear r1 r2 q1 q2; omega)
              have HRE := Lib.hid (show cat (List.replicate a (UInt8.ofNat c)) [UInt8.ofNat c] = List.replicate (a + 1) (UInt8.ofNat c) from by rw [cat_eq, List.replicate_succ'])
              generalize List.replicate a (UInt8.ofNat c) = sa at *
              go_wp2
              exact ⟨⟨a + 1, by clear r1 r2 q1 q2; omega, by go_num, by rw [HRE.out], HBR.out.alloc HBR.out.size _⟩, by clear r1 r2 q1 q2; simp [intOf]; omega⟩
            · obtain rfl : a = 64 := by clear r1 r2 q1 q2; omega
              generalize List.replicate 64 (UInt8.ofNat c) = sm at *
              go_wp2_with fail
              refine (onto HBR.out HBR.out.size (HCO.out _ HBR.out)).mono ?_
              rintro e y1 ⟨rfl, hC1⟩
              have HC1 := Lib.hid hC1
              clear hC1
              go_wp2_with fail
              refine (onto HC1.out HC1.out.size (HHO.out _ HC1.out)).mono ?_
              rintro e y2 ⟨rfl, hC2⟩
              have HC2 := Lib.hid hC2
              clear hC2
              go_wp2_with fail
              refine (onto HC2.out HC2.out.size (HGC.out _)).mono ?_
              rintro e y3 ⟨rfl, hC3⟩
              have HC3 := Lib.hid hC3
              clear hC3
              by_cases hch : cc = h
              · subst hch
                go_wp2
                go_ret
                exact ⟨rfl, HC3.out⟩
              · have b1 : (cc == h) = false := beq_eq_false_iff_ne.2 hch
                obtain rfl : cc = cat (cat s [46]) h := HOR.out.resolve_left hch
                go_wp2
                go_ret
                exact ⟨rfl, HC3.out⟩
        · clear S k1 k2 k3 htl hti hvj ha
          generalize dirL s = D at *
          go_enter Tryd.func7, Tryd.ntmps7
          go_wp2_with fail
          refine (HAW.out _).mono ?_
          rintro e w1 ⟨rfl, hB1⟩
          have HB1 := Lib.hid hB1
          clear hB1
          go_wp2_with fail
          refine (onto HB1.out HB1.out.size (HTE.out _)).mono ?_
          rintro e w2 ⟨rfl, hB2⟩
          have HB2 := Lib.hid hB2
          clear hB2 HB1
          go_wp2_with fail
          refine (onto HB2.out HB2.out.size (HSI.out _)).mono ?_
          rintro e w3 ⟨rfl, hB3⟩
          have HB3 := Lib.hid hB3
          clear hB3 HB2
          go_wp2_with fail
          refine (onto HB3.out HB3.out.size (HKI.out _)).mono ?_
          rintro e w4 ⟨rfl, hB4⟩
          have HB4 := Lib.hid hB4
          clear hB4 HB3
          go_wp2_with fail
          refine (onto HB4.out HB4.out.size (HKT.out _)).mono ?_
          rintro e w5 ⟨rfl, hB5⟩
          have HB5 := Lib.hid hB5
          clear hB5 HB4
          go_wp2_with fail
          refine (onto HB5.out HB5.out.size (HDT.out _)).mono ?_
          rintro e w6 ⟨rfl, hB6⟩
          have HB6 := Lib.hid hB6
          clear hB6 HB5
          go_wp2_with fail
          refine (onto HB6.out HB6.out.size (HDS.out _)).mono ?_
          rintro e w7 ⟨rfl, hB7⟩
          have HB7 := Lib.hid hB7
          clear hB7 HB6
          go_wp2
          go_loopw [9, 94] (fun vs vi wr => ∃ a : Nat, a ≤ 64 ∧ vi = .int .i64 a ∧ vs = .string (mkS (List.replicate a (UInt8.ofNat c))) ∧ Below w.heap.size w wr) (fun vs vi _ => 64 - (intOf vi).toNat)
          case atStart => exact ⟨0, by decide, rfl, by rw [List.replicate_zero, mkS_nil], HB7.out⟩
          case round =>
            obtain ⟨a, ha, rfl, rfl, hB⟩ := hrel
            have HBR := Lib.hid hB
            clear hB
            by_cases hlt : a < 64
            · have z1 : (a : Int) < 64 := by clear r1 r2 q1 q2; omega
              have z2 : decide ((a : Int) < 64) = true := decide_eq_true z1
              have hw := i64s a (by clear r1 r2 q1 q2; omega)
              have hcv := conv1 (wr.alloc (.cells #[.int .u8 (c : Int)] 5)) wr.heap.size c (World.cell?_alloc_new _ _ _ _) hc256
              have hf3 : Fit (List.replicate a (UInt8.ofNat c)) [UInt8.ofNat c] := fit (by simp; clear r1 r2 q1 q2; omega)
              have HRE := Lib.hid (show cat (List.replicate a (UInt8.ofNat c)) [UInt8.ofNat c] = List.replicate (a + 1) (UInt8.ofNat c) from by rw [cat_eq, List.replicate_succ'])
              generalize List.replicate a (UInt8.ofNat c) = sa at *
              go_wp2
              exact ⟨⟨a + 1, by clear r1 r2 q1 q2; omega, by go_num, by rw [HRE.out], HBR.out.alloc HBR.out.size _⟩, by clear r1 r2 q1 q2; simp [intOf]; omega⟩
            · obtain rfl : a = 64 := by clear r1 r2 q1 q2; omega
              generalize List.replicate 64 (UInt8.ofNat c) = sm at *
              go_wp2_with fail
              refine (onto HBR.out HBR.out.size (HCO.out _ HBR.out)).mono ?_
              rintro e y1 ⟨rfl, hC1⟩
              have HC1 := Lib.hid hC1
              clear hC1
              go_wp2_with fail
              refine (onto HC1.out HC1.out.size (HHO.out _ HC1.out)).mono ?_
              rintro e y2 ⟨rfl, hC2⟩
              have HC2 := Lib.hid hC2
              clear hC2
              go_wp2_with fail
              refine (onto HC2.out HC2.out.size (HGC.out _)).mono ?_
              rintro e y3 ⟨rfl, hC3⟩
              have HC3 := Lib.hid hC3
              clear hC3
              by_cases hch : cc = h
              · subst hch
                go_wp2
                go_ret
                exact ⟨rfl, HC3.out⟩
              · have b1 : (cc == h) = false := beq_eq_false_iff_ne.2 hch
                obtain rfl : cc = cat (cat s [46]) h := HOR.out.resolve_left hch
                go_wp2
                go_ret
                exact ⟨rfl, HC3.out⟩
      · rcases hj with rfl | rfl
        · obtain ⟨l1, l2, l3⟩ := with_par hvj
          have a2 : (v == s) = false := beq_eq_false_iff_ne.2 l3
          have hvl : v.length < 100000 := by rw [(with_ok hvj).1, putL_len]; show s.length + 5 < _; clear r1 r2 q1 q2; omega
          have HKV := Lib.hid (fun u => S.kind v u hvl)
          have HDV := Lib.hid (fun u => S.dir v u hvl)
          rw [l1] at HKV
          rw [l2] at HDV
          clear S l1 l2 l3 hvl hti hvj ha
          generalize dirL s = D at *
          go_enter Tryd.func7, Tryd.ntmps7
          go_wp2_with fail
          refine (HAW.out _).mono ?_
          rintro e w1 ⟨rfl, hB1⟩
          have HB1 := Lib.hid hB1
          clear hB1
          go_wp2_with fail
          refine (onto HB1.out HB1.out.size (HTE.out _)).mono ?_
          rintro e w2 ⟨rfl, hB2⟩
          have HB2 := Lib.hid hB2
          clear hB2 HB1
          go_wp2_with fail
          refine (onto HB2.out HB2.out.size (HSI.out _)).mono ?_
          rintro e w3 ⟨rfl, hB3⟩
          have HB3 := Lib.hid hB3
          clear hB3 HB2
          go_wp2_with fail
          refine (onto HB3.out HB3.out.size (HKI.out _)).mono ?_
          rintro e w4 ⟨rfl, hB4⟩
          have HB4 := Lib.hid hB4
          clear hB4 HB3
          go_wp2_with fail
          refine (onto HB4.out HB4.out.size (HKV.out _)).mono ?_
          rintro e w5 ⟨rfl, hB5⟩
          have HB5 := Lib.hid hB5
          clear hB5 HB4
          go_wp2_with fail
          refine (onto HB5.out HB5.out.size (HDV.out _)).mono ?_
          rintro e w6 ⟨rfl, hB6⟩
          have HB6 := Lib.hid hB6
          clear hB6 HB5
          go_wp2_with fail
          refine (onto HB6.out HB6.out.size (HDS.out _)).mono ?_
          rintro e w7 ⟨rfl, hB7⟩
          have HB7 := Lib.hid hB7
          clear hB7 HB6
          go_wp2
          go_loopw [9, 94] (fun vs vi wr => ∃ a : Nat, a ≤ 64 ∧ vi = .int .i64 a ∧ vs = .string (mkS (List.replicate a (UInt8.ofNat c))) ∧ Below w.heap.size w wr) (fun vs vi _ => 64 - (intOf vi).toNat)
          case atStart => exact ⟨0, by decide, rfl, by rw [List.replicate_zero, mkS_nil], HB7.out⟩
          case round =>
            obtain ⟨a, ha, rfl, rfl, hB⟩ := hrel
            have HBR := Lib.hid hB
            clear hB
            by_cases hlt : a < 64
            · have z1 : (a : Int) < 64 := by clear r1 r2 q1 q2; omega
              have z2 : decide ((a : Int) < 64) = true := decide_eq_true z1
              have hw := i64s a (by clear r1 r2 q1 q2; omega)
              have hcv := conv1 (wr.alloc (.cells #[.int .u8 (c : Int)] 5)) wr.heap.size c (World.cell?_alloc_new _ _ _ _) hc256
              have hf3 : Fit (List.replicate a (UInt8.ofNat c)) [UInt8.ofNat c] := fit (by simp; clear r1 r2 q1 q2; omega)
              have HRE := Lib.hid (show cat (List.replicate a (UInt8.ofNat c)) [UInt8.ofNat c] = List.replicate (a + 1) (UInt8.ofNat c) from by rw [cat_eq, List.replicate_succ'])
              generalize List.replicate a (UInt8.ofNat c) = sa at *
              go_wp2
              exact ⟨⟨a + 1, by clear r1 r2 q1 q2; omega, by go_num, by rw [HRE.out], HBR.out.alloc HBR.out.size _⟩, by clear r1 r2 q1 q2; simp [intOf]; omega⟩
            · obtain rfl : a = 64 := by clear r1 r2 q1 q2; omega
              generalize List.replicate 64 (UInt8.ofNat c) = sm at *
              go_wp2_with fail
              refine (onto HBR.out HBR.out.size (HCO.out _ HBR.out)).mono ?_
              rintro e y1 ⟨rfl, hC1⟩
              have HC1 := Lib.hid hC1
              clear hC1
              go_wp2_with fail
              refine (onto HC1.out HC1.out.size (HHO.out _ HC1.out)).mono ?_
              rintro e y2 ⟨rfl, hC2⟩
              have HC2 := Lib.hid hC2
              clear hC2
              go_wp2_with fail
              refine (onto HC2.out HC2.out.size (HGC.out _)).mono ?_
              rintro e y3 ⟨rfl, hC3⟩
              have HC3 := Lib.hid hC3
              clear hC3
              by_cases hch : cc = h
              · subst hch
                go_wp2
                go_ret
                exact ⟨rfl, HC3.out⟩
              · have b1 : (cc == h) = false := beq_eq_false_iff_ne.2 hch
                obtain rfl : cc = cat (cat s [46]) h := HOR.out.resolve_left hch
                go_wp2
                go_ret
                exact ⟨rfl, HC3.out⟩
        · clear S hti hvj ha HDS
          go_enter Tryd.func7, Tryd.ntmps7
          go_wp2_with fail
          refine (HAW.out _).mono ?_
          rintro e w1 ⟨rfl, hB1⟩
          have HB1 := Lib.hid hB1
          clear hB1
          go_wp2_with fail
          refine (onto HB1.out HB1.out.size (HTE.out _)).mono ?_
          rintro e w2 ⟨rfl, hB2⟩
          have HB2 := Lib.hid hB2
          clear hB2 HB1
          go_wp2_with fail
          refine (onto HB2.out HB2.out.size (HSI.out _)).mono ?_
          rintro e w3 ⟨rfl, hB3⟩
          have HB3 := Lib.hid hB3
          clear hB3 HB2
          go_wp2_with fail
          refine (onto HB3.out HB3.out.size (HKI.out _)).mono ?_
          rintro e w4 ⟨rfl, hB4⟩
          have HB4 := Lib.hid hB4
          clear hB4 HB3
          go_wp2
          go_loopw [9, 94] (fun vs vi wr => ∃ a : Nat, a ≤ 64 ∧ vi = .int .i64 a ∧ vs = .string (mkS (List.replicate a (UInt8.ofNat c))) ∧ Below w.heap.size w wr) (fun vs vi _ => 64 - (intOf vi).toNat)
          case atStart => exact ⟨0, by decide, rfl, by rw [List.replicate_zero, mkS_nil], HB4.out⟩
          case round =>
            obtain ⟨a, ha, rfl, rfl, hB⟩ := hrel
            have HBR := Lib.hid hB
            clear hB
            by_cases hlt : a < 64
            · have z1 : (a : Int) < 64 := by clear r1 r2 q1 q2; omega
              have z2 : decide ((a : Int) < 64) = true := decide_eq_true z1
              have hw := i64s a (by clear r1 r2 q1 q2; omega)
              have hcv := conv1 (wr.alloc (.cells #[.int .u8 (c : Int)] 5)) wr.heap.size c (World.cell?_alloc_new _ _ _ _) hc256
              have hf3 : Fit (List.replicate a (UInt8.ofNat c)) [UInt8.ofNat c] := fit (by simp; clear r1 r2 q1 q2; omega)
              have HRE := Lib.hid (show cat (List.replicate a (UInt8.ofNat c)) [UInt8.ofNat c] = List.replicate (a + 1) (UInt8.ofNat c) from by rw [cat_eq, List.replicate_succ'])
              generalize List.replicate a (UInt8.ofNat c) = sa at *
              go_wp2
              exact ⟨⟨a + 1, by clear r1 r2 q1 q2; omega, by go_num, by rw [HRE.out], HBR.out.alloc HBR.out.size _⟩, by clear r1 r2 q1 q2; simp [intOf]; omega⟩
            · obtain rfl : a = 64 := by clear r1 r2 q1 q2; omega
              generalize List.replicate 64 (UInt8.ofNat c) = sm at *
              go_wp2_with fail
              refine (onto HBR.out HBR.out.size (HCO.out _ HBR.out)).mono ?_
              rintro e y1 ⟨rfl, hC1⟩
              have HC1 := Lib.hid hC1
              clear hC1
              go_wp2_with fail
              refine (onto HC1.out HC1.out.size (HHO.out _ HC1.out)).mono ?_
              rintro e y2 ⟨rfl, hC2⟩
              have HC2 := Lib.hid hC2
              clear hC2
              go_wp2_with fail
              refine (onto HC2.out HC2.out.size (HGC.out _)).mono ?_
              rintro e y3 ⟨rfl, hC3⟩
              have HC3 := Lib.hid hC3
              clear hC3
              by_cases hch : cc = h
              · subst hch
                go_wp2
                go_ret
                exact ⟨rfl, HC3.out⟩
              · have b1 : (cc == h) = false := beq_eq_false_iff_ne.2 hch
                obtain rfl : cc = cat (cat s [46]) h := HOR.out.resolve_left hch
                go_wp2
                go_ret
                exact ⟨rfl, HC3.out⟩
end
end Go.Proofs.YtbnolmbbpdjibaaDoor
