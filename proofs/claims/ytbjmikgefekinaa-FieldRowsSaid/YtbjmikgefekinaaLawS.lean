/- The statement FieldRows, walked. -/
import Derived.Test.YtbjmikgefekinaaOwn
set_option linter.unusedSimpArgs false
set_option linter.unusedVariables false
namespace Go.Proofs.Ytbjmikgefekinaa
open Go Go.RowKit

attribute [local go_sem ↓] exec_bs
attribute [local go_sem] bsl1 bs2 bsl3 bslA
theorem bs0 (w : World) : (bsT 35 0 #[]).run Try.prog w = .ok (.value (.slice (some ⟨w.heap.size, 0, none⟩) 0 0)) (w.alloc (.cells #[] 5)) := by kernel_rfl
attribute [local go_sem] bs0
theorem refMul_q (a b : BitVec 8) (w : World) : Calls Try.prog 12 #[B a, B b] w fun e w' => e = .returned (B (gm a b)) ∧ w' = w :=
  (refMul_any a b w).mono fun e w' ⟨he, hw⟩ => ⟨he, hw.symm⟩
theorem map_getD' (f : BitVec 8 → BitVec 8) (l : List (BitVec 8)) (k : Nat) (h : k < l.length) : (l.map f).getD k 0#8 = f (l.getD k 0#8) := by
  simp [List.getD_eq_getElem?_getD, h]
theorem Sl.at_ {w : World} {D : Nat} {l : List (BitVec 8)} (h : Sl w (some ⟨D, 0, none⟩) l) (k : Nat) (hk : k < l.length) : w.cell? ⟨D, k, none⟩ = some (B (l.getD k 0#8)) := by
  obtain ⟨c, o, e, hc⟩ := h k hk
  injection e with e
  injection e with e1 e2
  subst e1 e2
  rwa [Nat.zero_add] at hc
set_option maxRecDepth 100000 in
set_option maxHeartbeats 4000000 in
theorem rows_a (x : BitVec 8) (p q : Option Addr) (n m cap cap' : Nat) (w : World) (h : 100 < n) : Calls Try.prog 6 #[B x, .slice p n cap, .slice q m cap'] w fun e w' => e = .returned (.bool true) ∧ Below w.heap.size w w' := by
  have HB := Lib.hid (Below.refl w.heap.size w)
  have hd : decide ((100 : Int) < (n : Int)) = true := decide_eq_true (by omega)
  go_enter Try.func6, Try.ntmps6
  go_wp2_with fail
  refine (awake_any w w HB.out).mono ?_
  rintro e w1 ⟨rfl, hB1⟩
  have HB1 := Lib.hid hB1
  clear hB1
  go_wp2_with fail
  refine (awake_any w w1 HB1.out).mono ?_
  rintro e w2 ⟨rfl, hB2⟩
  have HB2 := Lib.hid hB2
  clear hB2
  go_wp2
  go_ret
  exact ⟨rfl, HB2.out⟩
set_option maxRecDepth 100000 in
set_option maxHeartbeats 4000000 in
theorem rows_b (x : BitVec 8) (p q : Option Addr) (n m cap cap' : Nat) (w : World) (hn : n ≤ 100) (h : 100 < m) : Calls Try.prog 6 #[B x, .slice p n cap, .slice q m cap'] w fun e w' => e = .returned (.bool true) ∧ Below w.heap.size w w' := by
  have HB := Lib.hid (Below.refl w.heap.size w)
  have hd0 : decide ((100 : Int) < (n : Int)) = false := decide_eq_false (by omega)
  have hd : decide ((100 : Int) < (m : Int)) = true := decide_eq_true (by omega)
  go_enter Try.func6, Try.ntmps6
  go_wp2_with fail
  refine (awake_any w w HB.out).mono ?_
  rintro e w1 ⟨rfl, hB1⟩
  have HB1 := Lib.hid hB1
  clear hB1
  go_wp2_with fail
  refine (awake_any w w1 HB1.out).mono ?_
  rintro e w2 ⟨rfl, hB2⟩
  have HB2 := Lib.hid hB2
  clear hB2
  go_wp2
  go_ret
  exact ⟨rfl, HB2.out⟩
set_option maxRecDepth 100000 in
set_option maxHeartbeats 4000000 in
theorem rows_same (x : BitVec 8) (p q : Option Addr) (n cap cap' : Nat) (w : World) (la lb : List (BitVec 8)) (ha : Sl w p la) (hb : Sl w q lb) (hla : la.length = n) (hlb : lb.length = n) (hp : p = none → cap = 0) (hq : q = none → cap' = 0) (hn : n ≤ 100) : Calls Try.prog 6 #[B x, .slice p n cap, .slice q n cap'] w fun e w' => e = .returned (.bool true) ∧ Below w.heap.size w w' := by
  have HB := Lib.hid (Below.refl w.heap.size w)
  have hd0 : decide ((100 : Int) < (n : Int)) = false := decide_eq_false (by omega)
  have HA := Lib.hid ha
  have HBB := Lib.hid hb
  have HLA := Lib.hid hla
  have HLB := Lib.hid hlb
  have HP := Lib.hid hp
  have HQ := Lib.hid hq
  clear ha hb hla hlb hp hq
  go_enter Try.func6, Try.ntmps6
  go_wp2_with fail
  refine (awake_any w w HB.out).mono ?_
  rintro e w1 ⟨rfl, hB1⟩
  have HB1 := Lib.hid hB1
  clear hB1
  go_wp2_with fail
  refine (newG w w1 HB1.out).mono ?_
  rintro e w2 ⟨rfl, hG2⟩
  have HG2 := Lib.hid hG2
  clear hG2
  generalize w1.heap.size = bb at *
  have hown := OwnB.empty w2 w2.heap.size (Nat.le_refl _)
  have hb2a : Below w2.heap.size w2 (w2.alloc (.cells #[] 5)) := (Below.refl _ _).alloc (Nat.le_refl _) _
  have HO := Lib.hid hown
  have HB2a := Lib.hid hb2a
  have HG2a := Lib.hid (HG2.out.alloc (.cells #[] 5))
  clear hown hb2a
  go_wp2_with (first | (refine wpl_append _ rfl (.tmp 28) (.tmp 29) rfl w2.heap.size (.slice (some ⟨w2.heap.size, 0, none⟩) 0 0) [] rfl HO.out p n cap la HLA.out rfl (HA.out.of_below HG2a.out.bel) HP.out (by show 0 + n < _; omega) HB2a.out.size ?_; rintro v3 w3 hv3 hg3; have HB3 := Lib.hid (HB2a.out.grown hg3 HB2a.out.size (fun g hg => (HO.out.lt g hg).1)); rw [List.nil_append] at hv3; obtain ⟨q3, c3, e3, hs3, hc3, hle3⟩ := hv3.shape; rw [HLA.out] at e3 hle3; subst e3; have HS3 := Lib.hid hs3; have HC3 := Lib.hid hc3; clear hv3 hg3 hs3 hc3))
  have HG3 := Lib.hid (HG2.out.step HB3.out)
  clear HO HB2a HG2a HB3
  refine (scaleL w w3 bb HG3.out x la q3 n c3 HS3.out HLA.out (by omega)).mono ?_
  rintro e w4 ⟨rfl, hG4, hb4, hs4⟩
  have hmv := HS3.out.of_below hb4
  generalize w3.heap.size = D at *
  have HG4 := Lib.hid hG4
  have HS4 := Lib.hid hs4
  have HO4 := Lib.hid hmv
  clear hG4 hb4 hs4 HS3 HG3 hmv
  go_wp2_with fail
  refine (plusL w w4 bb HG4.out la lb q3 q n c3 cap' HO4.out (HBB.out.of_below HG4.out.bel) HLA.out HLB.out (by omega)).mono ?_
  rintro e w5 ⟨rfl, hG5, hb5, hs5⟩
  have HO5 := Lib.hid (HO4.out.of_below hb5)
  have HS5 := Lib.hid (HS4.out.of_below hb5)
  have HT5 := Lib.hid hs5
  generalize w4.heap.size = E at *
  have HG5 := Lib.hid hG5
  clear hG5 hb5 hs5 HG4 HS4 HO4
  have hcv := conv_str w5 q3 la n c3 HO5.out HLA.out HC3.out
  have hcw := conv_str w5 p la n cap (HA.out.of_below HG5.out.bel) HLA.out HP.out
  go_wp2
  clear hcv hcw
  go_loopw [56] (fun i wr => ∃ k : Nat, k ≤ n ∧ i = .int .i64 k ∧ Dr w5 wr) (fun i _ => n - (intOf i).toNat)
  case atStart => exact ⟨0, Nat.zero_le _, rfl, Dr.refl _⟩
  case round =>
    obtain ⟨k, hk, rfl, hD⟩ := hrel
    have HDr := Lib.hid hD
    by_cases hlt : k < n
    · have hla : k < la.length := by rw [HLA.out]; exact hlt
      obtain ⟨c, o, rfl, hc⟩ := HA.out k hla
      have hx : wr.cell? ⟨c, o + k, none⟩ = some (B (la.getD k 0#8)) := by
        rw [hD.cell, HG5.out.bel.cell (World.block_lt_of_cell? w _ hc)]; exact hc
      have hs : wr.cell? ⟨D, k, none⟩ = some (B (gm x (la.getD k 0#8))) := by
        rw [hD.cell, HS5.out.at_ k (by rw [List.length_map]; exact hla), map_getD' _ _ _ hla]
      have hdl : decide ((k : Int) < (n : Int)) = true := decide_eq_true (by omega)
      have hl0 : (k : Int) < (n : Int) := by omega
      generalize la.getD k 0#8 = y at *
      clear hD hc hla
      go_wp2
      go_quiet ((go_at_call 12; exact Calls.quiet_of_same (refMul_q _ _ _)))
      go_wp2
      go_roundw
      case rel => exact ⟨k + 1, by omega, by go_num, HDr.out.drewN _⟩
      case measure => simp [intOf]; omega
    · have hdl : decide ((k : Int) < (n : Int)) = false := decide_eq_false (by omega)
      clear hD
      go_wp2
      go_loopw [85] (fun i wr => ∃ k : Nat, k ≤ n ∧ i = .int .i64 k ∧ Dr w5 wr) (fun i _ => n - (intOf i).toNat)
      case atStart => exact ⟨0, Nat.zero_le _, rfl, HDr.out⟩
      case round =>
        clear HDr hdl hlt hk
        rename_i wr0 k0
        obtain ⟨k, hk, rfl, hD⟩ := hrel
        have HDr := Lib.hid hD
        by_cases hlt : k < n
        · have hla : k < la.length := by rw [HLA.out]; exact hlt
          obtain ⟨c, o, rfl, hc⟩ := HA.out k hla
          obtain ⟨c', o', rfl, hc'⟩ := HBB.out k (by rw [HLB.out]; exact hlt)
          have hx : wr.cell? ⟨c, o + k, none⟩ = some (B (la.getD k 0#8)) := by
            rw [hD.cell, HG5.out.bel.cell (World.block_lt_of_cell? w _ hc)]; exact hc
          have hy : wr.cell? ⟨c', o' + k, none⟩ = some (B (lb.getD k 0#8)) := by
            rw [hD.cell, HG5.out.bel.cell (World.block_lt_of_cell? w _ hc')]; exact hc'
          have hs : wr.cell? ⟨E, k, none⟩ = some (B (la.getD k 0#8 ^^^ lb.getD k 0#8)) := by
            rw [hD.cell, HT5.out.at_ k (by rw [zx_length]; exact hla), zx_get _ _ _ hla]
          have hdl : decide ((k : Int) < (n : Int)) = true := decide_eq_true (by omega)
          have hl0 : (k : Int) < (n : Int) := by omega
          generalize la.getD k 0#8 = y at *
          generalize lb.getD k 0#8 = z at *
          clear hD hc hc' hla
          go_wp2
          go_quiet (fail)
          go_wp2
          go_roundw
          case rel => exact ⟨k + 1, by omega, by go_num, HDr.out.drewN _⟩
          case measure => simp [intOf]; omega
        · have hdl : decide ((k : Int) < (n : Int)) = false := decide_eq_false (by omega)
          clear hD
          go_wp2
          go_ret
          exact ⟨rfl, (HG5.out.dr HDr.out).bel⟩
set_option maxRecDepth 100000 in
set_option maxHeartbeats 4000000 in
theorem rows_odd (x : BitVec 8) (p q : Option Addr) (n m cap cap' : Nat) (w : World) (la lb : List (BitVec 8)) (ha : Sl w p la) (hb : Sl w q lb) (hla : la.length = n) (hlb : lb.length = m) (hp : p = none → cap = 0) (hq : q = none → cap' = 0) (hn : n ≤ 100) (hm : m ≤ 100) (hne : n ≠ m) : Calls Try.prog 6 #[B x, .slice p n cap, .slice q m cap'] w fun e w' => e = .returned (.bool true) ∧ Below w.heap.size w w' := by
  have HB := Lib.hid (Below.refl w.heap.size w)
  have hd0 : decide ((100 : Int) < (n : Int)) = false := decide_eq_false (by omega)
  have hd : decide ((100 : Int) < (m : Int)) = false := decide_eq_false (by omega)
  have HA := Lib.hid ha
  have HBB := Lib.hid hb
  have HLA := Lib.hid hla
  have HLB := Lib.hid hlb
  have HP := Lib.hid hp
  have HQ := Lib.hid hq
  clear ha hb hla hlb hp hq
  have HNE := Lib.hid hne
  clear hne
  go_enter Try.func6, Try.ntmps6
  go_wp2_with fail
  refine (awake_any w w HB.out).mono ?_
  rintro e w1 ⟨rfl, hB1⟩
  have HB1 := Lib.hid hB1
  clear hB1
  go_wp2_with fail
  refine (newG w w1 HB1.out).mono ?_
  rintro e w2 ⟨rfl, hG2⟩
  have HG2 := Lib.hid hG2
  clear hG2
  generalize w1.heap.size = bb at *
  have hown := OwnB.empty w2 w2.heap.size (Nat.le_refl _)
  have hb2a : Below w2.heap.size w2 (w2.alloc (.cells #[] 5)) := (Below.refl _ _).alloc (Nat.le_refl _) _
  have HO := Lib.hid hown
  have HB2a := Lib.hid hb2a
  have HG2a := Lib.hid (HG2.out.alloc (.cells #[] 5))
  clear hown hb2a
  go_wp2_with (first | (refine wpl_append _ rfl (.tmp 28) (.tmp 29) rfl w2.heap.size (.slice (some ⟨w2.heap.size, 0, none⟩) 0 0) [] rfl HO.out p n cap la HLA.out rfl (HA.out.of_below HG2a.out.bel) HP.out (by show 0 + n < _; omega) HB2a.out.size ?_; rintro v3 w3 hv3 hg3; have HB3 := Lib.hid (HB2a.out.grown hg3 HB2a.out.size (fun g hg => (HO.out.lt g hg).1)); rw [List.nil_append] at hv3; obtain ⟨q3, c3, e3, hs3, hc3, hle3⟩ := hv3.shape; rw [HLA.out] at e3 hle3; subst e3; have HS3 := Lib.hid hs3; have HC3 := Lib.hid hc3; clear hv3 hg3 hs3 hc3))
  have HG3 := Lib.hid (HG2.out.step HB3.out)
  clear HO HB2a HG2a HB3
  refine (scaleL w w3 bb HG3.out x la q3 n c3 HS3.out HLA.out (by omega)).mono ?_
  rintro e w4 ⟨rfl, hG4, hb4, hs4⟩
  have hmv := HS3.out.of_below hb4
  generalize w3.heap.size = D at *
  have HG4 := Lib.hid hG4
  have HS4 := Lib.hid hs4
  have HO4 := Lib.hid hmv
  clear hG4 hb4 hs4 HS3 HG3 hmv
  go_wp2_with fail
  refine (plus_odd _ q3 q n m c3 cap' w4 (by omega) (by omega) HNE.out).mono ?_
  rintro e w5 ⟨rfl, hw⟩
  subst hw
  have HO5 := HO4
  have HS5 := HS4
  have HG5 := HG4
  clear HO4 HS4 HG4
  have hcv := conv_str w4 q3 la n c3 HO5.out HLA.out HC3.out
  have hcw := conv_str w4 p la n cap (HA.out.of_below HG5.out.bel) HLA.out HP.out
  go_wp2
  clear hcv hcw
  go_loopw [56] (fun i wr => ∃ k : Nat, k ≤ n ∧ i = .int .i64 k ∧ Dr w4 wr) (fun i _ => n - (intOf i).toNat)
  case atStart => exact ⟨0, Nat.zero_le _, rfl, Dr.refl _⟩
  case round =>
    obtain ⟨k, hk, rfl, hD⟩ := hrel
    have HDr := Lib.hid hD
    by_cases hlt : k < n
    · have hla : k < la.length := by rw [HLA.out]; exact hlt
      obtain ⟨c, o, rfl, hc⟩ := HA.out k hla
      have hx : wr.cell? ⟨c, o + k, none⟩ = some (B (la.getD k 0#8)) := by
        rw [hD.cell, HG5.out.bel.cell (World.block_lt_of_cell? w _ hc)]; exact hc
      have hs : wr.cell? ⟨D, k, none⟩ = some (B (gm x (la.getD k 0#8))) := by
        rw [hD.cell, HS5.out.at_ k (by rw [List.length_map]; exact hla), map_getD' _ _ _ hla]
      have hdl : decide ((k : Int) < (n : Int)) = true := decide_eq_true (by omega)
      have hl0 : (k : Int) < (n : Int) := by omega
      generalize la.getD k 0#8 = y at *
      clear hD hc hla
      go_wp2
      go_quiet ((go_at_call 12; exact Calls.quiet_of_same (refMul_q _ _ _)))
      go_wp2
      go_roundw
      case rel => exact ⟨k + 1, by omega, by go_num, HDr.out.drewN _⟩
      case measure => simp [intOf]; omega
    · have hdl : decide ((k : Int) < (n : Int)) = false := decide_eq_false (by omega)
      clear hD
      have hdn : ((n : Int) != (m : Int)) = true := by have := HNE.out; simp; omega
      have hdm : ((n : Int) == (m : Int)) = false := by have := HNE.out; simp; omega
      have hdk : decide (n = m) = false := by have := HNE.out; simp; omega
      go_wp2
      go_ret
      exact ⟨rfl, (HG5.out.dr HDr.out).bel⟩
end Go.Proofs.Ytbjmikgefekinaa
