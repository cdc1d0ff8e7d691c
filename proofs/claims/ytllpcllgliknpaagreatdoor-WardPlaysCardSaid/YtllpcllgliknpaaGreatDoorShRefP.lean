/- The reference's bytes, filled up. -/
import Derived.Test.YtllpcllgliknpaaGreatDoorShApp
set_option linter.unusedSimpArgs false
set_option maxRecDepth 100000
set_option linter.unusedVariables false
namespace Go.Proofs.YtllpcllgliknpaaGreatDoor.Sha
open Go Go.RowKit

theorem mk22_8 (w : World) : (mkT 53 (.int .i64 8) (.int .i64 8)).run Tryz.prog w = .ok (.value (.slice (some ⟨w.heap.size, 0, none⟩) 8 8)) (w.alloc (.cells (zb 8) 5)) := by
  rw [zb_eq]
  kernel_rfl
theorem st_I8 (a : Addr) (x : Int) (w : World) (hcell : (w.cell? a).isSome = true) (hf : w.frozen? a = false) : (stT 5 (.pointer (some a)) (.int .u8 x)).run Tryz.prog w = .ok .skip (w.setCell a (.int .u8 x)) :=
  stT_one 5 a _ w rfl rfl size5 hcell hf
attribute [local go_sem ↓] exec_make
attribute [local go_sem] mk22_8 st_I8
/-- What padded gives. -/
def PadPost (w : World) (l : List (BitVec 8)) (e : Ending) (w' : World) : Prop :=
  ∃ q c, e = .returned (.slice q (padl l).length c) ∧ Sl w' q (padl l) ∧ (q = none → c = 0) ∧ (padl l).length ≤ c ∧ (∀ a, q = some a → w.heap.size ≤ a.block) ∧ Below w.heap.size w w'
set_option maxHeartbeats 2000000 in
theorem padded_any (l : List (BitVec 8)) (p : Option Addr) (cap : Nat) (w : World) (hs : Sl w p l) (hc : p = none → cap = 0) (hn : l.length < 100000000000) :
    Calls Tryz.prog 51 #[.slice p l.length cap] w (PadPost w l) := by
  have HS := Lib.hid hs
  have HC := Lib.hid hc
  have hO1 : OwnB (w.alloc (.cells #[] 5)) w.heap.size (.slice (some ⟨w.heap.size, 0, none⟩) 0 0) [] := OwnB.lit w [] _ (Nat.le_refl _) (by decide) #[] rfl
  have HO1 := Lib.hid hO1
  have hb1 : Below w.heap.size w (w.alloc (.cells #[] 5)) := (Below.refl _ _).alloc (Nat.le_refl _) _
  have HB1 := Lib.hid hb1
  clear hs hc hO1 hb1
  generalize hL : l.length = n at *
  have HL := Lib.hid hL
  clear hL
  go_enter Tryz.func51, Tryz.ntmps51
  go_wp2_with (first | (refine wpl_append _ rfl (.tmp 7) (.tmp 8) rfl w.heap.size (.slice (some ⟨w.heap.size, 0, none⟩) 0 0) [] rfl HO1.out p cap l (by rw [HL.out]; rfl) (HS.out.of_below HB1.out) HC.out (by simp [HL.out]; omega) HB1.out.size ?_; rintro v1 w1 hv1 hg1; have hb2 := HB1.out.grown hg1 HB1.out.size (fun k hk => (HO1.out.lt k hk).1); have HB2 := Lib.hid hb2; have HV1 := Lib.hid hv1; clear hv1 hg1 hb2) | (refine wpl_append _ rfl (.tmp 9) (.tmp 10) rfl w.heap.size v1 l rfl (HV1.out.of_below ((Below.refl _ _).alloc (Nat.le_refl _) _)) _ 1 [128#8] rfl (Sl_new w1 _ _ B_128.symm _) (fun h => by cases h) (by rw [HL.out]; show n + 1 < _; omega) (by have := HB2.out.size; simp; omega) ?_; rintro v2 w2 hv2 hg2; have hb3 := (HB2.out.alloc HB2.out.size (.cells #[Value.int .u8 128] 5)).grown hg2 (by have := HB2.out.size; simp; omega) (fun k hk => (HV1.out.lt k hk).1); have HB3 := Lib.hid hb3; have HV2 := Lib.hid hv2; clear hv2 hg2 hb3))
  have HZ := Lib.hid (nz_le n)
  obtain ⟨q2, c2, hv2, _, _⟩ := HV2.out.shape
  have hv2' : v2 = .slice q2 (n + 1) c2 := by rw [hv2]; simp [HL.out]
  clear hv2
  subst hv2'
  go_loopg [3] (nz n) (fun g v wr => g ≤ nz n ∧ ∃ q cq, v = .slice q (n + 1 + (nz n - g)) cq ∧ OwnB wr w.heap.size v (l ++ 128#8 :: List.replicate (nz n - g) 0#8) ∧ Below w.heap.size w wr)
  case atStart =>
    refine ⟨Nat.le_refl _, q2, c2, ?_, ?_, HB3.out⟩
    · rw [Nat.sub_self]
    · rw [Nat.sub_self]; exact HV2.out
  case round =>
    obtain ⟨hg, q, cq, rfl, hO, hB⟩ := hrel
    have HO := Lib.hid hO
    have HB := Lib.hid hB
    have hlen : (l ++ 128#8 :: List.replicate (nz n - gk) 0#8).length = n + 1 + (nz n - gk) := by simp [HL.out]; omega
    have hz64 := HZ.out
    have hsz := hB.size
    generalize hk : n + 1 + (nz n - gk) = k at *
    have hkb : k ≤ n + 64 := by omega
    have hki : (k : Int) < 1000000000000 := by omega
    have HLEN := Lib.hid hlen
    clear hO hB hlen HO1 HB1 HB2 HV1 HB3 HV2
    by_cases hgk : gk = 0
    · have hz : ((k : Int) % 64 != 56) = false := by
        have := nz_ok n
        subst hk
        subst hgk
        simp; omega
      have Hk := Lib.hid hk
      clear hk
      go_wp2_with fail
      have hR5 : Row (wr.alloc (.cells (zb 8) 5)) wr.heap.size 5 8 (fun _ => B 0#8) := Row.new wr 5 8 _
      have HR5 := Lib.hid hR5
      have HO5 := Lib.hid (HO.out.of_below ((Below.refl _ _).alloc (Nat.le_refl _) (.cells (zb 8) 5)))
      have HB5 := Lib.hid (HB.out.alloc hsz (.cells (zb 8) 5))
      have HS5 := Lib.hid (show (wr.alloc (.cells (zb 8) 5)).heap.size = wr.heap.size + 1 by simp)
      have HG5 := Lib.hid (fun g hg => (HO.out.lt g hg).2)
      have hgk0 : nz n - gk = nz n := by omega
      have HK0 := Lib.hid hgk0
      clear hR5 HO HB hz hgk hgk0
      generalize wr.alloc (.cells (zb 8) 5) = w5 at *
      generalize wr.heap.size = T0 at *
      go_loopw [4, 6] (fun x i wv => ∃ t : Nat, t ≤ 8 ∧ i = .int .i64 ((t : Int) - 1) ∧ x = .int .i64 ((8 * n / 256 ^ (8 - t) : Nat) : Int) ∧ Row wv T0 5 8 (fun j => if t ≤ j then B ((be64 (8 * n)).getD j 0#8) else B 0#8) ∧ Kp T0 w5 wv) (fun _ i _ => (intOf i + 1).toNat)
      case atStart => exact ⟨8, by decide, rfl, by simp, HR5.out.congr (fun i hi => by rw [if_neg (by omega)]), Kp.refl _ _⟩
      case round =>
        obtain ⟨t, ht, rfl, rfl, hR, hKp⟩ := hrel
        have HR := Lib.hid hR
        have HKp := Lib.hid hKp
        by_cases ht0 : t = 0
        · subst ht0
          have hSt : Sl wr (some ⟨T0, 0, none⟩) (be64 (8 * n)) := fun j hj => ⟨T0, 0, rfl, by
            rw [be64_length] at hj
            have := hR.cell j hj
            rw [if_pos (Nat.zero_le _)] at this
            rw [Nat.zero_add]; exact this⟩
          have hOw := HO5.out.of_kp hKp (fun e => Nat.lt_irrefl _ (HG5.out _ e))
          have hBw : Below w.heap.size w wr := HB5.out.trans (hKp.below hsz (by rw [HS5.out]; omega))
          have HST := Lib.hid hSt
          have HOW := Lib.hid hOw
          have HBW := Lib.hid hBw
          have hsw := hBw.size
          have HFL := Lib.hid (show (l ++ 128#8 :: List.replicate (nz n - gk) 0#8) ++ be64 (8 * n) = padl l by
            rw [padl, HL.out, HK0.out]; simp)
          clear hR hKp HR HKp hSt hOw hBw
          go_wp2_with (refine wpl_append _ rfl (.tmp 35) (.tmp 36) rfl w.heap.size (.slice q k cq) _ rfl HOW.out (some ⟨T0, 0, none⟩) 8 (be64 (8 * n)) (by rw [be64_length]; rfl) HST.out (fun h => by cases h) (by rw [HLEN.out, be64_length]; omega) hsw ?_; rintro v3 w3 hv3 hg3; have HV3 := Lib.hid hv3; have HB6 := Lib.hid (HBW.out.grown hg3 hsw (fun k hk => (HOW.out.lt k hk).1)); clear hv3 hg3)
          go_ret
          obtain ⟨q3, c3, hv3, hs3, hc3, hle3⟩ := HV3.out.shape
          have hlo : ∀ a, q3 = some a → w.heap.size ≤ a.block := fun a ha => (HV3.out.lt a.block (by rw [hv3, ha]; rfl)).1
          rw [HFL.out] at hs3 hv3 hle3
          exact ⟨q3, c3, congrArg Ending.returned hv3, hs3, hc3, hle3, hlo, HB6.out⟩
        · obtain ⟨u, rfl⟩ : ∃ u, t = u + 1 := ⟨t - 1, by omega⟩
          have e1 : (((u + 1 : Nat) : Int) - 1) = (u : Int) := by omega
          have e2 : 8 - (u + 1) = 7 - u := by omega
          rw [e1, e2]
          have hX1 : 8 * n / 256 ^ (7 - u) / 256 = 8 * n / 256 ^ (8 - u) := by
            rw [Nat.div_div_eq_div_mul, ← Nat.pow_succ]
            congr 2
            omega
          have hXB : Value.int .u8 (((8 * n / 256 ^ (7 - u) : Nat) : Int) % 256) = B ((be64 (8 * n)).getD u 0#8) := by
            have h1 : (be64 (8 * n)).getD u 0#8 = BitVec.ofNat 8 (8 * n / 256 ^ (7 - u)) := by
              have : u < 8 := by omega
              simp [be64, List.getD_eq_getElem?_getD, this]
            rw [h1, B_eq', BitVec.toNat_ofNat]
            congr 1
          have hXle : 8 * n / 256 ^ (7 - u) ≤ 8 * n := Nat.div_le_self _ _
          have cu : wr.cell? ⟨T0, u, none⟩ = some (B 0#8) := by
            have := hR.cell u (by omega)
            rwa [if_neg (by omega)] at this
          have fu : wr.frozen? ⟨T0, u, none⟩ = false := hR.free u
          generalize 8 * n / 256 ^ (7 - u) = X at *
          have HX1 := Lib.hid hX1
          have HXB := Lib.hid hXB
          have g1 : (u : Int) < 8 := by omega
          have g2 : (X : Int) ≤ 800000000000 := by omega
          clear hX1 hXB hR hKp e1 e2
          go_wp2
          go_roundw
          case rel =>
            refine ⟨u, by omega, rfl, by rw [← HX1.out]; first | rfl | simp, (HR.out.set u _).congr (fun i hi => ?_), HKp.out.setCell _ _⟩
            by_cases e : i = u
            · subst e; rw [if_pos rfl, if_pos (by omega)]; exact HXB.out
            · rw [if_neg e]
              by_cases e2 : u + 1 ≤ i
              · rw [if_pos e2, if_pos (by omega)]
              · rw [if_neg e2, if_neg (by omega)]
          case measure => simp [intOf]
    · have hz : ((k : Int) % 64 != 56) = true := by
        have := nz_lt n (nz n - gk) (by omega)
        subst hk
        simp; omega
      have Hk := Lib.hid hk
      clear hk
      go_wp2_with (refine wpl_append _ rfl (.tmp 16) (.tmp 17) rfl w.heap.size (.slice q k cq) _ rfl (HO.out.of_below ((Below.refl _ _).alloc (Nat.le_refl _) _)) _ 1 [0#8] rfl (Sl_new wr _ _ B_0.symm _) (fun h => by cases h) (by rw [HLEN.out]; show k + 1 < _; omega) (by simp; omega) ?_; rintro v3 w3 hv3 hg3; have HV3 := Lib.hid hv3; have HB4 := Lib.hid ((HB.out.alloc hsz (.cells #[Value.int .u8 0] 5)).grown hg3 (by simp; omega) (fun k hk => (HO.out.lt k hk).1)); clear hv3 hg3)
      obtain ⟨q3, c3, hv3, _, _⟩ := HV3.out.shape
      subst hv3
      go_roundg (gk - 1)
      case measure => omega
      case rel =>
        refine ⟨by omega, q3, c3, ?_, ?_, HB4.out⟩
        · rw [List.length_append, HLEN.out]
          congr 1
          have := Hk.out
          show k + 1 = _
          omega
        · have e : l ++ 128#8 :: List.replicate (nz n - (gk - 1)) 0#8 = (l ++ 128#8 :: List.replicate (nz n - gk) 0#8) ++ [0#8] := by
            rw [rep_snoc, show nz n - gk + 1 = nz n - (gk - 1) by omega]
          rw [e]; exact HV3.out
end Go.Proofs.YtllpcllgliknpaaGreatDoor.Sha
