/- The statements' own choice of items. -/
import Derived.Test.YtgmogbgkokofoaaDig6
import Derived.StillTailTactics
import Derived.Deep.RegionHeld3
set_option linter.unusedSimpArgs false
set_option linter.unusedVariables false
namespace Go.Proofs.Ytgmogbgkokofoaa
open Go Go.RowKit

/-- An item that may be, of any. -/
def fixI (x : Rw) : It :=
  if (x.k % 6).toNat = 0 ∨ (x.k % 6).toNat = 5 then ⟨(x.k % 6).toNat, x.n.toNat, []⟩
  else if (x.k % 6).toNat = 3 then ⟨3, (x.n % 2).toNat, []⟩
  else if (x.k % 6).toNat = 4 then ⟨4, 0, pad32 x.b⟩
  else ⟨(x.k % 6).toNat, 0, x.b.take 300⟩
def rightL (xs : List Rw) : List It := (xs.take 30).map fixI
theorem fixI_num {x : Rw} {K : Nat} (h : (x.k % 6).toNat = K) (hk : K = 0 ∨ K = 5) : fixI x = ⟨K, x.n.toNat, []⟩ := by unfold fixI; rw [h, if_pos hk]
theorem fixI_truth {x : Rw} (h : (x.k % 6).toNat = 3) : fixI x = ⟨3, (x.n % 2).toNat, []⟩ := by unfold fixI; rw [h, if_neg (by decide), if_pos rfl]
theorem fixI_dig {x : Rw} (h : (x.k % 6).toNat = 4) : fixI x = ⟨4, 0, pad32 x.b⟩ := by unfold fixI; rw [h, if_neg (by decide), if_neg (by decide), if_pos rfl]
theorem fixI_bytes {x : Rw} {K : Nat} (h : (x.k % 6).toNat = K) (hk : K = 1 ∨ K = 2) : fixI x = ⟨K, 0, x.b.take 300⟩ := by unfold fixI; rw [h, if_neg (by omega), if_neg (by omega), if_neg (by omega)]
theorem and_one_i64 (n : Int) : bits .and .i64 n 1 = n % 2 := by
  show IntKind.i64.wrap ((BitVec.ofInt 64 n &&& BitVec.ofInt 64 1).toNat : Int) = _
  have h : (BitVec.ofInt 64 n &&& BitVec.ofInt 64 1).toNat = (n % 2).toNat := by
    rw [BitVec.toNat_and, show (BitVec.ofInt 64 1).toNat = 1 by decide, Nat.and_one_is_mod, BitVec.toNat_ofInt]
    omega
  rw [h, i64w _ (by omega) (by omega)]
  omega
theorem tmod6 (k : Int) : -6 < k.tmod 6 ∧ k.tmod 6 < 6 ∧ (k.tmod 6 + 6) % 6 = k % 6 := by
  rcases Int.lt_or_le k 0 with h | h
  · have e : k.tmod 6 = -((-k) % 6) := by
      have := Int.neg_tmod (-k) 6
      rw [Int.neg_neg] at this
      rw [this, Int.tmod_eq_emod_of_nonneg (by omega)]
    rw [e]
    omega
  · rw [Int.tmod_eq_emod_of_nonneg h]
    omega
/-- The list with one more. -/
theorem rightL_succ (xs : List Rw) (i : Nat) (h : i < xs.length) : (xs.take (i + 1)).map (fun x => (fixI x).raw) = (xs.take i).map (fun x => (fixI x).raw) ++ [(fixI (xs.getD i rw0)).raw] := by
  rw [take_getD _ rw0 _ h, List.map_append]
  rfl
attribute [local go_sem ↓] exec_bs exec_slice exec_alloc32 exec_build32 exec_store32
theorem bsI (x y : Int) (q : Option Addr) (n c : Nat) (w : World) : (bsT 22 1 #[(0, .agg #[.int .i64 x, .int .i64 y, .slice q n c])]).run Try.prog w = .ok (.value (.slice (some ⟨w.heap.size, 0, none⟩) 1 1)) (w.alloc (.cells #[.int .i64 x, .int .i64 y, .slice q n c] 29)) := by kernel_rfl
attribute [local go_sem] bsI bsB0 sl_hi sl_arr bd32 st_dig
set_option maxRecDepth 100000 in
set_option maxHeartbeats 8000000 in
theorem right_any (xs : List Rw) (p : Option Addr) (n cap : Nat) (w : World) (hn : xs.length = n) (hs : Its w p xs) : Calls Try.prog 8 #[.slice p n cap] w fun e w' => ∃ v, e = .returned v ∧ OwnI w' w.heap.size v ((rightL xs).map It.raw) ∧ Below w.heap.size w w' := by
  have HN := Lib.hid hn
  have HS := Lib.hid hs
  have HEND := Lib.hid (show ∀ i, i ≤ n → i ≤ 30 → (i = n ∨ i = 30) → (rightL xs).map It.raw = (xs.take i).map (fun x => (fixI x).raw) from fun i hi hi3 h => by
    have : xs.take i = xs.take 30 := by
      rcases h with h | h
      · rw [List.take_of_length_le (by omega), List.take_of_length_le (by omega)]
      · rw [h]
    unfold rightL
    rw [List.map_map, this]
    rfl)
  clear hn hs
  go_enter Try.func8, Try.ntmps8
  go_wp2
  go_loopw [3, 11] (fun vo vi wr => ∃ i : Nat, i ≤ n ∧ i ≤ 30 ∧ vi = .int .i64 i ∧ OwnI wr w.heap.size vo ((xs.take i).map fun x => (fixI x).raw) ∧ Below w.heap.size w wr) (fun _ vi _ => 31 - (intOf vi).toNat)
  case atStart => exact ⟨0, Nat.zero_le _, by decide, rfl, OwnI.nil _ _, Below.refl _ _⟩
  case round =>
    obtain ⟨i, hin, hi30, rfl, hO, hB⟩ := hrel
    have HO := Lib.hid hO
    have HB := Lib.hid hB
    by_cases hlt : i < n
    · have hltz : (i : Int) < (n : Int) := by omega
      have hld : decide ((i : Int) < (n : Int)) = true := decide_eq_true hltz
      obtain ⟨c, o, rfl, hc, q, cp, e0, e1, e2, hbt⟩ := (HS.out.of_below (hB.mono (Nat.le_refl _))) i (by rw [HN.out]; exact hlt)
      have HSUCC := Lib.hid (rightL_succ xs i (by rw [HN.out]; exact hlt))
      have hlen : ((xs.take i).map fun x => (fixI x).raw).length < 1000000 := by simp; omega
      have HEI := Lib.hid (HEND.out i hin hi30)
      generalize hls1 : (xs.take (i + 1)).map (fun x => (fixI x).raw) = ls1 at *
      have HLS1 := Lib.hid hls1
      clear hls1
      generalize (xs.take i).map (fun x => (fixI x).raw) = ls at *
      generalize xs.getD i rw0 = x at *
      have HBT := Lib.hid hbt
      obtain ⟨k, nn, b⟩ := x
      dsimp only at e0 e1 e2
      obtain ⟨len, hl⟩ : ∃ len, b.length = len := ⟨_, rfl⟩
      rw [hl] at e2
      have HL := Lib.hid hl
      have hN := hB.size
      clear hbt hO hB hl
      by_cases h30 : i = 30
      · subst h30
        have HE := Lib.hid (HEI.out (.inr rfl))
        clear HEND HEI
        have h30z : ((30 : Int) == 30) = true := by decide
        have hx := (Below.refl wr.heap.size wr).alloc (Nat.le_refl _) (.cells #[.int .i64 k, .int .i64 nn, .slice q len cp] 29)
        have HX := Lib.hid (HO.out.of_below hx)
        have HBX := Lib.hid (HB.out.trans (hx.mono hN))
        clear hx
        go_wp2
        go_ret
        exact ⟨_, rfl, by rw [HE.out]; exact HX.out, HBX.out⟩
      · have h30z : ((i : Int) == 30) = false := by simp; omega
        have hi30' : i < 30 := by omega
        obtain ⟨t, ht⟩ : ∃ t : Int, k.tmod 6 = t := ⟨_, rfl⟩
        obtain ⟨K, hK⟩ : ∃ K : Nat, (k % 6).toNat = K := ⟨_, rfl⟩
        have htb := tmod6 k
        rw [ht] at htb
        obtain ⟨htb1, htb2, htb3⟩ := htb
        have hw6 : wrap64 (t + 6) = t + 6 := w64 _ (by omega) (by omega)
        have hwi6 : IntKind.i64.wrap (t + 6) = t + 6 := i64w _ (by omega) (by omega)
        have hK6 : K < 6 := by omega
        have hm1 : (t + 6).tmod 6 = (K : Int) := by
          rw [Int.tmod_eq_emod_of_nonneg (by omega)]
          omega
        have hHK := Lib.hid hK
        clear hK htb1 htb2 htb3
        have hk : K = 0 ∨ K = 1 ∨ K = 2 ∨ K = 3 ∨ K = 4 ∨ K = 5 := by omega
        clear HEND hK6 HEI
        rcases hk with rfl | rfl | rfl | rfl | rfl | rfl
        · have HF := Lib.hid (show ls1 = ls ++ [⟨0, (max nn 0), []⟩] from by
            rw [HSUCC.out, @fixI_num ⟨k, nn, b⟩ 0 hHK.out (by decide)]
            unfold It.raw
            simp
            try omega)
          have HBW := Lib.hid (show Below wr.heap.size wr (((wr.alloc (.cells #[.int .i64 k, .int .i64 nn, .slice q len cp] 29)).alloc (.cells #[.int .i64 0, .int .i64 (max nn 0), .slice none 0 0] 29)).alloc (.cells #[.int .i64 0, .int .i64 (max nn 0), .slice none 0 0] 29)) from (((Below.refl _ _).alloc (Nat.le_refl _) _).alloc (by simp [World.size_alloc]) _).alloc (by simp [World.size_alloc]; omega) _)
          have hand := and_one_i64 nn
          have f0 : (((wr.alloc (.cells #[.int .i64 k, .int .i64 nn, .slice q len cp] 29)).alloc (.cells #[.int .i64 0, .int .i64 (max nn 0), .slice none 0 0] 29)).alloc (.cells #[.int .i64 0, .int .i64 (max nn 0), .slice none 0 0] 29)).cell? ⟨wr.heap.size + 1 + 1, 0, none⟩ = some (.int .i64 0) := by go_simp
          have f1 : (((wr.alloc (.cells #[.int .i64 k, .int .i64 nn, .slice q len cp] 29)).alloc (.cells #[.int .i64 0, .int .i64 (max nn 0), .slice none 0 0] 29)).alloc (.cells #[.int .i64 0, .int .i64 (max nn 0), .slice none 0 0] 29)).cell? ⟨wr.heap.size + 1 + 1, 1, none⟩ = some (.int .i64 (max nn 0)) := by go_simp
          have f2 : (((wr.alloc (.cells #[.int .i64 k, .int .i64 nn, .slice q len cp] 29)).alloc (.cells #[.int .i64 0, .int .i64 (max nn 0), .slice none 0 0] 29)).alloc (.cells #[.int .i64 0, .int .i64 (max nn 0), .slice none 0 0] 29)).cell? ⟨wr.heap.size + 1 + 1, 2, none⟩ = some (.slice none 0 0) := by go_simp
          have F0 := Lib.hid f0
          have F1 := Lib.hid f1
          have F2 := Lib.hid f2
          clear f0 f1 f2
          go_wp2_with (first | (refine wpl_appendI _ rfl (.tmp 58) (.tmp 60) rfl w.heap.size u3 ls rfl (HO.out.of_below HBW.out) (wr.heap.size + 1 + 1) ⟨0, (max nn 0), []⟩ none 0 1 rfl F0.out F1.out F2.out ⟨Sl.nil _ _, fun _ => rfl, Nat.le_refl _⟩ (fun h => absurd h (Nat.lt_irrefl 0)) hlen (Nat.le_trans hN HBW.out.size) ?_; rintro v4 w4 hO4 hg4; have HO4 := Lib.hid hO4; have HG4 := Lib.hid hg4; clear hO4 hg4))
          go_wp2
          exact ⟨⟨i + 1, by omega, by omega, by go_num, by rw [HLS1.out, HF.out]; exact HO4.out, (HB.out.trans (HBW.out.mono hN)).grown HG4.out (Nat.le_trans hN HBW.out.size) (fun j hj => (HO.out.lt j hj).1)⟩, by simp [intOf]; omega⟩
        · obtain ⟨ml, hml⟩ : ∃ ml, ml = min len 300 := ⟨_, rfl⟩
          have hmin : min (len : Int) 300 = (ml : Int) := by omega
          have hmlc : ml ≤ cp := Nat.le_trans (show ml ≤ len by omega) (by have h := HBT.out.le; rw [← HL.out]; exact h)
          have hml3 : ml ≤ 300 := by omega
          have htl : (b.take 300).length = ml := by rw [List.length_take, HL.out]; omega
          have HF := Lib.hid (show ls1 = ls ++ [⟨1, 0, b.take 300⟩] from by
            rw [HSUCC.out, @fixI_bytes ⟨k, nn, b⟩ 1 hHK.out (by decide)]
            rfl)
          clear hml
          have HTL := Lib.hid htl
          have HBW := Lib.hid (show Below wr.heap.size wr (((wr.alloc (.cells #[.int .i64 k, .int .i64 nn, .slice q len cp] 29)).alloc (.cells #[.int .i64 1, .int .i64 0, .slice none 0 0] 29)).alloc (.cells #[] 5)) from (((Below.refl _ _).alloc (Nat.le_refl _) _).alloc (by simp [World.size_alloc]) _).alloc (by simp [World.size_alloc]; omega) _)
          have HSL := Lib.hid (show Sl (((wr.alloc (.cells #[.int .i64 k, .int .i64 nn, .slice q len cp] 29)).alloc (.cells #[.int .i64 1, .int .i64 0, .slice none 0 0] 29)).alloc (.cells #[] 5)) q (b.take 300) from (HBT.out.sl.take 300).of_below HBW.out)
          have HOB := Lib.hid (show OwnB (((wr.alloc (.cells #[.int .i64 k, .int .i64 nn, .slice q len cp] 29)).alloc (.cells #[.int .i64 1, .int .i64 0, .slice none 0 0] 29)).alloc (.cells #[] 5)) (wr.heap.size + 1 + 1) (.slice (some ⟨wr.heap.size + 1 + 1, 0, none⟩) 0 0) [] from by
            have := OwnB.empty ((wr.alloc (.cells #[.int .i64 k, .int .i64 nn, .slice q len cp] 29)).alloc (.cells #[.int .i64 1, .int .i64 0, .slice none 0 0] 29)) (wr.heap.size + 1 + 1) (by simp [World.size_alloc])
            simpa [World.size_alloc] using this)
          have y0 : (((wr.alloc (.cells #[.int .i64 k, .int .i64 nn, .slice q len cp] 29)).alloc (.cells #[.int .i64 1, .int .i64 0, .slice none 0 0] 29)).alloc (.cells #[] 5)).cell? ⟨wr.heap.size + 1, 0, none⟩ = some (.int .i64 1) := by go_simp
          have y1 : (((wr.alloc (.cells #[.int .i64 k, .int .i64 nn, .slice q len cp] 29)).alloc (.cells #[.int .i64 1, .int .i64 0, .slice none 0 0] 29)).alloc (.cells #[] 5)).cell? ⟨wr.heap.size + 1, 1, none⟩ = some (.int .i64 0) := by go_simp
          have y2 : (((wr.alloc (.cells #[.int .i64 k, .int .i64 nn, .slice q len cp] 29)).alloc (.cells #[.int .i64 1, .int .i64 0, .slice none 0 0] 29)).alloc (.cells #[] 5)).cell? ⟨wr.heap.size + 1, 2, none⟩ = some (.slice none 0 0) := by go_simp
          have yf : (((wr.alloc (.cells #[.int .i64 k, .int .i64 nn, .slice q len cp] 29)).alloc (.cells #[.int .i64 1, .int .i64 0, .slice none 0 0] 29)).alloc (.cells #[] 5)).frozen? ⟨wr.heap.size + 1, 2, none⟩ = false := by go_simp
          have hz2 : wr.heap.size + 1 + 1 + 1 = (((wr.alloc (.cells #[.int .i64 k, .int .i64 nn, .slice q len cp] 29)).alloc (.cells #[.int .i64 1, .int .i64 0, .slice none 0 0] 29)).alloc (.cells #[] 5)).heap.size := by simp [World.size_alloc]
          have HW2 := Lib.hid (show ∀ w3, World.grownBy (((wr.alloc (.cells #[.int .i64 k, .int .i64 nn, .slice q len cp] 29)).alloc (.cells #[.int .i64 1, .int .i64 0, .slice none 0 0] 29)).alloc (.cells #[] 5)) w3 (some (wr.heap.size + 1 + 1)) → w3.cell? ⟨wr.heap.size + 1, 0, none⟩ = some (.int .i64 1) ∧ w3.cell? ⟨wr.heap.size + 1, 1, none⟩ = some (.int .i64 0) ∧ w3.cell? ⟨wr.heap.size + 1, 2, none⟩ = some (.slice none 0 0) ∧ w3.frozen? ⟨wr.heap.size + 1, 2, none⟩ = false ∧ Below wr.heap.size wr w3 from fun w3 hg => ⟨hg.cell y0 (by simp), hg.cell y1 (by simp), hg.cell y2 (by simp), by rw [hg.frozen_far _ (by rw [← hz2]; exact Nat.lt_succ_of_lt (Nat.lt_succ_self _)) (by simp)]; exact yf, HBW.out.grown hg HBW.out.size (fun j hj => by injection hj with hj; omega)⟩)
          clear y0 y1 y2 yf
          go_wp2_with (first
            | (
                refine wpl_append _ rfl (.tmp 26) (.tmp 33) rfl (wr.heap.size + 1 + 1) (.slice (some ⟨wr.heap.size + 1 + 1, 0, none⟩) 0 0) [] rfl HOB.out q ml cp (b.take 300) HTL.out rfl HSL.out HBT.out.nil (by simp; omega) (by simp [World.size_alloc]) ?_; rintro v3 w3 hO3 hg3; rw [List.nil_append] at hO3; obtain ⟨y0, y1, y2, yf, hB3⟩ := HW2.out w3 hg3; obtain ⟨p3, c3, rfl, hS3, hP3, hC3⟩ := hO3.shape; rw [HTL.out]; rw [HTL.out] at hO3; rw [HTL.out] at hC3; have HO3 := Lib.hid hO3; have HB3 := Lib.hid hB3; have HS3 := Lib.hid hS3; have HP3 := Lib.hid hP3; clear hO3 hB3 hS3 hP3 hg3 HW2 HOB HSL
                have HBX := Lib.hid (show Below wr.heap.size wr ((w3.setCell ⟨wr.heap.size + 1, 2, none⟩ (.slice p3 ml c3)).alloc (.cells #[.int .i64 1, .int .i64 0, .slice p3 ml c3] 29)) from (HB3.out.setCell (Nat.le_succ _) _).alloc (by simp; exact HB3.out.size) _)
                have HS5 := Lib.hid (show Sl ((w3.setCell ⟨wr.heap.size + 1, 2, none⟩ (.slice p3 ml c3)).alloc (.cells #[.int .i64 1, .int .i64 0, .slice p3 ml c3] 29)) p3 (b.take 300) from by
                  refine Sl.of_below (w := w3.setCell ⟨wr.heap.size + 1, 2, none⟩ (.slice p3 ml c3)) (fun j hj => ?_) ((Below.refl _ _).alloc (Nat.le_refl _) _)
                  obtain ⟨d, o', e, hx⟩ := HS3.out j hj
                  refine ⟨d, o', e, ?_⟩
                  rw [World.cell?_setCell_far _ _ _ _ (show wr.heap.size + 1 ≠ d from ?_)]
                  · exact hx
                  · have := (HO3.out.lt d (by rw [e]; rfl)).1
                    omega)
                have f0 : ((w3.setCell ⟨wr.heap.size + 1, 2, none⟩ (.slice p3 ml c3)).alloc (.cells #[.int .i64 1, .int .i64 0, .slice p3 ml c3] 29)).cell? ⟨w3.heap.size, 0, none⟩ = some (.int .i64 1) := by go_simp
                have f1 : ((w3.setCell ⟨wr.heap.size + 1, 2, none⟩ (.slice p3 ml c3)).alloc (.cells #[.int .i64 1, .int .i64 0, .slice p3 ml c3] 29)).cell? ⟨w3.heap.size, 1, none⟩ = some (.int .i64 0) := by go_simp
                have f2 : ((w3.setCell ⟨wr.heap.size + 1, 2, none⟩ (.slice p3 ml c3)).alloc (.cells #[.int .i64 1, .int .i64 0, .slice p3 ml c3] 29)).cell? ⟨w3.heap.size, 2, none⟩ = some (.slice p3 ml c3) := by go_simp
                have F0 := Lib.hid f0
                have F1 := Lib.hid f1
                have F2 := Lib.hid (show ((w3.setCell ⟨wr.heap.size + 1, 2, none⟩ (.slice p3 ml c3)).alloc (.cells #[.int .i64 1, .int .i64 0, .slice p3 ml c3] 29)).cell? ⟨w3.heap.size, 2, none⟩ = some (Value.slice p3 (b.take 300).length c3) from by rw [HTL.out]; exact f2)
                have HBTY := Lib.hid (show Bt ((w3.setCell ⟨wr.heap.size + 1, 2, none⟩ (.slice p3 ml c3)).alloc (.cells #[.int .i64 1, .int .i64 0, .slice p3 ml c3] 29)) ⟨1, 0, b.take 300⟩ p3 c3 from ⟨HS5.out, HP3.out, show (b.take 300).length ≤ c3 from by rw [HTL.out]; exact hC3⟩)
                have HNE := Lib.hid (show 0 < (b.take 300).length → ∀ d o', p3 = some ⟨d, o', none⟩ → w.heap.size ≤ d ∧ u3.ownBlock ≠ some d from fun h d o' e => by
                  have h2 := (HO3.out.lt d (by rw [e]; rfl)).1
                  refine ⟨by omega, fun he => ?_⟩
                  have h1 := (HO.out.lt d he).2
                  omega)
                clear f0 f1 f2
              )
            | (refine wpl_appendI _ rfl (.tmp 58) (.tmp 60) rfl w.heap.size u3 ls rfl (HO.out.of_below HBX.out) w3.heap.size ⟨1, 0, b.take 300⟩ p3 c3 1 rfl F0.out F1.out F2.out HBTY.out HNE.out hlen (Nat.le_trans hN HBX.out.size) ?_; rintro v4 w4 hO4 hg4; have HO4 := Lib.hid hO4; have HG4 := Lib.hid hg4; clear hO4 hg4))
          go_wp2
          exact ⟨⟨i + 1, by omega, by omega, by go_num, by rw [HLS1.out, HF.out]; exact HO4.out, (HB.out.trans (HBX.out.mono hN)).grown HG4.out (Nat.le_trans hN HBX.out.size) (fun j hj => (HO.out.lt j hj).1)⟩, by simp [intOf]; omega⟩
        · obtain ⟨ml, hml⟩ : ∃ ml, ml = min len 300 := ⟨_, rfl⟩
          have hmin : min (len : Int) 300 = (ml : Int) := by omega
          have hmlc : ml ≤ cp := Nat.le_trans (show ml ≤ len by omega) (by have h := HBT.out.le; rw [← HL.out]; exact h)
          have hml3 : ml ≤ 300 := by omega
          have htl : (b.take 300).length = ml := by rw [List.length_take, HL.out]; omega
          have HF := Lib.hid (show ls1 = ls ++ [⟨2, 0, b.take 300⟩] from by
            rw [HSUCC.out, @fixI_bytes ⟨k, nn, b⟩ 2 hHK.out (by decide)]
            rfl)
          clear hml
          have HTL := Lib.hid htl
          have HBW := Lib.hid (show Below wr.heap.size wr (((wr.alloc (.cells #[.int .i64 k, .int .i64 nn, .slice q len cp] 29)).alloc (.cells #[.int .i64 2, .int .i64 0, .slice none 0 0] 29)).alloc (.cells #[] 5)) from (((Below.refl _ _).alloc (Nat.le_refl _) _).alloc (by simp [World.size_alloc]) _).alloc (by simp [World.size_alloc]; omega) _)
          have HSL := Lib.hid (show Sl (((wr.alloc (.cells #[.int .i64 k, .int .i64 nn, .slice q len cp] 29)).alloc (.cells #[.int .i64 2, .int .i64 0, .slice none 0 0] 29)).alloc (.cells #[] 5)) q (b.take 300) from (HBT.out.sl.take 300).of_below HBW.out)
          have HOB := Lib.hid (show OwnB (((wr.alloc (.cells #[.int .i64 k, .int .i64 nn, .slice q len cp] 29)).alloc (.cells #[.int .i64 2, .int .i64 0, .slice none 0 0] 29)).alloc (.cells #[] 5)) (wr.heap.size + 1 + 1) (.slice (some ⟨wr.heap.size + 1 + 1, 0, none⟩) 0 0) [] from by
            have := OwnB.empty ((wr.alloc (.cells #[.int .i64 k, .int .i64 nn, .slice q len cp] 29)).alloc (.cells #[.int .i64 2, .int .i64 0, .slice none 0 0] 29)) (wr.heap.size + 1 + 1) (by simp [World.size_alloc])
            simpa [World.size_alloc] using this)
          have y0 : (((wr.alloc (.cells #[.int .i64 k, .int .i64 nn, .slice q len cp] 29)).alloc (.cells #[.int .i64 2, .int .i64 0, .slice none 0 0] 29)).alloc (.cells #[] 5)).cell? ⟨wr.heap.size + 1, 0, none⟩ = some (.int .i64 2) := by go_simp
          have y1 : (((wr.alloc (.cells #[.int .i64 k, .int .i64 nn, .slice q len cp] 29)).alloc (.cells #[.int .i64 2, .int .i64 0, .slice none 0 0] 29)).alloc (.cells #[] 5)).cell? ⟨wr.heap.size + 1, 1, none⟩ = some (.int .i64 0) := by go_simp
          have y2 : (((wr.alloc (.cells #[.int .i64 k, .int .i64 nn, .slice q len cp] 29)).alloc (.cells #[.int .i64 2, .int .i64 0, .slice none 0 0] 29)).alloc (.cells #[] 5)).cell? ⟨wr.heap.size + 1, 2, none⟩ = some (.slice none 0 0) := by go_simp
          have yf : (((wr.alloc (.cells #[.int .i64 k, .int .i64 nn, .slice q len cp] 29)).alloc (.cells #[.int .i64 2, .int .i64 0, .slice none 0 0] 29)).alloc (.cells #[] 5)).frozen? ⟨wr.heap.size + 1, 2, none⟩ = false := by go_simp
          have hz2 : wr.heap.size + 1 + 1 + 1 = (((wr.alloc (.cells #[.int .i64 k, .int .i64 nn, .slice q len cp] 29)).alloc (.cells #[.int .i64 2, .int .i64 0, .slice none 0 0] 29)).alloc (.cells #[] 5)).heap.size := by simp [World.size_alloc]
          have HW2 := Lib.hid (show ∀ w3, World.grownBy (((wr.alloc (.cells #[.int .i64 k, .int .i64 nn, .slice q len cp] 29)).alloc (.cells #[.int .i64 2, .int .i64 0, .slice none 0 0] 29)).alloc (.cells #[] 5)) w3 (some (wr.heap.size + 1 + 1)) → w3.cell? ⟨wr.heap.size + 1, 0, none⟩ = some (.int .i64 2) ∧ w3.cell? ⟨wr.heap.size + 1, 1, none⟩ = some (.int .i64 0) ∧ w3.cell? ⟨wr.heap.size + 1, 2, none⟩ = some (.slice none 0 0) ∧ w3.frozen? ⟨wr.heap.size + 1, 2, none⟩ = false ∧ Below wr.heap.size wr w3 from fun w3 hg => ⟨hg.cell y0 (by simp), hg.cell y1 (by simp), hg.cell y2 (by simp), by rw [hg.frozen_far _ (by rw [← hz2]; exact Nat.lt_succ_of_lt (Nat.lt_succ_self _)) (by simp)]; exact yf, HBW.out.grown hg HBW.out.size (fun j hj => by injection hj with hj; omega)⟩)
          clear y0 y1 y2 yf
          go_wp2_with (first
            | (
                refine wpl_append _ rfl (.tmp 26) (.tmp 33) rfl (wr.heap.size + 1 + 1) (.slice (some ⟨wr.heap.size + 1 + 1, 0, none⟩) 0 0) [] rfl HOB.out q ml cp (b.take 300) HTL.out rfl HSL.out HBT.out.nil (by simp; omega) (by simp [World.size_alloc]) ?_; rintro v3 w3 hO3 hg3; rw [List.nil_append] at hO3; obtain ⟨y0, y1, y2, yf, hB3⟩ := HW2.out w3 hg3; obtain ⟨p3, c3, rfl, hS3, hP3, hC3⟩ := hO3.shape; rw [HTL.out]; rw [HTL.out] at hO3; rw [HTL.out] at hC3; have HO3 := Lib.hid hO3; have HB3 := Lib.hid hB3; have HS3 := Lib.hid hS3; have HP3 := Lib.hid hP3; clear hO3 hB3 hS3 hP3 hg3 HW2 HOB HSL
                have HBX := Lib.hid (show Below wr.heap.size wr ((w3.setCell ⟨wr.heap.size + 1, 2, none⟩ (.slice p3 ml c3)).alloc (.cells #[.int .i64 2, .int .i64 0, .slice p3 ml c3] 29)) from (HB3.out.setCell (Nat.le_succ _) _).alloc (by simp; exact HB3.out.size) _)
                have HS5 := Lib.hid (show Sl ((w3.setCell ⟨wr.heap.size + 1, 2, none⟩ (.slice p3 ml c3)).alloc (.cells #[.int .i64 2, .int .i64 0, .slice p3 ml c3] 29)) p3 (b.take 300) from by
                  refine Sl.of_below (w := w3.setCell ⟨wr.heap.size + 1, 2, none⟩ (.slice p3 ml c3)) (fun j hj => ?_) ((Below.refl _ _).alloc (Nat.le_refl _) _)
                  obtain ⟨d, o', e, hx⟩ := HS3.out j hj
                  refine ⟨d, o', e, ?_⟩
                  rw [World.cell?_setCell_far _ _ _ _ (show wr.heap.size + 1 ≠ d from ?_)]
                  · exact hx
                  · have := (HO3.out.lt d (by rw [e]; rfl)).1
                    omega)
                have f0 : ((w3.setCell ⟨wr.heap.size + 1, 2, none⟩ (.slice p3 ml c3)).alloc (.cells #[.int .i64 2, .int .i64 0, .slice p3 ml c3] 29)).cell? ⟨w3.heap.size, 0, none⟩ = some (.int .i64 2) := by go_simp
                have f1 : ((w3.setCell ⟨wr.heap.size + 1, 2, none⟩ (.slice p3 ml c3)).alloc (.cells #[.int .i64 2, .int .i64 0, .slice p3 ml c3] 29)).cell? ⟨w3.heap.size, 1, none⟩ = some (.int .i64 0) := by go_simp
                have f2 : ((w3.setCell ⟨wr.heap.size + 1, 2, none⟩ (.slice p3 ml c3)).alloc (.cells #[.int .i64 2, .int .i64 0, .slice p3 ml c3] 29)).cell? ⟨w3.heap.size, 2, none⟩ = some (.slice p3 ml c3) := by go_simp
                have F0 := Lib.hid f0
                have F1 := Lib.hid f1
                have F2 := Lib.hid (show ((w3.setCell ⟨wr.heap.size + 1, 2, none⟩ (.slice p3 ml c3)).alloc (.cells #[.int .i64 2, .int .i64 0, .slice p3 ml c3] 29)).cell? ⟨w3.heap.size, 2, none⟩ = some (Value.slice p3 (b.take 300).length c3) from by rw [HTL.out]; exact f2)
                have HBTY := Lib.hid (show Bt ((w3.setCell ⟨wr.heap.size + 1, 2, none⟩ (.slice p3 ml c3)).alloc (.cells #[.int .i64 2, .int .i64 0, .slice p3 ml c3] 29)) ⟨2, 0, b.take 300⟩ p3 c3 from ⟨HS5.out, HP3.out, show (b.take 300).length ≤ c3 from by rw [HTL.out]; exact hC3⟩)
                have HNE := Lib.hid (show 0 < (b.take 300).length → ∀ d o', p3 = some ⟨d, o', none⟩ → w.heap.size ≤ d ∧ u3.ownBlock ≠ some d from fun h d o' e => by
                  have h2 := (HO3.out.lt d (by rw [e]; rfl)).1
                  refine ⟨by omega, fun he => ?_⟩
                  have h1 := (HO.out.lt d he).2
                  omega)
                clear f0 f1 f2
              )
            | (refine wpl_appendI _ rfl (.tmp 58) (.tmp 60) rfl w.heap.size u3 ls rfl (HO.out.of_below HBX.out) w3.heap.size ⟨2, 0, b.take 300⟩ p3 c3 1 rfl F0.out F1.out F2.out HBTY.out HNE.out hlen (Nat.le_trans hN HBX.out.size) ?_; rintro v4 w4 hO4 hg4; have HO4 := Lib.hid hO4; have HG4 := Lib.hid hg4; clear hO4 hg4))
          go_wp2
          exact ⟨⟨i + 1, by omega, by omega, by go_num, by rw [HLS1.out, HF.out]; exact HO4.out, (HB.out.trans (HBX.out.mono hN)).grown HG4.out (Nat.le_trans hN HBX.out.size) (fun j hj => (HO.out.lt j hj).1)⟩, by simp [intOf]; omega⟩
        · have HF := Lib.hid (show ls1 = ls ++ [⟨3, (nn % 2), []⟩] from by
            rw [HSUCC.out, @fixI_truth ⟨k, nn, b⟩ hHK.out]
            unfold It.raw
            simp
            try omega)
          have HBW := Lib.hid (show Below wr.heap.size wr (((wr.alloc (.cells #[.int .i64 k, .int .i64 nn, .slice q len cp] 29)).alloc (.cells #[.int .i64 3, .int .i64 (nn % 2), .slice none 0 0] 29)).alloc (.cells #[.int .i64 3, .int .i64 (nn % 2), .slice none 0 0] 29)) from (((Below.refl _ _).alloc (Nat.le_refl _) _).alloc (by simp [World.size_alloc]) _).alloc (by simp [World.size_alloc]; omega) _)
          have hand := and_one_i64 nn
          have f0 : (((wr.alloc (.cells #[.int .i64 k, .int .i64 nn, .slice q len cp] 29)).alloc (.cells #[.int .i64 3, .int .i64 (nn % 2), .slice none 0 0] 29)).alloc (.cells #[.int .i64 3, .int .i64 (nn % 2), .slice none 0 0] 29)).cell? ⟨wr.heap.size + 1 + 1, 0, none⟩ = some (.int .i64 3) := by go_simp
          have f1 : (((wr.alloc (.cells #[.int .i64 k, .int .i64 nn, .slice q len cp] 29)).alloc (.cells #[.int .i64 3, .int .i64 (nn % 2), .slice none 0 0] 29)).alloc (.cells #[.int .i64 3, .int .i64 (nn % 2), .slice none 0 0] 29)).cell? ⟨wr.heap.size + 1 + 1, 1, none⟩ = some (.int .i64 (nn % 2)) := by go_simp
          have f2 : (((wr.alloc (.cells #[.int .i64 k, .int .i64 nn, .slice q len cp] 29)).alloc (.cells #[.int .i64 3, .int .i64 (nn % 2), .slice none 0 0] 29)).alloc (.cells #[.int .i64 3, .int .i64 (nn % 2), .slice none 0 0] 29)).cell? ⟨wr.heap.size + 1 + 1, 2, none⟩ = some (.slice none 0 0) := by go_simp
          have F0 := Lib.hid f0
          have F1 := Lib.hid f1
          have F2 := Lib.hid f2
          clear f0 f1 f2
          go_wp2_with (first | (refine wpl_appendI _ rfl (.tmp 58) (.tmp 60) rfl w.heap.size u3 ls rfl (HO.out.of_below HBW.out) (wr.heap.size + 1 + 1) ⟨3, (nn % 2), []⟩ none 0 1 rfl F0.out F1.out F2.out ⟨Sl.nil _ _, fun _ => rfl, Nat.le_refl _⟩ (fun h => absurd h (Nat.lt_irrefl 0)) hlen (Nat.le_trans hN HBW.out.size) ?_; rintro v4 w4 hO4 hg4; have HO4 := Lib.hid hO4; have HG4 := Lib.hid hg4; clear hO4 hg4))
          go_wp2
          exact ⟨⟨i + 1, by omega, by omega, by go_num, by rw [HLS1.out, HF.out]; exact HO4.out, (HB.out.trans (HBW.out.mono hN)).grown HG4.out (Nat.le_trans hN HBW.out.size) (fun j hj => (HO.out.lt j hj).1)⟩, by simp [intOf]; omega⟩
        · have HF := Lib.hid (show ls1 = ls ++ [⟨4, 0, pad32 b⟩] from by
            rw [HSUCC.out, @fixI_dig ⟨k, nn, b⟩ hHK.out]
            rfl)
          go_wp2_with fail
          clear hw6 hwi6 hm1 ht
          have hBu : Below wr.heap.size wr (((wr.alloc (.cells #[.int .i64 k, .int .i64 nn, .slice q len cp] 29)).alloc (.cells #[.int .i64 4, .int .i64 0, .slice none 0 0] 29)).alloc (.cells (tab 32 (dgF z32)) 51)) := (((Below.refl _ _).alloc (Nat.le_refl _) _).alloc (by simp [World.size_alloc]) _).alloc (by simp [World.size_alloc]; omega) _
          have hRu : Row (((wr.alloc (.cells #[.int .i64 k, .int .i64 nn, .slice q len cp] 29)).alloc (.cells #[.int .i64 4, .int .i64 0, .slice none 0 0] 29)).alloc (.cells (tab 32 (dgF z32)) 51)) (wr.heap.size + 1 + 1) 51 32 (fun _ => B 0#8) := by
            have := (Row.new ((wr.alloc (.cells #[.int .i64 k, .int .i64 nn, .slice q len cp] 29)).alloc (.cells #[.int .i64 4, .int .i64 0, .slice none 0 0] 29)) 51 32 (dgF z32)).congr (g' := fun _ => B 0#8) fun j hj => by unfold dgF; rw [z32_get j hj]
            simpa only [World.size_alloc] using this
          have x2 : (((wr.alloc (.cells #[.int .i64 k, .int .i64 nn, .slice q len cp] 29)).alloc (.cells #[.int .i64 4, .int .i64 0, .slice none 0 0] 29)).alloc (.cells (tab 32 (dgF z32)) 51)).cell? ⟨wr.heap.size, 2, none⟩ = some (.slice q len cp) := by go_simp
          have y0 : (((wr.alloc (.cells #[.int .i64 k, .int .i64 nn, .slice q len cp] 29)).alloc (.cells #[.int .i64 4, .int .i64 0, .slice none 0 0] 29)).alloc (.cells (tab 32 (dgF z32)) 51)).cell? ⟨wr.heap.size + 1, 0, none⟩ = some (.int .i64 4) := by go_simp
          have y1 : (((wr.alloc (.cells #[.int .i64 k, .int .i64 nn, .slice q len cp] 29)).alloc (.cells #[.int .i64 4, .int .i64 0, .slice none 0 0] 29)).alloc (.cells (tab 32 (dgF z32)) 51)).cell? ⟨wr.heap.size + 1, 1, none⟩ = some (.int .i64 0) := by go_simp
          have y2 : (((wr.alloc (.cells #[.int .i64 k, .int .i64 nn, .slice q len cp] 29)).alloc (.cells #[.int .i64 4, .int .i64 0, .slice none 0 0] 29)).alloc (.cells (tab 32 (dgF z32)) 51)).cell? ⟨wr.heap.size + 1, 2, none⟩ = some (.slice none 0 0) := by go_simp
          have yf : (((wr.alloc (.cells #[.int .i64 k, .int .i64 nn, .slice q len cp] 29)).alloc (.cells #[.int .i64 4, .int .i64 0, .slice none 0 0] 29)).alloc (.cells (tab 32 (dgF z32)) 51)).frozen? ⟨wr.heap.size + 1, 2, none⟩ = false := by go_simp
          have hzu : (((wr.alloc (.cells #[.int .i64 k, .int .i64 nn, .slice q len cp] 29)).alloc (.cells #[.int .i64 4, .int .i64 0, .slice none 0 0] 29)).alloc (.cells (tab 32 (dgF z32)) 51)).heap.size = wr.heap.size + 1 + 1 + 1 := by simp [World.size_alloc]
          generalize (((wr.alloc (.cells #[.int .i64 k, .int .i64 nn, .slice q len cp] 29)).alloc (.cells #[.int .i64 4, .int .i64 0, .slice none 0 0] 29)).alloc (.cells (tab 32 (dgF z32)) 51)) = u at *
          generalize hH : wr.heap.size = H at *
          have HBU := Lib.hid hBu
          have HRU := Lib.hid hRu
          have HY := Lib.hid (And.intro y0 (And.intro y1 (And.intro y2 yf)))
          have HZU := Lib.hid hzu
          have HHW := Lib.hid hH
          clear hBu hRu y0 y1 y2 yf hzu hH
          refine wp_region_still_tail 3 (by kernel_rfl) (by kernel_rfl) ?_
          simp only [List.take_succ_cons, List.take_zero, List.drop_succ_cons, List.drop_zero, World.drew_eq]
          repeat (refine wpStill_step (fun K hK => ?_); go_simp; refine hK _ ?_; clear hK K)
          refine wpStill_nil ?_
          obtain ⟨T, hT⟩ : ∃ T, T = min 32 len := ⟨_, rfl⟩
          have HT := Lib.hid hT
          clear hT
          have HSU := Lib.hid (show Sl u.drew q b from (HBT.out.sl.of_below (by rw [HHW.out]; exact HBU.out)).dr (Dr.refl _).drew)
          refine wpl_copyT _ rfl (.tmp 52) (.tmp 54) rfl 51 (H + 1 + 1) 32 32 (fun _ => B 0#8) q len cp b rfl rfl HRU.out.drew HL.out HSU.out T HT.out ?_; rintro w3 hR3 hK3
          have hk3 : Kp (H + 1 + 1) u w3 := (Kp.drewN (Kp.refl _ u) 1).trans hK3
          have y0 : w3.cell? ⟨H + 1, 0, none⟩ = some (.int .i64 4) := by rw [hk3.cell (by rw [HZU.out]; exact Nat.lt_succ_of_lt (Nat.lt_succ_self _)) (by simp)]; exact HY.out.1
          have y1 : w3.cell? ⟨H + 1, 1, none⟩ = some (.int .i64 0) := by rw [hk3.cell (by rw [HZU.out]; exact Nat.lt_succ_of_lt (Nat.lt_succ_self _)) (by simp)]; exact HY.out.2.1
          have y2 : w3.cell? ⟨H + 1, 2, none⟩ = some (.slice none 0 0) := by rw [hk3.cell (by rw [HZU.out]; exact Nat.lt_succ_of_lt (Nat.lt_succ_self _)) (by simp)]; exact HY.out.2.2.1
          have yf : w3.frozen? ⟨H + 1, 2, none⟩ = false := by rw [hk3.frozen (by rw [HZU.out]; exact Nat.lt_succ_of_lt (Nat.lt_succ_self _)) (by simp)]; exact HY.out.2.2.2
          have HS3 := Lib.hid (Sl.padded hR3 HL.out HT.out)
          have HB3 := Lib.hid (HBU.out.trans (hk3.below (by omega) (by rw [HZU.out]; omega)))
          clear hR3 hK3 hk3
          have HBX := Lib.hid (show Below H wr ((w3.setCell ⟨H + 1, 2, none⟩ (.slice (some ⟨H + 1 + 1, 0, none⟩) 32 32)).alloc (.cells #[.int .i64 4, .int .i64 0, .slice (some ⟨H + 1 + 1, 0, none⟩) 32 32] 29)) from (HB3.out.setCell (Nat.le_succ _) _).alloc (by simp; rw [← HHW.out]; exact HB3.out.size) _)
          have HS5 := Lib.hid (show Sl ((w3.setCell ⟨H + 1, 2, none⟩ (.slice (some ⟨H + 1 + 1, 0, none⟩) 32 32)).alloc (.cells #[.int .i64 4, .int .i64 0, .slice (some ⟨H + 1 + 1, 0, none⟩) 32 32] 29)) (some ⟨H + 1 + 1, 0, none⟩) (pad32 b) from by
            refine Sl.of_below (w := w3.setCell ⟨H + 1, 2, none⟩ (.slice (some ⟨H + 1 + 1, 0, none⟩) 32 32)) (fun j hj => ?_) ((Below.refl _ _).alloc (Nat.le_refl _) _)
            obtain ⟨d, o', e, hx⟩ := HS3.out j hj
            refine ⟨d, o', e, ?_⟩
            rw [World.cell?_setCell_far _ _ _ _ (show H + 1 ≠ d from ?_)]
            · exact hx
            · injection e with e
              injection e with e1 e2
              omega)
          have f0 : ((w3.setCell ⟨H + 1, 2, none⟩ (.slice (some ⟨H + 1 + 1, 0, none⟩) 32 32)).alloc (.cells #[.int .i64 4, .int .i64 0, .slice (some ⟨H + 1 + 1, 0, none⟩) 32 32] 29)).cell? ⟨w3.heap.size, 0, none⟩ = some (.int .i64 4) := by go_simp
          have f1 : ((w3.setCell ⟨H + 1, 2, none⟩ (.slice (some ⟨H + 1 + 1, 0, none⟩) 32 32)).alloc (.cells #[.int .i64 4, .int .i64 0, .slice (some ⟨H + 1 + 1, 0, none⟩) 32 32] 29)).cell? ⟨w3.heap.size, 1, none⟩ = some (.int .i64 0) := by go_simp
          have f2 : ((w3.setCell ⟨H + 1, 2, none⟩ (.slice (some ⟨H + 1 + 1, 0, none⟩) 32 32)).alloc (.cells #[.int .i64 4, .int .i64 0, .slice (some ⟨H + 1 + 1, 0, none⟩) 32 32] 29)).cell? ⟨w3.heap.size, 2, none⟩ = some (.slice (some ⟨H + 1 + 1, 0, none⟩) 32 32) := by go_simp
          have F0 := Lib.hid f0
          have F1 := Lib.hid f1
          have F2 := Lib.hid (show ((w3.setCell ⟨H + 1, 2, none⟩ (.slice (some ⟨H + 1 + 1, 0, none⟩) 32 32)).alloc (.cells #[.int .i64 4, .int .i64 0, .slice (some ⟨H + 1 + 1, 0, none⟩) 32 32] 29)).cell? ⟨w3.heap.size, 2, none⟩ = some (Value.slice (some ⟨H + 1 + 1, 0, none⟩) (pad32 b).length 32) from by rw [pad32_len]; exact f2)
          have HBTY := Lib.hid (show Bt ((w3.setCell ⟨H + 1, 2, none⟩ (.slice (some ⟨H + 1 + 1, 0, none⟩) 32 32)).alloc (.cells #[.int .i64 4, .int .i64 0, .slice (some ⟨H + 1 + 1, 0, none⟩) 32 32] 29)) ⟨4, 0, pad32 b⟩ (some ⟨H + 1 + 1, 0, none⟩) 32 from ⟨HS5.out, (fun e => by cases e), show (pad32 b).length ≤ 32 from by rw [pad32_len]; exact Nat.le_refl _⟩)
          have HNE := Lib.hid (show 0 < (pad32 b).length → ∀ d o', (some ⟨H + 1 + 1, 0, none⟩ : Option Addr) = some ⟨d, o', none⟩ → w.heap.size ≤ d ∧ u3.ownBlock ≠ some d from fun h d o' e => by
            have h2 := HHW.out
            have h3 := HB.out.size
            injection e with e
            injection e with e1 e2
            refine ⟨by omega, fun he => ?_⟩
            have h1 := (HO.out.lt d he).2
            omega)
          clear f0 f1 f2
          go_wp2_with (first | (refine wpl_appendI _ rfl (.tmp 58) (.tmp 60) rfl w.heap.size u3 ls rfl (HO.out.of_below (by rw [HHW.out]; exact HBX.out)) w3.heap.size ⟨4, 0, pad32 b⟩ (some ⟨H + 1 + 1, 0, none⟩) 32 1 rfl F0.out F1.out F2.out HBTY.out HNE.out hlen (Nat.le_trans (by rw [← HHW.out] at hN; exact hN) HBX.out.size) ?_; rintro v4 w4 hO4 hg4; have HO4 := Lib.hid hO4; have HG4 := Lib.hid hg4; clear hO4 hg4))
          go_wp2
          have hNH : w.heap.size ≤ H := by have h2 := HHW.out; omega
          exact ⟨⟨i + 1, by omega, by omega, by go_num, by rw [HLS1.out, HF.out]; exact HO4.out, (HB.out.trans (HBX.out.mono hNH)).grown HG4.out (Nat.le_trans (HB.out.size) HBX.out.size) (fun j hj => (HO.out.lt j hj).1)⟩, by simp [intOf]; omega⟩
        · have HF := Lib.hid (show ls1 = ls ++ [⟨5, (max nn 0), []⟩] from by
            rw [HSUCC.out, @fixI_num ⟨k, nn, b⟩ 5 hHK.out (by decide)]
            unfold It.raw
            simp
            try omega)
          have HBW := Lib.hid (show Below wr.heap.size wr (((wr.alloc (.cells #[.int .i64 k, .int .i64 nn, .slice q len cp] 29)).alloc (.cells #[.int .i64 5, .int .i64 (max nn 0), .slice none 0 0] 29)).alloc (.cells #[.int .i64 5, .int .i64 (max nn 0), .slice none 0 0] 29)) from (((Below.refl _ _).alloc (Nat.le_refl _) _).alloc (by simp [World.size_alloc]) _).alloc (by simp [World.size_alloc]; omega) _)
          have hand := and_one_i64 nn
          have f0 : (((wr.alloc (.cells #[.int .i64 k, .int .i64 nn, .slice q len cp] 29)).alloc (.cells #[.int .i64 5, .int .i64 (max nn 0), .slice none 0 0] 29)).alloc (.cells #[.int .i64 5, .int .i64 (max nn 0), .slice none 0 0] 29)).cell? ⟨wr.heap.size + 1 + 1, 0, none⟩ = some (.int .i64 5) := by go_simp
          have f1 : (((wr.alloc (.cells #[.int .i64 k, .int .i64 nn, .slice q len cp] 29)).alloc (.cells #[.int .i64 5, .int .i64 (max nn 0), .slice none 0 0] 29)).alloc (.cells #[.int .i64 5, .int .i64 (max nn 0), .slice none 0 0] 29)).cell? ⟨wr.heap.size + 1 + 1, 1, none⟩ = some (.int .i64 (max nn 0)) := by go_simp
          have f2 : (((wr.alloc (.cells #[.int .i64 k, .int .i64 nn, .slice q len cp] 29)).alloc (.cells #[.int .i64 5, .int .i64 (max nn 0), .slice none 0 0] 29)).alloc (.cells #[.int .i64 5, .int .i64 (max nn 0), .slice none 0 0] 29)).cell? ⟨wr.heap.size + 1 + 1, 2, none⟩ = some (.slice none 0 0) := by go_simp
          have F0 := Lib.hid f0
          have F1 := Lib.hid f1
          have F2 := Lib.hid f2
          clear f0 f1 f2
          go_wp2_with (first | (refine wpl_appendI _ rfl (.tmp 58) (.tmp 60) rfl w.heap.size u3 ls rfl (HO.out.of_below HBW.out) (wr.heap.size + 1 + 1) ⟨5, (max nn 0), []⟩ none 0 1 rfl F0.out F1.out F2.out ⟨Sl.nil _ _, fun _ => rfl, Nat.le_refl _⟩ (fun h => absurd h (Nat.lt_irrefl 0)) hlen (Nat.le_trans hN HBW.out.size) ?_; rintro v4 w4 hO4 hg4; have HO4 := Lib.hid hO4; have HG4 := Lib.hid hg4; clear hO4 hg4))
          go_wp2
          exact ⟨⟨i + 1, by omega, by omega, by go_num, by rw [HLS1.out, HF.out]; exact HO4.out, (HB.out.trans (HBW.out.mono hN)).grown HG4.out (Nat.le_trans hN HBW.out.size) (fun j hj => (HO.out.lt j hj).1)⟩, by simp [intOf]; omega⟩
    · have hltz : ¬ (i : Int) < (n : Int) := by omega
      have hld : decide ((i : Int) < (n : Int)) = false := decide_eq_false hltz
      have HE := Lib.hid (HEND.out i (by omega) hi30 (.inl (by omega)))
      clear hO hB HEND
      go_wp2
      go_ret
      exact ⟨_, rfl, by rw [HE.out]; exact HO.out, HB.out⟩
end Go.Proofs.Ytgmogbgkokofoaa
