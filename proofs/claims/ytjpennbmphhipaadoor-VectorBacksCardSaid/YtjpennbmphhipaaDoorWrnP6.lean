/- The program's Writer: numbers. -/
import Derived.Test.YtjpennbmphhipaaDoorWrtP6
set_option linter.unusedSimpArgs false
set_option maxRecDepth 100000
set_option linter.unusedVariables false
namespace Go.Proofs.YtjpennbmphhipaaDoor
open Go Go.RowKit

theorem OwnB.shape3 {w : World} {base : Nat} {v : Value} {l : List (BitVec 8)} (h : OwnB w base v l) : ∃ p n c, v = .slice p n c := by
  obtain ⟨p, c, rfl, -⟩ := h.shape
  exact ⟨_, _, _, rfl⟩
theorem or128F : ∀ t : Fin 128, bits BinOp.or IntKind.u8 ((t.val : Nat) : Int) 128 = ((128 + t.val : Nat) : Int) := by decide
theorem or128 (t : Nat) (h : t < 128) : bits BinOp.or IntKind.u8 (t : Int) 128 = ((128 + t : Nat) : Int) := or128F ⟨t, h⟩
/-- A byte that was just made. -/
theorem Sl.one (x : World) (c : Nat) (h : c < 256) : Sl (x.alloc (.cells #[.int .u8 (c : Int)] 5)) (some ⟨x.heap.size, 0, none⟩) [BitVec.ofNat 8 c] := fun j hj => by
  have : j = 0 := by simp at hj; omega
  subst this
  refine ⟨x.heap.size, 0, rfl, ?_⟩
  rw [World.cell?_alloc_new]
  show some (Value.int .u8 (c : Int)) = some (B (BitVec.ofNat 8 c))
  rw [B_eq', BitVec.toNat_ofNat, Nat.mod_eq_of_lt (by simpa using h)]
set_option maxRecDepth 100000 in
set_option maxHeartbeats 4000000 in
theorem wrP_number (N : Nat) (w : World) (a : Addr) (g : Option Nat) (l : List (BitVec 8)) (n : Nat) (h : WrP N w a g l) (hl : l.length < 1000000100) (hn : n < 9223372036854775808) : Calls Tryd.prog 35 #[.pointer (some a), .int .i64 (n : Int)] w fun e w' => e = .returned (.bool true) ∧ WrPost WrP N w a g (l ++ enc7 n) w' := by
  have HW := Lib.hid h
  have hNb := wrP_lie _ _ _ _ _ h
  obtain ⟨b, v0, rfl, -⟩ := h
  have HN := Lib.hid hNb
  clear hNb
  have hge : ¬ (n : Int) < 0 := by omega
  have hged : decide ((n : Int) < 0) = false := decide_eq_false hge
  have HE9 := Lib.hid (show (enc7 n).length ≤ 9 from enc7_len 8 n (Nat.lt_of_lt_of_le hn (by decide)))
  go_enter Tryd.func35, Tryd.ntmps35
  go_wp2
  go_loopw [1] (fun vn wr => ∃ (m : Nat) (l' : List (BitVec 8)) (g' : Option Nat), vn = .int .i64 m ∧ m < 9223372036854775808 ∧ enc7 n = l' ++ enc7 m ∧ WrP N wr ⟨b, 0, none⟩ g' (l ++ l') ∧ (∀ k, g' = some k → g = some k ∨ w.heap.size ≤ k) ∧ Kq b g w wr) (fun vn _ => (intOf vn).toNat)
  case atStart => exact ⟨n, [], g, rfl, hn, rfl, by rw [List.append_nil]; exact HW.out, fun k hk => .inl hk, Kq.refl _ _ _⟩
  case round =>
    obtain ⟨m, l', g', rfl, hm, he, hW, hg', hK⟩ := hrel
    have hlen : (l ++ l').length < 2000000000 := by
      have h9 := HE9.out
      rw [he, List.length_append] at h9
      rw [List.length_append]; omega
    obtain ⟨b2, v, hb2, k1, hc, hf, hO, hv, hgb⟩ := hW
    injection hb2 with hb2
    subst hb2
    have hblt : b < wr.heap.size := World.block_lt_of_cell? wr _ hc
    have HO := Lib.hid hO
    have HV := Lib.hid (And.intro hv hgb)
    have HE := Lib.hid he
    have HG := Lib.hid hg'
    have HK := Lib.hid hK
    have HLEN := Lib.hid hlen
    clear hO hv hgb he hg' hK hlen
    by_cases h128 : 128 ≤ m
    · have z1 : (128 : Int) ≤ (m : Int) := by omega
      have z2 : decide ((128 : Int) ≤ (m : Int)) = true := decide_eq_true z1
      obtain ⟨t, ht⟩ : ∃ t, m % 128 = t := ⟨_, rfl⟩
      obtain ⟨m2, hm2⟩ : ∃ m2, m / 128 = m2 := ⟨_, rfl⟩
      have ht1 : t < 128 := by omega
      have t1 : (m : Int) % 128 = (t : Int) := by omega
      have t2 : (m : Int).tmod 128 = (t : Int) := by rw [Int.tmod_eq_emod_of_nonneg (by omega)]; exact t1
      have t3 : IntKind.u8.wrap (t : Int) = (t : Int) := by rw [IntKind.wrap_u8']; clear t1 t2; omega
      have t4 : (m : Int) / 128 = (m2 : Int) := by clear t2; omega
      have hor := or128 t ht1
      obtain ⟨c, hcc⟩ : ∃ c, 128 + t = c := ⟨_, rfl⟩
      rw [hcc] at hor
      have hHE := HE.out
      rw [enc7_hi h128, ht, hcc, hm2] at hHE
      have HE2 := Lib.hid hHE
      have HSL := Lib.hid (Sl.one wr c (by clear t1 t2 t4; omega))
      have HB := Lib.hid (show Below wr.heap.size wr (wr.alloc (.cells #[.int .u8 (c : Int)] 5)) from (Below.refl _ _).alloc (Nat.le_refl _) _)
      have HOB := Lib.hid (HO.out.of_below HB.out)
      have HM := Lib.hid (show m2 < m from by clear t1 t2 t4; omega)
      have hNs : N ≤ (wr.alloc (.cells #[.int .u8 (c : Int)] 5)).heap.size := by rw [World.size_alloc]; clear t1 t2 t4; omega
      have hc2 : (wr.alloc (.cells #[.int .u8 (c : Int)] 5)).cell? ⟨b, 0, none⟩ = some v := by rw [HB.out.cell (by exact hblt)]; exact hc
      clear ht hm2 hHE hcc HE
      go_wp2_with (first | (refine wpl_appendL _ rfl (.tmp 13) (.tmp 18) rfl N v (l ++ l') rfl HOB.out (some ⟨wr.heap.size, 0, none⟩) 1 1 [BitVec.ofNat 8 c] rfl rfl HSL.out (fun h => by cases h) (by have := HLEN.out; clear t1 t2 t4; omega) hNs ?_; rintro v3 w3 hO3 hg3 ho3
                            obtain ⟨⟨z3, f3⟩, hP3⟩ := wr_put k1 hblt HB.out hc hf HV.out.1 HV.out.2 hO3 hg3 ho3
                            have HP3 := Lib.hid hP3
                            obtain ⟨p3, n3, c3, rfl⟩ := hO3.shape3
                            clear hO3 hg3 ho3 hP3))
      obtain ⟨g2, q1, q2, q3⟩ := HP3.out
      refine ⟨⟨m2, l' ++ [BitVec.ofNat 8 c], g2, rfl, ?_, by rw [HE2.out]; simp, by rw [← List.append_assoc]; exact q1, fun k hk => (q2 k hk).elim (HG.out k) (fun h => .inr (Nat.le_trans HK.out.size h)), HK.out.trans q3 HG.out⟩, ?_⟩
      · have := HM.out; clear t1 t2 t4; omega
      · have := HM.out; simp [intOf]; exact this
    · have z1 : ¬ (128 : Int) ≤ (m : Int) := by omega
      have z2 : decide ((128 : Int) ≤ (m : Int)) = false := decide_eq_false z1
      have t3 : IntKind.u8.wrap (m : Int) = (m : Int) := by rw [IntKind.wrap_u8']; omega
      have hHE := HE.out
      rw [enc7_lo (n := m) (by omega)] at hHE
      have HE2 := Lib.hid hHE
      have HSL := Lib.hid (Sl.one wr m (by omega))
      have HB := Lib.hid (show Below wr.heap.size wr (wr.alloc (.cells #[.int .u8 (m : Int)] 5)) from (Below.refl _ _).alloc (Nat.le_refl _) _)
      have HOB := Lib.hid (HO.out.of_below HB.out)
      have hNs : N ≤ (wr.alloc (.cells #[.int .u8 (m : Int)] 5)).heap.size := by rw [World.size_alloc]; omega
      have hc2 : (wr.alloc (.cells #[.int .u8 (m : Int)] 5)).cell? ⟨b, 0, none⟩ = some v := by rw [HB.out.cell (by exact hblt)]; exact hc
      clear hHE HE
      go_wp2_with (first | (refine wpl_appendL _ rfl (.tmp 28) (.tmp 31) rfl N v (l ++ l') rfl HOB.out (some ⟨wr.heap.size, 0, none⟩) 1 1 [BitVec.ofNat 8 m] rfl rfl HSL.out (fun h => by cases h) (by have := HLEN.out; omega) hNs ?_; rintro v3 w3 hO3 hg3 ho3
                            obtain ⟨⟨z3, f3⟩, hP3⟩ := wr_put k1 hblt HB.out hc hf HV.out.1 HV.out.2 hO3 hg3 ho3
                            have HP3 := Lib.hid (WrPost.trans HG.out HK.out hP3)
                            obtain ⟨p3, n3, c3, rfl⟩ := hO3.shape3
                            clear hO3 hg3 ho3 hP3))
      go_ret
      exact ⟨rfl, by rw [HE2.out, ← List.append_assoc]; exact HP3.out⟩
set_option maxHeartbeats 1000000 in
theorem wrP_neg (N : Nat) (w : World) (a : Addr) (g : Option Nat) (l : List (BitVec 8)) (n : Int) (h : WrP N w a g l) (hn : n < 0) : Calls Tryd.prog 35 #[.pointer (some a), .int .i64 n] w fun e w' => e = .returned (.bool false) ∧ Below w.heap.size w w' := by
  have hd : decide (n < 0) = true := decide_eq_true hn
  clear h
  go_enter Tryd.func35, Tryd.ntmps35
  go_wp2
  go_ret
  exact ⟨rfl, Below.refl _ _⟩
set_option maxHeartbeats 1000000 in
theorem wrP_done (N : Nat) (w : World) (a : Addr) (g : Option Nat) (l : List (BitVec 8)) (h : WrP N w a g l) (hl : l.length < 1000000000) : Calls Tryd.prog 9 #[.pointer (some a)] w fun e w' => GivesB w l e w' := by
  obtain ⟨b, v, rfl, k1, hc, hf, hO, hv, hgb⟩ := h
  obtain ⟨p, cap, rfl, hs, hp, hle⟩ := hO.shape
  have HC := Lib.hid (clone_any l p l.length cap w rfl hs hp hle (by omega))
  clear hO hv hgb hs hp hle
  generalize l.length = n at *
  go_enter Tryd.func9, Tryd.ntmps9
  go_wp2_with fail
  refine HC.out.mono ?_
  rintro e w' ⟨v, rfl, hO, hB⟩
  have HO := Lib.hid (And.intro hO hB)
  clear hO hB HC
  go_wp2
  go_ret
  exact ⟨_, rfl, HO.out.1, HO.out.2⟩
end Go.Proofs.YtjpennbmphhipaaDoor
