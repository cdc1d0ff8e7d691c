/- The reader's next bytes and numbers. -/
import Derived.Test.YtjpennbmphhipaaDoorFstP6
import Derived.Test.YtjpennbmphhipaaDoorCopyM
set_option linter.unusedSimpArgs false
set_option maxRecDepth 100000
set_option linter.unusedVariables false
namespace Go.Proofs.YtjpennbmphhipaaDoor
open Go Go.RowKit

theorem sl_hm (q : Option Addr) (n cap k : Nat) (w : World) (hk : k ≤ cap) : (slT 25 (.slice q n cap) none (some (.int .i64 (k : Int))) (some (.int .i64 (k : Int)))).run Tryd.prog w = .ok (.value (.slice q k k)) w := by
  have h1 := run_sliceAt_slice (P := Tryd.prog) w 25 (.slice q n cap) none (some (.int .i64 (k : Int))) (some (.int .i64 (k : Int))) und35
  rw [run_slice_hm (P := Tryd.prog) w 25 q n cap und35 .i64 .i64 (k : Int) (k : Int) (by omega) (by omega) (by omega), sizeB] at h1
  simp only [slT, Sem.run_bind, h1, Result.andThen_ok, Sem.run_pure]
  simp only [sliced, Int.toNat_natCast, Nat.zero_mul, Nat.sub_zero]
  have := cutA_zero q k
  unfold cutA at this
  rw [this]
attribute [local go_sem] sl_hm slb_lo
attribute [local go_sem ↓] exec_slice
set_option maxRecDepth 100000 in
set_option maxHeartbeats 1000000 in
/-- The next n bytes, or the end of the reading. -/
theorem cut_any (p : Option Addr) (N : Nat) (w : World) (a : Addr) (l : List (BitVec 8)) (n : Nat) (h : RdP p N w a l) : Calls Tryd.prog 84 #[.pointer (some a), .int .i64 (n : Int)] w fun e w' => Kp a.block w w' ∧ ((n ≤ l.length ∧ (∃ q : Option Addr, e = .returned (.slice q n n) ∧ Sl w' q (l.take n) ∧ (q = none → n = 0) ∧ (0 < n → ∀ c o, q = some ⟨c, o, none⟩ → c < N)) ∧ RdP p N w' a (l.drop n)) ∨ (l.length < n ∧ Thrown (ThrP a) 6 e w')) := by
  have HR := Lib.hid h
  obtain ⟨b, q, cap, rfl, h1, hc, h4, h5, h6, h7, h8⟩ := h
  obtain ⟨L, hL⟩ : ∃ L, l.length = L := ⟨_, rfl⟩
  rw [hL] at hc h6 h7 h8 ⊢
  have HL := Lib.hid hL
  have HS := Lib.hid h4
  have H5 := Lib.hid h5
  have H8 := Lib.hid h8
  have HC := Lib.hid hc
  obtain ⟨k0, k1, k2, f0, f1, f2⟩ := hc
  have hblt := World.block_lt_of_cell? w _ k0
  clear h4 h5 h8 hL k1 f1 f2
  by_cases hlt : L < n
  · have hz : decide ((L : Int) < (n : Int)) = true := decide_eq_true (by omega)
    have hz2 : (L : Int) < (n : Int) := by omega
    have HF := Lib.hid (rdP_fail p N w ⟨b, 0, none⟩ l 6 HR.out (by decide))
    clear f0
    go_enter Tryd.func84, Tryd.ntmps84
    go_wp2_with fail
    refine HF.out.mono ?_
    rintro e w' ⟨⟨v, hv, rfl⟩, hK⟩
    exact ⟨rfl, hK, .inr ⟨hlt, v, hv, rfl⟩⟩
  · have hz : decide ((L : Int) < (n : Int)) = false := decide_eq_false (by omega)
    have hz2 : ¬ (L : Int) < (n : Int) := by omega
    have hnL : n ≤ L := by omega
    have hnc : n ≤ cap := by omega
    have k2z : w.cell? ⟨b, 2, none⟩ = some (.int .i64 0) := k2
    clear k2
    go_enter Tryd.func84, Tryd.ntmps84
    go_wp2
    go_ret
    have hfar : 0 < l.length → ∀ c o, q = some ⟨c, o, none⟩ → c ≠ b := fun hl c o e => by have := (H8.out (by rw [← HL.out]; exact hl) c o e).1; omega
    have hsl : Sl (w.setCell ⟨b, 0, none⟩ (.slice (cutA q cap n) (L - n) (cap - n))) q l := fun j hj => by
      obtain ⟨c, o, e, hx⟩ := HS.out j hj
      exact ⟨c, o, e, by rw [World.cell?_setCell_far _ _ _ _ (show b ≠ c from Ne.symm (hfar (by omega) c o e))]; exact hx⟩
    refine ⟨(Kp.refl b w).setCell 0 _, ⟨q, rfl, hsl.take n, fun e => by have := H5.out e; omega, fun hn c o e => (H8.out (by omega) c o e).1⟩, b, cutA q cap n, cap - n, rfl, h1,
      ⟨?_, ?_, ?_, ?_, ?_, ?_⟩, hsl.drop (by rw [HL.out]; exact h6) n, fun e => cutA_none H5.out e, ?_, ?_, fun hl c o e => ?_⟩
    · rw [List.length_drop, HL.out]; exact World.cell?_setCell_same _ _ _ k0
    · rw [cell_off _ _ _ _ _ (by decide)]; exact HC.out.c1
    · rw [cell_off _ _ _ _ _ (by decide)]; exact HC.out.c2
    · rw [World.frozen?_setCell]; exact HC.out.f0
    · rw [World.frozen?_setCell]; exact HC.out.f1
    · rw [World.frozen?_setCell]; exact HC.out.f2
    · rw [List.length_drop, HL.out]; omega
    · rw [List.length_drop, HL.out]; omega
    · rw [List.length_drop, HL.out] at hl
      have hcn : ¬ cap = n := by omega
      unfold cutA at e
      rw [if_neg hcn] at e
      obtain ⟨c0, o0, e0, -⟩ := HS.out 0 (by rw [HL.out]; omega)
      rw [e0] at e
      have e3 : (some (Addr.add ⟨c0, o0, none⟩ n) : Option Addr) = some ⟨c, o, none⟩ := e
      rw [Addr.add_mid] at e3
      injection e3 with e3
      injection e3 with e4 e5
      subst e4
      exact H8.out (by omega) c0 o0 e0
set_option maxHeartbeats 1000000 in
theorem rdP_number (p : Option Addr) (N : Nat) (w : World) (a : Addr) (l : List (BitVec 8)) (most : Int) (h : RdP p N w a l) : Calls Tryd.prog 61 #[.pointer (some a), .int .i64 most] w (RdPost RdP ThrP p N w a l (takeI l most).2.2 (takeI l most).2.1 fun v _ => v = .int .i64 ((takeI l most).1 : Int)) := by
  have HR := Lib.hid h
  have HF := Lib.hid (fun c => rdP_fail p N w a l c HR.out)
  have HC := Lib.hid (fun n => cut_any p N w a l n HR.out)
  obtain ⟨b, q, cap, rfl, h1, hc, h4, h5, h6, h7, h8⟩ := h
  have HFI := Lib.hid (first_any l q l.length cap w rfl h4 h6 h7)
  have k0 := hc.c0
  clear h8 h4 h5 h6 h7 hc h1
  obtain ⟨L, hL⟩ : ∃ L, l.length = L := ⟨_, rfl⟩
  rw [hL] at k0 HFI
  cases e7 : num7 l with
  | none =>
    rw [takeI_none most e7]
    rw [num2_none e7] at HFI
    have HF6 := Lib.hid (HF.out 6 (by decide))
    clear e7 hL
    go_enter Tryd.func61, Tryd.ntmps61
    go_wp2_with fail
    refine HFI.out.mono ?_
    rintro e w' ⟨rfl, rfl⟩
    unfold pairI
    go_wp2_with fail
    refine HF6.out.mono ?_
    rintro e w' ⟨⟨v, hv, rfl⟩, hK⟩
    exact ⟨rfl, hK, .inr ⟨by decide, v, hv, rfl⟩⟩
  | some x =>
    obtain ⟨n, k⟩ := x
    have hi := num7_inv e7
    rw [num2_some e7] at HFI
    have hk0 : 0 < k := by have h := hi.2.2; have := enc7_pos n; omega
    have hk : ((k : Int) == 0) = false := by simp; omega
    by_cases hm : most < (n : Int)
    · rw [takeI_many e7 hm]
      have hmd : decide (most < (n : Int)) = true := decide_eq_true hm
      have HF14 := Lib.hid (HF.out 14 (by decide))
      clear e7 hL hi hk0
      go_enter Tryd.func61, Tryd.ntmps61
      go_wp2_with fail
      refine HFI.out.mono ?_
      rintro e w' ⟨rfl, rfl⟩
      unfold pairI
      go_wp2_with fail
      refine HF14.out.mono ?_
      rintro e w' ⟨⟨v, hv, rfl⟩, hK⟩
      exact ⟨rfl, hK, .inr ⟨by decide, v, hv, rfl⟩⟩
    · rw [takeI_some e7 hm]
      have hmd : decide (most < (n : Int)) = false := decide_eq_false hm
      have HCk := Lib.hid (HC.out k)
      have HKL := Lib.hid hi.2.1
      clear e7 hL hi hk0
      go_enter Tryd.func61, Tryd.ntmps61
      go_wp2_with fail
      refine HFI.out.mono ?_
      rintro e w' ⟨rfl, rfl⟩
      unfold pairI
      go_wp2_with fail
      refine HCk.out.mono ?_
      rintro e w' ⟨hK, ⟨-, ⟨q2, rfl, -⟩, hR⟩ | ⟨hbad, -⟩⟩
      · have HK := Lib.hid hK
        have HR2 := Lib.hid hR
        clear hK hR
        go_wp2
        go_ret
        exact ⟨HK.out, .inl ⟨rfl, ⟨_, rfl, rfl⟩, HR2.out⟩⟩
      · exact absurd HKL.out (by omega)
set_option maxHeartbeats 1000000 in
theorem rdP_count (p : Option Addr) (N : Nat) (w : World) (a : Addr) (l : List (BitVec 8)) (most : Int) (h : RdP p N w a l) : Calls Tryd.prog 83 #[.pointer (some a), .int .i64 most] w (RdPost RdP ThrP p N w a l (takeI l most).2.2 (takeI l most).2.1 fun v _ => v = .int .i64 ((takeI l most).1 : Int)) := by
  have HN := Lib.hid (rdP_number p N w a l most h)
  clear h
  go_enter Tryd.func83, Tryd.ntmps83
  go_wp2_with fail
  refine HN.out.mono ?_
  rintro e w' ⟨hK, ⟨h0, ⟨v, rfl, rfl⟩, hR⟩ | ⟨h0, v, hv, rfl⟩⟩
  · have HX := Lib.hid (And.intro hK (And.intro h0 hR))
    clear hK h0 hR
    go_wp2
    go_ret
    exact ⟨HX.out.1, .inl ⟨HX.out.2.1, ⟨_, rfl, rfl⟩, HX.out.2.2⟩⟩
  · exact ⟨rfl, hK, .inr ⟨h0, v, hv, rfl⟩⟩
end Go.Proofs.YtjpennbmphhipaaDoor
