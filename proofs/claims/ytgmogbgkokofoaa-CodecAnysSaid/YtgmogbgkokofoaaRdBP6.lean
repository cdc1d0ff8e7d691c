/- The reader's bytes and texts. -/
import Derived.Test.YtgmogbgkokofoaaCutP6
import Derived.Test.YtgmogbgkokofoaaCloneP
set_option linter.unusedSimpArgs false
set_option linter.unusedVariables false
namespace Go.Proofs.Ytgmogbgkokofoaa
open Go Go.RowKit

/-- cut where there are that many. -/
theorem cut_ok (p : Option Addr) (N : Nat) (w : World) (a : Addr) (l : List (BitVec 8)) (n : Nat) (h : RdP p N w a l) (hn : n ≤ l.length) : Calls Try.prog 43 #[.pointer (some a), .int .i64 (n : Int)] w fun e w' => Kp a.block w w' ∧ (∃ q : Option Addr, e = .returned (.slice q n n) ∧ Sl w' q (l.take n) ∧ (q = none → n = 0) ∧ (0 < n → ∀ c o, q = some ⟨c, o, none⟩ → c < N)) ∧ RdP p N w' a (l.drop n) :=
  (cut_any p N w a l n h).mono fun e w' ⟨hK, hc⟩ => by
    rcases hc with ⟨-, hq, hR⟩ | ⟨hbad, -⟩
    · exact ⟨hK, hq, hR⟩
    · exact absurd hn (by omega)
/-- cut where there are fewer. -/
theorem cut_no (p : Option Addr) (N : Nat) (w : World) (a : Addr) (l : List (BitVec 8)) (n : Nat) (h : RdP p N w a l) (hn : l.length < n) : Calls Try.prog 43 #[.pointer (some a), .int .i64 (n : Int)] w fun e w' => Kp a.block w w' ∧ ∃ v, ThrP a 6 w' v ∧ e = .panicked [{ v := v, recovered := false }] :=
  (cut_any p N w a l n h).mono fun e w' ⟨hK, hc⟩ => by
    rcases hc with ⟨hbad, -⟩ | ⟨-, v, hv, rfl⟩
    · exact absurd hn (by omega)
    · exact ⟨hK, v, hv, rfl⟩
theorem num_ok (p : Option Addr) (N : Nat) (w : World) (a : Addr) (l : List (BitVec 8)) (most : Int) (n k : Nat) (h : RdP p N w a l) (ht : takeI l most = (n, k, 0)) : Calls Try.prog 23 #[.pointer (some a), .int .i64 most] w fun e w' => Kp a.block w w' ∧ e = .returned (.int .i64 (n : Int)) ∧ RdP p N w' a (l.drop k) :=
  (rdP_number p N w a l most h).mono fun e w' ⟨hK, hc⟩ => by
    rw [ht] at hc
    rcases hc with ⟨-, ⟨v, rfl, rfl⟩, hR⟩ | ⟨hbad, -⟩
    · exact ⟨hK, rfl, hR⟩
    · exact absurd rfl hbad
theorem num_no (p : Option Addr) (N : Nat) (w : World) (a : Addr) (l : List (BitVec 8)) (most : Int) (c : Nat) (h : RdP p N w a l) (ht : (takeI l most).2.2 = c) (hc0 : c ≠ 0) : Calls Try.prog 23 #[.pointer (some a), .int .i64 most] w fun e w' => Kp a.block w w' ∧ ∃ v, ThrP a c w' v ∧ e = .panicked [{ v := v, recovered := false }] :=
  (rdP_number p N w a l most h).mono fun e w' ⟨hK, hc⟩ => by
    rw [ht] at hc
    rcases hc with ⟨hbad, -⟩ | ⟨-, v, hv, rfl⟩
    · exact absurd hbad hc0
    · exact ⟨hK, v, hv, rfl⟩
set_option maxHeartbeats 1000000 in
theorem rdP_bytes (p : Option Addr) (N : Nat) (w : World) (a : Addr) (l : List (BitVec 8)) (most : Int) (h : RdP p N w a l) : Calls Try.prog 35 #[.pointer (some a), .int .i64 most] w (RdPost RdP ThrP p N w a l (nextI l 1 most).2.2 (nextI l 1 most).2.1 fun v w' => OwnB w' w.heap.size v (nextI l 1 most).1.b) := by
  have hlen : l.length < 1000000 := by obtain ⟨_, _, _, _, _, _, _, _, _, h7, _⟩ := h; exact h7
  rw [nextI_take (by decide) (by decide)]
  by_cases hc : (takeI l most).2.2 = 0
  · rw [if_neg (by omega), if_neg (by decide)]
    have hok := takeI_ok hc
    obtain ⟨n, k, c, ht⟩ : ∃ n k c, takeI l most = (n, k, c) := ⟨_, _, _, rfl⟩
    rw [ht] at hok hc ⊢
    obtain rfl : c = 0 := hc
    dsimp only at hok ⊢
    have HN := Lib.hid (num_ok p N w a l most n k h ht)
    by_cases hsh : l.length - k < n
    · rw [if_pos hsh]
      have hsh2 : (l.drop k).length < n := by rw [List.length_drop]; exact hsh
      have HSH := Lib.hid hsh2
      clear h ht hok hsh hsh2
      go_enter Try.func35, Try.ntmps35
      go_wp2_with fail
      refine HN.out.mono ?_
      rintro e w2 ⟨hK, rfl, hR⟩
      have HC := Lib.hid (cut_no p N w2 a _ n hR HSH.out)
      have HK := Lib.hid hK
      clear hK hR
      go_wp2_with fail
      refine HC.out.mono ?_
      rintro e w3 ⟨hK3, v, hv, rfl⟩
      exact ⟨rfl, HK.out.trans hK3, .inr ⟨by decide, v, hv, rfl⟩⟩
    · rw [if_neg hsh]
      have hsh2 : n ≤ (l.drop k).length := by rw [List.length_drop]; omega
      have HSH := Lib.hid hsh2
      have hn : n < 2000000000 := by omega
      clear h ht hok hsh hsh2
      go_enter Try.func35, Try.ntmps35
      go_wp2_with fail
      refine HN.out.mono ?_
      rintro e w2 ⟨hK, rfl, hR⟩
      have HC := Lib.hid (cut_ok p N w2 a _ n hR HSH.out)
      have HK := Lib.hid hK
      clear hK hR
      go_wp2_with fail
      refine HC.out.mono ?_
      rintro e w3 ⟨hK3, ⟨q, rfl, hS3, hq, -⟩, hR3⟩
      have HCL := Lib.hid (clone_any _ q n n w3 (by rw [List.length_take]; have := HSH.out; omega) hS3 hq (Nat.le_refl _) hn)
      have HK3 := Lib.hid (HK.out.trans hK3)
      have HR3 := Lib.hid hR3
      clear hK3 hR3 hS3 hq
      go_wp2_with fail
      refine HCL.out.mono ?_
      rintro e w4 ⟨v, rfl, hO, hB⟩
      have HO := Lib.hid (hO.lower HK3.out.size)
      have HK4 := Lib.hid (HK3.out.of_below hB)
      have HR4 := Lib.hid (rdP_stay _ _ _ _ _ _ HR3.out hB.size (hB.block _ (rdP_lie _ _ _ _ _ HR3.out).2) fun c o _ hc => hB.block _ (by have := rdP_lie _ _ _ _ _ HR3.out; omega))
      clear hO hB
      go_wp2
      go_ret
      exact ⟨HK4.out, .inl ⟨rfl, ⟨_, rfl, HO.out⟩, by have := HR4.out; rwa [List.drop_drop] at this⟩⟩
  · rw [if_pos hc]
    have HN := Lib.hid (num_no p N w a l most _ h rfl hc)
    generalize (takeI l most).2.2 = c at *
    have HC := Lib.hid hc
    clear h hc
    go_enter Try.func35, Try.ntmps35
    go_wp2_with fail
    refine HN.out.mono ?_
    rintro e w2 ⟨hK, v, hv, rfl⟩
    exact ⟨rfl, hK, .inr ⟨HC.out, v, hv, rfl⟩⟩
set_option maxHeartbeats 1000000 in
theorem rdP_text (p : Option Addr) (N : Nat) (w : World) (a : Addr) (l : List (BitVec 8)) (most : Int) (h : RdP p N w a l) : Calls Try.prog 36 #[.pointer (some a), .int .i64 most] w (RdPost RdP ThrP p N w a l (nextI l 2 most).2.2 (nextI l 2 most).2.1 fun v _ => v = .string (strOf (nextI l 2 most).1.b)) := by
  rw [nextI_take (by decide) (by decide)]
  by_cases hc : (takeI l most).2.2 = 0
  · rw [if_neg (by omega), if_neg (by decide)]
    obtain ⟨n, k, c, ht⟩ : ∃ n k c, takeI l most = (n, k, c) := ⟨_, _, _, rfl⟩
    rw [ht] at hc ⊢
    obtain rfl : c = 0 := hc
    dsimp only
    have HN := Lib.hid (num_ok p N w a l most n k h ht)
    by_cases hsh : l.length - k < n
    · rw [if_pos hsh]
      have hsh2 : (l.drop k).length < n := by rw [List.length_drop]; exact hsh
      have HSH := Lib.hid hsh2
      clear h ht hsh hsh2
      go_enter Try.func36, Try.ntmps36
      go_wp2_with fail
      refine HN.out.mono ?_
      rintro e w2 ⟨hK, rfl, hR⟩
      have HC := Lib.hid (cut_no p N w2 a _ n hR HSH.out)
      have HK := Lib.hid hK
      clear hK hR
      go_wp2_with fail
      refine HC.out.mono ?_
      rintro e w3 ⟨hK3, v, hv, rfl⟩
      exact ⟨rfl, HK.out.trans hK3, .inr ⟨by decide, v, hv, rfl⟩⟩
    · rw [if_neg hsh]
      have hsh2 : n ≤ (l.drop k).length := by rw [List.length_drop]; omega
      have HSH := Lib.hid hsh2
      clear h ht hsh hsh2
      go_enter Try.func36, Try.ntmps36
      go_wp2_with fail
      refine HN.out.mono ?_
      rintro e w2 ⟨hK, rfl, hR⟩
      have HC := Lib.hid (cut_ok p N w2 a _ n hR HSH.out)
      have HK := Lib.hid hK
      clear hK hR
      go_wp2_with fail
      refine HC.out.mono ?_
      rintro e w3 ⟨hK3, ⟨q, rfl, hS3, hq, -⟩, hR3⟩
      have hcv := conv_str w3 q _ n n hS3 (by rw [List.length_take]; have := HSH.out; omega) hq
      have HK3 := Lib.hid (HK.out.trans hK3)
      have HR3 := Lib.hid hR3
      obtain ⟨sv, hsv⟩ : ∃ sv, strOf (List.take n (List.drop k l)) = sv := ⟨_, rfl⟩
      rw [hsv] at hcv
      have HSV := Lib.hid hsv
      clear hK3 hR3 hS3 hq hsv
      go_wp2
      go_ret
      exact ⟨HK3.out, .inl ⟨rfl, ⟨_, rfl, by rw [HSV.out]; rfl⟩, by have := HR3.out; rwa [List.drop_drop] at this⟩⟩
  · rw [if_pos hc]
    have HN := Lib.hid (num_no p N w a l most _ h rfl hc)
    generalize (takeI l most).2.2 = c at *
    have HC := Lib.hid hc
    clear h hc
    go_enter Try.func36, Try.ntmps36
    go_wp2_with fail
    refine HN.out.mono ?_
    rintro e w2 ⟨hK, v, hv, rfl⟩
    exact ⟨rfl, hK, .inr ⟨HC.out, v, hv, rfl⟩⟩
end Go.Proofs.Ytgmogbgkokofoaa
