/- A row of measures put in order by insertion (slices.insertionSortCmpFunc, by the program's order). -/
import Derived.Test.YtkkcphjielkmoaaSwapR
import Derived.Test.YtkkcphjielkmoaaGaugeQ
import Derived.Deep.LoopGhost
set_option linter.unusedSimpArgs false
set_option linter.unusedVariables false
namespace Go.Proofs.Ytkkcphjielkmoaa
open Go Go.RowKit

def InsA (k : Nat → Int) (d : Nat → Nat) (a i j : Nat) : Prop := ∀ p q, a ≤ p → p < q → q ≤ i → q ≠ j → k (d p) ≤ k (d q)
theorem insA_start {k : Nat → Int} {d : Nat → Nat} {a i : Nat} (h : Srt k d a i) : InsA k d a i i := fun p q h1 h2 h3 h4 => h p q h1 h2 (by omega)
theorem insA_stop {k : Nat → Int} {d : Nat → Nat} {a i j : Nat} (h : InsA k d a i j) (hj : a ≤ j) (g : j = a ∨ ¬ k (d j) < k (d (j - 1))) : Srt k d a (i + 1) := fun p q h1 h2 h3 => by
  by_cases e : q = j
  · subst e
    rcases g with g | g
    · omega
    · rcases Nat.lt_or_ge p (q - 1) with h4 | h4
      · have := h p (q - 1) h1 h4 (by omega) (by omega)
        omega
      · rw [show p = q - 1 by omega]; omega
  · exact h p q h1 h2 (by omega) e
theorem insA_step {k : Nat → Int} {d : Nat → Nat} {a i j : Nat} (h : InsA k d a i j) (hj : a < j) (hi : j ≤ i) (g : k (d j) < k (d (j - 1))) : InsA k (sw d j (j - 1)) a i (j - 1) := fun p q h1 h2 h3 h4 => by
  unfold sw
  rw [if_neg h4]
  by_cases e1 : q = j
  · rw [if_pos e1]
    by_cases e2 : p = j - 1
    · rw [if_pos e2]; omega
    · rw [if_neg e2, if_neg (by omega)]
      exact h p (j - 1) h1 (by omega) (by omega) (by omega)
  · rw [if_neg e1]
    by_cases e2 : p = j - 1
    · rw [if_pos e2]; exact h j q (by omega) (by omega) h3 e1
    · rw [if_neg e2]
      by_cases e3 : p = j
      · rw [if_pos e3]; exact h (j - 1) q (by omega) (by omega) h3 e1
      · rw [if_neg e3]; exact h p q h1 h2 h3 e1
theorem ordQ (a b : Nat) (ha : a < 18446744073709551616) (hb : b < 18446744073709551616) (N : Nat) (w : World) : Calls Try.prog 22 #[.float .f64 a, .float .f64 b] (w.drewN N) fun e w'' => e = .returned (.int .i64 (ordM a b)) ∧ ∃ m, w'' = w.drewN m :=
  Calls.quiet_of (order_any a b ha hb _)
set_option maxRecDepth 1000000 in
set_option maxHeartbeats 8000000 in
theorem ins_any (g n cap a b : Nat) (d : Nat → Nat) (w : World) (hF : Fr w g n d) (hd : ∀ x, x < n → d x < 18446744073709551616) (hab : a ≤ b) (hb : b ≤ n) (hn : n < 100000000) :
    Calls Try.prog 33 #[.slice (some ⟨g, 0, none⟩) n cap, .int .i64 a, .int .i64 b, .func (.func 22) #[] #[]] w fun e w' => e = .returned (.tuple #[]) ∧ ∃ d', Fr w' g n d' ∧ PI a b d d' ∧ Srt rk d' a b ∧ Kp g w w' := by
  have HF := Lib.hid hF
  have HD := Lib.hid hd
  clear hF hd
  go_enter Try.func33, Try.ntmps33
  go_wp2
  go_loopw [8] (fun vi wr => ∃ (i : Nat) (dk : Nat → Nat), a < i ∧ (i ≤ b ∨ i = a + 1) ∧ vi = .int .i64 i ∧ Fr wr g n dk ∧ PI a b d dk ∧ Srt rk dk a i ∧ Kp g w wr) (fun vi _ => b - (intOf vi).toNat)
  case atStart => exact ⟨a + 1, d, by omega, by omega, by go_num, HF.out, .refl, Srt.one _ _ _ _ (by omega), Kp.refl _ _⟩
  case round =>
    obtain ⟨i, di, hi, hib, rfl, hF, hP, hS, hK⟩ := hrel
    clear HF
    have HF := Lib.hid hF
    have HP := Lib.hid hP
    have HS := Lib.hid hS
    have HK := Lib.hid hK
    clear hF hP hS hK
    rename World => WO
    by_cases hlt : i < b
    · have hltz : (i : Int) < (b : Int) := by omega
      go_wp2
      go_loopw [9] (fun vj wr => ∃ (j : Nat) (dk : Nat → Nat), a ≤ j ∧ j ≤ i ∧ vj = .int .i64 j ∧ Fr wr g n dk ∧ PI a b d dk ∧ InsA rk dk a i j ∧ Kp g w wr) (fun vj _ => (intOf vj).toNat)
      case atStart => exact ⟨i, di, by omega, Nat.le_refl _, rfl, HF.out, HP.out, insA_start HS.out, HK.out⟩
      case round =>
        clear HF HP HS HK
        obtain ⟨j, dk, haj, hji, rfl, hF, hP, hI, hK⟩ := hrel
        have HF := Lib.hid hF
        have HP := Lib.hid hP
        have HI := Lib.hid hI
        have HK := Lib.hid hK
        clear hF hP hI hK
        by_cases hja : a < j
        · have hjz : (a : Int) < (j : Int) := by omega
          have hjd : decide ((a : Int) < (j : Int)) = true := decide_eq_true hjz
          have p1 : IntKind.i64.wrap ((j : Int) - 1) = (j : Int) - 1 := IntWalk.i64_in _ (by omega)
          have p2 : 0 ≤ (j : Int) - 1 := by omega
          have p3 : (j : Int) - 1 < (n : Int) := by omega
          have p4 : ((j : Int) - 1).toNat = j - 1 := by omega
          have q3 : (j : Int) < (n : Int) := by omega
          have x1 := HF.out.cell j (by omega)
          have x2 := HF.out.cell (j - 1) (by omega)
          have hb1 := HP.out.any (P := (· < 18446744073709551616)) hb HD.out j (by omega)
          have hb2 := HP.out.any (P := (· < 18446744073709551616)) hb HD.out (j - 1) (by omega)
          have HQ := Lib.hid (ordQ (dk j) (dk (j - 1)) hb1 hb2)
          have hlt0 := ordM_lt (dk j) (dk (j - 1))
          clear hb1 hb2
          by_cases hc : rk (dk j) < rk (dk (j - 1))
          · rw [decide_eq_true hc] at hlt0
            have HI2 := Lib.hid (insA_step HI.out hja hji hc)
            have HP2 := Lib.hid (HP.out.step (i := j) (j := j - 1) (by omega) (by omega) (by omega) (by omega))
            obtain ⟨xa, hxa⟩ : ∃ x, dk j = x := ⟨_, rfl⟩
            obtain ⟨xb, hxb⟩ : ∃ x, dk (j - 1) = x := ⟨_, rfl⟩
            rw [hxa] at x1 HQ hlt0
            rw [hxb] at x2 HQ hlt0
            have HXA := Lib.hid hxa
            have HXB := Lib.hid hxb
            clear hc hxa hxb HI
            go_wp2_with fail
            go_quiet ((go_at_call 22; exact HQ.out _ _))
            have HF1 := Lib.hid (HF.out.dr ⟨nq, rfl⟩)
            have HK1 := Lib.hid (HK.out.drewN nq)
            clear x1 x2 HQ hlt0 HF HK
            generalize wr.drewN nq = W1 at *
            have S := Lib.hid ((HF1.out.sw j (j - 1)).dr (Dr.refl _).drew)
            have x1 := HF1.out.cell j (by omega)
            have x2 := HF1.out.cell (j - 1) (by omega)
            rw [HXA.out] at x1 S
            rw [HXB.out] at x2 S
            obtain ⟨v3, x3⟩ : ∃ v, (W1.setCell ⟨g, j, none⟩ (.float .f64 xb)).cell? ⟨g, j - 1, none⟩ = some v := ⟨_, (Row.set HF1.out j _).cell (j - 1) (by omega)⟩
            have f1 : ∀ j, W1.frozen? ⟨g, j, none⟩ = false := HF1.out.free
            have HS2 := Lib.hid (((HK1.out.setCell j (.float .f64 xb)).setCell (j - 1) (.float .f64 xa)).drewN 1)
            rw [show ∀ z : World, z.drewN 1 = z.drew from fun _ => rfl] at HS2
            clear HF1 HK1
            go_wp2_with fail
            go_region
            clear x1 x2 x3 f1
            generalize ((W1.setCell ⟨g, j, none⟩ (.float .f64 xb)).setCell ⟨g, j - 1, none⟩ (.float .f64 xa)).drew = W2 at *
            go_wp2
            go_roundw
            case rel => exact ⟨j - 1, _, by omega, by omega, by go_num, S.out, HP2.out, HI2.out, HS2.out⟩
            case measure => simp [intOf]; omega
          · rw [decide_eq_false hc] at hlt0
            have HI2 := Lib.hid (insA_stop HI.out haj (.inr hc))
            clear hc HI
            generalize dk j = xa at *
            generalize dk (j - 1) = xb at *
            go_wp2_with fail
            go_quiet ((go_at_call 22; exact HQ.out _ _))
            have HF1 := Lib.hid (HF.out.dr ⟨nq, rfl⟩)
            have HK1 := Lib.hid (HK.out.drewN nq)
            clear x1 x2 HQ hlt0 HF HK
            generalize wr.drewN nq = W1 at *
            go_wp2
            go_roundw
            case rel => exact ⟨i + 1, dk, by omega, by omega, by go_num, HF1.out, HP.out, HI2.out, HK1.out⟩
            case measure => simp [intOf]; omega
        · have hjd : decide ((a : Int) < (j : Int)) = false := decide_eq_false (by omega)
          have HI2 := Lib.hid (insA_stop HI.out haj (.inl (by omega)))
          go_wp2_with fail
          go_quiet (fail)
          have HF1 := Lib.hid (HF.out.dr ⟨nq, rfl⟩)
          have HK1 := Lib.hid (HK.out.drewN nq)
          clear HF HK HI
          generalize wr.drewN nq = W1 at *
          go_wp2
          go_roundw
          case rel => exact ⟨i + 1, dk, by omega, by omega, by go_num, HF1.out, HP.out, HI2.out, HK1.out⟩
          case measure => simp [intOf]; omega
    · have hltz : ¬ (i : Int) < (b : Int) := by omega
      go_wp2
      go_end0
      exact ⟨rfl, di, HF.out, HP.out, HS.out.mono (Nat.le_refl _) (by omega), HK.out⟩
end Go.Proofs.Ytkkcphjielkmoaa
