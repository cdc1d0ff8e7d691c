/- The statement GaugeSorts, walked. -/
import Derived.Test.YtkkcphjielkmoaaSortedP
import Derived.Test.YtkkcphjielkmoaaRefS
set_option linter.unusedSimpArgs false
set_option linter.unusedVariables false
namespace Go.Proofs.Ytkkcphjielkmoaa
open Go Go.RowKit

/-- Alike: the same bits, or NaNs both. -/
def AlikeM (a b : Nat) : Prop := a = b ∨ (clsB a = 6 ∧ clsB b = 6)
attribute [local go_sem] run_bits run_frombits
set_option maxHeartbeats 1000000 in
theorem alike_any (a b : Nat) (ha : a < 18446744073709551616) (hb : b < 18446744073709551616) (h : AlikeM a b) (w : World) : Calls Try.prog 15 #[.float .f64 a, .int .u64 (b : Int)] w fun e w' => e = .returned (.bool true) ∧ Dr w w' := by
  have HC := Lib.hid (class_any a ha)
  have HR := Lib.hid (refCls_any b)
  by_cases e : a = b
  · subst e
    have hq : ((a : Int) == (a : Int)) = true := by simp
    clear h ha hb
    go_enter Try.func15, Try.ntmps15
    go_wp2
    go_ret
    exact ⟨rfl, Dr.refl _⟩
  · rcases h with h | ⟨h1, h2⟩
    · exact absurd h e
    · have hq : ((a : Int) == (b : Int)) = false := by simp; omega
      rw [h1] at HC
      rw [h2] at HR
      clear h1 h2 e ha hb
      go_enter Try.func15, Try.ntmps15
      go_wp2_with fail
      refine (HC.out w).mono ?_
      rintro e w1 ⟨rfl, hD⟩
      have HD := Lib.hid hD
      clear hD
      go_wp2_with fail
      refine (HR.out w1).mono ?_
      rintro e w' ⟨rfl, rfl⟩
      go_wp2
      go_ret
      exact ⟨rfl, HD.out⟩
theorem alikeQ (a b : Nat) (ha : a < 18446744073709551616) (hb : b < 18446744073709551616) (h : AlikeM a b) (N : Nat) (w : World) : Calls Try.prog 15 #[.float .f64 a, .int .u64 (b : Int)] (w.drewN N) fun e w'' => e = .returned (.bool true) ∧ ∃ m, w'' = w.drewN m :=
  Calls.quiet_of (alike_any a b ha hb h _)
theorem AlikeM.self (a : Nat) : AlikeM a a := .inl rfl
/-- Two rows in order of one list are alike. -/
theorem InOrder.alike {l ol : List Nat} {n : Nat} {d : Nat → Nat} (h : InOrder l n d) (hp : ol.Perm l) (hw : ol.Pairwise fun a b => rk a ≤ rk b) (hb : ∀ x, x ∈ l → x < 18446744073709551616) (hl : l.length = n) (i : Nat) (hi : i < n) : AlikeM (d i) (ol.getD i 0) := by
  have he := keys_eq (k := rk) (h.perm.trans hp.symm) h.srt.pair hw
  have hol : ol.length = n := by rw [hp.length_eq, hl]
  have h1 : (((List.range n).map d).map rk)[i]? = (ol.map rk)[i]? := by rw [he]
  have h2 : ol.getD i 0 = ol[i]'(by omega) := by rw [List.getD_eq_getElem?_getD, List.getElem?_eq_getElem (by omega)]; rfl
  simp [hi, hol] at h1
  rw [h2]
  exact rk_inj _ _ (h.lt i hi) (hb _ (hp.mem_iff.1 (List.getElem_mem _))) h1
theorem InOrder.same {l m : List Nat} {n : Nat} {d e : Nat → Nat} (h : InOrder l n d) (g : InOrder m n e) (hp : l.Perm m) (i : Nat) (hi : i < n) : rk (d i) = rk (e i) := by
  have he := keys_eq (k := rk) ((h.perm.trans hp).trans g.perm.symm) h.srt.pair g.srt.pair
  have h1 : (((List.range n).map d).map rk)[i]? = (((List.range n).map e).map rk)[i]? := by rw [he]
  simpa [hi] using h1
/-- The first in order is after none. -/
theorem InOrder.least {l : List Nat} {n : Nat} {d : Nat → Nat} (h : InOrder l n d) (x : Nat) (hx : x ∈ l) : rk (d 0) ≤ rk x := by
  have h1 := h.perm.mem_iff.2 hx
  obtain ⟨i, hi, rfl⟩ := List.mem_map.1 h1
  exact h.srt.le 0 i (Nat.le_refl _) (Nat.zero_le _) (by simpa using hi)
theorem bsF1 (x : Nat) (w : World) : (bsT 31 1 #[(0, .float .f64 x)]).run Try.prog w = .ok (.value (.slice (some ⟨w.heap.size, 0, none⟩) 1 1)) (w.alloc (.cells #[.float .f64 x] 24)) := by kernel_rfl
attribute [local go_sem ↓] exec_bs
attribute [local go_sem] bsF1
theorem bel_stepS {w0 w w' : World} (h : Below w0.heap.size w0 w) (k : Below w.heap.size w w') : Below w0.heap.size w0 w' := h.trans (k.mono h.size)
set_option maxHeartbeats 1000000 in
theorem gs_long (p : Option Addr) (n cap : Nat) (w : World) (h : 40 < n) : Calls Try.prog 4 #[.slice p n cap] w fun e w' => e = .returned (.bool true) ∧ Below w.heap.size w w' := by
  have hd : decide ((40 : Int) < (n : Int)) = true := decide_eq_true (by omega)
  have hz : (40 : Int) < (n : Int) := by omega
  go_enter Try.func4, Try.ntmps4
  go_wp2_with fail
  refine (awake5 gaugeP w w (Below.refl _ _)).mono ?_
  rintro e w1 ⟨rfl, hB1⟩
  have HB1 := Lib.hid hB1
  clear hB1
  go_wp2_with fail
  refine (awake5 gaugeP w w1 HB1.out).mono ?_
  rintro e w2 ⟨rfl, hB2⟩
  have HB2 := Lib.hid hB2
  clear hB2
  go_wp2
  go_ret
  exact ⟨rfl, HB2.out⟩
end Go.Proofs.Ytkkcphjielkmoaa
