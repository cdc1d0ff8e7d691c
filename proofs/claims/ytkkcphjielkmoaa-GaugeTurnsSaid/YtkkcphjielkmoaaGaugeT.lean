/- The statement GaugeTurns, walked. -/
import Derived.Test.YtkkcphjielkmoaaGaugeS
import Derived.Deep.RegionHeld3
set_option linter.unusedSimpArgs false
set_option linter.unusedVariables false
namespace Go.Proofs.Ytkkcphjielkmoaa
open Go Go.RowKit

/-- A list turned by k. -/
def turnL (l : List Nat) (k : Nat) : List Nat := (List.range l.length).map fun i => l.getD ((i + k) % l.length) 0
theorem turnL_length (l : List Nat) (k : Nat) : (turnL l k).length = l.length := by simp [turnL]
theorem turnL_get (l : List Nat) (k i : Nat) (h : i < l.length) : (turnL l k).getD i 0 = l.getD ((i + k) % l.length) 0 := by
  simp [turnL, List.getD_eq_getElem?_getD, h]
theorem turnL_eq (l : List Nat) (k : Nat) (hk : k ≤ l.length) : turnL l k = l.drop k ++ l.take k := by
  apply List.ext_getElem
  · rw [turnL_length, List.length_append, List.length_drop, List.length_take]; omega
  · intro i h1 h2
    rw [turnL_length] at h1
    have e : (turnL l k)[i]'(by rw [turnL_length]; exact h1) = l.getD ((i + k) % l.length) 0 := by simp [turnL]
    rw [e, List.getElem_append]
    split
    · rename_i h3
      rw [List.length_drop] at h3
      rw [List.getElem_drop, Nat.mod_eq_of_lt (by omega), List.getD_eq_getElem?_getD, List.getElem?_eq_getElem (by omega)]
      simp [Nat.add_comm]
    · rename_i h3
      rw [List.length_drop] at h3
      rw [List.getElem_take]
      have hm : (i + k) % l.length = i - (l.length - k) := by
        rw [show i + k = (i - (l.length - k)) + l.length by omega, Nat.add_mod_right, Nat.mod_eq_of_lt (by omega)]
      rw [hm, List.getD_eq_getElem?_getD, List.getElem?_eq_getElem (by omega)]
      simp [List.length_drop]
theorem turnL_perm (l : List Nat) (k : Nat) (hk : k ≤ l.length) : (turnL l k).Perm l := by
  rw [turnL_eq l k hk]
  exact List.perm_append_comm.trans (by rw [List.take_append_drop])
set_option maxHeartbeats 1000000 in
theorem gt_long (p : Option Addr) (n cap : Nat) (t : Int) (w : World) (h : 30 < n ∨ n = 0) : Calls Try.prog 6 #[.slice p n cap, .int .u8 t] w fun e w' => e = .returned (.bool true) ∧ Below w.heap.size w w' := by
  by_cases h1 : 30 < n
  · have hd : decide ((30 : Int) < (n : Int)) = true := decide_eq_true (by omega)
    have hz : (30 : Int) < (n : Int) := by omega
    go_enter Try.func6, Try.ntmps6
    go_wp2_with fail
    refine (awake5 gaugeP w w (Below.refl _ _)).mono ?_
    rintro e w1 ⟨rfl, hB1⟩
    have HB1 := Lib.hid hB1
    clear hB1
    go_wp2_with fail
    refine (awake5 gaugeP w w1 HB1.out).mono ?_
    rintro e w2 ⟨rfl, hB2⟩
    have HB2 := Lib.hid hB2
    clear hB2
    go_wp2
    go_ret
    exact ⟨rfl, HB2.out⟩
  · have hd : decide ((30 : Int) < (n : Int)) = false := decide_eq_false (by omega)
    have hz : ¬ (30 : Int) < (n : Int) := by omega
    have hq : ((n : Int) == 0) = true := by simp; omega
    go_enter Try.func6, Try.ntmps6
    go_wp2_with fail
    refine (awake5 gaugeP w w (Below.refl _ _)).mono ?_
    rintro e w1 ⟨rfl, hB1⟩
    have HB1 := Lib.hid hB1
    clear hB1
    go_wp2_with fail
    refine (awake5 gaugeP w w1 HB1.out).mono ?_
    rintro e w2 ⟨rfl, hB2⟩
    have HB2 := Lib.hid hB2
    clear hB2
    go_wp2
    go_ret
    exact ⟨rfl, HB2.out⟩
attribute [local go_sem] run_bits run_frombits bsF1
attribute [local go_sem ↓] exec_bs
/-- Two slices of the call's own, apart from each other. -/
structure PrF (w : World) (N : Nat) (r s : Value) (rl sl : List Nat) : Prop where
  own1 : OwnE 24 fV w N r rl
  own2 : OwnE 24 fV w N s sl
  sep : ∀ g, r.ownBlock = some g → s.ownBlock ≠ some g
theorem PrF.symm {w : World} {N : Nat} {r s : Value} {rl sl : List Nat} (h : PrF w N r s rl sl) : PrF w N s r sl rl := ⟨h.own2, h.own1, fun g e1 e2 => h.sep g e2 e1⟩
theorem PrF.nil (w : World) (N : Nat) : PrF w N (.slice none 0 0) (.slice none 0 0) [] [] := ⟨OwnE.nil w N, OwnE.nil w N, fun g e => by cases e⟩
theorem PrF.of_below {w w' : World} {N : Nat} {r s : Value} {rl sl : List Nat} (h : PrF w N r s rl sl) (k : Below w.heap.size w w') : PrF w' N r s rl sl := ⟨h.own1.of_below k, h.own2.of_below k, h.sep⟩
theorem PrF.push {w w' : World} {N g n c : Nat} {r s : Value} {rl sl rl' : List Nat} (h : PrF w N r s rl sl) (hO : OwnE 24 fV w' N (.slice (some ⟨g, 0, none⟩) n c) rl') (hg : w.grownBy w' r.ownBlock) (hor : r.ownBlock = some g ∨ g = w.heap.size) : PrF w' N (.slice (some ⟨g, 0, none⟩) n c) s rl' sl := by
  refine ⟨hO, h.own2.keep fun k hk => hg.block k (h.own2.lt k hk).2 fun e => h.sep k e.symm hk, fun k hk e => ?_⟩
  have hk' : g = k := by simpa [Value.ownBlock] using hk
  subst hk'
  rcases hor with h1 | h1
  · exact h.sep g h1 e
  · have := (h.own2.lt g e).2
    omega
theorem infoF : (Try.prog.info? 24).map (fun i => (i.zero, i.size, i.bytes)) = some (some (.float .f64 0), 1, 8) := elF.info
/-- One float appended. -/
theorem wpl_pushF {ops : Array Oper} {rest : List Oper} {o : Oper} {a : Act} {Q : Exit → Act → World → Prop} (w : World) (hgd : o.guard = none) (s x : Operand)
    (ho : o.op = .call { callee := .builtin .append, args := #[s, x], argTypes := #[31, 31] })
    (base : Nat) (v : Value) (l : List Nat) (hs : a.eval s = v) (hown : OwnE 24 fV w base v l) (ad : Addr) (hx : a.eval x = .slice (some ad) 1 1) (u : Nat) (hc : w.cell? ad = some (.float .f64 u))
    (n0 : Nat) (hn0 : l.length = n0) (hlen : n0 < 100000000) (hb : base ≤ w.heap.size)
    (h : ∀ g cap' w', OwnE 24 fV w' base (.slice (some ⟨g, 0, none⟩) (n0 + 1) cap') (l ++ [u]) → w.grownBy w' v.ownBlock → (v.ownBlock = some g ∨ g = w.heap.size) → wpList Try.prog ops Q rest (a.put o.dst (.slice (some ⟨g, 0, none⟩) (n0 + 1) cap')) w') : wpList Try.prog ops Q (o :: rest) a w := by
  subst hn0
  obtain ⟨i0, hi, hz0, hz1, hz2⟩ := info_parts infoF
  exact wpList_append_lies (P := Try.prog) (w := w) hgd s x 31 ho base 24 i0 (.float .f64 0) 1 8 elF.und hi hz0 hz1 hz2 rfl (by decide) v l.length (l.map fV) hs hown ad 1 1 [fV u] hx rfl
    (fun j u' hu => by
      have : j = 0 := by
        rcases Nat.eq_zero_or_pos j with h | h
        · exact h
        · rw [List.getElem?_eq_none (by simp; omega)] at hu; cases hu
      subst this
      rw [Addr.add_zero', hc]
      simpa [fV] using hu)
    (by intro u' hu; simp at hu; subst hu; rfl) (by decide) (by simp only [maxLen]; omega) (by omega) hb w.heap.size rfl
    (fun g cap' w' h2 h3 h4 _ => h g cap' w' (by unfold OwnE; rw [List.length_append, List.map_append]; exact h2) h3 h4)
theorem lessQ (a b : Nat) (ha : a < 18446744073709551616) (hb : b < 18446744073709551616) (h : ¬ rk a < rk b) (N : Nat) (w : World) : Calls Try.prog 11 #[.float .f64 a, .float .f64 b] (w.drewN N) fun e w'' => e = .returned (.bool false) ∧ ∃ m, w'' = w.drewN m :=
  Calls.quiet_of ((less_any a b _ ha hb).mono fun e w' ⟨he, hd⟩ => ⟨he.trans (by rw [lessM_rk a b ha hb, decide_eq_false h]), hd⟩)
theorem less_no (a b : Nat) (ha : a < 18446744073709551616) (hb : b < 18446744073709551616) (h : ¬ rk a < rk b) (w : World) : Calls Try.prog 11 #[.float .f64 a, .float .f64 b] w fun e w' => e = .returned (.bool false) ∧ Dr w w' :=
  (less_any a b _ ha hb).mono fun e w' ⟨he, hd⟩ => ⟨he.trans (by rw [lessM_rk a b ha hb, decide_eq_false h]), hd⟩
end Go.Proofs.Ytkkcphjielkmoaa
