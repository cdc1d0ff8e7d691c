/- Chains of bumps, in plain words. -/
import Derived.Test.YtdkbmidacpooiaaOwnVs9
import Derived.Test.YtdkbmidacpooiaaLaw9B
set_option linter.unusedSimpArgs false
set_option linter.unusedVariables false
namespace Go.Proofs.Ytdkbmidacpooiaa
open Go Go.RowKit

/-- How often each replica was bumped within the first k. -/
def cnt (l : List Nat) (k : Nat) : Nat → Int := fun i => (((l.take k).countP fun b => b % 16 == i : Nat) : Int)
theorem cnt_zero (l : List Nat) : cnt l 0 = fun _ => 0 := rfl
theorem cnt_succ {l : List Nat} {k : Nat} (hk : k < l.length) : cnt l (k + 1) = fun i => if i = l[k] % 16 then cnt l k i + 1 else cnt l k i := by
  funext i
  unfold cnt
  rw [List.take_succ_eq_append_getElem hk, List.countP_append, List.countP_cons, List.countP_nil]
  by_cases e : i = l[k] % 16
  · subst e; simp
  · have : ¬ l[k] % 16 = i := fun q => e q.symm
    simp [e, this]
theorem cnt_bounds (l : List Nat) (k i : Nat) : 0 ≤ cnt l k i ∧ cnt l k i ≤ k := by
  unfold cnt
  have h1 := List.countP_le_length (p := fun b => b % 16 == i) (l := l.take k)
  have h2 := List.length_take_le k l
  omega
theorem cnt_good {l : List Nat} {k : Nat} (hk : k ≤ 1000) : gdV (cnt l k) = true := gdV_iff.2 fun i _ => by
  have := cnt_bounds l k i
  omega
theorem cnt_step {l : List Nat} {k : Nat} (hk : k < l.length) (i : Nat) : cnt l k i ≤ cnt l (k + 1) i := by
  rw [cnt_succ hk]
  show cnt l k i ≤ if i = l[k] % 16 then cnt l k i + 1 else cnt l k i
  split <;> omega
theorem cnt_mono {l : List Nat} {j : Nat} (d : Nat) (h : j + d ≤ l.length) (i : Nat) : cnt l j i ≤ cnt l (j + d) i := by
  induction d with
  | zero => exact Int.le_refl _
  | succ d ih => exact Int.le_trans (ih (by omega)) (cnt_step (k := j + d) (by omega) i)
theorem cnt_less {l : List Nat} {j k : Nat} (hjk : j < k) (hk : k ≤ l.length) : cmpV (cnt l j) (cnt l k) = -1 ∧ cmpV (cnt l k) (cnt l j) = 1 := by
  have hm : ∀ i, cnt l j i ≤ cnt l k i := fun i => by have := cnt_mono (l := l) (j := j) (k - j) (by omega) i; rwa [show j + (k - j) = k by omega] at this
  have hs : cnt l j (l[j] % 16) < cnt l k (l[j] % 16) := by
    have h1 := cnt_mono (l := l) (j := j + 1) (k - (j + 1)) (by omega) (l[j] % 16)
    rw [show j + 1 + (k - (j + 1)) = k by omega, cnt_succ (show j < l.length by omega)] at h1
    have h2 : (if l[j] % 16 = l[j] % 16 then cnt l j (l[j] % 16) + 1 else cnt l j (l[j] % 16)) = cnt l j (l[j] % 16) + 1 := if_pos rfl
    have h3 : cnt l j (l[j] % 16) + 1 ≤ cnt l k (l[j] % 16) := by rw [← h2]; exact h1
    omega
  have h16 : l[j] % 16 < 16 := Nat.mod_lt _ (by decide)
  have c1 : cvV (cnt l k) (cnt l j) = true := cvV_iff.2 fun i _ => hm i
  have c2 : cvV (cnt l j) (cnt l k) = false := cvV_no h16 hs
  have v1 : veq (cnt l j) (cnt l k) = false := by rw [veq_cv, c2]; rfl
  have v2 : veq (cnt l k) (cnt l j) = false := by rw [veq_cv, c2, Bool.and_false]
  unfold cmpV
  rw [c1, c2, v1, v2]
  exact ⟨rfl, rfl⟩
theorem cmpV_self (f : Nat → Int) : cmpV f f = 0 := by
  unfold cmpV
  rw [veq_iff.2 fun _ _ => rfl]
  rfl
/-- The vectors of the first k bumps. -/
def chain9 (l : List Nat) (k : Nat) : List (Nat → Int) := (List.range k).map fun j => cnt l (j + 1)
theorem chain9_len (l : List Nat) (k : Nat) : (chain9 l k).length = k := by unfold chain9; simp
theorem chain9_succ (l : List Nat) (k : Nat) : chain9 l (k + 1) = chain9 l k ++ [cnt l (k + 1)] := by
  unfold chain9
  rw [List.range_succ, List.map_append]
  rfl
theorem chain9_get (l : List Nat) (k j : Nat) (hj : j < k) : (chain9 l k).getD j (fun _ => 0) = cnt l (j + 1) := by
  unfold chain9
  rw [List.getD_eq_getElem?_getD, List.getElem?_map, List.getElem?_range hj]
  rfl
theorem mgL_snoc (a : List (Nat → Int)) (c : Nat → Int) (h : a ≠ []) : mgL (a ++ [c]) = mxV (mgL a) c := by
  cases a with
  | nil => exact absurd rfl h
  | cons f r =>
    show (r ++ [c]).foldl mxV f = mxV (r.foldl mxV f) c
    rw [List.foldl_append]
    rfl
theorem chain9_merge (l : List Nat) (k : Nat) (hk : k ≤ l.length) : mgL (chain9 l k) = cnt l k := by
  induction k with
  | zero => rfl
  | succ k ih =>
    rw [chain9_succ]
    cases k with
    | zero => rfl
    | succ k =>
      rw [mgL_snoc _ _ (by intro e; have := congrArg List.length e; rw [chain9_len] at this; cases this), ih (by omega)]
      funext i
      have := cnt_step (l := l) (k := k + 1) (by omega) i
      show max (cnt l (k + 1) i) (cnt l (k + 1 + 1) i) = _
      omega
theorem chain9_keep_no (l : List Nat) (n k : Nat) (hn : n ≤ l.length) (hk : k + 1 < n) : keepI (chain9 l n) k = false := by
  refine keepI_no (j := k + 1) (by rw [chain9_len]; exact hk) ?_
  unfold behindL
  rw [chain9_get l n k (by omega), chain9_get l n (k + 1) hk, (cnt_less (l := l) (j := k + 1) (k := k + 1 + 1) (by omega) (by omega)).1]
  rfl
theorem chain9_keep_yes (l : List Nat) (n : Nat) (hn : n + 1 ≤ l.length) : keepI (chain9 l (n + 1)) n = true := by
  refine keepI_yes fun j hj => ?_
  rw [chain9_len] at hj
  unfold behindL
  rw [chain9_get l (n + 1) n (by omega), chain9_get l (n + 1) j hj]
  by_cases e : j = n
  · subst e
    rw [cmpV_self]
    simp
  · rw [(cnt_less (l := l) (j := j + 1) (k := n + 1) (by omega) hn).2]
    rfl
theorem chain9_last (l : List Nat) (n : Nat) (hn : n ≤ l.length) : lastL (chain9 l n) = if n = 0 then [] else [n - 1] := by
  cases n with
  | zero => rfl
  | succ n =>
    unfold lastL
    rw [chain9_len, lastTo_yes (chain9_keep_yes l n hn)]
    have h0 : ∀ k, k ≤ n → lastTo (chain9 l (n + 1)) k = [] := by
      intro k
      induction k with
      | zero => intro _; rfl
      | succ k ih =>
        intro hk
        rw [lastTo_no (chain9_keep_no l (n + 1) k hn (by omega)), ih (by omega)]
    rw [h0 n (Nat.le_refl _)]
    simp
end Go.Proofs.Ytdkbmidacpooiaa
