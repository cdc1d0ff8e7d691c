/- What is held, in plain terms. -/
import Derived.Test.YtllpcllgliknpaaGreatDoorWrd15
set_option linter.unusedSimpArgs false
set_option maxRecDepth 100000
set_option linter.unusedVariables false
namespace Go.Proofs.YtllpcllgliknpaaGreatDoor
open Go

def OkW (s : Ws) : Prop := (s.map (·.1)).Nodup ∧ ∀ x ∈ s, (x.2.map (·.1)).Nodup
theorem WdAt.ok {w : World} {b mb : Nat} {F : Nat → Prop} {s : Ws} {bk : S8 → Nat} (h : WdAt w b F s mb bk) : OkW s := ⟨h.keys, fun x hx => by
  have := (h.each x hx).keys
  unfold hsV at this
  rw [List.map_map] at this
  exact this⟩
theorem whyW_put (h : Hs) (k r j : Int) : whyW (putH h k r) j = if j = k then some r else whyW h j := by
  unfold whyW putH
  rw [List.find?_cons]
  by_cases hj : j = k
  · subst hj
    simp
  · rw [if_neg hj]
    have e : ((k, r).1 == j) = false := by simpa using Ne.symm hj
    rw [e]
    show Option.map (·.2) (List.find? _ (delH h k)) = _
    congr 1
    unfold delH
    induction h with
    | nil => rfl
    | cons x h ih =>
      rw [List.filter_cons]
      by_cases hx : x.1 = k
      · rw [if_neg (by simp [hx]), List.find?_cons, ih]
        have : (x.1 == j) = false := by simpa [hx] using Ne.symm hj
        rw [this]
      · rw [if_pos (by simpa using hx), List.find?_cons, List.find?_cons, ih]
theorem findW_put (s : Ws) (p : S8) (k r : Int) (q : S8) : findW (putW s p k r) q = if q = p then some (putH (ofW s p) k r) else findW s q := by
  unfold putW
  by_cases hq : q = p
  · subst hq
    unfold findW
    rw [if_pos rfl, List.find?_cons]
    simp
  · rw [if_neg hq]
    unfold findW
    rw [List.find?_cons]
    have e : ((p, putH (ofW s p) k r).1 == q) = false := by simpa using Ne.symm hq
    rw [e]
    clear e
    show Option.map (·.2) (List.find? _ (delW s p)) = _
    congr 1
    unfold delW
    induction s with
    | nil => rfl
    | cons x s ih =>
      rw [List.filter_cons]
      by_cases hx : x.1 = p
      · rw [if_neg (by simp [hx]), List.find?_cons]
        have : (x.1 == q) = false := by simpa [hx] using Ne.symm hq
        rw [this]
        exact ih
      · rw [if_pos (by simpa using hx), List.find?_cons, List.find?_cons]
        cases (x.1 == q)
        · exact ih
        · rfl
theorem ofW_put (s : Ws) (p : S8) (k r : Int) (q : S8) : ofW (putW s p k r) q = if q = p then putH (ofW s p) k r else ofW s q := by
  unfold ofW
  rw [findW_put]
  split <;> rfl
theorem whyW_none {h : Hs} {k : Int} (hn : whyW h k = none) : ∀ x ∈ h, x.1 ≠ k := by
  unfold whyW at hn
  rw [Option.map_eq_none_iff, List.find?_eq_none] at hn
  exact fun x hx => by simpa using hn x hx
theorem delH_len {h : Hs} (hk : (h.map (·.1)).Nodup) (k : Int) : (delH h k).length + (if (whyW h k).isSome then 1 else 0) = h.length := by
  unfold delH whyW
  induction h with
  | nil => rfl
  | cons x h ih =>
    rw [List.map_cons, List.nodup_cons] at hk
    rw [List.filter_cons, List.find?_cons]
    by_cases hx : x.1 = k
    · rw [if_neg (by simp [hx])]
      have e : (x.1 == k) = true := by simpa using hx
      rw [e]
      have : h.filter (fun x => x.1 != k) = h := by
        rw [List.filter_eq_self]
        intro y hy
        simp only [bne_iff_ne, ne_eq]
        intro e
        exact hk.1 (List.mem_map.2 ⟨y, hy, by rw [e, hx]⟩)
      rw [this]
      simp
    · rw [if_pos (by simpa using hx)]
      have e : (x.1 == k) = false := by simpa using hx
      rw [e]
      have := ih hk.2
      simp only [List.length_cons]
      omega
theorem putH_len {h : Hs} (hk : (h.map (·.1)).Nodup) (k r : Int) : (putH h k r).length = h.length + (if (whyW h k).isSome then 0 else 1) := by
  have := delH_len hk k
  unfold putH
  rw [List.length_cons]
  split at this <;> rename_i hs <;> simp only [hs] <;> simp <;> omega
theorem delW_len {s : Ws} (hk : (s.map (·.1)).Nodup) (p : S8) : lenW (delW s p) + (ofW s p).length = lenW s := by
  unfold lenW delW ofW findW
  induction s with
  | nil => rfl
  | cons x s ih =>
    rw [List.map_cons, List.nodup_cons] at hk
    rw [List.filter_cons, List.find?_cons]
    by_cases hx : x.1 = p
    · rw [if_neg (by simp [hx])]
      have e : (x.1 == p) = true := by simpa using hx
      rw [e]
      have : s.filter (fun x => x.1 != p) = s := by
        rw [List.filter_eq_self]
        intro y hy
        simp only [bne_iff_ne, ne_eq]
        intro e
        exact hk.1 (List.mem_map.2 ⟨y, hy, by rw [e, hx]⟩)
      rw [this, List.map_cons, List.sum_cons]
      simp
      omega
    · rw [if_pos (by simpa using hx)]
      have e : (x.1 == p) = false := by simpa using hx
      rw [e]
      have := ih hk.2
      simp only [List.map_cons, List.sum_cons]
      omega
theorem ofW_nodup {s : Ws} (h : OkW s) (p : S8) : ((ofW s p).map (·.1)).Nodup := by
  unfold ofW
  cases hf : findW s p with
  | none => exact List.nodup_nil
  | some l => exact h.2 _ (findW_in hf)
theorem lenW_put {s : Ws} (h : OkW s) (p : S8) (k r : Int) : lenW (putW s p k r) = lenW s + (if (whyW (ofW s p) k).isSome then 0 else 1) := by
  have h1 := putH_len (ofW_nodup h p) k r
  have h2 := delW_len h.1 p
  show (putH (ofW s p) k r).length + lenW (delW s p) = _
  omega
theorem putW_fresh {s : Ws} {p : S8} (hf : findW s p = none) (k r : Int) : putW ((p, []) :: s) p k r = putW s p k r := by
  have h0 : ofW ((p, []) :: s) p = [] := by unfold ofW findW; simp
  have h1 : ofW s p = [] := by unfold ofW; rw [hf]; rfl
  unfold putW
  rw [h0, h1]
  congr 1
  unfold delW
  rw [List.filter_cons, if_neg (by simp)]
/-- What Hold answers; what it leaves. -/
def holdC (s : Ws) (p : S8) (k r : Int) : Int := if kindL p ≠ 3 then 7 else if k < 0 ∨ 63 < k ∨ r < 1 ∨ 3 < r then 1 else if whyW (ofW s p) k = none ∧ 1000 ≤ lenW s then 14 else 0
def holdW (s : Ws) (p : S8) (k r : Int) : Ws := if holdC s p k r = 0 then putW s p k r else s
/-- What Serve answers. -/
def serveC (s : Ws) (p : S8) (f t : Int) : Int := if f < 0 ∨ t < f ∨ 64 < t then 1 else if (ofW s p).any (fun x => decide (f ≤ x.1 ∧ x.1 < t)) then 13 else 0
end Go.Proofs.YtllpcllgliknpaaGreatDoor
