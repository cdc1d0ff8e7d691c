/- What lies ahead of the first "/", and behind it. -/
import Derived.Test.YtcgilacmdckbfaaDoorStr7
import Derived.Lib.Bytealg
set_option linter.unusedSimpArgs false
set_option maxRecDepth 100000
set_option linter.unusedVariables false
namespace Go.Proofs.YtcgilacmdckbfaaDoor
open Go Go.RowKit

def headS (l : S8) : S8 := l.takeWhile (fun c => c != 47)
def hasS (l : S8) : Bool := l.any (fun c => c == 47)
def tailS (l : S8) : S8 := l.drop ((headS l).length + 1)
def restS (l : S8) : S8 := if hasS l then tailS l else []
theorem head_clean (l : S8) : ∀ c ∈ headS l, c ≠ 47 := fun c hc => by
  unfold headS at hc
  have : ∀ m : S8, ∀ c ∈ m.takeWhile (fun c => c != 47), c ≠ 47 := by
    intro m
    induction m with
    | nil => intro c h; cases h
    | cons x r ih =>
      intro c h
      rw [List.takeWhile_cons] at h
      by_cases hx : (x != 47) = true
      · rw [if_pos hx] at h
        rcases List.mem_cons.1 h with e | e
        · subst e; simpa using hx
        · exact ih c e
      · rw [if_neg hx] at h; cases h
  exact this l c hc
theorem head_tail : ∀ l : S8, hasS l = true → l = headS l ++ 47 :: tailS l := by
  intro l
  induction l with
  | nil => intro h; cases h
  | cons c r ih =>
    intro h
    by_cases hc : c = 47
    · subst hc
      simp [headS, tailS]
    · have hr : hasS r = true := by unfold hasS at h ⊢; simpa [hc] using h
      have e : headS (c :: r) = c :: headS r := by unfold headS; rw [List.takeWhile_cons, if_pos (by simpa using hc)]
      have t : tailS (c :: r) = tailS r := by unfold tailS; rw [e]; simp
      rw [e, t, List.cons_append, ← ih hr]
theorem head_all (l : S8) (h : hasS l = false) : headS l = l := by
  unfold headS hasS at *
  rw [List.any_eq_false] at h
  have key : ∀ m : S8, (∀ c ∈ m, (c != 47) = true) → m.takeWhile (fun c => c != 47) = m := by
    intro m
    induction m with
    | nil => intro _; rfl
    | cons x r ih =>
      intro hm
      rw [List.takeWhile_cons, if_pos (hm x (by simp)), ih (fun c hc => hm c (by simp [hc]))]
  exact key l fun c hc => by
    have := h c hc
    simpa using this
theorem nm_cut (l : S8) : nm l = headS l :: (if hasS l then nm (restS l) else []) := by
  by_cases h : hasS l = true
  · unfold restS
    rw [if_pos h, if_pos h]
    conv => lhs; rw [head_tail l h]
    exact nm_more _ (head_clean l)
  · have h2 : hasS l = false := by simpa using h
    rw [if_neg h]
    have := head_clean l
    rw [head_all l h2] at this ⊢
    exact nm_end this
theorem rest_le (l : S8) : (restS l).length ≤ l.length := by
  unfold restS
  split
  · unfold tailS; rw [List.length_drop]; omega
  · simp
theorem rest_len (l : S8) (h : hasS l = true) : (restS l).length < l.length := by
  have := congrArg List.length (head_tail l h)
  unfold restS
  rw [if_pos h]
  rw [List.length_append, List.length_cons] at this
  omega
theorem idx47 : ∀ l : S8, Lib.indexByte l 47 = if hasS l then ((headS l).length : Int) else -1 := by
  intro l
  induction l with
  | nil => rfl
  | cons c r ih =>
    by_cases hc : c = 47
    · subst hc; simp [Lib.indexByte, hasS, headS]
    · have e : headS (c :: r) = c :: headS r := by unfold headS; rw [List.takeWhile_cons, if_pos (by simpa using hc)]
      have h : hasS (c :: r) = hasS r := by unfold hasS; simp [hc]
      have hb : (c == 47) = false := beq_eq_false_iff_ne.2 hc
      rw [e, h]
      unfold Lib.indexByte
      rw [hb, ih]
      by_cases hr : hasS r = true
      · rw [if_pos hr]
        have : (((headS r).length : Int) == -1) = false := beq_eq_false_iff_ne.2 (by omega)
        simp [this, hr]
      · have hr2 : hasS r = false := by simpa using hr
        simp [hr2]
theorem all_pre {l : S8} {pre : List S8} (h : pre <+: nm l) (hb : pre.all okN = false) : allN l = false := by
  obtain ⟨t, e⟩ := h
  unfold allN
  rw [← e, List.all_append, hb, Bool.false_and]
end Go.Proofs.YtcgilacmdckbfaaDoor
