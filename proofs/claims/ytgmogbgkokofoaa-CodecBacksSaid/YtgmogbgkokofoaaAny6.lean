/- Items read one behind the other, of any bytes; plain functions. -/
import Derived.Test.YtgmogbgkokofoaaNextN6
set_option linter.unusedSimpArgs false
set_option linter.unusedVariables false
namespace Go.Proofs.Ytgmogbgkokofoaa
open Go Go.RowKit

/-- The items of the kinds ks at the beginning of l, what is left, the error. -/
def anyL (most : Int) : List (BitVec 8) → List Nat → List It × List (BitVec 8) × Nat
  | l, [] => ([], l, 0)
  | l, k :: ks => if (nextI l k most).2.2 ≠ 0 then ([], l, (nextI l k most).2.2)
    else ((nextI l k most).1 :: (anyL most (l.drop (nextI l k most).2.1) ks).1, (anyL most (l.drop (nextI l k most).2.1) ks).2)
theorem anyL_len (most : Int) (ks : List Nat) : ∀ l, (anyL most l ks).1.length ≤ ks.length := by
  induction ks with
  | nil => intro l; exact Nat.le_refl _
  | cons k ks ih =>
    intro l
    unfold anyL
    split
    · exact Nat.zero_le _
    · simp only [List.length_cons]
      exact Nat.succ_le_succ (ih _)
theorem nextI_blen (l : List (BitVec 8)) (k : Nat) (most : Int) : (nextI l k most).1.b.length ≤ l.length := by
  unfold nextI
  split
  · split <;> exact Nat.zero_le _
  · split
    · split
      · exact Nat.zero_le _
      · show (l.take 32).length ≤ _
        rw [List.length_take]; omega
    · split
      · exact Nat.zero_le _
      · split
        · exact Nat.zero_le _
        · split
          · exact Nat.zero_le _
          · show ((l.drop _).take _).length ≤ _
            rw [List.length_take, List.length_drop]
            omega
/-- What is known behind i items: W; l is left. -/
structure AnySt (most : Int) (b : List (BitVec 8)) (ks : List Nat) (i : Nat) (W : List It) (l : List (BitVec 8)) : Prop where
  len : W.length = i
  short : l.length ≤ b.length
  eq : anyL most b ks = (W ++ (anyL most l (ks.drop i)).1, (anyL most l (ks.drop i)).2)
section
variable {most : Int} {b l : List (BitVec 8)} {ks : List Nat} {i : Nat} {W : List It}
theorem AnySt.zero (most : Int) (b : List (BitVec 8)) (ks : List Nat) : AnySt most b ks 0 [] b := ⟨rfl, Nat.le_refl _, rfl⟩
theorem AnySt.one (h : AnySt most b ks i W l) (hi : i < ks.length) : anyL most l (ks.drop i) = if (nextI l (ks.getD i 0) most).2.2 ≠ 0 then ([], l, (nextI l (ks.getD i 0) most).2.2)
    else ((nextI l (ks.getD i 0) most).1 :: (anyL most (l.drop (nextI l (ks.getD i 0) most).2.1) (ks.drop (i + 1))).1, (anyL most (l.drop (nextI l (ks.getD i 0) most).2.1) (ks.drop (i + 1))).2) := by
  have e : ks.drop i = ks.getD i 0 :: ks.drop (i + 1) := by
    rw [List.drop_eq_getElem_cons hi, List.getD_eq_getElem?_getD, List.getElem?_eq_getElem hi]
    rfl
  rw [e, anyL]
theorem AnySt.next (h : AnySt most b ks i W l) (hi : i < ks.length) (hc : (nextI l (ks.getD i 0) most).2.2 = 0) : AnySt most b ks (i + 1) (W ++ [(nextI l (ks.getD i 0) most).1]) (l.drop (nextI l (ks.getD i 0) most).2.1) := by
  refine ⟨by rw [List.length_append, h.len]; rfl, Nat.le_trans (by rw [List.length_drop]; omega) h.short, ?_⟩
  rw [h.eq, h.one hi, if_neg (by rw [hc]; exact fun h => h rfl), List.append_assoc]
  rfl
theorem AnySt.bad (h : AnySt most b ks i W l) (hi : i < ks.length) (hc : (nextI l (ks.getD i 0) most).2.2 ≠ 0) : anyL most b ks = (W, l, (nextI l (ks.getD i 0) most).2.2) := by
  rw [h.eq, h.one hi, if_pos hc, List.append_nil]
theorem AnySt.done (h : AnySt most b ks i W l) (hi : ks.length ≤ i) : anyL most b ks = (W, l, 0) := by
  rw [h.eq, List.drop_of_length_le hi, anyL, List.append_nil]
/-- The item that comes next is the one that was found. -/
theorem AnySt.item (h : AnySt most b ks i W l) (hi : i < ks.length) (hc : (nextI l (ks.getD i 0) most).2.2 = 0) : i < (anyL most b ks).1.length ∧ (anyL most b ks).1.getD i ⟨0, 0, []⟩ = (nextI l (ks.getD i 0) most).1 := by
  have hn := h.next hi hc
  rw [hn.eq]
  dsimp only
  rw [List.append_assoc]
  constructor
  · rw [List.length_append, List.length_append, h.len]; simp; omega
  · rw [List.getD_eq_getElem?_getD, List.getElem?_append_right (by rw [h.len]; exact Nat.le_refl _), h.len, Nat.sub_self]
    rfl
end
/-- The code with which the whole reading ends. -/
def finC (x : List It × List (BitVec 8) × Nat) : Nat := if x.2.2 = 0 then (if x.2.1 = [] then 0 else 6) else x.2.2
end Go.Proofs.Ytgmogbgkokofoaa
