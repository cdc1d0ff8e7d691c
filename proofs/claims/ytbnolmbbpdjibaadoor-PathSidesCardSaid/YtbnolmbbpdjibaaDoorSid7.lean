/- A name with something ahead of it: where the last "/" is, of which kind the path is. -/
import Derived.Test.YtbnolmbbpdjibaaDoorLaw7M
set_option linter.unusedSimpArgs false
set_option linter.unusedVariables false
namespace Go.Proofs.YtbnolmbbpdjibaaDoor
open Go Go.RowKit

theorem chr_appL {a b : S8} {j : Nat} (h : j < a.length) : chr (a ++ b) j = chr a j := by
  rw [chr_eq h, chr_eq (by rw [List.length_append]; omega), List.getElem_append_left h]
theorem chr_appR {a b : S8} {j : Nat} (h : j < b.length) : chr (a ++ b) (a.length + j) = chr b j := by
  rw [chr_eq h, chr_eq (by rw [List.length_append]; omega), List.getElem_append_right (by omega)]
  congr 2
  omega
theorem chr_take {l : S8} {k j : Nat} (h : j < k) (hl : j < l.length) : chr (l.take k) j = chr l j := by
  rw [chr_eq hl, chr_eq (by rw [List.length_take]; omega), List.getElem_take]
theorem chr_drop {l : S8} {k j : Nat} (hl : k + j < l.length) : chr (l.drop k) j = chr l (k + j) := by
  rw [chr_eq hl, chr_eq (by rw [List.length_drop]; omega), List.getElem_drop]
theorem kTo_spec (l : S8) : ∀ i, (kTo l i = 0 ∨ chr l (kTo l i - 1) = 47) ∧ ∀ j, kTo l i ≤ j → j < i → chr l j ≠ 47 := by
  intro i
  induction i with
  | zero => exact ⟨.inl rfl, fun j _ h => absurd h (by omega)⟩
  | succ i ih =>
    by_cases h : chr l i = 47
    · have e : kTo l (i + 1) = i + 1 := by rw [kTo, if_pos h]
      rw [e]
      exact ⟨.inr (by rw [Nat.add_sub_cancel]; exact h), fun j h1 h2 => by omega⟩
    · have e : kTo l (i + 1) = kTo l i := by rw [kTo, if_neg h]
      rw [e]
      exact ⟨ih.1, fun j h1 h2 => by
        rcases Nat.lt_succ_iff_lt_or_eq.1 h2 with h3 | h3
        · exact ih.2 j h1 h3
        · rw [h3]; exact h⟩
theorem kTo_uniq (l : S8) (k : Nat) : ∀ i, k ≤ i → (k = 0 ∨ chr l (k - 1) = 47) → (∀ j, k ≤ j → j < i → chr l j ≠ 47) → kTo l i = k := by
  intro i
  induction i with
  | zero => intro h _ _; show 0 = k; omega
  | succ i ih =>
    intro hk h1 h2
    by_cases he : k = i + 1
    · subst he
      have : chr l i = 47 := by
        rcases h1 with h | h
        · omega
        · rwa [Nat.add_sub_cancel] at h
      rw [kTo, if_pos this]
    · rw [kTo, if_neg (h2 i (by omega) (by omega))]
      exact ih (by omega) h1 (fun j a b => h2 j a (by omega))
section
variable {l ahead : S8} (ha : ∀ c ∈ ahead, c ≠ 47)
theorem putL_len (l ahead : S8) : (putL l ahead).length = l.length + ahead.length := by
  have := kL_le l
  unfold putL
  simp only [List.length_append, List.length_take, List.length_drop]
  omega
include ha
theorem kL_put : kL (putL l ahead) = kL l := by
  have hk := kL_le l
  have hs := kTo_spec l l.length
  have hlt : (l.take (kL l)).length = kL l := by rw [List.length_take]; omega
  unfold kL at hs hk hlt ⊢
  refine kTo_uniq _ _ _ (by have := putL_len l ahead; omega) ?_ ?_
  · rcases hs.1 with h | h
    · exact .inl h
    · by_cases h0 : kTo l l.length = 0
      · exact .inl h0
      · right
        unfold putL kL
        rw [List.append_assoc, chr_appL (by rw [hlt]; omega), chr_take (by omega) (by omega)]
        exact h
  · intro j h1 h2
    have e : putL l ahead = l.take (kTo l l.length) ++ (ahead ++ l.drop (kTo l l.length)) := by unfold putL kL; rw [List.append_assoc]
    rw [putL_len] at h2
    rw [e]
    obtain ⟨d, rfl⟩ : ∃ d, j = kTo l l.length + d := ⟨j - kTo l l.length, by omega⟩
    have h3 : chr (l.take (kTo l l.length) ++ (ahead ++ l.drop (kTo l l.length))) (kTo l l.length + d) = chr (ahead ++ l.drop (kTo l l.length)) d := by
      have := chr_appR (a := l.take (kTo l l.length)) (b := ahead ++ l.drop (kTo l l.length)) (j := d) (by rw [List.length_append, List.length_drop]; omega)
      rw [hlt] at this
      exact this
    rw [h3]
    by_cases hd : d < ahead.length
    · rw [chr_appL hd, chr_eq hd]
      intro e
      exact ha ahead[d] (List.getElem_mem hd) (UInt8.toNat_inj.1 (by rw [e]; rfl))
    · obtain ⟨r, rfl⟩ : ∃ r, d = ahead.length + r := ⟨d - ahead.length, by omega⟩
      rw [chr_appR (by rw [List.length_drop]; omega), chr_drop (by omega)]
      exact hs.2 _ (by omega) (by omega)
theorem base_put : baseL (putL l ahead) = ahead ++ baseL l := by
  have hk := kL_le l
  unfold baseL
  rw [kL_put ha]
  unfold putL
  rw [List.append_assoc]
  exact List.drop_left' (by rw [List.length_take]; omega)
theorem dir_put : dirL (putL l ahead) = dirL l := by
  have hk := kL_le l
  unfold dirL
  rw [kL_put ha]
  unfold putL
  rw [List.append_assoc, List.take_append_of_le_length (by rw [List.length_take]; omega), List.take_take, show min (kL l - 1) (kL l) = kL l - 1 by omega]
end
theorem starts_app (a b : S8) : startsL (a ++ b) a = true := by
  unfold startsL
  rw [decide_eq_true (by rw [List.length_append]; omega), List.take_left]
  simp
theorem tmp_par (b : S8) : startsL (parS ++ b) tmpS = false := by
  unfold startsL
  have : (parS ++ b).take tmpS.length = parS := by show (parS ++ b).take parS.length = parS; rw [List.take_left]
  rw [this]
  have h2 : (parS == tmpS) = false := by decide
  rw [h2, Bool.and_false]
theorem tmp_clean : ∀ c ∈ tmpS, c ≠ 47 := by decide
theorem par_clean : ∀ c ∈ parS, c ≠ 47 := by decide
theorem with_ok {l ahead t : S8} (h : withL l ahead = (t, 0)) : t = putL l ahead ∧ goodL t = true := by
  unfold withL at h
  by_cases hg : (goodL l && goodL (putL l ahead)) = true
  · rw [if_pos hg] at h
    injection h with h1 _
    rw [Bool.and_eq_true] at hg
    exact ⟨h1.symm, by rw [← h1]; exact hg.2⟩
  · rw [if_neg hg] at h
    injection h with _ h2
    cases h2
theorem with_tmp {l t : S8} (h : withL l tmpS = (t, 0)) : kindL t = 1 ∧ dirL t = dirL l ∧ t ≠ l := by
  obtain ⟨rfl, hg⟩ := with_ok h
  refine ⟨?_, dir_put tmp_clean, fun e => ?_⟩
  · unfold kindL; rw [if_pos hg, base_put tmp_clean, if_pos (starts_app _ _)]
  · have := congrArg List.length e
    rw [putL_len] at this
    have h5 : tmpS.length = 5 := rfl
    omega
theorem with_par {l t : S8} (h : withL l parS = (t, 0)) : kindL t = 2 ∧ dirL t = dirL l ∧ t ≠ l := by
  obtain ⟨rfl, hg⟩ := with_ok h
  refine ⟨?_, dir_put par_clean, fun e => ?_⟩
  · unfold kindL; rw [if_pos hg, base_put par_clean, if_neg (by rw [tmp_par]; simp), if_pos (starts_app _ _)]
  · have := congrArg List.length e
    rw [putL_len] at this
    have h5 : parS.length = 5 := rfl
    omega
theorem with_two {l t v : S8} (h : withL l tmpS = (t, 0)) (k : withL l parS = (v, 0)) : t ≠ v := fun e => by
  have h1 := (with_tmp h).1
  have h2 := (with_par k).1
  rw [e, h2] at h1
  cases h1
theorem with_bad {l : S8} (ahead : S8) (h : goodL l = false) : withL l ahead = ([], 7) := by unfold withL; rw [h]; rfl
theorem with_code (l ahead : S8) : (withL l ahead).2 = 0 ∨ (withL l ahead).2 = 7 := by
  unfold withL
  split
  · exact .inl rfl
  · exact .inr rfl
theorem kind_zero {l : S8} : kindL l = 0 ↔ goodL l = false := by
  unfold kindL
  by_cases h : goodL l = true
  · rw [if_pos h, h]
    constructor
    · intro e; split at e
      · cases e
      · split at e <;> cases e
    · intro e; cases e
  · rw [if_neg h]
    exact ⟨fun _ => by simpa using h, fun _ => rfl⟩
/-- A good path and a home make a copy. -/
theorem copy_ok {l : S8} {size : Int} {sum h : S8} (hg : goodL l = true) (hh : homeL size sum = (h, 0)) : ∃ c, copyL l size sum = (c, 0) ∧ goodL c = true ∧ (c = h ∨ c = cat (cat l [46]) h) := by
  have hgh := home_good size sum (by rw [hh])
  rw [hh] at hgh
  unfold copyL
  rw [if_pos hg, hh, if_pos rfl]
  by_cases h2 : goodL (l ++ [46] ++ h) = true
  · rw [if_pos h2]; exact ⟨_, rfl, h2, .inr (by rw [cat_eq, cat_eq])⟩
  · rw [if_neg h2]; exact ⟨_, rfl, hgh, .inl rfl⟩
end Go.Proofs.YtbnolmbbpdjibaaDoor
