/- What was taken as a vector has just the bytes that were taken. -/
import Derived.Test.YtjpennbmphhipaaRtk9
import Derived.Test.YtjpennbmphhipaaEnc9
set_option linter.unusedSimpArgs false
set_option linter.unusedVariables false
namespace Go.Proofs.Ytjpennbmphhipaa
open Go Go.RowKit

theorem rngI_inv {l : List (BitVec 8)} {lo hi : Int} {n k : Nat} (h : rngI l lo hi = (n, k, 0)) : k ≤ l.length ∧ l.take k = enc7 n ∧ lo ≤ (n : Int) ∧ (n : Int) ≤ hi := by
  cases e : num7 l with
  | none => rw [rngI_none lo hi e] at h; injection h with _ h; injection h with _ h; cases h
  | some x =>
    obtain ⟨a, b⟩ := x
    by_cases g : (a : Int) < lo ∨ hi < (a : Int)
    · rw [rngI_out e g] at h; injection h with _ h; injection h with _ h; cases h
    · rw [rngI_in e g] at h
      injection h with h1 h
      injection h with h2 h
      subst h1 h2
      have := num7_inv e
      exact ⟨this.2.1, this.2.2.1, by omega, by omega⟩
theorem stepsV_enc : ∀ (c least : Nat) (l : List (BitVec 8)) (f : Nat → Int) (g : Nat → Int) (rest : List (BitVec 8)), least ≤ 16 → (∀ j, least ≤ j → f j = 0) → (∀ j, j < 16 → 0 ≤ f j ∧ f j ≤ 1099511627776) → stepsV c least l f = some (g, rest) →
    ∃ mid, l = mid ++ rest ∧ bodyV g 16 = bodyV f least ++ mid ∧ cntV g 16 = cntV f least + c ∧ ∀ j, j < 16 → 0 ≤ g j ∧ g j ≤ 1099511627776
  | 0, least, l, f, g, rest, hl, hz, hg, h => by
    injection h with h
    injection h with h1 h2
    subst h1 h2
    have := bodyV_rest least hz (16 - least)
    rw [show least + (16 - least) = 16 by omega] at this
    exact ⟨[], rfl, by rw [this.1, List.append_nil], by rw [this.2]; rfl, hg⟩
  | c + 1, least, l, f, g, rest, hl, hz, hg, h => by
    by_cases h1 : (rngI l least 15).2.2 = 0
    · obtain ⟨x, hx⟩ : ∃ x, rngI l least 15 = x := ⟨_, rfl⟩
      obtain ⟨r, k, cd⟩ := x
      rw [hx] at h1
      have h1' : cd = 0 := h1
      subst h1'
      by_cases h2 : (rngI (l.drop k) 1 1099511627776).2.2 = 0
      · obtain ⟨y, hy⟩ : ∃ y, rngI (l.drop k) 1 1099511627776 = y := ⟨_, rfl⟩
        obtain ⟨n, k2, c2⟩ := y
        rw [hy] at h2
        have h2' : c2 = 0 := h2
        subst h2'
        rw [stepsV_one hx hy] at h
        have i1 := rngI_inv hx
        have i2 := rngI_inv hy
        have hr : least ≤ r ∧ r ≤ 15 := by omega
        have hn : 1 ≤ n ∧ n ≤ 1099511627776 := by omega
        obtain ⟨mid, e1, e2, e3, e4⟩ := stepsV_enc c (r + 1) _ (fun i => if i = r then (n : Int) else f i) g rest (by omega) (fun j hj => by
          show (if j = r then (n : Int) else f j) = 0
          rw [if_neg (by omega)]; exact hz j (by omega)) (fun j hj => by
          show 0 ≤ (if j = r then (n : Int) else f j) ∧ (if j = r then (n : Int) else f j) ≤ 1099511627776
          split
          · omega
          · exact hg j hj) h
        have hb : bodyV (fun i => if i = r then (n : Int) else f i) (r + 1) = bodyV f least ++ enc7 r ++ enc7 n ∧ cntV (fun i => if i = r then (n : Int) else f i) (r + 1) = cntV f least + 1 := by
          have q : (fun i => if i = r then (n : Int) else f i) r = (n : Int) := if_pos rfl
          have q0 : (fun i => if i = r then (n : Int) else f i) r ≠ 0 := by rw [q]; omega
          have hrest := bodyV_rest least hz (r - least)
          rw [show least + (r - least) = r by omega] at hrest
          rw [bodyV_one q0, cntV_one q0, if_pos rfl, bodyV_congr (g := f) r (fun j hj => if_neg (by omega)), cntV_congr (g := f) r (fun j hj => if_neg (by omega)), hrest.1, hrest.2]
          exact ⟨by rw [Int.toNat_natCast], rfl⟩
        refine ⟨enc7 r ++ enc7 n ++ mid, ?_, ?_, ?_, e4⟩
        · rw [← i1.2.1, ← i2.2.1, List.append_assoc, List.append_assoc, ← e1, List.take_append_drop, List.take_append_drop]
        · rw [e2, hb.1]; simp only [List.append_assoc]
        · rw [e3, hb.2]; omega
      · rw [stepsV_no2 hx h2] at h; cases h
    · rw [stepsV_no1 h1] at h; cases h
theorem takeR_enc {l : List (BitVec 8)} {g : Nat → Int} {rest : List (BitVec 8)} (h : takeR l = some (g, rest)) : l = encV g ++ rest ∧ ∀ j, j < 16 → 0 ≤ g j ∧ g j ≤ 1099511627776 := by
  unfold takeR at h
  cases e : num7 l with
  | none => rw [e] at h; cases h
  | some x =>
    obtain ⟨c, k⟩ := x
    rw [e] at h
    obtain ⟨mid, e1, e2, e3, e4⟩ := stepsV_enc c 0 _ _ g rest (by omega) (fun _ _ => rfl) (fun _ _ => ⟨by decide, by decide⟩) h
    have hi := num7_inv e
    refine ⟨?_, e4⟩
    unfold encV
    rw [e2, e3, List.append_assoc]
    show l = enc7 (cntV (fun _ => 0) 0 + c) ++ (([] ++ mid) ++ rest)
    rw [show cntV (fun _ => 0) 0 + c = c from Nat.zero_add _, List.nil_append, ← e1, ← hi.2.2.1, List.take_append_drop]
/-- What is written of a good vector is read as it. -/
theorem stepsV_back {f : Nat → Int} (hf : ∀ j, j < 16 → 0 ≤ f j ∧ f j ≤ 1099511627776) (rest : List (BitVec 8)) : ∀ (d i : Nat) (c : Nat) (l : List (BitVec 8)) (least : Nat), i + d = 16 → least ≤ i → (∀ j, least ≤ j → j < i → f j = 0) → cntV f 16 = cntV f i + c → bodyV f 16 ++ rest = bodyV f i ++ l →
    ∃ g, stepsV c least l (fun j => if j < least then f j else 0) = some (g, rest) ∧ ∀ j, j < 16 → g j = f j
  | 0, i, c, l, least, hi, hl, hz, hc, hb => by
    obtain rfl : i = 16 := by omega
    obtain rfl : c = 0 := by omega
    have hb' := List.append_cancel_left hb
    subst hb'
    exact ⟨_, rfl, fun j hj => by
      show (if j < least then f j else 0) = f j
      by_cases h : j < least
      · rw [if_pos h]
      · rw [if_neg h, hz j (by omega) hj]⟩
  | d + 1, i, c, l, least, hi, hl, hz, hc, hb => by
    by_cases h0 : f i = 0
    · exact stepsV_back hf rest d (i + 1) c l least (by omega) (by omega) (fun j h1 h2 => by
        by_cases e : j = i
        · rw [e]; exact h0
        · exact hz j h1 (by omega)) (by rw [cntV_zero h0]; exact hc) (by rw [bodyV_zero h0]; exact hb)
    · have hfi := hf i (by omega)
      -- the bytes from here on
      have hpre : ∀ e, ∃ t, bodyV f (i + 1 + e) = bodyV f (i + 1) ++ t ∧ cntV f (i + 1) ≤ cntV f (i + 1 + e) := by
        intro e
        induction e with
        | zero => exact ⟨[], (List.append_nil _).symm, Nat.le_refl _⟩
        | succ e ih =>
          obtain ⟨t, ht, htc⟩ := ih
          by_cases g0 : f (i + 1 + e) = 0
          · exact ⟨t, by rw [show i + 1 + (e + 1) = (i + 1 + e) + 1 by omega, bodyV_zero g0, ht], by rw [show i + 1 + (e + 1) = (i + 1 + e) + 1 by omega, cntV_zero g0]; exact htc⟩
          · exact ⟨t ++ enc7 (i + 1 + e) ++ enc7 (f (i + 1 + e)).toNat, by rw [show i + 1 + (e + 1) = (i + 1 + e) + 1 by omega, bodyV_one g0, ht]; simp only [List.append_assoc], by rw [show i + 1 + (e + 1) = (i + 1 + e) + 1 by omega, cntV_one g0]; omega⟩
      obtain ⟨t, ht, htc⟩ := hpre (15 - i)
      rw [show i + 1 + (15 - i) = 16 by omega] at ht htc
      rw [cntV_one h0] at htc
      obtain ⟨c', rfl⟩ : ∃ c', c = c' + 1 := ⟨c - 1, by omega⟩
      have hl' : l = enc7 i ++ (enc7 (f i).toNat ++ (t ++ rest)) := by
        rw [ht, bodyV_one h0] at hb
        simp only [List.append_assoc] at hb
        exact (List.append_cancel_left hb).symm
      have r1 : rngI l least 15 = (i, (enc7 i).length, 0) := by
        rw [hl']
        exact rngI_in (num7_enc i _ (by omega)) (by omega)
      have r2 : rngI (l.drop (enc7 i).length) 1 1099511627776 = ((f i).toNat, (enc7 (f i).toNat).length, 0) := by
        rw [hl', List.drop_left]
        exact rngI_in (num7_enc (f i).toNat _ (by omega)) (by omega)
      rw [stepsV_one r1 r2]
      have hd : (l.drop (enc7 i).length).drop (enc7 (f i).toNat).length = t ++ rest := by rw [hl', List.drop_left, List.drop_left]
      rw [hd]
      have hfun : (fun j => if j = i then (((f i).toNat : Nat) : Int) else if j < least then f j else 0) = fun j => if j < i + 1 then f j else 0 := by
        funext j
        by_cases e : j = i
        · rw [if_pos e, if_pos (by omega), e]; omega
        · rw [if_neg e]
          by_cases e2 : j < least
          · rw [if_pos e2, if_pos (by omega)]
          · rw [if_neg e2]
            by_cases e3 : j < i + 1
            · rw [if_pos e3, hz j (by omega) (by omega)]
            · rw [if_neg e3]
      rw [hfun]
      exact stepsV_back hf rest d (i + 1) c' (t ++ rest) (i + 1) (by omega) (Nat.le_refl _) (fun j h1 h2 => by omega) (by rw [cntV_one h0]; omega) (by rw [ht, List.append_assoc])
theorem takeV_back {f : Nat → Int} (hf : ∀ j, j < 16 → 0 ≤ f j ∧ f j ≤ 1099511627776) (rest : List (BitVec 8)) : ∃ g, takeV (encV f ++ rest) = some (g, rest) ∧ ∀ j, j < 16 → g j = f j := by
  have hc := cntV_le f 16
  have h1 : rngI (encV f ++ rest) 0 16 = (cntV f 16, (enc7 (cntV f 16)).length, 0) := by
    unfold encV
    rw [List.append_assoc]
    exact rngI_in (num7_enc _ _ (by omega)) (by omega)
  have h2 : (encV f ++ rest).drop (enc7 (cntV f 16)).length = bodyV f 16 ++ rest := by unfold encV; rw [List.append_assoc, List.drop_left]
  obtain ⟨g, hg, hgf⟩ := stepsV_back hf rest 16 0 (cntV f 16) (bodyV f 16 ++ rest) 0 rfl (Nat.le_refl _) (fun j h1 h2 => by omega) (by show cntV f 16 = 0 + _; omega) rfl
  refine ⟨g, ?_, hgf⟩
  unfold takeV
  simp only [h1, h2, if_true]
  rw [show (fun _ : Nat => (0 : Int)) = fun j => if j < 0 then f j else 0 from funext fun j => (if_neg (by omega)).symm]
  exact hg
end Go.Proofs.Ytjpennbmphhipaa
