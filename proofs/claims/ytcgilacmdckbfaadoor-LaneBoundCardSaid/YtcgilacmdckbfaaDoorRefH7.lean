/- The reference's Good. -/
import Derived.Test.YtcgilacmdckbfaaDoorRef7
set_option linter.unusedSimpArgs false
set_option maxRecDepth 100000
set_option linter.unusedVariables false
namespace Go.Proofs.YtcgilacmdckbfaaDoor
open Go Go.RowKit

/-- What is known of a path when the bytes from place f to place i have been looked at, and all names ahead of f. -/
structure Gd7 (l : S8) (i f : Nat) : Prop where
  fi : f ≤ i
  il : i ≤ l.length
  all : allN l = allN (l.drop f)
  seg : ∀ j, f ≤ j → j < i → chr l j ≠ 47 ∧ signN (chr l j) = true
theorem Gd7.zero (l : S8) : Gd7 l 0 0 := ⟨Nat.le_refl _, Nat.zero_le _, by rw [List.drop_zero], fun j _ h => absurd h (by omega)⟩
section
variable {l : S8} {i f : Nat}
theorem mem_seg {x : UInt8} (hx : x ∈ (l.drop f).take (i - f)) (hi : i ≤ l.length) : ∃ j, f ≤ j ∧ j < i ∧ chr l j = x.toNat := by
  obtain ⟨k, hk, rfl⟩ := List.getElem_of_mem hx
  rw [List.length_take, List.length_drop] at hk
  refine ⟨f + k, by omega, by omega, ?_⟩
  rw [chr_eq (by omega)]
  simp [List.getElem_take, List.getElem_drop]
theorem Gd7.noSlash (h : Gd7 l i f) : ∀ c ∈ (l.drop f).take (i - f), c ≠ 47 := fun c hc e => by
  obtain ⟨j, h1, h2, h3⟩ := mem_seg hc h.il
  exact (h.seg j h1 h2).1 (by rw [h3, e]; rfl)
theorem Gd7.signs (h : Gd7 l i f) : ((l.drop f).take (i - f)).all signB = true := by
  rw [List.all_eq_true]
  intro c hc
  obtain ⟨j, h1, h2, h3⟩ := mem_seg hc h.il
  rw [signB_eq, ← h3]
  exact (h.seg j h1 h2).2
/-- A name of signs is told by its looks. -/
theorem okN_signs {n : S8} (h : n.all signB = true) : okN n = (n != [] && n != [46] && n != [46, 46]) := by unfold okN; rw [h, Bool.and_true]
theorem Gd7.step (h : Gd7 l i f) (hi : i < l.length) (h47 : chr l i ≠ 47) (hs : signN (chr l i) = true) : Gd7 l (i + 1) f :=
  ⟨Nat.le_succ_of_le h.fi, hi, h.all, fun j h1 h2 => by
    rcases Nat.lt_succ_iff_lt_or_eq.1 h2 with h3 | h3
    · exact h.seg j h1 h3
    · rw [h3]; exact ⟨h47, hs⟩⟩
theorem take_snoc (hi : i < l.length) (hf : f ≤ i) : (l.drop f).take (i + 1 - f) = (l.drop f).take (i - f) ++ [l[i]] := by
  rw [show i + 1 - f = (i - f) + 1 by omega, List.take_add_one]
  congr 1
  rw [List.getElem?_drop, show f + (i - f) = i by omega, List.getElem?_eq_getElem hi]
  rfl
theorem Gd7.bad (h : Gd7 l i f) (hi : i < l.length) (h47 : chr l i ≠ 47) (hs : signN (chr l i) = false) : allN l = false := by
  rw [h.all, ← List.take_append_drop (i + 1 - f) (l.drop f)]
  rw [take_snoc hi h.fi]
  refine allN_odd _ (fun c hc => ?_) l[i] (by simp) (by rw [signB_eq, ← chr_eq hi]; exact hs)
  rw [List.mem_append] at hc
  rcases hc with hc | hc
  · exact h.noSlash c hc
  · rw [List.mem_singleton] at hc
    subst hc
    intro e
    exact h47 (by rw [chr_eq hi, e]; rfl)
theorem Gd7.last (h : Gd7 l i f) (hi : i = l.length) : allN l = okN ((l.drop f).take (i - f)) := by
  have e : (l.drop f).take (i - f) = l.drop f := List.take_of_length_le (by rw [List.length_drop]; omega)
  have hn := h.noSlash
  rw [e] at hn ⊢
  rw [h.all, allN_end hn]
theorem Gd7.slash (h : Gd7 l i f) (hi : i < l.length) (h47 : chr l i = 47) : allN l = (okN ((l.drop f).take (i - f)) && allN (l.drop (i + 1))) := by
  have e : l.drop f = (l.drop f).take (i - f) ++ 47 :: l.drop (i + 1) := by
    have h1 := List.take_append_drop (i - f) (l.drop f)
    rw [List.drop_drop, show f + (i - f) = i by have := h.fi; omega, List.drop_eq_getElem_cons hi] at h1
    have h2 : l[i] = 47 := by
      rw [chr_eq hi] at h47
      exact UInt8.toNat_inj.1 h47
    rw [h2] at h1
    exact h1.symm
  rw [h.all, e, allN_more _ h.noSlash]
  rw [← e]
theorem Gd7.more (h : Gd7 l i f) (hi : i < l.length) (h47 : chr l i = 47) (ho : okN ((l.drop f).take (i - f)) = true) : Gd7 l (i + 1) (i + 1) :=
  ⟨Nat.le_refl _, hi, by rw [h.slash hi h47, ho, Bool.true_and], fun j h1 h2 => absurd h1 (by omega)⟩
end
set_option maxRecDepth 100000 in
set_option maxHeartbeats 2000000 in
theorem refGood_any (l : S8) (hl : l.length < 1000000) (w : World) : Calls Tryd.prog 37 #[.string (mkS l)] w fun e w' => e = .returned (.bool (goodL l)) ∧ w = w' := by
  by_cases h100 : 100 < l.length
  · have h1 : (100 : Int) < (l.length : Int) := by omega
    have h2 : decide ((100 : Int) < (l.length : Int)) = true := decide_eq_true h1
    have HS := Lib.hid (show goodL l = false from by unfold goodL; rw [decide_eq_false (by omega)]; rfl)
    go_enter Tryd.func37, Tryd.ntmps37
    go_wp2
    go_ret
    exact ⟨by rw [HS.out]; rfl, rfl⟩
  · have h1 : ¬ (100 : Int) < (l.length : Int) := by omega
    have h2 : decide ((100 : Int) < (l.length : Int)) = false := decide_eq_false h1
    have HG := Lib.hid (show goodL l = allN l from by unfold goodL; rw [decide_eq_true (by omega), Bool.true_and])
    have H100 := Lib.hid h100
    clear h100
    go_enter Tryd.func37, Tryd.ntmps37
    go_wp2
    go_loopw [3, 4, 5] (fun vf vi vo wr => ∃ i f : Nat, vi = .int .i64 i ∧ vf = .int .i64 f ∧ (Gd7 l i f ∨ (i = l.length + 1 ∧ allN l = true)) ∧ w = wr) (fun vf vi vo _ => l.length + 2 - (intOf vi).toNat)
    case atStart => exact ⟨0, 0, rfl, rfl, .inl (Gd7.zero l), rfl⟩
    case round =>
      obtain ⟨i, f, rfl, rfl, hD, rfl⟩ := hrel
      rcases hD with hD | ⟨hi, hT⟩
      · have hle : (i : Int) ≤ (l.length : Int) := by have := hD.il; omega
        have hld : decide ((i : Int) ≤ (l.length : Int)) = true := decide_eq_true hle
        have hw := i64s i (by omega)
        have hfi : (f : Int) ≤ (i : Int) := by have := hD.fi; omega
        have hfn := hD.fi
        have hin := hD.il
        have HD := Lib.hid hD
        obtain ⟨O, hO⟩ : ∃ O, (l.drop f).take (i - f) = O := ⟨_, rfl⟩
        have HSG := Lib.hid (okN_signs hD.signs)
        have hsl := fun w => sl_S l f i w hfn hin
        rw [hO] at HSG hsl
        clear hD
        by_cases hlt : i < l.length
        · have z1 : (i : Int) < (l.length : Int) := by omega
          have z2 : decide ((i : Int) < (l.length : Int)) = true := decide_eq_true z1
          obtain ⟨c, hc⟩ : ∃ c, chr l i = c := ⟨_, rfl⟩
          have hcl : c < 256 := by rw [← hc]; exact chr_lt l i
          by_cases h47 : c = 47
          · subst h47
            have HSL := Lib.hid (HD.out.slash hlt hc)
            have HMO := Lib.hid (HD.out.more hlt hc)
            rw [hO] at HSL HMO
            rcases (show O = [] ∨ O = [46] ∨ O = [46, 46] ∨ (O ≠ [] ∧ O ≠ [46] ∧ O ≠ [46, 46]) from by
              by_cases a : O = []
              · exact .inl a
              · by_cases b : O = [46]
                · exact .inr (.inl b)
                · by_cases d : O = [46, 46]
                  · exact .inr (.inr (.inl d))
                  · exact .inr (.inr (.inr ⟨a, b, d⟩))) with h | h | h | ⟨a, b, d⟩
            · subst h
              have HFA := Lib.hid (show allN l = false from by rw [HSL.out]; rfl)
              clear hO
              go_wp2
              go_ret
              exact ⟨by rw [HG.out, HFA.out]; rfl, rfl⟩
            · subst h
              have HFA := Lib.hid (show allN l = false from by rw [HSL.out]; rfl)
              clear hO
              go_wp2
              go_ret
              exact ⟨by rw [HG.out, HFA.out]; rfl, rfl⟩
            · subst h
              have HFA := Lib.hid (show allN l = false from by rw [HSL.out]; rfl)
              clear hO
              go_wp2
              go_ret
              exact ⟨by rw [HG.out, HFA.out]; rfl, rfl⟩
            · have a1 : (O == []) = false := beq_eq_false_iff_ne.2 a
              have b1 : (O == [46]) = false := beq_eq_false_iff_ne.2 b
              have d1 : (O == [46, 46]) = false := beq_eq_false_iff_ne.2 d
              have a2 : O.isEmpty = false := by cases O with | nil => exact absurd rfl a | cons _ _ => rfl
              have hok : okN O = true := by rw [HSG.out]; simp [a, b, d]
              have HM2 := Lib.hid (HMO.out hok)
              clear hO hok
              go_wp2
              exact ⟨⟨i + 1, i + 1, by go_num, by go_num, .inl HM2.out, trivial⟩, by simp [intOf]; omega⟩
          · have hz : ((c : Int) == 47) = false := by simp; omega
            have hz2 : ((c : Int) != 47) = true := by simp; omega
            have HSI := Lib.hid (refSign_any c hcl w)
            by_cases hs : signN c = true
            · have HST := Lib.hid (HD.out.step hlt (by rw [hc]; exact h47) (by rw [hc]; exact hs))
              rw [hs] at HSI
              clear hO hsl
              go_wp2_with fail
              refine HSI.out.mono ?_
              rintro e w' ⟨rfl, rfl⟩
              go_wp2
              exact ⟨⟨i + 1, f, by go_num, rfl, .inl HST.out, trivial⟩, by simp [intOf]; omega⟩
            · have hsf : signN c = false := by simpa using hs
              have HBA := Lib.hid (HD.out.bad hlt (by rw [hc]; exact h47) (by rw [hc]; exact hsf))
              rw [hsf] at HSI
              clear hO hsl
              go_wp2_with fail
              refine HSI.out.mono ?_
              rintro e w' ⟨rfl, rfl⟩
              go_wp2
              go_ret
              exact ⟨by rw [HG.out, HBA.out]; rfl, rfl⟩
        · obtain hie : i = l.length := by omega
          have z1 : ¬ (i : Int) < (l.length : Int) := by omega
          have z2 : decide ((i : Int) < (l.length : Int)) = false := decide_eq_false z1
          have HSL := Lib.hid (HD.out.last hie)
          rw [hO] at HSL
          have HIE := Lib.hid hie
          clear hie
          rcases (show O = [] ∨ O = [46] ∨ O = [46, 46] ∨ (O ≠ [] ∧ O ≠ [46] ∧ O ≠ [46, 46]) from by
            by_cases a : O = []
            · exact .inl a
            · by_cases b : O = [46]
              · exact .inr (.inl b)
              · by_cases d : O = [46, 46]
                · exact .inr (.inr (.inl d))
                · exact .inr (.inr (.inr ⟨a, b, d⟩))) with h | h | h | ⟨a, b, d⟩
          · subst h
            have HFA := Lib.hid (show allN l = false from by rw [HSL.out]; rfl)
            clear hO
            go_wp2
            go_ret
            exact ⟨by rw [HG.out, HFA.out]; rfl, rfl⟩
          · subst h
            have HFA := Lib.hid (show allN l = false from by rw [HSL.out]; rfl)
            clear hO
            go_wp2
            go_ret
            exact ⟨by rw [HG.out, HFA.out]; rfl, rfl⟩
          · subst h
            have HFA := Lib.hid (show allN l = false from by rw [HSL.out]; rfl)
            clear hO
            go_wp2
            go_ret
            exact ⟨by rw [HG.out, HFA.out]; rfl, rfl⟩
          · have a1 : (O == []) = false := beq_eq_false_iff_ne.2 a
            have b1 : (O == [46]) = false := beq_eq_false_iff_ne.2 b
            have d1 : (O == [46, 46]) = false := beq_eq_false_iff_ne.2 d
            have a2 : O.isEmpty = false := by cases O with | nil => exact absurd rfl a | cons _ _ => rfl
            have hok : okN O = true := by rw [HSG.out]; simp [a, b, d]
            have HT := Lib.hid (show allN l = true from by rw [HSL.out]; exact hok)
            clear hO hok
            go_wp2
            exact ⟨⟨i + 1, i + 1, by go_num, by go_num, .inr ⟨by rw [HIE.out], HT.out⟩, trivial⟩, by simp [intOf]; omega⟩
      · subst hi
        have z1 : ¬ ((l.length + 1 : Nat) : Int) ≤ (l.length : Int) := by omega
        have z2 : decide (((l.length + 1 : Nat) : Int) ≤ (l.length : Int)) = false := decide_eq_false z1
        have z3 : ¬ ((l.length : Int) + 1) ≤ (l.length : Int) := by omega
        have z4 : decide (((l.length : Int) + 1) ≤ (l.length : Int)) = false := decide_eq_false z3
        have HT := Lib.hid hT
        clear hT
        go_wp2
        go_ret
        exact ⟨by rw [HG.out, HT.out]; rfl, rfl⟩
end Go.Proofs.YtcgilacmdckbfaaDoor
