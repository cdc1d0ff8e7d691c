/- Merged texts: RefH7, RefL7, RefW7, LibP7, PtaP7, RngC7, Hd7, LibI7, SplP7, IdxF7, RunP7, RunQ7, OnlP7, GodP7, PtbP7, Hld15. -/
import Derived.Test.YtllpcllgliknpaaGreatDoorRef7
import Derived.Deep.RegionLaw
import Derived.BigRegion
import Derived.Test.YtllpcllgliknpaaGreatDoorBytes
import Derived.Laws.Externs
import Derived.Deep.QuietTactic
import Derived.OwnWalk
import Derived.Lib.Hide
import Derived.Lib.OthersKept
import Derived.Test.YtllpcllgliknpaaGreatDoorStr7
import Derived.RangeFuncNested
import Derived.RangeFuncBound
import Derived.RangeFuncCalls
import Derived.RangeFuncLeaves
import Derived.Shelf.Abstract
import Derived.Shelf.RegionOpen
import Derived.WalkKit
import Derived.OwnWalkIn
import Derived.TacticsInMore
import Derived.LoopNIn
import Derived.LoopIn
import Derived.Lib.Bytealg
import Derived.Laws.RangeAny
import Derived.Laws.Runes
import Derived.WalkMore
import Derived.Shelf.SlMaps.Clone
import Derived.Deep.RegionHeld3
import Derived.StillTailTactics
import Derived.Test.YtllpcllgliknpaaGreatDoorWsv15
import Derived.Test.YtllpcllgliknpaaGreatDoorLib8
set_option linter.unusedSimpArgs false
set_option linter.unusedVariables false
/- The reference's Good. -/
set_option maxRecDepth 100000
namespace Go.Proofs.YtllpcllgliknpaaGreatDoor
open Go Go.RowKit

/-- What is known of a path when the bytes from place f to place i have been looked at, and all names ahead of f. -/
structure Gd7 (l : S8) (i f : Nat) : Prop where
  fi : f ≤ i
  il : i ≤ l.length
  all : allN l = allN (l.drop f)
  seg : ∀ j, f ≤ j → j < i → chr l j ≠ 47 ∧ signN (chr l j) = true
theorem Gd7.zero (l : S8) : Gd7 l 0 0 := ⟨Nat.le_refl _, Nat.zero_le _, by rw [List.drop_zero], fun j _ h => absurd h (by omega)⟩
section
variable {l : S8} {i f : Nat}
theorem mem_seg {x : UInt8} (hx : x ∈ (l.drop f).take (i - f)) (hi : i ≤ l.length) : ∃ j, f ≤ j ∧ j < i ∧ chr l j = x.toNat := by
  obtain ⟨k, hk, rfl⟩ := List.getElem_of_mem hx
  rw [List.length_take, List.length_drop] at hk
  refine ⟨f + k, by omega, by omega, ?_⟩
  rw [chr_eq (by omega)]
  simp [List.getElem_take, List.getElem_drop]
theorem Gd7.noSlash (h : Gd7 l i f) : ∀ c ∈ (l.drop f).take (i - f), c ≠ 47 := fun c hc e => by
  obtain ⟨j, h1, h2, h3⟩ := mem_seg hc h.il
  exact (h.seg j h1 h2).1 (by rw [h3, e]; rfl)
theorem Gd7.signs (h : Gd7 l i f) : ((l.drop f).take (i - f)).all signB = true := by
  rw [List.all_eq_true]
  intro c hc
  obtain ⟨j, h1, h2, h3⟩ := mem_seg hc h.il
  rw [signB_eq, ← h3]
  exact (h.seg j h1 h2).2
/-- A name of signs is told by its looks. -/
theorem okN_signs {n : S8} (h : n.all signB = true) : okN n = (n != [] && n != [46] && n != [46, 46]) := by unfold okN; rw [h, Bool.and_true]
theorem Gd7.step (h : Gd7 l i f) (hi : i < l.length) (h47 : chr l i ≠ 47) (hs : signN (chr l i) = true) : Gd7 l (i + 1) f :=
  ⟨Nat.le_succ_of_le h.fi, hi, h.all, fun j h1 h2 => by
    rcases Nat.lt_succ_iff_lt_or_eq.1 h2 with h3 | h3
    · exact h.seg j h1 h3
    · rw [h3]; exact ⟨h47, hs⟩⟩
theorem take_snoc (hi : i < l.length) (hf : f ≤ i) : (l.drop f).take (i + 1 - f) = (l.drop f).take (i - f) ++ [l[i]] := by
  rw [show i + 1 - f = (i - f) + 1 by omega, List.take_add_one]
  congr 1
  rw [List.getElem?_drop, show f + (i - f) = i by omega, List.getElem?_eq_getElem hi]
  rfl
theorem Gd7.bad (h : Gd7 l i f) (hi : i < l.length) (h47 : chr l i ≠ 47) (hs : signN (chr l i) = false) : allN l = false := by
  rw [h.all, ← List.take_append_drop (i + 1 - f) (l.drop f)]
  rw [take_snoc hi h.fi]
  refine allN_odd _ (fun c hc => ?_) l[i] (by simp) (by rw [signB_eq, ← chr_eq hi]; exact hs)
  rw [List.mem_append] at hc
  rcases hc with hc | hc
  · exact h.noSlash c hc
  · rw [List.mem_singleton] at hc
    subst hc
    intro e
    exact h47 (by rw [chr_eq hi, e]; rfl)
theorem Gd7.last (h : Gd7 l i f) (hi : i = l.length) : allN l = okN ((l.drop f).take (i - f)) := by
  have e : (l.drop f).take (i - f) = l.drop f := List.take_of_length_le (by rw [List.length_drop]; omega)
  have hn := h.noSlash
  rw [e] at hn ⊢
  rw [h.all, allN_end hn]
theorem Gd7.slash (h : Gd7 l i f) (hi : i < l.length) (h47 : chr l i = 47) : allN l = (okN ((l.drop f).take (i - f)) && allN (l.drop (i + 1))) := by
  have e : l.drop f = (l.drop f).take (i - f) ++ 47 :: l.drop (i + 1) := by
    have h1 := List.take_append_drop (i - f) (l.drop f)
    rw [List.drop_drop, show f + (i - f) = i by have := h.fi; omega, List.drop_eq_getElem_cons hi] at h1
    have h2 : l[i] = 47 := by
      rw [chr_eq hi] at h47
      exact UInt8.toNat_inj.1 h47
    rw [h2] at h1
    exact h1.symm
  rw [h.all, e, allN_more _ h.noSlash]
  rw [← e]
theorem Gd7.more (h : Gd7 l i f) (hi : i < l.length) (h47 : chr l i = 47) (ho : okN ((l.drop f).take (i - f)) = true) : Gd7 l (i + 1) (i + 1) :=
  ⟨Nat.le_refl _, hi, by rw [h.slash hi h47, ho, Bool.true_and], fun j h1 h2 => absurd h1 (by omega)⟩
end
set_option maxRecDepth 100000 in
set_option maxHeartbeats 2000000 in
theorem refGood_any (l : S8) (hl : l.length < 1000000) (w : World) : Calls Tryz.prog 44 #[.string (mkS l)] w fun e w' => e = .returned (.bool (goodL l)) ∧ w = w' := by
  by_cases h100 : 100 < l.length
  · have h1 : (100 : Int) < (l.length : Int) := by omega
    have h2 : decide ((100 : Int) < (l.length : Int)) = true := decide_eq_true h1
    have HS := Lib.hid (show goodL l = false from by unfold goodL; rw [decide_eq_false (by omega)]; rfl)
    go_enter Tryz.func44, Tryz.ntmps44
    go_wp2
    go_ret
    exact ⟨by rw [HS.out]; rfl, rfl⟩
  · have h1 : ¬ (100 : Int) < (l.length : Int) := by omega
    have h2 : decide ((100 : Int) < (l.length : Int)) = false := decide_eq_false h1
    have HG := Lib.hid (show goodL l = allN l from by unfold goodL; rw [decide_eq_true (by omega), Bool.true_and])
    have H100 := Lib.hid h100
    clear h100
    go_enter Tryz.func44, Tryz.ntmps44
    go_wp2
    go_loopw [3, 4, 5] (fun vf vi vo wr => ∃ i f : Nat, vi = .int .i64 i ∧ vf = .int .i64 f ∧ (Gd7 l i f ∨ (i = l.length + 1 ∧ allN l = true)) ∧ w = wr) (fun vf vi vo _ => l.length + 2 - (intOf vi).toNat)
    case atStart => exact ⟨0, 0, rfl, rfl, .inl (Gd7.zero l), rfl⟩
    case round =>
      obtain ⟨i, f, rfl, rfl, hD, rfl⟩ := hrel
      rcases hD with hD | ⟨hi, hT⟩
      · have hle : (i : Int) ≤ (l.length : Int) := by have := hD.il; omega
        have hld : decide ((i : Int) ≤ (l.length : Int)) = true := decide_eq_true hle
        have hw := i64s i (by omega)
        have hfi : (f : Int) ≤ (i : Int) := by have := hD.fi; omega
        have hfn := hD.fi
        have hin := hD.il
        have HD := Lib.hid hD
        obtain ⟨O, hO⟩ : ∃ O, (l.drop f).take (i - f) = O := ⟨_, rfl⟩
        have HSG := Lib.hid (okN_signs hD.signs)
        have hsl := fun w => sl_S l f i w hfn hin
        rw [hO] at HSG hsl
        clear hD
        by_cases hlt : i < l.length
        · have z1 : (i : Int) < (l.length : Int) := by omega
          have z2 : decide ((i : Int) < (l.length : Int)) = true := decide_eq_true z1
          obtain ⟨c, hc⟩ : ∃ c, chr l i = c := ⟨_, rfl⟩
          have hcl : c < 256 := by rw [← hc]; exact chr_lt l i
          by_cases h47 : c = 47
          · subst h47
            have HSL := Lib.hid (HD.out.slash hlt hc)
            have HMO := Lib.hid (HD.out.more hlt hc)
            rw [hO] at HSL HMO
            rcases (show O = [] ∨ O = [46] ∨ O = [46, 46] ∨ (O ≠ [] ∧ O ≠ [46] ∧ O ≠ [46, 46]) from by
              by_cases a : O = []
              · exact .inl a
              · by_cases b : O = [46]
                · exact .inr (.inl b)
                · by_cases d : O = [46, 46]
                  · exact .inr (.inr (.inl d))
                  · exact .inr (.inr (.inr ⟨a, b, d⟩))) with h | h | h | ⟨a, b, d⟩
            · subst h
              have HFA := Lib.hid (show allN l = false from by rw [HSL.out]; rfl)
              clear hO
              go_wp2
              go_ret
              exact ⟨by rw [HG.out, HFA.out]; rfl, rfl⟩
            · subst h
              have HFA := Lib.hid (show allN l = false from by rw [HSL.out]; rfl)
              clear hO
              go_wp2
              go_ret
              exact ⟨by rw [HG.out, HFA.out]; rfl, rfl⟩
            · subst h
              have HFA := Lib.hid (show allN l = false from by rw [HSL.out]; rfl)
              clear hO
              go_wp2
              go_ret
              exact ⟨by rw [HG.out, HFA.out]; rfl, rfl⟩
            · have a1 : (O == []) = false := beq_eq_false_iff_ne.2 a
              have b1 : (O == [46]) = false := beq_eq_false_iff_ne.2 b
              have d1 : (O == [46, 46]) = false := beq_eq_false_iff_ne.2 d
              have a2 : O.isEmpty = false := by cases O with | nil => exact absurd rfl a | cons _ _ => rfl
              have hok : okN O = true := by rw [HSG.out]; simp [a, b, d]
              have HM2 := Lib.hid (HMO.out hok)
              clear hO hok
              go_wp2
              exact ⟨⟨i + 1, i + 1, by go_num, by go_num, .inl HM2.out, trivial⟩, by simp [intOf]; omega⟩
          · have hz : ((c : Int) == 47) = false := by simp; omega
            have hz2 : ((c : Int) != 47) = true := by simp; omega
            have HSI := Lib.hid (refSign_any c hcl w)
            by_cases hs : signN c = true
            · have HST := Lib.hid (HD.out.step hlt (by rw [hc]; exact h47) (by rw [hc]; exact hs))
              rw [hs] at HSI
              clear hO hsl
              go_wp2_with fail
              refine HSI.out.mono ?_
              rintro e w' ⟨rfl, rfl⟩
              go_wp2
              exact ⟨⟨i + 1, f, by go_num, rfl, .inl HST.out, trivial⟩, by simp [intOf]; omega⟩
            · have hsf : signN c = false := by simpa using hs
              have HBA := Lib.hid (HD.out.bad hlt (by rw [hc]; exact h47) (by rw [hc]; exact hsf))
              rw [hsf] at HSI
              clear hO hsl
              go_wp2_with fail
              refine HSI.out.mono ?_
              rintro e w' ⟨rfl, rfl⟩
              go_wp2
              go_ret
              exact ⟨by rw [HG.out, HBA.out]; rfl, rfl⟩
        · obtain hie : i = l.length := by omega
          have z1 : ¬ (i : Int) < (l.length : Int) := by omega
          have z2 : decide ((i : Int) < (l.length : Int)) = false := decide_eq_false z1
          have HSL := Lib.hid (HD.out.last hie)
          rw [hO] at HSL
          have HIE := Lib.hid hie
          clear hie
          rcases (show O = [] ∨ O = [46] ∨ O = [46, 46] ∨ (O ≠ [] ∧ O ≠ [46] ∧ O ≠ [46, 46]) from by
            by_cases a : O = []
            · exact .inl a
            · by_cases b : O = [46]
              · exact .inr (.inl b)
              · by_cases d : O = [46, 46]
                · exact .inr (.inr (.inl d))
                · exact .inr (.inr (.inr ⟨a, b, d⟩))) with h | h | h | ⟨a, b, d⟩
          · subst h
            have HFA := Lib.hid (show allN l = false from by rw [HSL.out]; rfl)
            clear hO
            go_wp2
            go_ret
            exact ⟨by rw [HG.out, HFA.out]; rfl, rfl⟩
          · subst h
            have HFA := Lib.hid (show allN l = false from by rw [HSL.out]; rfl)
            clear hO
            go_wp2
            go_ret
            exact ⟨by rw [HG.out, HFA.out]; rfl, rfl⟩
          · subst h
            have HFA := Lib.hid (show allN l = false from by rw [HSL.out]; rfl)
            clear hO
            go_wp2
            go_ret
            exact ⟨by rw [HG.out, HFA.out]; rfl, rfl⟩
          · have a1 : (O == []) = false := beq_eq_false_iff_ne.2 a
            have b1 : (O == [46]) = false := beq_eq_false_iff_ne.2 b
            have d1 : (O == [46, 46]) = false := beq_eq_false_iff_ne.2 d
            have a2 : O.isEmpty = false := by cases O with | nil => exact absurd rfl a | cons _ _ => rfl
            have hok : okN O = true := by rw [HSG.out]; simp [a, b, d]
            have HT := Lib.hid (show allN l = true from by rw [HSL.out]; exact hok)
            clear hO hok
            go_wp2
            exact ⟨⟨i + 1, i + 1, by go_num, by go_num, .inr ⟨by rw [HIE.out], HT.out⟩, trivial⟩, by simp [intOf]; omega⟩
      · subst hi
        have z1 : ¬ ((l.length + 1 : Nat) : Int) ≤ (l.length : Int) := by omega
        have z2 : decide (((l.length + 1 : Nat) : Int) ≤ (l.length : Int)) = false := decide_eq_false z1
        have z3 : ¬ ((l.length : Int) + 1) ≤ (l.length : Int) := by omega
        have z4 : decide (((l.length : Int) + 1) ≤ (l.length : Int)) = false := decide_eq_false z3
        have HT := Lib.hid hT
        clear hT
        go_wp2
        go_ret
        exact ⟨by rw [HG.out, HT.out]; rfl, rfl⟩
end Go.Proofs.YtllpcllgliknpaaGreatDoor
/- The reference's last slash. -/
set_option maxRecDepth 100000
namespace Go.Proofs.YtllpcllgliknpaaGreatDoor
open Go Go.RowKit

set_option maxHeartbeats 1000000 in
theorem refSlash_any (l : S8) (hl : l.length < 1000000) (w : World) : Calls Tryz.prog 45 #[.string (mkS l)] w fun e w' => e = .returned (.int .i64 ((kL l : Int) - 1)) ∧ w = w' := by
  obtain ⟨n, hn⟩ : ∃ n, l.length = n := ⟨_, rfl⟩
  rw [hn] at hl
  have HN := Lib.hid hn
  go_enter Tryz.func45, Tryz.ntmps45
  go_wp2
  go_loopw [3, 4] (fun vo vi wr => ∃ i m : Nat, i ≤ n ∧ vi = .int .i64 i ∧ vo = .int .i64 ((m : Int) - 1) ∧ kTo l i = m ∧ w = wr) (fun vo vi _ => n - (intOf vi).toNat)
  case atStart => exact ⟨0, 0, Nat.zero_le _, rfl, rfl, rfl, rfl⟩
  case round =>
    obtain ⟨i, m, hi, rfl, rfl, hm, rfl⟩ := hrel
    by_cases hlt : i < n
    · have hli : i < l.length := by omega
      have z1 : (i : Int) < (n : Int) := by omega
      have z2 : decide ((i : Int) < (n : Int)) = true := decide_eq_true z1
      have hw := i64s i (by omega)
      have hk : kTo l (i + 1) = if chr l i = 47 then i + 1 else kTo l i := rfl
      rw [hm] at hk
      have HK := Lib.hid hk
      obtain ⟨c, hc⟩ : ∃ c, chr l i = c := ⟨_, rfl⟩
      rw [hc] at HK
      clear hm hk
      by_cases h47 : c = 47
      · subst h47
        go_wp2
        exact ⟨⟨i + 1, i + 1, by omega, by go_num, by go_num, by rw [HK.out, if_pos rfl], trivial⟩, by simp [intOf]; omega⟩
      · have hz : ((c : Int) == 47) = false := by simp; omega
        go_wp2
        exact ⟨⟨i + 1, m, by omega, by go_num, rfl, by rw [HK.out, if_neg h47], trivial⟩, by simp [intOf]; omega⟩
    · obtain rfl : i = n := by omega
      have z1 : ¬ (i : Int) < (i : Int) := by omega
      have z2 : decide ((i : Int) < (i : Int)) = false := decide_eq_false z1
      have HM := Lib.hid (show kL l = m from by unfold kL; rw [HN.out]; exact hm)
      clear hm
      go_wp2
      go_ret
      exact ⟨by rw [HM.out]; rfl, rfl⟩
end Go.Proofs.YtllpcllgliknpaaGreatDoor
/- The reference of layer 7: decimals, what is put ahead of a name, homes, copies, kinds. -/
set_option maxRecDepth 100000
namespace Go.Proofs.YtllpcllgliknpaaGreatDoor
open Go Go.RowKit

/-- A string of one byte that was just made. -/
theorem conv1 (w : World) (b c : Nat) (h : w.cell? ⟨b, 0, none⟩ = some (.int .u8 (c : Int))) (hc : c < 256) : (convert 53 9 (.slice (some ⟨b, 0, none⟩) 1 1)).run Tryz.prog w = .ok (.string (mkS [UInt8.ofNat c])) w := by
  have hs : Sl w (some ⟨b, 0, none⟩) [BitVec.ofNat 8 c] := fun j hj => by
    have : j = 0 := by simp at hj; omega
    subst this
    refine ⟨b, 0, rfl, ?_⟩
    show w.cell? ⟨b, 0, none⟩ = some (B (BitVec.ofNat 8 c))
    rw [h, B_eq', BitVec.toNat_ofNat, Nat.mod_eq_of_lt (by simpa using hc)]
  have := conv_str w _ _ 1 1 hs rfl (fun h => by cases h)
  rw [this]
  congr 2
  unfold mkS
  rfl
attribute [local go_sem high] conv1
end Go.Proofs.YtllpcllgliknpaaGreatDoor
/- strings.LastIndexByte at "/"; HasPrefix, CutPrefix. -/
set_option maxRecDepth 100000
namespace Go.Proofs.YtllpcllgliknpaaGreatDoor
open Go Go.RowKit

set_option maxHeartbeats 1000000 in
theorem lastByte_in (l : S8) (w : World) (hl : l.length < 1000000) : Calls Tryz.prog 75 #[.string (mkS l), .int .u8 47] w fun e w' => e = .returned (.int .i64 ((kL l : Int) - 1)) ∧ w = w' := by
  obtain ⟨n, hn⟩ : ∃ n, l.length = n := ⟨_, rfl⟩
  have HK := Lib.hid (show kL l = kTo l n from by unfold kL; rw [hn])
  have HN := Lib.hid hn
  rw [hn] at hl
  have hs : IntKind.i64.wrap ((n : Int) - 1) = (n : Int) - 1 := by rw [IntKind.wrap_i64]; omega
  have hs2 : wrap64 ((n : Int) - 1) = (n : Int) - 1 := by unfold wrap64; omega
  go_enter Tryz.func75, Tryz.ntmps75
  go_wp2
  go_loopw [5] (fun vi wr => ∃ k : Nat, k ≤ n ∧ vi = .int .i64 ((k : Int) - 1) ∧ kTo l k = kL l ∧ w = wr) (fun vi _ => (intOf vi + 1).toNat)
  case atStart => exact ⟨n, Nat.le_refl _, rfl, HK.out.symm, rfl⟩
  case round =>
    obtain ⟨k, hk, rfl, hkt, rfl⟩ := hrel
    cases k with
    | zero =>
      have HZ := Lib.hid (show kL l = 0 from hkt.symm)
      clear hkt
      go_wp2
      go_ret
      exact ⟨by rw [HZ.out]; rfl, rfl⟩
    | succ j =>
      have e1 : ((j + 1 : Nat) : Int) - 1 = (j : Int) := by omega
      have e2 : (j : Int) + 1 - 1 = (j : Int) := by omega
      have hjn : j < n := by omega
      have hjl : j < l.length := by rw [HN.out]; omega
      obtain ⟨c, hc⟩ : ∃ c, chr l j = c := ⟨_, rfl⟩
      have hw : IntKind.i64.wrap ((j : Int) - 1) = (j : Int) - 1 := by rw [IntKind.wrap_i64]; omega
      have hkk : kTo l (j + 1) = if chr l j = 47 then j + 1 else kTo l j := rfl
      rw [hc] at hkk
      rw [hkk] at hkt
      by_cases h47 : c = 47
      · subst h47
        have HZ := Lib.hid (show kL l = j + 1 from by rw [← hkt, if_pos rfl])
        clear hkt hkk
        go_wp2
        go_ret
        exact ⟨by rw [HZ.out]; simp, rfl⟩
      · have hz : ((c : Int) == 47) = false := by simp; omega
        have HZ := Lib.hid (show kTo l j = kL l from by rw [← hkt, if_neg h47])
        clear hkt hkk
        go_wp2
        exact ⟨⟨j, by omega, by go_num, HZ.out, trivial⟩, by simp [intOf] <;> omega⟩
set_option maxHeartbeats 1000000 in
theorem lastByte (l : S8) (w : World) (hl : l.length < 1000000) : Calls Tryz.prog 59 #[.string (mkS l), .int .u8 47] w fun e w' => e = .returned (.int .i64 ((kL l : Int) - 1)) ∧ w = w' := by
  have HI := Lib.hid (lastByte_in l w hl)
  generalize kL l = k at *
  go_enter Tryz.func59, Tryz.ntmps59
  go_wp2_with fail
  refine HI.out.mono ?_
  rintro e w' ⟨rfl, rfl⟩
  go_wp2
  go_ret
  exact ⟨rfl, rfl⟩
set_option maxHeartbeats 1000000 in
theorem prefix_in (s t : S8) (w : World) : Calls Tryz.prog 62 #[.string (mkS s), .string (mkS t)] w fun e w' => e = .returned (.bool (startsL s t)) ∧ w = w' := by
  by_cases h : t.length ≤ s.length
  · have h1 : (t.length : Int) ≤ (s.length : Int) := by omega
    have h2 : decide ((t.length : Int) ≤ (s.length : Int)) = true := decide_eq_true h1
    have HS := Lib.hid (show startsL s t = (s.take t.length == t) from by unfold startsL; rw [decide_eq_true h]; rfl)
    go_enter Tryz.func62, Tryz.ntmps62
    go_wp2
    go_ret
    exact ⟨by rw [HS.out]; rfl, rfl⟩
  · have h1 : ¬ (t.length : Int) ≤ (s.length : Int) := by omega
    have h2 : decide ((t.length : Int) ≤ (s.length : Int)) = false := decide_eq_false h1
    have HS := Lib.hid (show startsL s t = false from by unfold startsL; rw [decide_eq_false h]; rfl)
    go_enter Tryz.func62, Tryz.ntmps62
    go_wp2
    go_ret
    exact ⟨by rw [HS.out]; rfl, rfl⟩
set_option maxHeartbeats 1000000 in
theorem hasPrefix_any (s t : S8) (w : World) : Calls Tryz.prog 42 #[.string (mkS s), .string (mkS t)] w fun e w' => e = .returned (.bool (startsL s t)) ∧ w = w' := by
  have HC := Lib.hid (prefix_in s t w)
  generalize startsL s t = b at *
  go_enter Tryz.func42, Tryz.ntmps42
  go_wp2_with fail
  refine HC.out.mono ?_
  rintro e w' ⟨rfl, rfl⟩
  go_wp2
  go_ret
  exact ⟨rfl, rfl⟩
end Go.Proofs.YtllpcllgliknpaaGreatDoor
/- Dir, Base, In, Clash. -/
set_option maxRecDepth 100000
namespace Go.Proofs.YtllpcllgliknpaaGreatDoor
open Go Go.RowKit

set_option maxHeartbeats 1000000 in
theorem base_any (l : S8) (w : World) (hl : l.length < 100000) : Calls Tryz.prog 40 #[.string (mkS l)] w fun e w' => Gives (.string (mkS (baseL l))) w e w' := by
  have HC := Lib.hid (lastByte l w (by omega))
  have hk := kL_le l
  have HD := Lib.hid (show baseL l = l.drop (kL l) from rfl)
  generalize kL l = k at *
  have hs := fun u => sl_from l k u (by omega)
  have x1 : ((k : Int) - 1) + 1 = (k : Int) := by omega
  have hw : IntKind.i64.wrap (k : Int) = (k : Int) := by rw [IntKind.wrap_i64]; omega
  go_enter Tryz.func40, Tryz.ntmps40
  go_wp2_with fail
  refine HC.out.mono ?_
  rintro e w' ⟨rfl, rfl⟩
  go_wp2
  go_ret
  exact ⟨by rw [HD.out]; rfl, Below.refl _ _⟩
end Go.Proofs.YtllpcllgliknpaaGreatDoor
/- A range over an iterator that keeps a state of its own in a box: the law, and what such an iterator owes. -/
set_option maxRecDepth 100000
namespace Go.Proofs.YtllpcllgliknpaaGreatDoor
open Go Go.RowKit Go.Shelf

/-- A call of yield: it goes on, all below N as it was; or it says that there is to be no more. -/
def Yields {α : Type} (m l : Nat) (encs : α → Array Value) (N : Nat) (J Jx : List α → World → Prop) : Prop :=
  ∀ pre x A, J pre A → YieldAt Fence.wide m Tryz.prog l (encs x) A fun e A' =>
    (e = .returned (.bool true) ∧ J (pre ++ [x]) A' ∧ Below N A A') ∨ (e = .returned (.bool false) ∧ Jx (pre ++ [x]) A')
/-- The iterator hands out xs; of what was there it writes box b alone. -/
def Seq {α : Type} (m g : Nat) (lb : Array Value) (encs : α → Array Value) (b : Nat) (xs : List α) (w : World) : Prop :=
  ∀ (l : Nat) (J Jx : List α → World → Prop) (A : World), Below w.heap.size w A → (∀ pre B k, J pre B → J pre (B.drewN k)) → (∀ pre B v, J pre B → J pre (B.setCell ⟨b, 0, none⟩ v)) →
    Yields (m - 1) l encs w.heap.size J Jx → J [] A →
    CallsIn Fence.wide m Tryz.prog g (#[.func (.yield l) #[] #[]] ++ lb) A fun e A' => (∃ v, e = .returned v) ∧ (J xs A' ∨ ∃ pre, pre <+: xs ∧ Jx pre A')
/-- How the body may be left: it goes on, or returns. -/
def bodyOut {α : Type} (N : Nat) (I Ix : List α → World → Prop) (xs : List α) (A : World) : Exit → Act → World → Prop
  | .normal, _, A' => KeepsOthers A A' ∧ Below N A A' ∧ I xs A'
  | .ret, _, A' => KeepsOthers A A' ∧ Ix xs A'
  | _, _, _ => False
/-- What a caller's invariant must bear: new blocks, the loop's own blocks, draws, the iterator's box. -/
structure Bears {α : Type} (N b : Nat) (I : List α → World → Prop) : Prop where
  new : ∀ pre A o, I pre A → I pre (A.alloc o)
  put : ∀ pre A k o, N ≤ k → k < A.heap.size → I pre A → I pre (A.putObj k o)
  drew : ∀ pre A k, I pre A → I pre (A.drewN k)
  box : ∀ pre A v, I pre A → I pre (A.setCell ⟨b, 0, none⟩ v)
theorem below_put {N k : Nat} {A : World} (o : Obj) (hk : N ≤ k) (hlt : k < A.heap.size) : Below N A (A.putObj k o) :=
  (Below.refl N A).grown (grownBy_putObj' A k o) (by omega) (fun j e => by cases e; exact hk)
theorem range_box {α : Type} {g : Operand} {ps : Array Tmp} {assign body : Code} {Q : Exit → Act → World → Prop} {a : Act} {w : World} {m : Nat} (hm : 1 ≤ m)
    {gf : Nat} {lb : Array Value} (hg : a.eval g = .func (.func gf) #[] lb) (eg : ∀ args w, (callFunc gf args).run Tryz.prog w = .ok (.enter gf args) w)
    {encs : α → Array Value} (hps : ∀ x, (encs x).size = ps.size) {b : Nat} (hb : b < w.heap.size) {xs : List α} (hseq : Seq (m - 1) gf lb encs b xs w)
    (I Ix : List α → World → Prop) (hI : Bears w.heap.size b I) (hIx : ∀ pre A k o, w.heap.size ≤ k → k < A.heap.size → Ix pre A → Ix pre (A.putObj k o)) (h0 : I [] w) (a₁ : α → Act)
    (hassign : ∀ (l : Nat) (x : α) (W : World) (K : Act → World → Prop), K (a₁ x) W →
      assign.wpIn (Fence.wide.inRound l) (m - 1 - 1) Tryz.prog (Exit.then K (fun _ _ _ => False)) { tmps := (ps.zip (encs x)).foldl (fun t (p, v) => t.setIfInBounds p v) a.tmps, defers := [] } W)
    (hbody : ∀ (l : Nat) (pre : List α) (x : α) (A : World), I pre A → body.wpIn (Fence.wide.inRound l) (m - 1 - 1) Tryz.prog (bodyOut w.heap.size I Ix (pre ++ [x]) A) (a₁ x) A)
    (hdone : ∀ (D : Nat) (A : World), w.heap.size ≤ D → I xs A → A.heap[D]? = some (.deferred (some [])) → Q .normal { a with defers := { target := .collected D, args := #[] } :: a.defers } A)
    (hstop : ∀ (D : Nat) (pre : List α) (A : World), w.heap.size ≤ D → pre <+: xs → Ix pre A → A.heap[D]? = some (.deferred (some [])) → Code.ret.wpIn Fence.wide m Tryz.prog Q { a with defers := { target := .collected D, args := #[] } :: a.defers } A) :
    (Code.rangeFunc g ps assign body).wpIn Fence.wide m Tryz.prog Q a w := by
  refine wpIn_rangeFunc fun fn hfn => ?_
  -- the loop's record (block n + 1) and the block of its deferred calls (block n)
  obtain ⟨n, hn⟩ : ∃ n, w.heap.size = n := ⟨_, rfl⟩
  obtain ⟨R, hR⟩ : ∃ R : LoopState → Option Code → Loop, R = fun st pe => { state := st, pending := pe, fn, tmps := a.tmps, params := ps, assign, body, defers := n } := ⟨_, rfl⟩
  obtain ⟨W, hW⟩ : ∃ W, (w.alloc (.deferred (some []))).alloc (.loop (R .ready none)) = W := ⟨_, rfl⟩
  have two : ∀ {A : World}, A.heap[n + 1]? = some (.loop (R .busy none)) ∨ A.heap[n + 1]? = some (.loop (R .ready none)) → n + 1 < A.heap.size := fun h => by
    rcases h with h | h <;> exact (Array.getElem?_eq_some_iff.1 h).1
  let At : LoopState → Option Code → World → Prop := fun st pe A => A.heap[n + 1]? = some (.loop (R st pe)) ∧ A.heap[n]? = some (.deferred (some []))
  have at0 : At .ready none W := by
    constructor
    · rw [← hW]
      have := World.alloc_heap_new (w.alloc (.deferred (some []))) (.loop (R .ready none))
      rwa [World.size_alloc, hn] at this
    · rw [← hW]
      have h1 := World.alloc_heap_new w (.deferred (some []))
      rw [hn] at h1
      exact (Below.heap_alloc _ _ _ (by simp; omega)).trans h1
  have putAt : ∀ {st st' : LoopState} {pe pe' : Option Code} {A : World}, At st pe A → At st' pe' (A.putObj (n + 1) (.loop (R st' pe'))) := fun h =>
    ⟨World.putObj_heap_same (Array.getElem?_eq_some_iff.1 h.1).1, (World.putObj_heap_other (by omega)).trans h.2⟩
  refine ⟨n + 1, [{ target := .collected n, args := #[] }], W, { target := .fn (.func gf) lb, args := #[.func (.yield (n + 1)) #[] #[]] }, W, gf, #[.func (.yield (n + 1)) #[] #[]] ++ lb, W, ?_, ?_, ?_, ?_, fun _ => hm, ?_⟩
  · rw [← hW, hR, ← hn]; exact run_enterLoop_outer _ _ _ _ _
  · simp only [resolve, hg]
    simp [go_sem]
  · intro f' hf'
    simp [Target.leads] at hf'
    subst hf'
    trivial
  · simp [invoke, go_sem, eg]
  · have hbel : Below w.heap.size w W := by rw [← hW]; exact ((Below.refl _ w).alloc (Nat.le_refl _) _).alloc (by simp) _
    refine (hseq (n + 1) (fun pre A => I pre A ∧ At .ready none A) (fun pre A => Ix pre A ∧ At .done (some .ret) A) W hbel
      (fun pre B k h => ⟨hI.drew pre B k h.1, h.2⟩)
      (fun pre B v h => ⟨hI.box pre B v h.1, (Below.heap_setCell B _ v _ (by show n + 1 ≠ b; omega)).trans h.2.1, (Below.heap_setCell B _ v _ (by show n ≠ b; omega)).trans h.2.2⟩)
      ?_ ⟨by rw [← hW]; exact hI.new _ _ _ (hI.new _ _ _ h0), at0⟩).mono ?_
    · rintro pre x A ⟨hi, hat⟩
      have hlt := two (.inr hat.1)
      have hy := run_yield (P := Tryz.prog) (args := encs x) hat.1 (by rw [hR]; exact hps x)
      rw [hR] at hy
      refine ⟨fn, _, assign, body, hy, roundIn_of_wpIn hfn (hassign _ x A _ ⟨_, run_beginRound hat.1 (by rw [hR]), ?_⟩)⟩
      have hbusy : ({ R .ready none with state := .busy } : Loop) = R .busy none := by rw [hR]
      rw [hbusy]
      have hat2 : At .busy none (A.putObj (n + 1) (.loop (R .busy none))) := putAt hat
      refine wpIn_mono (hbody _ pre x _ (hI.put _ _ _ _ (by omega) hlt hi)) ?_
      have fin : ∀ (st : LoopState) (jump : Option Code) (A3 : World), st = (if jump.isNone then .ready else .done) → KeepsOthers (A.putObj (n + 1) (.loop (R .busy none))) A3 →
          n + 1 < A3.heap.size ∧ (Instr.endRound (n + 1) jump).run Tryz.prog A3 = .ok (.bool jump.isNone) (A3.putObj (n + 1) (.loop (R st jump))) ∧ At st jump (A3.putObj (n + 1) (.loop (R st jump))) := fun st jump A3 hst hk => by
        have h3 : At .busy none A3 := ⟨hk.same _ _ hat2.1 rfl, hk.same _ _ hat2.2 rfl⟩
        have he := run_endRound (P := Tryz.prog) jump h3.1
        have e : ({ R .busy none with state := (if jump.isNone then .ready else .done), pending := jump } : Loop) = R st jump := by rw [hR, hst]
        rw [e] at he
        exact ⟨two (.inl h3.1), he, putAt h3⟩
      rintro e a3 A3 hp
      cases e with
      | normal =>
        obtain ⟨hk, hB, hi3⟩ := hp
        obtain ⟨hl3, he, h4⟩ := fin .ready none A3 rfl hk
        exact ⟨_, _, he, .inl ⟨rfl, ⟨hI.put _ _ _ _ (by omega) hl3 hi3, h4⟩, ((below_put _ (by omega) hlt).trans hB).trans (below_put _ (by omega) hl3)⟩⟩
      | ret =>
        obtain ⟨hk, hi3⟩ := hp
        obtain ⟨hl3, he, h4⟩ := fin .done (some .ret) A3 rfl hk
        exact ⟨_, _, he, .inr ⟨rfl, hIx _ _ _ _ (by omega) hl3 hi3, h4⟩⟩
      | exit id => exact hp.elim
      | goto t => exact hp.elim
      | panic ch => exact hp.elim
      | outgrown => exact hp.elim
    · rintro e A2 ⟨⟨v, rfl⟩, ⟨hi, hat⟩ | ⟨pre, hpre, hi, hat⟩⟩
      · have hlt := two (.inr hat.1)
        have he := run_endLoop (P := Tryz.prog) hat.1 (by rw [hR]; simp)
        refine ⟨none, _, by rw [he, hR], ?_⟩
        exact hdone n _ (by omega) (hI.put _ _ _ _ (by omega) hlt hi) ((World.putObj_heap_other (by omega)).trans hat.2)
      · have hlt := (Array.getElem?_eq_some_iff.1 hat.1).1
        have he := run_endLoop (P := Tryz.prog) hat.1 (by rw [hR]; simp)
        refine ⟨some .ret, _, by rw [he, hR], ?_⟩
        exact hstop n pre _ (by omega) hpre (hIx _ _ _ _ (by omega) hlt hi) ((World.putObj_heap_other (by omega)).trans hat.2)
end Go.Proofs.YtllpcllgliknpaaGreatDoor
/- What lies ahead of the first "/", and behind it. -/
set_option maxRecDepth 100000
namespace Go.Proofs.YtllpcllgliknpaaGreatDoor
open Go Go.RowKit

def headS (l : S8) : S8 := l.takeWhile (fun c => c != 47)
def hasS (l : S8) : Bool := l.any (fun c => c == 47)
def tailS (l : S8) : S8 := l.drop ((headS l).length + 1)
def restS (l : S8) : S8 := if hasS l then tailS l else []
theorem head_clean (l : S8) : ∀ c ∈ headS l, c ≠ 47 := fun c hc => by
  unfold headS at hc
  have : ∀ m : S8, ∀ c ∈ m.takeWhile (fun c => c != 47), c ≠ 47 := by
    intro m
    induction m with
    | nil => intro c h; cases h
    | cons x r ih =>
      intro c h
      rw [List.takeWhile_cons] at h
      by_cases hx : (x != 47) = true
      · rw [if_pos hx] at h
        rcases List.mem_cons.1 h with e | e
        · subst e; simpa using hx
        · exact ih c e
      · rw [if_neg hx] at h; cases h
  exact this l c hc
theorem head_tail : ∀ l : S8, hasS l = true → l = headS l ++ 47 :: tailS l := by
  intro l
  induction l with
  | nil => intro h; cases h
  | cons c r ih =>
    intro h
    by_cases hc : c = 47
    · subst hc
      simp [headS, tailS]
    · have hr : hasS r = true := by unfold hasS at h ⊢; simpa [hc] using h
      have e : headS (c :: r) = c :: headS r := by unfold headS; rw [List.takeWhile_cons, if_pos (by simpa using hc)]
      have t : tailS (c :: r) = tailS r := by unfold tailS; rw [e]; simp
      rw [e, t, List.cons_append, ← ih hr]
theorem head_all (l : S8) (h : hasS l = false) : headS l = l := by
  unfold headS hasS at *
  rw [List.any_eq_false] at h
  have key : ∀ m : S8, (∀ c ∈ m, (c != 47) = true) → m.takeWhile (fun c => c != 47) = m := by
    intro m
    induction m with
    | nil => intro _; rfl
    | cons x r ih =>
      intro hm
      rw [List.takeWhile_cons, if_pos (hm x (by simp)), ih (fun c hc => hm c (by simp [hc]))]
  exact key l fun c hc => by
    have := h c hc
    simpa using this
theorem nm_cut (l : S8) : nm l = headS l :: (if hasS l then nm (restS l) else []) := by
  by_cases h : hasS l = true
  · unfold restS
    rw [if_pos h, if_pos h]
    conv => lhs; rw [head_tail l h]
    exact nm_more _ (head_clean l)
  · have h2 : hasS l = false := by simpa using h
    rw [if_neg h]
    have := head_clean l
    rw [head_all l h2] at this ⊢
    exact nm_end this
theorem rest_len (l : S8) (h : hasS l = true) : (restS l).length < l.length := by
  have := congrArg List.length (head_tail l h)
  unfold restS
  rw [if_pos h]
  rw [List.length_append, List.length_cons] at this
  omega
theorem idx47 : ∀ l : S8, Lib.indexByte l 47 = if hasS l then ((headS l).length : Int) else -1 := by
  intro l
  induction l with
  | nil => rfl
  | cons c r ih =>
    by_cases hc : c = 47
    · subst hc; simp [Lib.indexByte, hasS, headS]
    · have e : headS (c :: r) = c :: headS r := by unfold headS; rw [List.takeWhile_cons, if_pos (by simpa using hc)]
      have h : hasS (c :: r) = hasS r := by unfold hasS; simp [hc]
      have hb : (c == 47) = false := beq_eq_false_iff_ne.2 hc
      rw [e, h]
      unfold Lib.indexByte
      rw [hb, ih]
      by_cases hr : hasS r = true
      · rw [if_pos hr]
        have : (((headS r).length : Int) == -1) = false := beq_eq_false_iff_ne.2 (by omega)
        simp [this, hr]
      · have hr2 : hasS r = false := by simpa using hr
        simp [hr2]
theorem all_pre {l : S8} {pre : List S8} (h : pre <+: nm l) (hb : pre.all okN = false) : allN l = false := by
  obtain ⟨t, e⟩ := h
  unfold allN
  rw [← e, List.all_append, hb, Bool.false_and]
end Go.Proofs.YtllpcllgliknpaaGreatDoor
/- strings.Index at "/". -/
set_option maxRecDepth 100000
namespace Go.Proofs.YtllpcllgliknpaaGreatDoor
open Go Go.RowKit

theorem ixb (l : S8) (w : World) : (callFunc 137 #[.string (mkS l), .int .u8 47]).run Tryz.prog w = .ok (.value (.int .i64 (Lib.indexByte l 47))) w := by
  have h := run_callFunc_extern (P := Tryz.prog) (f := 137) (e := Extern.BytealgIndexByte.indexByte) Tryz.func137 (by kernel_rfl) (by kernel_rfl) (by kernel_rfl) (by kernel_rfl) #[.string (mkS l), .int .u8 47] w
  rw [h, Lib.run_indexByteString (P := Tryz.prog)]
  have e : (mkS l).data.toList = l := by rw [← ByteArray.toList_eq, mkS_toList]
  rw [e]
  rfl
set_option maxRecDepth 100000 in
theorem ix47 (w : World) : (Instr.index 9 (.string ⟨#[47]⟩) (.int .i64 0)).run Tryz.prog w = .ok (.int .u8 47) w := by
  have e : (⟨#[47]⟩ : ByteArray) = mkS [47] := mkS_lit [47]
  have h := ix_S [47] 0 w (by decide)
  rw [e]
  have c : chr [47] 0 = 47 := by rw [chr_eq (by decide)]; rfl
  rw [c] at h
  exact h
attribute [local go_sem] ixb
attribute [local go_sem high] ix47
set_option maxRecDepth 100000 in
set_option maxHeartbeats 1000000 in
theorem index47 (l : S8) (w : World) (hl : l.length < 1000000) : Calls Tryz.prog 121 #[.string (mkS l), .string ⟨#[47]⟩] w fun e w' => e = .returned (.int .i64 (Lib.indexByte l 47)) ∧ w = w' := by
  by_cases h : l = [47]
  · subst h
    have hi : Lib.indexByte [47] 47 = 0 := by rw [idx47]; rfl
    rw [hi]
    go_enter Tryz.func121, Tryz.ntmps121
    go_wp2
    go_ret
    exact ⟨rfl, rfl⟩
  · have hb : ([47] == l) = false := beq_eq_false_iff_ne.2 (fun e => h e.symm)
    clear h
    go_enter Tryz.func121, Tryz.ntmps121
    go_wp2
    go_ret
    exact ⟨rfl, rfl⟩
set_option maxHeartbeats 1000000 in
theorem sindex47 (l : S8) (w : World) (hl : l.length < 1000000) : Calls Tryz.prog 102 #[.string (mkS l), .string ⟨#[47]⟩] w fun e w' => e = .returned (.int .i64 (Lib.indexByte l 47)) ∧ w = w' := by
  have HC := Lib.hid (index47 l w hl)
  generalize Lib.indexByte l 47 = x at *
  go_enter Tryz.func102, Tryz.ntmps102
  go_wp2_with fail
  refine HC.out.mono ?_
  rintro e w' ⟨rfl, rfl⟩
  go_wp2
  go_ret
  exact ⟨rfl, rfl⟩
end Go.Proofs.YtllpcllgliknpaaGreatDoor
/- strings.SplitSeq at "/": what it hands out. -/
set_option maxRecDepth 100000
namespace Go.Proofs.YtllpcllgliknpaaGreatDoor
open Go Go.RowKit Go.Shelf

attribute [local go_sem] Oper.semAt_some
/-- The iterator's three boxes: the separator, what is left, how much of the separator is kept. -/
structure Boxes (b1 b2 b3 : Nat) (r : S8) (A : World) : Prop where
  sep : A.cell? ⟨b1, 0, none⟩ = some (.string ⟨#[47]⟩)
  rest : A.cell? ⟨b2, 0, none⟩ = some (.string (mkS r))
  free : A.frozen? ⟨b2, 0, none⟩ = false
  save : A.cell? ⟨b3, 0, none⟩ = some (.int .i64 0)
theorem Boxes.below {b1 b2 b3 N : Nat} {r : S8} {A A' : World} (h : Boxes b1 b2 b3 r A) (hB : Below N A A') (h1 : b1 < N) (h2 : b2 < N) (h3 : b3 < N) : Boxes b1 b2 b3 r A' :=
  ⟨by rw [hB.cell (p := ⟨b1, 0, none⟩) h1]; exact h.sep, by rw [hB.cell (p := ⟨b2, 0, none⟩) h2]; exact h.rest, by rw [hB.frozen (p := ⟨b2, 0, none⟩) h2]; exact h.free, by rw [hB.cell (p := ⟨b3, 0, none⟩) h3]; exact h.save⟩
theorem Boxes.set {b1 b2 b3 : Nat} {r : S8} {A : World} (h : Boxes b1 b2 b3 r A) (h12 : b1 ≠ b2) (h32 : b3 ≠ b2) (t : S8) : Boxes b1 b2 b3 t (A.setCell ⟨b2, 0, none⟩ (.string (mkS t))) :=
  ⟨by rw [World.cell?_setCell_other _ _ _ _ (by simp [h12])]; exact h.sep, World.cell?_setCell_same' _ _ _ (by rw [h.rest]; rfl), by rw [World.frozen?_setCell]; exact h.free, by rw [World.cell?_setCell_other _ _ _ _ (by simp [h32])]; exact h.save⟩
/-- How much is left. -/
def leftB (b : Nat) (A : World) : Nat := match A.cell? ⟨b, 0, none⟩ with
  | some (.string s) => s.size
  | _ => 0
theorem leftB_eq {b1 b2 b3 : Nat} {r : S8} {A : World} (h : Boxes b1 b2 b3 r A) : leftB b2 A = r.length := by unfold leftB; rw [h.rest]; exact mkS_size r
set_option maxRecDepth 100000 in
set_option maxHeartbeats 2000000 in
theorem split_seq (m : Nat) (hm : 3 ≤ m) (b1 b2 b3 : Nat) (l : S8) (w : World) (h1 : b1 < w.heap.size) (h2 : b2 < w.heap.size) (h3 : b3 < w.heap.size) (h12 : b1 ≠ b2) (h32 : b3 ≠ b2) (hbx : Boxes b1 b2 b3 l w) (hl : l.length < 1000000) :
    Seq m 100 #[.pointer (some ⟨b1, 0, none⟩), .pointer (some ⟨b2, 0, none⟩), .pointer (some ⟨b3, 0, none⟩)] (fun x : S8 => #[.string (mkS x)]) b2 (nm l) w := by
  intro L J Jx A hA hJd hJs hY h0
  have hm1 : 1 ≤ m := by omega
  have hbA := hbx.below hA h1 h2 h3
  have c1 := hbA.sep
  refine callsIn_of_wp Tryz.func100 rfl trivial ?_ rfl
  simp only [Tryz.ntmps100, List.size_toArray, List.length_cons, List.length_nil, Nat.reduceAdd, Nat.reduceSub, Array.replicate_succ, Array.replicate_zero, List.push_toArray, List.append_toArray, List.nil_append, List.cons_append]
  gi_wp2
  gi_loopw [7, 8] (fun v7 v8 wr => ∃ (pre : List S8) (r : S8), nm l = pre ++ nm r ∧ r.length ≤ l.length ∧ Boxes b1 b2 b3 r wr ∧ J pre wr) (fun v7 v8 wr => leftB b2 wr)
  case atStart => exact ⟨[], l, rfl, Nat.le_refl _, hbA, h0⟩
  case round =>
    obtain ⟨pre, r, hn, hr, hbr, hJ0⟩ := hrel
    have d1 := hbr.sep
    have d2 := hbr.rest
    have d3 := hbr.save
    have d4 := hbr.free
    have HBR := Lib.hid hbr
    have HJ0 := Lib.hid hJ0
    have HI := Lib.hid (sindex47 r wr (by omega))
    rw [idx47] at HI
    have hcut := nm_cut r
    have hrest : restS r = if hasS r then r.drop ((headS r).length + 1) else [] := rfl
    have hlen := fun h => congrArg List.length (head_tail r h)
    have htake := fun h => (congrArg (List.take (headS r).length) (head_tail r h)).trans List.take_left
    have hall := head_all r
    by_cases hh : hasS r = true
    · rw [if_pos hh] at HI hcut
      rw [if_pos hh] at hrest
      have hlr : (headS r).length < r.length := by have := hlen hh; rw [List.length_append, List.length_cons] at this; omega
      have HT := Lib.hid (htake hh)
      have hdl : (restS r).length < r.length := rest_len r hh
      obtain ⟨fn, tmps, assign, body, hy, hR⟩ := hY pre (headS r) wr hJ0
      have HN := Lib.hid (show nm l = (pre ++ [headS r]) ++ nm (restS r) from by rw [hn, hcut]; simp)
      have HS := Lib.hid (hrest)
      generalize restS r = t at *
      generalize headS r = x at *
      obtain ⟨k, hk⟩ : ∃ k, x.length = k := ⟨_, rfl⟩
      rw [hk] at HI hlr HT HS
      have z1 : (0 : Int) ≤ (k : Int) := by omega
      have z2 : decide ((k : Int) < 0) = false := decide_eq_false (by omega)
      have hw0 : IntKind.i64.wrap (k : Int) = (k : Int) := by rw [IntKind.wrap_i64]; omega
      have hw : IntKind.i64.wrap ((k : Int) + 1) = (k : Int) + 1 := by rw [IntKind.wrap_i64]; omega
      have hs1 : ∀ u : World, (Instr.slice 9 (.string (mkS r)) none (some (.int .i64 (k : Int))) none).run Tryz.prog u = .ok (.string (mkS x)) u := fun u => by
        rw [sl_to r k u (by omega), HT.out]
      have hs2 : ∀ u : World, (Instr.slice 9 (.string (mkS r)) (some (.int .i64 ((k : Int) + 1))) none none).run Tryz.prog u = .ok (.string (mkS t)) u := fun u => by
        have := sl_from r (k + 1) u (by omega)
        rw [HS.out]
        simpa using this
      have HL := Lib.hid (And.intro hdl hr)
      clear hn hr hbr hJ0 hcut hrest hlen htake hall hh hk hdl
      dsimp only at hy
      gi_wp2_with (refine ⟨trivial, ?_⟩; gi_at_call 102; refine (callsIn_wide.2 HI.out).mono ?_; rintro e w' ⟨rfl, rfl⟩)
      refine hR.mono ?_
      rintro e W3 (⟨rfl, hJ3, hB3⟩ | ⟨rfl, hJx3⟩)
      · have hb3 := HBR.out.below hB3 h1 h2 h3
        have d1 := hb3.sep
        have d2 := hb3.rest
        have d3 := hb3.save
        have d4 := hb3.free
        have HB3 := Lib.hid hb3
        have HJ3 := Lib.hid hJ3
        clear hb3 hJ3 hB3
        gi_wp2
        go_roundw
        case rel => exact ⟨pre ++ [x], t, HN.out, Nat.le_of_lt (Nat.lt_of_lt_of_le HL.out.1 HL.out.2), HB3.out.set h12 h32 t, hJs _ _ _ HJ3.out⟩
        case measure => rw [leftB_eq (HB3.out.set h12 h32 t), leftB_eq HBR.out]; exact HL.out.1
      · gi_wp2
        refine bodyPost_ret (results_none rfl _ _ _) rfl ?_
        exact ⟨⟨_, rfl⟩, .inr ⟨pre ++ [x], ⟨nm t, HN.out.symm⟩, hJx3⟩⟩
    · have hh2 : hasS r = false := by simpa using hh
      rw [if_neg hh] at HI hcut
      have hx := hall hh2
      obtain ⟨fn, tmps, assign, body, hy, hR⟩ := hY pre r wr hJ0
      have HN := Lib.hid (show nm l = pre ++ [r] from by rw [hn, hcut, hx])
      clear hn hr hbr hJ0 hcut hrest hlen htake hall hh hh2 hx
      dsimp only at hy
      gi_wp2_with (refine ⟨trivial, ?_⟩; gi_at_call 102; refine (callsIn_wide.2 HI.out).mono ?_; rintro e w' ⟨rfl, rfl⟩)
      refine hR.mono ?_
      rintro e W3 (⟨rfl, hJ3, hB3⟩ | ⟨rfl, hJx3⟩)
      · gi_wp2
        go_end0
        exact ⟨⟨_, rfl⟩, .inl (by rw [HN.out]; exact hJ3)⟩
      · gi_wp2
        go_end0
        exact ⟨⟨_, rfl⟩, .inr ⟨pre ++ [r], ⟨[], by rw [List.append_nil, HN.out]⟩, hJx3⟩⟩
/-- strings.SplitSeq at "/": three boxes are laid. -/
theorem splitSeq_any (l : S8) (u : World) : Calls Tryz.prog 60 #[.string (mkS l), .string ⟨#[47]⟩] u fun e w' => e = .returned (.func (.func 100) #[] #[.pointer (some ⟨u.heap.size + 1, 0, none⟩), .pointer (some ⟨u.heap.size, 0, none⟩), .pointer (some ⟨u.heap.size + 2, 0, none⟩)]) ∧ w' = ((u.alloc (.cells #[.string (mkS l)] 9)).alloc (.cells #[.string ⟨#[47]⟩] 9)).alloc (.cells #[.int .i64 0] 3) := by
  have hmf : ∀ (fn : Fn) (first cap : Array Value) (w : World), (Instr.makeFunc fn first cap).run Tryz.prog w = .ok (.func fn first cap) w := fun _ _ _ _ => rfl
  have key : Calls Tryz.prog 76 #[.string (mkS l), .string ⟨#[47]⟩, .int .i64 0] u fun e w' => e = .returned (.func (.func 100) #[] #[.pointer (some ⟨u.heap.size + 1, 0, none⟩), .pointer (some ⟨u.heap.size, 0, none⟩), .pointer (some ⟨u.heap.size + 2, 0, none⟩)]) ∧ w' = ((u.alloc (.cells #[.string (mkS l)] 9)).alloc (.cells #[.string ⟨#[47]⟩] 9)).alloc (.cells #[.int .i64 0] 3) := by
    go_enter Tryz.func76, Tryz.ntmps76
    go_wp2
    go_ret
    exact ⟨rfl, rfl⟩
  have HC := Lib.hid key
  clear key
  go_enter Tryz.func60, Tryz.ntmps60
  go_wp2_with fail
  refine HC.out.mono ?_
  rintro e w' ⟨rfl, rfl⟩
  go_wp2
  go_ret
  exact ⟨rfl, rfl⟩
end Go.Proofs.YtllpcllgliknpaaGreatDoor
/- strings.IndexFunc and strings.ContainsFunc at any function that holds of all runes from 128 on. -/
set_option maxRecDepth 100000
namespace Go.Proofs.YtllpcllgliknpaaGreatDoor
open Go Go.RowKit

/-- The function value answers whether P holds, at every rune, as long as what lay below N stands as in w0. -/
def Tells (N : Nat) (w0 : World) (g : Nat) (caps : Array Value) (P : Nat → Bool) : Prop := ∀ (r : Nat) (u : World), r ≤ 2147483647 → Below N w0 u → Calls Tryz.prog g (#[.int .i32 (r : Int)] ++ caps) u fun e w' => e = .returned (.bool (P r)) ∧ Below u.heap.size u w'
theorem below_iter {N k : Nat} {w x : World} {s : ByteArray} {pos : Nat} (h : Below N w x) (hk : N ≤ k) (hlt : k < x.heap.size) : Below N w (x.iterAt k s pos) :=
  ⟨h.os, h.tape, h.output, by rw [Lib.iterAt_size]; exact h.size, fun j hj => by rw [Lib.iterAt_other _ _ _ _ _ (by omega)]; exact h.block j hj⟩
set_option maxRecDepth 100000 in
set_option maxHeartbeats 1000000 in
theorem indexFunc_any (N : Nat) (w0 : World) (g : Nat) (caps : Array Value) (P : Nat → Bool) (hent : ∀ args w, (callFunc g args).run Tryz.prog w = .ok (.enter g args) w) (hT : Tells N w0 g caps P) (hP : ∀ r, 128 ≤ r → P r = true) (l : S8) (u : World) (hN : N ≤ u.heap.size) (hB0 : Below N w0 u) :
    Calls Tryz.prog 133 #[.string (mkS l), .func (.func g) #[] caps, .bool true] u fun e w' => (∃ i : Int, e = .returned (.int .i64 i) ∧ -1 ≤ i ∧ (0 ≤ i ↔ l.any (fun c => P c.toNat) = true)) ∧ Below u.heap.size u w' := by
  obtain ⟨s, hs⟩ : ∃ s, mkS l = s := ⟨_, rfl⟩
  have hsz : s.size = l.length := by rw [← hs, mkS_size]
  have hget : ∀ i (h : i < s.size), (s[i]).toNat = chr l i := by subst hs; exact fun i h => mkS_get l i h
  rw [hs]
  have HSZ := Lib.hid hsz
  have HGET := Lib.hid hget
  have HT := Lib.hid (fun (r : Nat) (x : World) (hr : r ≤ 2147483647) (hx : Below u.heap.size u x) => hT r x hr (hB0.trans (hx.mono hN)))
  have HP := Lib.hid hP
  clear hs hsz hget hT hP hB0 hN
  go_enter Tryz.func133, Tryz.ntmps133
  go_wp2
  go_loopw [7, 8] (fun va vb wr => ∃ pos : Nat, wr.heap[u.heap.size]? = some (.stringIter s pos) ∧ pos ≤ l.length ∧ (∀ j, j < pos → P (chr l j) = false) ∧ Below u.heap.size u wr) (fun va vb wr => l.length - wr.iterPos u.heap.size)
  case atStart => exact ⟨0, World.iter_heap _ _ _, Nat.zero_le _, fun j h => absurd h (by omega), (Below.refl _ _).alloc (Nat.le_refl _) _⟩
  case round =>
    obtain ⟨pos, hk, hle, hno, hB⟩ := hrel
    have HK := Lib.hid hk
    have HNO := Lib.hid hno
    have HB := Lib.hid hB
    have hlt := (Array.getElem?_eq_some_iff.1 hk).1
    by_cases hp : pos < s.size
    · have hpl : pos < l.length := by rw [← HSZ.out]; exact hp
      have hch := HGET.out pos hp
      obtain ⟨c, hc⟩ : ∃ c, chr l pos = c := ⟨_, rfl⟩
      rw [hc] at hch
      have hci : (l[pos]).toNat = c := by rw [← chr_eq hpl]; exact hc
      have hin : P c = true → l.any (fun c => P c.toNat) = true := fun h => by rw [List.any_eq_true]; exact ⟨l[pos], List.getElem_mem hpl, by rw [hci]; exact h⟩
      have HIN := Lib.hid hin
      by_cases ha : c < 128
      · have hnx : ∀ ty, (Instr.next (.pointer (some ⟨u.heap.size, 0, none⟩)) true ty).run Tryz.prog wr = .ok (.tuple #[.bool true, .int .i64 pos, .int .i32 (c : Int)]) (wr.iterAt u.heap.size s (pos + 1)) := fun ty => by
          rw [Lib.run_next_ascii_at wr u.heap.size s pos ty hk hp (by rw [hch]; exact ha), hch]
        have hB2 := below_iter (s := s) (pos := pos + 1) hB (Nat.le_refl _) hlt
        have hk2 := Lib.iterAt_heap wr u.heap.size s pos (pos + 1) hk
        generalize wr.iterAt u.heap.size s (pos + 1) = x at *
        have HB2 := Lib.hid hB2
        have HK2 := Lib.hid hk2
        have HC := Lib.hid (HT.out c x (by omega) HB2.out)
        have HIP := Lib.hid (iterPos_of hk)
        have HPL := Lib.hid hpl
        cases hPc : P c with
        | true =>
          rw [hPc] at HC
          have HI := Lib.hid (HIN.out hPc)
          clear hPc hin hno hB hk hB2 hk2 hci hch hc
          go_wp2_with (refine HC.out.mono ?_; rintro e x2 ⟨rfl, hB3⟩; have HB3 := Lib.hid (HB2.out.trans (hB3.mono HB2.out.size)); clear hB3)
          go_ret
          exact ⟨⟨_, rfl, by omega, fun _ => HI.out, fun _ => by omega⟩, HB3.out⟩
        | false =>
          rw [hPc] at HC
          have HNN := Lib.hid (show ∀ j, j < pos + 1 → P (chr l j) = false from fun j h => by
            rcases Nat.lt_succ_iff_lt_or_eq.1 h with h | h
            · exact HNO.out j h
            · rw [h, hc]; exact hPc)
          clear hPc hin hno hB hk hB2 hk2 hci hch hc
          go_wp2_with (refine HC.out.mono ?_; rintro e x2 ⟨rfl, hB3⟩; have HB3 := Lib.hid (HB2.out.trans (hB3.mono HB2.out.size)); have HK3 := Lib.hid (show x2.heap[u.heap.size]? = some (.stringIter s (pos + 1)) from by rw [hB3.block _ (Array.getElem?_eq_some_iff.1 HK2.out).1]; exact HK2.out); clear hB3)
          exact ⟨⟨pos + 1, HK3.out, by have := HPL.out; omega, HNN.out, HB3.out⟩, by rw [iterPos_of HK3.out, HIP.out]; have := HPL.out; omega⟩
      · have ha2 : 128 ≤ (s[pos]).toNat := by rw [hch]; omega
        have hd := (decode_high s pos hp ha2).1
        have hdl := decode_le s pos
        obtain ⟨r, hr⟩ : ∃ r, (Utf8.decode s pos).1 = r := ⟨_, rfl⟩
        obtain ⟨d, hdd⟩ : ∃ d, pos + (Utf8.decode s pos).2 = d := ⟨_, rfl⟩
        rw [hr] at hd hdl
        have hnx : ∀ ty, (Instr.next (.pointer (some ⟨u.heap.size, 0, none⟩)) true ty).run Tryz.prog wr = .ok (.tuple #[.bool true, .int .i64 pos, .int .i32 (r : Int)]) (wr.iterAt u.heap.size s d) := fun ty => by
          rw [Lib.run_next_any_at wr u.heap.size s pos ty hk hp, hr, hdd]
        have hB2 := below_iter (s := s) (pos := d) hB (Nat.le_refl _) hlt
        generalize wr.iterAt u.heap.size s d = x at *
        have HB2 := Lib.hid hB2
        have HC := Lib.hid (HT.out r x hdl HB2.out)
        rw [HP.out r hd] at HC
        have HI := Lib.hid (HIN.out (HP.out c (by omega)))
        clear hin hno hB hk hB2 hci hch hc hr hdd ha2 hdl
        go_wp2_with (refine HC.out.mono ?_; rintro e x2 ⟨rfl, hB3⟩; have HB3 := Lib.hid (HB2.out.trans (hB3.mono HB2.out.size)); clear hB3)
        go_ret
        exact ⟨⟨_, rfl, by omega, fun _ => HI.out, fun _ => by omega⟩, HB3.out⟩
    · have hnx : ∀ ty, (Instr.next (.pointer (some ⟨u.heap.size, 0, none⟩)) true ty).run Tryz.prog wr = .ok (.tuple #[.bool false]) wr := fun ty => Lib.run_next_end_at wr u.heap.size s pos ty hk hp
      have HI := Lib.hid (show l.any (fun c => P c.toNat) = false from by
        rw [List.any_eq_false]
        intro c hc
        obtain ⟨j, hj, rfl⟩ := List.getElem_of_mem hc
        have := hno j (by rw [HSZ.out] at hp; omega)
        rw [chr_eq hj] at this
        simp [this])
      clear hno hB hk
      go_wp2
      go_ret
      exact ⟨⟨_, rfl, by decide, fun h => absurd h (by decide), fun h => by rw [HI.out] at h; cases h⟩, HB.out⟩
set_option maxHeartbeats 1000000 in
theorem IndexFunc_any (N : Nat) (w0 : World) (g : Nat) (caps : Array Value) (P : Nat → Bool) (hent : ∀ args w, (callFunc g args).run Tryz.prog w = .ok (.enter g args) w) (hT : Tells N w0 g caps P) (hP : ∀ r, 128 ≤ r → P r = true) (l : S8) (u : World) (hN : N ≤ u.heap.size) (hB0 : Below N w0 u) :
    Calls Tryz.prog 122 #[.string (mkS l), .func (.func g) #[] caps] u fun e w' => (∃ i : Int, e = .returned (.int .i64 i) ∧ -1 ≤ i ∧ (0 ≤ i ↔ l.any (fun c => P c.toNat) = true)) ∧ Below u.heap.size u w' := by
  have HC := Lib.hid (indexFunc_any N w0 g caps P hent hT hP l u hN hB0)
  clear hent hT hP hB0 hN
  go_enter Tryz.func122, Tryz.ntmps122
  go_wp2_with fail
  refine HC.out.mono ?_
  rintro e w2 ⟨⟨i, rfl, h1, h2⟩, hB⟩
  have HX := Lib.hid (And.intro h1 (And.intro h2 hB))
  clear h1 h2 hB HC
  go_wp2
  go_ret
  exact ⟨⟨i, rfl, HX.out.1, HX.out.2.1⟩, HX.out.2.2⟩
set_option maxHeartbeats 1000000 in
theorem ContainsFunc_any (N : Nat) (w0 : World) (g : Nat) (caps : Array Value) (P : Nat → Bool) (hent : ∀ args w, (callFunc g args).run Tryz.prog w = .ok (.enter g args) w) (hT : Tells N w0 g caps P) (hP : ∀ r, 128 ≤ r → P r = true) (l : S8) (u : World) (hN : N ≤ u.heap.size) (hB0 : Below N w0 u) :
    Calls Tryz.prog 103 #[.string (mkS l), .func (.func g) #[] caps] u fun e w' => e = .returned (.bool (l.any (fun c => P c.toNat))) ∧ Below u.heap.size u w' := by
  have HC := Lib.hid (IndexFunc_any N w0 g caps P hent hT hP l u hN hB0)
  clear hent hT hP hB0 hN
  go_enter Tryz.func103, Tryz.ntmps103
  go_wp2_with fail
  refine HC.out.mono ?_
  rintro e w2 ⟨⟨i, rfl, h1, h2⟩, hB⟩
  have HB := Lib.hid hB
  clear hB HC
  by_cases h : 0 ≤ i
  · have HA := Lib.hid (h2.1 h)
    have hd : decide (0 ≤ i) = true := decide_eq_true h
    clear h2
    go_wp2
    go_ret
    exact ⟨by rw [HA.out]; rfl, HB.out⟩
  · have HA := Lib.hid (show l.any (fun c => P c.toNat) = false from by
      cases hh : l.any (fun c => P c.toNat) with
      | true => exact absurd (h2.2 hh) h
      | false => rfl)
    have hd : decide (0 ≤ i) = false := decide_eq_false h
    clear h2
    go_wp2
    go_ret
    exact ⟨by rw [HA.out]; rfl, HB.out⟩
end Go.Proofs.YtllpcllgliknpaaGreatDoor
/- strings.IndexRune and strings.ContainsRune at whatever rune, over a string of five ASCII bytes; what a name may have, what a digest's text may have. -/
set_option maxRecDepth 100000
namespace Go.Proofs.YtllpcllgliknpaaGreatDoor
open Go Go.RowKit

theorem bytesL (l : S8) : (mkS l).data.toList = l := by rw [← ByteArray.toList_eq, mkS_toList]
/-- The library's search for one byte, in the model. -/
theorem ixc (l : S8) (c : Int) (w : World) : (callFunc 137 #[.string (mkS l), .int .u8 c]).run Tryz.prog w = .ok (.value (.int .i64 (Lib.indexByte l c.toNat.toUInt8))) w := by
  have h := run_callFunc_extern (P := Tryz.prog) (f := 137) (e := Extern.BytealgIndexByte.indexByte) Tryz.func137 (by kernel_rfl) (by kernel_rfl) (by kernel_rfl) (by kernel_rfl) #[.string (mkS l), .int .u8 c] w
  rw [h, Lib.run_indexByteString (P := Tryz.prog), bytesL]
  rfl
attribute [local go_sem] ixc
theorem indexByte_lite (l : S8) (c : Int) (w : World) : Calls Tryz.prog 129 #[.string (mkS l), .int .u8 c] w fun e w' => e = .returned (.int .i64 (Lib.indexByte l c.toNat.toUInt8)) ∧ w = w' := by
  go_enter Tryz.func129, Tryz.ntmps129
  go_wp2
  go_ret
  exact ⟨rfl, rfl⟩
theorem indexByte_any (l : S8) (c : Int) (w : World) : Calls Tryz.prog 134 #[.string (mkS l), .int .u8 c] w fun e w' => e = .returned (.int .i64 (Lib.indexByte l c.toNat.toUInt8)) ∧ w = w' := by
  have HC := Lib.hid (indexByte_lite l c w)
  generalize Lib.indexByte l c.toNat.toUInt8 = x at *
  go_enter Tryz.func134, Tryz.ntmps134
  go_wp2_with fail
  refine HC.out.mono ?_
  rintro e w' ⟨rfl, rfl⟩
  go_wp2
  go_ret
  exact ⟨rfl, rfl⟩
theorem indexByte_has (l : S8) (c : UInt8) : (0 ≤ Lib.indexByte l c) = (l.contains c = true) ∧ -1 ≤ Lib.indexByte l c := by
  induction l with
  | nil => exact ⟨by simp [Lib.indexByte], by simp [Lib.indexByte]⟩
  | cons b r ih =>
    obtain ⟨i1, i2⟩ := ih
    unfold Lib.indexByte
    by_cases h : b = c
    · subst h; simp
    · have hb : (b == c) = false := beq_eq_false_iff_ne.2 h
      have hcb : (c == b) = false := beq_eq_false_iff_ne.2 (fun e => h e.symm)
      rw [List.contains_cons, hcb, Bool.false_or, ← i1, hb]
      by_cases h1 : Lib.indexByte r c = -1
      · have e1 : (Lib.indexByte r c == -1) = true := by rw [h1]; rfl
        simp [e1, h1]
      · have e1 : (Lib.indexByte r c == -1) = false := beq_eq_false_iff_ne.2 h1
        rw [e1]
        simp only [Bool.false_eq_true, if_false]
        exact ⟨propext (by omega), by omega⟩
theorem indexByte_none {l : S8} {c : UInt8} (h : ∀ b ∈ l, b ≠ c) : Lib.indexByte l c = -1 := by
  obtain ⟨h1, h2⟩ := indexByte_has l c
  have : ¬ l.contains c = true := by simpa using fun hc => h c hc rfl
  rw [← h1] at this
  omega
set_option maxRecDepth 1000000 in
set_option maxHeartbeats 2000000 in
/-- A rune of ASCII. -/
theorem indexRune_lo (l : S8) (r : Nat) (w : World) (hr : r < 128) : Calls Tryz.prog 123 #[.string (mkS l), .int .i32 (r : Int)] w fun e w' => e = .returned (.int .i64 (Lib.indexByte l (UInt8.ofNat r))) ∧ w = w' := by
  have HC := Lib.hid (show Calls Tryz.prog 134 #[.string (mkS l), .int .u8 (r : Int)] w _ from indexByte_any l (r : Int) w)
  have e : ((r : Int).toNat.toUInt8) = UInt8.ofNat r := by simp [Nat.toUInt8]
  rw [e] at HC
  generalize Lib.indexByte l (UInt8.ofNat r) = x at *
  have z1 : (r : Int) < 128 := by omega
  have z2 : decide ((r : Int) < 128) = true := decide_eq_true z1
  have z3 : IntKind.u8.wrap (r : Int) = (r : Int) := by unfold IntKind.wrap; simp [IntKind.bits, IntKind.signed]; omega
  go_enter Tryz.func123, Tryz.ntmps123
  go_wp2_with fail
  refine HC.out.mono ?_
  rintro e w' ⟨rfl, rfl⟩
  go_wp2
  go_ret
  exact ⟨rfl, rfl⟩
theorem valid_any (r : Int) (w : World) : Calls Tryz.prog 135 #[.int .i32 r] w fun e w' => e = .returned (.bool (Utf8.valid r)) ∧ w = w' := by
  rw [validRune_eq]
  obtain ⟨v, hv⟩ : ∃ v, validRune r = v := ⟨_, rfl⟩
  rw [hv]
  unfold validRune at hv
  by_cases h1 : 0 ≤ r ∧ r < 55296
  · obtain rfl : v = true := hv.symm.trans (decide_eq_true (Or.inl h1))
    obtain ⟨a1, a2⟩ := h1
    clear hv
    go_enter Tryz.func135, Tryz.ntmps135
    go_wp2
    go_ret
    exact ⟨rfl, rfl⟩
  · by_cases h2 : 57343 < r ∧ r ≤ 1114111
    · obtain rfl : v = true := hv.symm.trans (decide_eq_true (Or.inr h2))
      obtain ⟨a1, a2⟩ := h2
      have a3 : ¬ r < 55296 := by omega
      have a4 : 0 ≤ r := by omega
      clear h1 hv
      go_enter Tryz.func135, Tryz.ntmps135
      go_wp2
      go_ret
      exact ⟨rfl, rfl⟩
    · obtain rfl : v = false := hv.symm.trans (decide_eq_false (fun h => h.elim h1 h2))
      clear hv
      by_cases b1 : 0 ≤ r
      · have b2 : ¬ r < 55296 := fun h => h1 ⟨b1, h⟩
        by_cases b3 : 57343 < r
        · have b4 : ¬ r ≤ 1114111 := fun h => h2 ⟨b3, h⟩
          clear h1 h2
          go_enter Tryz.func135, Tryz.ntmps135
          go_wp2
          go_ret
          exact ⟨rfl, rfl⟩
        · clear h1 h2
          go_enter Tryz.func135, Tryz.ntmps135
          go_wp2
          go_ret
          exact ⟨rfl, rfl⟩
      · have b3 : ¬ 57343 < r := by omega
        clear h1 h2
        go_enter Tryz.func135, Tryz.ntmps135
        go_wp2
        go_ret
        exact ⟨rfl, rfl⟩
/-- Bytes of ASCII, five of them. -/
def Low5 (l : S8) : Prop := l.length = 5 ∧ ∀ c ∈ l, c.toNat < 128
theorem Low5.get {l : S8} (h : Low5 l) (i : Nat) (hi : i < l.length) : chr l i < 128 := by
  rw [chr_eq hi]
  exact h.2 _ (List.getElem_mem hi)
set_option maxRecDepth 1000000 in
set_option maxHeartbeats 2000000 in
/-- A rune that is no rune. -/
theorem indexRune_no (l : S8) (r : Nat) (w : World) (hr : 128 ≤ r) (hf : r ≠ 65533) (hv : Utf8.valid (r : Int) = false) : Calls Tryz.prog 123 #[.string (mkS l), .int .i32 (r : Int)] w fun e w' => e = .returned (.int .i64 (-1)) ∧ w = w' := by
  have HV := Lib.hid (valid_any (r : Int) w)
  rw [hv] at HV
  have z0 : (0 : Int) ≤ (r : Int) := by omega
  have z1 : ¬ (r : Int) < 128 := by omega
  have z2 : decide ((r : Int) < 128) = false := decide_eq_false z1
  have z3 : ((r : Int) == 65533) = false := by simp; omega
  clear hv hr hf
  go_enter Tryz.func123, Tryz.ntmps123
  go_wp2_with fail
  refine HV.out.mono ?_
  rintro e w' ⟨rfl, rfl⟩
  go_wp2
  go_ret
  exact ⟨rfl, rfl⟩
end Go.Proofs.YtllpcllgliknpaaGreatDoor
/- strings.IndexRune at runes beyond ASCII; strings.ContainsRune. -/
set_option maxRecDepth 100000
namespace Go.Proofs.YtllpcllgliknpaaGreatDoor
open Go Go.RowKit

set_option maxRecDepth 1000000 in
set_option maxHeartbeats 4000000 in
/-- The rune that stands for what is no rune: the string's runes are gone through. -/
theorem indexRune_bad (l : S8) (hl : Low5 l) (u : World) : Calls Tryz.prog 123 #[.string (mkS l), .int .i32 65533] u fun e w' => e = .returned (.int .i64 (-1)) ∧ Below u.heap.size u w' := by
  obtain ⟨s, hs⟩ : ∃ s, mkS l = s := ⟨_, rfl⟩
  have hsz : s.size = l.length := by rw [← hs, mkS_size]
  have hget : ∀ i (h : i < s.size), (s[i]).toNat < 128 := by subst hs; exact fun i h => by rw [mkS_get l i h]; exact hl.get i (by rw [mkS_size] at h; exact h)
  rw [hs]
  have HSZ := Lib.hid hsz
  have HGET := Lib.hid hget
  clear hs hsz hget hl
  go_enter Tryz.func123, Tryz.ntmps123
  go_wp2
  go_loopw [5, 6] (fun va vb wr => ∃ pos : Nat, wr.heap[u.heap.size]? = some (.stringIter s pos) ∧ pos ≤ l.length ∧ Below u.heap.size u wr) (fun va vb wr => l.length - wr.iterPos u.heap.size)
  case atStart => exact ⟨0, World.iter_heap _ _ _, Nat.zero_le _, (Below.refl _ _).alloc (Nat.le_refl _) _⟩
  case round =>
    obtain ⟨pos, hk, hle, hB⟩ := hrel
    have HK := Lib.hid hk
    have HB := Lib.hid hB
    have hlt := (Array.getElem?_eq_some_iff.1 hk).1
    by_cases hp : pos < s.size
    · have hpl : pos < l.length := by rw [← HSZ.out]; exact hp
      have ha := HGET.out pos hp
      obtain ⟨c, hc⟩ : ∃ c, (s[pos]).toNat = c := ⟨_, rfl⟩
      rw [hc] at ha
      have hnx : ∀ ty, (Instr.next (.pointer (some ⟨u.heap.size, 0, none⟩)) true ty).run Tryz.prog wr = .ok (.tuple #[.bool true, .int .i64 pos, .int .i32 (c : Int)]) (wr.iterAt u.heap.size s (pos + 1)) := fun ty => by
        rw [Lib.run_next_ascii_at wr u.heap.size s pos ty hk hp (by rw [hc]; exact ha), hc]
      have HB2 := Lib.hid (below_iter (s := s) (pos := pos + 1) hB (Nat.le_refl _) hlt)
      have HK2 := Lib.hid (Lib.iterAt_heap wr u.heap.size s pos (pos + 1) hk)
      generalize wr.iterAt u.heap.size s (pos + 1) = x at *
      have HIP := Lib.hid (iterPos_of hk)
      have HPL := Lib.hid hpl
      have z3 : ((c : Int) == 65533) = false := by simp; omega
      clear hB hk hc ha
      go_wp2
      exact ⟨⟨pos + 1, HK2.out, by have := HPL.out; omega, HB2.out⟩, by rw [iterPos_of HK2.out, HIP.out]; have := HPL.out; omega⟩
    · have hnx : ∀ ty, (Instr.next (.pointer (some ⟨u.heap.size, 0, none⟩)) true ty).run Tryz.prog wr = .ok (.tuple #[.bool false]) wr := fun ty => Lib.run_next_end_at wr u.heap.size s pos ty hk hp
      clear hB hk
      go_wp2
      go_ret
      exact ⟨rfl, HB.out⟩
attribute [local go_sem high] sl_from
set_option maxRecDepth 1000000 in
set_option maxHeartbeats 4000000 in
/-- A rune beyond ASCII: the last byte of its encoding is none of ASCII. -/
theorem indexRune_hi (l : S8) (hl : Low5 l) (r : Nat) (w : World) (hr : 128 ≤ r) (hf : r ≠ 65533) (hv : Utf8.valid (r : Int) = true) : Calls Tryz.prog 123 #[.string (mkS l), .int .i32 (r : Int)] w fun e w' => e = .returned (.int .i64 (-1)) ∧ Below w.heap.size w w' := by
  have HV := Lib.hid (valid_any (r : Int) w)
  rw [hv] at HV
  have z0 : (0 : Int) ≤ (r : Int) := by omega
  have z1 : ¬ (r : Int) < 128 := by omega
  have z2 : decide ((r : Int) < 128) = false := decide_eq_false z1
  have z3 : ((r : Int) == 65533) = false := by simp; omega
  obtain ⟨f1, f2, f3⟩ := encode_facts (r : Int) hv (by omega)
  have hcv : ∀ u, (convert 21 9 (.int .i32 (r : Int))).run Tryz.prog u = .ok (.string (Utf8.encode (r : Int))) u := fun u => run_convert_int_string u 21 9 .i32 (r : Int) (by kernel_rfl) (by kernel_rfl)
  obtain ⟨z, hz⟩ : ∃ z, Utf8.encode (r : Int) = mkS z := ⟨_, (mkS_of _).symm⟩
  rw [hz] at hcv f1 f2 f3
  rw [mkS_size] at f1 f2
  obtain ⟨n, hn⟩ : ∃ n, z.length = n + 1 := ⟨z.length - 1, by omega⟩
  have hch : 128 ≤ chr z n := by
    have := f3 (by rw [mkS_size]; omega)
    rw [mkS_get] at this
    rw [mkS_size] at this
    rw [show n = z.length - 1 by omega]
    exact this
  obtain ⟨c, hc⟩ : ∃ c, chr z n = c := ⟨_, rfl⟩
  have hc256 : c < 256 := by rw [← hc]; exact chr_lt _ _
  have hixz : ∀ u, (Instr.index 9 (.string (mkS z)) (.int .i64 (n : Int))).run Tryz.prog u = .ok (.int .u8 (c : Int)) u := fun u => by rw [ix_S z n u (by omega), hc]
  obtain ⟨b, hb⟩ : ∃ b, chr l n = b := ⟨_, rfl⟩
  have hb128 : b < 128 := by rw [← hb]; exact hl.get n (by rw [hl.1]; omega)
  have hixl : ∀ u, (Instr.index 9 (.string (mkS l)) (.int .i64 (n : Int))).run Tryz.prog u = .ok (.int .u8 (b : Int)) u := fun u => by rw [ix_S l n u (by rw [hl.1]; omega), hb]
  have hne : ((b : Int) == (c : Int)) = false := by simp; omega
  have hsl : ∀ u, (Instr.slice 9 (.string (mkS l)) (some (.int .i64 ((n : Int) + 1))) none none).run Tryz.prog u = .ok (.string (mkS (l.drop (n + 1)))) u := fun u => by
    have := sl_from l (n + 1) u (by rw [hl.1]; omega)
    simpa using this
  have hll : (l.length : Int) = 5 := by rw [hl.1]; rfl
  have hzl : (z.length : Int) = (n : Int) + 1 := by omega
  have hn4 : n < 4 := by omega
  have HI := Lib.hid (fun u => indexByte_any (l.drop (n + 1)) (c : Int) u)
  have e : ((c : Int).toNat.toUInt8) = UInt8.ofNat c := by simp [Nat.toUInt8]
  have hno : Lib.indexByte (l.drop (n + 1)) (UInt8.ofNat c) = -1 := indexByte_none fun x hx e => by
    have h1 := hl.2 x (List.mem_of_mem_drop hx)
    rw [e] at h1
    simp [Nat.mod_eq_of_lt hc256] at h1
    omega
  rw [e, hno] at HI
  have w1 : IntKind.i64.wrap (n : Int) = (n : Int) := by rw [IntKind.wrap_i64]; clear e; omega
  have w2 : IntKind.i64.wrap ((n : Int) + 1) = (n : Int) + 1 := by rw [IntKind.wrap_i64]; clear e; omega
  have w3 : (n : Int) + 1 - 1 = (n : Int) := by omega
  have y1 : (n : Int) < 5 := by omega
  have y2 : decide ((n : Int) < 5) = true := decide_eq_true y1
  generalize l.drop (n + 1) = q at *
  clear hv hr hf hz f1 f2 f3 hch hb hc hc256 hb128 e hno hl hn
  go_enter Tryz.func123, Tryz.ntmps123
  go_wp2_with fail
  refine HV.out.mono ?_
  rintro e w' ⟨rfl, rfl⟩
  go_wp2
  go_step3
  go_wp2
  go_loopw [9, 10, 11, 12] (fun vi vf vo vj wr => vi = .int .i64 (n : Int) ∧ vf = .int .i64 0 ∧ vo = undef ∧ vj = undef ∧ Dr w wr) (fun vi vf vo vj _ => 0)
  case atStart => exact ⟨rfl, rfl, rfl, rfl, Dr.refl w⟩
  case round =>
    obtain ⟨rfl, rfl, rfl, rfl, hD⟩ := hrel
    have HD := Lib.hid hD
    clear hD
    go_wp2
    go_step3
    go_wp2
    go_quiet (fail)
    have HD2 := Lib.hid (HD.out.drewN nq)
    generalize wr.drewN nq = wq at *
    go_wp2
    go_quiet ((go_at_call 134; exact Calls.quiet_of_same ((HI.out _).mono fun e w' ⟨he, hw⟩ => ⟨he, hw.symm⟩)))
    go_wp2
    rw [Exit.noGoto_ret]
    go_wp2
    rw [Exit.noGoto_ret]
    go_ret
    exact ⟨rfl, (HD2.out.drewN nq).below _⟩
/-- What is no ASCII is not found among ASCII. -/
def hasR (l : S8) (r : Nat) : Bool := decide (r < 128) && l.contains (UInt8.ofNat r)
theorem containsRune_any (l : S8) (hl : Low5 l) (r : Nat) (w : World) : Calls Tryz.prog 106 #[.string (mkS l), .int .i32 (r : Int)] w fun e w' => e = .returned (.bool (hasR l r)) ∧ Below w.heap.size w w' := by
  have key : Calls Tryz.prog 123 #[.string (mkS l), .int .i32 (r : Int)] w fun e w' => ∃ i : Int, e = .returned (.int .i64 i) ∧ decide (0 ≤ i) = hasR l r ∧ Below w.heap.size w w' := by
    by_cases h : r < 128
    · refine (indexRune_lo l r w h).mono ?_
      rintro e w' ⟨rfl, rfl⟩
      refine ⟨_, rfl, ?_, Below.refl _ _⟩
      have := (indexByte_has l (UInt8.ofNat r)).1
      unfold hasR
      rw [decide_eq_true h, Bool.true_and]
      cases hc : l.contains (UInt8.ofNat r) with
      | true => exact decide_eq_true (this ▸ hc)
      | false => exact decide_eq_false (fun h0 => by rw [this, hc] at h0; cases h0)
    · have hh : hasR l r = false := by unfold hasR; rw [decide_eq_false h]; rfl
      rw [hh]
      have fin : ∀ e w', (e = Ending.returned (.int .i64 (-1)) ∧ Below w.heap.size w w') → ∃ i : Int, e = .returned (.int .i64 i) ∧ decide (0 ≤ i) = false ∧ Below w.heap.size w w' := fun e w' k => ⟨-1, k.1, rfl, k.2⟩
      by_cases hf : r = 65533
      · subst hf
        exact (indexRune_bad l hl w).mono fin
      · cases hv : Utf8.valid (r : Int) with
        | true => exact (indexRune_hi l hl r w (by omega) hf hv).mono fin
        | false => exact (indexRune_no l r w (by omega) hf hv).mono fun e w' k => fin e w' ⟨k.1, by rw [← k.2]; exact Below.refl _ _⟩
  have HC := Lib.hid key
  clear key hl
  generalize hasR l r = b at *
  go_enter Tryz.func106, Tryz.ntmps106
  go_wp2_with fail
  refine HC.out.mono ?_
  rintro e w2 ⟨i, rfl, hd, hB⟩
  have HB := Lib.hid hB
  clear hB HC
  go_wp2
  go_ret
  exact ⟨by first | rfl | rw [hd], HB.out⟩
/-! ### What a name may have; what a digest's text may have -/
def betw (r a b : Nat) : Bool := decide (a ≤ r) && decide (r ≤ b)
theorem between_any (r a b : Nat) (w : World) : Calls Tryz.prog 105 #[.int .i32 (r : Int), .int .i32 (a : Int), .int .i32 (b : Int)] w fun e w' => e = .returned (.bool (betw r a b)) ∧ w = w' := by
  by_cases h1 : a ≤ r
  · have z1 : (a : Int) ≤ (r : Int) := by omega
    have z2 : decide ((a : Int) ≤ (r : Int)) = true := decide_eq_true z1
    by_cases h2 : r ≤ b
    · have HS := Lib.hid (show betw r a b = true from by unfold betw; rw [decide_eq_true h1, decide_eq_true h2]; rfl)
      have z3 : (r : Int) ≤ (b : Int) := by omega
      have z4 : decide ((r : Int) ≤ (b : Int)) = true := decide_eq_true z3
      go_enter Tryz.func105, Tryz.ntmps105
      go_wp2
      go_ret
      exact ⟨by rw [HS.out]; rfl, rfl⟩
    · have HS := Lib.hid (show betw r a b = false from by unfold betw; rw [decide_eq_true h1, decide_eq_false h2]; rfl)
      have z3 : ¬ (r : Int) ≤ (b : Int) := by omega
      have z4 : decide ((r : Int) ≤ (b : Int)) = false := decide_eq_false z3
      go_enter Tryz.func105, Tryz.ntmps105
      go_wp2
      go_ret
      exact ⟨by rw [HS.out]; rfl, rfl⟩
  · have HS := Lib.hid (show betw r a b = false from by unfold betw; rw [decide_eq_false h1]; rfl)
    have z1 : ¬ (a : Int) ≤ (r : Int) := by omega
    have z2 : decide ((a : Int) ≤ (r : Int)) = false := decide_eq_false z1
    go_enter Tryz.func105, Tryz.ntmps105
    go_wp2
    go_ret
    exact ⟨by rw [HS.out]; rfl, rfl⟩
def moreS : S8 := [45, 95, 46, 126, 43]
theorem more5 : Low5 moreS := ⟨rfl, by decide⟩
def nameR (r : Nat) : Bool := betw r 97 122 || betw r 65 90 || betw r 48 57 || hasR moreS r
set_option maxHeartbeats 1000000 in
theorem inName_any (r : Nat) (w : World) : Calls Tryz.prog 78 #[.int .i32 (r : Int)] w fun e w' => e = .returned (.bool (nameR r)) ∧ Below w.heap.size w w' := by
  have H1 := Lib.hid (fun u => between_any r 97 122 u)
  have H2 := Lib.hid (fun u => between_any r 65 90 u)
  have H3 := Lib.hid (fun u => between_any r 48 57 u)
  have H4 := Lib.hid (show Calls Tryz.prog 106 #[.string ⟨#[45, 95, 46, 126, 43]⟩, .int .i32 (r : Int)] w (fun e w' => e = .returned (.bool (hasR moreS r)) ∧ Below w.heap.size w w') from by have := containsRune_any moreS more5 r w; rw [← mkS_lit] at this; exact this)
  unfold nameR
  generalize betw r 97 122 = b1 at *
  generalize betw r 65 90 = b2 at *
  generalize betw r 48 57 = b3 at *
  generalize hasR moreS r = b4 at *
  cases b1 with
  | true =>
    go_enter Tryz.func78, Tryz.ntmps78
    go_wp2_with fail
    refine (H1.out _).mono ?_
    rintro e w' ⟨rfl, rfl⟩
    go_wp2
    go_ret
    exact ⟨rfl, Below.refl _ _⟩
  | false =>
    cases b2 with
    | true =>
      go_enter Tryz.func78, Tryz.ntmps78
      go_wp2_with fail
      refine (H1.out _).mono ?_
      rintro e w' ⟨rfl, rfl⟩
      go_wp2_with fail
      refine (H2.out _).mono ?_
      rintro e w' ⟨rfl, rfl⟩
      go_wp2
      go_ret
      exact ⟨rfl, Below.refl _ _⟩
    | false =>
      cases b3 with
      | true =>
        go_enter Tryz.func78, Tryz.ntmps78
        go_wp2_with fail
        refine (H1.out _).mono ?_
        rintro e w' ⟨rfl, rfl⟩
        go_wp2_with fail
        refine (H2.out _).mono ?_
        rintro e w' ⟨rfl, rfl⟩
        go_wp2_with fail
        refine (H3.out _).mono ?_
        rintro e w' ⟨rfl, rfl⟩
        go_wp2
        go_ret
        exact ⟨rfl, Below.refl _ _⟩
      | false =>
        go_enter Tryz.func78, Tryz.ntmps78
        go_wp2_with fail
        refine (H1.out _).mono ?_
        rintro e w' ⟨rfl, rfl⟩
        go_wp2_with fail
        refine (H2.out _).mono ?_
        rintro e w' ⟨rfl, rfl⟩
        go_wp2_with fail
        refine (H3.out _).mono ?_
        rintro e w' ⟨rfl, rfl⟩
        go_wp2_with fail
        refine H4.out.mono ?_
        rintro e w2 ⟨rfl, hB⟩
        have HB := Lib.hid hB
        clear hB H4
        go_wp2
        go_ret
        exact ⟨rfl, HB.out⟩
end Go.Proofs.YtllpcllgliknpaaGreatDoor
/- only, isName, isSum: all characters of a string are permitted. -/
set_option maxRecDepth 100000
namespace Go.Proofs.YtllpcllgliknpaaGreatDoor
open Go Go.RowKit Go.Shelf

/-- A function without captured variables answers whether p holds. -/
def Says (g : Nat) (p : Nat → Bool) : Prop := ∀ (r : Nat) (u : World), Calls Tryz.prog g (#[.int .i32 (r : Int)] ++ #[]) u fun e w' => e = .returned (.bool (p r)) ∧ Below u.heap.size u w'
set_option maxHeartbeats 1000000 in
theorem onlyF_tells (g : Nat) (p : Nat → Bool) (hent : ∀ args w, (callFunc g args).run Tryz.prog w = .ok (.enter g args) w) (hS : Says g p) (N B : Nat) (w0 : World) (hc : w0.cell? ⟨B, 0, none⟩ = some (.func (.func g) #[] #[])) (hB : B < N) :
    Tells N w0 104 #[.pointer (some ⟨B, 0, none⟩)] (fun r => !p r) := by
  intro r u _ hu
  have hcu : u.cell? ⟨B, 0, none⟩ = some (.func (.func g) #[] #[]) := by rw [hu.cell (p := ⟨B, 0, none⟩) hB]; exact hc
  have HS := Lib.hid (hS r u)
  clear hS hc hu
  dsimp only
  generalize p r = b at *
  show Calls Tryz.prog 104 #[.int .i32 (r : Int), .pointer (some ⟨B, 0, none⟩)] u _
  go_enter Tryz.func104, Tryz.ntmps104
  go_wp2_with fail
  refine HS.out.mono ?_
  rintro e w2 ⟨rfl, hB2⟩
  have HB := Lib.hid hB2
  clear hB2 HS
  go_wp2
  go_ret
  exact ⟨rfl, HB.out⟩
set_option maxHeartbeats 1000000 in
theorem only_any (g : Nat) (p : Nat → Bool) (hent : ∀ args w, (callFunc g args).run Tryz.prog w = .ok (.enter g args) w) (hS : Says g p) (hp : ∀ r, 128 ≤ r → p r = false) (l : S8) (w : World) :
    Calls Tryz.prog 77 #[.string (mkS l), .func (.func g) #[] #[]] w fun e w' => e = .returned (.bool (l.all fun c => p c.toNat)) ∧ Below w.heap.size w w' := by
  have hT := onlyF_tells g p hent hS (w.heap.size + 1) w.heap.size (w.alloc (.cells #[.func (.func g) #[] #[]] 119)) (World.cell?_alloc_new _ _ _ _) (by omega)
  have HC := Lib.hid (ContainsFunc_any (w.heap.size + 1) _ 104 _ _ (enters_of Tryz.func104 (by kernel_rfl) rfl) hT (fun r hr => by rw [hp r hr]; rfl) l (w.alloc (.cells #[.func (.func g) #[] #[]] 119)) (by simp) (Below.refl _ _))
  have HA := Lib.hid (show (!(l.any fun c => !p c.toNat)) = l.all fun c => p c.toNat from by
    rw [List.not_any_eq_all_not]
    simp)
  have hmf : ∀ (fn : Fn) (first cap : Array Value) (w : World), (Instr.makeFunc fn first cap).run Tryz.prog w = .ok (.func fn first cap) w := fun _ _ _ _ => rfl
  clear hT hS hp hent
  generalize (l.any fun c => !p c.toNat) = b at *
  go_enter Tryz.func77, Tryz.ntmps77
  go_wp2_with fail
  refine HC.out.mono ?_
  rintro e w2 ⟨rfl, hB2⟩
  have HB := Lib.hid (((Below.refl w.heap.size w).alloc (Nat.le_refl _) (.cells #[.func (.func g) #[] #[]] 119)).trans (hB2.mono (by simp)))
  clear hB2 HC
  go_wp2
  go_ret
  exact ⟨by rw [← HA.out]; rfl, HB.out⟩
theorem name_high (r : Nat) (h : 128 ≤ r) : nameR r = false := by
  unfold nameR betw hasR
  simp; omega
set_option maxRecDepth 100000 in
theorem nameF : ∀ c : Fin 256, nameR c.val = signB (UInt8.ofNat c.val) := by decide
theorem name_sign (c : UInt8) : nameR c.toNat = signB c := by
  have := nameF ⟨c.toNat, c.toNat_lt⟩
  simpa using this
set_option maxHeartbeats 1000000 in
theorem isName_any (x : S8) (w : World) : Calls Tryz.prog 61 #[.string (mkS x)] w fun e w' => Gives (.bool (okN x)) w e w' := by
  have HC := Lib.hid (only_any 78 nameR (enters_of Tryz.func78 (by kernel_rfl) rfl) (fun r u => inName_any r u) name_high x w)
  have ha : (x.all fun c => nameR c.toNat) = x.all signB := by congr 1; funext c; exact name_sign c
  rw [ha] at HC
  clear ha
  by_cases a : x = []
  · subst a
    clear HC
    go_enter Tryz.func61, Tryz.ntmps61
    go_wp2
    go_ret
    exact ⟨rfl, Below.refl _ _⟩
  · have a1 : (x == []) = false := beq_eq_false_iff_ne.2 a
    have a2 : x.isEmpty = false := by cases x with | nil => exact absurd rfl a | cons _ _ => rfl
    by_cases b : x = [46]
    · subst b
      clear HC
      go_enter Tryz.func61, Tryz.ntmps61
      go_wp2
      go_ret
      exact ⟨rfl, Below.refl _ _⟩
    · have b1 : (x == [46]) = false := beq_eq_false_iff_ne.2 b
      by_cases d : x = [46, 46]
      · subst d
        clear HC
        go_enter Tryz.func61, Tryz.ntmps61
        go_wp2
        go_ret
        exact ⟨rfl, Below.refl _ _⟩
      · have d1 : (x == [46, 46]) = false := beq_eq_false_iff_ne.2 d
        have HOK := Lib.hid (show okN x = x.all signB from by unfold okN; simp [a, b, d])
        clear a b d
        generalize x.all signB = g at *
        go_enter Tryz.func61, Tryz.ntmps61
        go_wp2_with fail
        refine HC.out.mono ?_
        rintro e w2 ⟨rfl, hB2⟩
        have HB := Lib.hid hB2
        clear hB2 HC
        go_wp2
        go_ret
        exact ⟨by rw [HOK.out]; rfl, HB.out⟩
end Go.Proofs.YtllpcllgliknpaaGreatDoor
/- Good: all names of a string are names. -/
set_option maxRecDepth 100000
namespace Go.Proofs.YtllpcllgliknpaaGreatDoor
open Go Go.RowKit Go.Shelf

attribute [local go_sem] Oper.semAt_some
theorem new_c (w : World) (v : Value) (T : TypeId) : (w.alloc (.cells #[v] T)).cell? ⟨w.heap.size, 0, none⟩ = some v ∧ (w.alloc (.cells #[v] T)).frozen? ⟨w.heap.size, 0, none⟩ = false := ⟨World.cell?_alloc_new _ _ _ _, by go_simp⟩
theorem kept_c {w : World} {a : Addr} {v : Value} (o : Obj) (h : w.cell? a = some v) (hf : w.frozen? a = false) : (w.alloc o).cell? a = some v ∧ (w.alloc o).frozen? a = false := by
  have hB : Below w.heap.size w (w.alloc o) := (Below.refl _ _).alloc (Nat.le_refl _) _
  exact ⟨by rw [hB.cell (World.block_lt_of_cell? w _ h)]; exact h, by rw [hB.frozen (World.block_lt_of_cell? w _ h)]; exact hf⟩
theorem others_below {W W' : World} (h : Below W.heap.size W W') : KeepsOthers W W' := ⟨h.size, fun k o hk _ => by rw [h.block k (Array.getElem?_eq_some_iff.1 hk).1]; exact hk⟩
/-- The caller's word: its result's cell, and all that lay ahead of it; the heap has not shrunk. -/
def InvG (w : World) (M : Nat) (A : World) : Prop := A.cell? ⟨w.heap.size, 0, none⟩ = some (.bool false) ∧ A.frozen? ⟨w.heap.size, 0, none⟩ = false ∧ Below w.heap.size w A ∧ M ≤ A.heap.size
theorem InvG.below {w A A' : World} {N M : Nat} (h : InvG w M A) (hB : Below N A A') (hN : w.heap.size < N) : InvG w M A' :=
  ⟨by rw [hB.cell (p := ⟨w.heap.size, 0, none⟩) hN]; exact h.1, by rw [hB.frozen (p := ⟨w.heap.size, 0, none⟩) hN]; exact h.2.1, h.2.2.1.trans (hB.mono (Nat.le_of_lt hN)), Nat.le_trans h.2.2.2 hB.size⟩
theorem InvG.lt {w A : World} {M : Nat} (h : InvG w M A) : w.heap.size < A.heap.size := World.block_lt_of_cell? A _ h.1
theorem InvG.bears (w : World) (N M : Nat) (hN : w.heap.size + 1 ≤ N) (P : List S8 → Prop) : Bears N (w.heap.size + 1) (fun pre A => P pre ∧ InvG w M A) :=
  ⟨fun pre A o h => ⟨h.1, h.2.below (N := A.heap.size) ((Below.refl _ _).alloc (Nat.le_refl _) _) h.2.lt⟩,
   fun pre A k o hk hlt h => ⟨h.1, h.2.below (below_put o hk hlt) (by omega)⟩,
   fun pre A k h => ⟨h.1, h.2.below (N := A.heap.size) ((show Dr A (A.drewN k) from ⟨k, rfl⟩).below _) h.2.lt⟩,
   fun pre A v h => ⟨h.1, h.2.below (N := w.heap.size + 1) ((Below.refl _ _).setCell (p := ⟨w.heap.size + 1, 0, none⟩) (by simp) v) (by omega)⟩⟩
set_option maxRecDepth 100000 in
set_option maxHeartbeats 2000000 in
theorem good_any (l : S8) (w : World) (hl : l.length < 1000000) : Calls Tryz.prog 41 #[.string (mkS l)] w fun e w' => Gives (.bool (goodL l)) w e w' := by
  refine (callsIn_wide (n := 7)).1 ?_
  refine callsIn_of_wp_marks Tryz.func41 rfl trivial ?_ rfl
  simp only [Tryz.ntmps41, List.size_toArray, List.length_cons, List.length_nil, Nat.reduceAdd, Nat.reduceSub, Array.replicate_succ, Array.replicate_zero, List.push_toArray, List.append_toArray, List.nil_append, List.cons_append]
  by_cases h100 : 100 < l.length
  · have x1 : (100 : Int) < (l.length : Int) := by omega
    have x2 : decide ((100 : Int) < (l.length : Int)) = true := decide_eq_true x1
    gi_wp2
    have c0 := new_c w (.bool false) 4
    have hS := Lib.hid (show goodL l = false from by unfold goodL; rw [decide_eq_false (by omega)]; rfl)
    simp [bodyPostM, LeavesInM, LeavesIn, settle, results, Tryz.f41, go_sem, c0.1]
    exact ⟨by rw [hS.out], (Below.refl _ _).alloc (Nat.le_refl _) _⟩
  · have x1 : ¬ (100 : Int) < (l.length : Int) := by omega
    have x2 : decide ((100 : Int) < (l.length : Int)) = false := decide_eq_false x1
    gi_wp2_with (refine ⟨trivial, ?_⟩; gi_at_call 60; refine (callsIn_wide.2 (splitSeq_any l _)).mono ?_; rintro e w' ⟨rfl, rfl⟩)
    have HG := Lib.hid (show goodL l = allN l from by unfold goodL; rw [decide_eq_true (by omega), Bool.true_and])
    obtain ⟨N, hN⟩ : ∃ N, w.heap.size = N := ⟨_, rfl⟩
    obtain ⟨W1, hW1⟩ : ∃ W1, w.alloc (.cells #[.bool false] 4) = W1 := ⟨_, rfl⟩
    obtain ⟨W2, hW2⟩ : ∃ W2, W1.alloc (.cells #[.string (mkS l)] 9) = W2 := ⟨_, rfl⟩
    obtain ⟨W3, hW3⟩ : ∃ W3, W2.alloc (.cells #[.string ⟨#[47]⟩] 9) = W3 := ⟨_, rfl⟩
    obtain ⟨W4, hW4⟩ : ∃ W4, W3.alloc (.cells #[.int .i64 0] 3) = W4 := ⟨_, rfl⟩
    have s1 : W1.heap.size = N + 1 := by rw [← hW1]; simp [hN]
    have s2 : W2.heap.size = N + 2 := by rw [← hW2]; simp [s1]
    have s3 : W3.heap.size = N + 3 := by rw [← hW3]; simp [s2]
    have s4 : W4.heap.size = N + 4 := by rw [← hW4]; simp [s3]
    have c0 := new_c w (.bool false) 4
    have k1 := new_c W1 (.string (mkS l)) 9
    have k2 := new_c W2 (.string ⟨#[47]⟩) 9
    have k3 := new_c W3 (.int .i64 0) 3
    rw [hW1, hN] at c0
    rw [hW2, s1] at k1
    rw [hW3, s2] at k2
    rw [hW4, s3] at k3
    have c1 := kept_c (.cells #[.string (mkS l)] 9) c0.1 c0.2
    rw [hW2] at c1
    have c2 := kept_c (.cells #[.string ⟨#[47]⟩] 9) c1.1 c1.2
    rw [hW3] at c2
    have c3 := kept_c (.cells #[.int .i64 0] 3) c2.1 c2.2
    rw [hW4] at c3
    have k1b := kept_c (.cells #[.string ⟨#[47]⟩] 9) k1.1 k1.2
    rw [hW3] at k1b
    have k1c := kept_c (.cells #[.int .i64 0] 3) k1b.1 k1b.2
    rw [hW4] at k1c
    have k2b := kept_c (.cells #[.int .i64 0] 3) k2.1 k2.2
    rw [hW4] at k2b
    have hB0 : Below w.heap.size w W4 := by
      rw [← hW4, ← hW3, ← hW2, ← hW1]
      exact ((((Below.refl _ w).alloc (Nat.le_refl _) _).alloc (by simp) _).alloc (by simp; omega) _).alloc (by simp; omega) _
    have hbx : Boxes (N + 1 + 1) (N + 1) (N + 1 + 2) l W4 := ⟨k2b.1, k1c.1, k1c.2, k3.1⟩
    have inv0 : InvG w W4.heap.size W4 := by
      refine ⟨?_, ?_, hB0, Nat.le_refl _⟩
      · rw [hN]; exact c3.1
      · rw [hN]; exact c3.2
    clear c0 c1 c2 c3 k1 k1b k1c k2 k2b k3
    rw [hW1, hW2, hW3, hW4, hN]
    clear hW1 hW2 hW3 hW4 s1 s2 s3
    refine range_box (m := 7) (by decide) (gf := 100) (lb := #[.pointer (some ⟨N + 1 + 1, 0, none⟩), .pointer (some ⟨N + 1, 0, none⟩), .pointer (some ⟨N + 1 + 2, 0, none⟩)]) rfl (enters_of Tryz.func100 (by kernel_rfl) rfl)
      (encs := fun x : S8 => #[.string (mkS x)]) (fun _ => rfl) (b := N + 1) (by omega) (split_seq 6 (by decide) (N + 1 + 1) (N + 1) (N + 1 + 2) l W4 (by omega) (by omega) (by omega) (by omega) (by omega) hbx hl)
      (fun pre A => pre.all okN = true ∧ InvG w W4.heap.size A) (fun pre A => pre.all okN = false ∧ InvG w W4.heap.size A)
      (by have := InvG.bears w W4.heap.size W4.heap.size (by omega) (fun pre => pre.all okN = true); rw [hN] at this; exact this)
      (fun pre A k o hk hlt h => ⟨h.1, h.2.below (below_put o hk hlt) (by omega)⟩)
      ⟨rfl, inv0⟩
      (fun x => { tmps := #[.string (mkS l), undef, .pointer (some ⟨N, 0, none⟩), .string (mkS x), .string (mkS l), .int .i64 (l.length : Int), .bool false, .string (mkS l), .func (.func 100) #[] #[.pointer (some ⟨N + 1 + 1, 0, none⟩), .pointer (some ⟨N + 1, 0, none⟩), .pointer (some ⟨N + 1 + 2, 0, none⟩)], .string (mkS x), undef, undef, undef], defers := [] }) ?assign ?body ?done ?stop
    case assign =>
      intro L x A K hK
      gi_wp2
      exact hK
    case body =>
      rintro L pre x A ⟨hp, hinv⟩
      have hlt := hinv.lt
      have HP := Lib.hid hp
      have HINV := Lib.hid hinv
      have HC := Lib.hid (isName_any x A)
      clear hp
      generalize hgx : okN x = g at *
      have HGX := Lib.hid hgx
      clear hgx
      cases g with
      | true =>
        clear hinv
        gi_wp2_with (refine ⟨trivial, ?_⟩; gi_at_call 61; refine (CallsIn.inRound L (callsIn_wide.2 HC.out)).mono ?_; rintro e w2 ⟨rfl, hB2⟩; have HB2 := Lib.hid hB2; clear hB2)
        exact ⟨others_below HB2.out, HB2.out.mono HINV.out.2.2.2, ⟨by rw [List.all_append, HP.out]; simp [HGX.out], HINV.out.below HB2.out hlt⟩⟩
      | false =>
        gi_wp2_with (refine ⟨trivial, ?_⟩; gi_at_call 61; refine (CallsIn.inRound L (callsIn_wide.2 HC.out)).mono ?_; rintro e w2 ⟨rfl, hB2⟩; have hinv2 := hinv.below hB2 hlt; have hcr := hinv2.1; have hfr := hinv2.2.1; rw [hN] at hcr hfr; have HB2 := Lib.hid hB2; have HI2 := Lib.hid hinv2; clear hB2 hinv2 hinv)
        refine ⟨(others_below HB2.out).trans (KeepsOthers.setCell _ _ _), ⟨by rw [List.all_append, HP.out]; simp [HGX.out], ?_, ?_, ?_, ?_⟩⟩
        · rw [hN]; exact World.cell?_setCell_same' _ _ _ (by rw [hcr]; rfl)
        · rw [World.frozen?_setCell]; exact HI2.out.2.1
        · exact HI2.out.2.2.1.setCell (p := ⟨N, 0, none⟩) (by rw [hN]; simp) _
        · exact Nat.le_trans HI2.out.2.2.2 (KeepsOthers.setCell _ _ _).size
    case done =>
      rintro D A hD ⟨hp, hinv⟩ hK
      have hcr := hinv.1
      have hfr := hinv.2.1
      rw [hN] at hcr hfr
      gi_wp2
      have hK' := (KeepsOthers.setCell A ⟨N, 0, none⟩ (.bool true)).same D _ hK rfl
      refine ⟨by simp, .inl ⟨_, _, rfl, run_takeDeferred hK', ?_⟩⟩
      have hc5 := cell_kept (World.cell?_setCell_same' A ⟨N, 0, none⟩ (.bool true) (by rw [hcr]; rfl)) (grownBy_putObj' _ D (.deferred none)) (fun r e => by cases e; exact ⟨_, hK', rfl⟩)
      refine ⟨.bool true, ?_, by rw [HG.out]; exact congrArg _ (congrArg _ hp.symm), (hinv.2.2.1.setCell (p := ⟨N, 0, none⟩) (by rw [hN]; simp) _).trans (below_put _ (by omega) (Array.getElem?_eq_some_iff.1 hK').1)⟩
      simp [results, Tryz.f41, go_sem, hc5]
    case stop =>
      rintro D pre A hD hpre ⟨hp, hinv⟩ hK
      have hcr := hinv.1
      rw [hN] at hcr
      gi_wp2
      refine ⟨by simp, .inl ⟨_, _, rfl, run_takeDeferred hK, ?_⟩⟩
      have hc5 := cell_kept hcr (grownBy_putObj' _ D (.deferred none)) (fun r e => by cases e; exact ⟨_, hK, rfl⟩)
      refine ⟨.bool false, ?_, by rw [HG.out, all_pre hpre hp], hinv.2.2.1.trans (below_put _ (by omega) (Array.getElem?_eq_some_iff.1 hK).1)⟩
      simp [results, Tryz.f41, go_sem, hc5]
end Go.Proofs.YtllpcllgliknpaaGreatDoor
/- TrimSuffix of what is an end; withMark, Temp, Side; Kind. -/
set_option maxRecDepth 100000
namespace Go.Proofs.YtllpcllgliknpaaGreatDoor
open Go Go.RowKit

set_option maxHeartbeats 2000000 in
theorem kind_any (l : S8) (w : World) (hl : l.length < 100000) : Calls Tryz.prog 24 #[.string (mkS l)] w fun e w' => Gives (.int .i64 (kindL l : Int)) w e w' := by
  have HB0 := Lib.hid (base_any l w hl)
  have HG := Lib.hid (fun u => good_any l u (by omega))
  have H1 := Lib.hid (show ∀ u : World, Calls Tryz.prog 42 #[.string (mkS (baseL l)), .string ⟨#[46, 116, 109, 112, 126]⟩] u (fun e w' => e = .returned (.bool (startsL (baseL l) tmpS)) ∧ u = w') from fun u => by
    have := hasPrefix_any (baseL l) tmpS u
    rw [← mkS_lit tmpS] at this
    exact this)
  have H2 := Lib.hid (show ∀ u : World, Calls Tryz.prog 42 #[.string (mkS (baseL l)), .string ⟨#[46, 112, 97, 114, 126]⟩] u (fun e w' => e = .returned (.bool (startsL (baseL l) parS)) ∧ u = w') from fun u => by
    have := hasPrefix_any (baseL l) parS u
    rw [← mkS_lit parS] at this
    exact this)
  obtain ⟨k, hk⟩ : ∃ k, kindL l = k := ⟨_, rfl⟩
  rw [hk]
  unfold kindL at hk
  have HK := Lib.hid hk.symm
  clear hk
  generalize startsL (baseL l) tmpS = b1 at *
  generalize startsL (baseL l) parS = b2 at *
  generalize baseL l = x at *
  generalize goodL l = g at *
  cases g with
  | false =>
    obtain rfl : k = 0 := by rw [HK.out]; rfl
    go_enter Tryz.func24, Tryz.ntmps24
    go_wp2_with fail
    refine HB0.out.mono ?_
    rintro e w1 ⟨rfl, hB⟩
    have HB := Lib.hid hB
    clear hB HB0
    go_wp2_with fail
    refine (HG.out _).mono ?_
    rintro e w2 ⟨rfl, hB⟩
    have HB2 := Lib.hid (HB.out.trans (hB.mono HB.out.size))
    clear hB HB
    go_wp2
    go_ret
    exact ⟨rfl, HB2.out⟩
  | true =>
    cases b1 with
    | true =>
      obtain rfl : k = 1 := by rw [HK.out]; rfl
      go_enter Tryz.func24, Tryz.ntmps24
      go_wp2_with fail
      refine HB0.out.mono ?_
      rintro e w1 ⟨rfl, hB⟩
      have HB := Lib.hid hB
      clear hB HB0
      go_wp2_with fail
      refine (HG.out _).mono ?_
      rintro e w2 ⟨rfl, hB⟩
      have HB2 := Lib.hid (HB.out.trans (hB.mono HB.out.size))
      clear hB HB
      go_wp2_with fail
      refine (H1.out _).mono ?_
      rintro e w' ⟨rfl, rfl⟩
      go_wp2
      go_ret
      exact ⟨rfl, HB2.out⟩
    | false =>
      obtain rfl : k = if b2 then 2 else 3 := by rw [HK.out]; rfl
      go_enter Tryz.func24, Tryz.ntmps24
      go_wp2_with fail
      refine HB0.out.mono ?_
      rintro e w1 ⟨rfl, hB⟩
      have HB := Lib.hid hB
      clear hB HB0
      go_wp2_with fail
      refine (HG.out _).mono ?_
      rintro e w2 ⟨rfl, hB⟩
      have HB2 := Lib.hid (HB.out.trans (hB.mono HB.out.size))
      clear hB HB
      go_wp2_with fail
      refine (H1.out _).mono ?_
      rintro e w' ⟨rfl, rfl⟩
      go_wp2_with fail
      refine (H2.out _).mono ?_
      rintro e w' ⟨rfl, rfl⟩
      cases b2 with
      | true =>
        go_wp2
        go_ret
        exact ⟨rfl, HB2.out⟩
      | false =>
        go_wp2
        go_ret
        exact ⟨rfl, HB2.out⟩
end Go.Proofs.YtllpcllgliknpaaGreatDoor
/- Hold of the ward. -/
set_option maxRecDepth 100000
namespace Go.Proofs.YtllpcllgliknpaaGreatDoor
open Go Go.RowKit Go.MapKept

theorem clone15_any (s : S8) (w : World) (h : s.length < 100000000) : Calls Tryz.prog 25 #[.string (mkS s)] w fun e w' => Gives (.string (mkS s)) w e w' := by
  have HC := Lib.hid (show Calls Tryz.prog 43 #[.string (mkS s)] w fun e w' => Gives (.string (mkS s)) w e w' from Tryz.stringslite_Clone (mkS s) w (by rw [mkS_size]; omega))
  go_enter Tryz.func25, Tryz.ntmps25
  go_wp2_with fail
  refine HC.out.mono ?_
  rintro e w' ⟨rfl, hB⟩
  have HB := Lib.hid hB
  clear hB
  go_wp2
  go_ret
  exact ⟨rfl, HB.out⟩
theorem nilq15 (o : Option Nat) (u : World) : (binOp BinOp.eql TRs (.map o) (.map none)).run Tryz.prog u = .ok (.bool o.isNone) u := run_eql_map_nil_sl (P := Tryz.prog) u TRs _ _ o rsT
section
variable {w : World} {b mb : Nat} {F : Nat → Prop} {s : Ws} {bk : S8 → Nat}
theorem look2_15 (h : WdAt w b F s mb bk) (p : S8) (k : Int) : ∃ v, (Instr.lookup TRs (.map ((findW s p).map fun _ => bk p)) (.int .i64 k) true).run Tryz.prog w = .ok (.tuple #[.int .i64 v, .bool (whyW (ofW s p) k).isSome]) w := by
  cases hf : findW s p with
  | none =>
    have : whyW (ofW s p) k = none := by unfold ofW; rw [hf]; rfl
    rw [this]
    exact ⟨0, lookNil15 w k⟩
  | some l =>
    have hof : ofW s p = l := by unfold ofW; rw [hf]; rfl
    have hl := run_lookupI15 (P := Tryz.prog) rsT inT15 (zeroIn w) (h.of hf) k true
    rw [findI_hs] at hl
    rw [hof]
    cases hw : whyW l k with
    | none => rw [hw] at hl; exact ⟨0, hl⟩
    | some v => rw [hw] at hl; exact ⟨v, hl⟩
/-- What Hold leaves. -/
def HoldP (w : World) (b : Nat) (F : Nat → Prop) (s : Ws) (mb : Nat) (p : S8) (k r : Int) (e : Ending) (w' : World) : Prop :=
  e = .returned (.int .i64 (holdC s p k r)) ∧ (∃ bk', WdAt w' b (newF F w w') (holdW s p k r) mb bk') ∧ KpF F w w'
theorem HoldP.no {w u : World} {p : S8} {k r c : Int} (h : WdAt w b F s mb bk) (hB : Below w.heap.size w u) (hc : holdC s p k r = c) (h0 : c ≠ 0) : HoldP w b F s mb p k r (.returned (.int .i64 c)) u := by
  refine ⟨by rw [hc], ⟨bk, ?_⟩, KpF.of_new hB⟩
  unfold holdW
  rw [if_neg (by rw [hc]; exact h0)]
  exact (h.of_new hB).mono fun g _ hg => .inl hg
theorem HoldP.yes {w u u' : World} {p : S8} {k r : Int} (h : WdAt w b F s mb bk) (hc : holdC s p k r = 0) {s2 : Ws} (hs : putW s2 p k r = putW s p k r) {bk2 : S8 → Nat} {G : Nat → Prop} (h2 : WdAt u b G s2 mb bk2) {l : Hs} (hf : findW s2 p = some l) (hK : KpF F w u) (hG : ∀ g, g < u.heap.size → G g → newF F w u g)
    (hm : MiB u' (bk2 p) (putI (hsV l) k (.int .i64 r))) (hg : u.grownBy u' (some (bk2 p))) (hz : u'.heap.size = u.heap.size) (hbk : F (bk2 p) ∨ w.heap.size ≤ bk2 p) : HoldP w b F s mb p k r (.returned (.int .i64 0)) u' := by
  have h3 := h2.put hf k r hm hg
  rw [hs] at h3
  refine ⟨by rw [hc], ⟨bk2, ?_⟩, ?_⟩
  · unfold holdW
    rw [if_pos hc]
    refine h3.mono fun g hl hgg => ?_
    rcases hG g (by omega) hgg with h4 | h4
    · exact .inl h4
    · exact .inr ⟨h4.1, by omega⟩
  · refine ⟨hg.os.trans hK.os, hg.tape.trans hK.tape, hg.output.trans hK.output, Nat.le_trans hK.size hg.size, fun i hi hn => ?_⟩
    rw [hg.block i (Nat.lt_of_lt_of_le hi hK.size) (fun e => ?_)]
    · exact hK.block i hi hn
    · injection e with e
      rcases hbk with h4 | h4
      · exact hn (e ▸ h4)
      · omega
set_option maxRecDepth 100000 in
set_option maxHeartbeats 4000000 in
theorem hold15_any (h : WdAt w b F s mb bk) (hn : lenW s ≤ 100000) (p : S8) (hp : p.length < 100000) (k r : Int) : Calls Tryz.prog 9 #[.pointer (some ⟨b, 0, none⟩), .string (mkS p), .int .i64 k, .int .i64 r] w fun e w' => HoldP w b F s mb p k r e w' := by
  have c0 := h.cell
  have hl := look15 h p
  obtain ⟨v0, hl2⟩ := look2_15 h p k
  obtain ⟨hd, hhd⟩ : ∃ hd, (whyW (ofW s p) k).isSome = hd := ⟨_, rfl⟩
  obtain ⟨ob, hob⟩ : ∃ ob, ((findW s p).map fun _ => bk p) = ob := ⟨_, rfl⟩
  rw [hhd, hob] at hl2
  rw [hob] at hl
  obtain ⟨kk, hkk⟩ : ∃ kk, kindL p = kk := ⟨_, rfl⟩
  have hkd := kind_any p w hp
  rw [hkk] at hkd
  have HKD := Lib.hid hkd
  have HW0 := Lib.hid h
  have HN := Lib.hid hn
  have HCL := Lib.hid (fun u => clone15_any p u (by omega))
  have HHD := Lib.hid hhd
  have HOB := Lib.hid hob
  have HKK := Lib.hid hkk
  clear h hn hkd hp hhd hob hkk
  go_enter Tryz.func9, Tryz.ntmps9
  go_wp2_with fail
  refine HKD.out.mono ?_
  rintro e W ⟨rfl, hB⟩
  have HB1 := Lib.hid hB
  have hW := HW0.out.of_new hB
  have HW := Lib.hid hW
  have c1 := hW.cell
  have hl3 := look15 hW p
  rw [HOB.out] at hl3
  clear hB hW hl hl2 c0
  by_cases g1 : kk = 3
  · subst g1
    by_cases g2 : k < 0 ∨ 63 < k ∨ r < 1 ∨ 3 < r
    · have HC := Lib.hid (show holdC s p k r = 1 by unfold holdC; rw [if_neg (by rw [HKK.out]; decide), if_pos g2])
      have t1 : decide (k < 0) = true ∨ (decide (k < 0) = false ∧ decide (64 ≤ k) = true) ∨ (decide (k < 0) = false ∧ decide (64 ≤ k) = false ∧ decide (r < 1) = true) ∨ (decide (k < 0) = false ∧ decide (64 ≤ k) = false ∧ decide (r < 1) = false ∧ decide (3 < r) = true) := by
        simp only [decide_eq_true_eq, decide_eq_false_iff_not]
        omega
      clear g2 hl3
      rcases t1 with t1 | ⟨t1, t2⟩ | ⟨t1, t2, t3⟩ | ⟨t1, t2, t3, t4⟩
      · go_wp2
        go_ret
        exact HoldP.no HW0.out HB1.out HC.out (by decide)
      · go_wp2
        go_ret
        exact HoldP.no HW0.out HB1.out HC.out (by decide)
      · go_wp2
        go_ret
        exact HoldP.no HW0.out HB1.out HC.out (by decide)
      · go_wp2
        go_ret
        exact HoldP.no HW0.out HB1.out HC.out (by decide)
    · have t1 : decide (k < 0) = false := decide_eq_false (by omega)
      have t2 : decide (64 ≤ k) = false := decide_eq_false (by omega)
      have t3 : decide (r < 1) = false := decide_eq_false (by omega)
      have t4 : decide (3 < r) = false := decide_eq_false (by omega)
      have HG2 := Lib.hid g2
      clear g2
      have HS := Lib.hid (fun u (hu : Below W.heap.size W u) => (HW.out.of_new hu).cell)
      cases hd with
      | true =>
        have hsome : ∃ l, findW s p = some l := by
          cases hf : findW s p with
          | none =>
            have := HHD.out
            unfold ofW at this
            rw [hf] at this
            cases this
          | some l => exact ⟨l, rfl⟩
        obtain ⟨l, hf⟩ := hsome
        have HC := Lib.hid (show holdC s p k r = 0 by
          unfold holdC
          rw [if_neg (by rw [HKK.out]; decide), if_neg HG2.out, if_neg]
          rintro ⟨h1, -⟩
          have := HHD.out
          rw [h1] at this
          cases this)
        rw [hf] at HOB
        have hob := HOB.out
        change some (bk p) = ob at hob
        subst hob
        have hm4 := HW.out.of hf
        obtain ⟨u4, hrun4, q1, q2, q3⟩ := run_updateI15 (P := Tryz.prog) rsT inT15 hm4 k (.int .i64 r)
        have hq4 := nilq15
        have HY := Lib.hid (HoldP.yes (p := p) (k := k) (r := r) HW0.out HC.out rfl HW.out hf (KpF.of_new HB1.out) (fun g _ hg => .inl hg) q1 q2 q3 (.inl (HW.out.fk (p, l) (findW_in hf))))
        clear q1 q2 q3 hm4 hf
        go_wp2
        go_ret
        exact HY.out
      | false =>
        have HLN := Lib.hid (len15_any HW.out HN.out)
        go_wp2_with fail
        refine HLN.out.mono ?_
        rintro e W2 ⟨rfl, hB⟩
        have HB1' := Lib.hid (HB1.out.trans (hB.mono HB1.out.size))
        have hW := HW.out.of_new hB
        clear HB1 HW HS hl3 c1 HLN
        have HB1 := HB1'
        clear HB1'
        have HW := Lib.hid hW
        have c1 := hW.cell
        have hl3 := look15 hW p
        rw [HOB.out] at hl3
        have HS := Lib.hid (fun u (hu : Below W2.heap.size W2 u) => (HW.out.of_new hu).cell)
        clear hB hW
        by_cases g5 : 1000 ≤ lenW s
        · have t5 : decide ((1000 : Int) ≤ (lenW s : Int)) = true := decide_eq_true (by omega)
          have t6 : decide (1000 ≤ lenW s) = true := decide_eq_true g5
          have HC := Lib.hid (show holdC s p k r = 14 by
            unfold holdC
            have hwn : whyW (ofW s p) k = none := by
              cases hw : whyW (ofW s p) k with
              | none => rfl
              | some v => have := HHD.out; rw [hw] at this; cases this
            rw [if_neg (by rw [HKK.out]; decide), if_neg HG2.out, if_pos ⟨hwn, g5⟩])
          clear g5 hl3
          go_wp2
          go_ret
          exact HoldP.no HW0.out HB1.out HC.out (by decide)
        · have t5 : decide ((1000 : Int) ≤ (lenW s : Int)) = false := decide_eq_false (by omega)
          have t6 : decide (1000 ≤ lenW s) = false := decide_eq_false g5
          have HC := Lib.hid (show holdC s p k r = 0 by
            unfold holdC
            rw [if_neg (by rw [HKK.out]; decide), if_neg HG2.out, if_neg (fun h => g5 h.2)])
          clear g5
          generalize W2 = W at *
          cases hf : findW s p with
          | some l =>
            rw [hf] at HOB
            have hob := HOB.out
            change some (bk p) = ob at hob
            subst hob
            have hm4 := HW.out.of hf
            obtain ⟨u4, hrun4, q1, q2, q3⟩ := run_updateI15 (P := Tryz.prog) rsT inT15 hm4 k (.int .i64 r)
            have hq4 := nilq15
            have HY := Lib.hid (HoldP.yes (p := p) (k := k) (r := r) HW0.out HC.out rfl HW.out hf (KpF.of_new HB1.out) (fun g _ hg => .inl hg) q1 q2 q3 (.inl (HW.out.fk (p, l) (findW_in hf))))
            clear q1 q2 q3 hm4 hf
            go_wp2
            go_ret
            exact HY.out
          | none =>
            rw [hf] at HOB
            have hob := HOB.out
            change none = ob at hob
            subst hob
            have hq4 := nilq15
            have HFN := Lib.hid hf
            clear hf
            go_wp2_with fail
            refine wp_region_noPanic ?_
            refine wp_region_held_drew (S := (fun u : World => u.cell? ⟨b, 0, none⟩ = some (.map (some mb)))) (by kernel_rfl) (HS.out _ (Below.refl _ _).drew) (fun hHeld => ?_)
            generalize hgx : W.drew = U at hHeld ⊢
            have HX0 := Lib.hid (show Below W.heap.size W U from by rw [← hgx]; exact (Below.refl _ _).drew)
            clear hgx
            refine wpAnyH_take (i := 0) (v := ?_) (by simp only [List.getElem?_toArray, List.getElem?_cons_succ, List.getElem?_cons_zero]; exact rfl) (by kernel_rfl) (by kernel_rfl) (by kernel_rfl) (fun _ _ _ h => h) (Or.inl ⟨by rfl, ?_⟩) (by assumption) ?_
            rotate_left 1
            · (intro w hSw; (try dsimp only at hSw); go_simp; try with_reducible rfl)
            try simp only [Act.put, List.setIfInBounds_toArray, List.set_cons_zero, List.set_cons_succ]
            refine wpAnyH_take (i := 1) (v := ?_) (by simp only [List.getElem?_toArray, List.getElem?_cons_succ, List.getElem?_cons_zero]; exact rfl) (by kernel_rfl) (by kernel_rfl) (by kernel_rfl) (fun _ _ _ h => h) (Or.inl ⟨by rfl, ?_⟩) (by assumption) ?_
            rotate_left 1
            · (intro w hSw; (try dsimp only at hSw); go_simp; try with_reducible rfl)
            try simp only [Act.put, List.setIfInBounds_toArray, List.set_cons_zero, List.set_cons_succ]
            refine wpAnyH_take (i := 2) (v := ?_) (by simp only [List.getElem?_toArray, List.getElem?_cons_succ, List.getElem?_cons_zero]; exact rfl) (by kernel_rfl) (by kernel_rfl) (by kernel_rfl) (fun _ _ _ h => h) (Or.inl ⟨by rfl, ?_⟩) (by assumption) ?_
            rotate_left 1
            · (intro w hSw; (try dsimp only at hSw); go_simp; try with_reducible rfl)
            try simp only [Act.put, List.setIfInBounds_toArray, List.set_cons_zero, List.set_cons_succ]
            refine wpAnyH_take (i := 3) (v := ?_) (by simp only [List.getElem?_toArray, List.getElem?_cons_succ, List.getElem?_cons_zero]; exact rfl) (by kernel_rfl) (by kernel_rfl) (by kernel_rfl) (fun _ _ _ h => h) (Or.inl ⟨by rfl, ?_⟩) (by assumption) ?_
            rotate_left 1
            · (intro w hSw; (try dsimp only at hSw); go_simp; try with_reducible rfl)
            try simp only [Act.put, List.setIfInBounds_toArray, List.set_cons_zero, List.set_cons_succ]
            refine wpAnyH_take (i := 4) (v := ?_) (by simp only [List.getElem?_toArray, List.getElem?_cons_succ, List.getElem?_cons_zero]; exact rfl) (by kernel_rfl) (by kernel_rfl) (by kernel_rfl) (fun _ _ _ h => h) (Or.inl ⟨by rfl, ?_⟩) (by assumption) ?_
            rotate_left 1
            · (intro w hSw; (try dsimp only at hSw); go_simp; try with_reducible rfl)
            try simp only [Act.put, List.setIfInBounds_toArray, List.set_cons_zero, List.set_cons_succ]
            refine wpAnyH_ready (rs := [5, 6]) (by kernel_rfl) (by simp) ?_
            refine (AllReadyH.cons (by simp only [List.getElem?_toArray, List.getElem?_cons_succ, List.getElem?_cons_zero]; exact rfl) (fun K hK => ?_) (AllReadyH.cons (by simp only [List.getElem?_toArray, List.getElem?_cons_succ, List.getElem?_cons_zero]; exact rfl) (fun K hK => ?_) AllReadyH.nil))
            · go_simp
              refine (HCL.out _).mono ?_
              rintro e vW ⟨rfl, hB⟩
              have HX1 := Lib.hid (HX0.out.trans (hB.mono HX0.out.size))
              clear hB
              go_wp2_with fail
              refine hK.out _ _ (HS.out _ HX1.out) (fun hHeld => ?_)
              clear hK K
              try simp only [Act.put, List.setIfInBounds_toArray, List.set_cons_zero, List.set_cons_succ]
              refine wpAnyH_ready (rs := [6]) (by kernel_rfl) (by simp) ?_
              refine (AllReadyH.cons (by simp only [List.getElem?_toArray, List.getElem?_cons_succ, List.getElem?_cons_zero]; exact rfl) (fun K hK => ?_) AllReadyH.nil)
              have HMD := Lib.hid (MiB.made vW)
              have HX2 := Lib.hid (HX1.out.alloc HX1.out.size (.map #[] 0))
              have hzz : (vW.alloc (.map #[] 0)).heap.size = vW.heap.size + 1 := World.size_alloc _ _
              have HGZ := Lib.hid hzz
              clear hzz
              have HGG0 := Lib.hid (HX1.out.size)
              obtain ⟨g, hg⟩ : ∃ g, vW.heap.size = g := ⟨_, rfl⟩
              rw [hg] at HMD HGZ
              have HGG := Lib.hid (show W.heap.size ≤ g from hg ▸ HGG0.out)
              have hmm := @run_makeMap Tryz.prog
              go_simp
              clear hmm
              try rw [hg]
              clear hg
              obtain ⟨U2, hU2⟩ : ∃ U2, vW.alloc (.map #[] 0) = U2 := ⟨_, rfl⟩
              rw [hU2] at HMD HX2 HGZ ⊢
              clear hU2
              refine hK.out _ _ (HS.out _ HX2.out) (fun hHeld => ?_)
              clear hK K
              try simp only [Act.put, List.setIfInBounds_toArray, List.set_cons_zero, List.set_cons_succ]
              refine wpAnyH_ready (rs := [7]) (by kernel_rfl) (by simp) ?_
              refine (AllReadyH.cons (by simp only [List.getElem?_toArray, List.getElem?_cons_succ, List.getElem?_cons_zero]; exact rfl) (fun K hK => ?_) AllReadyH.nil)
              have hWU := (HW.out.of_new HX2.out).mono (T := newF F w U2) (fun _ _ hg => .inl hg)
              have hgw : w.heap.size ≤ g := Nat.le_trans HB1.out.size HGG.out
              have hgl := HMD.out.lt
              obtain ⟨u', hrun, r1, r2, r3⟩ := run_update8 (P := Tryz.prog) wmT stT15 hWU.map p (.map (some g))
              have hf' := hWU.fresh HFN.out HMD.out (fun x hx e => by have := (HW.out.each x hx).lt; have := HGG.out; omega) (fun e => by have := HW.out.map.lt; have := HGG.out; omega) (.inr ⟨hgw, hgl⟩) r1 r2
              have HF2 := Lib.hid hf'
              have HU2 := Lib.hid (And.intro r2 r3)
              have HGW := Lib.hid hgw
              clear r1 r2 r3 hWU hgw hgl
              go_simp
              refine hK.out _ _ (HF2.out.cell) (fun hHeld => ?_)
              clear hrun hf'
              clear hK K
              try simp only [Act.put, List.setIfInBounds_toArray, List.set_cons_zero, List.set_cons_succ]
              refine wpAnyH_done (by kernel_rfl) ?_ _
              refine NoPanic.normal ?_
              have hl4 := look15 HF2.out p
              have hfw : findW ((p, []) :: s) p = some [] := by unfold findW; simp
              rw [hfw] at hl4
              change (Instr.lookup TWm (.map (some mb)) (.string (mkS p)) false).run Tryz.prog u' = .ok (.map (some (if p = p then g else bk p))) u' at hl4
              rw [if_pos rfl] at hl4
              have hm4 := HF2.out.of hfw
              change MiB u' (if p = p then g else bk p) (hsV []) at hm4
              rw [if_pos rfl] at hm4
              obtain ⟨u4, hrun4, q1, q2, q3⟩ := run_updateI15 (P := Tryz.prog) rsT inT15 hm4 k (.int .i64 r)
              have hq4 := nilq15
              have c4 := HF2.out.cell
              have HY := Lib.hid (HoldP.yes (bk2 := fun q => if q = p then g else bk q) (p := p) (k := k) (r := r) HW0.out HC.out (putW_fresh HFN.out k r) HF2.out hfw ?kpf ?gg (by show MiB u4 (if p = p then g else bk p) _; rw [if_pos rfl]; exact q1) (by show u'.grownBy u4 (some (if p = p then g else bk p)); rw [if_pos rfl]; exact q2) q3 (by show F (if p = p then g else bk p) ∨ w.heap.size ≤ (if p = p then g else bk p); rw [if_pos rfl]; exact .inr HGW.out))
              case kpf => exact (KpF.of_new (HB1.out.trans (HX2.out.mono HB1.out.size))).trans (KpF.of_grown HU2.out.1 (fun k hk => by cases hk; exact HW.out.fm))
              case gg => intro g hl hg; rcases hg with h1 | h1; exact .inl h1; exact .inr ⟨h1.1, hl⟩
              clear q1 q2 q3 hm4 hfw hHeld
              go_wp2
              go_ret
              exact HY.out
            · have HMD := Lib.hid (MiB.made U)
              have HX1 := Lib.hid (HX0.out.alloc HX0.out.size (.map #[] 0))
              have hzz : (U.alloc (.map #[] 0)).heap.size = U.heap.size + 1 := World.size_alloc _ _
              have HGZ := Lib.hid hzz
              clear hzz
              have HGG0 := Lib.hid (HX0.out.size)
              obtain ⟨g, hg⟩ : ∃ g, U.heap.size = g := ⟨_, rfl⟩
              rw [hg] at HMD HGZ
              have HGG := Lib.hid (show W.heap.size ≤ g from hg ▸ HGG0.out)
              have hmm := @run_makeMap Tryz.prog
              go_simp
              clear hmm
              try rw [hg]
              clear hg
              obtain ⟨U2, hU2⟩ : ∃ U2, U.alloc (.map #[] 0) = U2 := ⟨_, rfl⟩
              rw [hU2] at HMD HX1 HGZ ⊢
              clear hU2
              refine hK.out _ _ (HS.out _ HX1.out) (fun hHeld => ?_)
              clear hK K
              try simp only [Act.put, List.setIfInBounds_toArray, List.set_cons_zero, List.set_cons_succ]
              refine wpAnyH_ready (rs := [5]) (by kernel_rfl) (by simp) ?_
              refine (AllReadyH.cons (by simp only [List.getElem?_toArray, List.getElem?_cons_succ, List.getElem?_cons_zero]; exact rfl) (fun K hK => ?_) AllReadyH.nil)
              go_simp
              refine (HCL.out _).mono ?_
              rintro e vW ⟨rfl, hB⟩
              have HX2 := Lib.hid (HX1.out.trans (hB.mono HX1.out.size))
              have HMV := Lib.hid (HMD.out.of_below hB)
              have HGL := Lib.hid hB.size
              clear hB
              go_wp2_with fail
              refine hK.out _ _ (HS.out _ HX2.out) (fun hHeld => ?_)
              clear hK K
              try simp only [Act.put, List.setIfInBounds_toArray, List.set_cons_zero, List.set_cons_succ]
              refine wpAnyH_ready (rs := [7]) (by kernel_rfl) (by simp) ?_
              refine (AllReadyH.cons (by simp only [List.getElem?_toArray, List.getElem?_cons_succ, List.getElem?_cons_zero]; exact rfl) (fun K hK => ?_) AllReadyH.nil)
              have hWU := (HW.out.of_new HX2.out).mono (T := newF F w vW) (fun _ _ hg => .inl hg)
              have hgw : w.heap.size ≤ g := Nat.le_trans HB1.out.size HGG.out
              have hgl := HMV.out.lt
              obtain ⟨u', hrun, r1, r2, r3⟩ := run_update8 (P := Tryz.prog) wmT stT15 hWU.map p (.map (some g))
              have hf' := hWU.fresh HFN.out HMV.out (fun x hx e => by have := (HW.out.each x hx).lt; have := HGG.out; omega) (fun e => by have := HW.out.map.lt; have := HGG.out; omega) (.inr ⟨hgw, hgl⟩) r1 r2
              have HF2 := Lib.hid hf'
              have HU2 := Lib.hid (And.intro r2 r3)
              have HGW := Lib.hid hgw
              clear r1 r2 r3 hWU hgw hgl
              go_simp
              refine hK.out _ _ (HF2.out.cell) (fun hHeld => ?_)
              clear hrun hf'
              clear hK K
              try simp only [Act.put, List.setIfInBounds_toArray, List.set_cons_zero, List.set_cons_succ]
              refine wpAnyH_done (by kernel_rfl) ?_ _
              refine NoPanic.normal ?_
              have hl4 := look15 HF2.out p
              have hfw : findW ((p, []) :: s) p = some [] := by unfold findW; simp
              rw [hfw] at hl4
              change (Instr.lookup TWm (.map (some mb)) (.string (mkS p)) false).run Tryz.prog u' = .ok (.map (some (if p = p then g else bk p))) u' at hl4
              rw [if_pos rfl] at hl4
              have hm4 := HF2.out.of hfw
              change MiB u' (if p = p then g else bk p) (hsV []) at hm4
              rw [if_pos rfl] at hm4
              obtain ⟨u4, hrun4, q1, q2, q3⟩ := run_updateI15 (P := Tryz.prog) rsT inT15 hm4 k (.int .i64 r)
              have hq4 := nilq15
              have c4 := HF2.out.cell
              have HY := Lib.hid (HoldP.yes (bk2 := fun q => if q = p then g else bk q) (p := p) (k := k) (r := r) HW0.out HC.out (putW_fresh HFN.out k r) HF2.out hfw ?kpf ?gg (by show MiB u4 (if p = p then g else bk p) _; rw [if_pos rfl]; exact q1) (by show u'.grownBy u4 (some (if p = p then g else bk p)); rw [if_pos rfl]; exact q2) q3 (by show F (if p = p then g else bk p) ∨ w.heap.size ≤ (if p = p then g else bk p); rw [if_pos rfl]; exact .inr HGW.out))
              case kpf => exact (KpF.of_new (HB1.out.trans (HX2.out.mono HB1.out.size))).trans (KpF.of_grown HU2.out.1 (fun k hk => by cases hk; exact HW.out.fm))
              case gg => intro g hl hg; rcases hg with h1 | h1; exact .inl h1; exact .inr ⟨h1.1, hl⟩
              clear q1 q2 q3 hm4 hfw hHeld
              go_wp2
              go_ret
              exact HY.out
  · have t0 : ((kk : Int) == 3) = false := by simp; omega
    have t0' : ((kk : Int) != 3) = true := by simp; omega
    have HC := Lib.hid (show holdC s p k r = 7 by unfold holdC; rw [if_pos (by rw [HKK.out]; exact g1)])
    clear g1 hl3
    go_wp2
    go_ret
    exact HoldP.no HW0.out HB1.out HC.out (by decide)
end
end Go.Proofs.YtllpcllgliknpaaGreatDoor
