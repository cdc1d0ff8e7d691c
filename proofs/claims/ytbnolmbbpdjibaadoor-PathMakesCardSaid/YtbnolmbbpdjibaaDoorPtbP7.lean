/- TrimSuffix of what is an end; withMark, Temp, Side; Kind. -/
import Derived.Test.YtbnolmbbpdjibaaDoorPtaP7
import Derived.Test.YtbnolmbbpdjibaaDoorGodP7
set_option linter.unusedSimpArgs false
set_option linter.unusedVariables false
namespace Go.Proofs.YtbnolmbbpdjibaaDoor
open Go Go.RowKit

set_option maxHeartbeats 1000000 in
theorem suffix_at (s : S8) (k : Nat) (hk : k ≤ s.length) (hl : s.length < 1000000) (w : World) : Calls Tryd.prog 66 #[.string (mkS s), .string (mkS (s.drop k))] w fun e w' => e = .returned (.bool true) ∧ w = w' := by
  obtain ⟨t, ht⟩ : ∃ t, s.drop k = t := ⟨_, rfl⟩
  have htl : t.length = s.length - k := by rw [← ht, List.length_drop]
  rw [ht]
  have z1 : (t.length : Int) ≤ (s.length : Int) := by omega
  have z2 : decide ((t.length : Int) ≤ (s.length : Int)) = true := decide_eq_true z1
  have z3 : (s.length : Int) - (t.length : Int) = (k : Int) := by omega
  have hw : IntKind.i64.wrap (k : Int) = (k : Int) := by rw [IntKind.wrap_i64]; omega
  have hs : ∀ u : World, (Instr.slice 9 (.string (mkS s)) (some (.int .i64 (k : Int))) none none).run Tryd.prog u = .ok (.string (mkS t)) u := fun u => by rw [sl_from s k u hk, ht]
  clear ht htl
  go_enter Tryd.func66, Tryd.ntmps66
  go_wp2
  go_ret
  exact ⟨rfl, rfl⟩
set_option maxHeartbeats 1000000 in
theorem trim_in (s : S8) (k : Nat) (hk : k ≤ s.length) (hl : s.length < 1000000) (w : World) : Calls Tryd.prog 57 #[.string (mkS s), .string (mkS (s.drop k))] w fun e w' => e = .returned (.string (mkS (s.take k))) ∧ w = w' := by
  have HC := Lib.hid (suffix_at s k hk hl w)
  obtain ⟨t, ht⟩ : ∃ t, s.drop k = t := ⟨_, rfl⟩
  have htl : t.length = s.length - k := by rw [← ht, List.length_drop]
  rw [ht] at HC ⊢
  have z3 : (s.length : Int) - (t.length : Int) = (k : Int) := by omega
  have hw : IntKind.i64.wrap (k : Int) = (k : Int) := by rw [IntKind.wrap_i64]; omega
  have hs : ∀ u : World, (Instr.slice 9 (.string (mkS s)) none (some (.int .i64 (k : Int))) none).run Tryd.prog u = .ok (.string (mkS (s.take k))) u := fun u => sl_to s k u hk
  clear ht htl
  generalize s.take k = x at *
  go_enter Tryd.func57, Tryd.ntmps57
  go_wp2_with fail
  refine HC.out.mono ?_
  rintro e w' ⟨rfl, rfl⟩
  go_wp2
  go_ret
  exact ⟨rfl, rfl⟩
set_option maxHeartbeats 1000000 in
theorem trim_at (s : S8) (k : Nat) (hk : k ≤ s.length) (hl : s.length < 1000000) (w : World) : Calls Tryd.prog 47 #[.string (mkS s), .string (mkS (s.drop k))] w fun e w' => e = .returned (.string (mkS (s.take k))) ∧ w = w' := by
  have HC := Lib.hid (trim_in s k hk hl w)
  generalize s.drop k = t at *
  generalize s.take k = x at *
  go_enter Tryd.func47, Tryd.ntmps47
  go_wp2_with fail
  refine HC.out.mono ?_
  rintro e w' ⟨rfl, rfl⟩
  go_wp2
  go_ret
  exact ⟨rfl, rfl⟩
set_option maxHeartbeats 2000000 in
theorem mark_any (l m : S8) (w : World) (hl : l.length < 100000) (hm : m.length ≤ 100) : Calls Tryd.prog 36 #[.string (mkS l), .string (mkS m)] w fun e w' => Gives (pairS (withL l m)) w e w' := by
  have hk := kL_le l
  have HB0 := Lib.hid (base_any l w (by omega))
  have HT := Lib.hid (fun u => trim_at l (kL l) hk (by omega) u)
  have hbl : baseL l = l.drop (kL l) := rfl
  rw [hbl] at HB0
  have HG1 := Lib.hid (fun u => good_any l u (by omega))
  have hlen1 : (l.take (kL l)).length ≤ l.length := by rw [List.length_take]; omega
  have hlen2 : (l.drop (kL l)).length ≤ l.length := by rw [List.length_drop]; omega
  have HG2 := Lib.hid (fun u => good_any (cat (cat (l.take (kL l)) m) (l.drop (kL l))) u (by rw [← putL_cat]; unfold putL; rw [List.length_append, List.length_append, List.length_take, List.length_drop]; omega))
  have hf1 : Fit (l.take (kL l)) m := fit (by omega)
  have hf2 : Fit (cat (l.take (kL l)) m) (l.drop (kL l)) := fit (by rw [cat_len]; omega)
  obtain ⟨X, hX⟩ : ∃ X, withL l m = X := ⟨_, rfl⟩
  rw [hX]
  unfold withL at hX
  rw [putL_cat] at hX
  have HX := Lib.hid hX.symm
  clear hX hbl hlen1 hlen2 hk
  generalize l.take (kL l) = t at *
  generalize l.drop (kL l) = d at *
  generalize goodL l = g1 at *
  generalize goodL (cat (cat t m) d) = g2 at *
  cases g1 with
  | false =>
    obtain rfl : X = ([], 7) := by rw [HX.out]; rfl
    unfold pairS
    rw [mkS_nil]
    go_enter Tryd.func36, Tryd.ntmps36
    go_wp2_with fail
    refine HB0.out.mono ?_
    rintro e w1 ⟨rfl, hB⟩
    have HB := Lib.hid hB
    clear hB HB0
    go_wp2_with fail
    refine (HT.out _).mono ?_
    rintro e w' ⟨rfl, rfl⟩
    go_wp2_with fail
    refine (HG1.out _).mono ?_
    rintro e w2 ⟨rfl, hB⟩
    have HB2 := Lib.hid (HB.out.trans (hB.mono HB.out.size))
    clear hB HB
    go_wp2
    go_ret2
    exact ⟨rfl, HB2.out⟩
  | true =>
    cases g2 with
    | false =>
      obtain rfl : X = ([], 7) := by rw [HX.out]; rfl
      unfold pairS
      rw [mkS_nil]
      go_enter Tryd.func36, Tryd.ntmps36
      go_wp2_with fail
      refine HB0.out.mono ?_
      rintro e w1 ⟨rfl, hB⟩
      have HB := Lib.hid hB
      clear hB HB0
      go_wp2_with fail
      refine (HT.out _).mono ?_
      rintro e w' ⟨rfl, rfl⟩
      go_wp2_with fail
      refine (HG1.out _).mono ?_
      rintro e w2 ⟨rfl, hB⟩
      have HB2 := Lib.hid (HB.out.trans (hB.mono HB.out.size))
      clear hB HB
      go_wp2_with fail
      refine (HG2.out _).mono ?_
      rintro e w3 ⟨rfl, hB⟩
      have HB3 := Lib.hid (HB2.out.trans (hB.mono HB2.out.size))
      clear hB HB2
      go_wp2
      go_ret2
      exact ⟨rfl, HB3.out⟩
    | true =>
      obtain rfl : X = (cat (cat t m) d, 0) := by rw [HX.out]; rfl
      unfold pairS
      go_enter Tryd.func36, Tryd.ntmps36
      go_wp2_with fail
      refine HB0.out.mono ?_
      rintro e w1 ⟨rfl, hB⟩
      have HB := Lib.hid hB
      clear hB HB0
      go_wp2_with fail
      refine (HT.out _).mono ?_
      rintro e w' ⟨rfl, rfl⟩
      go_wp2_with fail
      refine (HG1.out _).mono ?_
      rintro e w2 ⟨rfl, hB⟩
      have HB2 := Lib.hid (HB.out.trans (hB.mono HB.out.size))
      clear hB HB
      go_wp2_with fail
      refine (HG2.out _).mono ?_
      rintro e w3 ⟨rfl, hB⟩
      have HB3 := Lib.hid (HB2.out.trans (hB.mono HB2.out.size))
      clear hB HB2
      go_wp2
      go_ret2
      exact ⟨rfl, HB3.out⟩
set_option maxHeartbeats 1000000 in
theorem temp_any (l : S8) (w : World) (hl : l.length < 100000) : Calls Tryd.prog 18 #[.string (mkS l)] w fun e w' => Gives (pairS (withL l tmpS)) w e w' := by
  have HC := Lib.hid (show Calls Tryd.prog 36 #[.string (mkS l), .string ⟨#[46, 116, 109, 112, 126]⟩] w (fun e w' => Gives (pairS (withL l tmpS)) w e w') from by
    have := mark_any l tmpS w hl (by decide)
    rw [← mkS_lit tmpS] at this
    exact this)
  generalize withL l tmpS = x at *
  obtain ⟨a, c⟩ := x
  unfold pairS at *
  dsimp only at *
  go_enter Tryd.func18, Tryd.ntmps18
  go_wp2_with fail
  refine HC.out.mono ?_
  rintro e w1 ⟨rfl, hB⟩
  have HB := Lib.hid hB
  clear hB HC
  go_wp2
  go_ret2
  exact ⟨rfl, HB.out⟩
set_option maxHeartbeats 1000000 in
theorem side_any (l : S8) (w : World) (hl : l.length < 100000) : Calls Tryd.prog 19 #[.string (mkS l)] w fun e w' => Gives (pairS (withL l parS)) w e w' := by
  have HC := Lib.hid (show Calls Tryd.prog 36 #[.string (mkS l), .string ⟨#[46, 112, 97, 114, 126]⟩] w (fun e w' => Gives (pairS (withL l parS)) w e w') from by
    have := mark_any l parS w hl (by decide)
    rw [← mkS_lit parS] at this
    exact this)
  generalize withL l parS = x at *
  obtain ⟨a, c⟩ := x
  unfold pairS at *
  dsimp only at *
  go_enter Tryd.func19, Tryd.ntmps19
  go_wp2_with fail
  refine HC.out.mono ?_
  rintro e w1 ⟨rfl, hB⟩
  have HB := Lib.hid hB
  clear hB HC
  go_wp2
  go_ret2
  exact ⟨rfl, HB.out⟩
set_option maxHeartbeats 2000000 in
theorem kind_any (l : S8) (w : World) (hl : l.length < 100000) : Calls Tryd.prog 12 #[.string (mkS l)] w fun e w' => Gives (.int .i64 (kindL l : Int)) w e w' := by
  have HB0 := Lib.hid (base_any l w hl)
  have HG := Lib.hid (fun u => good_any l u (by omega))
  have H1 := Lib.hid (show ∀ u : World, Calls Tryd.prog 30 #[.string (mkS (baseL l)), .string ⟨#[46, 116, 109, 112, 126]⟩] u (fun e w' => e = .returned (.bool (startsL (baseL l) tmpS)) ∧ u = w') from fun u => by
    have := hasPrefix_any (baseL l) tmpS u
    rw [← mkS_lit tmpS] at this
    exact this)
  have H2 := Lib.hid (show ∀ u : World, Calls Tryd.prog 30 #[.string (mkS (baseL l)), .string ⟨#[46, 112, 97, 114, 126]⟩] u (fun e w' => e = .returned (.bool (startsL (baseL l) parS)) ∧ u = w') from fun u => by
    have := hasPrefix_any (baseL l) parS u
    rw [← mkS_lit parS] at this
    exact this)
  obtain ⟨k, hk⟩ : ∃ k, kindL l = k := ⟨_, rfl⟩
  rw [hk]
  unfold kindL at hk
  have HK := Lib.hid hk.symm
  clear hk
  generalize startsL (baseL l) tmpS = b1 at *
  generalize startsL (baseL l) parS = b2 at *
  generalize baseL l = x at *
  generalize goodL l = g at *
  cases g with
  | false =>
    obtain rfl : k = 0 := by rw [HK.out]; rfl
    go_enter Tryd.func12, Tryd.ntmps12
    go_wp2_with fail
    refine HB0.out.mono ?_
    rintro e w1 ⟨rfl, hB⟩
    have HB := Lib.hid hB
    clear hB HB0
    go_wp2_with fail
    refine (HG.out _).mono ?_
    rintro e w2 ⟨rfl, hB⟩
    have HB2 := Lib.hid (HB.out.trans (hB.mono HB.out.size))
    clear hB HB
    go_wp2
    go_ret
    exact ⟨rfl, HB2.out⟩
  | true =>
    cases b1 with
    | true =>
      obtain rfl : k = 1 := by rw [HK.out]; rfl
      go_enter Tryd.func12, Tryd.ntmps12
      go_wp2_with fail
      refine HB0.out.mono ?_
      rintro e w1 ⟨rfl, hB⟩
      have HB := Lib.hid hB
      clear hB HB0
      go_wp2_with fail
      refine (HG.out _).mono ?_
      rintro e w2 ⟨rfl, hB⟩
      have HB2 := Lib.hid (HB.out.trans (hB.mono HB.out.size))
      clear hB HB
      go_wp2_with fail
      refine (H1.out _).mono ?_
      rintro e w' ⟨rfl, rfl⟩
      go_wp2
      go_ret
      exact ⟨rfl, HB2.out⟩
    | false =>
      obtain rfl : k = if b2 then 2 else 3 := by rw [HK.out]; rfl
      go_enter Tryd.func12, Tryd.ntmps12
      go_wp2_with fail
      refine HB0.out.mono ?_
      rintro e w1 ⟨rfl, hB⟩
      have HB := Lib.hid hB
      clear hB HB0
      go_wp2_with fail
      refine (HG.out _).mono ?_
      rintro e w2 ⟨rfl, hB⟩
      have HB2 := Lib.hid (HB.out.trans (hB.mono HB.out.size))
      clear hB HB
      go_wp2_with fail
      refine (H1.out _).mono ?_
      rintro e w' ⟨rfl, rfl⟩
      go_wp2_with fail
      refine (H2.out _).mono ?_
      rintro e w' ⟨rfl, rfl⟩
      cases b2 with
      | true =>
        go_wp2
        go_ret
        exact ⟨rfl, HB2.out⟩
      | false =>
        go_wp2
        go_ret
        exact ⟨rfl, HB2.out⟩
end Go.Proofs.YtbnolmbbpdjibaaDoor
