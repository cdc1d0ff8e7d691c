/- The statement PathFirsts, walked over the premises. -/
import Derived.Test.YtbnolmbbpdjibaaDoorPath7
import Derived.Test.YtbnolmbbpdjibaaDoorRefI7
import Derived.Deep.QuietTactic
set_option linter.unusedSimpArgs false
set_option linter.unusedVariables false
namespace Go.Proofs.YtbnolmbbpdjibaaDoor
open Go Go.RowKit

attribute [local irreducible] wpQuiet
/-- A contract that changes nothing, as a quiet region takes it. -/
theorem quietIn {f : FuncId} {args : Array Value} {v : Value} (h : ∀ u : World, Calls Tryd.prog f args u fun e w' => e = .returned v ∧ u = w') {w : World} (n : Nat) : Calls Tryd.prog f args (w.drewN n) fun e w'' => e = .returned v ∧ ∃ m, w'' = w.drewN m :=
  (h _).mono fun e w' ⟨he, hw⟩ => ⟨he, n, hw.symm⟩
theorem FirstR.hit {ls : List S8} {a b : S8} {sm : Bool} (h : FirstR ls a b sm) {i k : Nat} (hik : i < k) (hk : k < ls.length) (hh : hitL (ls.getD i []) (ls.getD k []) = true)
    (n1 : ∀ i' k', i' < k' → k' < k → hitL (ls.getD i' []) (ls.getD k' []) = false) (n2 : ∀ i', i' < i → hitL (ls.getD i' []) (ls.getD k []) = false) : sm = true ∧ a = ls.getD i [] ∧ b = ls.getD k [] := by
  rcases h with ⟨h1, i0, k0, h2, h3, h4, h5, h6, h7⟩ | ⟨h1, h2, h3, h4⟩
  · have hkk : k0 = k := by
      rcases Nat.lt_trichotomy k0 k with q | q | q
      · rw [n1 i0 k0 h2 q] at h6; cases h6
      · exact q
      · rw [h7 i k hik (.inl q)] at hh; cases hh
    subst hkk
    have hii : i0 = i := by
      rcases Nat.lt_trichotomy i0 i with q | q | q
      · rw [n2 i0 q] at h6; cases h6
      · exact q
      · rw [h7 i k0 hik (.inr ⟨rfl, q⟩)] at hh; cases hh
    subst hii
    exact ⟨h1, h4, h5⟩
  · rw [h4 i k hik hk] at hh; cases hh
theorem FirstR.none {ls : List S8} {a b : S8} {sm : Bool} (h : FirstR ls a b sm) (n1 : ∀ i' k', i' < k' → k' < ls.length → hitL (ls.getD i' []) (ls.getD k' []) = false) : sm = false ∧ a = [] ∧ b = [] := by
  rcases h with ⟨h1, i0, k0, h2, h3, h4, h5, h6, h7⟩ | ⟨h1, h2, h3, h4⟩
  · rw [n1 i0 k0 h2 h3] at h6; cases h6
  · exact ⟨h1, h2, h3⟩
section
variable {T : Prop} {w0 : World} (S : PathSpec T w0)
include S
set_option maxRecDepth 100000 in
set_option maxHeartbeats 1000000 in
theorem law_pathFirsts (ls : List S8) (p : Option Addr) (n cap : Nat) (w : World) (hs : StrSl w p ls) (hn : ls.length = n) (hp : p = none → cap = 0) (hnc : n ≤ cap) : Calls Tryd.prog 6 #[.slice p n cap] w fun e w' => Gives (.bool true) w e w' := by
  have HAW := Lib.hid (fun u => awake7 S u)
  by_cases h30 : 30 < n
  · have x1 : (30 : Int) < (n : Int) := by omega
    have x2 : decide ((30 : Int) < (n : Int)) = true := decide_eq_true x1
    clear hs
    go_enter Tryd.func6, Tryd.ntmps6
    go_wp2_with fail
    refine (HAW.out _).mono ?_
    rintro e w1 ⟨rfl, hB1⟩
    have HB1 := Lib.hid hB1
    clear hB1
    go_wp2_with fail
    refine (onto HB1.out HB1.out.size (HAW.out _)).mono ?_
    rintro e w2 ⟨rfl, hB2⟩
    have HB2 := Lib.hid hB2
    clear hB2 HB1
    go_wp2
    go_ret
    exact ⟨rfl, HB2.out⟩
  · have x1 : ¬ (30 : Int) < (n : Int) := by omega
    have x2 : decide ((30 : Int) < (n : Int)) = false := decide_eq_false x1
    have HFI := Lib.hid (fun u h1 h2 => S.first ls p n cap u h1 hn hp hnc (by omega) h2)
    have HN := Lib.hid hn
    have HS := Lib.hid hs
    have H30 := Lib.hid h30
    clear S hs hn hp hnc h30
    go_enter Tryd.func6, Tryd.ntmps6
    go_wp2_with fail
    refine (HAW.out _).mono ?_
    rintro e w1 ⟨rfl, hB1⟩
    have HS1 := Lib.hid (HS.out.of_below hB1)
    have HB1 := Lib.hid hB1
    clear hB1 HS
    go_wp2
    go_loopw [4, 20] (fun vs vi wr => ∃ i : Nat, i ≤ n ∧ vi = .int .i64 i ∧ (∀ j, j < i → (ls.getD j []).length ≤ 200) ∧ w1 = wr) (fun vs vi _ => n - (intOf vi).toNat)
    case atStart => exact ⟨0, Nat.zero_le _, rfl, fun j h => absurd h (by omega), rfl⟩
    case round =>
      obtain ⟨i, hi, rfl, hsh, rfl⟩ := hrel
      by_cases hlt : i < n
      · have z1 : (i : Int) < (n : Int) := by omega
        have z2 : decide ((i : Int) < (n : Int)) = true := decide_eq_true z1
        have hw := i64s i (by have := H30.out; omega)
        obtain ⟨c0, o0, hpe, hx⟩ := HS1.out i (by rw [HN.out]; exact hlt)
        subst hpe
        have HSH := Lib.hid hsh
        clear hsh
        obtain ⟨s, hs⟩ : ∃ s, ls.getD i [] = s := ⟨_, rfl⟩
        rw [hs] at hx
        have HSI := Lib.hid hs
        clear hs
        by_cases h2 : 200 < s.length
        · have y1 : (200 : Int) < (s.length : Int) := by omega
          have y2 : decide ((200 : Int) < (s.length : Int)) = true := decide_eq_true y1
          go_wp2
          go_ret
          exact ⟨rfl, HB1.out⟩
        · have y1 : ¬ (200 : Int) < (s.length : Int) := by omega
          have y2 : decide ((200 : Int) < (s.length : Int)) = false := decide_eq_false y1
          have HNX := Lib.hid (show ∀ j, j < i + 1 → (ls.getD j []).length ≤ 200 from fun j h => by
            rcases Nat.lt_succ_iff_lt_or_eq.1 h with h | h
            · exact HSH.out j h
            · rw [h, HSI.out]; omega)
          go_wp2
          exact ⟨⟨i + 1, by omega, by go_num, HNX.out, trivial⟩, by simp [intOf]; omega⟩
      · obtain rfl : i = n := by omega
        have z1 : ¬ (i : Int) < (i : Int) := by omega
        have z2 : decide ((i : Int) < (i : Int)) = false := decide_eq_false z1
        have HSHO := Lib.hid (show ∀ j, (ls.getD j []).length ≤ 200 from fun j => by
          by_cases h : j < i
          · exact hsh j h
          · rw [List.getD_eq_getElem?_getD, List.getElem?_eq_none (by rw [HN.out]; omega)]; simp)
        have HFC := Lib.hid (HFI.out w1 HS1.out (fun s hs => by
          obtain ⟨j, hj, rfl⟩ := List.getElem_of_mem hs
          have := HSHO.out j
          rw [List.getD_eq_getElem?_getD, List.getElem?_eq_getElem hj] at this
          exact this))
        clear hsh HFI
        go_wp2_with fail
        refine HFC.out.mono ?_
        rintro e w2 ⟨a, b, sm, hFR, rfl, hB2⟩
        have HS2 := Lib.hid (HS1.out.of_below hB2)
        have HB2 := Lib.hid (HB1.out.trans (hB2.mono HB1.out.size))
        have HFR := Lib.hid hFR
        clear hB2 hFR HFC HS1 HB1
        go_wp2
        go_loopw [36] (fun vi wr => ∃ k : Nat, k ≤ i ∧ vi = .int .i64 k ∧ (∀ i' k', i' < k' → k' < k → hitL (ls.getD i' []) (ls.getD k' []) = false) ∧ Dr w2 wr) (fun vi _ => i - (intOf vi).toNat)
        case atStart => exact ⟨0, Nat.zero_le _, rfl, fun _ k' _ h => absurd h (by omega), Dr.refl _⟩
        case round =>
          rename World => WO
          obtain ⟨k, hk, rfl, hno, hdr⟩ := hrel
          have HDR := Lib.hid hdr
          clear hdr
          have HNO := Lib.hid hno
          clear hno
          by_cases hki : k < i
          · have q1 : (k : Int) < (i : Int) := by omega
            have q2 : decide ((k : Int) < (i : Int)) = true := decide_eq_true q1
            have hwk := i64s k (by have := H30.out; omega)
            go_wp2
            go_loopw [40] (fun vj wr => ∃ j : Nat, j ≤ k ∧ vj = .int .i64 j ∧ (∀ i', i' < j → hitL (ls.getD i' []) (ls.getD k []) = false) ∧ Dr w2 wr) (fun vj _ => k - (intOf vj).toNat)
            case atStart => exact ⟨0, Nat.zero_le _, rfl, fun _ h => absurd h (by omega), HDR.out⟩
            case round =>
              obtain ⟨j, hj, rfl, hnj, hdr2⟩ := hrel
              have HDR2 := Lib.hid hdr2
              clear hdr2
              have HNJ := Lib.hid hnj
              clear hnj
              by_cases hjk : j < k
              · have q3 : (j : Int) < (k : Int) := by omega
                have q4 : decide ((j : Int) < (k : Int)) = true := decide_eq_true q3
                have q5 : (j : Int) < (i : Int) := by omega
                have hwj := i64s j (by have := H30.out; omega)
                obtain ⟨c0, o0, hpe, hx⟩ := (HS2.out.of_below (HDR2.out.below _)) j (by rw [HN.out]; omega)
                obtain ⟨c1, o1, hpe2, hy⟩ := (HS2.out.of_below (HDR2.out.below _)) k (by rw [HN.out]; omega)
                subst hpe
                injection hpe2 with hpe2
                injection hpe2 with e1 e2
                subst e1 e2
                obtain ⟨x, hxx⟩ : ∃ x, ls.getD j [] = x := ⟨_, rfl⟩
                obtain ⟨y, hyy⟩ : ∃ y, ls.getD k [] = y := ⟨_, rfl⟩
                have hlx : x.length ≤ 200 := by rw [← hxx]; exact HSHO.out j
                have hly : y.length ≤ 200 := by rw [← hyy]; exact HSHO.out k
                rw [hxx] at hx
                rw [hyy] at hy
                have HXJ := Lib.hid hxx
                have HXK := Lib.hid hyy
                have HI1 := Lib.hid (fun u => refIn_any x y (by omega) (by omega) u)
                have HI2 := Lib.hid (fun u => refIn_any y x (by omega) (by omega) u)
                clear hxx hyy hlx hly
                by_cases hxy : x = y
                · subst hxy
                  obtain ⟨r1, r2, r3⟩ := HFR.out.hit hjk (by rw [HN.out]; exact hki) (by rw [HXJ.out, HXK.out]; unfold hitL; simp) HNO.out HNJ.out
                  rw [HXJ.out] at r2
                  rw [HXK.out] at r3
                  have R := Lib.hid (And.intro r1 (And.intro r2 r3))
                  clear r1 r2 r3
                  go_wp2
                  go_quiet (fail)
                  obtain ⟨r1, r2, r3⟩ := R.out
                  subst r1 r2 r3
                  go_wp2
                  go_ret
                  exact ⟨rfl, HB2.out.trans ((HDR2.out.drewN nq).below _)⟩
                · have b1 : (x == y) = false := beq_eq_false_iff_ne.2 hxy
                  have c1 := HI1
                  cases hi1 : inL x y with
                  | true =>
                    rw [hi1] at HI1
                    obtain ⟨r1, r2, r3⟩ := HFR.out.hit hjk (by rw [HN.out]; exact hki) (by rw [HXJ.out, HXK.out]; unfold hitL; rw [b1, hi1]; rfl) HNO.out HNJ.out
                    rw [HXJ.out] at r2
                    rw [HXK.out] at r3
                    have R := Lib.hid (And.intro r1 (And.intro r2 r3))
                    have HQ1 := Lib.hid (fun n => quietIn HI1.out (w := wr) n)
                    clear r1 r2 r3 hi1 hxy c1
                    go_wp2
                    go_quiet (with_reducible exact HQ1.out _)
                    obtain ⟨r1, r2, r3⟩ := R.out
                    subst r1 r2 r3
                    go_wp2
                    go_ret
                    exact ⟨rfl, HB2.out.trans ((HDR2.out.drewN nq).below _)⟩
                  | false =>
                    cases hi2 : inL y x with
                    | true =>
                      rw [hi1] at HI1
                      rw [hi2] at HI2
                      obtain ⟨r1, r2, r3⟩ := HFR.out.hit hjk (by rw [HN.out]; exact hki) (by rw [HXJ.out, HXK.out]; unfold hitL; rw [b1, hi1, hi2]; rfl) HNO.out HNJ.out
                      rw [HXJ.out] at r2
                      rw [HXK.out] at r3
                      have R := Lib.hid (And.intro r1 (And.intro r2 r3))
                      have HQ1 := Lib.hid (fun n => quietIn HI1.out (w := wr) n)
                      have HQ2 := Lib.hid (fun n => quietIn HI2.out (w := wr) n)
                      clear r1 r2 r3 hi1 hi2 hxy c1
                      go_wp2
                      go_quiet ((first | with_reducible exact HQ1.out _ | with_reducible exact HQ2.out _))
                      obtain ⟨r1, r2, r3⟩ := R.out
                      subst r1 r2 r3
                      go_wp2
                      go_ret
                      exact ⟨rfl, HB2.out.trans ((HDR2.out.drewN nq).below _)⟩
                    | false =>
                      rw [hi1] at HI1
                      rw [hi2] at HI2
                      clear c1
                      have HNX := Lib.hid (show ∀ i', i' < j + 1 → hitL (ls.getD i' []) (ls.getD k []) = false from fun i' h => by
                        rcases Nat.lt_succ_iff_lt_or_eq.1 h with h | h
                        · exact HNJ.out i' h
                        · rw [h, HXJ.out, HXK.out]; unfold hitL; rw [b1, hi1, hi2]; rfl)
                      have HQ1 := Lib.hid (fun n => quietIn HI1.out (w := wr) n)
                      have HQ2 := Lib.hid (fun n => quietIn HI2.out (w := wr) n)
                      clear hi1 hi2 hxy
                      go_wp2
                      go_quiet ((first | with_reducible exact HQ1.out _ | with_reducible exact HQ2.out _))
                      go_wp2
                      exact ⟨⟨j + 1, by omega, by go_num, HNX.out, HDR2.out.drewN nq⟩, by simp [intOf]; omega⟩
              · obtain rfl : j = k := by omega
                have q3 : ¬ (j : Int) < (j : Int) := by omega
                have q4 : decide ((j : Int) < (j : Int)) = false := decide_eq_false q3
                have HNX := Lib.hid (show ∀ i' k', i' < k' → k' < j + 1 → hitL (ls.getD i' []) (ls.getD k' []) = false from fun i' k' h1 h2 => by
                  rcases Nat.lt_succ_iff_lt_or_eq.1 h2 with h | h
                  · exact HNO.out i' k' h1 h
                  · subst h; exact HNJ.out i' h1)
                go_wp2
                exact ⟨⟨j + 1, by omega, by go_num, HNX.out, HDR2.out⟩, by simp [intOf]; omega⟩
          · obtain rfl : k = i := by omega
            have q1 : ¬ (k : Int) < (k : Int) := by omega
            have q2 : decide ((k : Int) < (k : Int)) = false := decide_eq_false q1
            obtain ⟨r1, r2, r3⟩ := HFR.out.none (fun i' k' h1 h2 => HNO.out i' k' h1 (by rw [HN.out] at h2; exact h2))
            subst r1 r2 r3
            go_wp2
            go_ret
            exact ⟨rfl, HB2.out.trans (HDR.out.below _)⟩
end
end Go.Proofs.YtbnolmbbpdjibaaDoor
