/- (*lane.Lanes).Last; Tick of a budget that there isn't. -/
import Derived.Test.YtcgilacmdckbfaaDoorLnx14
set_option linter.unusedSimpArgs false
set_option maxRecDepth 100000
set_option linter.unusedVariables false
namespace Go.Proofs.YtcgilacmdckbfaaDoor
open Go Go.RowKit

/-- What Last tells. -/
def lastV (s : Ln) (p : S8) : Int := if 0 ≤ findI s.en p then -1 else if 0 ≤ findI s.sc p then ((s.sc.getD (findI s.sc p).toNat fl0).tick : Int) else 0
def lastE (s : Ln) (p : S8) : Int := if 0 ≤ findI s.en p then 0 else if 0 ≤ findI s.sc p then 0 else 8
set_option maxHeartbeats 4000000 in
theorem last_any {w : World} {b : Nat} {F : Nat → Prop} {s : Ln} (h : LnAt w b F s) (hn : s.en.length < 100000000 ∧ s.sc.length < 100000000) (p : S8) :
    Calls Tryd.prog 13 #[.pointer (some ⟨b, 0, none⟩), .string (mkS p)] w fun e w' => e = .returned (.tuple #[.int .i64 (lastV s p), .int .i64 (lastE s p)]) ∧ Below w.heap.size w w' := by
  have hlt := h.lt
  obtain ⟨v1, v2, h1, h2, h3, -⟩ := h
  have HF1 := Lib.hid (find_any s.en p w h2 hn.1)
  have HF2 := Lib.hid (fun u (hu : Below w.heap.size w u) => find_any s.sc p u (own_below h3 hu) hn.2)
  obtain ⟨p1, n1, k1, e1⟩ : ∃ p n k, v1 = .slice p n k := by
    obtain ⟨p, k, e, -⟩ := own_shape h2; exact ⟨p, _, k, e⟩
  obtain ⟨p2, k2, e2, hl2, -, hle2, -⟩ := own_shape h3
  have HC := Lib.hid (fun u (hu : Below w.heap.size w u) => lnCells ((hu.block b hlt).trans h1))
  have HL2 := Lib.hid (fun u (hu : Below w.heap.size w u) => hl2.of_below hu)
  have c1 := (lnCells h1).2.1
  rw [e1] at c1
  have HN := Lib.hid hn
  obtain ⟨m2, hm2⟩ : ∃ n, s.sc.length = n := ⟨_, rfl⟩
  rw [hm2] at e2 hle2
  have HM2 := Lib.hid hm2
  clear h1 h2 h3 hl2 hm2 hn
  rcases findI_spec s.en p with ⟨hf, -⟩ | ⟨i, hf, hi, -⟩
  · rw [e1, hf] at HF1
    rcases findI_spec s.sc p with ⟨hg, -⟩ | ⟨i, hg, hi, -⟩
    · have HR := Lib.hid (show lastV s p = 0 ∧ lastE s p = 8 from by unfold lastV lastE; rw [hf, hg]; exact ⟨rfl, rfl⟩)
      rw [e2, hg] at HF2
      clear hf hg
      go_enter Tryd.func13, Tryd.ntmps13
      go_wp2_with (first | (go_at_call 29; refine HF1.out.mono ?_; rintro e w1 ⟨rfl, hB1⟩; have c2 := (HC.out w1 hB1).2.2.1; rw [e2] at c2; have HB1 := Lib.hid hB1; clear hB1) | (go_at_call 29; refine (HF2.out _ HB1.out).mono ?_; rintro e w2 ⟨rfl, hB2⟩; have HB2 := Lib.hid (HB1.out.trans (hB2.mono HB1.out.size)); clear hB2))
      go_ret2
      exact ⟨by rw [HR.out.1, HR.out.2]; rfl, HB2.out⟩
    · have HR := Lib.hid (show lastV s p = ((s.sc.getD i fl0).tick : Int) ∧ lastE s p = 0 from by
        unfold lastV lastE
        rw [hf, hg, if_neg (by decide), if_pos (Int.natCast_nonneg i), if_neg (by decide), if_pos (Int.natCast_nonneg i)]
        exact ⟨rfl, rfl⟩)
      have hi0 : (0 : Int) ≤ (i : Int) := Int.natCast_nonneg i
      have hi1 : decide ((0 : Int) ≤ (i : Int)) = true := decide_eq_true hi0
      have him : i < m2 := by rw [← HM2.out]; exact hi
      have hi2 : (i : Int) < (m2 : Int) := by omega
      rw [e2, hg] at HF2
      obtain ⟨c, o, rfl, -⟩ := HL2.out w (Below.refl _ _) (i * 4) (by rw [flsC_len]; omega)
      have HX := Lib.hid (show ∀ u, Below w.heap.size w u → u.cell? ⟨c, o + i * 4 + 3, none⟩ = some (.int .i64 ((s.sc.getD i fl0).tick : Int)) from fun u hu => by
        obtain ⟨c', o', e, hc⟩ := HL2.out u hu (i * 4 + 3) (by rw [flsC_len]; omega)
        injection e with e
        injection e with e1 e2
        subst e1 e2
        rw [Nat.add_assoc, hc, flsC_get _ i 3 hi (by decide)]
        rfl)
      generalize (s.sc.getD i fl0).tick = T at HX HR
      clear hf hg hi
      go_enter Tryd.func13, Tryd.ntmps13
      go_wp2_with (first | (go_at_call 29; refine HF1.out.mono ?_; rintro e w1 ⟨rfl, hB1⟩; have c2 := (HC.out w1 hB1).2.2.1; rw [e2] at c2; have HB1 := Lib.hid hB1; clear hB1) | (go_at_call 29; refine (HF2.out _ HB1.out).mono ?_; rintro e w2 ⟨rfl, hB2⟩; have HB2 := Lib.hid (HB1.out.trans (hB2.mono HB1.out.size)); clear hB2; have c3 := (HC.out w2 HB2.out).2.2.1; rw [e2] at c3; have c4 := HX.out w2 HB2.out))
      go_ret2
      exact ⟨by rw [HR.out.1, HR.out.2]; rfl, HB2.out⟩
  · have HR := Lib.hid (show lastV s p = -1 ∧ lastE s p = 0 from by
      unfold lastV lastE
      rw [hf, if_pos (Int.natCast_nonneg i), if_pos (Int.natCast_nonneg i)]
      exact ⟨rfl, rfl⟩)
    have hi0 : (0 : Int) ≤ (i : Int) := Int.natCast_nonneg i
    have hi1 : decide ((0 : Int) ≤ (i : Int)) = true := decide_eq_true hi0
    rw [e1, hf] at HF1
    clear hf hi
    go_enter Tryd.func13, Tryd.ntmps13
    go_wp2_with (go_at_call 29; refine HF1.out.mono ?_; rintro e w1 ⟨rfl, hB1⟩; have HB1 := Lib.hid hB1; clear hB1)
    go_ret2
    exact ⟨by rw [HR.out.1, HR.out.2]; rfl, HB1.out⟩
theorem tick_bad (b : Nat) (w : World) (z : Int) (hz : badB z = true) : Calls Tryd.prog 15 #[.pointer (some ⟨b, 0, none⟩), .int .i64 z] w fun e w' => e = .returned (.tuple #[.slice none 0 0, .int .i64 1]) ∧ w' = w := by
  by_cases h1 : z < 2
  · have g1 : decide (z < 2) = true := decide_eq_true h1
    clear hz
    go_enter Tryd.func15, Tryd.ntmps15
    go_wp2
    go_ret2
    exact ⟨rfl, rfl⟩
  · have g1 : decide (z < 2) = false := decide_eq_false h1
    by_cases h2 : 1000 < z
    · have g2 : decide (1000 < z) = true := decide_eq_true h2
      clear hz
      go_enter Tryd.func15, Tryd.ntmps15
      go_wp2
      go_ret2
      exact ⟨rfl, rfl⟩
    · have g2 : decide (1000 < z) = false := decide_eq_false h2
      have h3 : z % 2 = 1 := by
        unfold badB at hz
        rw [g1, g2] at hz
        simp at hz
        omega
      have h4 : Int.tmod z 2 = 1 := by rw [Int.tmod_eq_emod_of_nonneg (by omega)]; exact h3
      clear hz
      go_enter Tryd.func15, Tryd.ntmps15
      go_wp2
      go_ret2
      exact ⟨rfl, rfl⟩
end Go.Proofs.YtcgilacmdckbfaaDoor
