/- (*lane.Lanes).Put, New. -/
import Derived.Test.YtcgilacmdckbfaaDoorDrp14
import Derived.Test.YtcgilacmdckbfaaDoorPtbP7
set_option linter.unusedSimpArgs false
set_option maxRecDepth 100000
set_option linter.unusedVariables false
namespace Go.Proofs.YtcgilacmdckbfaaDoor
open Go Go.RowKit

theorem KpF.trans_new {F : Nat → Prop} {w w1 w2 : World} (h : KpF F w w1) (k : KpF (newF F w w1) w1 w2) : KpF F w w2 :=
  ⟨k.os.trans h.os, k.tape.trans h.tape, k.output.trans h.output, Nat.le_trans h.size k.size, fun i hi hb => (k.block i (Nat.lt_of_lt_of_le hi h.size) (fun e => by
    rcases e with e | e
    · exact hb e
    · omega)).trans (h.block i hi hb)⟩
theorem LnAt.new_new {F : Nat → Prop} {w w1 w2 : World} {b : Nat} {s : Ln} (h : LnAt w2 b (newF (newF F w w1) w1 w2) s) (h1 : w.heap.size ≤ w1.heap.size) (h2 : w1.heap.size ≤ w2.heap.size) : LnAt w2 b (newF F w w2) s :=
  h.mono fun g hg hf => by
    rcases hf with (hf | hf) | hf
    · exact .inl hf
    · exact .inr ⟨hf.1, hg⟩
    · exact .inr ⟨by omega, hg⟩
theorem newF_in {F : Nat → Prop} {w w1 w2 : World} {b : Nat} {s : Ln} (h : LnAt w1 b (newF F w w1) s) (h2 : w1.heap.size ≤ w2.heap.size) : LnAt w1 b (newF F w w2) s :=
  h.mono fun g hg hf => by
    rcases hf with hf | hf
    · exact .inl hf
    · exact .inr ⟨hf.1, by omega⟩
def putC (p : S8) (n : Int) : Int := if kindL p ≠ 3 then 7 else if n < 0 ∨ 64 < n then 1 else 0
def putS (s : Ln) (p : S8) (n : Int) : Ln := if putC p n = 0 then ⟨s.clock, dropF s.en p ++ [⟨p, n.toNat, 0, 0⟩], dropF s.sc p⟩ else s
/-- What Put leaves. -/
def PutP (w : World) (b : Nat) (F : Nat → Prop) (s : Ln) (p : S8) (n : Int) (e : Ending) (w' : World) : Prop :=
  e = .returned (.int .i64 (putC p n)) ∧ LnAt w' b (newF F w w') (putS s p n) ∧ KpF F w w'
theorem newF_self {w w' : World} {b : Nat} {F : Nat → Prop} {s : Ln} (h : LnAt w b F s) (hB : Below w.heap.size w w') : LnAt w' b (newF F w w') s := (h.of_new hB).mono fun _ _ hf => .inl hf
set_option maxHeartbeats 4000000 in
theorem put_any {w : World} {b : Nat} {F : Nat → Prop} {s : Ln} (h : LnAt w b F s) (hok : okLn s) (hn : s.en.length < 10000000 ∧ s.sc.length < 10000000) (p : S8) (hp : p.length < 100000) (n : Int) (hn1 : -9223372036854775808 ≤ n) (hn2 : n < 9223372036854775808) :
    Calls Tryd.prog 10 #[.pointer (some ⟨b, 0, none⟩), .string (mkS p), .int .i64 n] w (fun e w' => PutP w b F s p n e w') := by
  have HKD := Lib.hid (kind_any p w hp)
  have HDR := Lib.hid (fun u (hu : Below w.heap.size w u) => drop_any (h.of_new hu) hok (by omega) p)
  have HLN := Lib.hid h
  obtain ⟨K, hK⟩ : ∃ K, kindL p = K := ⟨_, rfl⟩
  rw [hK] at HKD
  have HK := Lib.hid hK
  clear h hK
  by_cases h3 : K = 3
  · by_cases h0 : n < 0
    · have g0 : decide (n < 0) = true := decide_eq_true h0
      have HC := Lib.hid (show putC p n = 1 ∧ putS s p n = s from by
        have : putC p n = 1 := by unfold putC; rw [if_neg (by rw [HK.out]; omega), if_pos (.inl h0)]
        exact ⟨this, by unfold putS; rw [this]; rfl⟩)
      subst h3
      go_enter Tryd.func10, Tryd.ntmps10
      go_wp2_with (go_at_call 27; refine HKD.out.mono ?_; rintro e w1 ⟨rfl, hB1⟩; have HB1 := Lib.hid hB1; clear hB1)
      go_ret
      exact ⟨congrArg (fun z => Ending.returned (Value.int .i64 z)) HC.out.1.symm, by rw [HC.out.2]; exact newF_self HLN.out HB1.out, KpF.of_new HB1.out⟩
    · have g0 : decide (n < 0) = false := decide_eq_false h0
      by_cases h1 : 64 < n
      · have g1 : decide (64 < n) = true := decide_eq_true h1
        have HC := Lib.hid (show putC p n = 1 ∧ putS s p n = s from by
          have : putC p n = 1 := by unfold putC; rw [if_neg (by rw [HK.out]; omega), if_pos (.inr h1)]
          exact ⟨this, by unfold putS; rw [this]; rfl⟩)
        subst h3
        go_enter Tryd.func10, Tryd.ntmps10
        go_wp2_with (go_at_call 27; refine HKD.out.mono ?_; rintro e w1 ⟨rfl, hB1⟩; have HB1 := Lib.hid hB1; clear hB1)
        go_ret
        exact ⟨congrArg (fun z => Ending.returned (Value.int .i64 z)) HC.out.1.symm, by rw [HC.out.2]; exact newF_self HLN.out HB1.out, KpF.of_new HB1.out⟩
      · have g1 : decide (64 < n) = false := decide_eq_false h1
        have HC := Lib.hid (show putC p n = 0 ∧ putS s p n = ⟨s.clock, dropF s.en p ++ [⟨p, n.toNat, 0, 0⟩], dropF s.sc p⟩ from by
          have : putC p n = 0 := by unfold putC; rw [if_neg (by rw [HK.out]; omega), if_neg (by omega)]
          exact ⟨this, by unfold putS; rw [this]; rfl⟩)
        obtain ⟨N, hN⟩ : ∃ N : Nat, (N : Int) = n := ⟨n.toNat, by omega⟩
        subst h3 hN
        go_enter Tryd.func10, Tryd.ntmps10
        go_wp2_with (go_at_call 27; refine HKD.out.mono ?_; rintro e w1 ⟨rfl, hB1⟩; have HB1 := Lib.hid hB1; clear hB1)
        refine (HDR.out _ HB1.out).mono ?_
        rintro e w2 ⟨rfl, hL2, hK2⟩
        have HX2 := Lib.hid hL2
        have HK2 := Lib.hid hK2
        obtain ⟨v1, v2, h1, h2, h3, h4, h5, h6⟩ := hL2
        have HIN := Lib.hid (And.intro h1 (And.intro h2 (And.intro h3 (And.intro h4 (And.intro h5 h6)))))
        obtain ⟨p1, k1, e1, -⟩ := own_shape h2
        subst e1
        have c1 := (lnCells h1).2.1
        clear hK2 h1 h2 h3 h4 h5 h6 hok hp hn1 hn2 HDR HKD g0 g1
        generalize (if hasL s p = true then (0 : Int) else 8) = rc
        obtain ⟨m1, hm1⟩ : ∃ m, (dropF s.en p).length = m := ⟨_, rfl⟩
        have HM1 := Lib.hid hm1
        change _ = some (Value.slice p1 (dropF s.en p).length k1) at c1
        rw [hm1] at c1
        clear hm1
        have HAD := Lib.hid (show LsC (w2.alloc (.cells #[.string (mkS p), .int .i64 (N : Int), .int .i64 0, .int .i64 0] EF)) (some ⟨w2.heap.size, 0, none⟩) (flC ⟨p, N, 0, 0⟩) ∧ (w2.alloc (.cells #[.string (mkS p), .int .i64 (N : Int), .int .i64 0, .int .i64 0] EF)).ownsRow 0 EF 4 (.slice p1 m1 k1) m1 (flsC (dropF s.en p)) ∧ m1 < 10000000 ∧ Below w2.heap.size w2 (w2.alloc (.cells #[.string (mkS p), .int .i64 (N : Int), .int .i64 0, .int .i64 0] EF)) from by
          have hB := (Below.refl w2.heap.size w2).alloc (Nat.le_refl _) (.cells #[.string (mkS p), .int .i64 (N : Int), .int .i64 0, .int .i64 0] EF)
          refine ⟨LsC.made w2 (flC ⟨p, N, 0, 0⟩) EF, ?_, ?_, hB⟩
          · rw [← HM1.out]
            exact own_below HIN.out.2.1 hB
          · rw [← HM1.out]
            have := List.length_filter_le (fun x : Fl => decide (x.path ≠ p)) s.en
            unfold dropF
            omega)
        obtain ⟨W3, hW3⟩ : ∃ W, w2.alloc (.cells #[.string (mkS p), .int .i64 (N : Int), .int .i64 0, .int .i64 0] EF) = W := ⟨_, rfl⟩
        rw [hW3] at HAD
        have HW3 := Lib.hid hW3
        have hlt2 := HX2.out.lt
        clear hW3
        go_wp2_with (first | (rw [HW3.out]; refine wpl_appendK elF W3 rfl (.tmp 23) (.tmp 27) rfl 0 (n := m1) (v := .slice p1 m1 k1) (cs := flsC (dropF s.en p)) rfl HAD.out.2.1 (some ⟨w2.heap.size, 0, none⟩) 1 1 (flC ⟨p, N, 0, 0⟩) rfl rfl HAD.out.1 (fun h => by cases h) (flC_one _) (by have := HAD.out.2.2.1; omega) (Nat.zero_le _) ?_; rintro v4 w4 hO4 hg4 hor4; rw [← flsC_one, ← flsC_app] at hO4; have HO4 := Lib.hid hO4; have HG4 := Lib.hid (And.intro hg4 hor4); obtain ⟨p4, k4, e4, -⟩ := own_shape hO4; subst e4; have c4 := lnCells ((hg4.block b (Nat.lt_of_lt_of_le hlt2 HAD.out.2.2.2.size) (fun e => (HIN.out.2.2.2.2.1 b (by show (Value.slice p1 (dropF s.en p).length k1).ownBlock = some b; rw [HM1.out]; exact e.symm)).2 rfl)).trans ((HAD.out.2.2.2.block b hlt2).trans HIN.out.1)); have c5 := c4.2.1; have c6 := c4.2.2.2 1; clear c4 hO4 hg4 hor4))
        go_ret
        have hfin := ln_fin1 HAD.out.2.2.2 HIN.out.1 HIN.out.2.1 HIN.out.2.2.1 HIN.out.2.2.2.1 HIN.out.2.2.2.2.1 HIN.out.2.2.2.2.2 (show World.ownsRow _ 0 EF 4 _ (dropF s.en p ++ [(⟨p, N, 0, 0⟩ : Fl)]).length (flsC (dropF s.en p ++ [⟨p, N, 0, 0⟩])) from by rw [List.length_append, HM1.out]; exact HO4.out) (fun g hg => by
          rcases HG4.out.2 with h | h
          · left
            show (Value.slice p1 (dropF s.en p).length k1).ownBlock = some g
            rw [HM1.out, ← h]
            exact hg
          · rw [h] at hg
            injection hg with hg
            right
            have := HAD.out.2.2.2.size
            omega) (show KpF (fun g => (Value.slice p1 (dropF s.en p).length k1).ownBlock = some g) W3 _ from by rw [HM1.out]; exact KpF.of_grown HG4.out.1 fun k hk => hk)
        refine ⟨congrArg (fun z => Ending.returned (Value.int .i64 z)) HC.out.1.symm, ?_, (KpF.of_new HB1.out).trans (HK2.out.trans_new hfin.2)⟩
        rw [HC.out.2]
        exact (LnAt.new_new hfin.1 HK2.out.size hfin.2.size).mono fun g _ hg => by
          rcases hg with hg | hg
          · exact .inl hg
          · exact .inr ⟨Nat.le_trans HB1.out.size hg.1, hg.2⟩
  · have HC := Lib.hid (show putC p n = 7 ∧ putS s p n = s from by
      have : putC p n = 7 := by unfold putC; rw [if_pos (by rw [HK.out]; exact h3)]
      exact ⟨this, by unfold putS; rw [this]; rfl⟩)
    have h3' : ¬ (K : Int) = 3 := by omega
    have h3b : ((K : Int) == 3) = false := by simp; omega
    go_enter Tryd.func10, Tryd.ntmps10
    go_wp2_with (go_at_call 27; refine HKD.out.mono ?_; rintro e w1 ⟨rfl, hB1⟩; have HB1 := Lib.hid hB1; clear hB1)
    go_ret
    exact ⟨congrArg (fun z => Ending.returned (Value.int .i64 z)) HC.out.1.symm, by rw [HC.out.2]; exact newF_self HLN.out HB1.out, KpF.of_new HB1.out⟩
end Go.Proofs.YtcgilacmdckbfaaDoor
