/- Home and Copy: the size in decimal, by the library's table of powers of ten. -/
import Derived.Test.YtbnolmbbpdjibaaDoorRefC7
import Derived.Test.YtbnolmbbpdjibaaDoorGodP7
import Derived.Test.YtbnolmbbpdjibaaDoorItoP7
import Derived.Lib.AppendIntMem
set_option linter.unusedSimpArgs false
set_option linter.unusedVariables false
namespace Go.Proofs.YtbnolmbbpdjibaaDoor
open Go Go.RowKit

/-- The library's table of powers of ten holds what its initialiser lays. -/
def Pow (w : World) : Prop := Lib.TabIs Tryd.prog w "internal/strconv.uint64pow10" .u64 Lib.pow10Tab
theorem Pow.on {w u : World} (h : Pow w) (hB : Below w.heap.size w u) : Pow u := (Lib.tabBelow_of_tabIs h) u hB
theorem decL_dec : ∀ n, decL n = Lib.decDigits n := by
  intro n
  induction n using Nat.strongRecOn with
  | ind n ih =>
    rw [Lib.decDigits]
    by_cases h : n < 10
    · rw [decL_lo h, dif_pos h]
    · rw [decL_hi h, dif_neg h, cat_eq, ih (n / 10) (by omega)]
theorem below_more (w : World) (k : Nat) (os : Array Obj) : Below w.heap.size w (Go.Sort.grow (w.drewN k) os) := by
  refine ⟨rfl, rfl, rfl, ?_, fun i hi => ?_⟩
  · show w.heap.size ≤ (w.heap ++ os).size
    rw [Array.size_append]; omega
  · show (w.heap ++ os)[i]? = w.heap[i]?
    rw [Array.getElem?_append_left hi]
theorem itoa_any (size : Int) (h0 : 0 ≤ size) (h1 : size ≤ 16384) (w : World) (hP : Pow w) : Calls Tryd.prog 34 #[.int .i64 size] w fun e w' => Gives (.string (mkS (decL size.toNat))) w e w' := by
  refine (Tryd.strconv_Itoa size (by omega) (by omega) w hP).mono ?_
  rintro e w' ⟨rfl, k, os, rfl⟩
  refine ⟨?_, below_more w k os⟩
  have : Lib.itoa size = decL size.toNat := by unfold Lib.itoa; rw [if_neg (by omega), decL_dec]
  rw [this, mkS_lit]
set_option maxHeartbeats 2000000 in
theorem home_any (size : Int) (sum : S8) (w : World) (hP : Pow w) (hs : sum.length < 100000) : Calls Tryd.prog 16 #[.int .i64 size, .string (mkS sum)] w fun e w' => Gives (pairS (homeL size sum)) w e w' := by
  obtain ⟨X, hX⟩ : ∃ X, homeL size sum = X := ⟨_, rfl⟩
  rw [hX]
  unfold homeL okHome at hX
  by_cases h0 : 0 ≤ size
  · rw [decide_eq_true h0] at hX
    have y1 : ¬ size < 0 := by omega
    have y2 : decide (size < 0) = false := decide_eq_false y1
    by_cases h1 : size ≤ 16384
    · rw [decide_eq_true h1] at hX
      have y3 : ¬ 16384 < size := by omega
      have y4 : decide (16384 < size) = false := decide_eq_false y3
      have HS := Lib.hid (isSum_any sum w)
      have HX := Lib.hid hX.symm
      clear hX
      have HI := Lib.hid (fun u (hB : Below w.heap.size w u) => itoa_any size h0 h1 u (hP.on hB))
      have hdl := decL_len size.toNat
      generalize hv : (decide (sum.length = 64) && sum.all fun c => hexB c.toNat) = v at *
      have HX2 := Lib.hid (show X = if v then (homeOf size sum, 0) else ([], 1) from by
        rw [HX.out, ← hv]
        simp only [Bool.true_and])
      clear hv HX
      cases v with
      | false =>
        obtain rfl : X = ([], 1) := by rw [HX2.out]; rfl
        unfold pairS
        rw [mkS_nil]
        go_enter Tryd.func16, Tryd.ntmps16
        go_wp2_with fail
        refine HS.out.mono ?_
        rintro e w1 ⟨rfl, hB⟩
        have HB := Lib.hid hB
        clear hB HS
        go_wp2
        go_ret2
        exact ⟨rfl, HB.out⟩
      | true =>
        have hof : homeOf size sum = cat (cat (cat confl (decL size.toNat)) [126]) sum := by unfold homeOf; rw [cat_eq, cat_eq, cat_eq]
        rw [hof] at HX2
        obtain rfl : X = (cat (cat (cat confl (decL size.toNat)) [126]) sum, 0) := by rw [HX2.out]; rfl
        have hf1 : Fit confl (decL size.toNat) := fit (by unfold confl; simp; omega)
        have hf2 : Fit (cat confl (decL size.toNat)) [126] := fit (by rw [cat_len]; unfold confl; simp; omega)
        have hf3 : Fit (cat (cat confl (decL size.toNat)) [126]) sum := fit (by rw [cat_len, cat_len]; unfold confl; simp; omega)
        clear hof hdl HX2
        generalize decL size.toNat = d at *
        have ha1 : ∀ u : World, (Op.stringOp .add ⟨#[99, 111, 110, 102, 108, 105, 99, 116, 126]⟩ (mkS d)).run Tryd.prog u = .ok (.string (mkS (cat confl d))) u := fun u => add_LS confl d u hf1
        have ha2 : ∀ u : World, (Op.stringOp .add (mkS (cat confl d)) ⟨#[126]⟩).run Tryd.prog u = .ok (.string (mkS (cat (cat confl d) [126]))) u := fun u => add_SL _ _ u hf2
        generalize cat confl d = c1 at *
        unfold pairS
        go_enter Tryd.func16, Tryd.ntmps16
        go_wp2_with fail
        refine HS.out.mono ?_
        rintro e w1 ⟨rfl, hB⟩
        have HB := Lib.hid hB
        clear hB HS
        go_wp2_with fail
        refine (HI.out _ HB.out).mono ?_
        rintro e w2 ⟨rfl, hB⟩
        have HB2 := Lib.hid (HB.out.trans (hB.mono HB.out.size))
        clear hB HI
        go_wp2
        go_ret2
        exact ⟨rfl, HB2.out⟩
    · rw [decide_eq_false h1] at hX
      simp only [Bool.true_and, Bool.false_and] at hX
      obtain rfl : X = ([], 1) := hX.symm
      have y3 : 16384 < size := by omega
      have y4 : decide (16384 < size) = true := decide_eq_true y3
      unfold pairS
      rw [mkS_nil]
      clear h1 hX
      go_enter Tryd.func16, Tryd.ntmps16
      go_wp2
      go_ret2
      exact ⟨rfl, Below.refl _ _⟩
  · rw [decide_eq_false h0] at hX
    simp only [Bool.false_and] at hX
    obtain rfl : X = ([], 1) := hX.symm
    have y1 : size < 0 := by omega
    have y2 : decide (size < 0) = true := decide_eq_true y1
    unfold pairS
    rw [mkS_nil]
    clear h0 hX
    go_enter Tryd.func16, Tryd.ntmps16
    go_wp2
    go_ret2
    exact ⟨rfl, Below.refl _ _⟩
set_option maxHeartbeats 2000000 in
theorem copy_any (l : S8) (size : Int) (sum : S8) (w : World) (hP : Pow w) (hl : l.length < 100000) (hs : sum.length < 100000) : Calls Tryd.prog 20 #[.string (mkS l), .int .i64 size, .string (mkS sum)] w fun e w' => Gives (pairS (copyL l size sum)) w e w' := by
  obtain ⟨X, hX⟩ : ∃ X, copyL l size sum = X := ⟨_, rfl⟩
  rw [hX]
  have HX := Lib.hid (hX.symm.trans (show copyL l size sum = if goodL l then (if (homeL size sum).2 = 0 then (if goodL (l ++ [46] ++ (homeL size sum).1) then (l ++ [46] ++ (homeL size sum).1, 0) else ((homeL size sum).1, 0)) else ([], (homeL size sum).2)) else ([], 7) from rfl))
  clear hX
  have HG := Lib.hid (good_any l w (by omega))
  have HH := Lib.hid (fun u (hB : Below w.heap.size w u) => home_any size sum u (hP.on hB) hs)
  have hhl := homeL_len size sum
  obtain ⟨h, k, hhk⟩ : ∃ h k, homeL size sum = (h, k) := ⟨_, _, rfl⟩
  rw [hhk] at HX HH hhl
  have HC := Lib.hid (fun u => good_any (cat (cat l [46]) h) u (by rw [cat_len, cat_len]; simp at hhl ⊢; omega))
  have hf1 : Fit l [46] := fit (by simp; omega)
  have hf2 : Fit (cat l [46]) h := fit (by rw [cat_len]; simp at hhl ⊢; omega)
  rw [show l ++ [46] ++ (h, k).1 = cat (cat l [46]) h by rw [cat_eq, cat_eq]] at HX
  clear hhk hhl
  generalize goodL l = g1 at *
  generalize goodL (cat (cat l [46]) h) = g2 at *
  cases g1 with
  | false =>
    obtain rfl : X = ([], 7) := by rw [HX.out]; rfl
    unfold pairS
    rw [mkS_nil]
    go_enter Tryd.func20, Tryd.ntmps20
    go_wp2_with fail
    refine HG.out.mono ?_
    rintro e w1 ⟨rfl, hB⟩
    have HB := Lib.hid hB
    clear hB HG
    go_wp2
    go_ret2
    exact ⟨rfl, HB.out⟩
  | true =>
    by_cases hk : k = 0
    · subst hk
      obtain ⟨Y, hY⟩ : ∃ Y, X = (Y, 0) := by
        refine ⟨if g2 then cat (cat l [46]) h else h, ?_⟩
        rw [HX.out]
        cases g2 <;> rfl
      subst hY
      have HY := Lib.hid (show Y = if g2 then cat (cat l [46]) h else h from by
        have := congrArg Prod.fst HX.out
        rw [show Y = (Y, 0).1 from rfl, this]
        cases g2 <;> rfl)
      clear HX
      unfold pairS at *
      dsimp only at HH
      go_enter Tryd.func20, Tryd.ntmps20
      go_wp2_with fail
      refine HG.out.mono ?_
      rintro e w1 ⟨rfl, hB⟩
      have HB := Lib.hid hB
      clear hB HG
      go_wp2_with fail
      refine (HH.out _ HB.out).mono ?_
      rintro e w2 ⟨rfl, hB⟩
      have HB2 := Lib.hid (HB.out.trans (hB.mono HB.out.size))
      clear hB HB
      go_wp2_with fail
      refine (HC.out _).mono ?_
      rintro e w3 ⟨rfl, hB⟩
      have HB3 := Lib.hid (HB2.out.trans (hB.mono HB2.out.size))
      clear hB HB2
      cases g2 with
      | false =>
        obtain rfl : Y = h := by rw [HY.out]; rfl
        go_wp2
        go_ret2
        exact ⟨rfl, HB3.out⟩
      | true =>
        obtain rfl : Y = cat (cat l [46]) h := by rw [HY.out]; rfl
        go_wp2
        go_ret2
        exact ⟨rfl, HB3.out⟩
    · have hz : ((k : Int) == 0) = false := by simp; omega
      obtain rfl : X = ([], k) := by rw [HX.out]; simp [hk]
      unfold pairS at *
      dsimp only at HH ⊢
      rw [mkS_nil]
      go_enter Tryd.func20, Tryd.ntmps20
      go_wp2_with fail
      refine HG.out.mono ?_
      rintro e w1 ⟨rfl, hB⟩
      have HB := Lib.hid hB
      clear hB HG
      go_wp2_with fail
      refine (HH.out _ HB.out).mono ?_
      rintro e w2 ⟨rfl, hB⟩
      have HB2 := Lib.hid (HB.out.trans (hB.mono HB.out.size))
      clear hB HB
      go_wp2
      go_ret2
      exact ⟨rfl, HB2.out⟩
end Go.Proofs.YtbnolmbbpdjibaaDoor
