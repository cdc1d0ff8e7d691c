/- slices.IndexFunc over strings at a closure; First. -/
import Derived.Test.YtbnolmbbpdjibaaDoorPath7
import Derived.Test.YtbnolmbbpdjibaaDoorPtaP7
import Derived.Shelf.Abstract
import Derived.Deep.QuietTactic
set_option linter.unusedSimpArgs false
set_option linter.unusedVariables false
namespace Go.Proofs.YtbnolmbbpdjibaaDoor
open Go Go.RowKit Go.Shelf

/-- The function value answers, at strings that are not long, whether P holds, as long as what lay below N stands as in w0. -/
def AsksS (N : Nat) (w0 : World) (g : Nat) (caps : Array Value) (P : S8 → Bool) : Prop := ∀ (x : S8) (u : World), x.length ≤ 200 → Below N w0 u → Calls Tryd.prog g (#[.string (mkS x)] ++ caps) u fun e w' => Gives (.bool (P x)) u e w'
set_option maxHeartbeats 2000000 in
theorem indexS_any (N : Nat) (w0 : World) (g : Nat) (caps : Array Value) (P : S8 → Bool) (hent : ∀ args w, (callFunc g args).run Tryd.prog w = .ok (.enter g args) w) (hA : AsksS N w0 g caps P)
    (ls : List S8) (p : Option Addr) (n cap : Nat) (w : World) (hN : N ≤ w.heap.size) (hB0 : Below N w0 w) (hs : StrSl w p ls) (hn : n ≤ ls.length) (hle : ∀ s ∈ ls, s.length ≤ 200) (h30 : n ≤ 30) :
    Calls Tryd.prog 38 #[.slice p n cap, .func (.func g) #[] caps] w fun e w' =>
      ((e = .returned (.int .i64 (-1)) ∧ ∀ j, j < n → P (ls.getD j []) = false) ∨ (∃ i : Nat, e = .returned (.int .i64 (i : Int)) ∧ i < n ∧ P (ls.getD i []) = true ∧ ∀ j, j < i → P (ls.getD j []) = false)) ∧ Below w.heap.size w w' := by
  have HA := Lib.hid (fun (x : S8) (u : World) (hx : x.length ≤ 200) (hu : Below w.heap.size w u) => hA x u hx (hB0.trans (hu.mono hN)))
  have HS := Lib.hid hs
  have HLE := Lib.hid (show ∀ j, j < n → (ls.getD j []).length ≤ 200 from fun j hj => by
    have := hle _ (List.getElem_mem (show j < ls.length by omega))
    rw [List.getD_eq_getElem?_getD, List.getElem?_eq_getElem (show j < ls.length by omega)]
    exact this)
  have HNL := Lib.hid hn
  clear hA hB0 hN hs hle hn
  go_enter Tryd.func38, Tryd.ntmps38
  go_wp2
  go_loopw [5, 8] (fun v5 v8 wr => ∃ k : Nat, k ≤ n ∧ v8 = .int .i64 k ∧ (∀ j, j < k → P (ls.getD j []) = false) ∧ Below w.heap.size w wr) (fun v5 v8 _ => n - (intOf v8).toNat)
  case atStart => exact ⟨0, Nat.zero_le _, rfl, fun j h => absurd h (by omega), Below.refl _ _⟩
  case round =>
    obtain ⟨k, hk, rfl, hno, hB⟩ := hrel
    have HB := Lib.hid hB
    have HNO := Lib.hid hno
    clear hB hno
    by_cases hlt : k < n
    · have z1 : (k : Int) < (n : Int) := by omega
      have z2 : decide ((k : Int) < (n : Int)) = true := decide_eq_true z1
      have hw := i64s k (by omega)
      obtain ⟨c0, o0, hpe, hx⟩ := (HS.out.of_below HB.out) k (by have := HNL.out; omega)
      subst hpe
      have hxl := HLE.out k hlt
      have HX := Lib.hid (show ls.getD k [] = ls.getD k [] from rfl)
      obtain ⟨x, hxx⟩ : ∃ x, ls.getD k [] = x := ⟨_, rfl⟩
      rw [hxx] at hx hxl
      have HXX := Lib.hid hxx
      have HC := Lib.hid (HA.out x wr hxl HB.out)
      clear hxx HX hxl
      cases hPx : P x with
      | true =>
        rw [hPx] at HC
        have HR := Lib.hid (show P (ls.getD k []) = true from by rw [HXX.out]; exact hPx)
        clear hPx
        go_wp2_with fail
        refine HC.out.mono ?_
        rintro e w2 ⟨rfl, hB2⟩
        have HB2 := Lib.hid (HB.out.trans (hB2.mono HB.out.size))
        clear hB2 HC
        go_wp2
        go_ret
        exact ⟨.inr ⟨k, rfl, hlt, HR.out, HNO.out⟩, HB2.out⟩
      | false =>
        rw [hPx] at HC
        have HR := Lib.hid (show ∀ j, j < k + 1 → P (ls.getD j []) = false from fun j h => by
          rcases Nat.lt_succ_iff_lt_or_eq.1 h with h | h
          · exact HNO.out j h
          · rw [h, HXX.out]; exact hPx)
        clear hPx
        go_wp2_with fail
        refine HC.out.mono ?_
        rintro e w2 ⟨rfl, hB2⟩
        have HB2 := Lib.hid (HB.out.trans (hB2.mono HB.out.size))
        clear hB2 HC
        go_wp2
        exact ⟨⟨k + 1, by omega, by go_num, HR.out, HB2.out⟩, by simp [intOf]; omega⟩
    · obtain rfl : k = n := by omega
      have z1 : ¬ (k : Int) < (k : Int) := by omega
      have z2 : decide ((k : Int) < (k : Int)) = false := decide_eq_false z1
      go_wp2
      go_ret
      exact ⟨.inl ⟨rfl, HNO.out⟩, HB.out⟩
set_option maxHeartbeats 1000000 in
theorem firstF_asks (N B : Nat) (w0 : World) (y : S8) (hc : w0.cell? ⟨B, 0, none⟩ = some (.string (mkS y))) (hB : B < N) (hy : y.length ≤ 200) :
    AsksS N w0 39 #[.pointer (some ⟨B, 0, none⟩)] (fun x => hitL x y) := by
  intro x u hx hu
  have hcu : u.cell? ⟨B, 0, none⟩ = some (.string (mkS y)) := by rw [hu.cell (p := ⟨B, 0, none⟩) hB]; exact hc
  have HC := Lib.hid (clash_any x y u (by omega) (by omega))
  have HH := Lib.hid (show hitL x y = ((x == y) || (inL x y || inL y x)) from by unfold hitL; rw [Bool.or_assoc])
  clear hc hu
  dsimp only
  generalize (inL x y || inL y x) = v at *
  generalize hitL x y = h at *
  show Calls Tryd.prog 39 #[.string (mkS x), .pointer (some ⟨B, 0, none⟩)] u _
  by_cases hxy : x = y
  · subst hxy
    obtain rfl : h = true := by rw [HH.out]; simp
    go_enter Tryd.func39, Tryd.ntmps39
    go_wp2
    go_ret
    exact ⟨rfl, Below.refl _ _⟩
  · have b1 : (x == y) = false := beq_eq_false_iff_ne.2 hxy
    obtain rfl : h = v := by rw [HH.out, b1, Bool.false_or]
    go_enter Tryd.func39, Tryd.ntmps39
    go_wp2_with fail
    refine HC.out.mono ?_
    rintro e w2 ⟨rfl, hB2⟩
    have HB := Lib.hid hB2
    clear hB2 HC
    go_wp2
    go_ret
    exact ⟨rfl, HB.out⟩
set_option maxHeartbeats 4000000 in
theorem first_any (ls : List S8) (p : Option Addr) (n cap : Nat) (w : World) (hs : StrSl w p ls) (hn : ls.length = n) (hp : p = none → cap = 0) (hnc : n ≤ cap) (h30 : n ≤ 30) (hle : ∀ s ∈ ls, s.length ≤ 200) :
    Calls Tryd.prog 26 #[.slice p n cap] w fun e w' => ∃ a b some, FirstR ls a b some ∧ Gives (.tuple #[.string (mkS a), .string (mkS b), .bool some]) w e w' := by
  have HS := Lib.hid hs
  have HN := Lib.hid hn
  have HP := Lib.hid hp
  have HLE := Lib.hid hle
  have HLJ := Lib.hid (show ∀ j, j < n → (ls.getD j []).length ≤ 200 from fun j hj => by
    have := hle _ (List.getElem_mem (show j < ls.length by omega))
    rw [List.getD_eq_getElem?_getD, List.getElem?_eq_getElem (show j < ls.length by omega)]
    exact this)
  clear hs hn hle hp
  have hmf : ∀ (fn : Fn) (first cap : Array Value) (w : World), (Instr.makeFunc fn first cap).run Tryd.prog w = .ok (.func fn first cap) w := fun _ _ _ _ => rfl
  go_enter Tryd.func26, Tryd.ntmps26
  go_wp2
  go_loopw [5, 6, 7, 10] (fun v5 v6 v7 v10 wr => ∃ k : Nat, k ≤ n ∧ v10 = .int .i64 k ∧ (∀ i' k', i' < k' → k' < k → hitL (ls.getD i' []) (ls.getD k' []) = false) ∧ Below w.heap.size w wr) (fun v5 v6 v7 v10 _ => n - (intOf v10).toNat)
  case atStart => exact ⟨0, Nat.zero_le _, rfl, fun _ k' _ h => absurd h (by omega), Below.refl _ _⟩
  case round =>
    obtain ⟨k, hk, rfl, hno, hB⟩ := hrel
    have HB := Lib.hid hB
    have HNO := Lib.hid hno
    clear hB hno
    by_cases hlt : k < n
    · have z1 : (k : Int) < (n : Int) := by omega
      have z2 : decide ((k : Int) < (n : Int)) = true := decide_eq_true z1
      have hw := i64s k (by omega)
      obtain ⟨c0, o0, hpe, hx⟩ := (HS.out.of_below HB.out) k (by rw [HN.out]; exact hlt)
      subst hpe
      have hyl := HLJ.out k hlt
      obtain ⟨y, hyy⟩ : ∃ y, ls.getD k [] = y := ⟨_, rfl⟩
      rw [hyy] at hx hyl
      have HY := Lib.hid hyy
      have hBW : Below w.heap.size w (wr.alloc (.cells #[.string (mkS y)] 9)) := HB.out.alloc HB.out.size _
      have HBW := Lib.hid hBW
      have HC := Lib.hid (indexS_any (wr.heap.size + 1) (wr.alloc (.cells #[.string (mkS y)] 9)) 39 #[.pointer (some ⟨wr.heap.size, 0, none⟩)] (fun x => hitL x y) (enters_of Tryd.func39 (by kernel_rfl) rfl)
        (firstF_asks (wr.heap.size + 1) wr.heap.size _ y (World.cell?_alloc_new _ _ _ _) (by omega) hyl) ls (some ⟨c0, o0, none⟩) k cap (wr.alloc (.cells #[.string (mkS y)] 9)) (by simp) (Below.refl _ _) (HS.out.of_below hBW) (by rw [HN.out]; omega) HLE.out (by omega))
      clear hyy hyl hBW
      go_wp2_with fail
      refine HC.out.mono ?_
      rintro e w2 ⟨hcase, hB2⟩
      have hbox : w2.cell? ⟨wr.heap.size, 0, none⟩ = some (.string (mkS y)) := by
        rw [hB2.cell (p := ⟨wr.heap.size, 0, none⟩) (by simp)]
        exact World.cell?_alloc_new _ _ _ _
      have HB2 := Lib.hid (HBW.out.trans (hB2.mono HBW.out.size))
      have HS2 := Lib.hid (HS.out.of_below HB2.out)
      clear hB2 HC
      rcases hcase with ⟨rfl, hnone⟩ | ⟨j, rfl, hj, hhit, hbef⟩
      · have HNX := Lib.hid (show ∀ i' k', i' < k' → k' < k + 1 → hitL (ls.getD i' []) (ls.getD k' []) = false from fun i' k' h1 h2 => by
          rcases Nat.lt_succ_iff_lt_or_eq.1 h2 with h | h
          · exact HNO.out i' k' h1 h
          · subst h; rw [HY.out]; exact hnone i' h1)
        clear hnone hbox
        go_wp2
        exact ⟨⟨k + 1, by omega, by go_num, HNX.out, HB2.out⟩, by simp [intOf]; omega⟩
      · have q1 : (0 : Int) ≤ (j : Int) := by omega
        have q2 : decide ((0 : Int) ≤ (j : Int)) = true := decide_eq_true q1
        have q3 : (j : Int) < (n : Int) := by omega
        obtain ⟨c1, o1, hpe2, hxj⟩ := HS2.out j (by rw [HN.out]; omega)
        injection hpe2 with hpe2
        injection hpe2 with e1 e2
        subst e1 e2
        obtain ⟨x, hxx⟩ : ∃ x, ls.getD j [] = x := ⟨_, rfl⟩
        rw [hxx] at hxj
        have HFR := Lib.hid (show FirstR ls x y true from .inl ⟨rfl, j, k, hj, by rw [HN.out]; exact hlt, hxx.symm, HY.out.symm, by rw [HY.out]; exact hhit, fun i' k' h1 h2 => by
          rcases h2 with h | ⟨rfl, h⟩
          · exact HNO.out i' k' h1 h
          · rw [HY.out]; exact hbef i' h⟩)
        clear hhit hbef hxx
        go_wp2
        go_quiet (fail)
        go_wp2
        refine bodyPost_ret (results_tmp3 rfl _ _ _) rfl ?_
        exact ⟨x, y, true, HFR.out, ⟨rfl, HB2.out.trans ((show Dr w2 (w2.drewN nq) from ⟨nq, rfl⟩).below _)⟩⟩
    · obtain rfl : k = n := by omega
      have z1 : ¬ (k : Int) < (k : Int) := by omega
      have z2 : decide ((k : Int) < (k : Int)) = false := decide_eq_false z1
      have HR := Lib.hid (show FirstR ls [] [] false from .inr ⟨rfl, rfl, rfl, fun i' k' h1 h2 => HNO.out i' k' h1 (by rw [HN.out] at h2; exact h2)⟩)
      go_wp2
      refine bodyPost_ret (results_tmp3 rfl _ _ _) rfl ?_
      exact ⟨[], [], .inl ⟨HR.out, ⟨by rw [show mkS [] = ⟨#[]⟩ from (mkS_lit []).symm]; rfl, HB.out⟩⟩⟩
end Go.Proofs.YtbnolmbbpdjibaaDoor
