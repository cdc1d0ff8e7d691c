/- The reading of what was written. -/
import Derived.Test.YtgmogbgkokofoaaCutsL6
set_option linter.unusedSimpArgs false
set_option linter.unusedVariables false
namespace Go.Proofs.Ytgmogbgkokofoaa
open Go Go.RowKit

section
variable {Rd : Option Addr → Nat → World → Addr → List (BitVec 8) → Prop} {Thr : Addr → Nat → World → Value → Prop} (S : RdSpec Rd Thr)
include S
/-- The reading of an item that is there. -/
theorem next_there (p : Option Addr) (N : Nat) (w : World) (a : Addr) (x : It) (r : List (BitVec 8)) (hx : x.ok) (hn : x.nrm) (hR : Rd p N w a (x.put ++ r)) : Calls Try.prog 17 #[.pointer (some a), .int .i64 (x.k : Int), .int .i64 9223372036854775807] w fun e w' => Kp a.block w w' ∧ ∃ q c, e = .returned (x.v q c) ∧ Fresh w' w.heap.size q c x.b ∧ Rd p N w' a r := by
  refine (next_any S p N w a _ x.k hx.1 9223372036854775807 hR).mono ?_
  rintro e w' ⟨hK, h | h⟩
  · rw [nextI_put hx hn] at h
    obtain ⟨-, ⟨q, c, rfl, hF⟩, hR2⟩ := h
    dsimp only at hR2
    rw [List.drop_left] at hR2
    exact ⟨hK, q, c, rfl, hF, hR2⟩
  · rw [nextI_put hx hn] at h
    exact absurd rfl h.1
set_option maxRecDepth 100000 in
set_option maxHeartbeats 8000000 in
theorem backs_in (V0 V : World) (xs : List It) (more : List (BitVec 8)) (px pa p : Option Addr) (n cx L ca mm cm M bx ba bmo : Nat) (pm : Option Addr) (a : Addr) (w : World)
    (hn : xs.length = n) (hxs : ∀ x ∈ xs, x.ok ∧ x.nrm ∧ x.b.length ≤ 300) (hn30 : n ≤ 30) (hI : Its V0 px (xs.map It.raw)) (hx : V0.cell? ⟨bx, 0, none⟩ = some (.slice px n cx)) (hmo : V0.cell? ⟨bmo, 0, none⟩ = some (.slice pm mm cm)) (hM : V0.heap.size = M) (hB0 : Below M V0 V) (hMV : M < V.heap.size)
    (hba : V.cell? ⟨ba, 0, none⟩ = some (.slice pa L ca)) (hL : (encL xs ++ more).length = L) (hmm : more.length = mm) (hmm50 : mm ≤ 50)
    (hc : V.cell? ⟨M, 0, none⟩ = some (.bool true)) (hf : V.frozen? ⟨M, 0, none⟩ = false) (hB1 : Below V.heap.size V w) (hR : Rd p V.heap.size w a (encL xs ++ more)) (hp : ∀ c o, p = some ⟨c, o, none⟩ → c ≠ M) :
    Calls Try.prog 14 (#[.pointer (some a)] ++ #[.pointer (some ⟨ba, 0, none⟩), .pointer (some ⟨bx, 0, none⟩), .pointer (some ⟨M, 0, none⟩), .pointer (some ⟨bmo, 0, none⟩)]) w fun e w' => e = .returned (.tuple #[]) ∧ Rd p V.heap.size w' a more ∧ w'.cell? ⟨M, 0, none⟩ = some (.bool true) ∧ Kp M V w' ∧ Loc V.heap.size a.block w w' := by
  have HS := Lib.hid S
  have HXS := Lib.hid hxs
  have HN := Lib.hid hn
  have HP := Lib.hid hp
  have HI := Lib.hid hI
  have HMM := Lib.hid hmm
  have HM := Lib.hid hM
  have hlie := S.lie _ _ _ _ _ hR
  have lt0 : ∀ k v, V0.cell? ⟨k, 0, none⟩ = some v → k < M := fun k v h => by rw [← hM]; exact World.block_lt_of_cell? V0 _ h
  have hbxM := lt0 _ _ hx
  have hbmM := lt0 _ _ hmo
  have hbaV := World.block_lt_of_cell? V _ hba
  have hcx : w.cell? ⟨bx, 0, none⟩ = some (.slice px n cx) := by rw [hB1.cell (by show bx < _; omega), hB0.cell (by exact hbxM)]; exact hx
  have hca : w.cell? ⟨ba, 0, none⟩ = some (.slice pa L ca) := by rw [hB1.cell (by exact hbaV)]; exact hba
  have HMO := Lib.hid (show V.cell? ⟨bmo, 0, none⟩ = some (.slice pm mm cm) from by rw [hB0.cell (by exact hbmM)]; exact hmo)
  have HB0 := Lib.hid hB0
  have HK0 := Lib.hid (show Kp M V w from Kp.ofBelow hB1)
  have HR := Lib.hid hR
  have HC := Lib.hid (show w.cell? ⟨M, 0, none⟩ = some (.bool true) from by rw [hB1.cell (by exact hMV)]; exact hc)
  have HF := Lib.hid (show w.frozen? ⟨M, 0, none⟩ = false from by rw [hB1.frozen (by exact hMV)]; exact hf)
  have HL := Lib.hid hL
  have hLb : L ≤ 400 * 30 + 50 := by
    rw [← hL, List.length_append, hmm]
    have := encL_len fun x hx => ⟨(hxs x hx).1, (hxs x hx).2.2⟩
    have h2 : 400 * xs.length ≤ 400 * 30 := Nat.mul_le_mul_left _ (by omega)
    omega
  clear S hxs hn hp hI hx hmo hB0 hR hB1 hc hf hmm hM lt0 hba hL
  show Calls Try.prog _ #[.pointer (some a), .pointer (some ⟨ba, 0, none⟩), .pointer (some ⟨bx, 0, none⟩), .pointer (some ⟨M, 0, none⟩), .pointer (some ⟨bmo, 0, none⟩)] w _
  go_enter Try.func14, Try.ntmps14
  go_wp2
  clear hcx hca
  go_loopw [6, 13] (fun vl vi wr => ∃ (i LL : Nat), i ≤ n ∧ vi = .int .i64 i ∧ vl = .int .i64 (LL : Int) ∧ (encL (xs.drop i) ++ more).length = LL ∧ LL ≤ 400 * 30 + 50 ∧ wr.cell? ⟨M, 0, none⟩ = some (.bool true) ∧ wr.frozen? ⟨M, 0, none⟩ = false ∧ Kp M V wr ∧ Loc V.heap.size a.block w wr ∧ Rd p V.heap.size wr a (encL (xs.drop i) ++ more)) (fun _ vi _ => n - (intOf vi).toNat)
  case atStart => exact ⟨0, L, Nat.zero_le _, rfl, rfl, HL.out, hLb, HC.out, HF.out, HK0.out, Loc.refl _ _ _, HR.out⟩
  case round =>
    obtain ⟨i, LL, hin, rfl, rfl, hLL, hLLb, hcn, hfn, hK, hLo, hRi⟩ := hrel
    have HLO := Lib.hid hLo
    clear hLo
    by_cases hlt : i < n
    · have hltz : (i : Int) < (n : Int) := by omega
      have hld : decide ((i : Int) < (n : Int)) = true := decide_eq_true hltz
      have hix : i < xs.length := by rw [HN.out]; exact hlt
      have hIr := (HI.out.of_below (by rw [HM.out]; exact HB0.out.trans (hK.below (Nat.le_refl _) (Nat.le_of_lt hMV)))) i (by simpa using hix)
      have hI0 := HI.out i (by simpa using hix)
      rw [raw_get xs i hix] at hIr hI0
      obtain ⟨c, o, rfl, hcl, q, cp, e0, e1, e2, hbt⟩ := hIr
      have HQB0 := Lib.hid (show ∀ d o', 0 < (xs.getD i it0).b.length → q = some ⟨d, o', none⟩ → d < M from fun d o' hl e => by
        obtain ⟨c', o2, e', hc', q', cp', g0, g1, g2, hbt'⟩ := hI0
        injection e' with e'
        injection e' with e3 e4
        subst e3 e4
        have hK2 := (hK.below (Nat.le_refl M) (Nat.le_of_lt hMV))
        rw [hK2.cell (by show c < M; rw [← HM.out]; exact hc'), HB0.out.cell (by show c < M; rw [← HM.out]; exact hc'), g2] at e2
        injection e2 with e2
        injection e2 with e5 e6 e7
        rw [← HM.out]
        exact hbt'.sl.blk' hl d o' (by rw [e5]; exact e))
      clear hI0
      have hmem : xs.getD i it0 ∈ xs := by
        rw [List.getD_eq_getElem?_getD, List.getElem?_eq_getElem hix]
        exact List.getElem_mem hix
      have HXO := Lib.hid (HXS.out _ hmem)
      have hed := encL_drop xs i hix
      obtain ⟨x, hxx⟩ : ∃ x, xs.getD i it0 = x := ⟨_, rfl⟩
      rw [hxx] at e0 e1 e2 hbt HXO hed HQB0
      rw [hed, List.append_assoc] at hRi hLL
      have HQB := HQB0
      clear HQB0
      have HPL := Lib.hid (put_len HXO.out.1 HXO.out.2.2)
      obtain ⟨xk, xn, xb⟩ := x
      change wr.cell? ⟨c, o + i * 3, none⟩ = some (.int .i64 (xk : Int)) at e0
      change wr.cell? ⟨c, o + i * 3 + 1, none⟩ = some (.int .i64 (xn : Int)) at e1
      change wr.cell? ⟨c, o + i * 3 + 2, none⟩ = some (.slice q xb.length cp) at e2
      obtain ⟨len, hlen⟩ : ∃ len, xb.length = len := ⟨_, rfl⟩
      rw [hlen] at e2
      have HLEN := Lib.hid hlen
      generalize hrest : encL (xs.drop (i + 1)) ++ more = rest at *
      have HREST := Lib.hid hrest
      clear hrest
      have hU : Below wr.heap.size wr (wr.alloc (.cells #[.int .i64 (xk : Int), .int .i64 (xn : Int), .slice q len cp] 29)) := (Below.refl _ _).alloc (Nat.le_refl _) _
      have x0 : (wr.alloc (.cells #[.int .i64 (xk : Int), .int .i64 (xn : Int), .slice q len cp] 29)).cell? ⟨wr.heap.size, 0, none⟩ = some (.int .i64 (xk : Int)) := by go_simp
      have x1 : (wr.alloc (.cells #[.int .i64 (xk : Int), .int .i64 (xn : Int), .slice q len cp] 29)).cell? ⟨wr.heap.size, 1, none⟩ = some (.int .i64 (xn : Int)) := by go_simp
      have x2 : (wr.alloc (.cells #[.int .i64 (xk : Int), .int .i64 (xn : Int), .slice q len cp] 29)).cell? ⟨wr.heap.size, 2, none⟩ = some (.slice q len cp) := by go_simp
      have hzU : (wr.alloc (.cells #[.int .i64 (xk : Int), .int .i64 (xn : Int), .slice q len cp] 29)).heap.size = wr.heap.size + 1 := by rw [World.size_alloc]
      have HU := Lib.hid hU
      have HXC := Lib.hid (And.intro x0 (And.intro x1 x2))
      have HZU := Lib.hid hzU
      have hVr : V.heap.size ≤ wr.heap.size := hK.size
      have HRU := Lib.hid (HS.out.keep hRi hU)
      have HKU := Lib.hid (hK.alloc (.cells #[.int .i64 (xk : Int), .int .i64 (xn : Int), .slice q len cp] 29))
      have HCU := Lib.hid (show (wr.alloc (.cells #[.int .i64 (xk : Int), .int .i64 (xn : Int), .slice q len cp] 29)).cell? ⟨M, 0, none⟩ = some (.bool true) ∧ (wr.alloc (.cells #[.int .i64 (xk : Int), .int .i64 (xn : Int), .slice q len cp] 29)).frozen? ⟨M, 0, none⟩ = false from ⟨by rw [hU.cell (by exact World.block_lt_of_cell? wr _ hcn)]; exact hcn, by rw [hU.frozen (by exact World.block_lt_of_cell? wr _ hcn)]; exact hfn⟩)
      have HBTU := Lib.hid (hbt.of_below hU)
      have hal := HS.out.lie _ _ _ _ _ hRi
      have HLL := Lib.hid hLL
      clear hU x0 x1 x2 hzU hRi hK hcn hfn hbt hLL hmem hxx hlen hed HC HF HR HL HK0
      go_wp2_with fail
      generalize (wr.alloc (.cells #[.int .i64 (xk : Int), .int .i64 (xn : Int), .slice q len cp] 29)) = u at *
      obtain ⟨X, hX⟩ : ∃ X, wr.heap.size = X := ⟨_, rfl⟩
      rw [hX] at HXC HZU hal hVr ⊢
      have HUW := HU
      clear HU
      have hzu := HZU.out
      have HS0 := Lib.hid (show u.drew.cell? ⟨M, 0, none⟩ = some (.bool true) ∧ u.drew.cell? ⟨X, 0, none⟩ = some (.int .i64 (xk : Int)) ∧ u.drew.cell? ⟨X, 1, none⟩ = some (.int .i64 (xn : Int)) ∧ u.drew.cell? ⟨X, 2, none⟩ = some (.slice q len cp) from ⟨HCU.out.1, HXC.out.1, HXC.out.2.1, HXC.out.2.2⟩)
      -- what a call that changes no old block but the reader's leaves
      have HPOST := Lib.hid (show ∀ w3 : World, Kp a.block u w3 → (w3.cell? ⟨M, 0, none⟩ = some (.bool true) ∧ w3.cell? ⟨X, 0, none⟩ = some (.int .i64 (xk : Int)) ∧ w3.cell? ⟨X, 1, none⟩ = some (.int .i64 (xn : Int)) ∧ w3.cell? ⟨X, 2, none⟩ = some (.slice q len cp)) ∧ w3.frozen? ⟨M, 0, none⟩ = false from fun w3 h3 => by
        have hMu : M < u.heap.size := World.block_lt_of_cell? u _ HCU.out.1
        refine ⟨⟨?_, ?_, ?_, ?_⟩, ?_⟩
        · rw [h3.cell (by exact hMu) (by show M ≠ a.block; omega)]; exact HCU.out.1
        · rw [h3.cell (by show X < _; omega) (by show X ≠ a.block; omega)]; exact HXC.out.1
        · rw [h3.cell (by show X < _; omega) (by show X ≠ a.block; omega)]; exact HXC.out.2.1
        · rw [h3.cell (by show X < _; omega) (by show X ≠ a.block; omega)]; exact HXC.out.2.2
        · rw [h3.frozen (by exact hMu) (by show M ≠ a.block; omega)]; exact HCU.out.2)
      have HPS := Lib.hid (show ∀ w3 : World, (w3.cell? ⟨M, 0, none⟩ = some (.bool true) ∧ w3.cell? ⟨X, 0, none⟩ = some (.int .i64 (xk : Int)) ∧ w3.cell? ⟨X, 1, none⟩ = some (.int .i64 (xn : Int)) ∧ w3.cell? ⟨X, 2, none⟩ = some (.slice q len cp)) → ((w3.setCell ⟨M, 0, none⟩ (.bool true)).cell? ⟨M, 0, none⟩ = some (.bool true) ∧ (w3.setCell ⟨M, 0, none⟩ (.bool true)).cell? ⟨X, 0, none⟩ = some (.int .i64 (xk : Int)) ∧ (w3.setCell ⟨M, 0, none⟩ (.bool true)).cell? ⟨X, 1, none⟩ = some (.int .i64 (xn : Int)) ∧ (w3.setCell ⟨M, 0, none⟩ (.bool true)).cell? ⟨X, 2, none⟩ = some (.slice q len cp)) from fun w3 ⟨s1, s2, s3, s4⟩ => by
        have g : ∀ o v, w3.cell? ⟨X, o, none⟩ = some v → (w3.setCell ⟨M, 0, none⟩ (.bool true)).cell? ⟨X, o, none⟩ = some v := fun o v h => by rw [World.cell?_setCell_far _ _ _ _ (show M ≠ X by omega)]; exact h
        exact ⟨World.cell?_setCell_same _ _ _ s1, g _ _ s2, g _ _ s3, g _ _ s4⟩)
      have HOTH := Lib.hid (show ∀ d o', 0 < xb.length → q = some ⟨d, o', none⟩ → d ≠ a.block from fun d o' hl e => by have h := HQB.out d o' hl e; omega)
      have HLEFT := Lib.hid (show Calls Try.prog 15 #[.pointer (some a)] u.drew fun e w' => e = .returned (.int .i64 (LL : Int)) ∧ Dr u.drew w' from by
        have hd : Rd p V.heap.size u.drew a ((It.mk xk xn xb).put ++ rest) := HS.out.keep HRU.out ((Below.refl _ _).drew)
        have h := HS.out.left p V.heap.size _ a _ hd
        rw [HLL.out] at h
        exact h)
      have HNX := Lib.hid (show ∀ w3, Dr u.drew w3 → Calls Try.prog 17 #[.pointer (some a), .int .i64 (xk : Int), .int .i64 9223372036854775807] w3 fun e w' => Kp a.block w3 w' ∧ ∃ q c, e = .returned ((It.mk xk xn xb).v q c) ∧ Fresh w' w3.heap.size q c xb ∧ Rd p V.heap.size w' a rest from fun w3 hD => 
        next_there HS.out p V.heap.size w3 a (It.mk xk xn xb) rest HXO.out.1 HXO.out.2.1 (HS.out.keep HRU.out (((Below.refl _ _).drew).trans (hD.below _))))
      have HSM := Lib.hid (show ∀ (w4 : World) (q4 : Option Addr) (c4 : Nat), Kp a.block u w4 → Sl w4 q4 xb → (q4 = none → c4 = 0) → Calls Try.prog 16 #[(It.mk xk xn xb).v q4 c4, .agg #[.int .i64 (xk : Int), .int .i64 (xn : Int), .slice q len cp]] w4 fun e w' => e = .returned (.bool true) ∧ Below w4.heap.size w4 w' from fun w4 q4 c4 hk hs hq => by
        have hs2 : Sl w4 q xb := fun j hj => by
          obtain ⟨d, o', e, hx⟩ := HBTU.out.sl j hj
          refine ⟨d, o', e, ?_⟩
          rw [hk.cell (by exact World.block_lt_of_cell? u _ hx) (HOTH.out d o' (by omega) e)]
          exact hx
        have h := same_any (It.mk xk xn xb) q4 q c4 cp w4 hs hs2 hq HBTU.out.nil
        rw [← HLEN.out]
        exact h)
      obtain ⟨s1, s2, s3, s4⟩ := HS0.out
      have q1 : ((LL : Int) == (LL : Int)) = true := by simp
      clear hX
      go_region_held3 (fun w' : World => w'.cell? ⟨M, 0, none⟩ = some (.bool true) ∧ w'.cell? ⟨X, 0, none⟩ = some (.int .i64 (xk : Int)) ∧ w'.cell? ⟨X, 1, none⟩ = some (.int .i64 (xn : Int)) ∧ w'.cell? ⟨X, 2, none⟩ = some (.slice q len cp)) (first | go_keep | exact ⟨s1, s2, s3, s4⟩ | exact hsafter) ((first | (go_at_call 15; refine HLEFT.out.mono ?_; rintro e w3 ⟨rfl, hD3⟩; obtain ⟨⟨t1, t2, t3, t4⟩, tf⟩ := HPOST.out w3 ((Kp.drewN (Kp.refl _ u) 1).trans (Kp.ofBelow (hD3.below _)))) | (go_at_call 17; refine (HNX.out _ hD3).mono ?_; rintro e w4 ⟨hK4, q4, c4, rfl, hF4, hR4⟩; have hk4 := ((Kp.drewN (Kp.refl a.block u) 1).trans (Kp.ofBelow (hD3.below _))).trans hK4; obtain ⟨⟨r1, r2, r3, r4⟩, rf⟩ := HPOST.out w4 hk4) | (go_at_call 16; refine (HSM.out _ _ _ hk4 hF4.sl hF4.nil).mono ?_; rintro e w5 ⟨rfl, hB5⟩; have hk5 := hk4.of_below hB5; obtain ⟨⟨v1, v2, v3, v4⟩, vf⟩ := HPOST.out w5 hk5; have hsafter := HPS.out w5 ⟨v1, v2, v3, v4⟩)))
      obtain ⟨a1, a2, a3, a4⟩ := hsafter
      have hz5 : (w5.setCell ⟨M, 0, none⟩ (.bool true)).heap.size = w5.heap.size := by simp
      have hX5 : X < w5.heap.size := World.block_lt_of_cell? w5 _ v2
      have HW6 := Lib.hid (show (w5.setCell ⟨M, 0, none⟩ (.bool true)).frozen? ⟨M, 0, none⟩ = false from by rw [World.frozen?_setCell]; exact vf)
      have hR5 : Rd p V.heap.size w5 a rest := HS.out.keep hR4 hB5
      have HR6 := Lib.hid (HS.out.far hR5 (show M ≠ a.block by omega) (fun _ => HP.out) 0 (.bool true))
      have HLO6 := Lib.hid (((HLO.out.trans (Loc.ofBelow HUW.out)).trans (Loc.ofKp hk5)).trans (Loc.low w5 hMV 0 (.bool true)))
      have HK6 := Lib.hid ((HKU.out.thenNew hk5 hal.1).setCell 0 (.bool true))
      have HSQ := Lib.hid (show Sl (w5.setCell ⟨M, 0, none⟩ (.bool true)) q xb from fun j hj => by
        obtain ⟨d, o', e, hx⟩ := HBTU.out.sl j hj
        refine ⟨d, o', e, ?_⟩
        have hd := HQB.out d o' (Nat.lt_of_le_of_lt (Nat.zero_le _) hj) e
        rw [World.cell?_setCell_far _ _ _ _ (show M ≠ d by omega), hk5.cell (by exact World.block_lt_of_cell? u _ hx) (by show d ≠ a.block; omega)]
        exact hx)
      have HPUT := Lib.hid (show Calls Try.prog 10 #[.agg #[.int .i64 (xk : Int), .int .i64 (xn : Int), .slice q len cp]] (w5.setCell ⟨M, 0, none⟩ (.bool true)) (GivesB (w5.setCell ⟨M, 0, none⟩ (.bool true)) (It.mk xk xn xb).put) from by
        have h := refPut_any (It.mk xk xn xb) q cp (w5.setCell ⟨M, 0, none⟩ (.bool true)) HXO.out.1 HSQ.out HBTU.out.nil
        rw [← HLEN.out]
        exact h)
      have HA1 := Lib.hid a1
      clear t1 t2 t3 t4 tf r1 r2 r3 r4 rf v1 v2 v3 v4 vf s1 s2 s3 s4 hB5 hk4 hk5 hR4 hR5 hK4 hF4 hD3 a1 HPOST HPS HLEFT HNX HSM HS0
      go_wp2_with fail
      refine HPUT.out.mono ?_
      rintro e w7 ⟨v7, rfl, hO7, hB7⟩
      obtain ⟨p7, c7, rfl, -, -, -⟩ := hO7.shape
      obtain ⟨PL, hPL⟩ : ∃ PL, (It.mk xk xn xb).put.length = PL := ⟨_, rfl⟩
      have hll := HLL.out
      rw [List.length_append, hPL] at hll
      have HRL := Lib.hid (show rest.length = LL - PL by omega)
      have hPLL : PL ≤ LL := by omega
      have hw7 : wrap64 ((LL : Int) - (PL : Int)) = ((LL - PL : Nat) : Int) := by rw [w64 _ (by omega) (by omega)]; omega
      have hw8 : IntKind.i64.wrap ((LL : Int) - (PL : Int)) = ((LL - PL : Nat) : Int) := by rw [i64w _ (by omega) (by omega)]; omega
      rw [hPL]
      have hM7 : M < (w5.setCell ⟨M, 0, none⟩ (.bool true)).heap.size := World.block_lt_of_cell? _ _ HA1.out
      have H7 := Lib.hid (show w7.cell? ⟨M, 0, none⟩ = some (.bool true) ∧ w7.frozen? ⟨M, 0, none⟩ = false from ⟨by rw [hB7.cell (by exact hM7)]; exact HA1.out, by rw [hB7.frozen (by exact hM7)]; exact HW6.out⟩)
      have HR7 := Lib.hid (HS.out.keep HR6.out hB7)
      have HK7 := Lib.hid (HK6.out.of_below hB7)
      have HLO7 := Lib.hid (HLO6.out.trans (Loc.ofBelow hB7))
      have HLT := Lib.hid (And.intro hlt hLLb)
      have HRE := Lib.hid (show encL (xs.drop (i + 1)) ++ more = rest from HREST.out)
      clear hO7 hB7 HPUT hll hPL
      go_wp2
      obtain ⟨hlt, hLLb⟩ := HLT.out
      exact ⟨⟨i + 1, LL - PL, by omega, by go_num, by first | rfl | (rw [hw7]) | (simp [hw7]), by rw [HRE.out]; exact HRL.out, by omega, H7.out.1, H7.out.2, HK7.out, HLO7.out, by rw [HRE.out]; exact HR7.out⟩, by simp [intOf]; omega⟩
    · have hltz : ¬ (i : Int) < (n : Int) := by omega
      have hld : decide ((i : Int) < (n : Int)) = false := decide_eq_false hltz
      obtain rfl : n = i := by omega
      rw [List.drop_of_length_le (by rw [HN.out]; exact Nat.le_refl _)] at hRi
      have hRi : Rd p V.heap.size wr a more := hRi
      have hmo : wr.cell? ⟨bmo, 0, none⟩ = some (.slice pm mm cm) := by rw [hK.cell (by show bmo < _; omega) (by show bmo ≠ M; omega)]; exact HMO.out
      have hal := HS.out.lie _ _ _ _ _ hRi
      have hMr : M < wr.heap.size := World.block_lt_of_cell? wr _ hcn
      have HRI := Lib.hid hRi
      have HKI := Lib.hid hK
      have HCN := Lib.hid (And.intro hcn hfn)
      have HMO2 := Lib.hid hmo
      have HLEFT := Lib.hid (show Calls Try.prog 15 #[.pointer (some a)] wr.drew fun e w' => e = .returned (.int .i64 (mm : Int)) ∧ Dr wr.drew w' from by
        have hd : Rd p V.heap.size wr.drew a more := HS.out.keep hRi ((Below.refl _ _).drew)
        have h := HS.out.left p V.heap.size _ a _ hd
        rw [HMM.out] at h
        exact h)
      have HPOST := Lib.hid (show ∀ w3 : World, Dr wr.drew w3 → (w3.cell? ⟨M, 0, none⟩ = some (.bool true) ∧ w3.cell? ⟨bmo, 0, none⟩ = some (.slice pm mm cm)) ∧ w3.frozen? ⟨M, 0, none⟩ = false from fun w3 h3 => ⟨⟨by rw [h3.cell]; exact HCN.out.1, by rw [h3.cell]; exact HMO2.out⟩, by rw [h3.frozen]; exact HCN.out.2⟩)
      have hs1 : wr.drew.cell? ⟨M, 0, none⟩ = some (.bool true) := hcn
      have hs2 : wr.drew.cell? ⟨bmo, 0, none⟩ = some (.slice pm mm cm) := hmo
      have q1 : ((mm : Int) == (mm : Int)) = true := by simp
      clear hRi hK hcn hfn hmo hLL HR HL HC HF HK0
      go_wp2_with fail
      go_region_held3 (fun w' : World => w'.cell? ⟨M, 0, none⟩ = some (.bool true) ∧ w'.cell? ⟨bmo, 0, none⟩ = some (.slice pm mm cm)) (first | go_keep | exact ⟨hs1, hs2⟩ | exact hsafter) ((first | (go_at_call 15; refine HLEFT.out.mono ?_; rintro e w3 ⟨rfl, hD3⟩; obtain ⟨⟨t1, t2⟩, tf⟩ := HPOST.out w3 hD3; have hsafter : (w3.setCell ⟨M, 0, none⟩ (.bool true)).cell? ⟨M, 0, none⟩ = some (.bool true) ∧ (w3.setCell ⟨M, 0, none⟩ (.bool true)).cell? ⟨bmo, 0, none⟩ = some (.slice pm mm cm) := ⟨World.cell?_setCell_same _ _ _ t1, by rw [World.cell?_setCell_far _ _ _ _ (show M ≠ bmo by omega)]; exact t2⟩)))
      have HEND := Lib.hid (show Rd p V.heap.size (w3.setCell ⟨M, 0, none⟩ (.bool true)) a more ∧ (w3.setCell ⟨M, 0, none⟩ (.bool true)).cell? ⟨M, 0, none⟩ = some (.bool true) ∧ Kp M V (w3.setCell ⟨M, 0, none⟩ (.bool true)) ∧ Loc V.heap.size a.block w (w3.setCell ⟨M, 0, none⟩ (.bool true)) from
        ⟨HS.out.far (HS.out.keep HRI.out (((Below.refl wr.heap.size wr).drew).trans (hD3.below _))) (show M ≠ a.block by omega) (fun _ => HP.out) 0 _, hsafter.1, (HKI.out.of_below (((Below.refl wr.heap.size wr).drew).trans (hD3.below _))).setCell 0 _, (HLO.out.trans (Loc.ofBelow (((Below.refl wr.heap.size wr).drew).trans (hD3.below _)))).trans (Loc.low w3 hMV 0 _)⟩)
      clear hsafter hD3 t1 t2 tf hs1 hs2
      go_wp2
      go_end0
      exact ⟨rfl, HEND.out⟩
end
end Go.Proofs.Ytgmogbgkokofoaa
