/- LaneOrders: files are finished in the enrol lane in the order in which they were put. -/
import Derived.Test.YtkajeepbelfpiaaDoorAwk14
import Derived.Deep.RegionHeld3
set_option linter.unusedSimpArgs false
set_option maxRecDepth 100000
set_option linter.unusedVariables false
namespace Go.Proofs.YtkajeepbelfpiaaDoor
open Go Go.RowKit

set_option maxHeartbeats 8000000 in
theorem orders_go (w : World) (l : List (BitVec 8)) (q : Option Addr) (n cap v : Nat) (hl : l.length = n) (hs : Sl w q l) (hn : n ≤ 20) (hv : v < 256) :
    Calls Tryd.prog 5 #[.slice q n cap, .int .u8 (v : Int)] w fun e w' => e = .returned (.bool true) ∧ Below w.heap.size w w' := by
  have HAW := Lib.hid (awake14 w)
  have HSL := Lib.hid (fun u (hu : Below w.heap.size w u) => hs.of_below hu)
  have HLN := Lib.hid hl
  have d0 : ¬ (20 : Int) < (n : Int) := by omega
  have g0 : decide ((20 : Int) < (n : Int)) = false := decide_eq_false d0
  obtain ⟨Bn, hBn⟩ : ∃ Bn : Nat → Nat, (fun i => (l.getD i 0#8).toNat % 65) = Bn := ⟨_, rfl⟩
  have HBN := Lib.hid hBn
  have HBL := Lib.hid (show ∀ i, Bn i ≤ 64 from fun i => by rw [← hBn]; show (l.getD i 0#8).toNat % 65 ≤ 64; omega)
  clear hs hl hBn
  go_enter Tryd.func5, Tryd.ntmps5
  go_wp2_with fail
  refine HAW.out.mono ?_
  rintro e w1 ⟨rfl, hB1⟩
  have HB1 := Lib.hid hB1
  have HNW := Lib.hid (new14_any w1)
  clear hB1 HAW
  go_wp2_with fail
  refine HNW.out.mono ?_
  rintro e w2 ⟨rfl, hL, hB⟩
  obtain ⟨b, hb⟩ : ∃ b, w1.heap.size = b := ⟨_, rfl⟩
  have HS2 := Lib.hid (show St14 w w2 b ln0 from (show St14 w1 w2 b ln0 from ⟨by rw [← hb]; exact hL, hB⟩).mono HB1.out)
  rw [hb]
  clear hL hB hb HNW
  go_wp2
  go_loopw [27] (fun v27 wr => ∃ k : Nat, k ≤ n ∧ v27 = .int .i64 (k : Int) ∧ St14 w wr b ⟨0, enI Bn k, []⟩) (fun v27 _ => n - (intOf v27).toNat)
  case atStart => exact ⟨0, Nat.zero_le _, rfl, HS2.out⟩
  case round =>
    rename World => wa
    obtain ⟨k, hk, rfl, hS⟩ := hrel
    have HS := Lib.hid hS
    by_cases hlt : k < n
    · have y1 : (k : Int) < (n : Int) := by omega
      have y2 : decide ((k : Int) < (n : Int)) = true := decide_eq_true y1
      have hw6 : IntKind.i64.wrap ((k : Int) + 1) = (k : Int) + 1 := by rw [IntKind.wrap_i64]; omega
      obtain ⟨c, o, rfl, hc⟩ := HSL.out wa hS.2 k (by rw [HLN.out]; exact hlt)
      obtain ⟨X, hX⟩ : ∃ X, (l.getD k 0#8).toNat = X := ⟨_, rfl⟩
      have hXl : X < 256 := by rw [← hX]; exact (l.getD k 0#8).isLt
      have hcx : wa.cell? ⟨c, o + k, none⟩ = some (.int .u8 (X : Int)) := by
        rw [hc, ← hX]
        unfold B
        rw [List.getD_eq_getElem?_getD, List.getElem?_eq_getElem (by rw [HLN.out]; exact hlt)]
        try rfl
      have hBk : Bn k = X % 65 := by rw [← HBN.out]; show (l.getD k 0#8).toNat % 65 = _; rw [hX]
      have r1 : (X : Int) % 65 = ((Bn k : Nat) : Int) := by omega
      have r2 : Int.tmod (X : Int) 65 = ((Bn k : Nat) : Int) := by rw [Int.tmod_eq_emod_of_nonneg (by omega)]; exact r1
      have HNA := Lib.hid (fun u => name_any k (by omega) u)
      have HPU := Lib.hid (fun u (hu : Below wa.heap.size wa u) => put_any (HS.out.new hu).1 (enI_ok Bn k (by omega)) ⟨by show (enI Bn k).length < _; rw [enI_len]; omega, by simp⟩ (nmI k) (by simp [nmI]) (Bn k : Int) (by omega) (by have := HBL.out k; omega))
      clear hS hc hX hBk
      go_wp2_with fail
      refine (HNA.out wa).mono ?_
      rintro e wb ⟨rfl, hBb⟩
      have HBb := Lib.hid hBb
      clear hBb
      go_wp2_with fail
      refine (HPU.out wb HBb.out).mono ?_
      rintro e wc ⟨he, hL, hK⟩
      have hpp := enI_put Bn k (by omega) (HBL.out k)
      rw [hpp.1] at he
      rw [hpp.2] at hL
      subst he
      have HS3 := Lib.hid ((HS.out.new HBb.out).next hL hK)
      clear hL hK hpp hcx HPU HNA
      go_wp2
      exact ⟨⟨k + 1, by omega, by go_num, HS3.out⟩, by simp [intOf]; omega⟩
    · have y1 : ¬ (k : Int) < (n : Int) := by omega
      have y2 : decide ((k : Int) < (n : Int)) = false := decide_eq_false y1
      have hkn : k = n := by omega
      subst hkn
      obtain ⟨V, hV⟩ : ∃ V, v % 50 = V := ⟨_, rfl⟩
      have hV50 : V < 50 := by omega
      have r1 : (v : Int) % 50 = (V : Int) := by omega
      have r2 : Int.tmod (v : Int) 50 = (V : Int) := by rw [Int.tmod_eq_emod_of_nonneg (by omega)]; exact r1
      have m1 : IntKind.i64.wrap (2 * (V : Int)) = 2 * (V : Int) := by rw [IntKind.wrap_i64]; omega
      have m2 : IntKind.i64.wrap (2 + 2 * (V : Int)) = 2 + 2 * (V : Int) := by rw [IntKind.wrap_i64]; omega
      have m3 : IntKind.i64.wrap (2 * (k : Int)) = 2 * (k : Int) := by rw [IntKind.wrap_i64]; omega
      have m4 : IntKind.i64.wrap (2 * (k : Int) * 65) = 2 * (k : Int) * 65 := by rw [IntKind.wrap_i64]; omega
      have m5 : ¬ (2 + 2 * (V : Int)) = 0 := by omega
      obtain ⟨h, hh⟩ : ∃ h, 1 + V = h := ⟨_, rfl⟩
      obtain ⟨D, hD⟩ : ∃ D, 65 * k / h = D := ⟨_, rfl⟩
      have hDle : D ≤ 65 * k := by rw [← hD]; exact Nat.div_le_self _ _
      have m6 : Int.tdiv (2 * (k : Int) * 65) (2 + 2 * (V : Int)) = (D : Int) := by
        rw [show (2 * (k : Int) * 65) = ((2 * (65 * k) : Nat) : Int) by omega, show (2 + 2 * (V : Int)) = ((2 * h : Nat) : Int) by omega]
        rw [Int.tdiv_eq_ediv_of_nonneg (by omega), ← Int.natCast_ediv, Nat.mul_div_mul_left _ _ (by decide), hD]
      have m7 : (2 * (k : Int) * 65) / (2 + 2 * (V : Int)) = (D : Int) := by
        rw [← m6, Int.tdiv_eq_ediv_of_nonneg (by omega)]
      obtain ⟨TT, hTT⟩ : ∃ x, D + 3 = x := ⟨_, rfl⟩
      have m8 : IntKind.i64.wrap ((D : Int) + 3) = (TT : Int) := by rw [IntKind.wrap_i64]; omega
      have hT : 64 * k < TT * h := by
        have h1 := Nat.div_add_mod (65 * k) h
        have h2 := Nat.mod_lt (65 * k) (show h > 0 by omega)
        rw [hD] at h1
        rw [← hTT, Nat.add_mul, Nat.mul_comm D h]
        omega
      have hDle : TT ≤ 65 * k + 3 := by omega
      have HH := Lib.hid (And.intro hh (And.intro hT hDle))
      have HS4 := Lib.hid hS
      clear hS hV hh hT hDle hD hk hTT
      go_wp2
      go_loopw [10, 54] (fun v10 v54 wr => ∃ (t nx : Nat) (s : Ln), t ≤ TT ∧ v54 = .int .i64 (t : Int) ∧ v10 = .int .i64 (nx : Int) ∧ St14 w wr b s ∧ OrI k h t nx s) (fun _ v54 _ => TT - (intOf v54).toNat)
      case atStart => exact ⟨0, 0, _, Nat.zero_le _, rfl, rfl, HS4.out, OrI.start Bn k h HBL.out⟩
      case round =>
        rename World => wd
        obtain ⟨t, nx, s, ht, rfl, rfl, hS, hO⟩ := hrel
        have HS5 := Lib.hid hS
        have HOR := Lib.hid hO
        have hDl := HH.out.2.2
        by_cases hlt : t < TT
        · have y1 : (t : Int) < (TT : Int) := by omega
          have y2 : decide ((t : Int) < (TT : Int)) = true := decide_eq_true y1
          have hw6 : IntKind.i64.wrap ((t : Int) + 1) = (t : Int) + 1 := by rw [IntKind.wrap_i64]; omega
          have HTK := Lib.hid (tick_go hS.1 hO.oe hO.os ⟨by have := hO.ln; omega, by have := hO.ln; omega⟩ (by rw [hO.ck]; omega) (2 + 2 * (V : Int)) h (by have := HH.out.1; omega) (by have := HH.out.1; omega) (by have := HH.out.1; omega))
          clear hS hO
          go_wp2_with fail
          refine HTK.out.mono ?_
          rintro e wb ⟨v0, ns, rfl, hOw, hp, -, hL, hK⟩
          have HS6 := Lib.hid (HS5.out.next hL hK)
          have HO6 := Lib.hid (HOR.out.tick hp)
          obtain ⟨p, cp, ev, hlw, hpn, hcp, -⟩ := own_shape hOw
          subst ev
          have HWK := Lib.hid (fun j hj => HOR.out.works j hj)
          have HA := Lib.hid (workL_enrol (s.clock + 1) true s.en h HOR.out.oe)
          have hm5 : (tickOut s h).length ≤ 40 := by
            unfold tickOut
            rw [List.length_append]
            have h1 : (tickA s h).out.length ≤ s.en.length := workL_out_le (s.clock + 1) true s.en h
            have h2 : (tickB s h).out.length ≤ s.sc.length := workL_out_le (s.clock + 1) false s.sc ((tickA s h).left + h)
            have h3 := HOR.out.ln
            omega
          have hal : (tickA s h).out.length ≤ (tickOut s h).length := by unfold tickOut; rw [List.length_append]; omega
          obtain ⟨TO, hTO⟩ : ∃ L, tickOut s h = L := ⟨_, rfl⟩
          obtain ⟨A, hA⟩ : ∃ L, (tickA s h).out = L := ⟨_, rfl⟩
          obtain ⟨fa, hfa⟩ : ∃ n, (tickA s h).fin.length = n := ⟨_, rfl⟩
          have HA2 := Lib.hid (show fa ≤ A.length ∧ A.length ≤ TO.length ∧ sumW A ≤ h from by
            rw [← hfa, ← hA, ← hTO]
            exact ⟨HA.out.1, hal, by have := HA.out.2.2.2.2.2.1; unfold tickA; omega⟩)
          rw [hTO] at HWK hlw hm5 hcp
          rw [hA] at HWK
          rw [hfa] at HWK HO6
          rw [hTO]
          obtain ⟨m, hm⟩ : ∃ m, TO.length = m := ⟨_, rfl⟩
          rw [hm] at hm5 hcp HA2
          rw [hm]
          have HM := Lib.hid hm
          have HLW := Lib.hid (fun u (hu : Below wb.heap.size wb u) => hlw.of_below hu)
          have hnx20 : nx + fa ≤ 20 := by have := HO6.out.nxt; omega
          clear hOw hp hL hK hlw hm hA hfa hTO hal HTK HA
          go_wp2
          go_loopw [10, 13, 66] (fun v10 v13 v66 wr => ∃ j : Nat, j ≤ m ∧ v66 = .int .i64 (j : Int) ∧ v10 = .int .i64 ((nx + min j fa : Nat) : Int) ∧ v13 = .int .i64 ((sumW (A.take j) : Nat) : Int) ∧ Below wb.heap.size wb wr) (fun _ _ v66 _ => m - (intOf v66).toNat)
          case atStart => exact ⟨0, Nat.zero_le _, rfl, by rw [Nat.zero_min]; rfl, rfl, Below.refl _ _⟩
          case round =>
            rename World => wc
            obtain ⟨j, hj, rfl, rfl, rfl, hB⟩ := hrel
            have HBc := Lib.hid hB
            have hsw : sumW (A.take j) ≤ h := by have := sumW_le A j; have := HA2.out.2.2; omega
            obtain ⟨SU, hSU⟩ : ∃ x, sumW (A.take j) = x := ⟨_, rfl⟩
            rw [hSU] at hsw
            rw [hSU]
            have HSU := Lib.hid hSU
            by_cases hlj : j < m
            · have y3 : (j : Int) < (m : Int) := by omega
              have y4 : decide ((j : Int) < (m : Int)) = true := decide_eq_true y3
              have hw7 : IntKind.i64.wrap ((j : Int) + 1) = (j : Int) + 1 := by rw [IntKind.wrap_i64]; omega
              have hwk := HWK.out j (by rw [HM.out]; exact hlj)
              obtain ⟨x, hx⟩ : ∃ x, TO.getD j wk0 = x := ⟨_, rfl⟩
              rw [hx] at hwk
              have cells : ∀ i, i < 5 → ∃ c o, p = some ⟨c, o, none⟩ ∧ wc.cell? ⟨c, o + j * 5 + i, none⟩ = (wkC x)[i]? := fun i hi => by
                obtain ⟨c, o, e, hc⟩ := HLW.out wc hB (j * 5 + i) (by rw [wksC_len, HM.out]; omega)
                refine ⟨c, o, e, ?_⟩
                rw [Nat.add_assoc, hc, wksC_get TO j i (by rw [HM.out]; exact hlj) hi, hx]
              obtain ⟨c, o, e, x0⟩ := cells 0 (by decide)
              subst e
              have cells' : ∀ i, i < 5 → wc.cell? ⟨c, o + j * 5 + i, none⟩ = (wkC x)[i]? := fun i hi => by
                obtain ⟨c', o', e, hc⟩ := cells i hi
                injection e with e
                injection e with e1 e2
                subst e1 e2
                exact hc
              have x1 := cells' 1 (by decide)
              have x2 := cells' 2 (by decide)
              have x3 := cells' 3 (by decide)
              have x4 := cells' 4 (by decide)
              change _ = some (Value.string (mkS x.path)) at x0
              change _ = some (Value.int .i64 (x.lo : Int)) at x1
              change _ = some (Value.int .i64 (x.hi : Int)) at x2
              change _ = some (Value.bool x.en) at x3
              change _ = some (Value.bool x.fin) at x4
              rw [Nat.add_zero] at x0
              have HX := Lib.hid hx
              obtain ⟨lo, hlo⟩ : ∃ y, x.lo = y := ⟨_, rfl⟩
              obtain ⟨hi, hhi⟩ : ∃ y, x.hi = y := ⟨_, rfl⟩
              rw [hlo] at x1
              rw [hhi] at x2
              by_cases hen : j < A.length
              · obtain ⟨k1, k2, k3, k4, k5, k6, k7, k8⟩ := hwk.1 hen
                have hmin : min j fa = j := by omega
                rw [hmin]
                rw [k1] at x3
                rw [k2] at x0
                rw [k5] at x4
                rw [hlo, hhi] at k3
                rw [hhi] at k4
                have hw8 : IntKind.i64.wrap ((hi : Int) - (lo : Int)) = (hi : Int) - (lo : Int) := by rw [IntKind.wrap_i64]; omega
                have hw9 : IntKind.i64.wrap ((SU : Int) + ((hi : Int) - (lo : Int))) = (SU : Int) + ((hi : Int) - (lo : Int)) := by have := HH.out.1; rw [IntKind.wrap_i64]; omega
                have HNA := Lib.hid (fun u => name_any (nx + j) (by have := hn; omega) u)
                have hw10 : IntKind.i64.wrap (((nx + j : Nat) : Int) + 1) = ((nx + j : Nat) : Int) + 1 := by rw [IntKind.wrap_i64]; omega
                obtain ⟨NX, hNX⟩ : ∃ y, nx + j = y := ⟨_, rfl⟩
                rw [hNX] at HNA x0 hw10
                rw [hNX]
                obtain ⟨PX, hPX⟩ : ∃ y, mkS (nmI NX) = y := ⟨_, rfl⟩
                rw [hPX] at HNA x0
                obtain ⟨fb, hfb⟩ : ∃ y, decide (j < fa) = y := ⟨_, rfl⟩
                rw [hfb] at x4
                have HFB := Lib.hid (And.intro hfb (And.intro hNX (And.intro k6 (And.intro k3 (And.intro hlo (And.intro hhi k8))))))
                obtain ⟨W5, hW5⟩ : ∃ W, wc.alloc (.cells #[.string PX, .int .i64 (lo : Int), .int .i64 (hi : Int), .bool true, .bool fb] 55) = W := ⟨_, rfl⟩
                obtain ⟨xb, hxb⟩ : ∃ y, wc.heap.size = y := ⟨_, rfl⟩
                have hcx : W5.heap[xb]? = some (.cells #[.string PX, .int .i64 (lo : Int), .int .i64 (hi : Int), .bool true, .bool fb] 55 (0, 0)) := by rw [← hW5, ← hxb]; exact World.alloc_heap_new _ _
                have HB5 := Lib.hid (show Below wb.heap.size wb W5 from by rw [← hW5]; exact hB.alloc hB.size _)
                have HC5 := Lib.hid (show ∀ u, Below W5.heap.size W5 u → u.cell? ⟨xb, 0, none⟩ = some (.string PX) ∧ u.cell? ⟨xb, 4, none⟩ = some (.bool fb) from fun u hu => by
                  have := (hu.block xb (Array.getElem?_eq_some_iff.1 hcx).1).trans hcx
                  constructor <;> simp [World.cell?, this])
                have HS := Lib.hid (show ∀ u, Below W5.heap.size W5 u → u.cell? ⟨xb, 0, none⟩ = some (.string PX) from fun u hu => (HC5.out u hu).1)
                have HW5 := Lib.hid (And.intro hW5 hxb)
                clear cells cells' hx hB hwk k1 k2 k3 k4 k5 k6 k7 k8 hcx hNX hPX hfb hlo hhi hSU hW5 hxb
                go_wp2
                rw [HW5.out.1, HW5.out.2]
                clear x0 x1 x2 x3 x4
                refine wp_region_noPanic ?_
                refine wp_region_held_drew (S := (fun u : World => u.cell? ⟨xb, 0, none⟩ = some (.string PX))) (by kernel_rfl) (HS.out _ (Below.refl _ _).drew) (fun hHeld => ?_)
                generalize hgx : W5.drew = x at hHeld ⊢
                have HXx := Lib.hid (show Below W5.heap.size W5 x from by rw [← hgx]; exact (Below.refl _ _).drew)
                clear hgx
                refine wpAnyH_take (i := 0) (v := ?_) (by simp only [List.getElem?_toArray, List.getElem?_cons_succ, List.getElem?_cons_zero]; exact rfl) (by kernel_rfl) (by kernel_rfl) (by kernel_rfl) (fun _ _ _ h => h) (Or.inl ⟨by rfl, ?_⟩) (by assumption) ?_
                rotate_left 1
                · (intro w hSw; (try dsimp only at hSw); go_simp; try with_reducible rfl)
                try simp only [Act.put, List.setIfInBounds_toArray, List.set_cons_zero, List.set_cons_succ]
                refine wpAnyH_take (i := 1) (v := ?_) (by simp only [List.getElem?_toArray, List.getElem?_cons_succ, List.getElem?_cons_zero]; exact rfl) (by kernel_rfl) (by kernel_rfl) (by kernel_rfl) (fun _ _ _ h => h) (Or.inl ⟨by rfl, ?_⟩) (by assumption) ?_
                rotate_left 1
                · (intro w hSw; (try dsimp only at hSw); go_simp; try with_reducible rfl)
                try simp only [Act.put, List.setIfInBounds_toArray, List.set_cons_zero, List.set_cons_succ]
                refine wpAnyH_take (i := 2) (v := ?_) (by simp only [List.getElem?_toArray, List.getElem?_cons_succ, List.getElem?_cons_zero]; exact rfl) (by kernel_rfl) (by kernel_rfl) (by kernel_rfl) (fun _ _ _ h => h) (Or.inl ⟨by rfl, ?_⟩) (by assumption) ?_
                rotate_left 1
                · (intro w hSw; (try dsimp only at hSw); go_simp; try with_reducible rfl)
                try simp only [Act.put, List.setIfInBounds_toArray, List.set_cons_zero, List.set_cons_succ]
                refine wpAnyH_take (i := 3) (v := ?_) (by simp only [List.getElem?_toArray, List.getElem?_cons_succ, List.getElem?_cons_zero]; exact rfl) (by kernel_rfl) (by kernel_rfl) (by kernel_rfl) (fun _ _ _ h => h) (Or.inl ⟨by rfl, ?_⟩) (by assumption) ?_
                rotate_left 1
                · (intro w hSw; (try dsimp only at hSw); go_simp; try with_reducible rfl)
                try simp only [Act.put, List.setIfInBounds_toArray, List.set_cons_zero, List.set_cons_succ]
                refine wpAnyH_ready (rs := [4]) (by kernel_rfl) (by simp) ?_
                refine (AllReadyH.cons (by simp only [List.getElem?_toArray, List.getElem?_cons_succ, List.getElem?_cons_zero]; exact rfl) (fun K hK => ?_) AllReadyH.nil)
                go_simp
                refine (HNA.out x).mono ?_
                rintro e y ⟨rfl, hBy⟩
                have HBY := Lib.hid (HXx.out.trans (hBy.mono HXx.out.size))
                clear hBy
                go_wp2_with fail
                refine hK.out _ _ (HS.out y HBY.out) (fun hHeld => ?_)
                clear hK K
                try simp only [Act.put, List.setIfInBounds_toArray, List.set_cons_zero, List.set_cons_succ]
                refine wpAnyH_take (i := 5) (v := ?_) (by simp only [List.getElem?_toArray, List.getElem?_cons_succ, List.getElem?_cons_zero]; exact rfl) (by kernel_rfl) (by kernel_rfl) (by kernel_rfl) (fun _ _ _ h => h) (Or.inl ⟨by rfl, ?_⟩) (by assumption) ?_
                rotate_left 1
                · (intro w hSw; (try dsimp only at hSw); go_simp; try with_reducible rfl)
                try simp only [Act.put, List.setIfInBounds_toArray, List.set_cons_zero, List.set_cons_succ]
                refine wpAnyH_done (by kernel_rfl) ?_ _
                refine NoPanic.normal ?_
                clear hHeld
                have c4 := (HC5.out y HBY.out).2
                have HB7 := Lib.hid (HB5.out.trans (HBY.out.mono HB5.out.size))
                cases fb with
                | true =>
                  go_wp2
                  refine ⟨⟨j + 1, by omega, by go_num, ?_, ?_, HB7.out⟩, by simp [intOf]; omega⟩
                  · have h1 := of_decide_eq_true HFB.out.1
                    have h2 := HFB.out.2.1
                    congr 1
                    omega
                  · rw [sumW_take A j hen, HSU.out, ← HFB.out.2.2.2.2.2.2, HFB.out.2.2.2.2.1, HFB.out.2.2.2.2.2.1]
                    have h3 := HFB.out.2.2.2.1
                    congr 1
                    omega
                | false =>
                  go_wp2
                  refine ⟨⟨j + 1, by omega, by go_num, ?_, ?_, HB7.out⟩, by simp [intOf]; omega⟩
                  · have h1 := of_decide_eq_false HFB.out.1
                    have h2 := HFB.out.2.1
                    have h4 := HFB.out.2.2.1
                    congr 1
                    omega
                  · rw [sumW_take A j hen, HSU.out, ← HFB.out.2.2.2.2.2.2, HFB.out.2.2.2.2.1, HFB.out.2.2.2.2.2.1]
                    have h3 := HFB.out.2.2.2.1
                    congr 1
                    omega
              · have k1 := hwk.2 hen
                rw [k1] at x3
                have HFF := Lib.hid (show min (j + 1) fa = min j fa ∧ A.take (j + 1) = A.take j from by
                  have := HA2.out.1
                  refine ⟨by omega, ?_⟩
                  rw [List.take_of_length_le (by omega), List.take_of_length_le (by omega)])
                obtain ⟨NX, hNX⟩ : ∃ y, nx + min j fa = y := ⟨_, rfl⟩
                rw [hNX]
                have HNX := Lib.hid hNX
                have HBn := Lib.hid (hB.alloc hB.size (.cells #[.string (mkS x.path), .int .i64 (lo : Int), .int .i64 (hi : Int), .bool false, .bool x.fin] 55))
                clear cells cells' hx hB hwk k1 hNX hlo hhi hSU
                go_wp2
                exact ⟨⟨j + 1, by omega, by go_num, by rw [HFF.out.1, HNX.out], by rw [HFF.out.2, HSU.out], HBn.out⟩, by simp [intOf]; omega⟩
            · have y3 : ¬ (j : Int) < (m : Int) := by omega
              have y4 : decide ((j : Int) < (m : Int)) = false := decide_eq_false y3
              have hjm : j = m := by omega
              have e1 : Int.tdiv (2 + 2 * (V : Int)) 2 = (h : Int) := by rw [Int.tdiv_eq_ediv_of_nonneg (by omega)]; have := HH.out.1; omega
              have e2 : (2 + 2 * (V : Int)) / 2 = (h : Int) := by have := HH.out.1; omega
              have e3 : ¬ (h : Int) < (SU : Int) := by omega
              have e4 : decide ((h : Int) < (SU : Int)) = false := decide_eq_false e3
              have HS7 := Lib.hid (HS6.out.new (show Below wb.heap.size wb wc from hB))
              have hmf : min j fa = fa := by have := HA2.out.1; have := HA2.out.2.1; omega
              rw [hmf]
              clear hB hSU hjm
              go_wp2
              exact ⟨⟨t + 1, nx + fa, _, by omega, by go_num, rfl, HS7.out, HO6.out⟩, by simp [intOf]; omega⟩
        · have y1 : ¬ (t : Int) < (TT : Int) := by omega
          have y2 : decide ((t : Int) < (TT : Int)) = false := decide_eq_false y1
          have hd := HOR.out.done (show 64 * k < t * h from by
            have h1 := HH.out.2.1
            have h2 : t = TT := by omega
            rw [h2]; exact h1)
          have HWT := Lib.hid (waiting_any hS.1 (by rw [hd.1]; simp))
          rw [hd.1] at HWT
          have hnx := hd.2
          rw [hnx]
          clear hS hO hd hnx
          go_wp2_with fail
          refine HWT.out.mono ?_
          rintro e we ⟨v1, rfl, hOw, hBw⟩
          obtain ⟨p1, c1, ev, -⟩ := own_shape hOw
          change v1 = .slice p1 0 c1 at ev
          subst ev
          have HZZ := Lib.hid (HS5.out.2.trans (hBw.mono HS5.out.2.size))
          clear hOw hBw HWT
          go_wp2
          go_ret
          exact ⟨rfl, HZZ.out⟩
set_option maxHeartbeats 8000000 in
theorem orders_any (w : World) (l : List (BitVec 8)) (q : Option Addr) (n cap v : Nat) (hl : l.length = n) (hs : Sl w q l) (hv : v < 256) :
    Calls Tryd.prog 5 #[.slice q n cap, .int .u8 (v : Int)] w fun e w' => e = .returned (.bool true) ∧ Below w.heap.size w w' := by
  by_cases hn : n ≤ 20
  · exact orders_go w l q n cap v hl hs hn hv
  · have HAW := Lib.hid (fun u => awake14 u)
    have d0 : (20 : Int) < (n : Int) := by omega
    have g0 : decide ((20 : Int) < (n : Int)) = true := decide_eq_true d0
    clear hs hl
    go_enter Tryd.func5, Tryd.ntmps5
    go_wp2_with fail
    refine (HAW.out w).mono ?_
    rintro e w1 ⟨rfl, hB1⟩
    have HB1 := Lib.hid hB1
    clear hB1
    go_wp2_with fail
    refine (HAW.out w1).mono ?_
    rintro e w2 ⟨rfl, hB2⟩
    have HB2 := Lib.hid (HB1.out.trans (hB2.mono HB1.out.size))
    clear hB2
    go_wp2
    go_ret
    exact ⟨rfl, HB2.out⟩
end Go.Proofs.YtkajeepbelfpiaaDoor
