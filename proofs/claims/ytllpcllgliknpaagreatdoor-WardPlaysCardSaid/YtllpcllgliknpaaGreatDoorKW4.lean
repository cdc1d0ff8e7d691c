/- Merged texts: Rhn15, Rhu15, Rmo15, Rbw15, Wps15, Wis15. -/
import Derived.Test.YtllpcllgliknpaaGreatDoorKW2
import Derived.Test.YtllpcllgliknpaaGreatDoorKW3
import Derived.Deep.RegionHeld3
import Derived.Test.YtllpcllgliknpaaGreatDoorRef6
import Derived.BigQuiet
set_option linter.unusedSimpArgs false
set_option linter.unusedVariables false
/- darnerref15.Hold: a new block. -/
set_option maxRecDepth 100000
namespace Go.Proofs.YtllpcllgliknpaaGreatDoor
open Go Go.RowKit
attribute [-go_sem] Sha.exec_store

/-- A list of one's own that has a block. -/
theorem own_some15 {w : World} {base n k : Nat} {E : TypeId} {v : Value} {cs : List Value} (h : w.ownsRow base E k v n cs) (hv : v.ownBlock ≠ none) :
    ∃ g cap, v = .slice (some ⟨g, 0, none⟩) n cap ∧ base ≤ g ∧ g < w.heap.size ∧ n ≤ cap ∧ LsC w (some ⟨g, 0, none⟩) cs := by
  obtain ⟨p, cap, e, h1, h2, h3, h4⟩ := own_shape h
  rcases h.2 with ⟨e2, -⟩ | ⟨g, cap2, cur, e2, -⟩
  · rw [e2] at hv; exact absurd rfl hv
  · rw [e2] at e
    injection e with e e3 e4
    subst e
    have := h4 g 0 rfl
    exact ⟨g, cap2, e2, this.1, this.2, by rw [e4]; exact h3, h1⟩
set_option maxHeartbeats 8000000 in
theorem refHold15_new {w : World} {q : Option Addr} {n cap : Nat} {M : List Hr} (p : S8) (b y : Int) (h : HLs w q n cap M) (hn : n < 1000) (hp : p.length < 100000) (hb : badH p b y = 0) (hx : ∀ x ∈ M, ¬ (x.path = p ∧ x.blk = b)) :
    Calls Tryz.prog 10 #[.slice q n cap, .string (mkS p), .int .i64 b, .int .i64 y] w fun e w' => Below w.heap.size w w' ∧ ∃ (a : Nat) (v : Value), AtH M ⟨p, b, y⟩ a ∧ e = .returned (.tuple #[v, .int .i64 0]) ∧ OwnH w' w.heap.size v (M.take a ++ ⟨p, b, y⟩ :: M.drop a) := by
  obtain ⟨k1, k2, k3, k4, k5⟩ := badH_ok hb
  have HKD := Lib.hid (refKind_any p hp w)
  rw [k1] at HKD
  have HH := Lib.hid (fun u (hu : Below w.heap.size w u) => h.of_below hu)
  have HFD := Lib.hid (fun u (hu : Below w.heap.size w u) => refFind15_any (w := u) p b (h.of_below hu) (by omega))
  have HX := Lib.hid hx
  have HLN := Lib.hid h.1
  have z1 : decide (b < 0) = false := decide_eq_false (by omega)
  have z2 : decide (63 < b) = false := decide_eq_false (by omega)
  have z3 : decide (y < 1) = false := decide_eq_false (by omega)
  have z4 : decide (3 < y) = false := decide_eq_false (by omega)
  have hlen := h.1
  clear hb hx k1 k2 k3 k4 k5 h
  go_enter Tryz.func10, Tryz.ntmps10
  go_wp2_with fail
  refine HKD.out.mono ?_
  rintro e w2 ⟨rfl, hB⟩
  have HB := Lib.hid hB
  clear hB HKD
  go_wp2_with fail
  refine (HFD.out _ HB.out).mono ?_
  rintro e w3 ⟨r, rfl, hr, rfl⟩
  rcases hr.cases.symm with ⟨i, rfl, hi, hpe, hbe⟩ | ⟨rfl, -⟩
  · refine absurd ⟨hpe, hbe⟩ (HX.out _ ?_)
    rw [List.getD_eq_getElem?_getD, List.getElem?_eq_getElem hi]
    exact List.getElem_mem _
  have H2 := Lib.hid (HH.out w3 HB.out)
  have H0 := Lib.hid (own_lower (own_empty (E := EHr) (k := 3) w3 w3.heap.size (Nat.le_refl _)) HB.out.size)
  have HB0 := Lib.hid (show Below w.heap.size w (w3.alloc (.cells #[] EHr)) from HB.out.alloc HB.out.size _)
  have HT := Lib.hid (show LsC (w3.alloc (.cells #[] EHr)) q (hrsC M) from H2.out.2.1.of_below ((Below.refl _ _).alloc (Nat.le_refl _) _))
  have HLC := Lib.hid (show (hrsC M).length = n * 3 from by rw [hrsC_len, hlen])
  have HQ := Lib.hid (show q = none → cap = 0 ∧ n = 0 from fun e => by have h1 := H2.out.2.2.1 e; have h2 := H2.out.2.2.2; omega)
  have y1 : decide ((1000 : Int) ≤ (n : Int)) = false := decide_eq_false (by omega)
  have y2 : ¬ (1000 : Int) ≤ (n : Int) := by omega
  go_wp2_with (first
    | (refine wpl_appendK (v := .slice (some ⟨w3.heap.size, 0, none⟩) 0 0) elHr _ rfl (.tmp 36) (.tmp 37) rfl w.heap.size rfl H0.out q n cap (hrsC M) HLC.out rfl HT.out HQ.out (hrsC_oneCell _) (by omega) HB0.out.size ?_
       rintro v4 w4 hO4 hg4 h54
       rw [List.nil_append, Nat.zero_add] at hO4
       have hv4 : v4.ownBlock ≠ none := by rcases h54 with e | e <;> rw [e] <;> simp [Value.ownBlock]
       have HB4 := Lib.hid (HB0.out.grown hg4 HB0.out.size (fun g hg => by have : w3.heap.size = g := (by simpa [Value.ownBlock] using hg); have := HB.out.size; omega))
       obtain ⟨g4, c4, e4, hbase, hlt4, hc4, hls4⟩ := own_some15 hO4 hv4
       have HLS4 := Lib.hid (And.intro hls4 (And.intro hc4 hlt4))
       subst e4
       clear hO4 hg4 h54 hv4 hls4 hbase hlt4))
  have HH4 := Lib.hid (HH.out w4 HB4.out)
  clear H0 HB0 HT H2 HB HFD z1 z2 z3 z4
  go_loopw [12] (fun v wr => ∃ a : Nat, a ≤ n ∧ v = .int .i64 (a : Int) ∧ (∀ i, i < a → ltH (M.getD i hr0) ⟨p, b, y⟩) ∧ w4 = wr) (fun v _ => n - (intOf v).toNat)
  case atStart => exact ⟨0, Nat.zero_le _, rfl, (fun i hi => by omega), rfl⟩
  case round =>
    rename World => w4
    obtain ⟨a, ha, rfl, hF, rfl⟩ := hrel
    have HF := Lib.hid hF
    have HA := Lib.hid ha
    clear hF
    by_cases hlt : a < n
    · have u1 : (a : Int) < (n : Int) := by omega
      have u2 : decide ((a : Int) < (n : Int)) = true := decide_eq_true u1
      have hw6 : IntKind.i64.wrap ((a : Int) + 1) = (a : Int) + 1 := by rw [IntKind.wrap_i64]; omega
      obtain ⟨c, o, rfl, hc⟩ := HH4.out.cells a hlt
      have x0 := hc 0 (by decide)
      have x1 := hc 1 (by decide)
      obtain ⟨x, hx⟩ : ∃ x, M.getD a hr0 = x := ⟨_, rfl⟩
      rw [hx] at x0 x1
      change _ = some (Value.string (mkS x.path)) at x0
      change _ = some (Value.int .i64 x.blk) at x1
      rw [Nat.add_zero] at x0
      have HXX := Lib.hid hx
      obtain ⟨xp, xb, xw⟩ := x
      dsimp only at x0 x1
      clear hc hx
      by_cases h1 : xp < p
      · have hbl : Op.bytesLess xp p = true := by rw [bytesLess_eq]; exact decide_eq_true h1
        have HGO := Lib.hid (show ltH (M.getD a hr0) ⟨p, b, y⟩ from by rw [HXX.out]; exact .inl h1)
        clear h1
        go_wp2
        refine ⟨⟨a + 1, by omega, by go_num, fun i hi => ?_, trivial⟩, by simp [intOf]; omega⟩
        rcases Nat.lt_succ_iff_lt_or_eq.1 hi with h1 | rfl
        · exact HF.out i h1
        · exact HGO.out
      · have hbl : Op.bytesLess xp p = false := by rw [bytesLess_eq]; exact decide_eq_false h1
        by_cases h2 : xp = p
        · have b1 : (xp == p) = true := beq_iff_eq.2 h2
          by_cases h3 : xb < b
          · have b2 : decide (xb < b) = true := decide_eq_true h3
            have HGO := Lib.hid (show ltH (M.getD a hr0) ⟨p, b, y⟩ from by rw [HXX.out]; exact .inr ⟨h2, h3⟩)
            clear h1 h2 h3
            go_wp2
            refine ⟨⟨a + 1, by omega, by go_num, fun i hi => ?_, trivial⟩, by simp [intOf]; omega⟩
            rcases Nat.lt_succ_iff_lt_or_eq.1 hi with h1 | rfl
            · exact HF.out i h1
            · exact HGO.out
          · have b2 : decide (xb < b) = false := decide_eq_false h3
            have HAT := Lib.hid (show AtH M ⟨p, b, y⟩ a from ⟨by rw [hlen]; omega, HF.out, fun _ => by rw [HXX.out]; rintro (h | ⟨-, h⟩); exact h1 h; exact h3 h⟩)
            clear h1 h2 h3
            have HTL := Lib.hid (show (hrsC (M.take a)).length = a * 3 from by rw [hrsC_len, List.length_take, hlen, Nat.min_eq_left (by omega)])
            have HTK := Lib.hid (fun u (hu : Below w4.heap.size w4 u) => (show LsC u (some ⟨g4, 0, none⟩) (hrsC (M.take a)) from by rw [← hrsC_take]; exact (HLS4.out.1.of_below hu).take _))
            have z5 : (0 : Int) ≤ (a : Int) := by omega
            have z6 : (a : Int) ≤ (c4 : Int) := by have := HLS4.out.2.1; omega
            have z7 : (a : Int) ≤ (n : Int) := by omega
            have hac4 : a ≤ c4 := by have := HLS4.out.2.1; omega
            have HLD := Lib.hid (show (hrsC (M.drop a)).length = (n - a) * 3 from by rw [hrsC_len, List.length_drop, hlen])
            have HR := Lib.hid (fun u (hu : Below w4.heap.size w4 u) => (show LsC u (some ⟨c, o + a * 3, none⟩) (hrsC (M.drop a)) from by rw [← hrsC_drop]; exact (HH4.out.2.1.of_below hu).drop15 _))
            have z8 : ¬ cap = a := by have := HH4.out.2.2.2; omega
            go_wp2
            go_region_law (first
              | (refine step_fullK elHr _ rfl (.tmp 87) (.tmp 92) rfl (some ⟨g4, 0, none⟩) a (hrsC (M.take a)) rfl HTL.out (fun e => by cases e) (HTK.out _ (by first | exact (Below.refl _ _).drew.alloc (Below.refl _ _).drew.size _ | exact ((Below.refl _ _).alloc (Nat.le_refl _) _).drew | exact (Below.refl _ _).alloc (Nat.le_refl _) _)) _ 1 1 (hrC ⟨p, b, y⟩) rfl (by decide) rfl (LsC.made _ (hrC ⟨p, b, y⟩) EHr) (hrC_one _) (by omega) ?_
                 rintro v5 w5 hO5 hg5
                 have HO5 := Lib.hid hO5
                 have HB5 := Lib.hid (show Below w4.heap.size w4 w5 from Below.trans (by first | exact (Below.refl _ _).drew.alloc (Below.refl _ _).drew.size _ | exact ((Below.refl _ _).alloc (Nat.le_refl _) _).drew | exact (Below.refl _ _).alloc (Nat.le_refl _) _) ((Below.refl _ _).grown hg5 (by simp) (fun g hg => by cases hg)))
                 obtain ⟨p5, c5, e5, -⟩ := own_shape hO5
                 subst e5
                 clear hO5 hg5)
              | (refine step_appendK elHr _ rfl (.tmp 93) (.tmp 96) rfl w4.heap.size rfl (own_lower HO5.out (by simp)) (some ⟨c, o + a * 3, none⟩) (n - a) (cap - a) (hrsC (M.drop a)) HLD.out rfl (HR.out _ HB5.out) (fun e => by cases e) (hrsC_oneCell _) (by omega) HB5.out.size ?_
                 rintro v6 w6 hO6 hg6 h56
                 have HO6 := Lib.hid hO6
                 have HB6 := Lib.hid (HB5.out.grown hg6 HB5.out.size (fun g hg => Nat.le_trans (by simp) (HO5.out.lt g hg).1))
                 clear hO6 hg6 h56))
            all_goals
              go_wp2
              go_ret2
              refine ⟨HB4.out.trans (HB6.out.mono HB4.out.size), a, _, HAT.out, rfl, ?_⟩
              have h := own_lower HO6.out HB4.out.size
              unfold OwnH
              rw [hrsC_app, show hrsC (⟨p, b, y⟩ :: M.drop a) = hrC ⟨p, b, y⟩ ++ hrsC (M.drop a) from rfl, ← List.append_assoc, List.length_append, List.length_cons, List.length_take, List.length_drop, hlen, Nat.min_eq_left (by omega), show a + (n - a + 1) = a + 1 + (n - a) by omega]
              exact h
        · have b1 : (xp == p) = false := beq_eq_false_iff_ne.2 h2
          have HAT := Lib.hid (show AtH M ⟨p, b, y⟩ a from ⟨by rw [hlen]; omega, HF.out, fun _ => by rw [HXX.out]; rintro (h | ⟨h, -⟩); exact h1 h; exact h2 h⟩)
          clear h1 h2
          have HTL := Lib.hid (show (hrsC (M.take a)).length = a * 3 from by rw [hrsC_len, List.length_take, hlen, Nat.min_eq_left (by omega)])
          have HTK := Lib.hid (fun u (hu : Below w4.heap.size w4 u) => (show LsC u (some ⟨g4, 0, none⟩) (hrsC (M.take a)) from by rw [← hrsC_take]; exact (HLS4.out.1.of_below hu).take _))
          have z5 : (0 : Int) ≤ (a : Int) := by omega
          have z6 : (a : Int) ≤ (c4 : Int) := by have := HLS4.out.2.1; omega
          have z7 : (a : Int) ≤ (n : Int) := by omega
          have hac4 : a ≤ c4 := by have := HLS4.out.2.1; omega
          have HLD := Lib.hid (show (hrsC (M.drop a)).length = (n - a) * 3 from by rw [hrsC_len, List.length_drop, hlen])
          have HR := Lib.hid (fun u (hu : Below w4.heap.size w4 u) => (show LsC u (some ⟨c, o + a * 3, none⟩) (hrsC (M.drop a)) from by rw [← hrsC_drop]; exact (HH4.out.2.1.of_below hu).drop15 _))
          have z8 : ¬ cap = a := by have := HH4.out.2.2.2; omega
          go_wp2
          go_region_law (first
            | (refine step_fullK elHr _ rfl (.tmp 87) (.tmp 92) rfl (some ⟨g4, 0, none⟩) a (hrsC (M.take a)) rfl HTL.out (fun e => by cases e) (HTK.out _ (by first | exact (Below.refl _ _).drew.alloc (Below.refl _ _).drew.size _ | exact ((Below.refl _ _).alloc (Nat.le_refl _) _).drew | exact (Below.refl _ _).alloc (Nat.le_refl _) _)) _ 1 1 (hrC ⟨p, b, y⟩) rfl (by decide) rfl (LsC.made _ (hrC ⟨p, b, y⟩) EHr) (hrC_one _) (by omega) ?_
               rintro v5 w5 hO5 hg5
               have HO5 := Lib.hid hO5
               have HB5 := Lib.hid (show Below w4.heap.size w4 w5 from Below.trans (by first | exact (Below.refl _ _).drew.alloc (Below.refl _ _).drew.size _ | exact ((Below.refl _ _).alloc (Nat.le_refl _) _).drew | exact (Below.refl _ _).alloc (Nat.le_refl _) _) ((Below.refl _ _).grown hg5 (by simp) (fun g hg => by cases hg)))
               obtain ⟨p5, c5, e5, -⟩ := own_shape hO5
               subst e5
               clear hO5 hg5)
            | (refine step_appendK elHr _ rfl (.tmp 93) (.tmp 96) rfl w4.heap.size rfl (own_lower HO5.out (by simp)) (some ⟨c, o + a * 3, none⟩) (n - a) (cap - a) (hrsC (M.drop a)) HLD.out rfl (HR.out _ HB5.out) (fun e => by cases e) (hrsC_oneCell _) (by omega) HB5.out.size ?_
               rintro v6 w6 hO6 hg6 h56
               have HO6 := Lib.hid hO6
               have HB6 := Lib.hid (HB5.out.grown hg6 HB5.out.size (fun g hg => Nat.le_trans (by simp) (HO5.out.lt g hg).1))
               clear hO6 hg6 h56))
          all_goals
            go_wp2
            go_ret2
            refine ⟨HB4.out.trans (HB6.out.mono HB4.out.size), a, _, HAT.out, rfl, ?_⟩
            have h := own_lower HO6.out HB4.out.size
            unfold OwnH
            rw [hrsC_app, show hrsC (⟨p, b, y⟩ :: M.drop a) = hrC ⟨p, b, y⟩ ++ hrsC (M.drop a) from rfl, ← List.append_assoc, List.length_append, List.length_cons, List.length_take, List.length_drop, hlen, Nat.min_eq_left (by omega), show a + (n - a + 1) = a + 1 + (n - a) by omega]
            exact h
    · have u1 : ¬ (a : Int) < (n : Int) := by omega
      have u2 : decide ((a : Int) < (n : Int)) = false := decide_eq_false u1
      have HAT := Lib.hid (show AtH M ⟨p, b, y⟩ a from ⟨by rw [hlen]; omega, HF.out, fun h => absurd h (by rw [hlen]; omega)⟩)
      obtain rfl : a = n := by omega
      have HTL := Lib.hid (show (hrsC (M.take a)).length = a * 3 from by rw [hrsC_len, List.length_take, hlen, Nat.min_eq_left (by omega)])
      have HTK := Lib.hid (fun u (hu : Below w4.heap.size w4 u) => (show LsC u (some ⟨g4, 0, none⟩) (hrsC (M.take a)) from by rw [← hrsC_take]; exact (HLS4.out.1.of_below hu).take _))
      have z5 : (0 : Int) ≤ (a : Int) := by omega
      have z6 : (a : Int) ≤ (c4 : Int) := by have := HLS4.out.2.1; omega
      have z7 : (a : Int) ≤ (a : Int) := by omega
      have hac4 : a ≤ c4 := by have := HLS4.out.2.1; omega
      have HLD := Lib.hid (show (hrsC (M.drop a)).length = 0 * 3 from by rw [List.drop_of_length_le (by omega)]; rfl)
      have HR := Lib.hid (fun u (hu : Below w4.heap.size w4 u) => (show ∀ pp, LsC u pp (hrsC (M.drop a)) from fun pp => by rw [List.drop_of_length_le (by omega)]; exact LsC.nil _ _))
      cases q with
      | none =>
        obtain ⟨hc0, hn0⟩ := HQ.out rfl
        subst hc0
        subst hn0
        go_wp2
        go_region_law (first
          | (refine step_fullK elHr _ rfl (.tmp 87) (.tmp 92) rfl (some ⟨g4, 0, none⟩) 0 (hrsC (M.take 0)) rfl HTL.out (fun e => by cases e) (HTK.out _ (by first | exact (Below.refl _ _).drew.alloc (Below.refl _ _).drew.size _ | exact ((Below.refl _ _).alloc (Nat.le_refl _) _).drew | exact (Below.refl _ _).alloc (Nat.le_refl _) _)) _ 1 1 (hrC ⟨p, b, y⟩) rfl (by decide) rfl (LsC.made _ (hrC ⟨p, b, y⟩) EHr) (hrC_one _) (by omega) ?_
             rintro v5 w5 hO5 hg5
             have HO5 := Lib.hid hO5
             have HB5 := Lib.hid (show Below w4.heap.size w4 w5 from Below.trans (by first | exact (Below.refl _ _).drew.alloc (Below.refl _ _).drew.size _ | exact ((Below.refl _ _).alloc (Nat.le_refl _) _).drew | exact (Below.refl _ _).alloc (Nat.le_refl _) _) ((Below.refl _ _).grown hg5 (by simp) (fun g hg => by cases hg)))
             obtain ⟨p5, c5, e5, -⟩ := own_shape hO5
             subst e5
             clear hO5 hg5)
          | (refine step_appendK elHr _ rfl (.tmp 93) (.tmp 96) rfl w4.heap.size rfl (own_lower HO5.out (by simp)) _ 0 0 (hrsC (M.drop 0)) HLD.out rfl (HR.out _ HB5.out _) (fun _ => ⟨rfl, rfl⟩) (hrsC_oneCell _) (by omega) HB5.out.size ?_
             rintro v6 w6 hO6 hg6 h56
             have HO6 := Lib.hid hO6
             have HB6 := Lib.hid (HB5.out.grown hg6 HB5.out.size (fun g hg => Nat.le_trans (by simp) (HO5.out.lt g hg).1))
             clear hO6 hg6 h56))
        all_goals
          go_wp2
          go_ret2
          refine ⟨HB4.out.trans (HB6.out.mono HB4.out.size), 0, _, HAT.out, rfl, ?_⟩
          have h := own_lower HO6.out HB4.out.size
          unfold OwnH
          rw [hrsC_app, show hrsC (⟨p, b, y⟩ :: M.drop 0) = hrC ⟨p, b, y⟩ ++ hrsC (M.drop 0) from rfl, ← List.append_assoc, List.length_append, List.length_cons, List.length_take, List.length_drop, hlen, Nat.min_eq_left (by omega), show 0 + (0 - 0 + 1) = 0 + 1 + 0 by omega]
          exact h
      | some ad =>
        by_cases hz : cap = a
        · obtain rfl : a = cap := hz.symm
          go_wp2
          go_region_law (first
            | (refine step_fullK elHr _ rfl (.tmp 87) (.tmp 92) rfl (some ⟨g4, 0, none⟩) a (hrsC (M.take a)) rfl HTL.out (fun e => by cases e) (HTK.out _ (by first | exact (Below.refl _ _).drew.alloc (Below.refl _ _).drew.size _ | exact ((Below.refl _ _).alloc (Nat.le_refl _) _).drew | exact (Below.refl _ _).alloc (Nat.le_refl _) _)) _ 1 1 (hrC ⟨p, b, y⟩) rfl (by decide) rfl (LsC.made _ (hrC ⟨p, b, y⟩) EHr) (hrC_one _) (by omega) ?_
               rintro v5 w5 hO5 hg5
               have HO5 := Lib.hid hO5
               have HB5 := Lib.hid (show Below w4.heap.size w4 w5 from Below.trans (by first | exact (Below.refl _ _).drew.alloc (Below.refl _ _).drew.size _ | exact ((Below.refl _ _).alloc (Nat.le_refl _) _).drew | exact (Below.refl _ _).alloc (Nat.le_refl _) _) ((Below.refl _ _).grown hg5 (by simp) (fun g hg => by cases hg)))
               obtain ⟨p5, c5, e5, -⟩ := own_shape hO5
               subst e5
               clear hO5 hg5)
            | (refine step_appendK elHr _ rfl (.tmp 93) (.tmp 96) rfl w4.heap.size rfl (own_lower HO5.out (by simp)) _ 0 0 (hrsC (M.drop a)) HLD.out rfl (HR.out _ HB5.out _) (fun e => by cases e) (hrsC_oneCell _) (by omega) HB5.out.size ?_
               rintro v6 w6 hO6 hg6 h56
               have HO6 := Lib.hid hO6
               have HB6 := Lib.hid (HB5.out.grown hg6 HB5.out.size (fun g hg => Nat.le_trans (by simp) (HO5.out.lt g hg).1))
               clear hO6 hg6 h56))
          all_goals
            go_wp2
            go_ret2
            refine ⟨HB4.out.trans (HB6.out.mono HB4.out.size), a, _, HAT.out, rfl, ?_⟩
            have h := own_lower HO6.out HB4.out.size
            unfold OwnH
            rw [hrsC_app, show hrsC (⟨p, b, y⟩ :: M.drop a) = hrC ⟨p, b, y⟩ ++ hrsC (M.drop a) from rfl, ← List.append_assoc, List.length_append, List.length_cons, List.length_take, List.length_drop, hlen, Nat.min_eq_left (by omega), show a + (a - a + 1) = a + 1 + 0 by omega]
            exact h
        · have hza : a < cap := by have := HH4.out.2.2.2; omega
          go_wp2
          go_region_law (first
            | (refine step_fullK elHr _ rfl (.tmp 87) (.tmp 92) rfl (some ⟨g4, 0, none⟩) a (hrsC (M.take a)) rfl HTL.out (fun e => by cases e) (HTK.out _ (by first | exact (Below.refl _ _).drew.alloc (Below.refl _ _).drew.size _ | exact ((Below.refl _ _).alloc (Nat.le_refl _) _).drew | exact (Below.refl _ _).alloc (Nat.le_refl _) _)) _ 1 1 (hrC ⟨p, b, y⟩) rfl (by decide) rfl (LsC.made _ (hrC ⟨p, b, y⟩) EHr) (hrC_one _) (by omega) ?_
               rintro v5 w5 hO5 hg5
               have HO5 := Lib.hid hO5
               have HB5 := Lib.hid (show Below w4.heap.size w4 w5 from Below.trans (by first | exact (Below.refl _ _).drew.alloc (Below.refl _ _).drew.size _ | exact ((Below.refl _ _).alloc (Nat.le_refl _) _).drew | exact (Below.refl _ _).alloc (Nat.le_refl _) _) ((Below.refl _ _).grown hg5 (by simp) (fun g hg => by cases hg)))
               obtain ⟨p5, c5, e5, -⟩ := own_shape hO5
               subst e5
               clear hO5 hg5)
            | (refine step_appendK elHr _ rfl (.tmp 93) (.tmp 96) rfl w4.heap.size rfl (own_lower HO5.out (by simp)) _ 0 (cap - a) (hrsC (M.drop a)) HLD.out rfl (HR.out _ HB5.out _) (fun e => by cases e) (hrsC_oneCell _) (by omega) HB5.out.size ?_
               rintro v6 w6 hO6 hg6 h56
               have HO6 := Lib.hid hO6
               have HB6 := Lib.hid (HB5.out.grown hg6 HB5.out.size (fun g hg => Nat.le_trans (by simp) (HO5.out.lt g hg).1))
               clear hO6 hg6 h56))
          all_goals
            go_wp2
            go_ret2
            refine ⟨HB4.out.trans (HB6.out.mono HB4.out.size), a, _, HAT.out, rfl, ?_⟩
            have h := own_lower HO6.out HB4.out.size
            unfold OwnH
            rw [hrsC_app, show hrsC (⟨p, b, y⟩ :: M.drop a) = hrC ⟨p, b, y⟩ ++ hrsC (M.drop a) from rfl, ← List.append_assoc, List.length_append, List.length_cons, List.length_take, List.length_drop, hlen, Nat.min_eq_left (by omega), show a + (a - a + 1) = a + 1 + 0 by omega]
            exact h
end Go.Proofs.YtllpcllgliknpaaGreatDoor
/- darnerref15.Hold, all of it. -/
set_option maxRecDepth 100000
namespace Go.Proofs.YtllpcllgliknpaaGreatDoor
open Go Go.RowKit
attribute [-go_sem] Sha.exec_store

/-- A list that is what was handed in, or lies in new memory. -/
def RHn (w : World) (q : Option Addr) (w' : World) (v : Value) (M : List Hr) : Prop := ∃ p n cap, v = .slice p n cap ∧ HLs w' p n cap M ∧ ∀ c o, p = some ⟨c, o, none⟩ → (∃ o', q = some ⟨c, o', none⟩) ∨ (w.heap.size ≤ c ∧ c < w'.heap.size)
theorem OwnH.rhn {w w' : World} {v : Value} {M : List Hr} (h : OwnH w' w.heap.size v M) (q : Option Addr) : RHn w q w' v M := by
  obtain ⟨p, cap, e, h1, h2⟩ := h.shape
  exact ⟨p, _, cap, e, h1, fun c o e => .inr (h2 c o e)⟩
theorem HLs.rhn {w w' : World} {q : Option Addr} {n cap : Nat} {M : List Hr} (h : HLs w q n cap M) (hB : Below w.heap.size w w') : RHn w q w' (.slice q n cap) M :=
  ⟨q, n, cap, rfl, h.of_below hB, fun c o e => .inl ⟨o, e⟩⟩
theorem refHold15_any {w : World} {q : Option Addr} {n cap : Nat} {M : List Hr} (p : S8) (b y : Int) (h : HLs w q n cap M) (hn : n ≤ 1000) (hp : p.length < 100000) :
    Calls Tryz.prog 10 #[.slice q n cap, .string (mkS p), .int .i64 b, .int .i64 y] w fun e w' => Below w.heap.size w w' ∧ ∃ v M' c, e = .returned (.tuple #[v, .int .i64 c]) ∧ HoldR M p b y c M' ∧ RHn w q w' v M' := by
  have hlen := h.1
  by_cases hb : badH p b y = 0
  · by_cases hx : ∃ x ∈ M, x.path = p ∧ x.blk = b
    · refine (refHold15_set p b y h (by omega) hp hb hx).mono ?_
      rintro e w' ⟨hB, i, v, hi, h1, h2, he, hO⟩
      exact ⟨hB, v, _, 0, he, .inr ⟨hb, .inl ⟨i, hi, h1, h2, rfl, rfl⟩⟩, hO.rhn q⟩
    · have hx' : ∀ x ∈ M, ¬ (x.path = p ∧ x.blk = b) := fun x hm he => hx ⟨x, hm, he⟩
      by_cases hm : 1000 ≤ n
      · refine (refHold15_many p b y h (by omega) hp hb hx' hm).mono ?_
        rintro e w' ⟨hB, he⟩
        exact ⟨hB, _, _, 14, he, .inr ⟨hb, .inr ⟨hx', .inl ⟨by omega, rfl, rfl⟩⟩⟩, h.rhn hB⟩
      · refine (refHold15_new p b y h (by omega) hp hb hx').mono ?_
        rintro e w' ⟨hB, a, v, ha, he, hO⟩
        exact ⟨hB, v, _, 0, he, .inr ⟨hb, .inr ⟨hx', .inr ⟨by omega, rfl, a, ha, rfl⟩⟩⟩, hO.rhn q⟩
  · refine (refHold15_bad _ p b y hp hb).mono ?_
    rintro e w' ⟨he, hB⟩
    exact ⟨hB, _, _, _, he, .inl ⟨hb, rfl, rfl⟩, h.rhn hB⟩
end Go.Proofs.YtllpcllgliknpaaGreatDoor
/- darnerref15.Move. -/
set_option maxRecDepth 100000
namespace Go.Proofs.YtllpcllgliknpaaGreatDoor
open Go Go.RowKit
attribute [-go_sem] Sha.exec_store

theorem MvR.zero {M : List Hr} (hM : SortH M) (p q : S8) : MvR q (offH (offH M p) q) (onH M p) 0 (offH (offH M p) q) :=
  ⟨List.Pairwise.filter _ (List.Pairwise.filter _ hM), rfl, fun x => by simp⟩
set_option maxHeartbeats 4000000 in
theorem refMove15_any {w : World} {q : Option Addr} {n cap : Nat} {M : List Hr} (p t : S8) (h : HLs w q n cap M) (hn : n ≤ 1000) (ht : t.length < 100000) (hs : SortH M) (hbd : ∀ x ∈ M, kindL x.path = 3 ∧ 0 ≤ x.blk ∧ x.blk ≤ 63 ∧ 1 ≤ x.why ∧ x.why ≤ 3) :
    Calls Tryz.prog 15 #[.slice q n cap, .string (mkS p), .string (mkS t)] w fun e w' => Below w.heap.size w w' ∧ ∃ v M' c, e = .returned (.tuple #[v, .int .i64 c]) ∧ MoveR M p t c M' ∧ RHn w q w' v M' := by
  have HD1 := Lib.hid (refDrop15_any p h (by omega))
  have HH := Lib.hid h
  have HLN := Lib.hid h.1
  have HMV := Lib.hid (And.intro hs hbd)
  have HNN := Lib.hid hn
  have HON := Lib.hid (onoff_len M p)
  clear h hs hbd hn
  go_enter Tryz.func15, Tryz.ntmps15
  go_wp2_with fail
  refine HD1.out.mono ?_
  rintro e w1 ⟨v, u, rfl, hO1, hO2, -, hB⟩
  obtain ⟨p1, c1, rfl, hl1, hb1⟩ := hO1.shape
  obtain ⟨p2, c2, rfl, hl2, -⟩ := hO2.shape
  obtain ⟨n1, hn1⟩ : ∃ x, (offH M p).length = x := ⟨_, rfl⟩
  obtain ⟨m, hm⟩ : ∃ x, (onH M p).length = x := ⟨_, rfl⟩
  rw [hn1] at hl1 ⊢
  rw [hm] at hl2 ⊢
  have HB := Lib.hid hB
  have HNM := Lib.hid (And.intro hn1 hm)
  have HL1 := Lib.hid hl1
  have HL2 := Lib.hid hl2
  have HKD := Lib.hid (refKind_any t ht w1)
  clear hO1 hO2 hl1 hl2 hb1 hB HD1 hn1 hm
  by_cases hm0 : m = 0
  · have hz : onH M p = [] := List.eq_nil_of_length_eq_zero (by rw [HNM.out.2]; exact hm0)
    subst hm0
    have HZ := Lib.hid hz
    clear hz
    go_wp2
    go_ret2
    exact ⟨HB.out, _, _, 8, rfl, .inl ⟨HZ.out, rfl, rfl⟩, HH.out.rhn HB.out⟩
  · have hm1 : ((m : Int) == 0) = false := by simp; omega
    have HZ := Lib.hid (show onH M p ≠ [] from fun e => hm0 (by rw [← HNM.out.2, e]; rfl))
    clear hm0
    by_cases hk : kindL t = 3
    · rw [hk] at HKD
      have HD2 := Lib.hid (fun u (hu : Below w1.heap.size w1 u) => refDrop15_any t (HL1.out.of_below hu) (show n1 < 1000000 by have := HON.out; have := HNM.out; have := HLN.out; have := HNN.out; omega))
      have HK := Lib.hid hk
      have HTT := Lib.hid ht
      clear hk ht
      go_wp2_with fail
      refine HKD.out.mono ?_
      rintro e w2 ⟨rfl, hB2⟩
      have HB2 := Lib.hid hB2
      clear hB2 HKD
      go_wp2_with fail
      refine (HD2.out w2 HB2.out).mono ?_
      rintro e w3 ⟨v, u, rfl, hO3, hO4, -, hB3⟩
      have HO3 := Lib.hid (hO3.rhn (w := w2) q)
      have HB3 := Lib.hid (show Below w.heap.size w w3 from HB.out.trans ((HB2.out.trans (hB3.mono HB2.out.size)).mono HB.out.size))
      have HL3 := Lib.hid (HL2.out.of_below (HB2.out.trans (hB3.mono HB2.out.size)))
      have HQ3 := Lib.hid (show RHn w q w3 v (offH (offH M p) t) from by
        obtain ⟨p, n, cap, e, h1, h2⟩ := HO3.out
        refine ⟨p, n, cap, e, h1, fun c o e => ?_⟩
        rcases h2 c o e with h | h
        · exact .inl h
        · exact .inr ⟨Nat.le_trans (HB.out.trans (HB2.out.mono HB.out.size)).size h.1, h.2⟩)
      clear hO3 hO4 hB3 HD2 HO3
      go_wp2
      go_loopw [8, 33] (fun v8 v33 wr => ∃ k : Nat, k ≤ m ∧ v33 = .int .i64 (k : Int) ∧ (∃ R, RHn w q wr v8 R ∧ MvR t (offH (offH M p) t) (onH M p) k R) ∧ Below w3.heap.size w3 wr) (fun _ v33 _ => m - (intOf v33).toNat)
      case atStart => exact ⟨0, Nat.zero_le _, rfl, ⟨_, HQ3.out, MvR.zero HMV.out.1 p t⟩, Below.refl _ _⟩
      case round =>
        clear HQ3
        obtain ⟨k, hkm, rfl, ⟨R, ⟨p8, n8, c8, rfl, hl8, hq8⟩, hmv⟩, hBr⟩ := hrel
        have HR := Lib.hid (And.intro hl8 (And.intro hq8 hmv))
        have HBR := Lib.hid hBr
        by_cases hlt : k < m
        · have y1 : (k : Int) < (m : Int) := by omega
          have y2 : decide ((k : Int) < (m : Int)) = true := decide_eq_true y1
          have y3 : (0 : Int) ≤ (k : Int) := by omega
          have hw6 : IntKind.i64.wrap ((k : Int) + 1) = (k : Int) + 1 := by rw [IntKind.wrap_i64]; have := HON.out; have := HNM.out; have := HLN.out; have := HNN.out; omega
          obtain ⟨c, o, rfl, hc⟩ := (HL3.out.of_below hBr).cells k hlt
          have x1 := hc 1 (by decide)
          have x2 := hc 2 (by decide)
          obtain ⟨x, hx⟩ : ∃ x, (onH M p).getD k hr0 = x := ⟨_, rfl⟩
          rw [hx] at x1 x2
          change _ = some (Value.int .i64 x.blk) at x1
          change _ = some (Value.int .i64 x.why) at x2
          have HX := Lib.hid hx
          have HKL := Lib.hid (And.intro hlt hkm)
          have HC := Lib.hid (fun u (hu : Below wr.heap.size wr u) => refHold15_any t x.blk x.why (hl8.of_below hu) (show n8 ≤ 1000 by have := hl8.1; have := hmv.2.1; have := List.length_filter_le (fun x : Hr => x.path != t) (offH M p); have := HON.out; have := HNM.out; have := HLN.out; have := HNN.out; unfold offH at *; omega) HTT.out)
          clear hl8 hq8 hmv hBr hc hx hlt hkm
          go_wp2
          go_region_law (first
            | (go_simp; go_at_call 10
               refine (HC.out _ (by first | exact (Below.refl _ _).drew | exact Below.refl _ _)).mono ?_
               rintro e w5 ⟨hB5, v5, M5, c5, rfl, hr5, h5⟩
               have HB5 := Lib.hid (show Below wr.heap.size wr w5 from Below.trans (by first | exact (Below.refl _ _).drew | exact Below.refl _ _) hB5)
               have H5 := Lib.hid (And.intro hr5 h5)
               clear hB5 hr5 h5))
          all_goals
            go_wp2
            have hmv5 := MvR.step HMV.out.1 HMV.out.2 (by rw [HLN.out]; exact HNN.out) HK.out (by rw [HNM.out.2]; exact HKL.out.1) HR.out.2.2 (by rw [HX.out]; exact H5.out.1)
            refine ⟨⟨k + 1, by have := HKL.out.1; omega, by go_num, ⟨_, ?_, hmv5⟩, HBR.out.trans (HB5.out.mono HBR.out.size)⟩, by simp [intOf]; have := HKL.out.1; omega⟩
            obtain ⟨p6, n6, c6, e6, h6, hq6⟩ := H5.out.2
            refine ⟨p6, n6, c6, e6, h6, fun c o e => ?_⟩
            rcases hq6 c o e with ⟨o', e'⟩ | h
            · rcases HR.out.2.1 c o' e' with h | h
              · exact .inl h
              · exact .inr ⟨h.1, Nat.lt_of_lt_of_le h.2 HB5.out.size⟩
            · exact .inr ⟨Nat.le_trans (HB3.out.trans (HBR.out.mono HB3.out.size)).size h.1, h.2⟩
        · have y1 : ¬ (k : Int) < (m : Int) := by omega
          have y2 : decide ((k : Int) < (m : Int)) = false := decide_eq_false y1
          obtain rfl : k = m := by omega
          clear hl8 hq8 hmv hBr
          go_wp2
          go_ret2
          refine ⟨HB3.out.trans (HBR.out.mono HB3.out.size), _, R, 0, rfl, .inr ⟨HZ.out, .inr ⟨HK.out, rfl, by rw [HNM.out.2]; exact HR.out.2.2⟩⟩, _, _, _, rfl, HR.out.1, HR.out.2.1⟩
    · obtain ⟨kk, hkk⟩ : ∃ kk : Nat, kindL t = kk := ⟨_, rfl⟩
      rw [hkk] at HKD
      have HK := Lib.hid hk
      rw [hkk] at hk
      have z0 : ((kk : Int) = 3) = False := by simp; omega
      have z1 : ((kk : Int) == 3) = false := by simp; omega
      have z2 : decide ((kk : Int) = 3) = false := by simp; omega
      clear hkk hk
      go_wp2_with fail
      refine HKD.out.mono ?_
      rintro e w2 ⟨rfl, hB2⟩
      have HB2 := Lib.hid (HB.out.trans (hB2.mono HB.out.size))
      clear hB2 HKD
      go_wp2
      go_ret2
      exact ⟨HB2.out, _, _, 7, rfl, .inr ⟨HZ.out, .inl ⟨HK.out, rfl, rfl⟩⟩, HH.out.rhn HB2.out⟩
end Go.Proofs.YtllpcllgliknpaaGreatDoor
/- darnerref15.Bytes. -/
set_option maxRecDepth 100000
namespace Go.Proofs.YtllpcllgliknpaaGreatDoor
open Go Go.RowKit

attribute [-go_sem] Sha.exec_store
theorem FrW.of_below {W u u' : World} {lo hi : Nat} (h : FrW W u lo hi) (hB : Below u.heap.size u u') : FrW W u' lo hi :=
  ⟨Nat.le_trans h.1 hB.size, fun g h1 h2 => (hB.block g (Nat.lt_of_lt_of_le h2 h.1)).trans (h.2 g h1 h2)⟩
theorem FrW.grown {W u u' : World} {lo hi : Nat} {o : Option Nat} (h : FrW W u lo hi) (hg : u.grownBy u' o) (ho : ∀ k, o = some k → k < lo ∨ hi ≤ k) : FrW W u' lo hi :=
  ⟨Nat.le_trans h.1 hg.size, fun g h1 h2 => (hg.block g (Nat.lt_of_lt_of_le h2 h.1) (fun e => by have := ho g e.symm; omega)).trans (h.2 g h1 h2)⟩
theorem ownq15 {v v' : Value} {lo hi s : Nat} (h : v'.ownBlock = v.ownBlock ∨ v'.ownBlock = some s) (hq : ∀ k, v.ownBlock = some k → k < lo ∨ hi ≤ k) (hs : hi ≤ s) : ∀ k, v'.ownBlock = some k → k < lo ∨ hi ≤ k := fun k hk => by
  rcases h with h | h
  · rw [h] at hk; exact hq k hk
  · rw [h] at hk; injection hk with hk; exact .inr (hk ▸ hs)
theorem sl_arrW (E o : Nat) (w : World) : (slT 72 (.pointer (some ⟨E, o, none⟩)) none none none).run Tryz.prog w = .ok (.value (.slice (some ⟨E, o, none⟩) 32 32)) w := by
  first
  | kernel_rfl
  | (unfold slT; simp [go_sem, Instr.sliceAt])
theorem exec_store32W (r : Operand → Value) (dst : Option Tmp) (p v : Operand) (ty : TypeId) (pos : String) (after : Array Edge) (guard : Option (Nat × Bool)) :
    execOp r ⟨dst, .store 72 p v, ty, pos, after, guard⟩ = stT 72 (r p) (r v) := rfl
attribute [local go_sem ↓] exec_load32 exec_alloc32 exec_store32W exec_slice
attribute [local go_sem] st_dig sl_arrW
set_option maxRecDepth 100000 in
set_option maxHeartbeats 16000000 in
theorem refBytes15_any {w : World} {q : Option Addr} {n cap : Nat} {M : List Hr} {s : Ws} (h : HLs w q n cap M) (hR : RelH s M) (hM : n ≤ 1000) (hp : ∀ p ∈ pathsW s, p.length ≤ 1000) (hT : Tb w) :
    Calls Tryz.prog 21 #[.slice q n cap] w (GivesB w (encW s)) := by
  have hlen := h.1
  have HH := Lib.hid (fun u (hu : Below w.heap.size w u) => h.of_below hu)
  have HR := Lib.hid hR
  have HP := Lib.hid hp
  have HT0 := Lib.hid (fun u (hu : Below w.heap.size w u) => hT.on hu)
  have HPL := Lib.hid (show (pathsW s).length = s.length ∧ s.length ≤ n from ⟨pathsW_len s, by have h1 := ws_len hR.ne; have h2 := hR.len; omega⟩)
  obtain ⟨P, hP⟩ : ∃ P, (pathsW s).length = P := ⟨_, rfl⟩
  have HPP := Lib.hid (show (pathsW s).length = P ∧ P ≤ n ∧ n ≤ 1000 ∧ M.length = n from ⟨hP, by rw [← hP]; have := HPL.out; omega, hM, hlen⟩)
  have HTL := Lib.hid (fun j (hj : j ≤ P) => (show (pthsB s ((pathsW s).take j)).length ≤ 1036000 from by
    have h1 := pthsB_len hR (by rw [hlen]; exact hM) hp ((pathsW s).take j) (fun q hq => List.mem_of_mem_take hq)
    have h2 : ((pathsW s).take j).length ≤ P := by rw [List.length_take]; omega
    have h3 : offP s ((pathsW s).take j) ≤ M.length := by
      rw [← hR.fin, List.take_length]
      conv => rhs; rw [← List.take_append_drop j (pathsW s)]
      unfold offP
      rw [List.map_append, List.sum_append]
      omega
    have h4 := HPP.out
    omega))
  clear h hR hp hT hM hP hlen
  go_enter Tryz.func21, Tryz.ntmps21
  go_wp2
  go_loopw [3, 4, 5] (fun v3 v4 v5 wr => ∃ j : Nat, j ≤ P ∧ v4 = .int .i64 (j : Int) ∧ v5 = .int .i64 (offP s ((pathsW s).take j) : Int) ∧ OwnB wr w.heap.size v3 (pthsB s ((pathsW s).take j)) ∧ Below w.heap.size w wr) (fun _ v4 _ _ => P - (intOf v4).toNat)
  case atStart => exact ⟨0, Nat.zero_le _, rfl, rfl, OwnB.nil w _, Below.refl _ _⟩
  case round =>
    rename World => wa
    obtain ⟨j, hj, rfl, rfl, hO, hB⟩ := hrel
    have HO := Lib.hid hO
    have HB := Lib.hid hB
    have HJL := Lib.hid (HTL.out j hj)
    obtain ⟨i, hi⟩ : ∃ i, offP s ((pathsW s).take j) = i := ⟨_, rfl⟩
    rw [hi]
    by_cases hlt : j < P
    · have hjl : j < (pathsW s).length := by rw [HPP.out.1]; exact hlt
      obtain ⟨hst, hpt⟩ := HR.out.start j hjl
      rw [hi] at hst hpt
      have hit := pthsB_take s (pathsW s) j hjl
      have hof := offP_take s (pathsW s) j hjl
      rw [hi] at hof
      obtain ⟨p, hpj⟩ : ∃ p, (pathsW s)[j] = p := ⟨_, rfl⟩
      rw [hpj] at hit hof hpt
      have hpm : p ∈ pathsW s := by rw [← hpj]; exact List.getElem_mem hjl
      have hpl := HP.out p hpm
      have hin : i < n := by have := HPP.out; omega
      obtain ⟨c, o, rfl, hc⟩ := (HH.out wa hB).cells i hin
      have x0 := hc 0 (by decide)
      change _ = some (Value.string (mkS (M.getD i hr0).path)) at x0
      rw [hpt, Nat.add_zero] at x0
      have y1 : (i : Int) < (n : Int) := by omega
      have y2 : decide ((i : Int) < (n : Int)) = true := decide_eq_true y1
      have y3 : (0 : Int) ≤ (i : Int) := by omega
      have hw1 : IntKind.i64.wrap ((j : Int) + 1) = (j : Int) + 1 := by rw [IntKind.wrap_i64]; have := HPP.out; omega
      obtain ⟨m, hm⟩ : ∃ m, (ofW s p).length = m := ⟨_, rfl⟩
      rw [hm] at hof
      have hm0 : m ≠ 0 := by rw [← hm]; exact ofW_pos HR.out hpm
      have hmn : m ≤ n := by rw [← hm]; have := ofW_len HR.out p; have := HPP.out; omega
      have hw2 : IntKind.i64.wrap ((i : Int) + (m : Int)) = (i : Int) + (m : Int) := by rw [IntKind.wrap_i64]; have := HPP.out; omega
      have HD := Lib.hid (refDrop15_any (w := wa) p (HH.out wa hB) (by have := HPP.out; omega))
      have hgr := HR.out.grp p
      obtain ⟨G, hG⟩ : ∃ G, grpH p (ofW s p) = G := ⟨_, rfl⟩
      rw [hG] at hit hgr
      have hGl : G.length = m := by rw [← hG, grpH_len, hm]
      have HGB := Lib.hid (show ∀ x ∈ G, 0 ≤ x.blk ∧ x.blk ≤ 63 ∧ 1 ≤ x.why ∧ x.why ≤ 3 from fun x hx => by rw [← hG] at hx; exact (grpH_bd HR.out p x hx).2)
      have HG0 := Lib.hid (show (G.getD 0 hr0).path = p from by
        have h1 := getD_mem15 (M := G) (i := 0) (by omega)
        rw [← hG] at h1
        rw [← hG]
        exact (grpH_mem.1 h1).1)
      have HMN := Lib.hid (And.intro hm0 (And.intro hmn hGl))
      have HOF := Lib.hid hof
      have HIT := Lib.hid hit
      have HPB := Lib.hid hpl
      have HJ := Lib.hid hlt
      have HGR := Lib.hid hgr
      clear hO hB hi hjl hst hpt hit hof hpj hpm hpl hin hc hm hm0 hmn hgr hG hGl hlt hj
      go_wp2_with fail
      refine HD.out.mono ?_
      rintro e w6 ⟨vr, vo, rfl, -, hO2, -, hB6⟩
      rw [HGR.out] at hO2
      obtain ⟨p7, c7', rfl, hl7, hb7⟩ := hO2.shape
      rw [HMN.out.2.2] at hl7 ⊢
      obtain ⟨c7, o7, rfl, -⟩ := hl7.cells 0 (by have := HMN.out; omega)
      have x7 : w6.cell? ⟨c7, o7, none⟩ = some (.string (mkS p)) := by
        obtain ⟨c', o', e, h⟩ := hl7.cells 0 (by have := HMN.out; omega)
        injection e with e
        injection e with e1 e2
        subst e1 e2
        have := h 0 (by decide)
        rw [show o7 + 0 * 3 + 0 = o7 by omega] at this
        rw [this, ← HG0.out]
        rfl
      obtain ⟨lo, hlo⟩ : ∃ x, wa.heap.size = x := ⟨_, rfl⟩
      obtain ⟨hi, hhi⟩ : ∃ x, w6.heap.size = x := ⟨_, rfl⟩
      have HL7 := Lib.hid hl7
      have HBL := Lib.hid (show lo ≤ c7 ∧ c7 < hi from by rw [← hlo, ← hhi]; exact hb7 c7 o7 rfl)
      have HX6 := Lib.hid (show Below w.heap.size w w6 ∧ FrW w6 w6 lo hi from ⟨HB.out.trans (hB6.mono HB.out.size), by rw [← hhi]; exact ⟨Nat.le_refl _, fun _ _ _ => rfl⟩⟩)
      have HO6 := Lib.hid (HO.out.of_below hB6)
      have HQ6 := Lib.hid (fun k (hk : Value.ownBlock _ = some k) => (show k < lo ∨ hi ≤ k from .inl (by rw [← hlo]; exact (HO.out.lt k hk).2)))
      obtain ⟨cc, W2, hcv, hFr, hB2⟩ := conv_bytes w6 (pB p)
      rw [strOf_pB] at hcv
      have HRB := Lib.hid (refBytes_any (pB p) (some ⟨w6.heap.size, 0, none⟩) (pB p).length cc W2 rfl hFr.sl (fun e => by cases e) (by rw [pB_len]; have := HPB.out; omega))
      obtain ⟨LB, hLB⟩ : ∃ L, enc7 (pB p).length ++ pB p = L := ⟨_, rfl⟩
      rw [hLB] at HRB
      have HLB := Lib.hid hLB
      have HX2 := Lib.hid hB2
      clear hLB HD hO2 hl7 hb7 hB6 hFr hB2 x0 hlo hhi
      have HLEN := Lib.hid (show (pthsB s ((pathsW s).take j)).length ≤ 1036000 ∧ (pB p).length ≤ 1000 ∧ (enc7 (pB p).length).length ≤ 9 ∧ (enc7 m).length ≤ 9 from ⟨HJL.out, by rw [pB_len]; exact HPB.out, by rw [pB_len]; exact enc7_9W (by have := HPB.out; omega), enc7_9W (by have := HMN.out; have := HPP.out; omega)⟩)
      have HNm := Lib.hid (fun u => refNum m (by have := HMN.out; have := HPP.out; omega) u)
      have hm0 : (0 : Int) < (m : Int) := by have := HMN.out.1; omega
      have hm1 : 0 < m := by have := HMN.out.1; omega
      obtain ⟨L0, hL0⟩ : ∃ L, pthsB s ((pathsW s).take j) = L := ⟨_, rfl⟩
      rw [hL0] at HO6 HLEN
      have HL0 := Lib.hid hL0
      obtain ⟨pw, cw, rfl, -⟩ := HO6.out.shape
      clear hL0
      go_wp2_with fail
      refine HRB.out.mono ?_
      rintro e w8 ⟨v8, rfl, hO8, hB8⟩
      obtain ⟨p8, c8, rfl, hs8, hp8, -⟩ := hO8.shape
      have hB28 := HX2.out.trans (hB8.mono HX2.out.size)
      have HX8 := Lib.hid (show Below w.heap.size w w8 ∧ FrW w6 w8 lo hi from ⟨HX6.out.1.trans (hB28.mono HX6.out.1.size), HX6.out.2.of_below hB28⟩)
      have HO8 := Lib.hid (HO6.out.of_below hB28)
      have HS8 := Lib.hid (And.intro hs8 hp8)
      clear hO8 hB8 hs8 hp8 hB28 hcv x7 HRB
      go_wp2_with (first
        | (refine wpl_appendL w8 rfl (.tmp 30) (.tmp 36) rfl w.heap.size _ L0 rfl HO8.out p8 _ c8 LB rfl rfl HS8.out.1 HS8.out.2 (by have := HLEN.out; (try rw [← HLB.out]); (try simp only [List.length_append]); omega) HX8.out.1.size ?_
           rintro v9 w9 hO9 hg9 h59
           have HQ9 := Lib.hid (ownq15 h59 HQ6.out HX8.out.2.1)
           have HX9 := Lib.hid (show Below w.heap.size w w9 ∧ FrW w6 w9 lo hi from ⟨HX8.out.1.grown hg9 HX8.out.1.size (fun k hk => (HO8.out.lt k hk).1), HX8.out.2.grown hg9 HQ6.out⟩)
           obtain ⟨L9, hL9, hO9⟩ : ∃ L, L0 ++ LB = L ∧ OwnB w9 w.heap.size v9 L := ⟨_, rfl, hO9⟩
           have HL9 := Lib.hid hL9
           have HO9 := Lib.hid hO9
           obtain ⟨p9, c9, rfl, -⟩ := hO9.shape
           clear hO9 hg9 h59 hL9))
      refine (HNm.out _).mono ?_
      rintro e w10 ⟨v10, rfl, hO10, hB10⟩
      obtain ⟨p10, c10, rfl, hs10, hp10, -⟩ := hO10.shape
      have HX10 := Lib.hid (show Below w.heap.size w w10 ∧ FrW w6 w10 lo hi from ⟨HX9.out.1.trans (hB10.mono HX9.out.1.size), HX9.out.2.of_below hB10⟩)
      have HO10 := Lib.hid (HO9.out.of_below hB10)
      have HS10 := Lib.hid (And.intro hs10 hp10)
      clear hO10 hB10 hs10 hp10 HX8 HO8 HS8
      go_wp2_with (first
        | (refine wpl_appendL w10 rfl (.tmp 37) (.tmp 40) rfl w.heap.size _ L9 rfl HO10.out p10 _ c10 (enc7 m) rfl rfl HS10.out.1 HS10.out.2 (by have := HLEN.out; rw [← HL9.out, ← HLB.out]; (try simp only [List.length_append]); omega) HX10.out.1.size ?_
           rintro v11 w11 hO11 hg11 h511
           have HQ11 := Lib.hid (ownq15 h511 HQ9.out HX10.out.2.1)
           have HX11 := Lib.hid (show Below w.heap.size w w11 ∧ FrW w6 w11 lo hi from ⟨HX10.out.1.grown hg11 HX10.out.1.size (fun k hk => (HO10.out.lt k hk).1), HX10.out.2.grown hg11 HQ9.out⟩)
           obtain ⟨L1, hL1, hO11⟩ : ∃ L, L9 ++ enc7 m = L ∧ OwnB w11 w.heap.size v11 L := ⟨_, rfl, hO11⟩
           rw [← HL9.out] at hL1
           have HL1e := Lib.hid hL1
           have HO11 := Lib.hid hO11
           obtain ⟨p11, c11, rfl, -⟩ := hO11.shape
           clear hO11 hg11 h511 hL1))
      have hL1 := HL1e.out
      have HL1 := Lib.hid (show L1.length ≤ 1037018 from by rw [← hL1, ← HLB.out]; have := HLEN.out; simp only [List.length_append] at *; omega)
      have HPTH := Lib.hid (show pthsB s ((pathsW s).take (j + 1)) = L1 ++ itsH G from by
        rw [HIT.out, HL0.out, ← hL1, ← HLB.out]
        unfold pthB grpB
        rw [HMN.out.2.2]
        simp only [List.append_assoc])
      clear hL1 HX10 HO10 HS10 HX9 HO9
      go_loopw [3, 44] (fun v3 v44 wr => ∃ t : Nat, t ≤ m ∧ v44 = .int .i64 (t : Int) ∧ OwnB wr w.heap.size v3 (L1 ++ itsH (G.take t)) ∧ (∀ k, v3.ownBlock = some k → k < lo ∨ hi ≤ k) ∧ Below w.heap.size w wr ∧ FrW w6 wr lo hi) (fun _ v44 _ => m - (intOf v44).toNat)
      case atStart => exact ⟨0, Nat.zero_le _, rfl, by simpa [itsH] using HO11.out, HQ11.out, HX11.out.1, HX11.out.2⟩
      case round =>
        clear HO11 HQ11 HX11
        obtain ⟨t, ht, rfl, hO, hQ, hXa, hXb⟩ := hrel
        have HOr := Lib.hid hO
        have HQ := Lib.hid hQ
        have HXr := Lib.hid (And.intro hXa hXb)
        have HTL2 := Lib.hid (show (itsH (G.take t)).length ≤ 18000 from by
          have h1 := itsH_len (M := G.take t) (fun y hy => HGB.out y (List.mem_of_mem_take hy))
          have h2 : (G.take t).length ≤ t := by rw [List.length_take]; omega
          have h3 := HMN.out
          have h4 := HPP.out
          omega)
        clear hO hQ hXa hXb
        by_cases hlt : t < m
        · have y1 : (t : Int) < (m : Int) := by omega
          have y2 : decide ((t : Int) < (m : Int)) = true := decide_eq_true y1
          have y3 : (0 : Int) ≤ (t : Int) := by omega
          have hw6 : IntKind.i64.wrap ((t : Int) + 1) = (t : Int) + 1 := by rw [IntKind.wrap_i64]; have := HMN.out; have := HPP.out; omega
          obtain ⟨x0, hx⟩ : ∃ x, G.getD t hr0 = x := ⟨_, rfl⟩
          have hxm : x0 ∈ G := by rw [← hx]; exact getD_mem15 (by rw [HMN.out.2.2]; exact hlt)
          have hxb := HGB.out x0 hxm
          obtain ⟨kb, hkb⟩ : ∃ k : Nat, x0.blk = (k : Int) := ⟨x0.blk.toNat, by omega⟩
          obtain ⟨kr, hkr⟩ : ∃ k : Nat, x0.why = (k : Int) := ⟨x0.why.toNat, by omega⟩
          have hit := itsH_take G t (by rw [HMN.out.2.2]; exact hlt)
          rw [hx] at hit
          have hitx : itH x0 = enc7 kb ++ enc7 kr := by unfold itH; rw [hkb, hkr]; rfl
          have HS := Lib.hid (fun (u : World) (hu : Below w.heap.size w u ∧ FrW w6 u lo hi) => (show u.cell? ⟨c7, o7 + t * 3 + 1, none⟩ = some (.int .i64 (kb : Int)) ∧ u.cell? ⟨c7, o7 + t * 3 + 2, none⟩ = some (.int .i64 (kr : Int)) from by
            obtain ⟨c', o', e, h⟩ := HL7.out.cells t hlt
            injection e with e
            injection e with e1 e2
            subst e1 e2
            have h1 := h 1 (by decide)
            have h2 := h 2 (by decide)
            rw [hx] at h1 h2
            change _ = some (Value.int .i64 x0.blk) at h1
            change _ = some (Value.int .i64 x0.why) at h2
            rw [hkb] at h1
            rw [hkr] at h2
            have hb := hu.2.2 c7 HBL.out.1 HBL.out.2
            exact ⟨(World.cell?_of_block (w := w6) hb).trans h1, (World.cell?_of_block (w := w6) hb).trans h2⟩))
          have HNkb := Lib.hid (fun u => refNum kb (by omega) u)
          have HNkr := Lib.hid (fun u => refNum kr (by omega) u)
          have HIT2 := Lib.hid (show L1 ++ itsH (G.take (t + 1)) = (L1 ++ itsH (G.take t)) ++ (enc7 kb ++ enc7 kr) from by rw [hit, hitx, List.append_assoc])
          obtain ⟨L3, hL3⟩ : ∃ L, L1 ++ itsH (G.take t) = L := ⟨_, rfl⟩
          rw [hL3] at HOr HIT2
          have HIT := Lib.hid HIT2.out
          have HLEN := Lib.hid (show L3.length ≤ 1055018 ∧ (enc7 kb).length ≤ 9 ∧ (enc7 kr).length ≤ 9 from ⟨by rw [← hL3, List.length_append]; have := HL1.out; have := HTL2.out; omega, enc7_9W (by omega), enc7_9W (by omega)⟩)
          have HT := Lib.hid (show t + 1 ≤ m by omega)
          have HX0 := Lib.hid (show Below w.heap.size w wr.drew ∧ FrW w6 wr.drew lo hi from ⟨HXr.out.1.drew, HXr.out.2.of_below (Below.refl _ _).drew⟩)
          have HO0 := Lib.hid (HOr.out.of_below (Below.refl _ wr).drew)
          clear hx hxm hxb hkb hkr hit hitx hL3 hlt ht HOr HXr HTL2 HIT2
          go_wp2
          refine wp_region_noPanic ?_
          refine wp_region_held_drew (S := (fun u : World => u.cell? ⟨c7, o7 + t * 3 + 1, none⟩ = some (.int .i64 (kb : Int)) ∧ u.cell? ⟨c7, o7 + t * 3 + 2, none⟩ = some (.int .i64 (kr : Int)))) (by kernel_rfl) (HS.out _ HX0.out) (fun hHeld => ?_)
          have HX := Lib.hid HX0.out
          have HO := Lib.hid HO0.out
          generalize wr.drew = x at hHeld HX HO ⊢
          refine wpAnyH_take (i := 0) (v := ?_) (by simp only [List.getElem?_toArray, List.getElem?_cons_succ, List.getElem?_cons_zero]; exact rfl) (by kernel_rfl) (by kernel_rfl) (by kernel_rfl) (fun _ _ _ h => h) (Or.inl ⟨by rfl, ?_⟩) (by assumption) ?_
          rotate_left 1
          · (intro w hSw; (try dsimp only at hSw); go_simp; try with_reducible rfl)
          try simp only [Act.put, List.setIfInBounds_toArray, List.set_cons_zero, List.set_cons_succ]
          refine wpAnyH_take (i := 1) (v := ?_) (by simp only [List.getElem?_toArray, List.getElem?_cons_succ, List.getElem?_cons_zero]; exact rfl) (by kernel_rfl) (by kernel_rfl) (by kernel_rfl) (fun _ _ _ h => h) (Or.inl ⟨by rfl, ?_⟩) (by assumption) ?_
          rotate_left 1
          · (intro w hSw; (try dsimp only at hSw); go_simp; try with_reducible rfl)
          try simp only [Act.put, List.setIfInBounds_toArray, List.set_cons_zero, List.set_cons_succ]
          refine wpAnyH_take (i := 2) (v := ?_) (by simp only [List.getElem?_toArray, List.getElem?_cons_succ, List.getElem?_cons_zero]; exact rfl) (by kernel_rfl) (by kernel_rfl) (by kernel_rfl) (fun _ _ _ h => h) (Or.inl ⟨by rfl, ?_⟩) (by assumption) ?_
          rotate_left 1
          · (intro w hSw; (try dsimp only at hSw); go_simp; try with_reducible rfl)
          try simp only [Act.put, List.setIfInBounds_toArray, List.set_cons_zero, List.set_cons_succ]
          refine wpAnyH_take (i := 3) (v := ?_) (by simp only [List.getElem?_toArray, List.getElem?_cons_succ, List.getElem?_cons_zero]; exact rfl) (by kernel_rfl) (by kernel_rfl) (by kernel_rfl) (fun _ _ _ h => h) (Or.inl ⟨by rfl, ?_⟩) (by assumption) ?_
          rotate_left 1
          · (intro w hSw; (try dsimp only at hSw); go_simp; try with_reducible rfl)
          try simp only [Act.put, List.setIfInBounds_toArray, List.set_cons_zero, List.set_cons_succ]
          refine wpAnyH_take (i := 4) (v := ?_) (by simp only [List.getElem?_toArray, List.getElem?_cons_succ, List.getElem?_cons_zero]; exact rfl) (by kernel_rfl) (by kernel_rfl) (by kernel_rfl) (fun _ _ _ h => h) (Or.inl ⟨by rfl, ?_⟩) (by assumption) ?_
          rotate_left 1
          · (intro w hSw; (try dsimp only at hSw); go_simp; try with_reducible rfl)
          try simp only [Act.put, List.setIfInBounds_toArray, List.set_cons_zero, List.set_cons_succ]
          refine wpAnyH_take (i := 5) (v := ?_) (by simp only [List.getElem?_toArray, List.getElem?_cons_succ, List.getElem?_cons_zero]; exact rfl) (by kernel_rfl) (by kernel_rfl) (by kernel_rfl) (fun _ _ _ h => h) (Or.inl ⟨by rfl, ?_⟩) (by assumption) ?_
          rotate_left 1
          · (intro w hSw; (try dsimp only at hSw); go_simp; try with_reducible rfl)
          try simp only [Act.put, List.setIfInBounds_toArray, List.set_cons_zero, List.set_cons_succ]
          refine wpAnyH_take (i := 8) (v := ?_) (by simp only [List.getElem?_toArray, List.getElem?_cons_succ, List.getElem?_cons_zero]; exact rfl) (by kernel_rfl) (by kernel_rfl) (by kernel_rfl) (fun _ _ _ h => h) (Or.inl ⟨by rfl, ?_⟩) (by assumption) ?_
          rotate_left 1
          · (intro w hSw; (try dsimp only at hSw); go_simp; try with_reducible rfl)
          try simp only [Act.put, List.setIfInBounds_toArray, List.set_cons_zero, List.set_cons_succ]
          refine wpAnyH_take (i := 9) (v := ?_) (by simp only [List.getElem?_toArray, List.getElem?_cons_succ, List.getElem?_cons_zero]; exact rfl) (by kernel_rfl) (by kernel_rfl) (by kernel_rfl) (fun _ _ _ h => h) (Or.inl ⟨by rfl, ?_⟩) (by assumption) ?_
          rotate_left 1
          · (intro w hSw; (try dsimp only at hSw); go_simp; try with_reducible rfl)
          try simp only [Act.put, List.setIfInBounds_toArray, List.set_cons_zero, List.set_cons_succ]
          refine wpAnyH_take (i := 10) (v := ?_) (by simp only [List.getElem?_toArray, List.getElem?_cons_succ, List.getElem?_cons_zero]; exact rfl) (by kernel_rfl) (by kernel_rfl) (by kernel_rfl) (fun _ _ _ h => h) (Or.inl ⟨by rfl, ?_⟩) (by assumption) ?_
          rotate_left 1
          · (intro w hSw; (try dsimp only at hSw); go_simp; try with_reducible rfl)
          try simp only [Act.put, List.setIfInBounds_toArray, List.set_cons_zero, List.set_cons_succ]
          refine wpAnyH_take (i := 11) (v := ?_) (by simp only [List.getElem?_toArray, List.getElem?_cons_succ, List.getElem?_cons_zero]; exact rfl) (by kernel_rfl) (by kernel_rfl) (by kernel_rfl) (fun _ _ _ h => h) (Or.inl ⟨by rfl, ?_⟩) (by assumption) ?_
          rotate_left 1
          · (intro w hSw; (try dsimp only at hSw); go_simp; try with_reducible rfl)
          try simp only [Act.put, List.setIfInBounds_toArray, List.set_cons_zero, List.set_cons_succ]
          refine wpAnyH_take (i := 12) (v := ?_) (by simp only [List.getElem?_toArray, List.getElem?_cons_succ, List.getElem?_cons_zero]; exact rfl) (by kernel_rfl) (by kernel_rfl) (by kernel_rfl) (fun _ _ _ h => h) (Or.inl ⟨by rfl, ?_⟩) (by assumption) ?_
          rotate_left 1
          · (intro w hSw; (try dsimp only at hSw); go_simp; try with_reducible rfl)
          try simp only [Act.put, List.setIfInBounds_toArray, List.set_cons_zero, List.set_cons_succ]
          refine wpAnyH_ready (rs := [6]) (by kernel_rfl) (by simp) ?_
          refine (AllReadyH.cons (by simp only [List.getElem?_toArray, List.getElem?_cons_succ, List.getElem?_cons_zero]; exact rfl) (fun K hK => ?_) AllReadyH.nil)
          go_simp
          refine (HNkb.out x).mono ?_
          rintro e x_6 ⟨vk, rfl, hOk, hbk⟩
          have hltk := hOk.lt
          obtain ⟨p53, c53, rfl, hsk, hpk, -⟩ := hOk.shape
          have HX := Lib.hid (show Below w.heap.size w x_6 ∧ FrW w6 x_6 lo hi from ⟨HX.out.1.trans (hbk.mono HX.out.1.size), HX.out.2.of_below hbk⟩)
          have HP6 := Lib.hid (show Sl x_6 p53 (enc7 kb) ∧ (p53 = none → c53 = 0) ∧ ∀ cc oo, p53 = some ⟨cc, oo, none⟩ → (u3 : Value).ownBlock ≠ some cc ∧ cc < x_6.heap.size from ⟨hsk, hpk, fun cc oo e => ⟨fun h => by have h1 := (HO.out.lt cc h).2; have h2 := (hltk cc (by rw [e]; rfl)).1; omega, (hltk cc (by rw [e]; rfl)).2⟩⟩)
          have HO := Lib.hid (HO.out.of_below hbk)
          clear hOk hbk hltk hsk hpk
          go_wp2_with fail
          refine hK.out _ _ (HS.out _ HX.out) (fun hHeld => ?_)
          clear hK K
          try simp only [Act.put, List.setIfInBounds_toArray, List.set_cons_zero, List.set_cons_succ]
          refine wpAnyH_ready (rs := [7]) (by kernel_rfl) (by simp) ?_
          refine (AllReadyH.cons (by simp only [List.getElem?_toArray, List.getElem?_cons_succ, List.getElem?_cons_zero]; exact rfl) (fun K hK => ?_) AllReadyH.nil)
          refine step_appendL x_6 rfl (.tmp 47) (.tmp 53) rfl w.heap.size u3 L3 rfl HO.out p53 _ c53 (enc7 kb) rfl rfl HP6.out.1 HP6.out.2.1 (by have := HLEN.out; (try simp only [List.length_append]); omega) HX.out.1.size ?_
          rintro vo7 x_6_7 hOk hgk hok
          have hbk : Below w.heap.size x_6 x_6_7 := (Below.refl _ _).grown hgk HX.out.1.size (fun kk hk => (HO.out.lt kk hk).1)
          have hfk := HX.out.2.grown hgk HQ.out
          have HQ := Lib.hid (ownq15 hok HQ.out HX.out.2.1)
          have HX := Lib.hid (show Below w.heap.size w x_6_7 ∧ FrW w6 x_6_7 lo hi from ⟨HX.out.1.trans hbk, hfk⟩)
          have HO := Lib.hid hOk
          clear hOk hgk hok hbk hfk
          refine hK.out _ _ (HS.out _ HX.out) (fun hHeld => ?_)
          clear hK K
          try simp only [Act.put, List.setIfInBounds_toArray, List.set_cons_zero, List.set_cons_succ]
          refine wpAnyH_ready (rs := [13]) (by kernel_rfl) (by simp) ?_
          refine (AllReadyH.cons (by simp only [List.getElem?_toArray, List.getElem?_cons_succ, List.getElem?_cons_zero]; exact rfl) (fun K hK => ?_) AllReadyH.nil)
          go_simp
          refine (HNkr.out x_6_7).mono ?_
          rintro e x_6_7_13 ⟨vk, rfl, hOk, hbk⟩
          have hltk := hOk.lt
          obtain ⟨p60, c60, rfl, hsk, hpk, -⟩ := hOk.shape
          have HX := Lib.hid (show Below w.heap.size w x_6_7_13 ∧ FrW w6 x_6_7_13 lo hi from ⟨HX.out.1.trans (hbk.mono HX.out.1.size), HX.out.2.of_below hbk⟩)
          have HP13 := Lib.hid (show Sl x_6_7_13 p60 (enc7 kr) ∧ (p60 = none → c60 = 0) ∧ ∀ cc oo, p60 = some ⟨cc, oo, none⟩ → (vo7 : Value).ownBlock ≠ some cc ∧ cc < x_6_7_13.heap.size from ⟨hsk, hpk, fun cc oo e => ⟨fun h => by have h1 := (HO.out.lt cc h).2; have h2 := (hltk cc (by rw [e]; rfl)).1; omega, (hltk cc (by rw [e]; rfl)).2⟩⟩)
          have HO := Lib.hid (HO.out.of_below hbk)
          clear hOk hbk hltk hsk hpk
          go_wp2_with fail
          refine hK.out _ _ (HS.out _ HX.out) (fun hHeld => ?_)
          clear hK K
          try simp only [Act.put, List.setIfInBounds_toArray, List.set_cons_zero, List.set_cons_succ]
          refine wpAnyH_ready (rs := [14]) (by kernel_rfl) (by simp) ?_
          refine (AllReadyH.cons (by simp only [List.getElem?_toArray, List.getElem?_cons_succ, List.getElem?_cons_zero]; exact rfl) (fun K hK => ?_) AllReadyH.nil)
          refine step_appendL x_6_7_13 rfl (.tmp 54) (.tmp 60) rfl w.heap.size vo7 (L3 ++ enc7 kb) rfl HO.out p60 _ c60 (enc7 kr) rfl rfl HP13.out.1 HP13.out.2.1 (by have := HLEN.out; (try simp only [List.length_append]); omega) HX.out.1.size ?_
          rintro vo14 x_6_7_13_14 hOk hgk hok
          have hbk : Below w.heap.size x_6_7_13 x_6_7_13_14 := (Below.refl _ _).grown hgk HX.out.1.size (fun kk hk => (HO.out.lt kk hk).1)
          have hfk := HX.out.2.grown hgk HQ.out
          have HQ := Lib.hid (ownq15 hok HQ.out HX.out.2.1)
          have HX := Lib.hid (show Below w.heap.size w x_6_7_13_14 ∧ FrW w6 x_6_7_13_14 lo hi from ⟨HX.out.1.trans hbk, hfk⟩)
          have HO := Lib.hid hOk
          clear hOk hgk hok hbk hfk
          refine hK.out _ _ (HS.out _ HX.out) (fun hHeld => ?_)
          clear hK K
          try simp only [Act.put, List.setIfInBounds_toArray, List.set_cons_zero, List.set_cons_succ]
          refine wpAnyH_take (i := 15) (v := ?_) (by simp only [List.getElem?_toArray, List.getElem?_cons_succ, List.getElem?_cons_zero]; exact rfl) (by kernel_rfl) (by kernel_rfl) (by kernel_rfl) (fun _ _ _ h => h) (Or.inl ⟨by rfl, ?_⟩) (by assumption) ?_
          rotate_left 1
          · (intro w hSw; (try dsimp only at hSw); go_simp; try with_reducible rfl)
          try simp only [Act.put, List.setIfInBounds_toArray, List.set_cons_zero, List.set_cons_succ]
          refine wpAnyH_done (by kernel_rfl) ?_ _
          refine NoPanic.normal ?_
          clear hHeld
          go_wp2
          refine ⟨⟨t + 1, HT.out, by go_num, ?_, HQ.out, HX.out.1, HX.out.2⟩, by simp [intOf]; have := HT.out; omega⟩
          have h := HO.out
          rw [HIT.out]
          rw [List.append_assoc] at h
          exact h
        · have y1 : ¬ (t : Int) < (m : Int) := by omega
          have y2 : decide ((t : Int) < (m : Int)) = false := decide_eq_false y1
          obtain rfl : t = m := by omega
          go_wp2
          refine ⟨⟨j + 1, HJ.out, by go_num, ?_, ?_, HXr.out.1⟩, by simp [intOf]; have := HJ.out; omega⟩
          · rw [HOF.out]; simp
          · have h := HOr.out
            rw [List.take_of_length_le (by rw [HMN.out.2.2]; exact Nat.le_refl _)] at h
            rw [HPTH.out]
            exact h
    · obtain rfl : j = P := by omega
      have hin : i = n := by
        rw [← hi]
        have h1 := HR.out.fin
        rw [HPP.out.1] at h1
        rw [h1]
        exact HPP.out.2.2.2
      have y1 : ¬ (i : Int) < (n : Int) := by omega
      have y2 : decide ((i : Int) < (n : Int)) = false := decide_eq_false y1
      have hbd2 : enc7 j ++ pthsB s ((pathsW s).take j) = bodyW s := by
        rw [List.take_of_length_le (by rw [HPP.out.1]; exact Nat.le_refl _)]
        unfold bodyW
        rw [← pathsW_len, HPP.out.1]
      obtain ⟨L0, hL0⟩ : ∃ L, pthsB s ((pathsW s).take j) = L := ⟨_, rfl⟩
      rw [hL0] at HO HJL hbd2
      obtain ⟨pw, cw, rfl, hsw, hpw, -⟩ := HO.out.shape
      have HSW := Lib.hid (And.intro hsw hpw)
      have HBD := Lib.hid hbd2
      have HNj := Lib.hid (fun u => refNum j (by have := HPP.out; omega) u)
      have HLEN := Lib.hid (show L0.length ≤ 1036000 ∧ (enc7 j).length ≤ 9 from ⟨HJL.out, enc7_9W (by have := HPP.out; omega)⟩)
      clear hO hB hin hi hL0 hbd2 hsw hpw hlt hj
      go_wp2_with fail
      refine (HNj.out _).mono ?_
      rintro e w2 ⟨v2, rfl, hO2, hB2⟩
      have HX2 := Lib.hid (HB.out.trans (hB2.mono HB.out.size))
      have HO2 := Lib.hid (hO2.lower (b2 := w.heap.size) HB.out.size)
      have HS2 := Lib.hid (And.intro (HSW.out.1.of_below hB2) HSW.out.2)
      obtain ⟨p2, c2, rfl, -⟩ := hO2.shape
      clear hO2 hB2 HSW HNj
      go_wp2_with (first
        | (refine wpl_appendL w2 rfl (.tmp 64) (.tmp 65) rfl w.heap.size _ (enc7 j) rfl HO2.out pw _ cw L0 rfl rfl HS2.out.1 HS2.out.2 (by have := HLEN.out; omega) HX2.out.size ?_
           rintro v3 w3 hO3 hg3 -
           have HX3 := Lib.hid (HX2.out.grown hg3 HX2.out.size (fun k hk => (HO2.out.lt k hk).1))
           rw [HBD.out] at hO3
           obtain ⟨body, hbody, hO3⟩ : ∃ L, bodyW s = L ∧ OwnB w3 w.heap.size v3 L := ⟨_, rfl, hO3⟩
           have HBY := Lib.hid hbody
           have HLB := Lib.hid (show body.length ≤ 1036009 from by rw [← hbody, ← HBD.out, List.length_append]; have := HLEN.out; omega)
           have HO3 := Lib.hid hO3
           obtain ⟨p3, c3, rfl, hs3, hp3, -⟩ := hO3.shape
           have HS3 := Lib.hid (And.intro hs3 hp3)
           clear hO3 hg3 hbody hs3 hp3))
      refine (refSum1_any _ p3 _ c3 _ rfl HS3.out.1 HS3.out.2 (HT0.out _ HX3.out) (by have := HLB.out; omega)).mono ?_
      rintro e x8 ⟨rfl, hB8⟩
      have hX8 := HX3.out.trans (hB8.mono HX3.out.size)
      have hO8 := HO3.out.of_below hB8
      have hdl : (digL body).length = 32 := digL_len _
      clear hB8
      obtain ⟨dg, hdg⟩ : ∃ x, digL body = x := ⟨_, rfl⟩
      have HDG := Lib.hid hdg
      rw [hdg] at hdl
      have st9 := st_dig x8 x8.heap.size dg rfl
      have hB9 : Below x8.heap.size x8 (x8.alloc (.cells (tab 32 (dgF dg)) 72)) := (Below.refl _ _).alloc (Nat.le_refl _) _
      have HX9 := Lib.hid (hX8.trans (hB9.mono hX8.size))
      have HO9 := Lib.hid (hO8.of_below hB9)
      have hs9 : Sl (x8.alloc (.cells (tab 32 (dgF dg)) 72)) (some ⟨x8.heap.size, 0, none⟩) dg := ((Row.new x8 72 32 (dgF dg)).fresh (base := x8.heap.size) (Nat.le_refl _) hdl).sl
      clear hX8 hO8 hB9
      rw [hdg]
      clear hdg
      go_wp2_with (first
        | (refine wpl_appendL (x8.alloc (.cells (tab 32 (dgF dg)) 72)) rfl (.tmp 69) (.tmp 70) rfl w.heap.size _ body rfl HO9.out (some ⟨x8.heap.size, 0, none⟩) 32 32 dg hdl rfl hs9 (fun e => by cases e) (by have := HLB.out; omega) HX9.out.size ?_
           rintro v10 w10 hO10 hg10 -
           have HX10 := Lib.hid (HX9.out.grown hg10 HX9.out.size (fun k hk => (HO9.out.lt k hk).1))
           have HO10 := Lib.hid hO10
           clear hO10 hg10))
      go_ret
      refine ⟨_, rfl, ?_, HX10.out⟩
      have h := HO10.out
      unfold encW
      rw [HBY.out, HDG.out]
      exact h
end Go.Proofs.YtllpcllgliknpaaGreatDoor
/- What the statement on wards carries from act to act. -/
set_option maxRecDepth 100000
namespace Go.Proofs.YtllpcllgliknpaaGreatDoor
open Go Go.RowKit
attribute [-go_sem] Sha.exec_store

theorem kind3_len15 {p : S8} (h : kindL p = 3) : p.length ≤ 100 := by
  unfold kindL at h
  split at h
  · rename_i hg
    unfold goodL at hg
    simp only [Bool.and_eq_true, decide_eq_true_eq] at hg
    exact hg.1
  · cases h
/-- The ward, its list, and the document's list, each apart from the other. -/
def WpS (w0 u : World) (b : Nat) (s : Ws) (M : List Hr) (q : Option Addr) (n cap : Nat) : Prop :=
  ∃ (F : Nat → Prop) (mb : Nat) (bk : S8 → Nat), WdAt u b F s mb bk ∧ (∀ g, F g → w0.heap.size ≤ g ∧ g < u.heap.size) ∧ RelH s M ∧ HLs u q n cap M ∧ (∀ c o, q = some ⟨c, o, none⟩ → c < u.heap.size ∧ ¬ F c) ∧ Below w0.heap.size w0 u
theorem WpS.next {w0 u u' : World} {b : Nat} {s : Ws} {M : List Hr} {q : Option Addr} {n cap : Nat} (h : WpS w0 u b s M q n cap) (hB : Below u.heap.size u u') : WpS w0 u' b s M q n cap := by
  obtain ⟨F, mb, bk, h1, h2, h3, h4, h5, h6⟩ := h
  exact ⟨F, mb, bk, h1.of_new hB, fun g hg => ⟨(h2 g hg).1, Nat.lt_of_lt_of_le (h2 g hg).2 hB.size⟩, h3, h4.of_below hB, fun c o e => ⟨Nat.lt_of_lt_of_le (h5 c o e).1 hB.size, (h5 c o e).2⟩, h6.trans (hB.mono h6.size)⟩
theorem RHn.mono {w0 w w' : World} {q : Option Addr} {v : Value} {M : List Hr} (h : RHn w q w' v M) (hs : w0.heap.size ≤ w.heap.size) : RHn w0 q w' v M := by
  obtain ⟨p, n, cap, e, h1, h2⟩ := h
  refine ⟨p, n, cap, e, h1, fun c o e => ?_⟩
  rcases h2 c o e with h | h
  · exact .inl h
  · exact .inr ⟨Nat.le_trans hs h.1, h.2⟩
/-- An act: by the document, then by the ward. -/
theorem act15 {w0 u u1 u2 : World} {b mb : Nat} {F : Nat → Prop} {s' : Ws} {M' : List Hr} {q : Option Addr} {v : Value} {bk' : S8 → Nat} (hF : ∀ g, F g → w0.heap.size ≤ g ∧ g < u.heap.size) (hq : ∀ c o, q = some ⟨c, o, none⟩ → c < u.heap.size ∧ ¬ F c) (h0 : Below w0.heap.size w0 u)
    (hB : Below u.heap.size u u1) (hv : RHn u q u1 v M') (hW : WdAt u2 b (newF F u1 u2) s' mb bk') (hK : KpF F u1 u2) (hR : RelH s' M') :
    ∃ q' n' cap', v = .slice q' n' cap' ∧ WpS w0 u2 b s' M' q' n' cap' := by
  obtain ⟨p, n, cap, rfl, h1, h2⟩ := hv
  have hc : ∀ c o, p = some ⟨c, o, none⟩ → c < u1.heap.size ∧ ¬ F c := fun c o e => by
    rcases h2 c o e with ⟨o', e'⟩ | h
    · exact ⟨Nat.lt_of_lt_of_le (hq c o' e').1 hB.size, (hq c o' e').2⟩
    · exact ⟨h.2, fun hf => by have := (hF c hf).2; omega⟩
  have h01 : Below w0.heap.size w0 u1 := h0.trans (hB.mono h0.size)
  refine ⟨p, n, cap, rfl, newF F u1 u2, mb, bk', hW, fun g hg => ?_, hR, ⟨h1.1, h1.2.1.keep fun c o e hlt => hK.block c hlt (hc c o e).2, h1.2.2⟩, fun c o e => ?_, h01.trans (hK.below (fun k hk => (hF k hk).1) h01.size)⟩
  · rcases hg with hg | hg
    · exact ⟨(hF g hg).1, Nat.lt_of_lt_of_le (hF g hg).2 (Nat.le_trans hB.size hK.size)⟩
    · exact ⟨Nat.le_trans h01.size hg.1, hg.2⟩
  · refine ⟨Nat.lt_of_lt_of_le (hc c o e).1 hK.size, ?_⟩
    rintro (hg | hg)
    · exact (hc c o e).2 hg
    · have := (hc c o e).1; omega
theorem HoldR.len {M M' : List Hr} {p : S8} {b y c : Int} (h : HoldR M p b y c M') : M'.length ≤ M.length + 1 := by
  rcases h with ⟨-, -, rfl⟩ | ⟨-, ⟨i, hi, -, -, -, rfl⟩ | ⟨-, ⟨-, -, rfl⟩ | ⟨-, -, a, ha, rfl⟩⟩⟩
  · omega
  · unfold setH; rw [List.length_set]; omega
  · omega
  · have := ha.1
    rw [List.length_append, List.length_cons, List.length_take, List.length_drop]
    omega
theorem FreeR.len {M M' : List Hr} {p : S8} {b c : Int} (h : FreeR M p b c M') : M'.length ≤ M.length := by
  rcases h with ⟨-, -, rfl⟩ | ⟨i, hi, -, -, -, rfl⟩
  · omega
  · unfold cutH; rw [List.length_append, List.length_take, List.length_drop]; omega
theorem MoveR.len {M M' : List Hr} {p q : S8} {c : Int} (h : MoveR M p q c M') : M'.length ≤ M.length := by
  rcases h with ⟨-, -, rfl⟩ | ⟨-, ⟨-, -, rfl⟩ | ⟨-, -, -, h2, -⟩⟩
  · omega
  · omega
  · have h3 := onoff_len M p
    have h4 : (offH (offH M p) q).length ≤ (offH M p).length := List.length_filter_le _ _
    omega
theorem refFree15_R {w : World} {q : Option Addr} {n cap : Nat} {M : List Hr} (p : S8) (b : Int) (h : HLs w q n cap M) (hn : n < 1000000) :
    Calls Tryz.prog 11 #[.slice q n cap, .string (mkS p), .int .i64 b] w fun e w' => Below w.heap.size w w' ∧ ∃ v M' c, e = .returned (.tuple #[v, .int .i64 c]) ∧ FreeR M p b c M' ∧ RHn w q w' v M' := by
  refine (refFree15_any p b h hn).mono ?_
  rintro e w' ⟨hB, ⟨hno, rfl⟩ | ⟨i, v, hi, h1, h2, rfl, hO⟩⟩
  · exact ⟨hB, _, _, 8, rfl, .inl ⟨hno, rfl, rfl⟩, h.rhn hB⟩
  · exact ⟨hB, _, _, 0, rfl, .inr ⟨i, hi, h1, h2, rfl, rfl⟩, hO.rhn q⟩
theorem inR_next (h : Hs) {f k : Int} (hf : f ≤ k) : inR h f (k + 1) = (inR h f k || (whyW h k).isSome) := by
  have e : (whyW h k).isSome = inR h k (k + 1) := by
    unfold inR
    cases hw : whyW h k with
    | none =>
      symm
      rw [show (Option.isSome (none : Option Int)) = false from rfl, List.any_eq_false]
      intro x hx
      have := whyW_none hw x hx
      simp only [decide_eq_true_eq]
      omega
    | some r =>
      symm
      rw [show (Option.isSome (some r)) = true from rfl, List.any_eq_true]
      unfold whyW at hw
      cases hx : h.find? (fun x => x.1 == k) with
      | none => rw [hx] at hw; cases hw
      | some x =>
        have h1 := List.mem_of_find?_eq_some hx
        have h2 : x.1 = k := by simpa using List.find?_some hx
        exact ⟨x, h1, decide_eq_true (by omega)⟩
  rw [e]
  unfold inR
  rw [Bool.eq_iff_iff, Bool.or_eq_true, List.any_eq_true, List.any_eq_true, List.any_eq_true]
  constructor
  · rintro ⟨x, hx, e⟩
    have e := of_decide_eq_true e
    by_cases hk : x.1 < k
    · exact .inl ⟨x, hx, decide_eq_true ⟨e.1, hk⟩⟩
    · exact .inr ⟨x, hx, decide_eq_true ⟨by omega, e.2⟩⟩
  · rintro (⟨x, hx, e⟩ | ⟨x, hx, e⟩)
    · have e := of_decide_eq_true e
      exact ⟨x, hx, decide_eq_true ⟨e.1, by omega⟩⟩
    · have e := of_decide_eq_true e
      exact ⟨x, hx, decide_eq_true ⟨by omega, e.2⟩⟩
theorem inR_start (h : Hs) (f : Int) : inR h f f = false := by
  unfold inR
  rw [List.any_eq_false]
  intro x hx
  simp only [decide_eq_true_eq]
  omega
def okw (b : Bool) : Int := if b then 13 else 0
end Go.Proofs.YtllpcllgliknpaaGreatDoor
/- darnerlaw15.Is. -/
set_option maxRecDepth 100000
namespace Go.Proofs.YtllpcllgliknpaaGreatDoor
open Go Go.RowKit

attribute [-go_sem] Sha.exec_store
theorem geq_S15 {p q : S8} (h : p < q) (w : World) : (binOp .geq 9 (.string (mkS p)) (.string (mkS q))).run Tryz.prog w = .ok (.bool false) w := by
  have hb : Op.bytesLess p q = true := by rw [bytesLess_eq]; exact decide_eq_true h
  have hn : ¬ p = q := fun e => by rw [e] at h; exact List.lt_irrefl _ h
  have hn2 : ¬ q < p := fun h2 => List.lt_irrefl _ (List.lt_trans h h2)
  have hb2 : Op.bytesLess q p = false := by rw [bytesLess_eq]; exact decide_eq_false hn2
  show (Op.stringOp .geq (mkS p) (mkS q)).run Tryz.prog w = _
  simp [Op.stringOp, mkS_toList, hb, hb2, hn]
theorem belowN15 {N : Nat} {x y : World} (h : Below N x y) (n : Nat) : Below N x (y.drewN n) := h.trans ((show Dr y (y.drewN n) from ⟨n, rfl⟩).below _)
theorem whyW_in15 {h : Hs} (hn : (h.map (·.1)).Nodup) {x : Int × Int} (hx : x ∈ h) : whyW h x.1 = some x.2 := by
  unfold whyW
  induction h with
  | nil => cases hx
  | cons y h ih =>
    rw [List.map_cons, List.nodup_cons] at hn
    rw [List.find?_cons]
    rcases List.mem_cons.1 hx with rfl | hx
    · simp
    · have hne : (y.1 == x.1) = false := by
        rw [beq_eq_false_iff_ne]
        intro e
        exact hn.1 (List.mem_map.2 ⟨x, hx, e.symm⟩)
      rw [hne]
      exact ih hn.2 hx
theorem pathsW_len100 {s : Ws} {M : List Hr} (h : RelH s M) : ∀ p ∈ pathsW s, p.length ≤ 1000 := fun p hp => by have := kind3_len15 (pathsW_bd h hp); omega
set_option maxRecDepth 100000 in
set_option maxHeartbeats 16000000 in
theorem is15_any {w0 u : World} {b : Nat} {s : Ws} {M : List Hr} {q : Option Addr} {n cap : Nat} (h : WpS w0 u b s M q n cap) (hn : n ≤ 1000) (hT : Tb u) :
    Calls Tryz.prog 7 #[.pointer (some ⟨b, 0, none⟩), .slice q n cap] u fun e u' => e = .returned (.bool true) ∧ Below u.heap.size u u' := by
  obtain ⟨F, mb, bk, hW, hF, hR, hL, hq, h0⟩ := h
  obtain ⟨E, hE⟩ : ∃ E, encW s = E := ⟨_, rfl⟩
  have hpl := pathsW_len100 hR
  have hlw : lenW s = n := by rw [← hR.len, hL.1]
  have HLC := Lib.hid (fun v (hv : Below u.heap.size u v) => by
    have := len15_any (hW.of_new hv) (by rw [hlw]; omega)
    rw [hlw] at this
    exact this)
  have HBY := Lib.hid (fun v (hv : Below u.heap.size u v) => by
    have := bytes15_any (hW.of_new hv) hR (by rw [hL.1]; exact hn) hpl (hT.on hv)
    rw [hE] at this
    exact this)
  have HRY := Lib.hid (fun v (hv : Below u.heap.size u v) => by
    have := refBytes15_any (hL.of_below hv) hR hn hpl (hT.on hv)
    rw [hE] at this
    exact this)
  have HW := Lib.hid (fun v (hv : Below u.heap.size u v) => hW.of_new hv)
  have HL := Lib.hid (fun v (hv : Below u.heap.size u v) => hL.of_below hv)
  have HR := Lib.hid hR
  have HN := Lib.hid (And.intro hn (And.intro hL.1 hlw))
  have HPL := Lib.hid hpl
  clear hE hpl hlw hW hF hR hL hq h0 hn hT
  go_enter Tryz.func7, Tryz.ntmps7
  go_wp2
  rename_i K2 hK2
  have HREST := Lib.hid (show ∀ (t27 t28 t30 t31 : Value) (wZ : World), Below u.heap.size u wZ → K2 { tmps := #[.pointer (some ⟨b, 0, none⟩), .slice q n cap, undef, undef, .bool false, undef, undef, undef, undef, undef, undef, undef, undef, undef, undef, undef, .pointer (some ⟨b, 0, none⟩), .bool false, .bool false, .pointer (some ⟨b, 0, none⟩), .int .i64 (n : Int), .slice q n cap, .int .i64 (n : Int), .bool false, .bool false, .bool false, .pointer (some ⟨b, 0, none⟩), t27, t28, .slice q n cap, t30, t31, .bool false, .bool false, undef, undef, undef, undef, undef, undef, undef, undef, undef, undef, undef, undef, undef, undef, undef, undef, undef, undef, undef, undef, undef, undef, undef, undef, undef, undef, undef, undef, undef, undef, undef, undef, undef, undef, undef, undef, undef, undef, undef, undef, undef, undef, undef, undef, undef, undef, undef, undef, undef, undef, undef, undef, undef, undef, undef, undef, undef, undef, undef, undef, undef, undef, undef, undef, undef, undef, undef, undef, undef, undef, undef, undef, undef, undef, undef, undef, undef, undef, undef, undef, undef, undef, undef], defers := [] } wZ from by
    intro t27 t28 t30 t31 wZ hBZ
    have HBZ := Lib.hid hBZ
    have HPA := Lib.hid (paths15_any (HW.out wZ hBZ) (fun x hx => Nat.le_trans (HPL.out x.1 (pathsW_mem.2 (by
      cases hf : findW s x.1 with
      | none => exact absurd rfl (findW_none hf x hx)
      | some l => exact ⟨l, rfl⟩))) (by decide)) (by have h1 := ws_len HR.out.ne; have h2 := HN.out; omega))
    obtain ⟨P, hP⟩ : ∃ P, (pathsW s).length = P := ⟨_, rfl⟩
    have hsl : s.length = P := by rw [← hP, pathsW_len]
    rw [hsl] at HPA
    have HPP := Lib.hid (show (pathsW s).length = P ∧ P ≤ n from ⟨hP, by have h1 := ws_len HR.out.ne; have h2 := HN.out; omega⟩)
    refine hK2 _ _ ?_
    clear hK2 hBZ hP hsl HLC HBY HRY
    go_wp2_with fail
    refine HPA.out.mono ?_
    rintro e w3 ⟨v, rfl, hrow, hB⟩
    obtain ⟨pv, cv, rfl, hls, -⟩ := own_shape hrow
    have HB3 := Lib.hid (HBZ.out.trans (hB.mono HBZ.out.size))
    have HLS := Lib.hid hls
    clear hrow hB hls HPA
    go_wp2
    go_loopw [6, 38] (fun v6 v38 wr => ∃ j : Nat, j ≤ P ∧ v38 = .int .i64 (j : Int) ∧ v6 = .int .i64 (offP s ((pathsW s).take j) : Int) ∧ Below w3.heap.size w3 wr) (fun _ v38 _ => P - (intOf v38).toNat)
    case atStart => exact ⟨0, Nat.zero_le _, rfl, rfl, Below.refl _ _⟩
    case round =>
      rename World => wa
      obtain ⟨j, hj, rfl, rfl, hB⟩ := hrel
      have HB := Lib.hid hB
      have HBU := Lib.hid (HB3.out.trans (hB.mono HB3.out.size))
      obtain ⟨i, hi⟩ : ∃ i, offP s ((pathsW s).take j) = i := ⟨_, rfl⟩
      rw [hi]
      by_cases hlt : j < P
      · have hjl : j < (pathsW s).length := by rw [HPP.out.1]; exact hlt
        have hcj := pathsW_str hjl
        have hof := offP_take s (pathsW s) j hjl
        have hst := (HR.out.start j hjl).1
        rw [hi] at hof hst
        have hiN : i < n := by have := HN.out; omega
        obtain ⟨p, hpj⟩ : ∃ p, (pathsW s)[j] = p := ⟨_, rfl⟩
        have hprev : ∀ j', j' + 1 = j → ∃ p', ((pathsW s).map fun p => Value.string (mkS p))[j']? = some (.string (mkS p')) ∧ p' < p := fun j' e => by
          have h1 := pathsW_str (s := s) (j := j') (by omega)
          exact ⟨_, h1, by rw [← hpj]; exact List.pairwise_iff_getElem.1 (pathsW_strict HR.out.ok.1) j' j (by omega) hjl (by omega)⟩
        rw [hpj] at hcj hof
        have hpm : p ∈ pathsW s := by rw [← hpj]; exact List.getElem_mem hjl
        obtain ⟨m, hm⟩ : ∃ m, (ofW s p).length = m := ⟨_, rfl⟩
        have hm0 : m ≠ 0 := by rw [← hm]; exact ofW_pos HR.out hpm
        have hmn : m ≤ n := by rw [← hm]; have := ofW_len HR.out p; have := HN.out; omega
        rw [hm] at hof
        have hgr := HR.out.grp p
        have hHD := held15_any (HW.out wa HBU.out) p (fun x hx => by
          have h1 := HR.out.bd ⟨p, x.1, x.2⟩ (HR.out.mem.2 (by
            show whyW (ofW s p) x.1 = some x.2
            have hnd := ofW_nodup HR.out.ok p
            exact whyW_in15 hnd hx))
          dsimp only at h1
          omega) (by rw [hm]; have := HN.out; omega)
        have HHD := Lib.hid (fun v (hv : Below u.heap.size u v) => held15_any (HW.out v hv) p (fun x hx => by
          have h1 := HR.out.bd ⟨p, x.1, x.2⟩ (HR.out.mem.2 (by
            show whyW (ofW s p) x.1 = some x.2
            exact whyW_in15 (ofW_nodup HR.out.ok p) hx))
          dsimp only at h1
          omega) (by rw [hm]; have := HN.out; omega))
        rw [hm] at HHD
        obtain ⟨c, o, rfl, -, x0⟩ := (HLS.out.of_below hB).cell hcj
        have y1 : (j : Int) < (P : Int) := by omega
        have y2 : decide ((j : Int) < (P : Int)) = true := decide_eq_true y1
        have y3 : (0 : Int) ≤ (j : Int) := by omega
        have hw1 : IntKind.i64.wrap ((j : Int) + 1) = (j : Int) + 1 := by rw [IntKind.wrap_i64]; have := HPP.out; have := HN.out; omega
        have HOF := Lib.hid hof
        have HMN := Lib.hid (And.intro hm0 (And.intro hmn hm))
        have HIN := Lib.hid hiN
        have HGR := Lib.hid hgr
        have HPV := Lib.hid hprev
        have HJ := Lib.hid (And.intro hlt hj)
        have HPM := Lib.hid hpm
        clear hB hi hjl hcj hof hst hiN hpj hprev hpm hm hm0 hmn hgr hlt hj hHD
        go_wp2_with fail
        refine (refDrop15_any p (HL.out wa HBU.out) (by have := HN.out; omega)).mono ?_
        rintro e w5 ⟨vr, vo, rfl, -, hO2, -, hB5⟩
        rw [HGR.out] at hO2
        obtain ⟨p7, c7, rfl, hl7, -⟩ := hO2.shape
        rw [show (grpH p (ofW s p)).length = m by rw [grpH_len, HMN.out.2.2]] at hl7 ⊢
        have HL7 := Lib.hid hl7
        have HB5 := Lib.hid hB5
        have HBU5 := Lib.hid (HBU.out.trans (hB5.mono HBU.out.size))
        clear hO2 hl7 hB5
        go_wp2_with fail
        refine (HHD.out w5 HBU5.out).mono ?_
        rintro e w6 ⟨vh, rfl, hrow6, hB6⟩
        obtain ⟨p8, c8, rfl, hls6, -⟩ := own_shape hrow6
        have HLS6 := Lib.hid hls6
        have HL76 := Lib.hid (HL7.out.of_below hB6)
        have HB6 := Lib.hid (show Below w3.heap.size w3 w6 from HB.out.trans ((HB5.out.trans (hB6.mono HB5.out.size)).mono HB.out.size))
        have HBU6 := Lib.hid (HBU5.out.trans (hB6.mono HBU5.out.size))
        have m1 : ((m : Int) == 0) = false := by have := HMN.out.1; simp; omega
        clear hrow6 hB6 hls6 HHD x0
        rcases Nat.eq_zero_or_pos j with hj0 | hj0
        · have g1 : decide ((0 : Int) < (j : Int)) = false := decide_eq_false (by omega)
          have g2 : decide (0 < j) = false := decide_eq_false (by omega)
          clear hj0
          go_wp2
          go_loopw [77] (fun v77 wr => ∃ t : Nat, t ≤ m ∧ v77 = .int .i64 (t : Int) ∧ Below w6.heap.size w6 wr) (fun v77 _ => m - (intOf v77).toNat)
          case atStart => exact ⟨0, Nat.zero_le _, rfl, Below.refl _ _⟩
          case round =>
            rename World => wb
            obtain ⟨t, ht, rfl, hBr⟩ := hrel
            have HBR := Lib.hid hBr
            by_cases hlt : t < m
            · have u1 : (t : Int) < (m : Int) := by omega
              have u2 : decide ((t : Int) < (m : Int)) = true := decide_eq_true u1
              have u3 : (0 : Int) ≤ (t : Int) := by omega
              have hw6 : IntKind.i64.wrap ((t : Int) + 1) = (t : Int) + 1 := by rw [IntKind.wrap_i64]; have := HMN.out; have := HN.out; omega
              obtain ⟨x, hx⟩ : ∃ x, (grpH p (ofW s p)).getD t hr0 = x := ⟨_, rfl⟩
              have hxl : t < (grpH p (ofW s p)).length := by rw [grpH_len, HMN.out.2.2]; exact hlt
              have hxm : x ∈ grpH p (ofW s p) := by rw [← hx]; exact getD_mem15 hxl
              obtain ⟨hxp, hxw⟩ := grpH_mem.1 hxm
              obtain ⟨c7, o7, rfl, hc⟩ := (HL76.out.of_below hBr).cells t hlt
              have q0 := hc 0 (by decide)
              have q1 := hc 1 (by decide)
              have q2 := hc 2 (by decide)
              rw [hx] at q0 q1 q2
              change _ = some (Value.string (mkS x.path)) at q0
              change _ = some (Value.int .i64 x.blk) at q1
              change _ = some (Value.int .i64 x.why) at q2
              rw [Nat.add_zero] at q0
              have hck : ((keysH (ofW s p)).map encZ)[t]? = some (.int .i64 x.blk) := by
                have h1 : (grpH p (ofW s p))[t]? = some x := by rw [← hx, List.getD_eq_getElem?_getD, List.getElem?_eq_getElem hxl]; rfl
                unfold grpH at h1
                rw [List.getElem?_map] at h1
                rw [List.getElem?_map]
                cases hk : (keysH (ofW s p))[t]? with
                | none => rw [hk] at h1; cases h1
                | some k =>
                  rw [hk] at h1
                  injection h1 with h1
                  rw [← h1]
                  rfl
              obtain ⟨xp, xb, xw⟩ := x
              dsimp only at q0 q1 q2 hck hxw
              obtain ⟨wa2, hwa⟩ : ∃ wa2, wb.alloc (.cells #[.string (mkS xp), .int .i64 xb, .int .i64 xw] EHr) = wa2 := ⟨_, rfl⟩
              have hBa : Below wb.heap.size wb wa2 := by rw [← hwa]; exact (Below.refl _ _).alloc (Nat.le_refl _) _
              obtain ⟨bx, hbx⟩ : ∃ x, wb.heap.size = x := ⟨_, rfl⟩
              have r1 : wa2.cell? ⟨bx, 1, none⟩ = some (.int .i64 xb) := by rw [← hwa, ← hbx]; unfold World.cell?; rw [World.alloc_heap_new]; simp
              have r2 : wa2.cell? ⟨bx, 2, none⟩ = some (.int .i64 xw) := by rw [← hwa, ← hbx]; unfold World.cell?; rw [World.alloc_heap_new]; simp
              have hB62 := hBr.trans (hBa.mono hBr.size)
              have hWY := why15_any (HW.out wa2 (HBU6.out.trans (hB62.mono HBU6.out.size))) p xb
              have hwc : whyC s p xb = (xw, 0) := by unfold whyC; rw [hxw]
              rw [hwc] at hWY
              obtain ⟨c8, o8, rfl, -, r0⟩ := (HLS6.out.of_below hB62).cell hck
              have HWY := Lib.hid hWY
              have HB62 := Lib.hid hB62
              have HT := Lib.hid hlt
              clear hx hxl hxm hxp hxw hc hck hBa hB62 hwc hWY hlt ht hBr
              go_wp2_with fail
              refine HWY.out.mono ?_
              rintro e w9 ⟨rfl, hw9⟩
              rw [← hw9]
              clear hw9 w9 q0 q1 q2
              go_wp2
              go_quiet (fail)
              go_wp2
              refine ⟨⟨t + 1, HT.out, by go_num, belowN15 HB62.out _⟩, by simp [intOf]; have := HT.out; omega⟩
            · have u1 : ¬ (t : Int) < (m : Int) := by omega
              have u2 : decide ((t : Int) < (m : Int)) = false := decide_eq_false u1
              clear hBr
              have hw2 : IntKind.i64.wrap ((i : Int) + (m : Int)) = (i : Int) + (m : Int) := by rw [IntKind.wrap_i64]; have := HMN.out; have := HN.out; have := HIN.out; omega
              go_wp2
              refine ⟨⟨j + 1, HJ.out.1, by go_num, ?_, HB6.out.trans (HBR.out.mono HB6.out.size)⟩, by simp [intOf]; have := HJ.out.1; omega⟩
              rw [HOF.out]
              simp
        · obtain ⟨p', hp', hlp⟩ := HPV.out (j - 1) (by omega)
          obtain ⟨c9, o9, e9, -, x9⟩ := (HLS.out.of_below HB6.out).cell hp'
          injection e9 with e9
          injection e9 with e91 e92
          subst e91 e92
          have g1 : decide ((0 : Int) < (j : Int)) = true := decide_eq_true (by omega)
          have g2 : decide (0 < j) = true := decide_eq_true (by omega)
          have g3 : IntKind.i64.wrap ((j : Int) - 1) = ((j - 1 : Nat) : Int) := by rw [IntKind.wrap_i64]; have := HPP.out; have := HN.out; have := HJ.out; omega
          have g4 : ((j - 1 : Nat) : Int) < (P : Int) := by have := HJ.out; omega
          have g5 : (0 : Int) ≤ ((j - 1 : Nat) : Int) := by omega
          have hbl := geq_S15 (p := p') (q := p) hlp w6
          obtain ⟨j', hj'⟩ : ∃ j', j - 1 = j' := ⟨_, rfl⟩
          rw [hj'] at g3 g4 g5 x9
          clear hj0 hp' hlp hj'
          go_wp2
          go_loopw [77] (fun v77 wr => ∃ t : Nat, t ≤ m ∧ v77 = .int .i64 (t : Int) ∧ Below w6.heap.size w6 wr) (fun v77 _ => m - (intOf v77).toNat)
          case atStart => exact ⟨0, Nat.zero_le _, rfl, Below.refl _ _⟩
          case round =>
            rename World => wb
            obtain ⟨t, ht, rfl, hBr⟩ := hrel
            have HBR := Lib.hid hBr
            by_cases hlt : t < m
            · have u1 : (t : Int) < (m : Int) := by omega
              have u2 : decide ((t : Int) < (m : Int)) = true := decide_eq_true u1
              have u3 : (0 : Int) ≤ (t : Int) := by omega
              have hw6 : IntKind.i64.wrap ((t : Int) + 1) = (t : Int) + 1 := by rw [IntKind.wrap_i64]; have := HMN.out; have := HN.out; omega
              obtain ⟨x, hx⟩ : ∃ x, (grpH p (ofW s p)).getD t hr0 = x := ⟨_, rfl⟩
              have hxl : t < (grpH p (ofW s p)).length := by rw [grpH_len, HMN.out.2.2]; exact hlt
              have hxm : x ∈ grpH p (ofW s p) := by rw [← hx]; exact getD_mem15 hxl
              obtain ⟨hxp, hxw⟩ := grpH_mem.1 hxm
              obtain ⟨c7, o7, rfl, hc⟩ := (HL76.out.of_below hBr).cells t hlt
              have q0 := hc 0 (by decide)
              have q1 := hc 1 (by decide)
              have q2 := hc 2 (by decide)
              rw [hx] at q0 q1 q2
              change _ = some (Value.string (mkS x.path)) at q0
              change _ = some (Value.int .i64 x.blk) at q1
              change _ = some (Value.int .i64 x.why) at q2
              rw [Nat.add_zero] at q0
              have hck : ((keysH (ofW s p)).map encZ)[t]? = some (.int .i64 x.blk) := by
                have h1 : (grpH p (ofW s p))[t]? = some x := by rw [← hx, List.getD_eq_getElem?_getD, List.getElem?_eq_getElem hxl]; rfl
                unfold grpH at h1
                rw [List.getElem?_map] at h1
                rw [List.getElem?_map]
                cases hk : (keysH (ofW s p))[t]? with
                | none => rw [hk] at h1; cases h1
                | some k =>
                  rw [hk] at h1
                  injection h1 with h1
                  rw [← h1]
                  rfl
              obtain ⟨xp, xb, xw⟩ := x
              dsimp only at q0 q1 q2 hck hxw
              obtain ⟨wa2, hwa⟩ : ∃ wa2, wb.alloc (.cells #[.string (mkS xp), .int .i64 xb, .int .i64 xw] EHr) = wa2 := ⟨_, rfl⟩
              have hBa : Below wb.heap.size wb wa2 := by rw [← hwa]; exact (Below.refl _ _).alloc (Nat.le_refl _) _
              obtain ⟨bx, hbx⟩ : ∃ x, wb.heap.size = x := ⟨_, rfl⟩
              have r1 : wa2.cell? ⟨bx, 1, none⟩ = some (.int .i64 xb) := by rw [← hwa, ← hbx]; unfold World.cell?; rw [World.alloc_heap_new]; simp
              have r2 : wa2.cell? ⟨bx, 2, none⟩ = some (.int .i64 xw) := by rw [← hwa, ← hbx]; unfold World.cell?; rw [World.alloc_heap_new]; simp
              have hB62 := hBr.trans (hBa.mono hBr.size)
              have hWY := why15_any (HW.out wa2 (HBU6.out.trans (hB62.mono HBU6.out.size))) p xb
              have hwc : whyC s p xb = (xw, 0) := by unfold whyC; rw [hxw]
              rw [hwc] at hWY
              obtain ⟨c8, o8, rfl, -, r0⟩ := (HLS6.out.of_below hB62).cell hck
              have HWY := Lib.hid hWY
              have HB62 := Lib.hid hB62
              have HT := Lib.hid hlt
              clear hx hxl hxm hxp hxw hc hck hBa hB62 hwc hWY hlt ht hBr
              go_wp2_with fail
              refine HWY.out.mono ?_
              rintro e w9 ⟨rfl, hw9⟩
              rw [← hw9]
              clear hw9 w9 q0 q1 q2
              go_wp2
              go_quiet (fail)
              go_wp2
              refine ⟨⟨t + 1, HT.out, by go_num, belowN15 HB62.out _⟩, by simp [intOf]; have := HT.out; omega⟩
            · have u1 : ¬ (t : Int) < (m : Int) := by omega
              have u2 : decide ((t : Int) < (m : Int)) = false := decide_eq_false u1
              clear hBr
              have hw2 : IntKind.i64.wrap ((i : Int) + (m : Int)) = (i : Int) + (m : Int) := by rw [IntKind.wrap_i64]; have := HMN.out; have := HN.out; have := HIN.out; omega
              go_wp2
              refine ⟨⟨j + 1, HJ.out.1, by go_num, ?_, HB6.out.trans (HBR.out.mono HB6.out.size)⟩, by simp [intOf]; have := HJ.out.1; omega⟩
              rw [HOF.out]
              simp
      · obtain rfl : j = P := by omega
        have hin : i = n := by
          rw [← hi]
          have h1 := HR.out.fin
          rw [HPP.out.1] at h1
          rw [h1]
          exact HN.out.2.1
        have y1 : ¬ (j : Int) < (j : Int) := by omega
        have y2 : decide ((j : Int) < (j : Int)) = false := decide_eq_false y1
        rw [hin]
        clear hB hi hin hlt hj
        go_wp2
        go_ret
        exact ⟨rfl, HBU.out⟩)
  clear hK2
  refine wp_region_noPanic ?_
  refine wp_region_held_drew (S := (fun z : World => Below u.heap.size u z)) (by kernel_rfl) ((Below.refl _ u).drew) (fun hHeld => ?_)
  have HX := Lib.hid hHeld
  have HX := Lib.hid (show Below u.heap.size u u.drew from (Below.refl _ u).drew)
  generalize u.drew = x at hHeld HX ⊢
  refine wpAnyH_take (i := 0) (v := ?_) (by simp only [List.getElem?_toArray, List.getElem?_cons_succ, List.getElem?_cons_zero]; exact rfl) (by kernel_rfl) (by kernel_rfl) (by kernel_rfl) (fun _ _ _ h => h) (Or.inl ⟨by rfl, ?_⟩) (by assumption) ?_
  rotate_left 1
  · (intro w hSw; (try dsimp only at hSw); go_simp; try with_reducible rfl)
  try simp only [Act.put, List.setIfInBounds_toArray, List.set_cons_zero, List.set_cons_succ]
  refine wpAnyH_take (i := 1) (v := ?_) (by simp only [List.getElem?_toArray, List.getElem?_cons_succ, List.getElem?_cons_zero]; exact rfl) (by kernel_rfl) (by kernel_rfl) (by kernel_rfl) (fun _ _ _ h => h) (Or.inl ⟨by rfl, ?_⟩) (by assumption) ?_
  rotate_left 1
  · (intro w hSw; (try dsimp only at hSw); go_simp; try with_reducible rfl)
  try simp only [Act.put, List.setIfInBounds_toArray, List.set_cons_zero, List.set_cons_succ]
  refine wpAnyH_take (i := 2) (v := ?_) (by simp only [List.getElem?_toArray, List.getElem?_cons_succ, List.getElem?_cons_zero]; exact rfl) (by kernel_rfl) (by kernel_rfl) (by kernel_rfl) (fun _ _ _ h => h) (Or.inl ⟨by rfl, ?_⟩) (by assumption) ?_
  rotate_left 1
  · (intro w hSw; (try dsimp only at hSw); go_simp; try with_reducible rfl)
  try simp only [Act.put, List.setIfInBounds_toArray, List.set_cons_zero, List.set_cons_succ]
  refine wpAnyH_take (i := 3) (v := ?_) (by simp only [List.getElem?_toArray, List.getElem?_cons_succ, List.getElem?_cons_zero]; exact rfl) (by kernel_rfl) (by kernel_rfl) (by kernel_rfl) (fun _ _ _ h => h) (Or.inl ⟨by rfl, ?_⟩) (by assumption) ?_
  rotate_left 1
  · (intro w hSw; (try dsimp only at hSw); go_simp; try with_reducible rfl)
  try simp only [Act.put, List.setIfInBounds_toArray, List.set_cons_zero, List.set_cons_succ]
  refine wpAnyH_take (i := 5) (v := ?_) (by simp only [List.getElem?_toArray, List.getElem?_cons_succ, List.getElem?_cons_zero]; exact rfl) (by kernel_rfl) (by kernel_rfl) (by kernel_rfl) (fun _ _ _ h => h) (Or.inl ⟨by rfl, ?_⟩) (by assumption) ?_
  rotate_left 1
  · (intro w hSw; (try dsimp only at hSw); go_simp; try with_reducible rfl)
  try simp only [Act.put, List.setIfInBounds_toArray, List.set_cons_zero, List.set_cons_succ]
  refine wpAnyH_take (i := 6) (v := ?_) (by simp only [List.getElem?_toArray, List.getElem?_cons_succ, List.getElem?_cons_zero]; exact rfl) (by kernel_rfl) (by kernel_rfl) (by kernel_rfl) (fun _ _ _ h => h) (Or.inl ⟨by rfl, ?_⟩) (by assumption) ?_
  rotate_left 1
  · (intro w hSw; (try dsimp only at hSw); go_simp; try with_reducible rfl)
  try simp only [Act.put, List.setIfInBounds_toArray, List.set_cons_zero, List.set_cons_succ]
  refine wpAnyH_ready (rs := [4]) (by kernel_rfl) (by simp) ?_
  refine (AllReadyH.cons (by simp only [List.getElem?_toArray, List.getElem?_cons_succ, List.getElem?_cons_zero]; exact rfl) (fun K hK => ?_) AllReadyH.nil)
  go_simp
  refine (HLC.out x HX.out).mono ?_
  rintro e x_4 ⟨rfl, hb⟩
  have HX := Lib.hid (HX.out.trans (hb.mono HX.out.size))
  clear hb
  go_wp2_with fail
  refine hK.out _ _ HX.out (fun hHeld => ?_)
  clear hK K
  try simp only [Act.put, List.setIfInBounds_toArray, List.set_cons_zero, List.set_cons_succ]
  refine wpAnyH_take (i := 7) (v := ?_) (by simp only [List.getElem?_toArray, List.getElem?_cons_succ, List.getElem?_cons_zero]; exact rfl) (by kernel_rfl) (by kernel_rfl) (by kernel_rfl) (fun _ _ _ h => h) (Or.inl ⟨by rfl, ?_⟩) (by assumption) ?_
  rotate_left 1
  · (intro w hSw; (try dsimp only at hSw); go_simp; try with_reducible rfl)
  try simp only [Act.put, List.setIfInBounds_toArray, List.set_cons_zero, List.set_cons_succ]
  refine wpAnyH_take (i := 8) (v := ?_) (by simp only [List.getElem?_toArray, List.getElem?_cons_succ, List.getElem?_cons_zero]; exact rfl) (by kernel_rfl) (by kernel_rfl) (by kernel_rfl) (fun _ _ _ h => h) (Or.inl ⟨by rfl, ?_⟩) (by assumption) ?_
  rotate_left 1
  · (intro w hSw; (try dsimp only at hSw); go_simp; try with_reducible rfl)
  try simp only [Act.put, List.setIfInBounds_toArray, List.set_cons_zero, List.set_cons_succ]
  refine wpAnyH_take (i := 9) (v := ?_) (by simp only [List.getElem?_toArray, List.getElem?_cons_succ, List.getElem?_cons_zero]; exact rfl) (by kernel_rfl) (by kernel_rfl) (by kernel_rfl) (fun _ _ _ h => h) (Or.inl ⟨by rfl, ?_⟩) (by assumption) ?_
  rotate_left 1
  · (intro w hSw; (try dsimp only at hSw); go_simp; try with_reducible rfl)
  try simp only [Act.put, List.setIfInBounds_toArray, List.set_cons_zero, List.set_cons_succ]
  refine wpAnyH_take (i := 10) (v := ?_) (by simp only [List.getElem?_toArray, List.getElem?_cons_succ, List.getElem?_cons_zero]; exact rfl) (by kernel_rfl) (by kernel_rfl) (by kernel_rfl) (fun _ _ _ h => h) (Or.inl ⟨by rfl, ?_⟩) (by assumption) ?_
  rotate_left 1
  · (intro w hSw; (try dsimp only at hSw); go_simp; try with_reducible rfl)
  try simp only [Act.put, List.setIfInBounds_toArray, List.set_cons_zero, List.set_cons_succ]
  refine wpAnyH_take (i := 13) (v := ?_) (by simp only [List.getElem?_toArray, List.getElem?_cons_succ, List.getElem?_cons_zero]; exact rfl) (by kernel_rfl) (by kernel_rfl) (by kernel_rfl) (fun _ _ _ h => h) (Or.inl ⟨by rfl, ?_⟩) (by assumption) ?_
  rotate_left 1
  · (intro w hSw; (try dsimp only at hSw); go_simp; try with_reducible rfl)
  try simp only [Act.put, List.setIfInBounds_toArray, List.set_cons_zero, List.set_cons_succ]
  refine wpAnyH_ready (rs := [11]) (by kernel_rfl) (by simp) ?_
  refine (AllReadyH.cons (by simp only [List.getElem?_toArray, List.getElem?_cons_succ, List.getElem?_cons_zero]; exact rfl) (fun K hK => ?_) AllReadyH.nil)
  go_simp
  refine (HBY.out x_4 HX.out).mono ?_
  rintro e x_4_11 ⟨vv, rfl, hO, hb⟩
  obtain ⟨p27, c27, rfl, hs, hp, -⟩ := hO.shape
  have HS27 := Lib.hid (And.intro hs hp)
  have HX := Lib.hid (HX.out.trans (hb.mono HX.out.size))
  clear hb hO hs hp
  go_wp2_with fail
  refine hK.out _ _ HX.out (fun hHeld => ?_)
  clear hK K
  try simp only [Act.put, List.setIfInBounds_toArray, List.set_cons_zero, List.set_cons_succ]
  refine wpAnyH_ready (rs := [12, 14]) (by kernel_rfl) (by simp) ?_
  refine (AllReadyH.cons (by simp only [List.getElem?_toArray, List.getElem?_cons_succ, List.getElem?_cons_zero]; exact rfl) (fun K hK => ?_) (AllReadyH.cons (by simp only [List.getElem?_toArray, List.getElem?_cons_succ, List.getElem?_cons_zero]; exact rfl) (fun K hK => ?_) AllReadyH.nil))
  · have hcs := conv_str x_4_11 p27 E _ c27 HS27.out.1 rfl HS27.out.2
    go_simp
    clear hcs
    refine hK.out _ _ HX.out (fun hHeld => ?_)
    clear hK K
    try simp only [Act.put, List.setIfInBounds_toArray, List.set_cons_zero, List.set_cons_succ]
    refine wpAnyH_ready (rs := [14]) (by kernel_rfl) (by simp) ?_
    refine (AllReadyH.cons (by simp only [List.getElem?_toArray, List.getElem?_cons_succ, List.getElem?_cons_zero]; exact rfl) (fun K hK => ?_) AllReadyH.nil)
    go_simp
    refine (HRY.out x_4_11 HX.out).mono ?_
    rintro e x_4_11_14 ⟨vv, rfl, hO, hb⟩
    obtain ⟨p30, c30, rfl, hs, hp, -⟩ := hO.shape
    have HS30 := Lib.hid (And.intro hs hp)
    have HX := Lib.hid (HX.out.trans (hb.mono HX.out.size))
    clear hb hO hs hp
    go_wp2_with fail
    refine hK.out _ _ HX.out (fun hHeld => ?_)
    clear hK K
    try simp only [Act.put, List.setIfInBounds_toArray, List.set_cons_zero, List.set_cons_succ]
    refine wpAnyH_ready (rs := [15]) (by kernel_rfl) (by simp) ?_
    refine (AllReadyH.cons (by simp only [List.getElem?_toArray, List.getElem?_cons_succ, List.getElem?_cons_zero]; exact rfl) (fun K hK => ?_) AllReadyH.nil)
    have hcs := conv_str x_4_11_14 p30 E _ c30 HS30.out.1 rfl HS30.out.2
    go_simp
    clear hcs
    refine hK.out _ _ HX.out (fun hHeld => ?_)
    clear hK K
    try simp only [Act.put, List.setIfInBounds_toArray, List.set_cons_zero, List.set_cons_succ]
    refine wpAnyH_take (i := 16) (v := ?_) (by simp only [List.getElem?_toArray, List.getElem?_cons_succ, List.getElem?_cons_zero]; exact rfl) (by kernel_rfl) (by kernel_rfl) (by kernel_rfl) (fun _ _ _ h => h) (Or.inl ⟨by rfl, ?_⟩) (by assumption) ?_
    rotate_left 1
    · (intro w hSw; (try dsimp only at hSw); go_simp; try with_reducible rfl)
    try simp only [Act.put, List.setIfInBounds_toArray, List.set_cons_zero, List.set_cons_succ]
    refine wpAnyH_take (i := 17) (v := ?_) (by simp only [List.getElem?_toArray, List.getElem?_cons_succ, List.getElem?_cons_zero]; exact rfl) (by kernel_rfl) (by kernel_rfl) (by kernel_rfl) (fun _ _ _ h => h) (Or.inl ⟨by rfl, ?_⟩) (by assumption) ?_
    rotate_left 1
    · (intro w hSw; (try dsimp only at hSw); go_simp; try with_reducible rfl)
    try simp only [Act.put, List.setIfInBounds_toArray, List.set_cons_zero, List.set_cons_succ]
    refine wpAnyH_done (by kernel_rfl) ?_ _
    refine NoPanic.normal ?_
    clear hHeld
    exact HREST.out _ _ _ _ _ HX.out
  · go_simp
    refine (HRY.out x_4_11 HX.out).mono ?_
    rintro e x_4_11_14 ⟨vv, rfl, hO, hb⟩
    obtain ⟨p30, c30, rfl, hs, hp, -⟩ := hO.shape
    have HS30 := Lib.hid (And.intro hs hp)
    have HS27 := Lib.hid (show Sl x_4_11_14 p27 E ∧ (p27 = none → c27 = 0) from ⟨HS27.out.1.of_below hb, HS27.out.2⟩)
    have HX := Lib.hid (HX.out.trans (hb.mono HX.out.size))
    clear hb hO hs hp
    go_wp2_with fail
    refine hK.out _ _ HX.out (fun hHeld => ?_)
    clear hK K
    try simp only [Act.put, List.setIfInBounds_toArray, List.set_cons_zero, List.set_cons_succ]
    refine wpAnyH_ready (rs := [12, 15]) (by kernel_rfl) (by simp) ?_
    refine (AllReadyH.cons (by simp only [List.getElem?_toArray, List.getElem?_cons_succ, List.getElem?_cons_zero]; exact rfl) (fun K hK => ?_) (AllReadyH.cons (by simp only [List.getElem?_toArray, List.getElem?_cons_succ, List.getElem?_cons_zero]; exact rfl) (fun K hK => ?_) AllReadyH.nil))
    · have hcs := conv_str x_4_11_14 p27 E _ c27 HS27.out.1 rfl HS27.out.2
      go_simp
      clear hcs
      refine hK.out _ _ HX.out (fun hHeld => ?_)
      clear hK K
      try simp only [Act.put, List.setIfInBounds_toArray, List.set_cons_zero, List.set_cons_succ]
      refine wpAnyH_ready (rs := [15]) (by kernel_rfl) (by simp) ?_
      refine (AllReadyH.cons (by simp only [List.getElem?_toArray, List.getElem?_cons_succ, List.getElem?_cons_zero]; exact rfl) (fun K hK => ?_) AllReadyH.nil)
      have hcs := conv_str x_4_11_14 p30 E _ c30 HS30.out.1 rfl HS30.out.2
      go_simp
      clear hcs
      refine hK.out _ _ HX.out (fun hHeld => ?_)
      clear hK K
      try simp only [Act.put, List.setIfInBounds_toArray, List.set_cons_zero, List.set_cons_succ]
      refine wpAnyH_take (i := 16) (v := ?_) (by simp only [List.getElem?_toArray, List.getElem?_cons_succ, List.getElem?_cons_zero]; exact rfl) (by kernel_rfl) (by kernel_rfl) (by kernel_rfl) (fun _ _ _ h => h) (Or.inl ⟨by rfl, ?_⟩) (by assumption) ?_
      rotate_left 1
      · (intro w hSw; (try dsimp only at hSw); go_simp; try with_reducible rfl)
      try simp only [Act.put, List.setIfInBounds_toArray, List.set_cons_zero, List.set_cons_succ]
      refine wpAnyH_take (i := 17) (v := ?_) (by simp only [List.getElem?_toArray, List.getElem?_cons_succ, List.getElem?_cons_zero]; exact rfl) (by kernel_rfl) (by kernel_rfl) (by kernel_rfl) (fun _ _ _ h => h) (Or.inl ⟨by rfl, ?_⟩) (by assumption) ?_
      rotate_left 1
      · (intro w hSw; (try dsimp only at hSw); go_simp; try with_reducible rfl)
      try simp only [Act.put, List.setIfInBounds_toArray, List.set_cons_zero, List.set_cons_succ]
      refine wpAnyH_done (by kernel_rfl) ?_ _
      refine NoPanic.normal ?_
      clear hHeld
      exact HREST.out _ _ _ _ _ HX.out
    · have hcs := conv_str x_4_11_14 p30 E _ c30 HS30.out.1 rfl HS30.out.2
      go_simp
      clear hcs
      refine hK.out _ _ HX.out (fun hHeld => ?_)
      clear hK K
      try simp only [Act.put, List.setIfInBounds_toArray, List.set_cons_zero, List.set_cons_succ]
      refine wpAnyH_ready (rs := [12]) (by kernel_rfl) (by simp) ?_
      refine (AllReadyH.cons (by simp only [List.getElem?_toArray, List.getElem?_cons_succ, List.getElem?_cons_zero]; exact rfl) (fun K hK => ?_) AllReadyH.nil)
      have hcs := conv_str x_4_11_14 p27 E _ c27 HS27.out.1 rfl HS27.out.2
      go_simp
      clear hcs
      refine hK.out _ _ HX.out (fun hHeld => ?_)
      clear hK K
      try simp only [Act.put, List.setIfInBounds_toArray, List.set_cons_zero, List.set_cons_succ]
      refine wpAnyH_take (i := 16) (v := ?_) (by simp only [List.getElem?_toArray, List.getElem?_cons_succ, List.getElem?_cons_zero]; exact rfl) (by kernel_rfl) (by kernel_rfl) (by kernel_rfl) (fun _ _ _ h => h) (Or.inl ⟨by rfl, ?_⟩) (by assumption) ?_
      rotate_left 1
      · (intro w hSw; (try dsimp only at hSw); go_simp; try with_reducible rfl)
      try simp only [Act.put, List.setIfInBounds_toArray, List.set_cons_zero, List.set_cons_succ]
      refine wpAnyH_take (i := 17) (v := ?_) (by simp only [List.getElem?_toArray, List.getElem?_cons_succ, List.getElem?_cons_zero]; exact rfl) (by kernel_rfl) (by kernel_rfl) (by kernel_rfl) (fun _ _ _ h => h) (Or.inl ⟨by rfl, ?_⟩) (by assumption) ?_
      rotate_left 1
      · (intro w hSw; (try dsimp only at hSw); go_simp; try with_reducible rfl)
      try simp only [Act.put, List.setIfInBounds_toArray, List.set_cons_zero, List.set_cons_succ]
      refine wpAnyH_done (by kernel_rfl) ?_ _
      refine NoPanic.normal ?_
      clear hHeld
      exact HREST.out _ _ _ _ _ HX.out
end Go.Proofs.YtllpcllgliknpaaGreatDoor
