/- darnerref14.Put. -/
import Derived.Test.YtcgilacmdckbfaaDoorRdr14
import Derived.Test.YtcgilacmdckbfaaDoorRefK7
import Derived.Test.YtcgilacmdckbfaaDoorPut14
set_option linter.unusedSimpArgs false
set_option maxRecDepth 100000
set_option linter.unusedVariables false
namespace Go.Proofs.YtcgilacmdckbfaaDoor
open Go Go.RowKit

def putR (M : List Rf) (p : S8) (n : Int) : List Rf := if putC p n = 0 then dropR M p ++ [⟨p, n.toNat, 0, -1⟩] else M
/-- What the document's Put leaves. -/
def RptP (w : World) (q : Option Addr) (n cap : Nat) (ck : Int) (M : List Rf) (p : S8) (z : Int) (e : Ending) (w' : World) : Prop :=
  ∃ q' n' cap', e = .returned (.tuple #[.agg #[.slice q' n' cap', .int .i64 ck], .int .i64 (putC p z)]) ∧ RLs w' q' n' cap' (putR M p z) ∧ Below w.heap.size w w' ∧ NewL w q q' n n' cap cap' M (putR M p z)
theorem twoSet {w : World} {b : Nat} {x y u v : Value} {t : TypeId} (h : w.heap[b]? = some (.cells #[x, y] t (0, 0))) : ((w.setCell ⟨b, 0, none⟩ u).setCell ⟨b, 1, none⟩ v).heap[b]? = some (.cells #[u, v] t (0, 0)) := by
  simp [World.setCell, Array.getElem?_modify, h]
theorem twoCells {w : World} {b : Nat} {x y : Value} {t : TypeId} (h : w.heap[b]? = some (.cells #[x, y] t (0, 0))) : w.cell? ⟨b, 0, none⟩ = some x ∧ w.cell? ⟨b, 1, none⟩ = some y ∧ w.frozen? ⟨b, 0, none⟩ = false ∧ w.frozen? ⟨b, 1, none⟩ = false := by
  refine ⟨?_, ?_, ?_, ?_⟩ <;> simp [World.cell?, World.frozen?, h]
theorem twoKp (w : World) (b : Nat) (u v : Value) : KpF (fun g => g = b) w ((w.setCell ⟨b, 0, none⟩ u).setCell ⟨b, 1, none⟩ v) :=
  (KpF.setCell (S := fun g => g = b) w ⟨b, 0, none⟩ u rfl).trans (KpF.setCell (S := fun g => g = b) _ ⟨b, 1, none⟩ v rfl)
set_option maxHeartbeats 4000000 in
theorem refPut_any {w : World} {q : Option Addr} {n cap : Nat} {M : List Rf} (ck : Int) (p : S8) (z : Int) (hz1 : -9223372036854775808 ≤ z) (hz2 : z < 9223372036854775808) (hp : p.length < 100000) (h : RLs w q n cap M) (hn : n < 1000000) (hnd : (M.map (·.path)).Nodup) :
    Calls Tryd.prog 9 #[.agg #[.slice q n cap, .int .i64 ck], .string (mkS p), .int .i64 z] w (fun e w' => RptP w q n cap ck M p z e w') := by
  obtain ⟨bx, hbx⟩ : ∃ b, w.heap.size = b := ⟨_, rfl⟩
  obtain ⟨W1, hW1⟩ : ∃ W, (w.alloc (.cells #[.slice q n cap, .int .i64 ck] TL14)).alloc (.cells #[.slice none 0 0, .int .i64 0] TL14) = W := ⟨_, rfl⟩
  have hB1 : Below w.heap.size w W1 := by rw [← hW1]; exact ((Below.refl _ w).alloc (Nat.le_refl _) _).alloc (by simp) _
  have hh1 : W1.heap[bx]? = some (.cells #[.slice q n cap, .int .i64 ck] TL14 (0, 0)) ∧ W1.heap[bx + 1]? = some (.cells #[.slice none 0 0, .int .i64 0] TL14 (0, 0)) := by
    rw [← hW1, ← hbx]
    refine ⟨?_, ?_⟩
    · rw [Below.heap_alloc _ _ _ (by simp)]; exact World.alloc_heap_new _ _
    · have := World.alloc_heap_new (w.alloc (.cells #[.slice q n cap, .int .i64 ck] TL14)) (.cells #[.slice none 0 0, .int .i64 0] TL14)
      rw [World.size_alloc] at this
      exact this
  have HH := Lib.hid (fun u (hu : Below W1.heap.size W1 u) => (show u.heap[bx]? = some (.cells #[.slice q n cap, .int .i64 ck] TL14 (0, 0)) ∧ u.heap[bx + 1]? = some (.cells #[.slice none 0 0, .int .i64 0] TL14 (0, 0)) from ⟨(hu.block bx (Array.getElem?_eq_some_iff.1 hh1.1).1).trans hh1.1, (hu.block (bx + 1) (Array.getElem?_eq_some_iff.1 hh1.2).1).trans hh1.2⟩))
  have HL := Lib.hid (fun u (hu : Below w.heap.size w u) => h.of_below hu)
  have HKD := Lib.hid (refKind_any p hp W1)
  have HB1 := Lib.hid hB1
  have HBX := Lib.hid hbx
  have HDR := Lib.hid (fun u (hu : Below w.heap.size w u) => refDrop_any ck p (h.of_below hu) (by omega) hnd)
  have HNN := Lib.hid h.1
  obtain ⟨K, hK⟩ : ∃ K, kindL p = K := ⟨_, rfl⟩
  rw [hK] at HKD
  have HK := Lib.hid hK
  have HE := Lib.hid (show ∀ (c : Int) (w2 : World), putC p z = c → c ≠ 0 → Below W1.heap.size W1 w2 → ∀ tmps : Array Value, tmps.getD 6 undef = .pointer (some ⟨bx + 1, 0, none⟩) → tmps.getD 7 undef = .int .i64 c →
      bodyPost Tryd.prog Tryd.f9 (fun e w' => RptP w q n cap ck M p z e w') .ret ⟨tmps, []⟩ ((w2.setCell ⟨bx + 1, 0, none⟩ (.slice q n cap)).setCell ⟨bx + 1, 1, none⟩ (.int .i64 ck)) from fun c w2 hc hc0 hB2 tmps h6 h7 => by
    have h3 := HB1.out.trans (hB2.mono HB1.out.size)
    have hb : Below w.heap.size w ((w2.setCell ⟨bx + 1, 0, none⟩ (.slice q n cap)).setCell ⟨bx + 1, 1, none⟩ (.int .i64 ck)) := h3.trans ((twoKp w2 (bx + 1) _ _).below (fun k hk => by have := HBX.out; omega) h3.size)
    refine bodyPost_ret (resL2 rfl _ _ (bx + 1) (.slice q n cap) (.int .i64 ck) (.int .i64 c) h6 h7 (twoSet (HH.out w2 hB2).2) rfl rfl) rfl ?_
    exact ⟨q, n, cap, by rw [hc], by unfold putR; rw [hc, if_neg hc0]; exact HL.out _ hb, hb, .inl ⟨rfl, rfl, rfl, by unfold putR; rw [hc, if_neg hc0]⟩⟩)
  clear h hB1 hh1 hK
  by_cases h3 : K = 3
  · by_cases h0 : z < 0
    · have g0 : decide (z < 0) = true := decide_eq_true h0
      have hc : putC p z = 1 := by unfold putC; rw [if_neg (by rw [HK.out]; omega), if_pos (.inl h0)]
      have HC := Lib.hid hc
      subst h3
      clear hc
      go_enter Tryd.func9, Tryd.ntmps9
      go_wp2_with fail
      refine HKD.out.mono ?_
      rintro e w2 ⟨rfl, hB2⟩
      obtain ⟨k0, k1, -, -⟩ := twoCells (HH.out w2 hB2).1
      obtain ⟨j0, j1, j2, j3⟩ := twoCells (HH.out w2 hB2).2
      have HB2 := Lib.hid hB2
      clear hB2 hW1 hbx
      go_wp2
      exact HE.out 1 w2 HC.out (by decide) HB2.out _ rfl rfl
    · have g0 : decide (z < 0) = false := decide_eq_false h0
      by_cases h1 : 64 < z
      · have g1 : decide (64 < z) = true := decide_eq_true h1
        have hc : putC p z = 1 := by unfold putC; rw [if_neg (by rw [HK.out]; omega), if_pos (.inr h1)]
        have HC := Lib.hid hc
        subst h3
        clear hc
        go_enter Tryd.func9, Tryd.ntmps9
        go_wp2_with fail
        refine HKD.out.mono ?_
        rintro e w2 ⟨rfl, hB2⟩
        obtain ⟨k0, k1, -, -⟩ := twoCells (HH.out w2 hB2).1
        obtain ⟨j0, j1, j2, j3⟩ := twoCells (HH.out w2 hB2).2
        have HB2 := Lib.hid hB2
        clear hB2 hW1 hbx
        go_wp2
        exact HE.out 1 w2 HC.out (by decide) HB2.out _ rfl rfl
      · have g1 : decide (64 < z) = false := decide_eq_false h1
        have hc : putC p z = 0 := by unfold putC; rw [if_neg (by rw [HK.out]; omega), if_neg (by omega)]
        have HC := Lib.hid hc
        obtain ⟨Z, hZ⟩ : ∃ N : Nat, (N : Int) = z := ⟨z.toNat, by omega⟩
        subst h3 hZ
        clear hc HE
        go_enter Tryd.func9, Tryd.ntmps9
        go_wp2_with fail
        refine HKD.out.mono ?_
        rintro e w2 ⟨rfl, hB2⟩
        obtain ⟨k0, k1, -, -⟩ := twoCells (HH.out w2 hB2).1
        obtain ⟨j0, j1, j2, j3⟩ := twoCells (HH.out w2 hB2).2
        have HB2 := Lib.hid hB2
        clear hB2 hW1 hbx
        go_wp2_with fail
        refine (HDR.out w2 (HB1.out.trans (HB2.out.mono HB1.out.size))).mono ?_
        rintro e w3 ⟨q3, n3, c3, rfl, hR3, hB3, -⟩
        have HR3 := Lib.hid hR3
        have HB3 := Lib.hid hB3
        generalize dropC M p = dc
        clear hR3 hB3 k0 k1 j0 j1 j2 j3
        obtain ⟨W4, hW4⟩ : ∃ W, w3.alloc (.cells #[.slice q3 n3 c3, .int .i64 ck] TL14) = W := ⟨_, rfl⟩
        have hB4 : Below w3.heap.size w3 W4 := by rw [← hW4]; exact (Below.refl _ w3).alloc (Nat.le_refl _) _
        obtain ⟨bm, hbm⟩ : ∃ y, w3.heap.size = y := ⟨_, rfl⟩
        have hh4 : W4.heap[bm]? = some (.cells #[.slice q3 n3 c3, .int .i64 ck] TL14 (0, 0)) := by rw [← hW4, ← hbm]; exact World.alloc_heap_new _ _
        obtain ⟨W5, hW5⟩ : ∃ W, W4.alloc (.cells #[] ER) = W := ⟨_, rfl⟩
        have hB5 : Below w3.heap.size w3 W5 := by rw [← hW5]; exact hB4.alloc hB4.size _
        have hO5 := own_empty (E := ER) (k := 4) W4 W4.heap.size (Nat.le_refl _)
        rw [hW5] at hO5
        have hbl : bm < W4.heap.size := (Array.getElem?_eq_some_iff.1 hh4).1
        have hh5 : W5.heap[bm]? = some (.cells #[.slice q3 n3 c3, .int .i64 ck] TL14 (0, 0)) := by rw [← hW5, Below.heap_alloc _ _ _ hbl]; exact hh4
        obtain ⟨y0, y1, -, -⟩ := twoCells hh5
        have HO5 := Lib.hid (And.intro hO5 (And.intro hB5 (And.intro hh5 (And.intro hbl (show W4.heap.size ≤ W5.heap.size by rw [← hW5]; simp)))))
        have hr5 := HR3.out.of_below hB5
        have HR5 := Lib.hid hr5
        have hn3 : n3 < 2000000 := by
          have h1 := hr5.1
          have h2 := List.length_filter_le (fun x : Rf => decide (x.path ≠ p)) M
          have h3 := HNN.out
          unfold dropR at h1
          omega
        have HBM := Lib.hid (show w3.heap.size = bm ∧ bm < W4.heap.size from ⟨hbm, hbl⟩)
        clear hB4 hh4 hB5 hO5 hh5 hr5 hbl
        go_wp2_with (first | (refine wpl_appendK elR14 W5 rfl (.tmp 27) (.tmp 29) rfl W4.heap.size (n := 0) (v := .slice (some ⟨W4.heap.size, 0, none⟩) 0 0) (cs := []) rfl HO5.out.1 q3 n3 c3 (rfsC (dropR M p)) (by rw [rfsC_len, HR5.out.1]) rfl HR5.out.2.1 (fun e => ⟨HR5.out.2.2.1 e, by have h1 := HR5.out.2.2.1 e; have h2 := HR5.out.2.2.2; omega⟩) (rfsC_oneCell _) (by omega) HO5.out.2.2.2.2 ?_; rintro v6 w6 hO6 hg6 -; rw [List.nil_append, Nat.zero_add] at hO6; have hb6 : Below W4.heap.size W5 w6 := (Below.refl W4.heap.size W5).grown hg6 HO5.out.2.2.2.2 (fun g hg => (HO5.out.1.lt g hg).1); have HO6 := Lib.hid (And.intro hO6 hb6); obtain ⟨p6, k6, e6, -⟩ := own_shape hO6; subst e6; clear hO6 hg6 hb6) | (refine (id ?_ : wpList _ _ _ (⟨some 35, _, _, _, _, _⟩ :: _) _ _); generalize hG : wpList _ _ _ (_ :: _) _ _ = G))
        rw [← hG]
        clear hG
        refine wpl_appendK elR14 (w6.alloc (.cells #[.string (mkS p), .int .i64 (Z : Int), .int .i64 0, .int .i64 (-1)] ER)) rfl (.tmp 30) (.tmp 34) rfl W4.heap.size (n := n3) (v := .slice p6 n3 k6) (cs := rfsC (dropR M p)) rfl (own_below HO6.out.1 ((Below.refl _ _).alloc (Nat.le_refl _) _)) (some ⟨w6.heap.size, 0, none⟩) 1 1 (rfC ⟨p, Z, 0, -1⟩) rfl rfl (LsC.made w6 (rfC ⟨p, Z, 0, -1⟩) ER) (fun h => by cases h) (fun u hu => rfsC_oneCell [⟨p, Z, 0, -1⟩] u (by rw [rfsC_one]; exact hu)) (by omega) (Nat.le_trans HO5.out.2.2.2.2 (Nat.le_trans HO6.out.2.size (by simp))) ?_
        rintro v8 w8 hO8 hg8 -
        rw [← rfsC_one, ← rfsC_app] at hO8
        have hb8 : Below W4.heap.size W5 w8 := (HO6.out.2.alloc (Nat.le_trans HO5.out.2.2.2.2 HO6.out.2.size) _).grown hg8 (Nat.le_trans HO5.out.2.2.2.2 (Nat.le_trans HO6.out.2.size (by simp))) (fun g hg => (HO6.out.1.lt g hg).1)
        have HO8 := Lib.hid (And.intro hO8 hb8)
        obtain ⟨p8, k8, e8, -⟩ := own_shape hO8
        subst e8
        have hm8 := (hb8.block bm HO5.out.2.2.2.1).trans HO5.out.2.2.1
        obtain ⟨z0, z1, z2, z3⟩ := twoCells hm8
        have h28 := (HH.out w2 HB2.out).2
        have hj8 : w8.heap[bx + 1]? = some (.cells #[.slice none 0 0, .int .i64 0] TL14 (0, 0)) := ((HB3.out.trans (HO5.out.2.1.mono HB3.out.size)).trans (hb8.mono (Nat.le_trans HB3.out.size (by have := HBM.out; omega)))).block (bx + 1) (Array.getElem?_eq_some_iff.1 h28).1 |>.trans h28
        have hlt2 : bx + 1 < bm := by have h1 := (Array.getElem?_eq_some_iff.1 h28).1; have h2 := HB3.out.size; have h3 := HBM.out; omega
        obtain ⟨W9, hW9⟩ : ∃ W, w8.setCell ⟨bm, 0, none⟩ (.slice p8 (n3 + 1) k8) = W := ⟨_, rfl⟩
        have hk9 : KpF (fun g => g = bm) w8 W9 := by rw [← hW9]; exact KpF.setCell w8 ⟨bm, 0, none⟩ _ rfl
        have hm9 : W9.heap[bm]? = some (.cells #[.slice p8 (n3 + 1) k8, .int .i64 ck] TL14 (0, 0)) := by rw [← hW9]; simp [World.setCell, Array.getElem?_modify, hm8]
        have hj9 : W9.heap[bx + 1]? = some (.cells #[.slice none 0 0, .int .i64 0] TL14 (0, 0)) := by rw [← hW9]; simp [World.setCell, Array.getElem?_modify, hj8, Nat.ne_of_lt hlt2, Nat.ne_of_gt hlt2]
        obtain ⟨x0, x1, -, -⟩ := twoCells hm9
        obtain ⟨t0, t1, t2, t3⟩ := twoCells hj9
        have HJ := Lib.hid (And.intro hk9 (And.intro hm9 (And.intro hj9 hlt2)))
        clear hO8 hg8 hb8 hm8 hj8 h28 hk9 hm9 hj9 hlt2
        go_wp2
        have hK10 := twoKp W9 (bx + 1) (.slice p8 (n3 + 1) k8) (.int .i64 ck)
        have hh10 := twoSet (u := .slice p8 (n3 + 1) k8) (v := .int .i64 ck) HJ.out.2.2.1
        have hlo := HBM.out.2
        have hlt2 := HJ.out.2.2.2
        have hO9 := own_kpF HO8.out.1 HJ.out.1 (fun g hg hc => by have := (HO8.out.1.lt g hg).1; omega)
        have hO10 := own_kpF hO9 hK10 (fun g hg hc => by have := (HO8.out.1.lt g hg).1; omega)
        have hb3 : Below w.heap.size w w3 := (HB1.out.trans (HB2.out.mono HB1.out.size)).trans (HB3.out.mono (HB1.out.trans (HB2.out.mono HB1.out.size)).size)
        have hb8 : Below w.heap.size w w8 := (hb3.trans (HO5.out.2.1.mono hb3.size)).trans (HO8.out.2.mono (by have h1 := hb3.size; have h2 := HBM.out; omega))
        have hb9 : Below w.heap.size w W9 := hb8.trans (HJ.out.1.below (fun k hk => by have := HBX.out; omega) hb8.size)
        have hb10 := hb9.trans (hK10.below (N := w.heap.size) (fun k hk => by have := HBX.out; omega) hb9.size)
        refine bodyPost_ret (resL2 rfl _ _ (bx + 1) (.slice p8 (n3 + 1) k8) (.int .i64 ck) (.int .i64 0) rfl rfl hh10 rfl rfl) rfl ?_
        obtain ⟨p9, k9, e9, hL9, hn9, hc9, hb9'⟩ := own_shape hO10
        cases e9
        refine ⟨_, _, _, by rw [HC.out], ?_, hb10, .inr fun c o e => by have h1 := (hb9' c o e).1; have h2 := hb3.size; have h3 := HBM.out; omega⟩
        unfold putR
        rw [if_pos HC.out, Int.toNat_natCast]
        refine ⟨?_, hL9, hn9, hc9⟩
        rw [List.length_append, HR5.out.1]
        rfl
  · have hc : putC p z = 7 := by unfold putC; rw [if_pos (by rw [HK.out]; exact h3)]
    have HC := Lib.hid hc
    have h3' : ¬ (K : Int) = 3 := by omega
    have h3b : ((K : Int) == 3) = false := by simp; omega
    clear hc
    go_enter Tryd.func9, Tryd.ntmps9
    go_wp2_with fail
    refine HKD.out.mono ?_
    rintro e w2 ⟨rfl, hB2⟩
    obtain ⟨k0, k1, -, -⟩ := twoCells (HH.out w2 hB2).1
    obtain ⟨j0, j1, j2, j3⟩ := twoCells (HH.out w2 hB2).2
    have HB2 := Lib.hid hB2
    clear hB2 hW1 hbx
    go_wp2
    exact HE.out 7 w2 HC.out (by decide) HB2.out _ rfl rfl
end Go.Proofs.YtcgilacmdckbfaaDoor
