/- The reference's Clashes and without. -/
import Derived.Test.YtjglgohchhdkkaaGreatDoorRefa8
import Derived.Test.YtjglgohchhdkkaaGreatDoorDkp8
set_option linter.unusedSimpArgs false
set_option linter.unusedVariables false
namespace Go.Proofs.YtjglgohchhdkkaaGreatDoor
open Go Go.RowKit

set_option maxHeartbeats 2000000 in
theorem refClashes_any (l : List Fl) (q : Option Addr) (n cap : Nat) (s b : S8) (hn : n < 1000000) (hs : s.length < 100000) (hsh : ShortF l) (w : World) (h : LsF w q n cap l) : Calls Tryz.prog 36 #[.slice q n cap, .string (mkS s), .string (mkS b)] w fun e w' => e = .returned (.bool (clashesL l s b)) ∧ w = w' := by
  have H := Lib.hid h
  have HSH := Lib.hid hsh
  obtain ⟨r, hr⟩ : ∃ r, clashesL l s b = r := ⟨_, rfl⟩
  rw [hr]
  have HR := Lib.hid hr
  clear h hr hsh
  go_enter Tryz.func36, Tryz.ntmps36
  go_wp2
  go_loopw [7, 10] (fun v7 v10 wr => ∃ k : Nat, k ≤ n ∧ v10 = .int .i64 k ∧ (∀ j, j < k → ((l.getD j fl0).p != b && clashL (l.getD j fl0).p s) = false) ∧ w = wr) (fun v7 v10 _ => n - (intOf v10).toNat)
  case atStart => exact ⟨0, Nat.zero_le _, rfl, fun j h => absurd h (by omega), rfl⟩
  case round =>
    obtain ⟨k, hk, rfl, hno, rfl⟩ := hrel
    have HNO := Lib.hid hno
    clear hno
    by_cases hlt : k < n
    · have z1 : (k : Int) < (n : Int) := by omega
      have z2 : decide ((k : Int) < (n : Int)) = true := decide_eq_true z1
      have hw := i64s k (by omega)
      obtain ⟨c0, o0, hpe, _, hx⟩ := H.out.path hlt
      subst hpe
      have hxl := HSH.out k
      have hkl : k < l.length := by rw [H.out.len]; exact hlt
      have hgd : l.getD k fl0 = l[k] := by rw [List.getD_eq_getElem?_getD, List.getElem?_eq_getElem hkl]; rfl
      have HIT := Lib.hid (show ((l.getD k fl0).p != b && clashL (l.getD k fl0).p s) = true → clashesL l s b = true from fun e => by
        unfold clashesL
        rw [List.any_eq_true]
        exact ⟨l[k], List.getElem_mem hkl, by rw [← hgd]; exact e⟩)
      have HNX := Lib.hid (show ((l.getD k fl0).p != b && clashL (l.getD k fl0).p s) = false → ∀ j, j < k + 1 → ((l.getD j fl0).p != b && clashL (l.getD j fl0).p s) = false from fun e j h => by
        rcases Nat.lt_succ_iff_lt_or_eq.1 h with h | h
        · exact HNO.out j h
        · rw [h]; exact e)
      clear hgd hkl
      obtain ⟨x, hxx⟩ : ∃ x, (l.getD k fl0).p = x := ⟨_, rfl⟩
      rw [hxx] at hx hxl HIT HNX
      have HC := Lib.hid (fun u => refClash8_any x s (by omega) hs u)
      clear hxx hxl
      by_cases hxb : x = b
      · subst hxb
        have hq : (x != x && clashL x s) = false := by simp
        have HN2 := Lib.hid (HNX.out hq)
        clear hq
        go_wp2
        exact ⟨⟨k + 1, by omega, by go_num, HN2.out, trivial⟩, by simp [intOf]; omega⟩
      · have b1 : (x == b) = false := beq_eq_false_iff_ne.2 hxb
        cases hcl : clashL x s with
        | true =>
          rw [hcl] at HC
          obtain rfl : r = true := by rw [← HR.out]; exact HIT.out (by rw [hcl]; simp [hxb])
          clear hxb hcl
          go_wp2_with fail
          refine (HC.out _).mono ?_
          rintro e w' ⟨rfl, rfl⟩
          go_wp2
          go_ret
          exact ⟨rfl, rfl⟩
        | false =>
          rw [hcl] at HC
          have HN2 := Lib.hid (HNX.out (by rw [hcl]; simp))
          clear hxb hcl
          go_wp2_with fail
          refine (HC.out _).mono ?_
          rintro e w' ⟨rfl, rfl⟩
          go_wp2
          exact ⟨⟨k + 1, by omega, by go_num, HN2.out, trivial⟩, by simp [intOf]; omega⟩
    · obtain rfl : k = n := by omega
      have z1 : ¬ (k : Int) < (k : Int) := by omega
      have z2 : decide ((k : Int) < (k : Int)) = false := decide_eq_false z1
      obtain rfl : r = false := by
        rw [← HR.out]
        unfold clashesL
        rw [List.any_eq_false]
        intro f hf
        obtain ⟨j, hj, rfl⟩ := List.getElem_of_mem hf
        have := HNO.out j (by rw [← H.out.len]; exact hj)
        rw [show l.getD j fl0 = l[j] by rw [List.getD_eq_getElem?_getD, List.getElem?_eq_getElem hj]; rfl] at this
        rw [this]; simp
      go_wp2
      go_ret
      exact ⟨rfl, rfl⟩
/-- A list of files of the call's own. -/
def OwnF (w : World) (base : Nat) (v : Value) (l : List Fl) : Prop := w.ownsRow base 71 5 v l.length (l.flatMap encF)
theorem OwnF.shape {w : World} {base : Nat} {v : Value} {l : List Fl} (h : OwnF w base v l) : ∃ p cap, v = .slice p l.length cap ∧ LsF w p l.length cap l ∧ ∀ c o, p = some ⟨c, o, none⟩ → base ≤ c ∧ c < w.heap.size := by
  obtain ⟨p, cap, e, h1, h2, h3, h4⟩ := own_shape h
  exact ⟨p, cap, e, ⟨h1, rfl, h2, h3⟩, h4⟩
def keepF (p : S8) (cl : Bool) (f : Fl) : Bool := f.p != p && !(cl && clashL f.p p)
theorem withoutL_take (l : List Fl) (p : S8) (cl : Bool) (k : Nat) (hk : k < l.length) : withoutL (l.take (k + 1)) p cl = withoutL (l.take k) p cl ++ (if keepF p cl (l.getD k fl0) then [l.getD k fl0] else []) := by
  have e : l.getD k fl0 = l[k] := by rw [List.getD_eq_getElem?_getD, List.getElem?_eq_getElem hk]; rfl
  rw [e, List.take_succ_eq_append_getElem hk]
  unfold withoutL
  rw [List.filter_append]
  congr 1
  show List.filter (keepF p cl) [l[k]] = _
  cases h : keepF p cl l[k] <;> simp [List.filter_cons, h]
theorem withoutL_le (l : List Fl) (p : S8) (cl : Bool) : (withoutL l p cl).length ≤ l.length := List.length_filter_le _ _
set_option maxHeartbeats 4000000 in
theorem refWithout_any (l : List Fl) (q : Option Addr) (n cap : Nat) (s : S8) (cl : Bool) (hn : n < 1000000) (hs : s.length < 100000) (hsh : ShortF l) (w : World) (h : LsF w q n cap l) : Calls Tryz.prog 56 #[.slice q n cap, .string (mkS s), .bool cl] w fun e w' => ∃ v, e = .returned v ∧ OwnF w' w.heap.size v (withoutL l s cl) ∧ Below w.heap.size w w' := by
  have H := Lib.hid h
  have HSH := Lib.hid hsh
  clear h hsh
  go_enter Tryz.func56, Tryz.ntmps56
  go_wp2
  go_loopw [7, 8, 11] (fun v7 v8 v11 wr => ∃ k : Nat, k ≤ n ∧ v11 = .int .i64 k ∧ OwnF wr w.heap.size v7 (withoutL (l.take k) s cl) ∧ Below w.heap.size w wr) (fun v7 v8 v11 _ => n - (intOf v11).toNat)
  case atStart => exact ⟨0, Nat.zero_le _, rfl, World.ownsRow_nil w _ _ _, Below.refl _ _⟩
  case round =>
    obtain ⟨k, hk, rfl, hown, hB⟩ := hrel
    have HB := Lib.hid hB
    by_cases hlt : k < n
    · have z1 : (k : Int) < (n : Int) := by omega
      have z2 : decide ((k : Int) < (n : Int)) = true := decide_eq_true z1
      have hw := i64s k (by omega)
      have H2 := Lib.hid (H.out.of_below hB)
      obtain ⟨c0, o0, hpe, hc0, hx⟩ := H2.out.path hlt
      subst hpe
      have hxl := HSH.out k
      have hkl : k < l.length := by rw [H.out.len]; exact hlt
      have HT := Lib.hid (withoutL_take l s cl k hkl)
      have HLE := Lib.hid (show (withoutL (l.take k) s cl).length ≤ n from by have := withoutL_le (l.take k) s cl; rw [List.length_take] at this; omega)
      obtain ⟨f, hf⟩ : ∃ f, l.getD k fl0 = f := ⟨_, rfl⟩
      rw [hf] at hx hxl HT
      obtain ⟨x, fb, fs, ft, fc⟩ := f
      have hF := fun j u (hu : (encF ⟨x, fb, fs, ft, fc⟩)[j]? = some u) => (by
        obtain ⟨c1, o1, e1, _, h1⟩ := H2.out.cell (i := k) (j := j) hlt (by rw [hf]; exact hu)
        injection e1 with e1
        injection e1 with e1 e2
        subst e1 e2
        rw [← Nat.add_assoc] at h1
        exact h1 : wr.cell? ⟨c0, o0 + k * 5 + j, none⟩ = some u)
      have f1 := hF 1 _ rfl
      have f2 := hF 2 _ rfl
      have f3 := hF 3 _ rfl
      have f4 := hF 4 _ rfl
      have HC := Lib.hid (fun u => refClash8_any x s (by exact Nat.lt_of_le_of_lt hxl (by decide)) hs u)
      have HK := Lib.hid (show keepF s cl ⟨x, fb, fs, ft, fc⟩ = (x != s && !(cl && clashL x s)) from rfl)
      have hNL : (withoutL (l.take k) s cl).length + 1 < 100000000 := by have := HLE.out; omega
      have hNW : w.heap.size ≤ (wr.alloc (.cells (encF ⟨x, fb, fs, ft, fc⟩).toArray 71)).heap.size := by have := hB.size; simp; omega
      have HND := Lib.hid (And.intro hNL hNW)
      obtain ⟨P, cap7, hv7, hls, hpl⟩ := hown.shape
      have HBW := Lib.hid (show Below wr.heap.size wr (wr.alloc (.cells (encF ⟨x, fb, fs, ft, fc⟩).toArray 71)) from (Below.refl _ _).alloc (Nat.le_refl _) _)
      have HOW := Lib.hid (own_below hown HBW.out)
      have HOWN := Lib.hid hown
      have HMD := Lib.hid (LsC.made wr (encF ⟨x, fb, fs, ft, fc⟩) 71)
      have HBX := Lib.hid (hB.alloc hB.size (.cells (encF ⟨x, fb, fs, ft, fc⟩).toArray 71))
      subst hv7
      clear hown hls hpl hF hf hxl hNL hNW hB
      by_cases hxs : x = s
      · subst hxs
        have HNK := Lib.hid (show keepF x cl ⟨x, fb, fs, ft, fc⟩ = false from by rw [HK.out]; simp)
        clear f1 f2 f3 f4
        go_wp2
        exact ⟨⟨k + 1, by omega, by go_num, by rw [HT.out, HNK.out, if_neg (by decide), List.append_nil]; exact HOWN.out, HB.out⟩, by simp [intOf]; omega⟩
      · have b1 : (x == s) = false := beq_eq_false_iff_ne.2 hxs
        have HKX := Lib.hid (show keepF s cl ⟨x, fb, fs, ft, fc⟩ = !(cl && clashL x s) from by rw [HK.out]; simp [hxs])
        clear hxs
        cases cl with
        | false =>
          have HNK := Lib.hid (show keepF s false ⟨x, fb, fs, ft, fc⟩ = true from by rw [HKX.out]; rfl)
          go_wp2_with (first | (refine wpl_appendK elF _ rfl (.tmp 34) (.tmp 39) rfl w.heap.size rfl HOW.out (some ⟨wr.heap.size, 0, none⟩) 1 1 (encF ⟨x, fb, fs, ft, fc⟩) rfl rfl HMD.out (fun e => by cases e) (encF_one _) HND.out.1 HND.out.2 ?_; rintro v4 w4 hO4 hg4 _; have HO4 := Lib.hid hO4; have HB4 := Lib.hid (HBX.out.grown hg4 HND.out.2 (fun g hg => (HOW.out.lt g hg).1)); clear hO4 hg4))
          exact ⟨⟨k + 1, by omega, by go_num, by rw [HT.out, HNK.out, if_pos rfl]; unfold OwnF; rw [List.length_append, List.flatMap_append]; simpa using HO4.out, HB4.out⟩, by simp [intOf]; omega⟩
        | true =>
          cases hcl : clashL x s with
          | true =>
            rw [hcl] at HC
            have HNK := Lib.hid (show keepF s true ⟨x, fb, fs, ft, fc⟩ = false from by rw [HKX.out, hcl]; rfl)
            clear hcl f1 f2 f3 f4
            go_wp2_with fail
            refine (HC.out _).mono ?_
            rintro e w' ⟨rfl, rfl⟩
            go_wp2
            exact ⟨⟨k + 1, by omega, by go_num, by rw [HT.out, HNK.out, if_neg (by decide), List.append_nil]; exact HOWN.out, HB.out⟩, by simp [intOf]; omega⟩
          | false =>
            rw [hcl] at HC
            have HNK := Lib.hid (show keepF s true ⟨x, fb, fs, ft, fc⟩ = true from by rw [HKX.out, hcl]; rfl)
            clear hcl
            go_wp2_with fail
            refine (HC.out _).mono ?_
            rintro e w' ⟨rfl, rfl⟩
            go_wp2_with (first | (refine wpl_appendK elF _ rfl (.tmp 34) (.tmp 39) rfl w.heap.size rfl HOW.out (some ⟨wr.heap.size, 0, none⟩) 1 1 (encF ⟨x, fb, fs, ft, fc⟩) rfl rfl HMD.out (fun e => by cases e) (encF_one _) HND.out.1 HND.out.2 ?_; rintro v4 w4 hO4 hg4 _; have HO4 := Lib.hid hO4; have HB4 := Lib.hid (HBX.out.grown hg4 HND.out.2 (fun g hg => (HOW.out.lt g hg).1)); clear hO4 hg4))
            exact ⟨⟨k + 1, by omega, by go_num, by rw [HT.out, HNK.out, if_pos rfl]; unfold OwnF; rw [List.length_append, List.flatMap_append]; simpa using HO4.out, HB4.out⟩, by simp [intOf]; omega⟩
    · obtain rfl : k = n := by omega
      have z1 : ¬ (k : Int) < (k : Int) := by omega
      have z2 : decide ((k : Int) < (k : Int)) = false := decide_eq_false z1
      have ht : l.take k = l := List.take_of_length_le (by rw [H.out.len]; exact Nat.le_refl _)
      rw [ht] at hown
      have HOWN := Lib.hid hown
      clear hown hB ht
      go_wp2
      go_ret
      exact ⟨_, rfl, HOWN.out, HB.out⟩
end Go.Proofs.YtjglgohchhdkkaaGreatDoor
