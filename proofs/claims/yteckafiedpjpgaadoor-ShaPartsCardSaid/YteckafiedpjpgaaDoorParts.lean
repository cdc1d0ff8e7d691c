/- The statement ShaParts, walked. -/
import Derived.Test.YteckafiedpjpgaaDoorSums
set_option linter.unusedSimpArgs false
set_option linter.unusedVariables false
namespace Go.Proofs.YteckafiedpjpgaaDoor
open Go Go.RowKit

/-- Slices of bytes lie where a slice of their number begins; a nil one has no room. -/
def Prt (w : World) (p : Option Addr) (ls : List (List (BitVec 8))) : Prop :=
  ∀ i, i < ls.length → ∃ c o q cap, p = some ⟨c, o, none⟩ ∧ w.cell? ⟨c, o + i, none⟩ = some (.slice q (ls.getD i []).length cap) ∧ Sl w q (ls.getD i []) ∧ (q = none → cap = 0)
theorem Prt.sls {w : World} {p : Option Addr} {ls : List (List (BitVec 8))} (h : Prt w p ls) : Sls0 w p ls := fun i hi => by
  obtain ⟨c, o, q, cap, h1, h2, h3, _⟩ := h i hi
  exact ⟨c, o, q, cap, h1, h2, h3⟩
theorem Sls.grow {w w' : World} {b N : Nat} {p : Option Addr} {ls : List (List (BitVec 8))} (h : Sls0 w p ls) (hb : w.heap.size ≤ b) (k : Below w.heap.size w w') : Sls w' b p ls := (h.new hb).of_below k
theorem Holds.of_grown {w w' : World} {b : Nat} {T : TypeId} {l : List (BitVec 8)} {row : Option Nat} (h : Holds w b T l) (k : w.grownBy w' row) (hr : row ≠ some b) : Holds w' b T l :=
  let ⟨m, h1, h2⟩ := h; ⟨m, h1.of_block (k.block b h1.lt (fun e => hr e.symm)), h2⟩
theorem OwnB.of_grown {w w' : World} {base : Nat} {v : Value} {l : List (BitVec 8)} {row : Option Nat} (h : OwnB w base v l) (k : w.grownBy w' row) (hr : ∀ g, v.ownBlock = some g → row ≠ some g) : OwnB w' base v l :=
  h.keep fun g hg => k.block g (h.lt g hg).2 (fun e => hr g hg e.symm)
theorem OwnB.nil (w : World) (base : Nat) : OwnB w base (.slice none 0 0) [] := ⟨rfl, .inl ⟨rfl, rfl⟩⟩
theorem Prt.of_below {w w' : World} {p : Option Addr} {ls : List (List (BitVec 8))} (h : Prt w p ls) (k : Below w.heap.size w w') : Prt w' p ls := fun i hi => by
  obtain ⟨c, o, q, cap, h1, h2, h3, h4⟩ := h i hi
  exact ⟨c, o, q, cap, h1, by rw [k.cell (World.block_lt_of_cell? w _ h2)]; exact h2, h3.of_below k, h4⟩
theorem bB_xor255 (t : TypeId) (x : BitVec 8) : binOp .xor t (B x) (.int .u8 255) = pure (B (x ^^^ 255#8)) := by
  have h : bits .xor .u8 (x.toNat : Int) 255 = ((x ^^^ 255#8).toNat : Int) := by
    rw [show (255 : Int) = ((255 : Nat) : Int) from rfl, u8_xor_nat _ _ (by have := x.isLt; omega) (by decide), BitVec.toNat_xor]; rfl
  rw [B_eq', B_eq', binOp_xor, intBits_xor, h]
/-- Bytes of which the first j are turned. -/
def xo (l : List (BitVec 8)) (j : Nat) : List (BitVec 8) := (l.take j).map (· ^^^ 255#8) ++ l.drop j
theorem xo_zero (l : List (BitVec 8)) : xo l 0 = l := by simp [xo]
theorem xo_length (l : List (BitVec 8)) (j : Nat) : (xo l j).length = l.length := by simp [xo]; omega
theorem xo_at (l : List (BitVec 8)) (j : Nat) (h : j < l.length) : (xo l j).getD j 0#8 = l.getD j 0#8 := by
  unfold xo
  rw [List.getD_eq_getElem?_getD, List.getElem?_append_right (by simp; omega)]
  have : (List.map (· ^^^ 255#8) (l.take j)).length = j := by simp; omega
  rw [this, Nat.sub_self]
  simp [List.getD_eq_getElem?_getD]
theorem xo_succ (l : List (BitVec 8)) (j : Nat) (h : j < l.length) : ((xo l j).map B).set j (B (l.getD j 0#8 ^^^ 255#8)) = (xo l (j + 1)).map B := by
  apply List.ext_getElem?
  intro i
  have e : ∀ k, k ≤ l.length → (xo l k)[i]? = if i < k then (l[i]?).map (· ^^^ 255#8) else l[i]? := by
    intro k hk
    unfold xo
    by_cases hi : i < k
    · rw [List.getElem?_append_left (by simp; omega), if_pos hi]
      simp [List.getElem?_take, hi]
    · rw [List.getElem?_append_right (by simp; omega), if_neg hi]
      simp
      congr 1
      omega
  rw [List.getElem?_set, List.getElem?_map, List.getElem?_map, e j (by omega), e (j + 1) (by omega)]
  by_cases hj : j = i
  · subst hj
    rw [if_pos rfl, if_pos (by rw [List.length_map, xo_length]; exact h), if_pos (by omega)]
    simp [h, List.getD_eq_getElem?_getD]
  · rw [if_neg hj]
    by_cases h1 : i < j
    · rw [if_pos h1, if_pos (by omega)]
    · rw [if_neg h1, if_neg (by omega)]
section
variable {w : World} {base g n c : Nat} {q : Option Addr} {l : List (BitVec 8)}
theorem OwnB.cells (h : OwnB w base (.slice q n c) l) (hl : l.length = n) (hn : 0 < n) : ∃ g, q = some ⟨g, 0, none⟩ ∧ base ≤ g ∧ ∀ i, i < n → w.cell? ⟨g, i, none⟩ = some (B (l.getD i 0#8)) ∧ w.frozen? ⟨g, i, none⟩ = false := by
  rcases h.2 with ⟨hv, hl'⟩ | ⟨g, cap, cur, hv, hb, hg, hle, _, hsz, ht⟩
  · omega
  · injection hv with e1 e2 e3
    refine ⟨g, e1, hb, fun i hi => ⟨?_, ?_⟩⟩
    · rw [cell_of_row w g i cur 5 (0, 0) hg]
      have h1 : (cur.toList.take (l.length * 1))[i]? = (l.map B)[i]? := by rw [ht]
      rw [List.getElem?_take, if_pos (by omega)] at h1
      have hi' : i < l.length := by omega
      simpa [hi'] using h1
    · simp only [World.frozen?, hg]
      simp
theorem OwnB.put {j : Nat} (h : OwnB w base (.slice (some ⟨g, 0, none⟩) n c) (xo l j)) (hl : l.length = n) (hj : j < n) : OwnB (w.setCell ⟨g, j, none⟩ (B (l.getD j 0#8 ^^^ 255#8))) base (.slice (some ⟨g, 0, none⟩) n c) (xo l (j + 1)) := by
  unfold OwnB at h ⊢
  rw [xo_length, hl] at h ⊢
  have := (World.ownsRow.stored h j (B (l.getD j 0#8 ^^^ 255#8))).1
  rwa [xo_succ l j (by omega)] at this
end
attribute [local go_sem ↓] exec_alloc24 exec_nq exec_eq
attribute [local go_sem] st_newdg nq_same eq_same bB_neq bB_xor255
set_option maxRecDepth 100000 in
set_option maxHeartbeats 1000000 in
theorem parts_big (p : Option Addr) (n cap : Nat) (w : World) (hF : Ft w) (hk : Kt w) (h1w : 1 < w.heap.size) (hn : 12 < n) :
    Calls Tryd.prog 4 #[.slice p n cap] w fun e w' => e = .returned (.bool true) ∧ Below w.heap.size w w' := by
  have HF := Lib.hid hF
  have HK := Lib.hid hk
  have hd : decide ((12 : Int) < (n : Int)) = true := decide_eq_true (by omega)
  clear hF hk
  go_enter Tryd.func4, Tryd.ntmps4
  go_wp2_with fail
  refine (awake_any w HF.out HK.out h1w).mono ?_
  rintro e w1 ⟨rfl, hw1⟩
  have HB := Lib.hid hw1
  have hs1 := hw1.size
  clear hw1
  go_wp2_with fail
  refine (awake_any w1 (HF.out.of_below HB.out) (HK.out.of_below HB.out) (by omega)).mono ?_
  rintro e w2 ⟨rfl, hw2⟩
  have HB2 := Lib.hid (HB.out.trans (hw2.mono hs1))
  clear hw2
  go_wp2
  go_ret
  exact ⟨rfl, HB2.out⟩
set_option maxRecDepth 100000 in
set_option maxHeartbeats 8000000 in
theorem parts_small (ls : List (List (BitVec 8))) (p : Option Addr) (cap : Nat) (w : World) (hs : Prt w p ls) (hF : Ft w) (hk : Kt w) (h1w : 1 < w.heap.size) (hn : ls.length ≤ 12) :
    Calls Tryd.prog 4 #[.slice p ls.length cap] w fun e w' => e = .returned (.bool true) ∧ Below w.heap.size w w' := by
  have HF := Lib.hid hF
  have HK := Lib.hid hk
  have HS := Lib.hid hs
  clear hF hk hs
  generalize hL : ls.length = n at *
  have HL := Lib.hid hL
  have hd : decide ((12 : Int) < (n : Int)) = false := decide_eq_false (by omega)
  clear hL
  go_enter Tryd.func4, Tryd.ntmps4
  go_wp2_with fail
  refine (awake_any w HF.out HK.out h1w).mono ?_
  rintro e w1 ⟨rfl, hw1⟩
  have HB := Lib.hid hw1
  have hs1 := hw1.size
  clear hw1
  go_wp2_with fail
  refine (new_any w1 (HF.out.of_below HB.out)).mono ?_
  rintro e w2 ⟨hb, rfl, hhb, hH, hB2⟩
  have HH := Lib.hid hH
  have HB2 := Lib.hid (HB.out.trans (hB2.mono hs1))
  have hlt := hH.lt
  have hs2 := HB2.out.size
  clear hH hB2
  have HP := Lib.hid (show Prt w2 p ls ∧ True from ⟨(HS.out.of_below HB2.out), trivial⟩)
  go_wp2_with fail
  generalize hBase : w2.heap.size = base at *
  have HBase := Lib.hid hBase
  clear hBase
  go_loopw [4, 23] (fun v i wr => ∃ k : Nat, k ≤ n ∧ i = .int .i64 k ∧ (∃ q c, v = .slice q (ls.take k).flatten.length c) ∧ OwnB wr base v (ls.take k).flatten ∧ Holds wr hb 46 (ls.take k).flatten ∧ Below w.heap.size w wr ∧ base ≤ wr.heap.size ∧ (ls.take k).flatten.length ≤ 100 * k) (fun _ i _ => n - (intOf i).toNat)
  case atStart => exact ⟨0, Nat.zero_le _, rfl, ⟨none, 0, rfl⟩, by simpa using OwnB.nil w2 base, by simpa using HH.out, HB2.out, by have := HBase.out; omega, by simp⟩
  case round =>
    obtain ⟨k, hk, rfl, ⟨qa, ca, rfl⟩, hO, hH, hB, hbs, hle⟩ := hrel
    have HO := Lib.hid hO
    have HHk := Lib.hid hH
    have HBr := Lib.hid hB
    clear hO hH hB
    by_cases hlt : k < n
    · have hdk : decide ((k : Int) < n) = true := decide_eq_true (by omega)
      have hlk : (k : Int) < n := by omega
      obtain ⟨c, o, q, cap', rfl, hc, hsl, hqn⟩ := HS.out k (by rw [HL.out]; exact hlt)
      have hx : wr.cell? ⟨c, o + k, none⟩ = some (.slice q (ls.getD k []).length cap') := by
        rw [HBr.out.cell (World.block_lt_of_cell? w _ hc)]; exact hc
      have HT := Lib.hid (flat_take ls k (by rw [HL.out]; exact hlt))
      have HSL := Lib.hid hsl
      have HQ := Lib.hid hqn
      clear hc hsl hqn
      generalize hpk : ls.getD k [] = pk at *
      clear hpk
      generalize hPL : pk.length = pl at *
      have HPL := Lib.hid hPL
      clear hPL
      have HLk1 := Lib.hid (show (ls.take (k + 1)).flatten.length = (ls.take k).flatten.length + pl by rw [HT.out, List.length_append, HPL.out])
      generalize hLk : (ls.take k).flatten = Lk at *
      clear hLk
      generalize hLL : Lk.length = m at *
      have HLL := Lib.hid hLL
      clear hLL
      by_cases h100 : 100 < pl
      · have hd100 : decide ((100 : Int) < pl) = true := decide_eq_true (by omega)
        go_wp2
        go_ret
        exact ⟨rfl, HBr.out⟩
      · have hd100 : decide ((100 : Int) < pl) = false := decide_eq_false (by omega)
        have HO1 := Lib.hid (OwnB.lit wr [] wr.heap.size (Nat.le_refl _) (by decide) #[] rfl)
        have HB1 := Lib.hid (show Below wr.heap.size wr (wr.alloc (.cells #[] 5)) from (Below.refl _ _).alloc (Nat.le_refl _) _)
        have hpl : pl ≤ 100 := by omega
        have hmm : m ≤ 1200 := by omega
        have hszr := HBr.out.size
        go_wp2_with (first | (refine wpl_append _ rfl (.tmp 30) (.tmp 31) rfl wr.heap.size (.slice (some ⟨wr.heap.size, 0, none⟩) 0 0) [] rfl HO1.out q cap' pk (by rw [HPL.out]; rfl) ((HSL.out.of_below HBr.out).of_below HB1.out) HQ.out (by rw [HPL.out]; show 0 + pl < _; omega) HB1.out.size ?_; rintro v3 w3 hv3 hg3; have HB3 := Lib.hid (HB1.out.grown hg3 HB1.out.size (fun g hg => (HO1.out.lt g hg).1)); rw [List.nil_append] at hv3; obtain ⟨q3, c3, e3, hs3, hc3, hle3⟩ := hv3.shape; rw [HPL.out] at e3 hle3; subst e3; have HV3 := Lib.hid hv3; have HS3 := Lib.hid hs3; have HC3 := Lib.hid hc3; clear hv3 hg3 hs3 hc3))
        have hs3 := HB3.out.size
        have hbM : hb < wr.heap.size := by omega
        have hB4 : Below wr.heap.size wr (w3.alloc (.cells #[.slice q3 pl c3] 22)) := HB3.out.alloc hs3 _
        have hSls : Sls (w3.alloc (.cells #[.slice q3 pl c3] 22)) hb (some ⟨w3.heap.size, 0, none⟩) [pk] := fun i hi => by
          have : i = 0 := by simpa using hi
          subst this
          refine ⟨w3.heap.size, 0, q3, c3, rfl, by omega, ?_, HS3.out.of_below ((Below.refl _ _).alloc (Nat.le_refl _) _), fun _ a ha => ?_⟩
          · rw [World.cell?_alloc_new, show ([pk].getD 0 []).length = pl from HPL.out]; rfl
          · have := (HV3.out.lt a.block (by rw [ha]; rfl)).1
            omega
        refine (add_any hb 46 Lk [pk] (some ⟨w3.heap.size, 0, none⟩) 1 _ (HHk.out.of_below hB4) hSls ((HK.out.of_below HBr.out).of_below hB4) (by omega) (by simp [HPL.out, HLL.out]; omega) (by simp)).mono ?_
        rintro e w5 ⟨rfl, hH5, hK5⟩
        have hfl : Lk ++ [pk].flatten = Lk ++ pk := by simp
        rw [hfl] at hH5
        have HH5 := Lib.hid hH5
        have HV5 := Lib.hid ((HV3.out.of_below (w' := (w3.alloc (.cells #[.slice q3 pl c3] 22))) ((Below.refl _ _).alloc (Nat.le_refl _) _)).of_kp hK5 (fun e => by have := (HV3.out.lt hb e).1; omega))
        have HO5 := Lib.hid ((HO.out.of_below hB4).of_kp hK5 (fun e => by have := (HO.out.lt hb e).1; have := HBase.out; omega))
        have HB5 := Lib.hid ((HBr.out.trans (hB4.mono hszr)).trans (hK5.below (N := w.heap.size) (by omega) (by have := hB4.size; omega)))
        have hs5 : wr.heap.size ≤ w5.heap.size := Nat.le_trans hB4.size hK5.size
        clear hH5 hK5 hB4 hSls hfl HH HO1 HB1 HB3 HV3 HHk
        have hOM : ∀ g, (Value.slice qa m ca).ownBlock = some g → g < wr.heap.size := fun g hg => (HO.out.lt g hg).2
        have HOM := Lib.hid hOM
        clear hOM HO HBr hx hs3 HS3
        generalize wr.heap.size = M at *
        go_wp2_with fail
        go_loopw [39] (fun i wv => ∃ j : Nat, j ≤ pl ∧ i = .int .i64 j ∧ OwnB wv M (.slice q3 pl c3) (xo pk j) ∧ Below M w5 wv) (fun i _ => pl - (intOf i).toNat)
        case atStart => exact ⟨0, Nat.zero_le _, rfl, by rw [xo_zero]; exact HV5.out, Below.refl _ _⟩
        case round =>
          obtain ⟨j, hj, rfl, hV, hBv⟩ := hrel
          by_cases hlj : j < pl
          · have hdj : decide ((j : Int) < pl) = true := decide_eq_true (by omega)
            have hj' : (j : Int) < pl := by omega
            obtain ⟨g, rfl, hgM, hcells⟩ := hV.cells (by rw [xo_length]; exact HPL.out) (by omega)
            obtain ⟨hcg, hfg⟩ := hcells j hlj
            rw [xo_at pk j (by rw [HPL.out]; exact hlj)] at hcg
            have hBw : Below w.heap.size w wr := HB5.out.trans (hBv.mono hszr)
            obtain ⟨c2, o2, rfl, hcp⟩ := HSL.out.of_below hBw j (by rw [HPL.out]; exact hlj)
            have HV := Lib.hid hV
            have HBv := Lib.hid hBv
            clear hV hBv hcells hBw
            go_wp2
            go_quiet (fail)
            go_wp2
            go_roundw
            case rel => exact ⟨j + 1, by omega, by go_num, HV.out.put HPL.out hlj, below_drewN (HBv.out.setCell hgM _) _⟩
            case measure => simp [intOf]; omega
          · have hdj : decide ((j : Int) < pl) = false := decide_eq_false (by omega)
            have hHv : Holds wr hb 46 (Lk ++ pk) := let ⟨mm, h1, h2⟩ := HH5.out; ⟨mm, h1.of_block (hBv.block hb hbM), h2⟩
            have hOv : OwnB wr base (.slice qa m ca) Lk := HO5.out.keep fun g hg => hBv.block g (HOM.out g hg)
            have HHv := Lib.hid hHv
            have HOv := Lib.hid hOv
            have HBw := Lib.hid (show Below w.heap.size w wr from HB5.out.trans (hBv.mono hszr))
            have hsv : base ≤ wr.heap.size := by have := hBv.size; omega
            clear hHv hOv hV hBv HO5 HH5 HV5 HB5 HOM
            go_wp2_with (first | (refine wpl_append _ rfl (.tmp 58) (.tmp 59) rfl base (.slice qa m ca) Lk rfl HOv.out q cap' pk (by rw [HPL.out]; rfl) (HSL.out.of_below HBw.out) HQ.out (by rw [HPL.out, HLL.out]; omega) hsv ?_; rintro v6 w6 hv6 hg6; have HH6 := Lib.hid (HHv.out.of_grown hg6 (fun e => by have := (HOv.out.lt hb e).1; have := HBase.out; omega)); have HB6 := Lib.hid (HBw.out.grown hg6 HBw.out.size (fun g hg => by have := (HOv.out.lt g hg).1; omega)); have hs6 := Nat.le_trans hsv hg6.size; obtain ⟨q6, c6, e6, hs6', hc6, hle6⟩ := hv6.shape; rw [List.length_append, HPL.out, HLL.out] at e6 hle6; subst e6; have HV6 := Lib.hid hv6; have HS6 := Lib.hid hs6'; have HC6 := Lib.hid hc6; clear hv6 hg6 hs6' hc6))
            have hL6 : (Lk ++ pk).length = m + pl := by rw [List.length_append, HPL.out, HLL.out]
            have hsw6 := HB6.out.size
            refine (sum_any hb 46 (Lk ++ pk) w6 HH6.out (HK.out.of_below HB6.out) (by omega) (by rw [hL6]; omega)).mono ?_
            rintro e w7 ⟨rfl, hw7⟩
            have HB7 := Lib.hid (HB6.out.trans (hw7.mono hsw6))
            have HV7 := Lib.hid (HV6.out.of_below hw7)
            have HS7 := Lib.hid (HS6.out.of_below hw7)
            have HH7 := Lib.hid (show Holds w7 hb 46 (Lk ++ pk) from let ⟨mm, h1, h2⟩ := HH6.out; ⟨mm, h1.of_below hw7, h2⟩)
            have hs7 := Nat.le_trans hs6 hw7.size
            clear hw7 HB6 HV6 HS6 HH6 hle6
            go_wp2_with fail
            have hsw7 := HB7.out.size
            have key := refSum_any (Lk ++ pk) q6 c6 w7 HS7.out HC6.out (HF.out.of_below HB7.out) (HK.out.of_below HB7.out) (by omega) (by rw [hL6]; omega)
            rw [hL6] at key
            refine key.mono ?_
            rintro e w8 ⟨rfl, hw8⟩
            have HB8 := Lib.hid (HB7.out.trans (hw8.mono hsw7))
            have HV8 := Lib.hid (HV7.out.of_below hw8)
            have HH8 := Lib.hid (show Holds w8 hb 46 (Lk ++ pk) from let ⟨mm, h1, h2⟩ := HH7.out; ⟨mm, h1.of_below hw8, h2⟩)
            have hs8 := Nat.le_trans hs7 hw8.size
            clear key hw8 HB7 HV7 HS7 HH7
            go_wp2_with fail
            have key := len_any hb 46 (Lk ++ pk) w8 HH8.out
            rw [hL6] at key
            refine key.mono ?_
            rintro e w9 ⟨rfl, rfl⟩
            clear key
            go_wp2
            go_roundw
            case rel =>
              refine ⟨k + 1, by omega, by go_num, ⟨q6, c6, by rw [HLk1.out]⟩, by rw [HT.out]; exact HV8.out, by rw [HT.out]; exact HH8.out, HB8.out, hs8, by rw [HLk1.out]; omega⟩
            case measure => simp [intOf]; omega
    · have hkn : k = n := by omega
      subst hkn
      have hdk : decide ((k : Int) < k) = false := decide_eq_false (by omega)
      rw [List.take_of_length_le (by rw [HL.out]; omega)] at *
      generalize hLk : ls.flatten = Lk at *
      have HLk := Lib.hid hLk
      clear hLk
      generalize hLL : Lk.length = m at *
      have HLL := Lib.hid hLL
      clear hLL
      go_wp2_with fail
      have hS0 : Sls0 wr p ls := HS.out.sls.of_below HBr.out
      refine (new_any wr (HF.out.of_below HBr.out)).mono ?_
      rintro e w2' ⟨h2, rfl, hh2, hH2, hB2'⟩
      have HH2 := Lib.hid hH2
      have HS2 := Lib.hid ((hS0.new hh2).of_below hB2')
      have hszr := HBr.out.size
      have HBk := Lib.hid (HBr.out.trans (hB2'.mono hszr))
      have HHh := Lib.hid (show Holds w2' hb 46 Lk from let ⟨mm, h1, h3⟩ := HHk.out; ⟨mm, h1.of_below hB2', h3⟩)
      have hs2' := hB2'.size
      have hbh : hb < wr.heap.size := let ⟨_, h1, _⟩ := HHk.out; h1.lt
      clear hH2 hS0 hB2' HHk HBr HB HH HB2
      go_wp2_with fail
      have key := add_any h2 46 [] ls p cap w2' HH2.out HS2.out (HK.out.of_below HBk.out) (by omega) (by rw [HLk.out, HLL.out]; simp; omega) (by rw [HL.out]; omega)
      rw [HL.out, HLk.out, List.nil_append] at key
      refine key.mono ?_
      rintro e w3 ⟨rfl, hH3, hK3⟩
      have HH3 := Lib.hid hH3
      have HHh3 := Lib.hid (show Holds w3 hb 46 Lk from let ⟨mm, h1, h4⟩ := HHh.out; ⟨mm, h1.of_block (hK3.block hb (by omega) (by omega)), h4⟩)
      have HB3 := Lib.hid (HBk.out.trans (hK3.below (N := w.heap.size) (by omega) (by omega)))
      have hs3 := hK3.size
      have HSp := Lib.hid (HS.out.sls)
      clear key hH3 hK3 HH2 HS2 HBk HHh
      go_wp2_with fail
      have hsz3 := HB3.out.size
      refine (sum_any h2 46 Lk w3 HH3.out (HK.out.of_below HB3.out) (by omega) (by rw [HLL.out]; omega)).mono ?_
      rintro e w4 ⟨rfl, hw4⟩
      have HB4 := Lib.hid (HB3.out.trans (hw4.mono hsz3))
      have HH4 := Lib.hid (show Holds w4 h2 46 Lk from let ⟨mm, h1, h4⟩ := HH3.out; ⟨mm, h1.of_below hw4, h4⟩)
      have HHh4 := Lib.hid (show Holds w4 hb 46 Lk from let ⟨mm, h1, h4⟩ := HHh3.out; ⟨mm, h1.of_below hw4, h4⟩)
      clear hw4 HB3 HH3 HHh3
      go_wp2_with fail
      have hsz4 := HB4.out.size
      refine (sum_any hb 46 Lk w4 HHh4.out (HK.out.of_below HB4.out) (by omega) (by rw [HLL.out]; omega)).mono ?_
      rintro e w5 ⟨rfl, hw5⟩
      have HB5 := Lib.hid (HB4.out.trans (hw5.mono hsz4))
      have HH5 := Lib.hid (show Holds w5 h2 46 Lk from let ⟨mm, h1, h4⟩ := HH4.out; ⟨mm, h1.of_below hw5, h4⟩)
      have HHh5 := Lib.hid (show Holds w5 hb 46 Lk from let ⟨mm, h1, h4⟩ := HHh4.out; ⟨mm, h1.of_below hw5, h4⟩)
      clear hw5 HB4 HH4 HHh4
      go_wp2_with fail
      have hsz5 := HB5.out.size
      have key := shaSum_any ls p cap w5 (HSp.out.of_below HB5.out) (HF.out.of_below HB5.out) (HK.out.of_below HB5.out) (by omega) (by rw [HLk.out, HLL.out]; omega) (by rw [HL.out]; omega)
      rw [HL.out, HLk.out] at key
      refine key.mono ?_
      rintro e w6 ⟨rfl, hw6⟩
      have HB6 := Lib.hid (HB5.out.trans (hw6.mono hsz5))
      have HH6 := Lib.hid (show Holds w6 h2 46 Lk from let ⟨mm, h1, h4⟩ := HH5.out; ⟨mm, h1.of_below hw6, h4⟩)
      have HHh6 := Lib.hid (show Holds w6 hb 46 Lk from let ⟨mm, h1, h4⟩ := HHh5.out; ⟨mm, h1.of_below hw6, h4⟩)
      clear hw6 HB5 HH5 HHh5 key
      go_wp2_with fail
      have hsz6 := HB6.out.size
      refine (sum_any hb 46 Lk w6 HHh6.out (HK.out.of_below HB6.out) (by omega) (by rw [HLL.out]; omega)).mono ?_
      rintro e w7 ⟨rfl, hw7⟩
      have HB7 := Lib.hid (HB6.out.trans (hw7.mono hsz6))
      have HH7 := Lib.hid (show Holds w7 h2 46 Lk from let ⟨mm, h1, h4⟩ := HH6.out; ⟨mm, h1.of_below hw7, h4⟩)
      have HHh7 := Lib.hid (show Holds w7 hb 46 Lk from let ⟨mm, h1, h4⟩ := HHh6.out; ⟨mm, h1.of_below hw7, h4⟩)
      clear hw7 HB6 HH6 HHh6
      go_wp2_with fail
      have key := len_any h2 46 Lk w7 HH7.out
      rw [HLL.out] at key
      refine key.mono ?_
      rintro e w8 ⟨rfl, rfl⟩
      clear key
      go_wp2
      go_ret
      exact ⟨rfl, HB7.out⟩
end Go.Proofs.YteckafiedpjpgaaDoor
