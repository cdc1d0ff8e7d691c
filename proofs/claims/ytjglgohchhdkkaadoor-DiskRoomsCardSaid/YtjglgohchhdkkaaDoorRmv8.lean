/- Remove, Rename of the program's disk. -/
import Derived.Test.YtjglgohchhdkkaaDoorDo8
import Derived.Test.YtjglgohchhdkkaaDoorGodP7
set_option linter.unusedSimpArgs false
set_option linter.unusedVariables false
namespace Go.Proofs.YtjglgohchhdkkaaDoor
open Go Go.RowKit

/-- What a call leaves behind. -/
def DPost (S : Nat → Prop) (b : Nat) (w : World) (m : Dk) (w' : World) : Prop := (∃ mv md pv vs sl, Dp w' (SN S w.heap.size w'.heap.size) b m mv md pv vs sl) ∧ Kq8 S w w'
section
variable {w w' w2 w3 : World} {S S' : Nat → Prop} {b : Nat} {m : Dk} {mv md : Nat} {pv : Value} {vs : List Value} {sl : Nat → Hn}
theorem SN.low {N M : Nat} (hl : ∀ k, S k → k < N) (hNM : N ≤ M) : ∀ k, SN S N M k → k < M := fun k hk => by
  rcases hk with x | x
  · exact Nat.lt_of_lt_of_le (hl k x) hNM
  · exact x.2
theorem Dp.wide (h : Dp w S b m mv md pv vs sl) (hB : Below w.heap.size w w') : Dp w' (SN S w.heap.size w'.heap.size) b m mv md pv vs sl :=
  h.keep (fun k hk => hB.block k (h.low k hk)) (fun k hk => .inl hk) (SN.low h.low hB.size)
theorem DPost.same (h : Dp w S b m mv md pv vs sl) (hB : Below w.heap.size w w') : DPost S b w m w' := ⟨⟨mv, md, pv, vs, sl, h.wide hB⟩, Kq8.of_below hB⟩
theorem SN.join {N M K : Nat} (h1 : N ≤ M) (h2 : M ≤ K) (k : Nat) (h : SN (SN S N M) M K k) : SN S N K k := by
  rcases h with (x | x) | x
  · exact .inl x
  · exact .inr ⟨x.1, Nat.lt_of_lt_of_le x.2 h2⟩
  · exact .inr ⟨Nat.le_trans h1 x.1, x.2⟩
theorem DPost.after (hB : Below w.heap.size w w2) (hl : ∀ k, S k → k < w.heap.size) (h : DPost (SN S w.heap.size w2.heap.size) b w2 m w3) : DPost S b w m w3 := by
  obtain ⟨⟨mv, md, pv, vs, sl, hd⟩, hk⟩ := h
  refine ⟨⟨mv, md, pv, vs, sl, hd.keep (fun _ _ => rfl) (fun k hk2 => SN.join hB.size hk.size k hk2) (SN.low hl (Nat.le_trans hB.size hk.size))⟩, ?_⟩
  exact ⟨hk.os.trans hB.os, hk.tape.trans hB.tape, hk.output.trans hB.output, Nat.le_trans hB.size hk.size, fun k hk1 hn => by
    rw [hk.block k (Nat.lt_of_lt_of_le hk1 hB.size) (fun x => by rcases x with x | x; exact hn x; omega)]
    exact hB.block k hk1⟩
theorem ClsV.of_below {c : Ch} {v : Value} (h : ClsV w S sl c v) (hl : ∀ k, S k → k < w.heap.size) (hB : Below w.heap.size w w') (hS : ∀ k, S k → S' k) : ClsV w' S' sl c v :=
  h.keep (fun k T cs hs _ _ => hB.block k (hl k hs)) hS
set_option maxRecDepth 100000 in
set_option maxHeartbeats 4000000 in
theorem remove_any (h : Dp w S b m mv md pv vs sl) (hok : DkOk 300 m) (p : S8) (hp : p.length ≤ 1000) : Calls Tryd.prog 10 #[.pointer (some ⟨b, 0, none⟩), .string (mkS p)] w fun e w' => e = .returned (.int .i64 ((removeL m p).2 : Int)) ∧ DPost S b w (removeL m p).1 w' := by
  have c2 := h.cell 2
  simp at c2
  have H := Lib.hid h
  have HOK := Lib.hid hok
  cases hf : findL m.seen p with
  | none =>
    have hl := look_none h.vis hf
    have HR := Lib.hid (show removeL m p = (m, 8) by unfold removeL; rw [hf]; rfl)
    have HB := Lib.hid ((Below.refl w.heap.size w).alloc (Nat.le_refl _) (.cells #[.int .i64 0, .int .i64 0, .int .i64 0, .slice none 0 0] 64))
    clear h hf hok
    go_enter Tryd.func10, Tryd.ntmps10
    go_wp2
    go_ret
    rw [HR.out]
    exact ⟨rfl, DPost.same H.out HB.out⟩
  | some i =>
    obtain ⟨x, hx⟩ : ∃ x, m.seen.getD i fl0 = x := ⟨_, rfl⟩
    have hl := look_some h.vis hf x hx
    have HR := Lib.hid (show removeL m p = (changeL m ⟨3, p, fl0⟩, 0) by unfold removeL; rw [hf]; rfl)
    have hB := ((Below.refl w.heap.size w).alloc (Nat.le_refl _) (.cells #[.int .i64 x.size, .int .i64 x.time, .int .i64 x.chg, .slice (sl x.body).q (sl x.body).n (sl x.body).c] 64))
    have HB := Lib.hid hB
    have HMK := Lib.hid (removing_any p (w.alloc (.cells #[.int .i64 x.size, .int .i64 x.time, .int .i64 x.chg, .slice (sl x.body).q (sl x.body).n (sl x.body).c] 64)) (by omega))
    have HSZ := Lib.hid (World.size_alloc w (.cells #[.int .i64 x.size, .int .i64 x.time, .int .i64 x.chg, .slice (sl x.body).q (sl x.body).n (sl x.body).c] 64))
    clear h hf hok hB hx
    go_enter Tryd.func10, Tryd.ntmps10
    go_wp2_with fail
    refine HMK.out.mono ?_
    rintro e w2 ⟨rfl, hbx, hB2⟩
    have hB3 := HB.out.trans (hB2.mono HB.out.size)
    have hw2 := H.out.wide hB3
    have hcl : ClsV w2 (SN S w.heap.size w2.heap.size) sl ⟨3, p, fl0⟩ (.func (.func 41) #[] #[.pointer (some ⟨(w.alloc (.cells #[.int .i64 x.size, .int .i64 x.time, .int .i64 x.chg, .slice (sl x.body).q (sl x.body).n (sl x.body).c] 64)).heap.size, 0, none⟩)]) :=
      .remove _ rfl rfl hbx (.inr ⟨by rw [HSZ.out]; omega, hbx.lt⟩)
    have HDO := Lib.hid (do_any hw2 HOK.out hcl (by show ([] : S8).length < _; decide) (fun e => by cases e))
    have HB3 := Lib.hid hB3
    clear hB2 hB3 hw2 hcl hbx HMK
    rw [HSZ.out] at HDO
    rw [HSZ.out]
    go_wp2_with fail
    refine HDO.out.mono ?_
    rintro e w3 ⟨rfl, ⟨pv2, vs2, hd⟩, hk⟩
    have HP := Lib.hid (DPost.after HB3.out H.out.low (m := changeL m ⟨3, p, fl0⟩) ⟨⟨_, _, _, _, _, hd⟩, hk⟩)
    clear hd hk HDO
    go_wp2
    go_ret
    rw [HR.out]
    exact ⟨rfl, HP.out⟩
set_option maxRecDepth 100000 in
set_option maxHeartbeats 4000000 in
theorem rename_any (h : Dp w S b m mv md pv vs sl) (hok : DkOk 300 m) (p q : S8) (hp : p.length ≤ 1000) (hq : q.length ≤ 1000) : Calls Tryd.prog 9 #[.pointer (some ⟨b, 0, none⟩), .string (mkS p), .string (mkS q)] w fun e w' => e = .returned (.int .i64 ((renameL m p q).2 : Int)) ∧ DPost S b w (renameL m p q).1 w' := by
  have c2 := h.cell 2
  simp at c2
  have H := Lib.hid h
  have HOK := Lib.hid hok
  cases hf : findL m.seen p with
  | none =>
    have hl := look_none h.vis hf
    have HR := Lib.hid (show renameL m p q = (m, 8) by unfold renameL; rw [hf]; rfl)
    have HB := Lib.hid ((Below.refl w.heap.size w).alloc (Nat.le_refl _) (.cells #[.int .i64 0, .int .i64 0, .int .i64 0, .slice none 0 0] 64))
    clear h hf hok
    go_enter Tryd.func9, Tryd.ntmps9
    go_wp2
    go_ret
    rw [HR.out]
    exact ⟨rfl, DPost.same H.out HB.out⟩
  | some i =>
    obtain ⟨x, hx⟩ : ∃ x, m.seen.getD i fl0 = x := ⟨_, rfl⟩
    have hl := look_some h.vis hf x hx
    have HR := Lib.hid (show renameL m p q = if !goodL q then (m, 7) else if clashesL m.seen q p then (m, 9) else (changeL m ⟨2, p, { fl0 with p := q }⟩, 0) by unfold renameL; rw [hf]; rfl)
    have hB := ((Below.refl w.heap.size w).alloc (Nat.le_refl _) (.cells #[.int .i64 x.size, .int .i64 x.time, .int .i64 x.chg, .slice (sl x.body).q (sl x.body).n (sl x.body).c] 64))
    have HB := Lib.hid hB
    have HPL := Lib.hid (And.intro hp hq)
    have HGD := Lib.hid (good_any q (w.alloc (.cells #[.int .i64 x.size, .int .i64 x.time, .int .i64 x.chg, .slice (sl x.body).q (sl x.body).n (sl x.body).c] 64)) (by omega))
    clear h hf hok hB hx hp hq
    cases hgd : goodL q with
    | false =>
      rw [hgd] at HGD
      have HE := Lib.hid (show renameL m p q = (m, 7) by rw [HR.out, hgd]; rfl)
      clear hgd HR
      go_enter Tryd.func9, Tryd.ntmps9
      go_wp2_with fail
      refine HGD.out.mono ?_
      rintro e w2 ⟨rfl, hB2⟩
      have HB3 := Lib.hid (HB.out.trans (hB2.mono HB.out.size))
      clear hB2
      go_wp2
      go_ret
      rw [HE.out]
      exact ⟨rfl, DPost.same H.out HB3.out⟩
    | true =>
      rw [hgd] at HGD
      have HR2 := Lib.hid (show renameL m p q = if clashesL m.seen q p then (m, 9) else (changeL m ⟨2, p, { fl0 with p := q }⟩, 0) by rw [HR.out, hgd]; rfl)
      clear hgd HR
      go_enter Tryd.func9, Tryd.ntmps9
      go_wp2_with fail
      refine HGD.out.mono ?_
      rintro e w2 ⟨rfl, hB2⟩
      have hB3 := HB.out.trans (hB2.mono HB.out.size)
      have HB3 := Lib.hid hB3
      have hw2 := H.out.of_below hB3
      have c22 := hw2.cell 2
      simp at c22
      have HCL := Lib.hid (clashes_any hw2.vis HOK.out.shS q p (by have := HPL.out.2; omega))
      clear hB2 c2 hl HGD hB3 hw2
      cases hcl : clashesL m.seen q p with
      | true =>
        rw [hcl] at HCL
        have HE := Lib.hid (show renameL m p q = (m, 9) by rw [HR2.out, hcl]; rfl)
        clear hcl HR2
        go_wp2_with fail
        refine HCL.out.mono ?_
        rintro e w4 ⟨rfl, hB4⟩
        have HB4 := Lib.hid (HB3.out.trans (hB4.mono HB3.out.size))
        clear hB4
        go_wp2
        go_ret
        rw [HE.out]
        exact ⟨rfl, DPost.same H.out HB4.out⟩
      | false =>
        rw [hcl] at HCL
        have HE := Lib.hid (show renameL m p q = (changeL m ⟨2, p, { fl0 with p := q }⟩, 0) by rw [HR2.out, hcl]; rfl)
        clear hcl HR2
        go_wp2_with fail
        refine HCL.out.mono ?_
        rintro e w4 ⟨rfl, hB4⟩
        have HB4 := Lib.hid (HB3.out.trans (hB4.mono HB3.out.size))
        have HMK := Lib.hid (renaming_any p q w4 (by have := HPL.out.1; omega) (by have := HPL.out.2; omega))
        clear hB4 c22 HCL
        go_wp2_with fail
        refine HMK.out.mono ?_
        rintro e w5 ⟨rfl, hb1, hb2, hB5⟩
        have hB6 := HB4.out.trans (hB5.mono HB4.out.size)
        have hw5 := H.out.wide hB6
        have hcl : ClsV w5 (SN S w.heap.size w5.heap.size) sl ⟨2, p, { fl0 with p := q }⟩ (.func (.func 40) #[] #[.pointer (some ⟨w4.heap.size, 0, none⟩), .pointer (some ⟨w4.heap.size + 1, 0, none⟩)]) :=
          .rename _ _ rfl rfl hb1 hb2 (.inr ⟨HB4.out.size, hb1.lt⟩) (.inr ⟨Nat.le_succ_of_le HB4.out.size, hb2.lt⟩)
        have HDO := Lib.hid (do_any hw5 HOK.out hcl (by show q.length < _; have := HPL.out.2; omega) (fun e => by cases e))
        have HB6 := Lib.hid hB6
        clear hB5 hB6 hw5 hcl hb1 hb2 HMK
        go_wp2_with fail
        refine HDO.out.mono ?_
        rintro e w6 ⟨rfl, ⟨pv2, vs2, hd⟩, hk⟩
        have HP := Lib.hid (DPost.after HB6.out H.out.low (m := changeL m ⟨2, p, { fl0 with p := q }⟩) ⟨⟨_, _, _, _, _, hd⟩, hk⟩)
        clear hd hk HDO
        go_wp2
        go_ret
        rw [HE.out]
        exact ⟨rfl, HP.out⟩
end
end Go.Proofs.YtjglgohchhdkkaaDoor
