/- Hold of the ward. -/
import Derived.Test.YtcgilacmdckbfaaDoorWsv15
import Derived.Test.YtcgilacmdckbfaaDoorLib15
import Derived.Test.YtcgilacmdckbfaaDoorPtbP7
import Derived.Shelf.SlMaps.Clone
import Derived.Deep.RegionHeld3
import Derived.StillTailTactics
set_option linter.unusedSimpArgs false
set_option maxRecDepth 100000
set_option linter.unusedVariables false
namespace Go.Proofs.YtcgilacmdckbfaaDoor
open Go Go.RowKit Go.MapKept

theorem clone15_any (s : S8) (w : World) (h : s.length < 100000000) : Calls Tryd.prog 36 #[.string (mkS s)] w fun e w' => Gives (.string (mkS s)) w e w' := by
  have HC := Lib.hid (show Calls Tryd.prog 50 #[.string (mkS s)] w fun e w' => Gives (.string (mkS s)) w e w' from Tryd.stringslite_Clone (mkS s) w (by rw [mkS_size]; omega))
  go_enter Tryd.func36, Tryd.ntmps36
  go_wp2_with fail
  refine HC.out.mono ?_
  rintro e w' ⟨rfl, hB⟩
  have HB := Lib.hid hB
  clear hB
  go_wp2
  go_ret
  exact ⟨rfl, HB.out⟩
theorem nilq15 (o : Option Nat) (u : World) : (binOp BinOp.eql TRs (.map o) (.map none)).run Tryd.prog u = .ok (.bool o.isNone) u := run_eql_map_nil_sl (P := Tryd.prog) u TRs _ _ o rsT
section
variable {w : World} {b mb : Nat} {F : Nat → Prop} {s : Ws} {bk : S8 → Nat}
theorem look2_15 (h : WdAt w b F s mb bk) (p : S8) (k : Int) : ∃ v, (Instr.lookup TRs (.map ((findW s p).map fun _ => bk p)) (.int .i64 k) true).run Tryd.prog w = .ok (.tuple #[.int .i64 v, .bool (whyW (ofW s p) k).isSome]) w := by
  cases hf : findW s p with
  | none =>
    have : whyW (ofW s p) k = none := by unfold ofW; rw [hf]; rfl
    rw [this]
    exact ⟨0, lookNil15 w k⟩
  | some l =>
    have hof : ofW s p = l := by unfold ofW; rw [hf]; rfl
    have hl := run_lookupI15 (P := Tryd.prog) rsT inT15 (zeroIn w) (h.of hf) k true
    rw [findI_hs] at hl
    rw [hof]
    cases hw : whyW l k with
    | none => rw [hw] at hl; exact ⟨0, hl⟩
    | some v => rw [hw] at hl; exact ⟨v, hl⟩
/-- What Hold leaves. -/
def HoldP (w : World) (b : Nat) (F : Nat → Prop) (s : Ws) (mb : Nat) (p : S8) (k r : Int) (e : Ending) (w' : World) : Prop :=
  e = .returned (.int .i64 (holdC s p k r)) ∧ (∃ bk', WdAt w' b (newF F w w') (holdW s p k r) mb bk') ∧ KpF F w w'
theorem HoldP.no {w u : World} {p : S8} {k r c : Int} (h : WdAt w b F s mb bk) (hB : Below w.heap.size w u) (hc : holdC s p k r = c) (h0 : c ≠ 0) : HoldP w b F s mb p k r (.returned (.int .i64 c)) u := by
  refine ⟨by rw [hc], ⟨bk, ?_⟩, KpF.of_new hB⟩
  unfold holdW
  rw [if_neg (by rw [hc]; exact h0)]
  exact (h.of_new hB).mono fun g _ hg => .inl hg
theorem HoldP.yes {w u u' : World} {p : S8} {k r : Int} (h : WdAt w b F s mb bk) (hc : holdC s p k r = 0) {s2 : Ws} (hs : putW s2 p k r = putW s p k r) {bk2 : S8 → Nat} {G : Nat → Prop} (h2 : WdAt u b G s2 mb bk2) {l : Hs} (hf : findW s2 p = some l) (hK : KpF F w u) (hG : ∀ g, g < u.heap.size → G g → newF F w u g)
    (hm : MiB u' (bk2 p) (putI (hsV l) k (.int .i64 r))) (hg : u.grownBy u' (some (bk2 p))) (hz : u'.heap.size = u.heap.size) (hbk : F (bk2 p) ∨ w.heap.size ≤ bk2 p) : HoldP w b F s mb p k r (.returned (.int .i64 0)) u' := by
  have h3 := h2.put hf k r hm hg
  rw [hs] at h3
  refine ⟨by rw [hc], ⟨bk2, ?_⟩, ?_⟩
  · unfold holdW
    rw [if_pos hc]
    refine h3.mono fun g hl hgg => ?_
    rcases hG g (by omega) hgg with h4 | h4
    · exact .inl h4
    · exact .inr ⟨h4.1, by omega⟩
  · refine ⟨hg.os.trans hK.os, hg.tape.trans hK.tape, hg.output.trans hK.output, Nat.le_trans hK.size hg.size, fun i hi hn => ?_⟩
    rw [hg.block i (Nat.lt_of_lt_of_le hi hK.size) (fun e => ?_)]
    · exact hK.block i hi hn
    · injection e with e
      rcases hbk with h4 | h4
      · exact hn (e ▸ h4)
      · omega
set_option maxRecDepth 100000 in
set_option maxHeartbeats 4000000 in
theorem hold15_any (h : WdAt w b F s mb bk) (hn : lenW s ≤ 100000) (p : S8) (hp : p.length < 100000) (k r : Int) : Calls Tryd.prog 23 #[.pointer (some ⟨b, 0, none⟩), .string (mkS p), .int .i64 k, .int .i64 r] w fun e w' => HoldP w b F s mb p k r e w' := by
  have c0 := h.cell
  have hl := look15 h p
  obtain ⟨v0, hl2⟩ := look2_15 h p k
  obtain ⟨hd, hhd⟩ : ∃ hd, (whyW (ofW s p) k).isSome = hd := ⟨_, rfl⟩
  obtain ⟨ob, hob⟩ : ∃ ob, ((findW s p).map fun _ => bk p) = ob := ⟨_, rfl⟩
  rw [hhd, hob] at hl2
  rw [hob] at hl
  obtain ⟨kk, hkk⟩ : ∃ kk, kindL p = kk := ⟨_, rfl⟩
  have hkd := kind_any p w hp
  rw [hkk] at hkd
  have HKD := Lib.hid hkd
  have HW0 := Lib.hid h
  have HN := Lib.hid hn
  have HCL := Lib.hid (fun u => clone15_any p u (by omega))
  have HHD := Lib.hid hhd
  have HOB := Lib.hid hob
  have HKK := Lib.hid hkk
  clear h hn hkd hp hhd hob hkk
  go_enter Tryd.func23, Tryd.ntmps23
  go_wp2_with fail
  refine HKD.out.mono ?_
  rintro e W ⟨rfl, hB⟩
  have HB1 := Lib.hid hB
  have hW := HW0.out.of_new hB
  have HW := Lib.hid hW
  have c1 := hW.cell
  have hl3 := look15 hW p
  rw [HOB.out] at hl3
  clear hB hW hl hl2 c0
  by_cases g1 : kk = 3
  · subst g1
    by_cases g2 : k < 0 ∨ 63 < k ∨ r < 1 ∨ 3 < r
    · have HC := Lib.hid (show holdC s p k r = 1 by unfold holdC; rw [if_neg (by rw [HKK.out]; decide), if_pos g2])
      have t1 : decide (k < 0) = true ∨ (decide (k < 0) = false ∧ decide (64 ≤ k) = true) ∨ (decide (k < 0) = false ∧ decide (64 ≤ k) = false ∧ decide (r < 1) = true) ∨ (decide (k < 0) = false ∧ decide (64 ≤ k) = false ∧ decide (r < 1) = false ∧ decide (3 < r) = true) := by
        simp only [decide_eq_true_eq, decide_eq_false_iff_not]
        omega
      clear g2 hl3
      rcases t1 with t1 | ⟨t1, t2⟩ | ⟨t1, t2, t3⟩ | ⟨t1, t2, t3, t4⟩
      · go_wp2
        go_ret
        exact HoldP.no HW0.out HB1.out HC.out (by decide)
      · go_wp2
        go_ret
        exact HoldP.no HW0.out HB1.out HC.out (by decide)
      · go_wp2
        go_ret
        exact HoldP.no HW0.out HB1.out HC.out (by decide)
      · go_wp2
        go_ret
        exact HoldP.no HW0.out HB1.out HC.out (by decide)
    · have t1 : decide (k < 0) = false := decide_eq_false (by omega)
      have t2 : decide (64 ≤ k) = false := decide_eq_false (by omega)
      have t3 : decide (r < 1) = false := decide_eq_false (by omega)
      have t4 : decide (3 < r) = false := decide_eq_false (by omega)
      have HG2 := Lib.hid g2
      clear g2
      have HS := Lib.hid (fun u (hu : Below W.heap.size W u) => (HW.out.of_new hu).cell)
      cases hd with
      | true =>
        have hsome : ∃ l, findW s p = some l := by
          cases hf : findW s p with
          | none =>
            have := HHD.out
            unfold ofW at this
            rw [hf] at this
            cases this
          | some l => exact ⟨l, rfl⟩
        obtain ⟨l, hf⟩ := hsome
        have HC := Lib.hid (show holdC s p k r = 0 by
          unfold holdC
          rw [if_neg (by rw [HKK.out]; decide), if_neg HG2.out, if_neg]
          rintro ⟨h1, -⟩
          have := HHD.out
          rw [h1] at this
          cases this)
        rw [hf] at HOB
        have hob := HOB.out
        change some (bk p) = ob at hob
        subst hob
        have hm4 := HW.out.of hf
        obtain ⟨u4, hrun4, q1, q2, q3⟩ := run_updateI15 (P := Tryd.prog) rsT inT15 hm4 k (.int .i64 r)
        have hq4 := nilq15
        have HY := Lib.hid (HoldP.yes (p := p) (k := k) (r := r) HW0.out HC.out rfl HW.out hf (KpF.of_new HB1.out) (fun g _ hg => .inl hg) q1 q2 q3 (.inl (HW.out.fk (p, l) (findW_in hf))))
        clear q1 q2 q3 hm4 hf
        go_wp2
        go_ret
        exact HY.out
      | false =>
        have HLN := Lib.hid (len15_any HW.out HN.out)
        go_wp2_with fail
        refine HLN.out.mono ?_
        rintro e W2 ⟨rfl, hB⟩
        have HB1' := Lib.hid (HB1.out.trans (hB.mono HB1.out.size))
        have hW := HW.out.of_new hB
        clear HB1 HW HS hl3 c1 HLN
        have HB1 := HB1'
        clear HB1'
        have HW := Lib.hid hW
        have c1 := hW.cell
        have hl3 := look15 hW p
        rw [HOB.out] at hl3
        have HS := Lib.hid (fun u (hu : Below W2.heap.size W2 u) => (HW.out.of_new hu).cell)
        clear hB hW
        by_cases g5 : 1000 ≤ lenW s
        · have t5 : decide ((1000 : Int) ≤ (lenW s : Int)) = true := decide_eq_true (by omega)
          have t6 : decide (1000 ≤ lenW s) = true := decide_eq_true g5
          have HC := Lib.hid (show holdC s p k r = 14 by
            unfold holdC
            have hwn : whyW (ofW s p) k = none := by
              cases hw : whyW (ofW s p) k with
              | none => rfl
              | some v => have := HHD.out; rw [hw] at this; cases this
            rw [if_neg (by rw [HKK.out]; decide), if_neg HG2.out, if_pos ⟨hwn, g5⟩])
          clear g5 hl3
          go_wp2
          go_ret
          exact HoldP.no HW0.out HB1.out HC.out (by decide)
        · have t5 : decide ((1000 : Int) ≤ (lenW s : Int)) = false := decide_eq_false (by omega)
          have t6 : decide (1000 ≤ lenW s) = false := decide_eq_false g5
          have HC := Lib.hid (show holdC s p k r = 0 by
            unfold holdC
            rw [if_neg (by rw [HKK.out]; decide), if_neg HG2.out, if_neg (fun h => g5 h.2)])
          clear g5
          generalize W2 = W at *
          cases hf : findW s p with
          | some l =>
            rw [hf] at HOB
            have hob := HOB.out
            change some (bk p) = ob at hob
            subst hob
            have hm4 := HW.out.of hf
            obtain ⟨u4, hrun4, q1, q2, q3⟩ := run_updateI15 (P := Tryd.prog) rsT inT15 hm4 k (.int .i64 r)
            have hq4 := nilq15
            have HY := Lib.hid (HoldP.yes (p := p) (k := k) (r := r) HW0.out HC.out rfl HW.out hf (KpF.of_new HB1.out) (fun g _ hg => .inl hg) q1 q2 q3 (.inl (HW.out.fk (p, l) (findW_in hf))))
            clear q1 q2 q3 hm4 hf
            go_wp2
            go_ret
            exact HY.out
          | none =>
            rw [hf] at HOB
            have hob := HOB.out
            change none = ob at hob
            subst hob
            have hq4 := nilq15
            have HFN := Lib.hid hf
            clear hf
            go_wp2_with fail
            refine wp_region_noPanic ?_
            refine wp_region_held_drew (S := (fun u : World => u.cell? ⟨b, 0, none⟩ = some (.map (some mb)))) (by kernel_rfl) (HS.out _ (Below.refl _ _).drew) (fun hHeld => ?_)
            generalize hgx : W.drew = U at hHeld ⊢
            have HX0 := Lib.hid (show Below W.heap.size W U from by rw [← hgx]; exact (Below.refl _ _).drew)
            clear hgx
            refine wpAnyH_take (i := 0) (v := ?_) (by simp only [List.getElem?_toArray, List.getElem?_cons_succ, List.getElem?_cons_zero]; exact rfl) (by kernel_rfl) (by kernel_rfl) (by kernel_rfl) (fun _ _ _ h => h) (Or.inl ⟨by rfl, ?_⟩) (by assumption) ?_
            rotate_left 1
            · (intro w hSw; (try dsimp only at hSw); go_simp; try with_reducible rfl)
            try simp only [Act.put, List.setIfInBounds_toArray, List.set_cons_zero, List.set_cons_succ]
            refine wpAnyH_take (i := 1) (v := ?_) (by simp only [List.getElem?_toArray, List.getElem?_cons_succ, List.getElem?_cons_zero]; exact rfl) (by kernel_rfl) (by kernel_rfl) (by kernel_rfl) (fun _ _ _ h => h) (Or.inl ⟨by rfl, ?_⟩) (by assumption) ?_
            rotate_left 1
            · (intro w hSw; (try dsimp only at hSw); go_simp; try with_reducible rfl)
            try simp only [Act.put, List.setIfInBounds_toArray, List.set_cons_zero, List.set_cons_succ]
            refine wpAnyH_take (i := 2) (v := ?_) (by simp only [List.getElem?_toArray, List.getElem?_cons_succ, List.getElem?_cons_zero]; exact rfl) (by kernel_rfl) (by kernel_rfl) (by kernel_rfl) (fun _ _ _ h => h) (Or.inl ⟨by rfl, ?_⟩) (by assumption) ?_
            rotate_left 1
            · (intro w hSw; (try dsimp only at hSw); go_simp; try with_reducible rfl)
            try simp only [Act.put, List.setIfInBounds_toArray, List.set_cons_zero, List.set_cons_succ]
            refine wpAnyH_take (i := 3) (v := ?_) (by simp only [List.getElem?_toArray, List.getElem?_cons_succ, List.getElem?_cons_zero]; exact rfl) (by kernel_rfl) (by kernel_rfl) (by kernel_rfl) (fun _ _ _ h => h) (Or.inl ⟨by rfl, ?_⟩) (by assumption) ?_
            rotate_left 1
            · (intro w hSw; (try dsimp only at hSw); go_simp; try with_reducible rfl)
            try simp only [Act.put, List.setIfInBounds_toArray, List.set_cons_zero, List.set_cons_succ]
            refine wpAnyH_take (i := 4) (v := ?_) (by simp only [List.getElem?_toArray, List.getElem?_cons_succ, List.getElem?_cons_zero]; exact rfl) (by kernel_rfl) (by kernel_rfl) (by kernel_rfl) (fun _ _ _ h => h) (Or.inl ⟨by rfl, ?_⟩) (by assumption) ?_
            rotate_left 1
            · (intro w hSw; (try dsimp only at hSw); go_simp; try with_reducible rfl)
            try simp only [Act.put, List.setIfInBounds_toArray, List.set_cons_zero, List.set_cons_succ]
            refine wpAnyH_ready (rs := [5, 6]) (by kernel_rfl) (by simp) ?_
            refine (AllReadyH.cons (by simp only [List.getElem?_toArray, List.getElem?_cons_succ, List.getElem?_cons_zero]; exact rfl) (fun K hK => ?_) (AllReadyH.cons (by simp only [List.getElem?_toArray, List.getElem?_cons_succ, List.getElem?_cons_zero]; exact rfl) (fun K hK => ?_) AllReadyH.nil))
            · go_simp
              refine (HCL.out _).mono ?_
              rintro e vW ⟨rfl, hB⟩
              have HX1 := Lib.hid (HX0.out.trans (hB.mono HX0.out.size))
              clear hB
              go_wp2_with fail
              refine hK.out _ _ (HS.out _ HX1.out) (fun hHeld => ?_)
              clear hK K
              try simp only [Act.put, List.setIfInBounds_toArray, List.set_cons_zero, List.set_cons_succ]
              refine wpAnyH_ready (rs := [6]) (by kernel_rfl) (by simp) ?_
              refine (AllReadyH.cons (by simp only [List.getElem?_toArray, List.getElem?_cons_succ, List.getElem?_cons_zero]; exact rfl) (fun K hK => ?_) AllReadyH.nil)
              have HMD := Lib.hid (MiB.made vW)
              have HX2 := Lib.hid (HX1.out.alloc HX1.out.size (.map #[] 0))
              have hzz : (vW.alloc (.map #[] 0)).heap.size = vW.heap.size + 1 := World.size_alloc _ _
              have HGZ := Lib.hid hzz
              clear hzz
              have HGG0 := Lib.hid (HX1.out.size)
              obtain ⟨g, hg⟩ : ∃ g, vW.heap.size = g := ⟨_, rfl⟩
              rw [hg] at HMD HGZ
              have HGG := Lib.hid (show W.heap.size ≤ g from hg ▸ HGG0.out)
              have hmm := @run_makeMap Tryd.prog
              go_simp
              clear hmm
              try rw [hg]
              clear hg
              obtain ⟨U2, hU2⟩ : ∃ U2, vW.alloc (.map #[] 0) = U2 := ⟨_, rfl⟩
              rw [hU2] at HMD HX2 HGZ ⊢
              clear hU2
              refine hK.out _ _ (HS.out _ HX2.out) (fun hHeld => ?_)
              clear hK K
              try simp only [Act.put, List.setIfInBounds_toArray, List.set_cons_zero, List.set_cons_succ]
              refine wpAnyH_ready (rs := [7]) (by kernel_rfl) (by simp) ?_
              refine (AllReadyH.cons (by simp only [List.getElem?_toArray, List.getElem?_cons_succ, List.getElem?_cons_zero]; exact rfl) (fun K hK => ?_) AllReadyH.nil)
              have hWU := (HW.out.of_new HX2.out).mono (T := newF F w U2) (fun _ _ hg => .inl hg)
              have hgw : w.heap.size ≤ g := Nat.le_trans HB1.out.size HGG.out
              have hgl := HMD.out.lt
              obtain ⟨u', hrun, r1, r2, r3⟩ := run_update8 (P := Tryd.prog) wmT stT15 hWU.map p (.map (some g))
              have hf' := hWU.fresh HFN.out HMD.out (fun x hx e => by have := (HW.out.each x hx).lt; have := HGG.out; omega) (fun e => by have := HW.out.map.lt; have := HGG.out; omega) (.inr ⟨hgw, hgl⟩) r1 r2
              have HF2 := Lib.hid hf'
              have HU2 := Lib.hid (And.intro r2 r3)
              have HGW := Lib.hid hgw
              clear r1 r2 r3 hWU hgw hgl
              go_simp
              refine hK.out _ _ (HF2.out.cell) (fun hHeld => ?_)
              clear hrun hf'
              clear hK K
              try simp only [Act.put, List.setIfInBounds_toArray, List.set_cons_zero, List.set_cons_succ]
              refine wpAnyH_done (by kernel_rfl) ?_ _
              refine NoPanic.normal ?_
              have hl4 := look15 HF2.out p
              have hfw : findW ((p, []) :: s) p = some [] := by unfold findW; simp
              rw [hfw] at hl4
              change (Instr.lookup TWm (.map (some mb)) (.string (mkS p)) false).run Tryd.prog u' = .ok (.map (some (if p = p then g else bk p))) u' at hl4
              rw [if_pos rfl] at hl4
              have hm4 := HF2.out.of hfw
              change MiB u' (if p = p then g else bk p) (hsV []) at hm4
              rw [if_pos rfl] at hm4
              obtain ⟨u4, hrun4, q1, q2, q3⟩ := run_updateI15 (P := Tryd.prog) rsT inT15 hm4 k (.int .i64 r)
              have hq4 := nilq15
              have c4 := HF2.out.cell
              have HY := Lib.hid (HoldP.yes (bk2 := fun q => if q = p then g else bk q) (p := p) (k := k) (r := r) HW0.out HC.out (putW_fresh HFN.out k r) HF2.out hfw ?kpf ?gg (by show MiB u4 (if p = p then g else bk p) _; rw [if_pos rfl]; exact q1) (by show u'.grownBy u4 (some (if p = p then g else bk p)); rw [if_pos rfl]; exact q2) q3 (by show F (if p = p then g else bk p) ∨ w.heap.size ≤ (if p = p then g else bk p); rw [if_pos rfl]; exact .inr HGW.out))
              case kpf => exact (KpF.of_new (HB1.out.trans (HX2.out.mono HB1.out.size))).trans (KpF.of_grown HU2.out.1 (fun k hk => by cases hk; exact HW.out.fm))
              case gg => intro g hl hg; rcases hg with h1 | h1; exact .inl h1; exact .inr ⟨h1.1, hl⟩
              clear q1 q2 q3 hm4 hfw hHeld
              go_wp2
              go_ret
              exact HY.out
            · have HMD := Lib.hid (MiB.made U)
              have HX1 := Lib.hid (HX0.out.alloc HX0.out.size (.map #[] 0))
              have hzz : (U.alloc (.map #[] 0)).heap.size = U.heap.size + 1 := World.size_alloc _ _
              have HGZ := Lib.hid hzz
              clear hzz
              have HGG0 := Lib.hid (HX0.out.size)
              obtain ⟨g, hg⟩ : ∃ g, U.heap.size = g := ⟨_, rfl⟩
              rw [hg] at HMD HGZ
              have HGG := Lib.hid (show W.heap.size ≤ g from hg ▸ HGG0.out)
              have hmm := @run_makeMap Tryd.prog
              go_simp
              clear hmm
              try rw [hg]
              clear hg
              obtain ⟨U2, hU2⟩ : ∃ U2, U.alloc (.map #[] 0) = U2 := ⟨_, rfl⟩
              rw [hU2] at HMD HX1 HGZ ⊢
              clear hU2
              refine hK.out _ _ (HS.out _ HX1.out) (fun hHeld => ?_)
              clear hK K
              try simp only [Act.put, List.setIfInBounds_toArray, List.set_cons_zero, List.set_cons_succ]
              refine wpAnyH_ready (rs := [5]) (by kernel_rfl) (by simp) ?_
              refine (AllReadyH.cons (by simp only [List.getElem?_toArray, List.getElem?_cons_succ, List.getElem?_cons_zero]; exact rfl) (fun K hK => ?_) AllReadyH.nil)
              go_simp
              refine (HCL.out _).mono ?_
              rintro e vW ⟨rfl, hB⟩
              have HX2 := Lib.hid (HX1.out.trans (hB.mono HX1.out.size))
              have HMV := Lib.hid (HMD.out.of_below hB)
              have HGL := Lib.hid hB.size
              clear hB
              go_wp2_with fail
              refine hK.out _ _ (HS.out _ HX2.out) (fun hHeld => ?_)
              clear hK K
              try simp only [Act.put, List.setIfInBounds_toArray, List.set_cons_zero, List.set_cons_succ]
              refine wpAnyH_ready (rs := [7]) (by kernel_rfl) (by simp) ?_
              refine (AllReadyH.cons (by simp only [List.getElem?_toArray, List.getElem?_cons_succ, List.getElem?_cons_zero]; exact rfl) (fun K hK => ?_) AllReadyH.nil)
              have hWU := (HW.out.of_new HX2.out).mono (T := newF F w vW) (fun _ _ hg => .inl hg)
              have hgw : w.heap.size ≤ g := Nat.le_trans HB1.out.size HGG.out
              have hgl := HMV.out.lt
              obtain ⟨u', hrun, r1, r2, r3⟩ := run_update8 (P := Tryd.prog) wmT stT15 hWU.map p (.map (some g))
              have hf' := hWU.fresh HFN.out HMV.out (fun x hx e => by have := (HW.out.each x hx).lt; have := HGG.out; omega) (fun e => by have := HW.out.map.lt; have := HGG.out; omega) (.inr ⟨hgw, hgl⟩) r1 r2
              have HF2 := Lib.hid hf'
              have HU2 := Lib.hid (And.intro r2 r3)
              have HGW := Lib.hid hgw
              clear r1 r2 r3 hWU hgw hgl
              go_simp
              refine hK.out _ _ (HF2.out.cell) (fun hHeld => ?_)
              clear hrun hf'
              clear hK K
              try simp only [Act.put, List.setIfInBounds_toArray, List.set_cons_zero, List.set_cons_succ]
              refine wpAnyH_done (by kernel_rfl) ?_ _
              refine NoPanic.normal ?_
              have hl4 := look15 HF2.out p
              have hfw : findW ((p, []) :: s) p = some [] := by unfold findW; simp
              rw [hfw] at hl4
              change (Instr.lookup TWm (.map (some mb)) (.string (mkS p)) false).run Tryd.prog u' = .ok (.map (some (if p = p then g else bk p))) u' at hl4
              rw [if_pos rfl] at hl4
              have hm4 := HF2.out.of hfw
              change MiB u' (if p = p then g else bk p) (hsV []) at hm4
              rw [if_pos rfl] at hm4
              obtain ⟨u4, hrun4, q1, q2, q3⟩ := run_updateI15 (P := Tryd.prog) rsT inT15 hm4 k (.int .i64 r)
              have hq4 := nilq15
              have c4 := HF2.out.cell
              have HY := Lib.hid (HoldP.yes (bk2 := fun q => if q = p then g else bk q) (p := p) (k := k) (r := r) HW0.out HC.out (putW_fresh HFN.out k r) HF2.out hfw ?kpf ?gg (by show MiB u4 (if p = p then g else bk p) _; rw [if_pos rfl]; exact q1) (by show u'.grownBy u4 (some (if p = p then g else bk p)); rw [if_pos rfl]; exact q2) q3 (by show F (if p = p then g else bk p) ∨ w.heap.size ≤ (if p = p then g else bk p); rw [if_pos rfl]; exact .inr HGW.out))
              case kpf => exact (KpF.of_new (HB1.out.trans (HX2.out.mono HB1.out.size))).trans (KpF.of_grown HU2.out.1 (fun k hk => by cases hk; exact HW.out.fm))
              case gg => intro g hl hg; rcases hg with h1 | h1; exact .inl h1; exact .inr ⟨h1.1, hl⟩
              clear q1 q2 q3 hm4 hfw hHeld
              go_wp2
              go_ret
              exact HY.out
  · have t0 : ((kk : Int) == 3) = false := by simp; omega
    have t0' : ((kk : Int) != 3) = true := by simp; omega
    have HC := Lib.hid (show holdC s p k r = 7 by unfold holdC; rw [if_pos (by rw [HKK.out]; exact g1)])
    clear g1 hl3
    go_wp2
    go_ret
    exact HoldP.no HW0.out HB1.out HC.out (by decide)
end
end Go.Proofs.YtcgilacmdckbfaaDoor
