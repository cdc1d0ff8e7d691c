/- (*lane.shift).work. -/
import Derived.Test.YtcgilacmdckbfaaDoorWon14
set_option linter.unusedSimpArgs false
set_option maxRecDepth 100000
set_option linter.unusedVariables false
namespace Go.Proofs.YtcgilacmdckbfaaDoor
open Go Go.RowKit

/-- What a shift has left, as a measure. -/
def leftW (w : World) (b : Nat) : Nat := match w.cell? ⟨b, 1, none⟩ with | some (.int _ z) => z.toNat | _ => 0
theorem leftW_at {w : World} {b tk left : Nat} {F : Nat → Prop} {out : List Wk} {fin : List Fl} (h : ShAt w b F tk left out fin) : leftW w b = left := by
  obtain ⟨vd, vf, h1, -⟩ := h
  unfold leftW
  rw [(shCells h1).2.1]
  simp
theorem cut_pre {cur : Array Value} {n k : Nat} {pre : List Value} {f : Fl} {q : List Fl} (M : Nat) (ht : cur.toList.take (n * 4) = pre ++ flsC (f :: q)) (hp : pre.length = k * 4) (hn : k + (q.length + 1) = n) (hs : n * 4 ≤ cur.size) :
    cur[k * 4]? = some (.string (mkS f.path)) ∧ cur[k * 4 + 1]? = some (.int .i64 (f.blocks : Int)) ∧ cur[k * 4 + 2]? = some (.int .i64 (f.done : Int)) ∧
      (cur.setIfInBounds (k * 4 + 2) (.int .i64 (M : Int))).toList.take (n * 4) = pre ++ flC { f with done := M } ++ flsC q := by
  have hc : flsC (f :: q) = flC f ++ flsC q := by unfold flsC; rw [List.flatMap_cons]
  have get : ∀ j, j < 4 → cur[k * 4 + j]? = (flC f)[j]? := fun j hj => by
    have e : (cur.toList.take (n * 4))[k * 4 + j]? = (pre ++ flsC (f :: q))[k * 4 + j]? := by rw [ht]
    rw [List.getElem?_take, if_pos (by omega), Array.getElem?_toList] at e
    rw [e, List.getElem?_append_right (by omega), hp, hc, List.getElem?_append_left (by simp [flC]; omega)]
    congr 1
    omega
  refine ⟨get 0 (by decide), get 1 (by decide), get 2 (by decide), ?_⟩
  rw [Array.toList_setIfInBounds, List.take_set, ht, hc, ← List.append_assoc]
  rw [List.set_append_left _ _ (by rw [List.length_append, hp]; simp [flC]), List.set_append_right _ _ (by omega), hp]
  rw [show k * 4 + 2 - k * 4 = 2 by omega]
  rfl
theorem kpF_drewN (S : Nat → Prop) (w : World) (n : Nat) : KpF S w (w.drewN n) := ⟨rfl, rfl, rfl, Nat.le_refl _, fun _ _ _ => rfl⟩
theorem ShAt.keep {w w' : World} {b tk L : Nat} {F S : Nat → Prop} {out : List Wk} {fin : List Fl} (h : ShAt w b F tk L out fin) (hK : KpF S w w') (hs : ∀ g, F g → ¬ S g) : ShAt w' b F tk L out fin := by
  obtain ⟨v1, v2, h1, h2, h3, h4, h5, h6⟩ := h
  exact ⟨v1, v2, (hK.block b (Array.getElem?_eq_some_iff.1 h1).1 (hs b h4)).trans h1, own_kpF h2 hK fun g hg => hs g (h5 g hg).1, own_kpF h3 hK fun g hg => hs g (h6 g hg).1, h4, h5, h6⟩
theorem take_pre {pre cs : List Value} {k : Nat} (h : pre.length = k * 4) : (pre ++ cs).take (0 * 4) ++ (pre ++ cs).drop (k * 4) = cs := by
  rw [Nat.zero_mul, List.take_zero, List.nil_append, List.drop_left' h]
/-- What work leaves. -/
def WrkP (w : World) (b tk : Nat) (F : Nat → Prop) (v : Value) (R : Wr) (out : List Wk) (fin : List Fl) (v' : Value) (w' : World) : Prop :=
  w'.ownsRow 0 EF 4 v' R.rest.length (flsC R.rest) ∧ v'.ownBlock = v.ownBlock ∧ ShAt w' b (newF F w w') tk R.left (out ++ R.out) (fin ++ R.fin) ∧ KpF (fun g => F g ∨ v.ownBlock = some g) w w'
theorem WInv.lens {tk : Nat} {en : Bool} {Q : List Fl} {L0 : Nat} {rest : List Fl} {left : Nat} {out : List Wk} {fin : List Fl} (h : WInv tk en Q L0 rest left out fin) : out.length ≤ Q.length ∧ fin.length ≤ Q.length := by
  have h1 := workL_out_le tk en Q L0
  have h2 := congrArg List.length (workL_paths tk en Q L0).1
  unfold WInv at h
  rw [h] at h1 h2
  simp only [List.length_append, List.length_map] at h1 h2
  omega
set_option maxHeartbeats 8000000 in
theorem work_any {w : World} {b tk L0 : Nat} {F : Nat → Prop} {v : Value} {Q : List Fl} {out0 : List Wk} {fin0 : List Fl} (en : Bool) (hS : ShAt w b F tk L0 out0 fin0) (hO : w.ownsRow 0 EF 4 v Q.length (flsC Q)) (hq : ∀ g, v.ownBlock = some g → ¬ F g)
    (hok : okL Q) (hL : L0 ≤ 100000) (hn : Q.length < 100000 ∧ out0.length < 200000 ∧ fin0.length < 200000) :
    Calls Tryd.prog 32 #[.pointer (some ⟨b, 0, none⟩), v, .bool en] w fun e w' => ∃ v', e = .returned v' ∧ WrkP w b tk F v (workL tk en Q L0) out0 fin0 v' w' := by
  obtain ⟨p, cap, e1, hl, hp0, hcap, hpb⟩ := own_shape hO
  subst e1
  obtain ⟨n, hnq⟩ : ∃ n, Q.length = n := ⟨_, rfl⟩
  rw [hnq] at hO hq hcap hn
  rw [hnq]
  have HNQ := Lib.hid hnq
  have HIN := Lib.hid (And.intro hS (And.intro hO (And.intro hq hok)))
  clear hl hpb hnq
  have hn1 := hn.1
  go_enter Tryd.func32, Tryd.ntmps32
  go_wp2
  go_loopw [7] (fun v7 wr => ∃ (k : Nat) (rest : List Fl) (left : Nat) (out : List Wk) (fin : List Fl) (pre : List Value), v7 = .int .i64 (k : Int) ∧ k + rest.length = n ∧ WInv tk en Q L0 rest left out fin ∧ wr.ownsRow 0 EF 4 (.slice p n cap) n (pre ++ flsC rest) ∧ pre.length = k * 4 ∧
      ShAt wr b (newF F w wr) tk left (out0 ++ out) (fin0 ++ fin) ∧ KpF (fun g => F g ∨ (Value.slice p n cap).ownBlock = some g) w wr ∧ okL rest ∧ left ≤ L0 ∧ ∀ u ∈ pre, u.oneCell' = true) (fun v7 wr => (n - (intOf v7).toNat) * 2 + (if leftW wr b = 0 then 0 else 1))
  case atStart => exact ⟨0, Q, L0, [], [], [], rfl, by rw [HNQ.out]; omega, WInv.start _ _ _ _, HIN.out.2.1, rfl, by simpa using HIN.out.1.mono fun g _ h => .inl h, KpF.refl _ _, HIN.out.2.2.2, Nat.le_refl _, fun u hu => by cases hu⟩
  case round =>
    rename World => wa
    obtain ⟨k, rest, left, out, fin, pre, rfl, hk, hW, hO, hpre, hS, hK, hokr, hle, hone⟩ := hrel
    have hlens := hW.lens
    rw [HNQ.out] at hlens
    have hn20 : n < 100000 := hn1
    cases rest with
    | nil =>
      have hkn : k = n := by simpa using hk
      have hpre' : pre.length = n * 4 := by rw [hpre, hkn]
      have z1 : ¬ (k : Int) < (n : Int) := by omega
      have z2 : decide ((k : Int) < (n : Int)) = false := decide_eq_false z1
      have HST := Lib.hid (hW.stop (fun f hf => by cases hf))
      go_wp2
      go_quiet (fail)
      go_wp2_with fail
      have hkd := kpF_drewN (fun _ => False) wa nq
      have hO1 := own_kpF hO hkd (fun _ _ h => h)
      have hS1 := hS.keep hkd (fun _ _ h => h)
      have hK1 := hK.trans (kpF_drewN _ wa nq)
      generalize wa.drewN nq = wb at hO1 hS1 hK1 ⊢
      have HDE := delete_any wb hO1 0 n (Nat.zero_le _) (by omega) (by omega) (fun u hu => by
        rcases List.mem_append.1 hu with h1 | h1
        · exact hone u h1
        · exact flsC_oneCell _ u h1)
      rw [take_pre hpre'] at HDE
      refine HDE.mono ?_
      rintro e wc ⟨v', rfl, hD⟩
      have HD := Lib.hid hD
      have HS1 := Lib.hid hS1
      have HK1 := Lib.hid hK1
      clear hD hS1 hK1 hO1 HDE
      go_wp2
      go_ret
      refine ⟨v', rfl, ?_⟩
      rw [HST.out]
      refine ⟨by have := HD.out.1; rw [show n - (n - 0) = [].length by (try rw [List.length_cons] at hk); (try simp only [List.length_nil, List.length_cons]); omega] at this; exact this, HD.out.2.1, (HS1.out.keep HD.out.2.2 (fun x hx hb => ?_)).mono (fun x hx hF => ?_), (HK1.out.trans (HD.out.2.2.mono fun x _ hx => .inr hx))⟩
      · rcases hx with hx | hx
        · exact HIN.out.2.2.1 x hb hx
        · exact absurd (HIN.out.2.1.lt x hb).2 (by omega)
      · rcases hF with hF | hF
        · exact .inl hF
        · exact .inr ⟨hF.1, hx⟩
    | cons f q =>
      have hkn : k < n := by rw [List.length_cons] at hk; omega
      have z1 : (k : Int) < (n : Int) := by omega
      have z2 : decide ((k : Int) < (n : Int)) = true := decide_eq_true z1
      have hof := hokr f (by simp)
      obtain ⟨g, cur, rfl, hg, hsz, ht, hcm⟩ : ∃ g cur, p = some ⟨g, 0, none⟩ ∧ wa.heap[g]? = some (.cells cur EF (0, 0)) ∧ cur.size = cap * 4 ∧ cur.toList.take (n * 4) = pre ++ flsC (f :: q) ∧ cap ≤ maxLen := by
        rcases hO.2 with ⟨hv, hn0⟩ | ⟨g, cap', cur, hv, hb, hg, hle', hcm, hsz, ht⟩
        · omega
        · injection hv with hv1 hv2 hv3
          subst hv3
          exact ⟨g, cur, hv1, hg, hsz, ht, hcm⟩
      obtain ⟨M, hM⟩ : ∃ M, min f.blocks (f.done + left) = M := ⟨_, rfl⟩
      obtain ⟨x0, x1, x2, hcut⟩ := cut_pre (k := k) (f := f) (q := q) M ht hpre (by rw [List.length_cons] at hk; omega) (by omega)
      have hFL : FlAt wa g (k * 4) cur f := ⟨hg, x0, x1, x2⟩
      have fc := flCells hFL
      obtain ⟨vd, vf, hsb, -⟩ := id hS
      have sc := (shCells hsb).2.1
      obtain ⟨f0, f1, f2, -⟩ := fc
      obtain ⟨B, hB⟩ : ∃ n, f.blocks = n := ⟨_, rfl⟩
      obtain ⟨D, hD⟩ : ∃ n, f.done = n := ⟨_, rfl⟩
      rw [hB] at f1
      rw [hD] at f2
      by_cases hl0 : 0 < left
      · have y1 : (0 : Int) < (left : Int) := by omega
        have y2 : decide ((0 : Int) < (left : Int)) = true := decide_eq_true y1
        have HGO := Lib.hid (show 0 < left ∨ f.done = f.blocks from .inl hl0)
        go_wp2
        go_quiet (fail)
        go_wp2_with fail
        have hgo : ∀ x, (Value.slice (some ⟨g, 0, none⟩) n cap).ownBlock = some x → x = g := fun x hx => by injection hx with hx; exact hx.symm
        have hgw : g < w.heap.size := (HIN.out.2.1.lt g rfl).2
        have hgF : ¬ newF F w wa g := fun e => by
          rcases e with e | e
          · exact HIN.out.2.2.1 g rfl e
          · omega
        have hkd := kpF_drewN (fun _ => False) wa nq
        have hS1 := hS.keep hkd (fun _ _ h => h)
        have hFL1 : FlAt (wa.drewN nq) g (k * 4) cur f := hFL.keep (hkd.block g (Array.getElem?_eq_some_iff.1 hg).1 (fun h => h))
        have hK1 := hK.trans (kpF_drewN _ wa nq)
        have hsz1 : wa.heap.size = (wa.drewN nq).heap.size := rfl
        have HLA := Lib.hid (leftW_at hS)
        generalize wa.drewN nq = wb at hkd hS1 hFL1 hK1 hsz1 ⊢
        refine (workOn_any en hS1 hFL1 hgF hof (by omega) ⟨by rw [List.length_append]; omega, by rw [List.length_append]; omega⟩).mono ?_
        rintro e wc ⟨he, hF2, hSh2, hK2⟩
        rw [hM] at he hF2 hSh2
        have hK3 : KpF (fun x => F x ∨ (Value.slice (some ⟨g, 0, none⟩) n cap).ownBlock = some x) w wc := ⟨hK2.os.trans hK1.os, hK2.tape.trans hK1.tape, hK2.output.trans hK1.output, Nat.le_trans hK1.size hK2.size, fun i hi hb => (hK2.block i (Nat.lt_of_lt_of_le hi hK1.size) (fun e => by
          rcases e with (e | e) | e
          · exact hb (.inl e)
          · omega
          · exact hb (.inr (by rw [e]; rfl)))).trans (hK1.block i hi hb)⟩
        have hMd : f.done ≤ M := by have := hof.1; omega
        have hMb : M ≤ f.blocks := by omega
        have hcs : cur.size = (cur.setIfInBounds (k * 4 + 2) (.int .i64 (M : Int))).size := by simp
        have HOC := Lib.hid (show wc.ownsRow 0 EF 4 (.slice (some ⟨g, 0, none⟩) n cap) n (pre ++ flC { f with done := M } ++ flsC q) from ⟨by rw [← hcut, List.length_take, Array.length_toList, ← hcs]; omega, .inr ⟨g, cap, _, rfl, Nat.zero_le _, hF2.1, hcap, hcm, by rw [← hcs]; exact hsz, hcut⟩⟩)
        have HK3 := Lib.hid hK3
        have HSH := Lib.hid (show ShAt wc b (newF F w wc) tk (left - (M - f.done)) (out0 ++ (out ++ [⟨f.path, f.done, M, en, decide (M = f.blocks)⟩])) (if M = f.blocks then fin0 ++ (fin ++ [⟨f.path, f.blocks, 0, tk⟩]) else fin0 ++ fin) from by
          rw [← List.append_assoc, ← List.append_assoc]
          exact hSh2.mono fun x hx hF => by
            rcases hF with (hF | hF) | hF
            · exact .inl hF
            · exact .inr ⟨hF.1, hx⟩
            · exact .inr ⟨Nat.le_trans hK1.size hF.1, hF.2⟩)
        have HLC := Lib.hid (leftW_at hSh2)
        have HWI := Lib.hid hW
        have HOK := Lib.hid hokr
        have HPR := Lib.hid (And.intro hpre hone)
        have hw6 : IntKind.i64.wrap ((k : Int) + 1) = (k : Int) + 1 := by rw [IntKind.wrap_i64]; omega
        clear hS1 hFL1 hK1 hkd hsz1 hF2 hSh2 hK2 hK3 hW hokr hS hK hO hcut hFL x0 x1 x2 hg ht hsb sc f0 f1 f2 hpre hone
        by_cases hfin : M = f.blocks
        · rw [decide_eq_true hfin] at he
          subst he
          go_wp2
          refine ⟨⟨k + 1, q, left - (f.blocks - f.done), out ++ [⟨f.path, f.done, f.blocks, en, true⟩], fin ++ [⟨f.path, f.blocks, 0, tk⟩], pre ++ flC { f with done := M }, by go_num, by rw [List.length_cons] at hk; omega, HWI.out.finish HGO.out (by omega), HOC.out, by rw [List.length_append, HPR.out.1]; simp [flC]; omega, ?_, HK3.out, fun x hx => HOK.out x (by simp [hx]), by omega, fun u hu => ?_⟩, ?_⟩
          · have := HSH.out
            rw [if_pos hfin, decide_eq_true hfin, hfin] at this
            exact this
          · rcases List.mem_append.1 hu with h1 | h1
            · exact HPR.out.2 u h1
            · exact flC_one _ u h1
          · have h1 := HLA.out
            have h2 := HLC.out
            simp only [intOf]
            split <;> split <;> omega
        · rw [decide_eq_false hfin] at he
          subst he
          go_wp2
          have hle0 : 0 < left := by omega
          have hMe : M = f.done + left := by omega
          refine ⟨⟨k, { f with done := f.done + left } :: q, 0, out ++ [⟨f.path, f.done, f.done + left, en, false⟩], fin, pre, rfl, by rw [List.length_cons] at hk ⊢; exact hk, HWI.out.part HGO.out (by omega), ?_, HPR.out.1, ?_, HK3.out, fun x hx => ?_, by omega, HPR.out.2⟩, ?_⟩
          · have := HOC.out
            rw [hMe, List.append_assoc] at this
            exact this
          · have := HSH.out
            rw [if_neg hfin, decide_eq_false hfin, hMe, show left - (f.done + left - f.done) = 0 by omega] at this
            exact this
          · rcases List.mem_cons.1 hx with rfl | hx
            · exact ⟨by show f.done + left ≤ f.blocks; omega, hof.2⟩
            · exact HOK.out x (by simp [hx])
          · have h1 := HLA.out
            have h2 := HLC.out
            have h3 : left - (M - f.done) = 0 := by omega
            rw [h3] at h2
            rw [h1, h2, if_pos rfl, if_neg (by omega)]
            omega
      · have y1 : ¬ (0 : Int) < (left : Int) := by omega
        have y2 : decide ((0 : Int) < (left : Int)) = false := decide_eq_false y1
        by_cases hdb : D = B
        · have y3 : ((D : Int) == (B : Int)) = true := by simp [hdb]
          have y4 : decide ((D : Int) = (B : Int)) = true := by simp [hdb]
          have HGO := Lib.hid (show 0 < left ∨ f.done = f.blocks from .inr (by rw [hD, hB, hdb]))
          go_wp2
          go_quiet (fail)
          go_wp2_with fail
          have hgo : ∀ x, (Value.slice (some ⟨g, 0, none⟩) n cap).ownBlock = some x → x = g := fun x hx => by injection hx with hx; exact hx.symm
          have hgw : g < w.heap.size := (HIN.out.2.1.lt g rfl).2
          have hgF : ¬ newF F w wa g := fun e => by
            rcases e with e | e
            · exact HIN.out.2.2.1 g rfl e
            · omega
          have hkd := kpF_drewN (fun _ => False) wa nq
          have hS1 := hS.keep hkd (fun _ _ h => h)
          have hFL1 : FlAt (wa.drewN nq) g (k * 4) cur f := hFL.keep (hkd.block g (Array.getElem?_eq_some_iff.1 hg).1 (fun h => h))
          have hK1 := hK.trans (kpF_drewN _ wa nq)
          have hsz1 : wa.heap.size = (wa.drewN nq).heap.size := rfl
          have HLA := Lib.hid (leftW_at hS)
          generalize wa.drewN nq = wb at hkd hS1 hFL1 hK1 hsz1 ⊢
          refine (workOn_any en hS1 hFL1 hgF hof (by omega) ⟨by rw [List.length_append]; omega, by rw [List.length_append]; omega⟩).mono ?_
          rintro e wc ⟨he, hF2, hSh2, hK2⟩
          rw [hM] at he hF2 hSh2
          have hK3 : KpF (fun x => F x ∨ (Value.slice (some ⟨g, 0, none⟩) n cap).ownBlock = some x) w wc := ⟨hK2.os.trans hK1.os, hK2.tape.trans hK1.tape, hK2.output.trans hK1.output, Nat.le_trans hK1.size hK2.size, fun i hi hb => (hK2.block i (Nat.lt_of_lt_of_le hi hK1.size) (fun e => by
            rcases e with (e | e) | e
            · exact hb (.inl e)
            · omega
            · exact hb (.inr (by rw [e]; rfl)))).trans (hK1.block i hi hb)⟩
          have hMd : f.done ≤ M := by have := hof.1; omega
          have hMb : M ≤ f.blocks := by omega
          have hcs : cur.size = (cur.setIfInBounds (k * 4 + 2) (.int .i64 (M : Int))).size := by simp
          have HOC := Lib.hid (show wc.ownsRow 0 EF 4 (.slice (some ⟨g, 0, none⟩) n cap) n (pre ++ flC { f with done := M } ++ flsC q) from ⟨by rw [← hcut, List.length_take, Array.length_toList, ← hcs]; omega, .inr ⟨g, cap, _, rfl, Nat.zero_le _, hF2.1, hcap, hcm, by rw [← hcs]; exact hsz, hcut⟩⟩)
          have HK3 := Lib.hid hK3
          have HSH := Lib.hid (show ShAt wc b (newF F w wc) tk (left - (M - f.done)) (out0 ++ (out ++ [⟨f.path, f.done, M, en, decide (M = f.blocks)⟩])) (if M = f.blocks then fin0 ++ (fin ++ [⟨f.path, f.blocks, 0, tk⟩]) else fin0 ++ fin) from by
            rw [← List.append_assoc, ← List.append_assoc]
            exact hSh2.mono fun x hx hF => by
              rcases hF with (hF | hF) | hF
              · exact .inl hF
              · exact .inr ⟨hF.1, hx⟩
              · exact .inr ⟨Nat.le_trans hK1.size hF.1, hF.2⟩)
          have HLC := Lib.hid (leftW_at hSh2)
          have HWI := Lib.hid hW
          have HOK := Lib.hid hokr
          have HPR := Lib.hid (And.intro hpre hone)
          have hw6 : IntKind.i64.wrap ((k : Int) + 1) = (k : Int) + 1 := by rw [IntKind.wrap_i64]; omega
          clear hS1 hFL1 hK1 hkd hsz1 hF2 hSh2 hK2 hK3 hW hokr hS hK hO hcut hFL x0 x1 x2 hg ht hsb sc f0 f1 f2 hpre hone
          by_cases hfin : M = f.blocks
          · rw [decide_eq_true hfin] at he
            subst he
            go_wp2
            refine ⟨⟨k + 1, q, left - (f.blocks - f.done), out ++ [⟨f.path, f.done, f.blocks, en, true⟩], fin ++ [⟨f.path, f.blocks, 0, tk⟩], pre ++ flC { f with done := M }, by go_num, by rw [List.length_cons] at hk; omega, HWI.out.finish HGO.out (by omega), HOC.out, by rw [List.length_append, HPR.out.1]; simp [flC]; omega, ?_, HK3.out, fun x hx => HOK.out x (by simp [hx]), by omega, fun u hu => ?_⟩, ?_⟩
            · have := HSH.out
              rw [if_pos hfin, decide_eq_true hfin, hfin] at this
              exact this
            · rcases List.mem_append.1 hu with h1 | h1
              · exact HPR.out.2 u h1
              · exact flC_one _ u h1
            · have h1 := HLA.out
              have h2 := HLC.out
              simp only [intOf]
              split <;> split <;> omega
          · rw [decide_eq_false hfin] at he
            subst he
            go_wp2
            have hle0 : 0 < left := by omega
            have hMe : M = f.done + left := by omega
            refine ⟨⟨k, { f with done := f.done + left } :: q, 0, out ++ [⟨f.path, f.done, f.done + left, en, false⟩], fin, pre, rfl, by rw [List.length_cons] at hk ⊢; exact hk, HWI.out.part HGO.out (by omega), ?_, HPR.out.1, ?_, HK3.out, fun x hx => ?_, by omega, HPR.out.2⟩, ?_⟩
            · have := HOC.out
              rw [hMe, List.append_assoc] at this
              exact this
            · have := HSH.out
              rw [if_neg hfin, decide_eq_false hfin, hMe, show left - (f.done + left - f.done) = 0 by omega] at this
              exact this
            · rcases List.mem_cons.1 hx with rfl | hx
              · exact ⟨by show f.done + left ≤ f.blocks; omega, hof.2⟩
              · exact HOK.out x (by simp [hx])
            · have h1 := HLA.out
              have h2 := HLC.out
              have h3 : left - (M - f.done) = 0 := by omega
              rw [h3] at h2
              rw [h1, h2, if_pos rfl, if_neg (by omega)]
              omega
        · have y3 : ((D : Int) == (B : Int)) = false := by simp; omega
          have y4 : decide ((D : Int) = (B : Int)) = false := by simp; omega
          have HST := Lib.hid (hW.stop (fun f' hf' => by
            have : f' = f := by simpa using hf'.symm
            subst this
            exact ⟨by omega, by rw [hD, hB]; exact hdb⟩))
          go_wp2
          go_quiet (fail)
          go_wp2_with fail
          have hkd := kpF_drewN (fun _ => False) wa nq
          have hO1 := own_kpF hO hkd (fun _ _ h => h)
          have hS1 := hS.keep hkd (fun _ _ h => h)
          have hK1 := hK.trans (kpF_drewN _ wa nq)
          generalize wa.drewN nq = wb at hO1 hS1 hK1 ⊢
          have HDE := delete_any wb hO1 0 k (Nat.zero_le _) (by omega) (by omega) (fun u hu => by
            rcases List.mem_append.1 hu with h1 | h1
            · exact hone u h1
            · exact flsC_oneCell _ u h1)
          rw [take_pre hpre] at HDE
          refine HDE.mono ?_
          rintro e wc ⟨v', rfl, hD⟩
          have HD := Lib.hid hD
          have HS1 := Lib.hid hS1
          have HK1 := Lib.hid hK1
          clear hD hS1 hK1 hO1 HDE
          go_wp2
          go_ret
          refine ⟨v', rfl, ?_⟩
          rw [HST.out]
          refine ⟨by have := HD.out.1; rw [show n - (k - 0) = (f :: q).length by (try rw [List.length_cons] at hk); (try simp only [List.length_nil, List.length_cons]); omega] at this; exact this, HD.out.2.1, (HS1.out.keep HD.out.2.2 (fun x hx hb => ?_)).mono (fun x hx hF => ?_), (HK1.out.trans (HD.out.2.2.mono fun x _ hx => .inr hx))⟩
          · rcases hx with hx | hx
            · exact HIN.out.2.2.1 x hb hx
            · exact absurd (HIN.out.2.1.lt x hb).2 (by omega)
          · rcases hF with hF | hF
            · exact .inl hF
            · exact .inr ⟨hF.1, hx⟩
end Go.Proofs.YtcgilacmdckbfaaDoor
