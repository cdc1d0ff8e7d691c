/- Merged texts: Wfr15, Wmf15, Wmv15, Pth15, LibK15, Hel15, Rfh15, Rdp15, Rfr15, RefS7, RefK7, Rho15, Rhs15, Rhm15, Rel15. -/
import Derived.Test.YtllpcllgliknpaaGreatDoorKW1
import Derived.Deep.RegionHeld3
import Derived.Sort.KeysCollected
import Derived.Test.YtllpcllgliknpaaGreatDoorLib8
import Derived.Shelf.SlGeneric
import Derived.Shelf.Sort.Plain
import Derived.Shelf.Slices.In.SortNone
import Derived.Shelf.SlIterI.Nil
import Derived.Ground.GgzProg
import Derived.Test.YtllpcllgliknpaaGreatDoorProg
import Derived.Test.YtllpcllgliknpaaGreatDoorOwnK8
import Derived.Deep.QuietTactic
import Derived.RegionTactic
import Derived.Deep.RegionLaw
import Derived.Test.YtllpcllgliknpaaGreatDoorRef7
set_option linter.unusedSimpArgs false
set_option linter.unusedVariables false
/- Why, Drop, Free of the ward. -/
set_option maxRecDepth 100000
namespace Go.Proofs.YtllpcllgliknpaaGreatDoor
open Go Go.RowKit Go.MapKept

section
variable {w w' : World} {b mb : Nat} {F : Nat → Prop} {s : Ws} {bk : S8 → Nat}
theorem look3_15 (h : WdAt w b F s mb bk) (p : S8) (k : Int) : (Instr.lookup TRs (.map ((findW s p).map fun _ => bk p)) (.int .i64 k) true).run Tryz.prog w = .ok (.tuple #[.int .i64 ((whyW (ofW s p) k).getD 0), .bool (whyW (ofW s p) k).isSome]) w := by
  cases hf : findW s p with
  | none =>
    have : whyW (ofW s p) k = none := by unfold ofW; rw [hf]; rfl
    rw [this]
    exact lookNil15 w k
  | some l =>
    have hof : ofW s p = l := by unfold ofW; rw [hf]; rfl
    have hl := run_lookupI15 (P := Tryz.prog) rsT inT15 (zeroIn w) (h.of hf) k true
    rw [findI_hs] at hl
    rw [hof]
    cases hw : whyW l k with
    | none => rw [hw] at hl; exact hl
    | some v => rw [hw] at hl; exact hl
/-- What Why answers. -/
def whyC (s : Ws) (p : S8) (k : Int) : Int × Int := match whyW (ofW s p) k with
  | some v => (v, 0)
  | none => (0, 8)
set_option maxRecDepth 100000 in
set_option maxHeartbeats 4000000 in
theorem why15_any (h : WdAt w b F s mb bk) (p : S8) (k : Int) : Calls Tryz.prog 17 #[.pointer (some ⟨b, 0, none⟩), .string (mkS p), .int .i64 k] w fun e w' => e = .returned (.tuple #[.int .i64 (whyC s p k).1, .int .i64 (whyC s p k).2]) ∧ w = w' := by
  have c0 := h.cell
  have hl := look15 h p
  have hl2 := look3_15 h p k
  obtain ⟨ob, hob⟩ : ∃ ob, ((findW s p).map fun _ => bk p) = ob := ⟨_, rfl⟩
  rw [hob] at hl2 hl
  clear hob h
  unfold whyC
  cases hw : whyW (ofW s p) k with
  | none =>
    rw [hw] at hl2
    clear hw
    change _ = Result.ok (Value.tuple #[.int .i64 0, .bool false]) w at hl2
    go_enter Tryz.func17, Tryz.ntmps17
    go_wp2
    go_ret2
    exact ⟨rfl, rfl⟩
  | some v =>
    rw [hw] at hl2
    clear hw
    change _ = Result.ok (Value.tuple #[.int .i64 v, .bool true]) w at hl2
    go_enter Tryz.func17, Tryz.ntmps17
    go_wp2
    go_ret2
    exact ⟨rfl, rfl⟩
/-- A path is taken out. -/
theorem WdAt.del (h : WdAt w b F s mb bk) (p : S8) (hm : MpB w' mb (delV (wsV bk s) p)) (hg : w.grownBy w' (some mb)) : WdAt w' b F (delW s p) mb bk := by
  have hk : ∀ k, k < w.heap.size → k ≠ mb → w'.heap[k]? = w.heap[k]? := fun k hl hne => hg.block k hl (fun e => hne (by injection e with e))
  have hin : ∀ x ∈ delW s p, x ∈ s := fun x hx => (delW_mem hx).1
  refine ⟨(hk b h.lt (fun e => ?_)).trans h.box, by rw [delV_ws] at hm; exact hm, fun x hx => (h.each x (hin x hx)).keep (hk _ (h.each x (hin x hx)).lt (h.ne x (hin x hx))), fun x hx => h.ne x (hin x hx), fun x hx y hy => h.inj x (hin x hx) y (hin y hy), h.fb, h.fm, fun x hx => h.fk x (hin x hx)⟩
  obtain ⟨es, clock, hb, -⟩ := h.map
  rw [← e, h.box] at hb
  cases hb
/-- What is held of a path is another. -/
theorem WdAt.inner (h : WdAt w b F s mb bk) {p : S8} {l : Hs} (hf : findW s p = some l) (l' : Hs) (hm : MiB w' (bk p) (hsV l')) (hg : w.grownBy w' (some (bk p))) : WdAt w' b F ((p, l') :: delW s p) mb bk := by
  have hin := findW_in hf
  have hbp := h.ne _ hin
  have hk : ∀ g, g < w.heap.size → g ≠ bk p → w'.heap[g]? = w.heap[g]? := fun g hl hne => hg.block g hl (fun e => hne (by injection e with e))
  refine ⟨(hk b h.lt (fun e => ?_)).trans h.box, ?_, fun x hx => ?_, fun x hx => ?_, fun x hx y hy => ?_, h.fb, h.fm, fun x hx => ?_⟩
  · obtain ⟨es, clock, hb, -⟩ := h.each _ hin
    rw [← e, h.box] at hb
    cases hb
  · exact (h.map.keep (hk mb h.map.lt (Ne.symm hbp))).of_perm (ws_perm h.keys hin bk _)
  · rcases List.mem_cons.1 hx with rfl | hx
    · exact hm
    · obtain ⟨h1, h2⟩ := delW_mem hx
      exact (h.each x h1).keep (hk _ (h.each x h1).lt fun e => h2 (h.inj x h1 (p, l) hin e))
  · rcases List.mem_cons.1 hx with rfl | hx
    · exact hbp
    · exact h.ne x (delW_mem hx).1
  · rcases List.mem_cons.1 hx with rfl | hx <;> rcases List.mem_cons.1 hy with rfl | hy
    · exact fun _ => rfl
    · exact h.inj (p, l) hin y (delW_mem hy).1
    · exact h.inj x (delW_mem hx).1 (p, l) hin
    · exact h.inj x (delW_mem hx).1 y (delW_mem hy).1
  · rcases List.mem_cons.1 hx with rfl | hx
    · exact h.fk (p, l) hin
    · exact h.fk x (delW_mem hx).1
/-- What a call of the ward leaves. -/
def WdP (w : World) (b : Nat) (F : Nat → Prop) (mb : Nat) (c : Int) (s' : Ws) (e : Ending) (w' : World) : Prop :=
  e = .returned (.int .i64 c) ∧ (∃ bk', WdAt w' b (newF F w w') s' mb bk') ∧ KpF F w w'
set_option maxRecDepth 100000 in
set_option maxHeartbeats 4000000 in
theorem drop15_any (h : WdAt w b F s mb bk) (p : S8) (hn : (ofW s p).length < 1000000) : Calls Tryz.prog 14 #[.pointer (some ⟨b, 0, none⟩), .string (mkS p)] w fun e w' => WdP w b F mb ((ofW s p).length : Int) (delW s p) e w' := by
  have c0 := h.cell
  have hl := look15 h p
  have H := Lib.hid h
  obtain ⟨n, hnn⟩ : ∃ n, (ofW s p).length = n := ⟨_, rfl⟩
  have hln : ∀ ty, (Builtin.len_ #[TRs] ty #[.map ((findW s p).map fun _ => bk p)]).run Tryz.prog w = .ok (.int .i64 (n : Int)) w := fun ty => by
    rw [← hnn]
    unfold ofW
    cases hf : findW s p with
    | none => exact Maps.len_nil rsT ty
    | some l =>
      have h1 := run_lenI15 (P := Tryz.prog) (ty := ty) rsT (h.of hf)
      rw [hsV_len] at h1
      exact h1
  obtain ⟨ob, hob⟩ : ∃ ob, ((findW s p).map fun _ => bk p) = ob := ⟨_, rfl⟩
  rw [hob] at hl hln
  rw [hnn]
  clear hob h hnn hn
  go_enter Tryz.func14, Tryz.ntmps14
  go_wp2_with (first | (refine (id ?_ : wpList _ _ _ (⟨none, _, _, _, _, _⟩ :: _) _ _); generalize hG : wpList _ _ _ (_ :: _) _ _ = G))
  rw [← hG]
  clear hG
  refine wpl_delete8 _ rfl (.tmp 16) (.tmp 17) rfl wmT stT15 rfl H.out.map p rfl ?_
  intro w2 m1 m2 m3
  have HD := Lib.hid (And.intro (H.out.del p m1 m2) m2)
  clear m1 m2 m3
  go_wp2
  go_ret
  exact ⟨rfl, ⟨bk, HD.out.1.mono fun g _ hg => .inl hg⟩, KpF.of_grown HD.out.2 fun k e => by injection e with e; exact e ▸ H.out.fm⟩
end
end Go.Proofs.YtllpcllgliknpaaGreatDoor
/- Free of the ward. -/
set_option maxRecDepth 100000
namespace Go.Proofs.YtllpcllgliknpaaGreatDoor
open Go Go.RowKit Go.MapKept

/-- What Free answers; what it leaves. -/
def freeC (s : Ws) (p : S8) (k : Int) : Int := if (whyW (ofW s p) k).isSome then 0 else 8
def freeW (s : Ws) (p : S8) (k : Int) : Ws := if (whyW (ofW s p) k).isSome then (if (delH (ofW s p) k).length = 0 then delW s p else (p, delH (ofW s p) k) :: delW s p) else s
theorem delW_cons (s : Ws) (p : S8) (h : Hs) : delW ((p, h) :: delW s p) p = delW s p := by
  unfold delW
  rw [List.filter_cons, if_neg (by simp), List.filter_filter]
  congr 1
  funext x
  simp
theorem WdP.same {w u : World} {b mb : Nat} {F : Nat → Prop} {s : Ws} {bk : S8 → Nat} (h : WdAt w b F s mb bk) (hB : Below w.heap.size w u) (c : Int) : WdP w b F mb c s (.returned (.int .i64 c)) u :=
  ⟨rfl, ⟨bk, (h.of_new hB).mono fun g _ hg => .inl hg⟩, KpF.of_new hB⟩
section
variable {w w' : World} {b mb : Nat} {F : Nat → Prop} {s : Ws} {bk : S8 → Nat}
set_option maxRecDepth 100000 in
set_option maxHeartbeats 4000000 in
theorem free15_any (h : WdAt w b F s mb bk) (p : S8) (hn : (ofW s p).length < 1000000) (k : Int) : Calls Tryz.prog 12 #[.pointer (some ⟨b, 0, none⟩), .string (mkS p), .int .i64 k] w fun e w' => WdP w b F mb (freeC s p k) (freeW s p k) e w' := by
  have c0 := h.cell
  have hl := look15 h p
  have hl2 := look3_15 h p k
  have H := Lib.hid h
  obtain ⟨hd, hhd⟩ : ∃ hd, (whyW (ofW s p) k).isSome = hd := ⟨_, rfl⟩
  rw [hhd] at hl2
  unfold freeC freeW
  rw [hhd]
  have HHD := Lib.hid hhd
  have HN := Lib.hid hn
  clear h hhd hn
  cases hd with
  | false =>
    obtain ⟨ob, hob⟩ : ∃ ob, ((findW s p).map fun _ => bk p) = ob := ⟨_, rfl⟩
    rw [hob] at hl2 hl
    clear hob
    have HY := Lib.hid (WdP.same H.out (Below.refl _ w) 8)
    simp only [Bool.false_eq_true, if_false]
    go_enter Tryz.func12, Tryz.ntmps12
    go_wp2
    go_ret
    exact HY.out
  | true =>
    simp only [if_true]
    have hsome : ∃ l, findW s p = some l := by
      cases hf : findW s p with
      | none =>
        have := HHD.out
        unfold ofW at this
        rw [hf] at this
        cases this
      | some l => exact ⟨l, rfl⟩
    obtain ⟨l, hf⟩ := hsome
    have hof : ofW s p = l := by unfold ofW; rw [hf]; rfl
    rw [hof]
    rw [hof] at hl2 HN
    rw [hf] at hl hl2
    change (Instr.lookup TWm (.map (some mb)) (.string (mkS p)) false).run Tryz.prog w = .ok (.map (some (bk p))) w at hl
    change (Instr.lookup TRs (.map (some (bk p))) (.int .i64 k) true).run Tryz.prog w = _ at hl2
    obtain ⟨v0, hv0⟩ : ∃ v0, (whyW l k).getD 0 = v0 := ⟨_, rfl⟩
    rw [hv0] at hl2
    obtain ⟨g, hg⟩ : ∃ g, bk p = g := ⟨_, rfl⟩
    have HF := Lib.hid (And.intro hf hg)
    have hmi := H.out.of hf
    rw [hg] at hl hl2 hmi
    have HMI := Lib.hid hmi
    clear hv0 hof hf hg hmi
    obtain ⟨nn, hnn⟩ : ∃ nn, (delH l k).length = nn := ⟨_, rfl⟩
    rw [hnn]
    have HNN := Lib.hid hnn
    clear hnn
    by_cases h0 : nn = 0
    · subst h0
      rw [if_pos rfl]
      go_enter Tryz.func12, Tryz.ntmps12
      go_wp2_with (first | (refine (id ?_ : wpList _ _ _ (⟨none, _, _, _, _, _⟩ :: _) _ _); generalize hG : wpList _ _ _ (_ :: _) _ _ = G))
      rw [← hG]
      clear hG
      refine wpl_deleteI15 _ rfl (.tmp 27) (.tmp 28) rfl rsT inT15 rfl HMI.out k rfl ?_
      intro w2 m1 m2 m3
      rw [delI_hs] at m1
      have hW2 : WdAt w2 b F ((p, delH l k) :: delW s p) mb bk := H.out.inner HF.out.1 (delH l k) (by rw [HF.out.2]; exact m1) (by rw [HF.out.2]; exact m2)
      have hK2 : KpF F w w2 := KpF.of_grown m2 fun j e => by injection e with e; rw [← e, ← HF.out.2]; exact H.out.fk (p, l) (findW_in HF.out.1)
      have c2 := hW2.cell
      have hl4 := look15 hW2 p
      have hfw : findW ((p, delH l k) :: delW s p) p = some (delH l k) := by unfold findW; simp
      rw [hfw] at hl4
      change (Instr.lookup TWm (.map (some mb)) (.string (mkS p)) false).run Tryz.prog w2 = .ok (.map (some (bk p))) w2 at hl4
      rw [HF.out.2] at hl4
      have hln := fun ty => run_lenI15 (P := Tryz.prog) (ty := ty) rsT m1
      rw [hsV_len] at hln
      have HW2 := Lib.hid (And.intro hW2 hK2)
      rw [HNN.out] at hln
      clear m1 m2 m3 hW2 hK2 hfw hl hl2 c0
      go_wp2_with (first | (refine (id ?_ : wpList _ _ _ (⟨none, _, _, _, _, _⟩ :: _) _ _); generalize hG : wpList _ _ _ (_ :: _) _ _ = G))
      rw [← hG]
      clear hG
      refine wpl_delete8 _ rfl (.tmp 40) (.tmp 41) rfl wmT stT15 rfl HW2.out.1.map p rfl ?_
      intro w3 n1 n2 n3
      have hW3 := HW2.out.1.del p n1 n2
      rw [delW_cons] at hW3
      have HW3 := Lib.hid (And.intro (hW3.mono (T := newF F w w3) fun g _ hg => .inl hg) (HW2.out.2.trans (KpF.of_grown n2 fun j e => by injection e with e; exact e ▸ H.out.fm)))
      clear n1 n2 n3 hW3 hl4 hln c2
      go_wp2
      go_ret
      exact ⟨rfl, ⟨bk, HW3.out.1⟩, HW3.out.2⟩
    · have h0b : ((nn : Int) == 0) = false := by simp; omega
      rw [if_neg h0]
      go_enter Tryz.func12, Tryz.ntmps12
      go_wp2_with (first | (refine (id ?_ : wpList _ _ _ (⟨none, _, _, _, _, _⟩ :: _) _ _); generalize hG : wpList _ _ _ (_ :: _) _ _ = G))
      rw [← hG]
      clear hG
      refine wpl_deleteI15 _ rfl (.tmp 27) (.tmp 28) rfl rsT inT15 rfl HMI.out k rfl ?_
      intro w2 m1 m2 m3
      rw [delI_hs] at m1
      have hW2 : WdAt w2 b F ((p, delH l k) :: delW s p) mb bk := H.out.inner HF.out.1 (delH l k) (by rw [HF.out.2]; exact m1) (by rw [HF.out.2]; exact m2)
      have hK2 : KpF F w w2 := KpF.of_grown m2 fun j e => by injection e with e; rw [← e, ← HF.out.2]; exact H.out.fk (p, l) (findW_in HF.out.1)
      have c2 := hW2.cell
      have hl4 := look15 hW2 p
      have hfw : findW ((p, delH l k) :: delW s p) p = some (delH l k) := by unfold findW; simp
      rw [hfw] at hl4
      change (Instr.lookup TWm (.map (some mb)) (.string (mkS p)) false).run Tryz.prog w2 = .ok (.map (some (bk p))) w2 at hl4
      rw [HF.out.2] at hl4
      have hln := fun ty => run_lenI15 (P := Tryz.prog) (ty := ty) rsT m1
      rw [hsV_len] at hln
      have HW2 := Lib.hid (And.intro hW2 hK2)
      rw [HNN.out] at hln
      clear m1 m2 m3 hW2 hK2 hfw hl hl2 c0
      have HW3 := Lib.hid (HW2.out.1.mono (T := newF F w w2) fun g _ hg => .inl hg)
      clear h0
      go_wp2
      go_ret
      exact ⟨rfl, ⟨bk, HW3.out⟩, HW2.out.2⟩
end
end Go.Proofs.YtllpcllgliknpaaGreatDoor
/- Move of the ward. -/
set_option maxRecDepth 100000
namespace Go.Proofs.YtllpcllgliknpaaGreatDoor
open Go Go.RowKit Go.MapKept

/-- What Move answers; what it leaves. -/
def moveC (s : Ws) (p q : S8) : Int := if findW s p = none then 8 else if kindL q ≠ 3 then 7 else 0
def moveW (s : Ws) (p q : S8) : Ws := if moveC s p q = 0 then (q, ofW s p) :: delW (delW s p) q else s
section
variable {w w' : World} {b mb : Nat} {F : Nat → Prop} {s : Ws} {bk : S8 → Nat}
theorem WdAt.bring (h : WdAt w b F s mb bk) {q : S8} {g : Nat} {l : Hs} (hn : MiB w g (hsV l)) (hgb : ∀ x ∈ s, bk x.1 ≠ g) (hgm : g ≠ mb) (hFg : F g) (hm : MpB w' mb (putV (wsV bk s) q (.map (some g)))) (hg : w.grownBy w' (some mb)) : WdAt w' b F ((q, l) :: delW s q) mb (fun p => if p = q then g else bk p) := by
  have hk : ∀ k, k < w.heap.size → k ≠ mb → w'.heap[k]? = w.heap[k]? := fun k hl hne => hg.block k hl (fun e => hne (by injection e with e))
  have hnp : ∀ x ∈ delW s q, x.1 ≠ q := fun x hx => (delW_mem hx).2
  have hin : ∀ x ∈ delW s q, x ∈ s := fun x hx => (delW_mem hx).1
  have hbk : ∀ x ∈ delW s q, (if x.1 = q then g else bk x.1) = bk x.1 := fun x hx => if_neg (hnp x hx)
  refine ⟨(hk b h.lt (fun e => ?_)).trans h.box, ?_, fun x hx => ?_, fun x hx => ?_, fun x hx y hy => ?_, h.fb, h.fm, fun x hx => ?_⟩
  · obtain ⟨es, clock, hb, -⟩ := h.map
    rw [← e, h.box] at hb
    cases hb
  · have e : wsV (fun p => if p = q then g else bk p) ((q, l) :: delW s q) = putV (wsV bk s) q (.map (some g)) := by
      unfold putV
      rw [delV_ws]
      unfold wsV
      rw [List.map_cons]
      show (q, Value.map (some (if q = q then g else bk q))) :: _ = _
      rw [if_pos rfl]
      congr 1
      exact List.map_congr_left fun x hx => by show (x.1, Value.map (some (if x.1 = q then g else bk x.1))) = _; rw [hbk x hx]
    rw [e]
    exact hm
  · rcases List.mem_cons.1 hx with rfl | hx
    · show MiB w' (if q = q then g else bk q) _
      rw [if_pos rfl]
      exact hn.keep (hk g hn.lt hgm)
    · show MiB w' (if x.1 = q then g else bk x.1) _
      rw [hbk x hx]
      exact (h.each x (hin x hx)).keep (hk _ (h.each x (hin x hx)).lt (h.ne x (hin x hx)))
  · rcases List.mem_cons.1 hx with rfl | hx
    · show (if q = q then g else bk q) ≠ mb
      rw [if_pos rfl]; exact hgm
    · show (if x.1 = q then g else bk x.1) ≠ mb
      rw [hbk x hx]; exact h.ne x (hin x hx)
  · show (if x.1 = q then g else bk x.1) = (if y.1 = q then g else bk y.1) → _
    rcases List.mem_cons.1 hx with rfl | hx' <;> rcases List.mem_cons.1 hy with rfl | hy'
    · exact fun _ => rfl
    · rw [if_pos rfl, hbk y hy']; exact fun e => absurd e.symm (hgb y (hin y hy'))
    · rw [if_pos rfl, hbk x hx']; exact fun e => absurd e (hgb x (hin x hx'))
    · rw [hbk x hx', hbk y hy']; exact h.inj x (hin x hx') y (hin y hy')
  · show F (if x.1 = q then g else bk x.1)
    rcases List.mem_cons.1 hx with rfl | hx
    · rw [if_pos rfl]; exact hFg
    · rw [hbk x hx]; exact h.fk x (hin x hx)
set_option maxRecDepth 100000 in
set_option maxHeartbeats 4000000 in
theorem move15_any (h : WdAt w b F s mb bk) (p q : S8) (hq : q.length < 100000) : Calls Tryz.prog 16 #[.pointer (some ⟨b, 0, none⟩), .string (mkS p), .string (mkS q)] w fun e w' => WdP w b F mb (moveC s p q) (moveW s p q) e w' := by
  have c0 := h.cell
  have hl := run_lookup8 (P := Tryz.prog) wmT stT15 (zeroRs w) h.map p true
  rw [findV_ws] at hl
  have H := Lib.hid h
  obtain ⟨kk, hkk⟩ : ∃ kk, kindL q = kk := ⟨_, rfl⟩
  have hkd := kind_any q w hq
  rw [hkk] at hkd
  have HKD := Lib.hid hkd
  have HCL := Lib.hid (fun u => clone15_any q u (by omega))
  have HKK := Lib.hid hkk
  clear h hkd hkk hq
  cases hf : findW s p with
  | none =>
    rw [hf] at hl
    change (Instr.lookup TWm (.map (some mb)) (.string (mkS p)) true).run Tryz.prog w = .ok (Value.tuple #[.map none, .bool false]) w at hl
    have hc : moveC s p q = 8 := by unfold moveC; rw [if_pos hf]
    have hs : moveW s p q = s := by unfold moveW; rw [hc, if_neg (by decide)]
    rw [hc, hs]
    have HY := Lib.hid (WdP.same H.out (Below.refl _ w) 8)
    clear hf hc hs
    go_enter Tryz.func16, Tryz.ntmps16
    go_wp2
    go_ret
    exact HY.out
  | some l =>
    rw [hf] at hl
    change (Instr.lookup TWm (.map (some mb)) (.string (mkS p)) true).run Tryz.prog w = .ok (Value.tuple #[.map (some (bk p)), .bool true]) w at hl
    have hof : ofW s p = l := by unfold ofW; rw [hf]; rfl
    obtain ⟨g, hg⟩ : ∃ g, bk p = g := ⟨_, rfl⟩
    have HF := Lib.hid (And.intro hf (And.intro hg hof))
    rw [hg] at hl
    by_cases g1 : kk = 3
    · subst g1
      have hc : moveC s p q = 0 := by unfold moveC; rw [if_neg (by rw [hf]; exact fun e => by cases e), if_neg (by rw [HKK.out]; decide)]
      have hs : moveW s p q = (q, l) :: delW (delW s p) q := by unfold moveW; rw [hc, if_pos rfl, hof]
      rw [hc, hs]
      clear hf hg hof hc hs
      go_enter Tryz.func16, Tryz.ntmps16
      go_wp2_with fail
      refine HKD.out.mono ?_
      rintro e W1 ⟨rfl, hB⟩
      have hW1 := H.out.of_new hB
      have c1 := hW1.cell
      have HW1 := Lib.hid (And.intro hW1 hB)
      clear hB hW1 hl c0
      go_wp2_with (first | (refine (id ?_ : wpList _ _ _ (⟨none, _, _, _, _, _⟩ :: _) _ _); generalize hG : wpList _ _ _ (_ :: _) _ _ = G))
      rw [← hG]
      clear hG
      refine wpl_delete8 _ rfl (.tmp 26) (.tmp 27) rfl wmT stT15 rfl HW1.out.1.map p rfl ?_
      intro W n1 n2 n3
      have hin := findW_in HF.out.1
      have hW := HW1.out.1.del p n1 n2
      have hMG : MiB W g (hsV l) := by
        have h1 := HW1.out.1.of HF.out.1
        rw [HF.out.2.1] at h1
        exact h1.keep (n2.block g h1.lt (fun e => by injection e with e; exact H.out.ne _ hin (by show bk p = mb; rw [HF.out.2.1, e])))
      have hKW : KpF F w W := (KpF.of_new HW1.out.2).trans (KpF.of_grown n2 fun j e => by injection e with e; exact e ▸ H.out.fm)
      have HW := Lib.hid (And.intro hW (And.intro hMG hKW))
      have HS := Lib.hid (fun u (hu : Below W.heap.size W u) => (HW.out.1.of_new hu).cell)
      clear n1 n2 n3 hW hMG hKW hin c1
      go_wp2_with fail
      refine wp_region_noPanic ?_
      refine wp_region_held_drew (S := (fun u : World => u.cell? ⟨b, 0, none⟩ = some (.map (some mb)))) (by kernel_rfl) (HS.out _ (Below.refl _ _).drew) (fun hHeld => ?_)
      generalize hgx : W.drew = U at hHeld ⊢
      have HX0 := Lib.hid (show Below W.heap.size W U from by rw [← hgx]; exact (Below.refl _ _).drew)
      clear hgx
      refine wpAnyH_take (i := 0) (v := ?_) (by simp only [List.getElem?_toArray, List.getElem?_cons_succ, List.getElem?_cons_zero]; exact rfl) (by kernel_rfl) (by kernel_rfl) (by kernel_rfl) (fun _ _ _ h => h) (Or.inl ⟨by rfl, ?_⟩) (by assumption) ?_
      rotate_left 1
      · (intro w hSw; (try dsimp only at hSw); go_simp; try with_reducible rfl)
      try simp only [Act.put, List.setIfInBounds_toArray, List.set_cons_zero, List.set_cons_succ]
      refine wpAnyH_take (i := 1) (v := ?_) (by simp only [List.getElem?_toArray, List.getElem?_cons_succ, List.getElem?_cons_zero]; exact rfl) (by kernel_rfl) (by kernel_rfl) (by kernel_rfl) (fun _ _ _ h => h) (Or.inl ⟨by rfl, ?_⟩) (by assumption) ?_
      rotate_left 1
      · (intro w hSw; (try dsimp only at hSw); go_simp; try with_reducible rfl)
      try simp only [Act.put, List.setIfInBounds_toArray, List.set_cons_zero, List.set_cons_succ]
      refine wpAnyH_take (i := 2) (v := ?_) (by simp only [List.getElem?_toArray, List.getElem?_cons_succ, List.getElem?_cons_zero]; exact rfl) (by kernel_rfl) (by kernel_rfl) (by kernel_rfl) (fun _ _ _ h => h) (Or.inl ⟨by rfl, ?_⟩) (by assumption) ?_
      rotate_left 1
      · (intro w hSw; (try dsimp only at hSw); go_simp; try with_reducible rfl)
      try simp only [Act.put, List.setIfInBounds_toArray, List.set_cons_zero, List.set_cons_succ]
      refine wpAnyH_take (i := 3) (v := ?_) (by simp only [List.getElem?_toArray, List.getElem?_cons_succ, List.getElem?_cons_zero]; exact rfl) (by kernel_rfl) (by kernel_rfl) (by kernel_rfl) (fun _ _ _ h => h) (Or.inl ⟨by rfl, ?_⟩) (by assumption) ?_
      rotate_left 1
      · (intro w hSw; (try dsimp only at hSw); go_simp; try with_reducible rfl)
      try simp only [Act.put, List.setIfInBounds_toArray, List.set_cons_zero, List.set_cons_succ]
      refine wpAnyH_take (i := 4) (v := ?_) (by simp only [List.getElem?_toArray, List.getElem?_cons_succ, List.getElem?_cons_zero]; exact rfl) (by kernel_rfl) (by kernel_rfl) (by kernel_rfl) (fun _ _ _ h => h) (Or.inl ⟨by rfl, ?_⟩) (by assumption) ?_
      rotate_left 1
      · (intro w hSw; (try dsimp only at hSw); go_simp; try with_reducible rfl)
      try simp only [Act.put, List.setIfInBounds_toArray, List.set_cons_zero, List.set_cons_succ]
      refine wpAnyH_take (i := 6) (v := ?_) (by simp only [List.getElem?_toArray, List.getElem?_cons_succ, List.getElem?_cons_zero]; exact rfl) (by kernel_rfl) (by kernel_rfl) (by kernel_rfl) (fun _ _ _ h => h) (Or.inl ⟨by rfl, ?_⟩) (by assumption) ?_
      rotate_left 1
      · (intro w hSw; (try dsimp only at hSw); go_simp; try with_reducible rfl)
      try simp only [Act.put, List.setIfInBounds_toArray, List.set_cons_zero, List.set_cons_succ]
      refine wpAnyH_ready (rs := [5]) (by kernel_rfl) (by simp) ?_
      refine (AllReadyH.cons (by simp only [List.getElem?_toArray, List.getElem?_cons_succ, List.getElem?_cons_zero]; exact rfl) (fun K hK => ?_) AllReadyH.nil)
      go_simp
      refine (HCL.out _).mono ?_
      rintro e vW ⟨rfl, hB⟩
      have HX1 := Lib.hid (HX0.out.trans (hB.mono HX0.out.size))
      clear hB
      go_wp2_with fail
      refine hK.out _ _ (HS.out _ HX1.out) (fun hHeld => ?_)
      clear hK K
      try simp only [Act.put, List.setIfInBounds_toArray, List.set_cons_zero, List.set_cons_succ]
      refine wpAnyH_ready (rs := [7]) (by kernel_rfl) (by simp) ?_
      refine (AllReadyH.cons (by simp only [List.getElem?_toArray, List.getElem?_cons_succ, List.getElem?_cons_zero]; exact rfl) (fun K hK => ?_) AllReadyH.nil)
      have hWU := (HW.out.1.of_new HX1.out).mono (T := newF F w vW) (fun _ _ hg => .inl hg)
      obtain ⟨u', hrun, r1, r2, r3⟩ := run_update8 (P := Tryz.prog) wmT stT15 hWU.map q (.map (some g))
      have hin := findW_in HF.out.1
      have hf' := hWU.bring (HW.out.2.1.of_below HX1.out) (fun x hx e => by
        have h1 := delW_mem hx
        exact h1.2 (H.out.inj x h1.1 (p, l) hin (by show bk x.1 = bk p; rw [e, HF.out.2.1]))) (fun e => H.out.ne _ hin (by show bk p = mb; rw [HF.out.2.1, e])) (.inl (by have h2 := H.out.fk _ hin; have h2 : F (bk p) := h2; rw [HF.out.2.1] at h2; exact h2)) r1 r2
      have HF2 := Lib.hid hf'
      have HU2 := Lib.hid (And.intro r2 r3)
      clear r1 r2 r3 hWU hin
      go_simp
      refine hK.out _ _ (HF2.out.cell) (fun hHeld => ?_)
      clear hrun hf'
      clear hK K
      try simp only [Act.put, List.setIfInBounds_toArray, List.set_cons_zero, List.set_cons_succ]
      refine wpAnyH_done (by kernel_rfl) ?_ _
      refine NoPanic.normal ?_
      have hKF : KpF F w u' := (HW.out.2.2.trans (KpF.of_new HX1.out)).trans (KpF.of_grown HU2.out.1 fun j e => by injection e with e; exact e ▸ H.out.fm)
      have hWF := HF2.out.mono (T := newF F w u') (fun k hk hg => by
        rcases hg with hg | hg
        · exact .inl hg
        · exact .inr ⟨hg.1, hk⟩)
      have HY := Lib.hid (And.intro hKF hWF)
      clear hKF hWF hHeld
      go_wp2
      go_ret
      exact ⟨rfl, ⟨_, HY.out.2⟩, HY.out.1⟩
    · have t0 : ((kk : Int) == 3) = false := by simp; omega
      have t0' : ((kk : Int) != 3) = true := by simp; omega
      have hc : moveC s p q = 7 := by unfold moveC; rw [if_neg (by rw [hf]; exact fun e => by cases e), if_pos (by rw [HKK.out]; exact g1)]
      have hs : moveW s p q = s := by unfold moveW; rw [hc, if_neg (by decide)]
      rw [hc, hs]
      clear hf hg hof hc hs g1
      go_enter Tryz.func16, Tryz.ntmps16
      go_wp2_with fail
      refine HKD.out.mono ?_
      rintro e W ⟨rfl, hB⟩
      have HY := Lib.hid (WdP.same H.out hB 7)
      clear hB
      go_wp2
      go_ret
      exact HY.out
end
end Go.Proofs.YtllpcllgliknpaaGreatDoor
/- Paths of the ward. -/
set_option maxRecDepth 100000
namespace Go.Proofs.YtllpcllgliknpaaGreatDoor
open Go Go.RowKit Go.MapKept Go.WideShapes
open Go.WideElems (rd rg rd_mk rg_of)
open Go.WideMaps (keyOf_string_mk)

def kbS15 : Value → S8
  | .string s => s.data.toList
  | _ => []
theorem mkS_data15 (p : S8) : (mkS p).data.toList = p := by unfold mkS; simp
theorem kbS15_mk (p : S8) : kbS15 (.string (mkS p)) = p := mkS_data15 p
def unit15 (_ : Value) : Option (DataW Unit × List MemPlace) := some (.nil, [])
theorem MpB.owns15 {w : World} {b : Nat} {l : List (S8 × Value)} (h : MpB w b l) (hk : ∀ x ∈ l, x.1.length ≤ 100000) (hn : l.length ≤ 100000) :
    ∃ D : DataW Unit, w.ownsMap Tryz.prog 9 unit15 b l.length D ∧ (strKeys D).Perm (l.map (·.1)) ∧ Maps.size D = l.length := by
  obtain ⟨es, clock, hb, r⟩ := h
  have hsz := r.size
  have hrd : ∀ x ∈ es.toList, rd Tryz.prog 9 unit15 x = some (.string (kbS15 x.key), .nil) := fun x hx => by
    obtain ⟨p, v, hm, e1, e2⟩ := r.mem hx
    have hl : p.length ≤ 100000 := hk _ hm
    have hkey := keyOf_string_mk (P := Tryz.prog) strT (s := mkS p) (by rw [mkS_size]; simp only [maxLen]; omega)
    rw [mkS_data15] at hkey
    obtain ⟨key, val, born⟩ := x
    dsimp only at e1
    subst e1
    rw [kbS15_mk]
    exact rd_mk (R := unit15) (yv := (DataW.nil, [])) hkey rfl
  have hrg : es.toList.map (rg Tryz.prog 9 unit15) = es.toList.map fun x => (.string (kbS15 x.key), .nil) := List.map_congr_left fun x hx => rg_of (hrd x hx)
  refine ⟨_, ⟨es, clock, hb, ⟨by simp only [maxLen]; omega, r.st, fun x hx => ⟨_, hrd x hx⟩⟩, by omega, rfl⟩, ?_, ?_⟩
  · show ((List.foldr DataW.insert [] _).map fun p => _root_.Go.strOf p.1).Perm _
    refine ((sorted_perm _).map _).trans ?_
    rw [hrg, List.map_map]
    have e1 : (es.toList.map ((fun p : Lit × DataW Unit => _root_.Go.strOf p.1) ∘ fun x : MapEntry => (Lit.string (kbS15 x.key), DataW.nil))) = (es.toList.map kvE).map fun x => kbS15 x.1 := by
      rw [List.map_map]
      rfl
    rw [e1]
    refine (r.kv.map _).trans (List.Perm.of_eq ?_)
    rw [List.map_map]
    exact List.map_congr_left fun x _ => kbS15_mk x.1
  · show (List.foldr DataW.insert [] _).length = _
    rw [length_sorted, List.length_map, ← hsz]
    simp
/-- The paths in byte order. -/
def pathsW (s : Ws) : List S8 := (s.map (·.1)).mergeSort fun x y => decide (x ≤ y)
theorem perm_sorted15 {α : Type} {R : α → α → Prop} (anti : ∀ a b, R a b → R b a → a = b) : ∀ {l1 l2 : List α}, l1.Perm l2 → l1.Pairwise R → l2.Pairwise R → l1 = l2
  | [], l2, hp, _, _ => (List.Perm.eq_nil hp.symm).symm
  | a :: l1, [], hp, _, _ => absurd hp.length_eq (by simp)
  | a :: l1, b :: l2, hp, h1, h2 => by
    have hab : a = b := by
      rw [List.pairwise_cons] at h1 h2
      have ha : a ∈ b :: l2 := hp.mem_iff.1 (by simp)
      have hb : b ∈ a :: l1 := hp.mem_iff.2 (by simp)
      rcases List.mem_cons.1 ha with e | ha
      · exact e
      rcases List.mem_cons.1 hb with e | hb
      · exact e.symm
      · exact anti a b (h1.1 b hb) (h2.1 a ha)
    subst hab
    rw [List.pairwise_cons] at h1 h2
    rw [perm_sorted15 anti hp.cons_inv h1.2 h2.2]
theorem sortS_pw (l : List S8) : (l.mergeSort fun x y => decide (x ≤ y)).Pairwise (fun x y => x ≤ y) := by
  have tr : ∀ a b c : S8, (fun x y : S8 => decide (x ≤ y)) a b = true → (fun x y : S8 => decide (x ≤ y)) b c = true → (fun x y : S8 => decide (x ≤ y)) a c = true := fun a b c h1 h2 => by simp only [decide_eq_true_eq] at *; exact List.le_trans h1 h2
  have to : ∀ a b : S8, ((fun x y : S8 => decide (x ≤ y)) a b || (fun x y : S8 => decide (x ≤ y)) b a) = true := fun a b => by simp only [Bool.or_eq_true, decide_eq_true_eq]; exact List.le_total a b
  exact (List.pairwise_mergeSort tr to l).imp fun h => by simpa using h
theorem sortS_congr {l l' : List S8} (hp : l.Perm l') : (l.mergeSort fun x y => decide (x ≤ y)) = l'.mergeSort fun x y => decide (x ≤ y) :=
  perm_sorted15 (fun a b => List.le_antisymm) (((List.mergeSort_perm l _).trans hp).trans (List.mergeSort_perm l' _).symm) (sortS_pw l) (sortS_pw l')
theorem encStr15 (l : List S8) : l.map encStr = l.map fun s => .string (mkS s) := List.map_congr_left fun s _ => by show Value.string ⟨s.toArray⟩ = _; rw [mkS_lit]
section
variable {w w' : World} {b mb : Nat} {F : Nat → Prop} {s : Ws} {bk : S8 → Nat}
set_option maxRecDepth 100000 in
set_option maxHeartbeats 4000000 in
theorem paths15_any (h : WdAt w b F s mb bk) (hk : ∀ x ∈ s, x.1.length ≤ 100000) (hn : s.length ≤ 100000) : Calls Tryz.prog 22 #[.pointer (some ⟨b, 0, none⟩)] w fun e w' => ∃ v : Value, e = .returned v ∧ w'.ownsRow w.heap.size 9 1 v s.length ((pathsW s).map fun p => .string (mkS p)) ∧ Below w.heap.size w w' := by
  have c0 := h.cell
  have hlw : (wsV bk s).length = s.length := by unfold wsV; rw [List.length_map]
  obtain ⟨D, hown, hperm, hsize⟩ := h.map.owns15 (fun x hx => by
    unfold wsV at hx
    obtain ⟨e, he, rfl⟩ := List.mem_map.1 hx
    exact hk e he) (by rw [hlw]; exact hn)
  rw [hlw] at hsize hown
  have e0 : (wsV bk s).map (·.1) = s.map (·.1) := by unfold wsV; rw [List.map_map]; rfl
  rw [e0] at hperm
  have HPM := Lib.hid hperm
  have HKY := Lib.hid (callsIn_wide.1 (Tryz.maps_Keys_37 (some mb) w))
  have HST := Lib.hid (callsIn_wide.1 (Tryz.slices_Sorted_keys_36_37 mb s.length D unit15 w hown (by rw [hsize]; simp only [maxLen]; omega) (by rw [hsize]; omega)))
  have HB := Lib.hid ((Below.refl w.heap.size w).alloc (Nat.le_refl _) (.cells #[.map (some mb)] 35))
  clear h hk hown hperm hsize hn e0 hlw
  go_enter Tryz.func22, Tryz.ntmps22
  go_wp2_with fail
  refine HKY.out.mono ?_
  rintro e w2 ⟨rfl, rfl⟩
  go_wp2_with fail
  refine HST.out.mono ?_
  rintro e w3 ⟨v, ss, rfl, hp, hrow, _, hB⟩
  have HX := Lib.hid (And.intro hp (And.intro hrow hB))
  clear hp hrow hB HKY HST
  go_wp2
  go_ret
  obtain ⟨hp, hrow, hB⟩ := HX.out
  have hpp := hp.trans HPM.out
  have hl : ss.length = s.length := by rw [hpp.length_eq, List.length_map]
  refine ⟨v, rfl, ?_, HB.out.trans (hB.mono HB.out.size)⟩
  rw [sortS_congr hpp, hl, encStr15] at hrow
  exact own_lower hrow HB.out.size
end
end Go.Proofs.YtllpcllgliknpaaGreatDoor
/- slices.Sort, maps.Keys, slices.Sorted of ints at this seat's dump: the library's contracts, laid. -/
set_option maxRecDepth 100000
namespace Go.Proofs
open Go.Shelf
def Tryz.lays189_ren : Go.Shelf.Ren := ⟨fun | 189 => 57 | 125 => 72 | 257 => 74 | 128 => 89 | 129 => 90 | 294 => 91 | 295 => 92 | 296 => 93 | 297 => 94 | 298 => 95 | 299 => 96 | 216 => 97 | 300 => 98 | 301 => 99 | 328 => 116 | 329 => 111 | 330 => 112 | 331 => 117 | 332 => 118 | 215 => 119 | 343 => 128 | n => n, fun | 28 => 58 | 3 => 3 | 46 => 87 | 0 => 0 | 51 => 93 | 53 => 121 | 4 => 4 | 183 => 124 | 182 => 123 | 131 => 62 | 5 => 5 | 9 => 9 | 218 => 145 | 222 => 149 | 228 => 155 | 229 => 156 | n => n, fun | n => n⟩
theorem Tryz.lays189 : Go.Proofs.Lays.n189 Tryz.prog Tryz.lays189_ren := {
  mixed := by kernel_rfl
  f125 := Tryz.func72.trans (congrArg some (by kernel_rfl))
  f128 := Tryz.func89.trans (congrArg some (by kernel_rfl))
  f129 := Tryz.func90.trans (congrArg some (by kernel_rfl))
  f189 := Tryz.func57.trans (congrArg some (by kernel_rfl))
  f215 := Tryz.func119.trans (congrArg some (by kernel_rfl))
  f216 := Tryz.func97.trans (congrArg some (by kernel_rfl))
  f257 := Tryz.func74.trans (congrArg some (by kernel_rfl))
  f294 := Tryz.func91.trans (congrArg some (by kernel_rfl))
  f295 := Tryz.func92.trans (congrArg some (by kernel_rfl))
  f296 := Tryz.func93.trans (congrArg some (by kernel_rfl))
  f297 := Tryz.func94.trans (congrArg some (by kernel_rfl))
  f298 := Tryz.func95.trans (congrArg some (by kernel_rfl))
  f299 := Tryz.func96.trans (congrArg some (by kernel_rfl))
  f300 := Tryz.func98.trans (congrArg some (by kernel_rfl))
  f301 := Tryz.func99.trans (congrArg some (by kernel_rfl))
  f328 := Tryz.func116.trans (congrArg some (by kernel_rfl))
  f329 := Tryz.func111.trans (congrArg some (by kernel_rfl))
  f330 := Tryz.func112.trans (congrArg some (by kernel_rfl))
  f331 := Tryz.func117.trans (congrArg some (by kernel_rfl))
  f332 := Tryz.func118.trans (congrArg some (by kernel_rfl))
  f343 := Tryz.func128.trans (congrArg some (by kernel_rfl))
  t0 := Tryz.underlying0
  a0 := Tryz.isAgg0
  z0 := Tryz.sizeOf0
  v0 := Tryz.zeroValue0
  t3 := Tryz.underlying3
  a3 := Tryz.isAgg3
  z3 := Tryz.sizeOf3
  v3 := Tryz.zeroValue3
  t4 := Tryz.underlying4
  a4 := Tryz.isAgg4
  z4 := Tryz.sizeOf4
  v4 := Tryz.zeroValue4
  t5 := Tryz.underlying5
  a5 := Tryz.isAgg5
  z5 := Tryz.sizeOf5
  v5 := Tryz.zeroValue5
  t9 := Tryz.underlying9
  a9 := Tryz.isAgg9
  z9 := Tryz.sizeOf9
  v9 := Tryz.zeroValue9
  t28 := Tryz.underlying58
  a28 := Tryz.isAgg58
  z28 := Tryz.sizeOf58
  v28 := Tryz.zeroValue58
  t46 := Tryz.underlying87
  a46 := Tryz.isAgg87
  z46 := Tryz.sizeOf87
  v46 := Tryz.zeroValue87
  t51 := Tryz.underlying93
  a51 := Tryz.isAgg93
  z51 := Tryz.sizeOf93
  v51 := Tryz.zeroValue93
  t53 := Tryz.underlying121
  a53 := Tryz.isAgg121
  z53 := Tryz.sizeOf121
  v53 := Tryz.zeroValue121
  t131 := Tryz.underlying62
  a131 := Tryz.isAgg62
  z131 := Tryz.sizeOf62
  v131 := Tryz.zeroValue62
  t182 := Tryz.underlying123
  a182 := Tryz.isAgg123
  z182 := Tryz.sizeOf123
  v182 := Tryz.zeroValue123
  t183 := Tryz.underlying124
  a183 := Tryz.isAgg124
  z183 := Tryz.sizeOf124
  v183 := Tryz.zeroValue124
  t218 := Tryz.underlying145
  a218 := Tryz.isAgg145
  z218 := Tryz.sizeOf145
  v218 := Tryz.zeroValue145
  t222 := Tryz.underlying149
  a222 := Tryz.isAgg149
  z222 := Tryz.sizeOf149
  v222 := Tryz.zeroValue149
  t228 := Tryz.underlying155
  a228 := Tryz.isAgg155
  z228 := Tryz.sizeOf155
  v228 := Tryz.zeroValue155
  t229 := Tryz.underlying156
  a229 := Tryz.isAgg156
  z229 := Tryz.sizeOf156
  v229 := Tryz.zeroValue156 }
open Go.Sort Go.RowKit in
theorem Tryz.slices_Sort_int (blk off cap : Nat) (zs : List Int) (w : World) (hH : Holds (Value.int .i64) w blk off zs.toArray) (hblk : blk < w.heap.size) (hsz : zs.length < 4611686018427387904) :
    Calls Tryz.prog 57 #[.slice (some ⟨blk, off, none⟩) zs.length cap] w fun e w' =>
      e = .returned (.tuple #[]) ∧ ∃ n os, w' = grow (putRow (Value.int .i64) (Sort.ahead w n) blk off (zs.mergeSort fun x y => decide (x ≤ y)).toArray) os := Any.slices_Sort_int Tryz.lays189 blk off cap zs w hH hblk hsz
open Go.RowKit Go.Sort in
theorem Tryz.slices_Sort_int_none (p : Option Addr) (cap : Nat) (w : World) :
    Calls Tryz.prog 57 #[.slice p 0 cap] w fun e w' => e = .returned (.tuple #[]) ∧ w' = w := Any.slices_Sort_int_none Tryz.lays189 p cap w
def Tryz.keysI15_ren : Go.Shelf.Ren := ⟨fun | 7 => 39 | 10 => 58 | n => n, fun | 23 => 61 | 26 => 3 | 3 => 3 | 28 => 83 | 0 => 0 | 27 => 82 | 33 => 67 | 4 => 4 | n => n, fun | n => n⟩
theorem Tryz.keysI15 : Go.Proofs.SlLaysZI.n7 Tryz.prog Tryz.keysI15_ren := {
  mixed := by kernel_rfl
  f7 := ⟨Tryz.f39.name, by decide, Tryz.func39.trans (congrArg some (by kernel_rfl))⟩
  f10 := ⟨Tryz.f58.name, by decide, Tryz.func58.trans (congrArg some (by kernel_rfl))⟩
  t0 := Tryz.underlying0
  a0 := Tryz.isAgg0
  z0 := Tryz.sizeOf0
  v0 := Tryz.zeroValue0
  t4 := Tryz.underlying4
  a4 := Tryz.isAgg4
  z4 := Tryz.sizeOf4
  v4 := Tryz.zeroValue4
  t23 := Tryz.underlying61
  a23 := Tryz.isAgg61
  z23 := Tryz.sizeOf61
  v23 := Tryz.zeroValue61
  t26 := Tryz.underlying3
  a26 := Tryz.isAgg3
  z26 := Tryz.sizeOf3
  v26 := Tryz.zeroValue3
  t27 := Tryz.underlying82
  a27 := Tryz.isAgg82
  z27 := Tryz.sizeOf82
  v27 := Tryz.zeroValue82
  t28 := Tryz.underlying83
  a28 := Tryz.isAgg83
  z28 := Tryz.sizeOf83
  v28 := Tryz.zeroValue83
  t33 := Tryz.underlying67
  a33 := Tryz.isAgg67
  z33 := Tryz.sizeOf67
  v33 := Tryz.zeroValue67 }
def Tryz.sortedI15_ren : Go.Shelf.Ren := ⟨fun | 6 => 38 | 8 => 56 | 9 => 57 | 11 => 73 | 13 => 72 | 12 => 74 | 23 => 89 | 24 => 90 | 14 => 91 | 15 => 92 | 16 => 93 | 17 => 94 | 18 => 95 | 19 => 96 | 20 => 97 | 21 => 98 | 22 => 99 | 25 => 116 | 26 => 111 | 27 => 112 | 28 => 117 | 29 => 118 | 30 => 119 | 31 => 128 | n => n, fun | 26 => 3 | 28 => 83 | 24 => 58 | 0 => 0 | 3 => 3 | 37 => 87 | 48 => 93 | 50 => 121 | 4 => 4 | 40 => 124 | 39 => 123 | 45 => 62 | 5 => 5 | 9 => 9 | 51 => 145 | 55 => 149 | 57 => 155 | 58 => 156 | 33 => 67 | n => n, fun | n => n⟩
theorem Tryz.sortedI15 : Go.Proofs.SlLaysZI.n6 Tryz.prog Tryz.sortedI15_ren := {
  mixed := by kernel_rfl
  f6 := ⟨Tryz.f38.name, by decide, Tryz.func38.trans (congrArg some (by kernel_rfl))⟩
  f8 := ⟨Tryz.f56.name, by decide, Tryz.func56.trans (congrArg some (by kernel_rfl))⟩
  f11 := ⟨Tryz.f73.name, by decide, Tryz.func73.trans (congrArg some (by kernel_rfl))⟩
  t0 := Tryz.underlying0
  a0 := Tryz.isAgg0
  z0 := Tryz.sizeOf0
  v0 := Tryz.zeroValue0
  t24 := Tryz.underlying58
  a24 := Tryz.isAgg58
  z24 := Tryz.sizeOf58
  v24 := Tryz.zeroValue58
  t26 := Tryz.underlying3
  a26 := Tryz.isAgg3
  z26 := Tryz.sizeOf3
  v26 := Tryz.zeroValue3
  t28 := Tryz.underlying83
  a28 := Tryz.isAgg83
  z28 := Tryz.sizeOf83
  v28 := Tryz.zeroValue83
  i26 := by kernel_rfl }
end Go.Proofs
/- Held of the ward. -/
set_option maxRecDepth 100000
namespace Go.Proofs.YtllpcllgliknpaaGreatDoor
open Go Go.RowKit Go.MapKept Go.WideShapes
open Go.WideElems (rd rg rd_mk rg_of)
open Go.Maps (keyOf_int_mk)

def kbI15 : Value → Int
  | .int _ x => x
  | _ => 0
theorem MiB.owns15 {w : World} {b : Nat} {l : List (Int × Value)} (h : MiB w b l) (hk : ∀ x ∈ l, 0 ≤ x.1 ∧ x.1 < 9223372036854775808) (hn : l.length ≤ 100000) :
    ∃ D : DataW Unit, w.ownsMap Tryz.prog 3 unit15 b l.length D ∧ (intKeys D).Perm (l.map (·.1)) ∧ Maps.size D = l.length := by
  obtain ⟨es, clock, hb, r⟩ := h
  have hsz := r.size
  have hrd : ∀ x ∈ es.toList, rd Tryz.prog 3 unit15 x = some (.int .i64 (kbI15 x.key), .nil) := fun x hx => by
    obtain ⟨p, v, hm, e1, e2⟩ := r.mem hx
    have hl := hk _ hm
    have hkey := keyOf_int_mk (P := Tryz.prog) inT15 (a := p) (by
      have e1 : IntKind.min .i64 = -9223372036854775808 := by kernel_rfl
      have e2 : IntKind.max .i64 = 9223372036854775807 := by kernel_rfl
      simp only [Lit.wf, e1, e2, Bool.and_eq_true, decide_eq_true_eq]
      dsimp only at hl
      constructor <;> omega)
    obtain ⟨key, val, born⟩ := x
    dsimp only at e1
    subst e1
    exact rd_mk (R := unit15) (yv := (DataW.nil, [])) hkey rfl
  have hrg : es.toList.map (rg Tryz.prog 3 unit15) = es.toList.map fun x => (.int .i64 (kbI15 x.key), .nil) := List.map_congr_left fun x hx => rg_of (hrd x hx)
  refine ⟨_, ⟨es, clock, hb, ⟨by simp only [maxLen]; omega, r.st, fun x hx => ⟨_, hrd x hx⟩⟩, by omega, rfl⟩, ?_, ?_⟩
  · show ((List.foldr DataW.insert [] _).map fun p => _root_.Go.intOf p.1).Perm _
    refine ((sorted_perm _).map _).trans ?_
    rw [hrg, List.map_map]
    have e1 : (es.toList.map ((fun p : Lit × DataW Unit => _root_.Go.intOf p.1) ∘ fun x : MapEntry => (Lit.int .i64 (kbI15 x.key), DataW.nil))) = (es.toList.map kvE).map fun x => kbI15 x.1 := by
      rw [List.map_map]
      rfl
    rw [e1]
    refine (r.kv.map _).trans (List.Perm.of_eq ?_)
    rw [List.map_map]
    rfl
  · show (List.foldr DataW.insert [] _).length = _
    rw [length_sorted, List.length_map, ← hsz]
    simp
/-- slices.Sort's two contracts at this dump. -/
theorem sortsI15 (m : Nat) : AnyZI.SortsIn Tryz.prog Tryz.sortedI15_ren Fence.wide m :=
  ⟨fun blk off cap ss W hH hblk hsz => callsIn_wide.2 (Tryz.slices_Sort_int blk off cap ss W hH hblk hsz),
   fun p cap W => callsIn_wide.2 (Tryz.slices_Sort_int_none p cap W)⟩
theorem keysI15 (mb : Option Nat) (W : World) : CallsIn Fence.wide 5 Tryz.prog 39 #[.map mb] W fun e w' => e = .returned (.func (.func 58) #[] #[.pointer (some ⟨W.heap.size, 0, none⟩)]) ∧ w' = W.alloc (.cells #[.map mb] TRs) :=
  AnyZI.keys_in Tryz.keysI15 Fence.wide 5 trivial rfl mb W
theorem sortedI15_any (b nn : Nat) (D0 : DataW Unit) (w : World) (hown : w.ownsMap Tryz.prog 3 unit15 b nn D0) (hmax : Maps.size D0 ≤ maxLen) (hbytes : Maps.size D0 * 8 ≤ 140737488355328) :
    CallsIn Fence.wide 5 Tryz.prog 38 #[.func (.func 58) #[] #[.pointer (some ⟨w.heap.size, 0, none⟩)]] (w.alloc (.cells #[.map (some b)] TRs)) fun e w' => ∃ (v : Value) (ss : List Int), e = .returned v ∧ ss.Perm (intKeys D0) ∧
      w'.ownsRow (w.alloc (.cells #[.map (some b)] TRs)).heap.size 3 1 v ss.length ((ss.mergeSort (fun x y => decide (x ≤ y))).map encZ) ∧ (v = .slice none 0 0 ↔ ss = []) ∧ Below (w.alloc (.cells #[.map (some b)] TRs)).heap.size (w.alloc (.cells #[.map (some b)] TRs)) w' := by
  have hbl := hown.lt
  have hseq : SeqGives Fence.wide 2 Tryz.prog 58 #[.pointer (some ⟨w.heap.size, 0, none⟩)] encZ (fun ss => ss.Perm (intKeys D0)) (Maps.size D0) (w.alloc (.cells #[.map (some b)] TRs)) :=
    AnyZI.keys_gives (ρ := Tryz.keysI15_ren) { Tryz.keysI15 with } Fence.wide _ trivial rfl (by omega) w.heap.size b nn D0 _ (by simp) (by simp) (by
      obtain ⟨es, clock, hb, Ft, hs, hD⟩ := hown
      exact ⟨es, clock, (Below.heap_alloc _ _ b hbl).trans hb, Ft, hs, hD⟩)
  exact AnyZI.sorted_in Tryz.sortedI15 Fence.wide 5 trivial trivial trivial trivial rfl (by omega) (sortsI15 _) (enters_of Tryz.func57 (by kernel_rfl) rfl) 58 #[.pointer (some ⟨w.heap.size, 0, none⟩)] trivial (enters_of Tryz.func58 (by kernel_rfl) rfl) _ _ hmax hbytes _ hseq
theorem sortedNil15_any (w : World) :
    CallsIn Fence.wide 5 Tryz.prog 38 #[.func (.func 58) #[] #[.pointer (some ⟨w.heap.size, 0, none⟩)]] (w.alloc (.cells #[.map none] TRs)) fun e w' => ∃ (v : Value) (ss : List Int), e = .returned v ∧ ss = [] ∧
      w'.ownsRow (w.alloc (.cells #[.map none] TRs)).heap.size 3 1 v ss.length ((ss.mergeSort (fun x y => decide (x ≤ y))).map encZ) ∧ (v = .slice none 0 0 ↔ ss = []) ∧ Below (w.alloc (.cells #[.map none] TRs)).heap.size (w.alloc (.cells #[.map none] TRs)) w' := by
  have hseq : SeqGives Fence.wide 2 Tryz.prog 58 #[.pointer (some ⟨w.heap.size, 0, none⟩)] encZ (fun ss : List Int => ss = []) 0 (w.alloc (.cells #[.map none] TRs)) :=
    AnyZI.keys_gives_nil (ρ := Tryz.keysI15_ren) { Tryz.keysI15 with } Fence.wide _ trivial rfl w.heap.size _ (by simp) (by simp)
  exact AnyZI.sorted_in Tryz.sortedI15 Fence.wide 5 trivial trivial trivial trivial rfl (by omega) (sortsI15 _) (enters_of Tryz.func57 (by kernel_rfl) rfl) 58 #[.pointer (some ⟨w.heap.size, 0, none⟩)] trivial (enters_of Tryz.func58 (by kernel_rfl) rfl) _ _ (by decide) (by decide) _ hseq
/-- The blocks by increasing number. -/
def keysH (l : Hs) : List Int := (l.map (·.1)).mergeSort fun x y => decide (x ≤ y)
theorem sortI_pw (l : List Int) : (l.mergeSort fun x y => decide (x ≤ y)).Pairwise (fun x y => x ≤ y) := by
  have tr : ∀ a b c : Int, (fun x y : Int => decide (x ≤ y)) a b = true → (fun x y : Int => decide (x ≤ y)) b c = true → (fun x y : Int => decide (x ≤ y)) a c = true := fun a b c h1 h2 => by simp only [decide_eq_true_eq] at *; omega
  have to : ∀ a b : Int, ((fun x y : Int => decide (x ≤ y)) a b || (fun x y : Int => decide (x ≤ y)) b a) = true := fun a b => by simp only [Bool.or_eq_true, decide_eq_true_eq]; omega
  exact (List.pairwise_mergeSort tr to l).imp fun h => by simpa using h
theorem sortI_congr {l l' : List Int} (hp : l.Perm l') : (l.mergeSort fun x y => decide (x ≤ y)) = l'.mergeSort fun x y => decide (x ≤ y) :=
  perm_sorted15 (fun a b h1 h2 => Int.le_antisymm h1 h2) (((List.mergeSort_perm l _).trans hp).trans (List.mergeSort_perm l' _).symm) (sortI_pw l) (sortI_pw l')
/-- What slices.Sorted(maps.Keys) of a path's blocks gives. -/
theorem sortedH15 {w : World} {g : Nat} {l : Hs} (h : MiB w g (hsV l)) (hk : ∀ x ∈ l, 0 ≤ x.1 ∧ x.1 < 9223372036854775808) (hn : l.length ≤ 100000) :
    Calls Tryz.prog 38 #[.func (.func 58) #[] #[.pointer (some ⟨w.heap.size, 0, none⟩)]] (w.alloc (.cells #[.map (some g)] TRs)) fun e w' => ∃ v : Value, e = .returned v ∧
      w'.ownsRow w.heap.size 3 1 v l.length ((keysH l).map encZ) ∧ Below w.heap.size w w' := by
  have hlw : (hsV l).length = l.length := by unfold hsV; rw [List.length_map]
  obtain ⟨D, hown, hperm, hsize⟩ := h.owns15 (fun x hx => by
    unfold hsV at hx
    obtain ⟨e, he, rfl⟩ := List.mem_map.1 hx
    exact hk e he) (by rw [hlw]; exact hn)
  rw [hlw] at hsize hown
  have e0 : (hsV l).map (·.1) = l.map (·.1) := by unfold hsV; rw [List.map_map]; rfl
  rw [e0] at hperm
  refine (callsIn_wide.1 (sortedI15_any g l.length D w hown (by rw [hsize]; simp only [maxLen]; omega) (by rw [hsize]; omega))).mono ?_
  rintro e w3 ⟨v, ss, rfl, hp, hrow, _, hB⟩
  have HB := (Below.refl w.heap.size w).alloc (Nat.le_refl _) (.cells #[.map (some g)] TRs)
  have hpp := hp.trans hperm
  have hl : ss.length = l.length := by rw [hpp.length_eq, List.length_map]
  refine ⟨v, rfl, ?_, HB.trans (hB.mono HB.size)⟩
  rw [sortI_congr hpp, hl] at hrow
  exact own_lower hrow HB.size
section
variable {w w' : World} {b mb : Nat} {F : Nat → Prop} {s : Ws} {bk : S8 → Nat}
set_option maxRecDepth 100000 in
set_option maxHeartbeats 4000000 in
theorem held15_any (h : WdAt w b F s mb bk) (p : S8) (hk : ∀ x ∈ ofW s p, 0 ≤ x.1 ∧ x.1 < 9223372036854775808) (hn : (ofW s p).length ≤ 100000) : Calls Tryz.prog 23 #[.pointer (some ⟨b, 0, none⟩), .string (mkS p)] w fun e w' => ∃ v : Value, e = .returned v ∧ w'.ownsRow w.heap.size 3 1 v (ofW s p).length ((keysH (ofW s p)).map encZ) ∧ Below w.heap.size w w' := by
  have c0 := h.cell
  have hl := look15 h p
  cases hf : findW s p with
  | none =>
    have hof : ofW s p = [] := by unfold ofW; rw [hf]; rfl
    rw [hof]
    rw [hf] at hl
    change _ = Result.ok (Value.map none) w at hl
    have HKY := Lib.hid (callsIn_wide.1 (keysI15 none w))
    have HST := Lib.hid (callsIn_wide.1 (sortedNil15_any w))
    have HB := Lib.hid ((Below.refl w.heap.size w).alloc (Nat.le_refl _) (.cells #[.map none] TRs))
    clear h hf hof hk hn
    go_enter Tryz.func23, Tryz.ntmps23
    go_wp2_with fail
    refine HKY.out.mono ?_
    rintro e w2 ⟨rfl, rfl⟩
    go_wp2_with fail
    refine HST.out.mono ?_
    rintro e w3 ⟨v, ss, rfl, rfl, hrow, _, hB⟩
    have HX := Lib.hid (And.intro hrow hB)
    clear hrow hB HKY HST
    go_wp2
    go_ret
    obtain ⟨hrow, hB⟩ := HX.out
    exact ⟨v, rfl, own_lower hrow HB.out.size, HB.out.trans (hB.mono HB.out.size)⟩
  | some l =>
    have hof : ofW s p = l := by unfold ofW; rw [hf]; rfl
    rw [hof] at hk hn ⊢
    rw [hf] at hl
    change _ = Result.ok (Value.map (some (bk p))) w at hl
    obtain ⟨g, hg⟩ : ∃ g, bk p = g := ⟨_, rfl⟩
    have hm := h.of hf
    rw [hg] at hl hm
    have HKY := Lib.hid (callsIn_wide.1 (keysI15 (some g) w))
    have HST := Lib.hid (sortedH15 hm hk hn)
    clear h hf hof hk hn hg hm
    go_enter Tryz.func23, Tryz.ntmps23
    go_wp2_with fail
    refine HKY.out.mono ?_
    rintro e w2 ⟨rfl, rfl⟩
    go_wp2_with fail
    refine HST.out.mono ?_
    rintro e w3 ⟨v, rfl, hrow, hB⟩
    have HX := Lib.hid (And.intro hrow hB)
    clear hrow hB HKY HST
    go_wp2
    go_ret
    obtain ⟨hrow, hB⟩ := HX.out
    exact ⟨v, rfl, hrow, hB⟩
end
end Go.Proofs.YtllpcllgliknpaaGreatDoor
/- The document's ward in memory; darnerref15.Find. -/
set_option maxRecDepth 100000
namespace Go.Proofs.YtllpcllgliknpaaGreatDoor
open Go Go.RowKit

/-- A block that the document holds. -/
structure Hr where
  path : S8
  blk : Int
  why : Int
def hr0 : Hr := ⟨[], 0, 0⟩
def hrC (x : Hr) : List Value := [.string (mkS x.path), .int .i64 x.blk, .int .i64 x.why]
def hrsC (l : List Hr) : List Value := l.flatMap hrC
theorem hrsC_len (l : List Hr) : (hrsC l).length = l.length * 3 := by
  unfold hrsC
  induction l with
  | nil => rfl
  | cons f l ih => rw [List.flatMap_cons, List.length_append, ih]; simp [hrC]; omega
theorem hrsC_app (a b : List Hr) : hrsC (a ++ b) = hrsC a ++ hrsC b := by unfold hrsC; rw [List.flatMap_append]
theorem hrsC_one (f : Hr) : hrsC [f] = hrC f := by simp [hrsC]
theorem hrsC_get (l : List Hr) (i j : Nat) (hi : i < l.length) (hj : j < 3) : (hrsC l)[i * 3 + j]? = (hrC (l.getD i hr0))[j]? := by
  induction l generalizing i with
  | nil => simp at hi
  | cons f l ih =>
    unfold hrsC
    rw [List.flatMap_cons]
    cases i with
    | zero => rw [List.getElem?_append_left (by simp [hrC]; omega)]; simp
    | succ i =>
      rw [List.getElem?_append_right (by simp [hrC]; omega)]
      have : (i + 1) * 3 + j - (hrC f).length = i * 3 + j := by simp [hrC]; omega
      rw [this]
      exact ih i (by simpa using hi)
theorem hrsC_oneCell (l : List Hr) : ∀ u ∈ hrsC l, u.oneCell' = true := by
  intro u hu
  obtain ⟨f, -, hf⟩ := List.mem_flatMap.1 hu
  simp [hrC] at hf
  rcases hf with rfl | rfl | rfl <;> rfl
theorem hrsC_take (l : List Hr) (i : Nat) : (hrsC l).take (i * 3) = hrsC (l.take i) := by
  induction l generalizing i with
  | nil => simp [hrsC]
  | cons f l ih =>
    cases i with
    | zero => simp [hrsC]
    | succ i =>
      have h := ih i
      unfold hrsC at h ⊢
      rw [List.flatMap_cons, List.take_succ_cons, List.flatMap_cons, ← h]
      rw [show (i + 1) * 3 = (hrC f).length + i * 3 by simp [hrC]; omega, List.take_length_add_append]
theorem hrsC_drop (l : List Hr) (i : Nat) : (hrsC l).drop (i * 3) = hrsC (l.drop i) := by
  induction l generalizing i with
  | nil => simp [hrsC]
  | cons f l ih =>
    cases i with
    | zero => simp [hrsC]
    | succ i =>
      have h := ih i
      unfold hrsC at h ⊢
      rw [List.flatMap_cons, List.drop_succ_cons, ← h]
      rw [show (i + 1) * 3 = (hrC f).length + i * 3 by simp [hrC]; omega, List.drop_length_add_append]
abbrev THr : TypeId := 26
abbrev EHr : TypeId := 51
def zHr : Value := .agg #[.string ⟨#[]⟩, .int .i64 0, .int .i64 0]
theorem elHr : ElK THr EHr zHr 3 32 := ⟨by kernel_rfl, by kernel_rfl, rfl, by decide, by decide⟩
/-- The document's list where a slice begins. -/
def HLs (w : World) (p : Option Addr) (n cap : Nat) (M : List Hr) : Prop := M.length = n ∧ LsC w p (hrsC M) ∧ (p = none → cap = 0) ∧ n ≤ cap
theorem HLs.of_below {w w' : World} {p : Option Addr} {n cap : Nat} {M : List Hr} (h : HLs w p n cap M) (hB : Below w.heap.size w w') : HLs w' p n cap M := ⟨h.1, h.2.1.of_below hB, h.2.2⟩
theorem HLs.cells {w : World} {p : Option Addr} {n cap : Nat} {M : List Hr} (h : HLs w p n cap M) (i : Nat) (hi : i < n) : ∃ c o, p = some ⟨c, o, none⟩ ∧ ∀ j, j < 3 → w.cell? ⟨c, o + i * 3 + j, none⟩ = (hrC (M.getD i hr0))[j]? := by
  obtain ⟨c, o, e, -⟩ := h.2.1 (i * 3) (by rw [hrsC_len, h.1]; omega)
  refine ⟨c, o, e, fun j hj => ?_⟩
  obtain ⟨c', o', e', hc⟩ := h.2.1 (i * 3 + j) (by rw [hrsC_len, h.1]; omega)
  rw [e] at e'
  injection e' with e'
  injection e' with e1 e2
  subst e1 e2
  rw [Nat.add_assoc, hc, hrsC_get M i j (by rw [h.1]; exact hi) hj]
/-- What Find tells. -/
def FindH (M : List Hr) (p : S8) (b r : Int) : Prop := (r = -1 ∧ ∀ x ∈ M, ¬ (x.path = p ∧ x.blk = b)) ∨ ∃ i : Nat, r = (i : Int) ∧ i < M.length ∧ (M.getD i hr0).path = p ∧ (M.getD i hr0).blk = b
set_option maxHeartbeats 4000000 in
theorem refFind15_any {w : World} {q : Option Addr} {n cap : Nat} {M : List Hr} (p : S8) (b : Int) (h : HLs w q n cap M) (hn : n < 100000000) :
    Calls Tryz.prog 18 #[.slice q n cap, .string (mkS p), .int .i64 b] w fun e w' => ∃ r, e = .returned (.int .i64 r) ∧ FindH M p b r ∧ w' = w := by
  have HL := Lib.hid h
  have HN := Lib.hid h.1
  clear h
  go_enter Tryz.func18, Tryz.ntmps18
  go_wp2
  go_loopw [10] (fun v wr => ∃ k : Nat, k ≤ n ∧ v = .int .i64 (k : Int) ∧ (∀ i, i < k → ¬ ((M.getD i hr0).path = p ∧ (M.getD i hr0).blk = b)) ∧ w = wr) (fun v _ => n - (intOf v).toNat)
  case atStart => exact ⟨0, Nat.zero_le _, rfl, (fun i hi => by omega), rfl⟩
  case round =>
    rename World => wa
    obtain ⟨k, hk, rfl, hF, rfl⟩ := hrel
    have HF := Lib.hid hF
    by_cases hlt : k < n
    · have y1 : (k : Int) < (n : Int) := by omega
      have y2 : decide ((k : Int) < (n : Int)) = true := decide_eq_true y1
      have hw6 : IntKind.i64.wrap ((k : Int) + 1) = (k : Int) + 1 := by rw [IntKind.wrap_i64]; omega
      obtain ⟨c, o, rfl, hc⟩ := HL.out.cells k hlt
      have x0 := hc 0 (by decide)
      have x1 := hc 1 (by decide)
      obtain ⟨x, hx⟩ : ∃ x, M.getD k hr0 = x := ⟨_, rfl⟩
      rw [hx] at x0 x1
      change _ = some (Value.string (mkS x.path)) at x0
      change _ = some (Value.int .i64 x.blk) at x1
      rw [Nat.add_zero] at x0
      have hcmp : ((mkS x.path).toList == (mkS p).toList) = decide (x.path = p) := by
        rw [mkS_toList, mkS_toList]
        by_cases h : x.path = p
        · simp [h]
        · simp [h]
      have HX := Lib.hid hx
      obtain ⟨xb, hxb⟩ : ∃ xb, x.blk = xb := ⟨_, rfl⟩
      rw [hxb] at x1
      have HXB := Lib.hid hxb
      generalize mkS x.path = X at x0 hcmp
      generalize mkS p = Y at hcmp
      clear hF hc hx hxb
      by_cases hp : x.path = p
      · rw [decide_eq_true hp] at hcmp
        by_cases hb : xb = b
        · have z1 : (xb == b) = true := by simpa using hb
          have z2 : decide (xb = b) = true := by simpa using hb
          go_wp2
          go_ret
          exact ⟨(k : Int), rfl, .inr ⟨k, rfl, by rw [HN.out]; exact hlt, by rw [HX.out]; exact hp, by rw [HX.out, HXB.out]; exact hb⟩, rfl⟩
        · have z1 : (xb == b) = false := by simpa using hb
          have z2 : decide (xb = b) = false := by simpa using hb
          go_wp2
          refine ⟨⟨k + 1, by omega, by go_num, fun i hi => ?_, trivial⟩, by simp [intOf]; omega⟩
          rcases Nat.lt_succ_iff_lt_or_eq.1 hi with h1 | rfl
          · exact HF.out i h1
          · rw [HX.out, HXB.out]; exact fun h => hb h.2
      · rw [decide_eq_false hp] at hcmp
        go_wp2
        refine ⟨⟨k + 1, by omega, by go_num, fun i hi => ?_, trivial⟩, by simp [intOf]; omega⟩
        rcases Nat.lt_succ_iff_lt_or_eq.1 hi with h1 | rfl
        · exact HF.out i h1
        · rw [HX.out]; exact fun h => hp h.1
    · have y1 : ¬ (k : Int) < (n : Int) := by omega
      have y2 : decide ((k : Int) < (n : Int)) = false := decide_eq_false y1
      have hkn : k = n := by omega
      clear hF
      go_wp2
      go_ret
      refine ⟨-1, rfl, .inl ⟨rfl, fun x hx => ?_⟩, rfl⟩
      obtain ⟨i, hi, rfl⟩ := List.getElem_of_mem hx
      have := HF.out i (by rw [hkn, ← HN.out]; exact hi)
      rw [List.getD_eq_getElem?_getD, List.getElem?_eq_getElem hi] at this
      exact this
end Go.Proofs.YtllpcllgliknpaaGreatDoor
/- darnerref15.Drop. -/
set_option maxRecDepth 100000
namespace Go.Proofs.YtllpcllgliknpaaGreatDoor
open Go Go.RowKit

def Hr.cells (x : Hr) : List Value := hrC x
/-- What isn't of a path, and what is. -/
def offH (M : List Hr) (p : S8) : List Hr := M.filter fun x => x.path != p
def onH (M : List Hr) (p : S8) : List Hr := M.filter fun x => x.path == p
theorem takeH_getD (M : List Hr) (k : Nat) (hk : k < M.length) : M.take (k + 1) = M.take k ++ [M.getD k hr0] := by
  rw [List.take_add_one, List.getElem?_eq_getElem hk, List.getD_eq_getElem?_getD, List.getElem?_eq_getElem hk]; rfl
theorem offH_take (M : List Hr) (p : S8) (k : Nat) (hk : k < M.length) : offH (M.take (k + 1)) p = offH (M.take k) p ++ (if (M.getD k hr0).path = p then [] else [M.getD k hr0]) := by
  unfold offH
  rw [takeH_getD M k hk, List.filter_append]
  by_cases h : (M.getD k hr0).path = p
  · rw [if_pos h, List.filter_cons_of_neg (by simpa using h), List.filter_nil]
  · rw [if_neg h, List.filter_cons_of_pos (by simpa using h), List.filter_nil]
theorem onH_take (M : List Hr) (p : S8) (k : Nat) (hk : k < M.length) : onH (M.take (k + 1)) p = onH (M.take k) p ++ (if (M.getD k hr0).path = p then [M.getD k hr0] else []) := by
  unfold onH
  rw [takeH_getD M k hk, List.filter_append]
  by_cases h : (M.getD k hr0).path = p
  · rw [if_pos h, List.filter_cons_of_pos (by simpa using h), List.filter_nil]
  · rw [if_neg h, List.filter_cons_of_neg (by simpa using h), List.filter_nil]
/-- A slice of the call's own that holds a list. -/
def OwnH (w : World) (base : Nat) (v : Value) (M : List Hr) : Prop := w.ownsRow base EHr 3 v M.length (hrsC M)
theorem OwnH.shape {w : World} {base : Nat} {v : Value} {M : List Hr} (h : OwnH w base v M) : ∃ p cap, v = .slice p M.length cap ∧ HLs w p M.length cap M ∧ ∀ c o, p = some ⟨c, o, none⟩ → base ≤ c ∧ c < w.heap.size := by
  obtain ⟨p, cap, e, h1, h2, h3, h4⟩ := own_shape h
  exact ⟨p, cap, e, ⟨rfl, h1, h2, h3⟩, h4⟩
theorem OwnH.more {w : World} {base : Nat} {v : Value} {M : List Hr} {x : Hr} (h : w.ownsRow base EHr 3 v (M.length + 1) (hrsC M ++ hrC x)) : OwnH w base v (M ++ [x]) := by
  unfold OwnH
  rw [List.length_append, hrsC_app, hrsC_one]
  simpa using h
theorem hrC_one (x : Hr) : ∀ u ∈ hrC x, u.oneCell' = true := by
  intro u hu
  simp [hrC] at hu
  rcases hu with rfl | rfl | rfl <;> rfl
/-- Two slices lie apart. -/
def Apt (v u : Value) : Prop := ∀ g, v.ownBlock = some g → u.ownBlock ≠ some g
set_option maxHeartbeats 4000000 in
theorem refDrop15_any {w : World} {q : Option Addr} {n cap : Nat} {M : List Hr} (p : S8) (h : HLs w q n cap M) (hn : n < 1000000) :
    Calls Tryz.prog 13 #[.slice q n cap, .string (mkS p)] w fun e w' => ∃ v u, e = .returned (.tuple #[v, u]) ∧ OwnH w' w.heap.size v (offH M p) ∧ OwnH w' w.heap.size u (onH M p) ∧ Apt v u ∧ Below w.heap.size w w' := by
  have HL := Lib.hid h
  have HN := Lib.hid h.1
  clear h
  go_enter Tryz.func13, Tryz.ntmps13
  go_wp2
  go_loopw [6, 7, 11] (fun v6 v7 v11 wr => ∃ k : Nat, k ≤ n ∧ v11 = .int .i64 (k : Int) ∧ OwnH wr w.heap.size v6 (offH (M.take k) p) ∧ OwnH wr w.heap.size v7 (onH (M.take k) p) ∧ Apt v6 v7 ∧ Below w.heap.size w wr) (fun v6 v7 v11 _ => n - (intOf v11).toNat)
  case atStart => exact ⟨0, Nat.zero_le _, rfl, World.ownsRow_nil w _ _ _, World.ownsRow_nil w _ _ _, (fun g hg => by cases hg), Below.refl _ _⟩
  case round =>
    obtain ⟨k, hk, rfl, hO6, hO7, hA, hB⟩ := hrel
    have HB := Lib.hid hB
    have HA := Lib.hid hA
    have HO6 := Lib.hid hO6
    have HO7 := Lib.hid hO7
    by_cases hlt : k < n
    · have y1 : (k : Int) < (n : Int) := by omega
      have y2 : decide ((k : Int) < (n : Int)) = true := decide_eq_true y1
      have hw6 : IntKind.i64.wrap ((k : Int) + 1) = (k : Int) + 1 := by rw [IntKind.wrap_i64]; omega
      have H2 := Lib.hid (HL.out.of_below hB)
      have hkl : k < M.length := by rw [HN.out]; exact hlt
      have HT6 := Lib.hid (offH_take M p k hkl)
      have HT7 := Lib.hid (onH_take M p k hkl)
      have HN6 := Lib.hid (show (offH (M.take k) p).length + 1 < 100000000 from by have := List.length_filter_le (fun x : Hr => x.path != p) (M.take k); rw [List.length_take] at this; unfold offH; omega)
      have HN7 := Lib.hid (show (onH (M.take k) p).length + 1 < 100000000 from by have := List.length_filter_le (fun x : Hr => x.path == p) (M.take k); rw [List.length_take] at this; unfold onH; omega)
      obtain ⟨c, o, rfl, hc⟩ := H2.out.cells k hlt
      have x0 := hc 0 (by decide)
      have x1 := hc 1 (by decide)
      have x2 := hc 2 (by decide)
      obtain ⟨x, hx⟩ : ∃ x, M.getD k hr0 = x := ⟨_, rfl⟩
      rw [hx] at x0 x1 x2 HT6 HT7
      change _ = some (Value.string (mkS x.path)) at x0
      change _ = some (Value.int .i64 x.blk) at x1
      change _ = some (Value.int .i64 x.why) at x2
      rw [Nat.add_zero] at x0
      have HMD := Lib.hid (LsC.made wr (hrC x) EHr)
      have HBW := Lib.hid (show Below wr.heap.size wr (wr.alloc (.cells (hrC x).toArray EHr)) from (Below.refl _ _).alloc (Nat.le_refl _) _)
      have HBX := Lib.hid (hB.alloc hB.size (.cells (hrC x).toArray EHr))
      have HW6 := Lib.hid (own_below hO6 HBW.out)
      have HW7 := Lib.hid (own_below hO7 HBW.out)
      obtain ⟨p6, cap6, e6, -, -⟩ := hO6.shape
      obtain ⟨p7, cap7, e7, -, -⟩ := hO7.shape
      subst e6 e7
      have hnw : w.heap.size ≤ (wr.alloc (.cells (hrC x).toArray EHr)).heap.size := by have := hB.size; simp; omega
      have HNW := Lib.hid hnw
      obtain ⟨xp, xb, xw⟩ := x
      clear hB hA hO6 hO7 hc hx hkl hnw
      by_cases hp : xp = p
      · dsimp only at x0 x1 x2
        have b1 : (xp == p) = true := beq_iff_eq.2 hp
        rw [if_pos hp] at HT6 HT7
        have HPP := Lib.hid hp
        clear hp
        go_wp2_with (first | (refine wpl_appendK elHr _ rfl (.tmp 21) (.tmp 26) rfl w.heap.size rfl HW7.out (some ⟨wr.heap.size, 0, none⟩) 1 1 (hrC ⟨xp, xb, xw⟩) rfl rfl HMD.out (fun e => by cases e) (hrC_one _) HN7.out HNW.out ?_; rintro v4 w4 hO4 hg4 h54; have HX4 := Lib.hid (And.intro hO4 (And.intro hg4 h54)); clear hO4 hg4 h54))
        obtain ⟨hO4, hg4, h54⟩ := HX4.out
        have hot := own_keep HW6.out (fun g hg => hg4.block g (HW6.out.lt g hg).2 (fun e => by first | exact HA.out g hg e | exact HA.out g hg e.symm))
        refine ⟨⟨k + 1, by omega, by go_num, by rw [HT6.out, List.append_nil]; exact hot, by rw [HT7.out]; exact OwnH.more hO4, fun g hg e => ?_, HBX.out.grown hg4 HNW.out (fun g hg => (HW7.out.lt g hg).1)⟩, by simp [intOf]; omega⟩
        rcases h54 with h | h
        · exact HA.out g hg (h.symm.trans e)
        · rw [h] at e
          injection e with e
          have := (HO6.out.lt g hg).2
          simp at e
          omega
      · dsimp only at x0 x1 x2
        have b1 : (xp == p) = false := beq_eq_false_iff_ne.2 hp
        rw [if_neg hp] at HT6 HT7
        clear hp
        go_wp2_with (first | (refine wpl_appendK elHr _ rfl (.tmp 28) (.tmp 33) rfl w.heap.size rfl HW6.out (some ⟨wr.heap.size, 0, none⟩) 1 1 (hrC ⟨xp, xb, xw⟩) rfl rfl HMD.out (fun e => by cases e) (hrC_one _) HN6.out HNW.out ?_; rintro v4 w4 hO4 hg4 h54; have HX4 := Lib.hid (And.intro hO4 (And.intro hg4 h54)); clear hO4 hg4 h54))
        obtain ⟨hO4, hg4, h54⟩ := HX4.out
        have hot := own_keep HW7.out (fun g hg => hg4.block g (HW7.out.lt g hg).2 (fun e => by first | exact HA.out g e hg | exact HA.out g e.symm hg))
        refine ⟨⟨k + 1, by omega, by go_num, by rw [HT6.out]; exact OwnH.more hO4, by rw [HT7.out, List.append_nil]; exact hot, fun g hg e => ?_, HBX.out.grown hg4 HNW.out (fun g hg => (HW6.out.lt g hg).1)⟩, by simp [intOf]; omega⟩
        rcases h54 with h | h
        · exact HA.out g (h.symm.trans hg) e
        · rw [h] at hg
          injection hg with hg
          have := (HO7.out.lt g e).2
          simp at hg
          omega
    · have y1 : ¬ (k : Int) < (n : Int) := by omega
      have y2 : decide ((k : Int) < (n : Int)) = false := decide_eq_false y1
      have hkn : M.take k = M := by rw [List.take_of_length_le]; rw [HN.out]; omega
      have HKN := Lib.hid hkn
      clear hB hA hO6 hO7 hkn
      go_wp2
      go_ret2
      have h6 := HO6.out
      have h7 := HO7.out
      rw [HKN.out] at h6 h7
      exact ⟨_, _, rfl, h6, h7, HA.out, HB.out⟩
end Go.Proofs.YtllpcllgliknpaaGreatDoor
/- darnerref15.Free. -/
set_option maxRecDepth 100000
namespace Go.Proofs.YtllpcllgliknpaaGreatDoor
open Go Go.RowKit

theorem LsC.drop15 {w : World} {c o : Nat} {cs : List Value} (h : LsC w (some ⟨c, o, none⟩) cs) (m : Nat) : LsC w (some ⟨c, o + m, none⟩) (cs.drop m) := fun j hj => by
  rw [List.length_drop] at hj
  obtain ⟨c', o', e, hc⟩ := h (m + j) (by omega)
  injection e with e
  injection e with e1 e2
  subst e1 e2
  exact ⟨c, o + m, rfl, by rw [Nat.add_assoc, hc, List.getElem?_drop]⟩
/-- The list with a block taken out. -/
def cutH (M : List Hr) (i : Nat) : List Hr := M.take i ++ M.drop (i + 1)
theorem FindH.cases {M : List Hr} {p : S8} {b r : Int} (h : FindH M p b r) : (r = -1 ∧ ∀ x ∈ M, ¬ (x.path = p ∧ x.blk = b)) ∨ ∃ i : Nat, r = (i : Int) ∧ i < M.length ∧ (M.getD i hr0).path = p ∧ (M.getD i hr0).blk = b := h
set_option maxHeartbeats 4000000 in
theorem refFree15_any {w : World} {q : Option Addr} {n cap : Nat} {M : List Hr} (p : S8) (b : Int) (h : HLs w q n cap M) (hn : n < 1000000) :
    Calls Tryz.prog 11 #[.slice q n cap, .string (mkS p), .int .i64 b] w fun e w' => Below w.heap.size w w' ∧
      (((∀ x ∈ M, ¬ (x.path = p ∧ x.blk = b)) ∧ e = .returned (.tuple #[.slice q n cap, .int .i64 8])) ∨
        ∃ (i : Nat) (v : Value), i < M.length ∧ (M.getD i hr0).path = p ∧ (M.getD i hr0).blk = b ∧ e = .returned (.tuple #[v, .int .i64 0]) ∧ OwnH w' w.heap.size v (cutH M i)) := by
  have HF := Lib.hid (refFind15_any (w := w) p b h (by omega))
  have HH := Lib.hid h
  clear h
  go_enter Tryz.func11, Tryz.ntmps11
  go_wp2_with fail
  refine HF.out.mono ?_
  rintro e w2 ⟨r, rfl, hr, rfl⟩
  rcases hr.cases with ⟨rfl, hno⟩ | ⟨i, rfl, hi, hp, hb⟩
  · have HNO := Lib.hid hno
    clear hno hr
    go_wp2
    go_ret2
    exact ⟨Below.refl _ _, .inl ⟨HNO.out, rfl⟩⟩
  · have hlen := HH.out.1
    have hcap := HH.out.2.2.2
    obtain ⟨c, o, rfl, -⟩ := HH.out.cells i (by omega)
    have y0 : ¬ ((i : Int) < 0) := by omega
    have y1 : decide ((i : Int) < 0) = false := decide_eq_false y0
    have hw6 : IntKind.i64.wrap ((i : Int) + 1) = (i : Int) + 1 := by rw [IntKind.wrap_i64]; omega
    have HI := Lib.hid (And.intro hi (And.intro hp hb))
    have H0 := Lib.hid (own_empty (E := EHr) (k := 3) w2 w2.heap.size (Nat.le_refl _))
    have hB0 : Below w2.heap.size w2 (w2.alloc (.cells #[] EHr)) := (Below.refl _ _).alloc (Nat.le_refl _) _
    have HB0 := Lib.hid hB0
    have HT := Lib.hid (show LsC (w2.alloc (.cells #[] EHr)) (some ⟨c, o, none⟩) (hrsC (M.take i)) from by rw [← hrsC_take]; exact (HH.out.2.1.take _).of_below hB0)
    have HS := Lib.hid (show Below w2.heap.size w2 (w2.alloc (.cells #[] EHr)) → w2.heap.size ≤ (w2.alloc (.cells #[] EHr)).heap.size from fun h => h.size)
    have hkc : i ≤ cap := by omega
    have hk1 : i + 1 ≤ n := by omega
    have z1 : (0 : Int) ≤ (i : Int) + 1 := by omega
    have z2 : (i : Int) + 1 ≤ (n : Int) := by omega
    have z3 : (i : Int) ≤ (cap : Int) := by omega
    have HLD := Lib.hid (show (hrsC (M.drop (i + 1))).length = (n - (i + 1)) * 3 from by rw [hrsC_len, List.length_drop, hlen])
    clear hr hp hb hB0
    by_cases hz : cap = i + 1
    · have hdr : M.drop (i + 1) = [] := List.drop_of_length_le (by omega)
      subst hz
      have z4 : (i : Int) ≤ (i : Int) + 1 := by omega
      have HR := Lib.hid (fun u (hu : Below w2.heap.size w2 u) => (show LsC u (some ⟨c, o, none⟩) (hrsC (M.drop (i + 1))) from by rw [hdr]; exact LsC.nil _ _))
      have HLD := Lib.hid (show (hrsC (M.drop (i + 1))).length = 0 * 3 from by rw [hdr]; rfl)
      have HNZ := Lib.hid (show n - (i + 1) = 0 by omega)
      clear hdr
      go_wp2
      go_region_law (first
        | (refine step_appendK (v := .slice (some ⟨w2.heap.size, 0, none⟩) 0 0) elHr _ rfl (.tmp 16) (.tmp 19) rfl w2.heap.size rfl (own_below H0.out (Below.refl _ _).drew) (some ⟨c, o, none⟩) i (i + 1) (hrsC (M.take i)) (by rw [hrsC_len, List.length_take]; omega) rfl (HT.out.of_below (Below.refl _ _).drew) (fun e => by cases e) (hrsC_oneCell _) (by omega) (by simp) ?_
           rintro v4 w4 hO4 hg4 h54
           rw [List.nil_append, Nat.zero_add] at hO4
           have HO4 := Lib.hid hO4
           have HB4 := Lib.hid (HB0.out.drew.grown hg4 HB0.out.drew.size (fun g hg => by have : w2.heap.size = g := (by simpa [Value.ownBlock] using hg); omega))
           obtain ⟨p4, c4, e4, -⟩ := own_shape hO4
           subst e4
           clear hO4 hg4 h54)
        | (refine step_appendK elHr _ rfl (.tmp 20) (.tmp 24) rfl w2.heap.size rfl HO4.out (some ⟨c, o, none⟩) 0 0 (hrsC (M.drop (i + 1))) HLD.out rfl (HR.out _ HB4.out) (fun e => by cases e) (hrsC_oneCell _) (by omega) HB4.out.size ?_
           rintro v5 w5 hO5 hg5 h55
           have HO5 := Lib.hid hO5
           have HB5 := Lib.hid (HB4.out.grown hg5 HB4.out.size (fun g hg => (HO4.out.lt g hg).1))
           clear hO5 hg5 h55))
      all_goals
        go_wp2
        go_ret2
        refine ⟨HB5.out, .inr ⟨i, _, HI.out.1, HI.out.2.1, HI.out.2.2, rfl, ?_⟩⟩
        have h := HO5.out
        unfold OwnH cutH
        rw [hrsC_app, List.length_append, List.length_take, List.length_drop, hlen, Nat.min_eq_left (by omega)]
        rw [HNZ.out]
        exact h
    · have HR := Lib.hid (fun u (hu : Below w2.heap.size w2 u) => (show LsC u (some ⟨c, o + (i + 1) * 3, none⟩) (hrsC (M.drop (i + 1))) from by rw [← hrsC_drop]; exact (HH.out.2.1.of_below hu).drop15 _))
      go_wp2
      go_region_law (first
        | (refine step_appendK (v := .slice (some ⟨w2.heap.size, 0, none⟩) 0 0) elHr _ rfl (.tmp 16) (.tmp 19) rfl w2.heap.size rfl (own_below H0.out (Below.refl _ _).drew) (some ⟨c, o, none⟩) i cap (hrsC (M.take i)) (by rw [hrsC_len, List.length_take]; omega) rfl (HT.out.of_below (Below.refl _ _).drew) (fun e => by cases e) (hrsC_oneCell _) (by omega) (by simp) ?_
           rintro v4 w4 hO4 hg4 h54
           rw [List.nil_append, Nat.zero_add] at hO4
           have HO4 := Lib.hid hO4
           have HB4 := Lib.hid (HB0.out.drew.grown hg4 HB0.out.drew.size (fun g hg => by have : w2.heap.size = g := (by simpa [Value.ownBlock] using hg); omega))
           obtain ⟨p4, c4, e4, -⟩ := own_shape hO4
           subst e4
           clear hO4 hg4 h54)
        | (refine step_appendK elHr _ rfl (.tmp 20) (.tmp 24) rfl w2.heap.size rfl HO4.out (some ⟨c, o + (i + 1) * 3, none⟩) (n - (i + 1)) (cap - (i + 1)) (hrsC (M.drop (i + 1))) HLD.out rfl (HR.out _ HB4.out) (fun e => by cases e) (hrsC_oneCell _) (by omega) HB4.out.size ?_
           rintro v5 w5 hO5 hg5 h55
           have HO5 := Lib.hid hO5
           have HB5 := Lib.hid (HB4.out.grown hg5 HB4.out.size (fun g hg => (HO4.out.lt g hg).1))
           clear hO5 hg5 h55))
      all_goals
        go_wp2
        go_ret2
        refine ⟨HB5.out, .inr ⟨i, _, HI.out.1, HI.out.2.1, HI.out.2.2, rfl, ?_⟩⟩
        have h := HO5.out
        unfold OwnH cutH
        rw [hrsC_app, List.length_append, List.length_take, List.length_drop, hlen, Nat.min_eq_left (by omega)]
        exact h
end Go.Proofs.YtllpcllgliknpaaGreatDoor
/- The reference of layer 7: beginnings. -/
set_option maxRecDepth 100000
namespace Go.Proofs.YtllpcllgliknpaaGreatDoor
open Go Go.RowKit

set_option maxHeartbeats 1000000 in
theorem refStarts_any (s t : S8) (hs : s.length < 1000000) (ht : t.length < 1000000) (w : World) : Calls Tryz.prog 46 #[.string (mkS s), .string (mkS t)] w fun e w' => e = .returned (.bool (startsL s t)) ∧ w = w' := by
  by_cases h : t.length ≤ s.length
  · have h1 : (t.length : Int) ≤ (s.length : Int) := by omega
    have h2 : decide ((t.length : Int) ≤ (s.length : Int)) = true := decide_eq_true h1
    have HS := Lib.hid (show startsL s t = (s.take t.length == t) from by unfold startsL; rw [decide_eq_true h]; rfl)
    go_enter Tryz.func46, Tryz.ntmps46
    go_wp2
    go_ret
    exact ⟨by rw [HS.out]; rfl, rfl⟩
  · have h1 : ¬ (t.length : Int) ≤ (s.length : Int) := by omega
    have h2 : decide ((t.length : Int) ≤ (s.length : Int)) = false := decide_eq_false h1
    have HS := Lib.hid (show startsL s t = false from by unfold startsL; rw [decide_eq_false h]; rfl)
    go_enter Tryz.func46, Tryz.ntmps46
    go_wp2
    go_ret
    exact ⟨by rw [HS.out]; rfl, rfl⟩
end Go.Proofs.YtllpcllgliknpaaGreatDoor
/- The reference's kinds. -/
set_option maxRecDepth 100000
namespace Go.Proofs.YtllpcllgliknpaaGreatDoor
open Go Go.RowKit

set_option maxHeartbeats 1000000 in
theorem refKind_any (l : S8) (hl : l.length < 100000) (w : World) : Calls Tryz.prog 26 #[.string (mkS l)] w fun e w' => Gives (.int .i64 (kindL l : Int)) w e w' := by
  obtain ⟨X, hX⟩ : ∃ X, kindL l = X := ⟨_, rfl⟩
  rw [hX]
  have HX := Lib.hid (hX.symm.trans (show kindL l = if goodL l then (if startsL (baseL l) tmpS then 1 else if startsL (baseL l) parS then 2 else 3) else 0 from rfl))
  clear hX
  have HG := Lib.hid (fun u => refGood_any l (by omega) u)
  have HS := Lib.hid (fun u => refSlash_any l (by omega) u)
  have hkl := kL_le l
  have hbl : (l.drop (kL l)).length < 1000000 := by rw [List.length_drop]; omega
  have HT := Lib.hid (fun u => refStarts_any (l.drop (kL l)) tmpS hbl (by decide) u)
  have HP := Lib.hid (fun u => refStarts_any (l.drop (kL l)) parS hbl (by decide) u)
  rw [show mkS tmpS = ⟨#[46, 116, 109, 112, 126]⟩ from (mkS_lit tmpS).symm] at HT
  rw [show mkS parS = ⟨#[46, 112, 97, 114, 126]⟩ from (mkS_lit parS).symm] at HP
  have HX2 := Lib.hid (HX.out.trans (show _ = if goodL l then (if startsL (l.drop (kL l)) tmpS then 1 else if startsL (l.drop (kL l)) parS then 2 else 3) else 0 from rfl))
  clear HX hbl
  generalize goodL l = g at *
  generalize startsL (l.drop (kL l)) tmpS = b1 at *
  generalize startsL (l.drop (kL l)) parS = b2 at *
  generalize kL l = k at *
  have k1 : IntKind.i64.wrap (k : Int) = (k : Int) := by rw [IntKind.wrap_i64]; omega
  have k2 : wrap64 (k : Int) = (k : Int) := by unfold wrap64; omega
  have k3 : (k : Int) - 1 + 1 = (k : Int) := by omega
  go_enter Tryz.func26, Tryz.ntmps26
  go_wp2_with fail
  refine (HG.out _).mono ?_
  rintro e w' ⟨rfl, rfl⟩
  cases g with
  | false =>
    obtain rfl : X = 0 := by rw [HX2.out]; rfl
    go_wp2
    go_ret
    exact ⟨rfl, Below.refl _ _⟩
  | true =>
    go_wp2_with fail
    refine (HS.out _).mono ?_
    rintro e w' ⟨rfl, rfl⟩
    go_wp2_with fail
    refine (HT.out _).mono ?_
    rintro e w' ⟨rfl, rfl⟩
    cases b1 with
    | true =>
      obtain rfl : X = 1 := by rw [HX2.out]; rfl
      go_wp2
      go_ret
      exact ⟨rfl, Below.refl _ _⟩
    | false =>
      go_wp2_with fail
      refine (HP.out _).mono ?_
      rintro e w' ⟨rfl, rfl⟩
      cases b2 with
      | true =>
        obtain rfl : X = 2 := by rw [HX2.out]; rfl
        go_wp2
        go_ret
        exact ⟨rfl, Below.refl _ _⟩
      | false =>
        obtain rfl : X = 3 := by rw [HX2.out]; rfl
        go_wp2
        go_ret
        exact ⟨rfl, Below.refl _ _⟩
end Go.Proofs.YtllpcllgliknpaaGreatDoor
/- darnerref15.Hold: what it refuses before it looks. -/
set_option maxRecDepth 100000
namespace Go.Proofs.YtllpcllgliknpaaGreatDoor
open Go Go.RowKit

/-- What Hold refuses before it looks. -/
def badH (p : S8) (b y : Int) : Int := if kindL p ≠ 3 then 7 else if b < 0 ∨ 63 < b ∨ y < 1 ∨ 3 < y then 1 else 0
set_option maxHeartbeats 4000000 in
theorem refHold15_bad {w : World} (v : Value) (p : S8) (b y : Int) (hp : p.length < 100000) (hb : badH p b y ≠ 0) :
    Calls Tryz.prog 10 #[v, .string (mkS p), .int .i64 b, .int .i64 y] w fun e w' => e = .returned (.tuple #[v, .int .i64 (badH p b y)]) ∧ Below w.heap.size w w' := by
  have HKD := Lib.hid (refKind_any p hp w)
  by_cases hk : kindL p = 3
  · have hb2 : b < 0 ∨ 63 < b ∨ y < 1 ∨ 3 < y := by
      by_cases h : b < 0 ∨ 63 < b ∨ y < 1 ∨ 3 < y
      · exact h
      · exact absurd (by unfold badH; rw [if_neg (by simp [hk]), if_neg h]) hb
    have e : badH p b y = 1 := by unfold badH; rw [if_neg (by simp [hk]), if_pos hb2]
    rw [e]
    rw [hk] at HKD
    clear hb e hk
    go_enter Tryz.func10, Tryz.ntmps10
    go_wp2_with fail
    refine HKD.out.mono ?_
    rintro e w2 ⟨rfl, hB⟩
    have HB := Lib.hid hB
    clear hB HKD
    by_cases h1 : b < 0
    · have z1 : decide (b < 0) = true := decide_eq_true h1
      clear hb2
      go_wp2
      go_ret2
      exact ⟨rfl, HB.out⟩
    · have z1 : decide (b < 0) = false := decide_eq_false h1
      by_cases h2 : 63 < b
      · have z2 : decide (63 < b) = true := decide_eq_true h2
        clear hb2
        go_wp2
        go_ret2
        exact ⟨rfl, HB.out⟩
      · have z2 : decide (63 < b) = false := decide_eq_false h2
        by_cases h3 : y < 1
        · have z3 : decide (y < 1) = true := decide_eq_true h3
          clear hb2
          go_wp2
          go_ret2
          exact ⟨rfl, HB.out⟩
        · have z3 : decide (y < 1) = false := decide_eq_false h3
          have h4 : 3 < y := by omega
          have z4 : decide (3 < y) = true := decide_eq_true h4
          clear hb2
          go_wp2
          go_ret2
          exact ⟨rfl, HB.out⟩
  · have e : badH p b y = 7 := by unfold badH; rw [if_pos hk]
    rw [e]
    obtain ⟨kk, hkk⟩ : ∃ kk : Nat, kindL p = kk := ⟨_, rfl⟩
    rw [hkk] at HKD hk
    have z0 : ((kk : Int) = 3) = False := by simp; omega
    have z1 : ((kk : Int) == 3) = false := by simp; omega
    have z2 : decide ((kk : Int) = 3) = false := by simp; omega
    clear hb e hkk
    go_enter Tryz.func10, Tryz.ntmps10
    go_wp2_with fail
    refine HKD.out.mono ?_
    rintro e w2 ⟨rfl, hB⟩
    have HB := Lib.hid hB
    clear hB HKD
    go_wp2
    go_ret2
    exact ⟨rfl, HB.out⟩
end Go.Proofs.YtllpcllgliknpaaGreatDoor
/- darnerref15.Hold: a block that is held gets another reason. -/
set_option maxRecDepth 100000
namespace Go.Proofs.YtllpcllgliknpaaGreatDoor
open Go Go.RowKit

/-- A cell of a slice of one's own is put. -/
theorem own_setK {w : World} {base n k : Nat} {E : TypeId} {v : Value} {cs : List Value} (h : w.ownsRow base E k v n cs) (j : Nat) (hj : j < cs.length) :
    ∃ g cap, v = .slice (some ⟨g, 0, none⟩) n cap ∧ base ≤ g ∧ g < w.heap.size ∧ n ≤ cap ∧ w.frozen? ⟨g, j, none⟩ = false ∧ w.cell? ⟨g, j, none⟩ = cs[j]? ∧ ∀ u, (w.setCell ⟨g, j, none⟩ u).ownsRow base E k v n (cs.set j u) := by
  obtain ⟨hl, h2⟩ := h
  rcases h2 with ⟨-, rfl⟩ | ⟨g, cap, cur, rfl, h1, hg, h3, h4, h5, h6⟩
  · omega
  · have hlt : g < w.heap.size := (Array.getElem?_eq_some_iff.1 hg).1
    have hjc : j < cur.size := by
      have : cs.length ≤ cur.size := by rw [← h6, List.length_take]; simp; omega
      omega
    refine ⟨g, cap, rfl, h1, hlt, h3, by simp only [World.frozen?, hg]; simp, ?_, fun u => ⟨by rw [List.length_set]; exact hl, .inr ⟨g, cap, cur.setIfInBounds j u, rfl, h1, ?_, h3, h4, by rw [Array.size_setIfInBounds]; exact h5, ?_⟩⟩⟩
    · rw [← h6, List.getElem?_take_of_lt (by omega)]
      simp only [World.cell?, hg]
      simp
    · simp [World.setCell, Array.getElem?_modify, hg]
    · rw [Array.toList_setIfInBounds, List.take_set, h6]
theorem hrsC_setWhy (M : List Hr) (i : Nat) (hi : i < M.length) (y : Int) : (hrsC M).set (i * 3 + 2) (.int .i64 y) = hrsC (M.set i ⟨(M.getD i hr0).path, (M.getD i hr0).blk, y⟩) := by
  induction M generalizing i with
  | nil => simp at hi
  | cons f l ih =>
    unfold hrsC
    cases i with
    | zero => simp [hrC]
    | succ i =>
      rw [List.flatMap_cons, List.set_append_right (h := by simp [hrC]; omega), List.set_cons_succ, List.flatMap_cons]
      have e : (i + 1) * 3 + 2 - (hrC f).length = i * 3 + 2 := by simp [hrC]; omega
      rw [e]
      have := ih i (by simpa using hi)
      unfold hrsC at this
      rw [this]
      simp
/-- The reason of a block is another one. -/
def setH (M : List Hr) (i : Nat) (y : Int) : List Hr := M.set i ⟨(M.getD i hr0).path, (M.getD i hr0).blk, y⟩
theorem badH_ok {p : S8} {b y : Int} (h : badH p b y = 0) : kindL p = 3 ∧ 0 ≤ b ∧ b ≤ 63 ∧ 1 ≤ y ∧ y ≤ 3 := by
  unfold badH at h
  by_cases h1 : kindL p ≠ 3
  · rw [if_pos h1] at h; omega
  · rw [if_neg h1] at h
    by_cases h2 : b < 0 ∨ 63 < b ∨ y < 1 ∨ 3 < y
    · rw [if_pos h2] at h; omega
    · exact ⟨by simpa using h1, by omega, by omega, by omega, by omega⟩
set_option maxHeartbeats 4000000 in
theorem refHold15_set {w : World} {q : Option Addr} {n cap : Nat} {M : List Hr} (p : S8) (b y : Int) (h : HLs w q n cap M) (hn : n < 1000000) (hp : p.length < 100000) (hb : badH p b y = 0) (hx : ∃ x ∈ M, x.path = p ∧ x.blk = b) :
    Calls Tryz.prog 10 #[.slice q n cap, .string (mkS p), .int .i64 b, .int .i64 y] w fun e w' => Below w.heap.size w w' ∧
      ∃ (i : Nat) (v : Value), i < M.length ∧ (M.getD i hr0).path = p ∧ (M.getD i hr0).blk = b ∧ e = .returned (.tuple #[v, .int .i64 0]) ∧ OwnH w' w.heap.size v (setH M i y) := by
  obtain ⟨k1, k2, k3, k4, k5⟩ := badH_ok hb
  have HKD := Lib.hid (refKind_any p hp w)
  rw [k1] at HKD
  have HH := Lib.hid (fun u (hu : Below w.heap.size w u) => h.of_below hu)
  have HFD := Lib.hid (fun u (hu : Below w.heap.size w u) => refFind15_any (w := u) p b (h.of_below hu) (by omega))
  have HX := Lib.hid hx
  have HLN := Lib.hid h.1
  have z1 : decide (b < 0) = false := decide_eq_false (by omega)
  have z2 : decide (63 < b) = false := decide_eq_false (by omega)
  have z3 : decide (y < 1) = false := decide_eq_false (by omega)
  have z4 : decide (3 < y) = false := decide_eq_false (by omega)
  have hlen := h.1
  clear hb hx k1 k2 k3 k4 k5 h
  go_enter Tryz.func10, Tryz.ntmps10
  go_wp2_with fail
  refine HKD.out.mono ?_
  rintro e w2 ⟨rfl, hB⟩
  have HB := Lib.hid hB
  clear hB HKD
  go_wp2_with fail
  refine (HFD.out _ HB.out).mono ?_
  rintro e w3 ⟨r, rfl, hr, rfl⟩
  rcases hr with ⟨-, hno⟩ | ⟨i, rfl, hi, hpe, hbe⟩
  · obtain ⟨x, hx, hxe⟩ := HX.out
    exact absurd hxe (hno x hx)
  have HI := Lib.hid (And.intro hi (And.intro hpe hbe))
  have H2 := Lib.hid (HH.out w3 HB.out)
  obtain ⟨c, o, rfl, -⟩ := H2.out.cells i (by omega)
  have H0 := Lib.hid (own_lower (own_empty (E := EHr) (k := 3) w3 w3.heap.size (Nat.le_refl _)) HB.out.size)
  have HB0 := Lib.hid (show Below w.heap.size w (w3.alloc (.cells #[] EHr)) from HB.out.alloc HB.out.size _)
  have HT := Lib.hid (show LsC (w3.alloc (.cells #[] EHr)) (some ⟨c, o, none⟩) (hrsC M) from H2.out.2.1.of_below ((Below.refl _ _).alloc (Nat.le_refl _) _))
  have HLC := Lib.hid (show (hrsC M).length = n * 3 from by rw [hrsC_len, hlen])
  have y0 : (0 : Int) ≤ (i : Int) := by omega
  have y1 : decide ((0 : Int) ≤ (i : Int)) = true := decide_eq_true y0
  have y2 : (i : Int) < (n : Int) := by omega
  clear hpe hbe
  have HJ := Lib.hid (show i * 3 + 2 < (hrsC M).length by rw [HLC.out]; omega)
  have HJV := Lib.hid (show (hrsC M)[i * 3 + 2]? = some (.int .i64 (M.getD i hr0).why) from by rw [hrsC_get M i 2 hi (by decide)]; rfl)
  go_wp2_with (first
    | (refine wpl_appendK (v := .slice (some ⟨w3.heap.size, 0, none⟩) 0 0) elHr _ rfl (.tmp 36) (.tmp 37) rfl w.heap.size rfl H0.out (some ⟨c, o, none⟩) n cap (hrsC M) HLC.out rfl HT.out (fun e => by cases e) (hrsC_oneCell _) (by omega) HB0.out.size ?_
       rintro v4 w4 hO4 hg4 h54
       rw [List.nil_append, Nat.zero_add] at hO4
       have HO4 := Lib.hid hO4
       have HB4 := Lib.hid (HB0.out.grown hg4 HB0.out.size (fun g hg => by have : w3.heap.size = g := (by simpa [Value.ownBlock] using hg); have := HB.out.size; omega))
       obtain ⟨g4, c4, e4, hbase, hlt4, hc4, hfr, hcl, hset⟩ := own_setK hO4 (i * 3 + 2) HJ.out
       rw [HJV.out] at hcl
       have HST := Lib.hid (hset (.int .i64 y))
       have HBS := Lib.hid (And.intro hbase hlt4)
       subst e4
       clear hO4 hg4 h54 hset hbase))
  go_ret2
  have hst := HST.out
  rw [hrsC_setWhy M i HI.out.1 y] at hst
  refine ⟨HB4.out.setCell HBS.out.1 _, i, _, HI.out.1, HI.out.2.1, HI.out.2.2, rfl, ?_⟩
  unfold OwnH setH
  rw [List.length_set, hlen]
  exact hst
end Go.Proofs.YtllpcllgliknpaaGreatDoor
/- darnerref15.Hold: too many. -/
set_option maxRecDepth 100000
namespace Go.Proofs.YtllpcllgliknpaaGreatDoor
open Go Go.RowKit

set_option maxHeartbeats 4000000 in
theorem refHold15_many {w : World} {q : Option Addr} {n cap : Nat} {M : List Hr} (p : S8) (b y : Int) (h : HLs w q n cap M) (hn : n < 1000000) (hp : p.length < 100000) (hb : badH p b y = 0) (hx : ∀ x ∈ M, ¬ (x.path = p ∧ x.blk = b)) (hm : 1000 ≤ n) :
    Calls Tryz.prog 10 #[.slice q n cap, .string (mkS p), .int .i64 b, .int .i64 y] w fun e w' => Below w.heap.size w w' ∧ e = .returned (.tuple #[.slice q n cap, .int .i64 14]) := by
  obtain ⟨k1, k2, k3, k4, k5⟩ := badH_ok hb
  have HKD := Lib.hid (refKind_any p hp w)
  rw [k1] at HKD
  have HH := Lib.hid (fun u (hu : Below w.heap.size w u) => h.of_below hu)
  have HFD := Lib.hid (fun u (hu : Below w.heap.size w u) => refFind15_any (w := u) p b (h.of_below hu) (by omega))
  have HX := Lib.hid hx
  have HLN := Lib.hid h.1
  have z1 : decide (b < 0) = false := decide_eq_false (by omega)
  have z2 : decide (63 < b) = false := decide_eq_false (by omega)
  have z3 : decide (y < 1) = false := decide_eq_false (by omega)
  have z4 : decide (3 < y) = false := decide_eq_false (by omega)
  have hlen := h.1
  clear hb hx k1 k2 k3 k4 k5 h
  go_enter Tryz.func10, Tryz.ntmps10
  go_wp2_with fail
  refine HKD.out.mono ?_
  rintro e w2 ⟨rfl, hB⟩
  have HB := Lib.hid hB
  clear hB HKD
  go_wp2_with fail
  refine (HFD.out _ HB.out).mono ?_
  rintro e w3 ⟨r, rfl, hr, rfl⟩
  rcases hr.cases.symm with ⟨i, rfl, hi, hpe, hbe⟩ | ⟨rfl, -⟩
  · refine absurd ⟨hpe, hbe⟩ (HX.out _ ?_)
    rw [List.getD_eq_getElem?_getD, List.getElem?_eq_getElem hi]
    exact List.getElem_mem _
  have H2 := Lib.hid (HH.out w3 HB.out)
  obtain ⟨c, o, rfl, -⟩ := H2.out.cells 0 (by omega)
  have H0 := Lib.hid (own_lower (own_empty (E := EHr) (k := 3) w3 w3.heap.size (Nat.le_refl _)) HB.out.size)
  have HB0 := Lib.hid (show Below w.heap.size w (w3.alloc (.cells #[] EHr)) from HB.out.alloc HB.out.size _)
  have HT := Lib.hid (show LsC (w3.alloc (.cells #[] EHr)) (some ⟨c, o, none⟩) (hrsC M) from H2.out.2.1.of_below ((Below.refl _ _).alloc (Nat.le_refl _) _))
  have HLC := Lib.hid (show (hrsC M).length = n * 3 from by rw [hrsC_len, hlen])
  have y1 : decide ((1000 : Int) ≤ (n : Int)) = true := decide_eq_true (by omega)
  have y2 : (1000 : Int) ≤ (n : Int) := by omega
  go_wp2_with (first
    | (refine wpl_appendK (v := .slice (some ⟨w3.heap.size, 0, none⟩) 0 0) elHr _ rfl (.tmp 36) (.tmp 37) rfl w.heap.size rfl H0.out (some ⟨c, o, none⟩) n cap (hrsC M) HLC.out rfl HT.out (fun e => by cases e) (hrsC_oneCell _) (by omega) HB0.out.size ?_
       rintro v4 w4 hO4 hg4 h54
       rw [List.nil_append, Nat.zero_add] at hO4
       have HO4 := Lib.hid hO4
       have HB4 := Lib.hid (HB0.out.grown hg4 HB0.out.size (fun g hg => by have : w3.heap.size = g := (by simpa [Value.ownBlock] using hg); have := HB.out.size; omega))
       obtain ⟨p4, c4, e4, -⟩ := own_shape hO4
       subst e4
       clear hO4 hg4 h54))
  go_ret2
  exact ⟨HB4.out, rfl⟩
end Go.Proofs.YtllpcllgliknpaaGreatDoor
/- What is held, as the ward keeps it and as the document lists it. -/
set_option maxRecDepth 100000
namespace Go.Proofs.YtllpcllgliknpaaGreatDoor
open Go Go.RowKit

def ltH (x y : Hr) : Prop := x.path < y.path ∨ x.path = y.path ∧ x.blk < y.blk
def SortH (M : List Hr) : Prop := M.Pairwise ltH
theorem ltH_irr (x : Hr) : ¬ ltH x x := by
  rintro (h | ⟨-, h⟩)
  · exact List.lt_irrefl _ h
  · omega
theorem ltH_asy {x y : Hr} (h : ltH x y) : ¬ ltH y x := by
  rintro (h2 | ⟨e, h2⟩) <;> rcases h with h | ⟨e', h⟩
  · exact List.lt_irrefl _ (List.lt_trans h h2)
  · rw [e'] at h2; exact List.lt_irrefl _ h2
  · rw [e] at h; exact List.lt_irrefl _ h
  · omega
theorem ltH_tr {x y z : Hr} (h : ltH x y) (h2 : ltH y z) : ltH x z := by
  rcases h with h | ⟨e, h⟩ <;> rcases h2 with h2 | ⟨e2, h2⟩
  · exact .inl (List.lt_trans h h2)
  · exact .inl (e2 ▸ h)
  · exact .inl (e ▸ h2)
  · exact .inr ⟨e.trans e2, by omega⟩
theorem s8_tri (a b : S8) : a < b ∨ a = b ∨ b < a := by
  by_cases h1 : a < b
  · exact .inl h1
  · by_cases h2 : b < a
    · exact .inr (.inr h2)
    · exact .inr (.inl (List.le_antisymm (List.not_lt.1 h2) (List.not_lt.1 h1)))
theorem ltH_tot {x y : Hr} (h : ¬ (x.path = y.path ∧ x.blk = y.blk)) : ltH x y ∨ ltH y x := by
  rcases s8_tri x.path y.path with a | a | a
  · exact .inl (.inl a)
  · rcases Int.lt_trichotomy x.blk y.blk with b | b | b
    · exact .inl (.inr ⟨a, b⟩)
    · exact absurd ⟨a, b⟩ h
    · exact .inr (.inr ⟨a.symm, b⟩)
  · exact .inr (.inl a)
/-- Two lists in order that hold the same are the same. -/
theorem sortH_ext : ∀ {A B : List Hr}, SortH A → SortH B → (∀ x, x ∈ A ↔ x ∈ B) → A = B
  | [], [], _, _, _ => rfl
  | [], b :: B, _, _, h => absurd ((h b).2 (List.mem_cons_self)) (by simp)
  | a :: A, [], _, _, h => absurd ((h a).1 (List.mem_cons_self)) (by simp)
  | a :: A, b :: B, hA, hB, h => by
    unfold SortH at hA hB
    rw [List.pairwise_cons] at hA hB
    have hab : a = b := by
      rcases List.mem_cons.1 ((h a).1 List.mem_cons_self) with e | h1
      · exact e
      · rcases List.mem_cons.1 ((h b).2 List.mem_cons_self) with e | h2
        · exact e.symm
        · exact absurd (hB.1 a h1) (ltH_asy (hA.1 b h2))
    subst hab
    congr 1
    refine sortH_ext hA.2 hB.2 fun x => ⟨fun hx => ?_, fun hx => ?_⟩
    · rcases List.mem_cons.1 ((h x).1 (List.mem_cons_of_mem _ hx)) with e | h1
      · subst e; exact absurd (hA.1 _ hx) (ltH_irr _)
      · exact h1
    · rcases List.mem_cons.1 ((h x).2 (List.mem_cons_of_mem _ hx)) with e | h1
      · subst e; exact absurd (hB.1 _ hx) (ltH_irr _)
      · exact h1
/-- What is held of a path, as the document lists it. -/
def grpH (p : S8) (l : Hs) : List Hr := (keysH l).map fun k => ⟨p, k, (whyW l k).getD 0⟩
def canW (s : Ws) : List Hr := (pathsW s).flatMap fun p => grpH p (ofW s p)
theorem keysH_mem {l : Hs} {k : Int} : k ∈ keysH l ↔ ∃ r, whyW l k = some r := by
  unfold keysH
  rw [(List.mergeSort_perm _ _).mem_iff]
  constructor
  · intro h
    cases hw : whyW l k with
    | some r => exact ⟨r, rfl⟩
    | none =>
      obtain ⟨x, hx, e⟩ := List.mem_map.1 h
      exact absurd e (whyW_none hw x hx)
  · rintro ⟨r, hw⟩
    unfold whyW at hw
    cases hx : l.find? (fun x => x.1 == k) with
    | none => rw [hx] at hw; cases hw
    | some x =>
      have h1 := List.mem_of_find?_eq_some hx
      have h2 := List.find?_some hx
      exact List.mem_map.2 ⟨x, h1, by simpa using h2⟩
theorem pathsW_mem {s : Ws} {p : S8} : p ∈ pathsW s ↔ ∃ l, findW s p = some l := by
  unfold pathsW
  rw [(List.mergeSort_perm _ _).mem_iff]
  constructor
  · intro h
    cases hw : findW s p with
    | some r => exact ⟨r, rfl⟩
    | none =>
      obtain ⟨x, hx, e⟩ := List.mem_map.1 h
      exact absurd e (findW_none hw x hx)
  · rintro ⟨l, hf⟩
    exact List.mem_map.2 ⟨_, findW_in hf, rfl⟩
theorem grpH_mem {p : S8} {l : Hs} {x : Hr} : x ∈ grpH p l ↔ x.path = p ∧ whyW l x.blk = some x.why := by
  unfold grpH
  rw [List.mem_map]
  constructor
  · rintro ⟨k, hk, rfl⟩
    obtain ⟨r, hr⟩ := keysH_mem.1 hk
    exact ⟨rfl, by dsimp only; rw [hr]; rfl⟩
  · rintro ⟨rfl, h⟩
    refine ⟨x.blk, keysH_mem.2 ⟨_, h⟩, ?_⟩
    rw [h]
    rfl
theorem canW_mem {s : Ws} {x : Hr} : x ∈ canW s ↔ whyW (ofW s x.path) x.blk = some x.why := by
  unfold canW
  rw [List.mem_flatMap]
  constructor
  · rintro ⟨p, hp, hx⟩
    obtain ⟨rfl, h⟩ := grpH_mem.1 hx
    exact h
  · intro h
    refine ⟨x.path, pathsW_mem.2 ?_, grpH_mem.2 ⟨rfl, h⟩⟩
    cases hf : findW s x.path with
    | some l => exact ⟨l, rfl⟩
    | none => unfold ofW at h; rw [hf] at h; cases h
theorem pw_strict15 {α : Type} {le lt : α → α → Prop} (hl : ∀ a b, le a b → a ≠ b → lt a b) : ∀ {l : List α}, l.Pairwise le → l.Nodup → l.Pairwise lt
  | [], _, _ => List.Pairwise.nil
  | a :: l, h, hn => by
    rw [List.pairwise_cons] at h
    rw [List.nodup_cons] at hn
    exact List.pairwise_cons.2 ⟨fun b hb => hl a b (h.1 b hb) (fun e => hn.1 (e ▸ hb)), pw_strict15 hl h.2 hn.2⟩
theorem keysH_strict {l : Hs} (hn : (l.map (·.1)).Nodup) : (keysH l).Pairwise fun x y => x < y :=
  pw_strict15 (fun a b h1 h2 => by omega) (sortI_pw _) ((List.mergeSort_perm _ _).nodup_iff.2 hn)
theorem pathsW_strict {s : Ws} (hn : (s.map (·.1)).Nodup) : (pathsW s).Pairwise fun x y => x < y :=
  pw_strict15 (fun a b h1 h2 => by
    rcases s8_tri a b with h | h | h
    · exact h
    · exact absurd h h2
    · exact absurd (List.le_antisymm h1 (List.le_of_lt h)) h2) (sortS_pw _) ((List.mergeSort_perm _ _).nodup_iff.2 hn)
theorem grpH_sort {p : S8} {l : Hs} (hn : (l.map (·.1)).Nodup) : SortH (grpH p l) := by
  unfold SortH grpH
  rw [List.pairwise_map]
  exact (keysH_strict hn).imp fun h => .inr ⟨rfl, h⟩
theorem canW_sort {s : Ws} (h : OkW s) : SortH (canW s) := by
  unfold SortH canW
  rw [List.pairwise_flatMap]
  refine ⟨fun p _ => grpH_sort (ofW_nodup h p), (pathsW_strict h.1).imp fun hlt x hx y hy => ?_⟩
  exact .inl (by rw [(grpH_mem.1 hx).1, (grpH_mem.1 hy).1]; exact hlt)
theorem grpH_len (p : S8) (l : Hs) : (grpH p l).length = l.length := by
  unfold grpH keysH
  rw [List.length_map, List.length_mergeSort, List.length_map]
theorem findW_self {s : Ws} (hn : (s.map (·.1)).Nodup) {x : S8 × Hs} (hx : x ∈ s) : ofW s x.1 = x.2 := by
  unfold ofW findW
  induction s with
  | nil => cases hx
  | cons y s ih =>
    rw [List.map_cons, List.nodup_cons] at hn
    rw [List.find?_cons]
    rcases List.mem_cons.1 hx with rfl | hx
    · simp
    · have hne : (y.1 == x.1) = false := by
        rw [beq_eq_false_iff_ne]
        intro e
        exact hn.1 (List.mem_map.2 ⟨x, hx, e.symm⟩)
      rw [hne]
      exact ih hn.2 hx
theorem canW_len {s : Ws} (h : OkW s) : (canW s).length = lenW s := by
  unfold canW lenW
  rw [List.length_flatMap]
  have h1 : (pathsW s).Perm (s.map (·.1)) := List.mergeSort_perm _ _
  rw [(h1.map _).sum_nat, List.map_map]
  congr 1
  refine List.map_congr_left fun x hx => ?_
  show (grpH x.1 (ofW s x.1)).length = _
  rw [grpH_len, findW_self h.1 hx]
/-- The ward's list and the document's agree. -/
structure RelH (s : Ws) (M : List Hr) : Prop where
  ok : OkW s
  ne : ∀ x ∈ s, x.2 ≠ []
  can : M = canW s
  bd : ∀ x ∈ M, kindL x.path = 3 ∧ 0 ≤ x.blk ∧ x.blk ≤ 63 ∧ 1 ≤ x.why ∧ x.why ≤ 3
theorem RelH.sort {s : Ws} {M : List Hr} (h : RelH s M) : SortH M := h.can ▸ canW_sort h.ok
theorem RelH.mem {s : Ws} {M : List Hr} (h : RelH s M) {x : Hr} : x ∈ M ↔ whyW (ofW s x.path) x.blk = some x.why := by rw [h.can]; exact canW_mem
theorem RelH.len {s : Ws} {M : List Hr} (h : RelH s M) : M.length = lenW s := by rw [h.can]; exact canW_len h.ok
theorem RelH.why {s : Ws} {M : List Hr} (h : RelH s M) (p : S8) (k : Int) : whyW (ofW s p) k = none ↔ ∀ x ∈ M, ¬ (x.path = p ∧ x.blk = k) := by
  constructor
  · rintro hn x hx ⟨rfl, rfl⟩
    rw [h.mem.1 hx] at hn
    cases hn
  · intro hx
    cases hw : whyW (ofW s p) k with
    | none => rfl
    | some r => exact absurd ⟨rfl, rfl⟩ (hx ⟨p, k, r⟩ (h.mem.2 hw))
/-- A new agreement. -/
theorem RelH.of {s : Ws} {M : List Hr} (ok : OkW s) (ne : ∀ x ∈ s, x.2 ≠ []) (srt : SortH M) (mem : ∀ x, x ∈ M ↔ whyW (ofW s x.path) x.blk = some x.why) (bd : ∀ x ∈ M, kindL x.path = 3 ∧ 0 ≤ x.blk ∧ x.blk ≤ 63 ∧ 1 ≤ x.why ∧ x.why ≤ 3) : RelH s M :=
  ⟨ok, ne, sortH_ext srt (canW_sort ok) fun x => (mem x).trans canW_mem.symm, bd⟩
end Go.Proofs.YtllpcllgliknpaaGreatDoor
