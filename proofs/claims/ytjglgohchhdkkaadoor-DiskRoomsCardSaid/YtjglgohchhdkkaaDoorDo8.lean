/- do of the program's disk: a change is applied, and waits. -/
import Derived.Test.YtjglgohchhdkkaaDoorMkc8
import Derived.Test.YtjglgohchhdkkaaDoorUsd8
set_option linter.unusedSimpArgs false
set_option linter.unusedVariables false
namespace Go.Proofs.YtjglgohchhdkkaaDoor
open Go Go.RowKit

theorem elCh : ElK 54 60 .nilFunc 1 8 := ⟨by kernel_rfl, by kernel_rfl, rfl, by decide, by decide⟩
/-- S and the blocks from N on below M. -/
def SN (S : Nat → Prop) (N M : Nat) (k : Nat) : Prop := S k ∨ (N ≤ k ∧ k < M)
theorem ClsV.one {w : World} {S : Nat → Prop} {sl : Nat → Hn} {c : Ch} {v : Value} (h : ClsV w S sl c v) : v.oneCell' = true := by
  cases h with
  | write b1 b2 hk hv h1 h2 s1 s2 => rw [hv]; rfl
  | rename b1 b2 hk hv h1 h2 s1 s2 => rw [hv]; rfl
  | remove b1 hk hv h1 s1 => rw [hv]; rfl
section
variable {w w' : World} {S S' : Nat → Prop} {b : Nat} {m : Dk} {mv md : Nat} {pv : Value} {vs : List Value} {sl : Nat → Hn}
/-- One of the maps, and nothing else of the disk, has changed. -/
theorem Dp.ne_map (h : Dp w S b m mv md pv vs sl) {k : Nat} {es : Array MapEntry} {clock : Nat} (hk : w.heap[k]? = some (.map es clock)) : k ≠ b ∧ (∀ g, pv.ownBlock = some g → k ≠ g) ∧ ∀ k2 T cs, w.heap[k2]? = some (.cells cs T (0, 0)) → k2 ≠ k := by
  refine ⟨fun e => ?_, fun g hg e => ?_, fun k2 T cs h2 e => ?_⟩
  · rw [e, h.box] at hk; cases hk
  · obtain ⟨cur, hc⟩ := own_type h.pd.own hg
    rw [e, hc] at hk; cases hk
  · rw [e, hk] at h2; cases h2
theorem Dp.visTo (h : Dp w S b m mv md pv vs sl) (hg : w.grownBy w' (some mv)) {l : List Fl} (hM : MpB w' mv (l.map (entV sl))) (hz : ∀ f ∈ l, f.size = ((bodyL m f).length : Int)) : Dp w' S b { m with seen := l } mv md pv vs sl := by
  obtain ⟨es, clock, hb, _⟩ := h.vis
  obtain ⟨n1, n2, n3⟩ := h.ne_map hb
  have hk : ∀ k, S k → k ≠ mv → w'.heap[k]? = w.heap[k]? := fun k hk hne => hg.block k (h.low k hk) (by simpa using hne)
  exact ⟨(hk b h.sb n1.symm).trans h.box, h.sb, h.sv, h.sd, h.ne, hM, h.dur.keep (hk md h.sd h.ne.symm), h.bod.keep (fun k cur hs hc => hk k hs (n3 k _ _ hc)) (fun _ x => x), h.pd.keep (fun k T cs hs hc _ => hk k hs (n3 k _ _ hc)) (fun _ x => x), ⟨hz, h.sz.safe, h.sz.waits⟩, fun k hk => Nat.lt_of_lt_of_le (h.low k hk) hg.size⟩
theorem Dp.durTo (h : Dp w S b m mv md pv vs sl) (hg : w.grownBy w' (some md)) {l : List Fl} (hM : MpB w' md (l.map (entV sl))) (hz : ∀ f ∈ l, f.size = ((bodyL m f).length : Int)) : Dp w' S b { m with safe := l } mv md pv vs sl := by
  obtain ⟨es, clock, hb, _⟩ := h.dur
  obtain ⟨n1, n2, n3⟩ := h.ne_map hb
  have hk : ∀ k, S k → k ≠ md → w'.heap[k]? = w.heap[k]? := fun k hk hne => hg.block k (h.low k hk) (by simpa using hne)
  exact ⟨(hk b h.sb n1.symm).trans h.box, h.sb, h.sv, h.sd, h.ne, h.vis.keep (hk mv h.sv h.ne), hM, h.bod.keep (fun k cur hs hc => hk k hs (n3 k _ _ hc)) (fun _ x => x), h.pd.keep (fun k T cs hs hc _ => hk k hs (n3 k _ _ hc)) (fun _ x => x), ⟨h.sz.seen, hz, h.sz.waits⟩, fun k hk => Nat.lt_of_lt_of_le (h.low k hk) hg.size⟩
theorem doL_size {m : Dk} {l : List Fl} {c : Ch} (hl : ∀ f ∈ l, f.size = ((bodyL m f).length : Int)) (hc : c.kind = 1 → c.file.size = ((bodyL m c.file).length : Int)) : ∀ f ∈ doL l c, f.size = ((bodyL m f).length : Int) := by
  intro f hf
  unfold doL at hf
  split at hf
  · rename_i hk
    rcases List.mem_append.1 hf with hf | hf
    · exact hl f (without_mem hf)
    · simp at hf
      subst hf
      exact hc hk
  · split at hf
    · exact hl f hf
    · rename_i i hi
      rcases List.mem_append.1 hf with hf | hf
      · exact hl f (without_mem (without_mem hf))
      · simp only [List.mem_singleton] at hf
        subst hf
        have := hl _ (findL_in hi)
        exact this
  · exact hl f (without_mem hf)
theorem enters_wr : ∀ args w, (callFunc 35 args).run Tryd.prog w = .ok (.enter 35 args) w := enters_of Tryd.func35 (by kernel_rfl) rfl
theorem enters_rn : ∀ args w, (callFunc 40 args).run Tryd.prog w = .ok (.enter 40 args) w := enters_of Tryd.func40 (by kernel_rfl) rfl
theorem enters_rm : ∀ args w, (callFunc 41 args).run Tryd.prog w = .ok (.enter 41 args) w := enters_of Tryd.func41 (by kernel_rfl) rfl
/-- A closure applied to a map. -/
theorem cls_any {c : Ch} {v : Value} (h : ClsV w S sl c v) (l : List Fl) (mb : Nat) (hM : MpB w mb (l.map (entV sl))) (hs : ShortF l) (hp : c.file.p.length < 100000) (f : Fn) (fs : Array Value) (cs : Array Value) (hv : v = .func f fs cs) (hmb : ∀ k T cur, w.heap[k]? = some (.cells cur T (0, 0)) → k ≠ mb) :
    ∃ g, f = .func g ∧ fs = #[] ∧ (∀ args u, (callFunc g args).run Tryd.prog u = .ok (.enter g args) u) ∧ Calls Tryd.prog g (#[.map (some mb)] ++ cs) w fun e w' => e = .returned (.tuple #[]) ∧ MpB w' mb ((doL l c).map (entV sl)) ∧ w.grownBy w' (some mb) := by
  cases h with
  | write b1 b2 hk hv1 h1 h2 s1 s2 =>
    rw [hv] at hv1
    injection hv1 with e1 e2 e3
    subst e1 e2 e3
    exact ⟨_, rfl, rfl, enters_wr, wrC_any sl l c b1 b2 mb w hk hM h1 h2 hp hs⟩
  | rename b1 b2 hk hv1 h1 h2 s1 s2 =>
    rw [hv] at hv1
    injection hv1 with e1 e2 e3
    subst e1 e2 e3
    exact ⟨_, rfl, rfl, enters_rn, rnC_any sl l c b1 b2 mb w hk hM h1 h2 hp hs (hmb _ _ _ h1) (hmb _ _ _ h2)⟩
  | remove b1 hk hv1 h1 s1 =>
    rw [hv] at hv1
    injection hv1 with e1 e2 e3
    subst e1 e2 e3
    exact ⟨_, rfl, rfl, enters_rm, rmC_any sl l c b1 mb w hk hM h1⟩
theorem ClsV.func {c : Ch} {v : Value} (h : ClsV w S sl c v) : ∃ g cs, v = .func (.func g) #[] cs := by
  cases h with
  | write b1 b2 hk hv1 h1 h2 s1 s2 => exact ⟨_, _, hv1⟩
  | rename b1 b2 hk hv1 h1 h2 s1 s2 => exact ⟨_, _, hv1⟩
  | remove b1 hk hv1 h1 s1 => exact ⟨_, _, hv1⟩
theorem Dp.ne_pend (h : Dp w S b m mv md pv vs sl) {g : Nat} (hg : pv.ownBlock = some g) : g ≠ b ∧ g ≠ mv ∧ g ≠ md := by
  obtain ⟨cur, hc⟩ := own_type h.pd.own hg
  obtain ⟨e1, c1, hv, _⟩ := h.vis
  obtain ⟨e2, c2, hd, _⟩ := h.dur
  refine ⟨fun e => ?_, fun e => ?_, fun e => ?_⟩
  · rw [e, h.box] at hc
    injection hc with hc
    injection hc with _ hc _
    exact absurd hc (by decide)
  · rw [e, hv] at hc; cases hc
  · rw [e, hd] at hc; cases hc
theorem setCell_box {w : World} {b : Nat} {cs : Array Value} {T : TypeId} (h : w.heap[b]? = some (.cells cs T (0, 0))) (j : Nat) (v : Value) : (w.setCell ⟨b, j, none⟩ v).heap[b]? = some (.cells (cs.setIfInBounds j v) T (0, 0)) := by
  simp only [World.setCell, Array.getElem?_modify, if_true, h, Option.map_some]
  simp
theorem Dp.pendTo {u w3 : World} {v v3 : Value} {c : Ch} (h : Dp u S b m mv md pv vs sl) (hg : u.grownBy w3 pv.ownBlock) (hO : w3.ownsRow 0 60 1 v3 (m.waits.length + 1) (vs ++ [v])) (hloc : v3.ownBlock = pv.ownBlock ∨ v3.ownBlock = some u.heap.size) (hcl : ClsV u S sl c v) (hz : c.kind = 1 → c.file.size = ((bodyL m c.file).length : Int))
    (hS : ∀ k, S k → S' k) (hnew : ∀ k, u.heap.size ≤ k → k < w3.heap.size → S' k) (hlow : ∀ k, S' k → k < w3.heap.size) : Dp (w3.setCell ⟨b, 4, none⟩ v3) S' b { m with waits := m.waits ++ [c] } mv md v3 (vs ++ [v]) sl := by
  have hk3 : ∀ k, S k → pv.ownBlock ≠ some k → w3.heap[k]? = u.heap[k]? := fun k hk hn => hg.block k (h.low k hk) (fun e => hn e.symm)
  have hb3 := (hk3 b h.sb (fun e => (h.ne_pend e).1 rfl)).trans h.box
  have hk : ∀ k, S k → pv.ownBlock ≠ some k → k ≠ b → (w3.setCell ⟨b, 4, none⟩ v3).heap[k]? = u.heap[k]? := fun k hk hn hb => (Below.heap_setCell _ _ _ _ hb).trans (hk3 k hk hn)
  obtain ⟨e1, c1, hv, _⟩ := id h.vis
  obtain ⟨e2, c2, hd, _⟩ := id h.dur
  have nb : ∀ k T cs, u.heap[k]? = some (.cells cs T (0, 0)) → (T = 9 ∨ T = 64 ∨ T = 5) → k ≠ b ∧ pv.ownBlock ≠ some k := fun k T cs hc hT => by
    refine ⟨fun e => ?_, fun e => ?_⟩
    · rw [e, h.box] at hc
      injection hc with hc
      injection hc with _ hc _
      rcases hT with rfl | rfl | rfl <;> exact absurd hc (by decide)
    · obtain ⟨cur, hc2⟩ := own_type h.pd.own e
      rw [hc] at hc2
      injection hc2 with hc2
      injection hc2 with _ hc2 _
      rcases hT with rfl | rfl | rfl <;> exact absurd hc2 (by decide)
  have hcls : ∀ {c : Ch} {x : Value}, ClsV u S sl c x → ClsV (w3.setCell ⟨b, 4, none⟩ v3) S' sl c x := fun hx => hx.keep (fun k T cs hs hc hT => by
    obtain ⟨n1, n2⟩ := nb k T cs hc (by rcases hT with x | x; exact .inl x; exact .inr (.inl x))
    exact hk k hs n2 n1) hS
  have hvb : ∀ g, v3.ownBlock = some g → g ≠ b ∧ S' g := fun g hgv => by
    rcases hloc with e | e
    · rw [e] at hgv
      exact ⟨(h.ne_pend hgv).1, hS _ (h.pd.in_ g hgv)⟩
    · rw [e] at hgv
      injection hgv with hgv
      refine ⟨?_, hnew g (by omega) (hO.lt g (by rw [e, hgv])).2⟩
      have := h.lt
      omega
  refine ⟨?_, hS _ h.sb, hS _ h.sv, hS _ h.sd, h.ne, h.vis.keep (hk mv h.sv (fun e => (h.ne_pend e).2.1 rfl) ?_), h.dur.keep (hk md h.sd (fun e => (h.ne_pend e).2.2 rfl) ?_), h.bod.keep (fun k cur hs hc => ?_) hS, ⟨?_, fun g hgv => (hvb g hgv).2, fun i hi => ?_⟩, ⟨h.sz.seen, h.sz.safe, fun x hx => ?_⟩, fun k hk => by simpa using hlow k hk⟩
  · exact setCell_box hb3 4 v3
  · intro e; rw [e, h.box] at hv; cases hv
  · intro e; rw [e, h.box] at hd; cases hd
  · obtain ⟨n1, n2⟩ := nb k _ cur hc (.inr (.inr rfl))
    exact hk k hs n2 n1
  · have := ownsRow_setCell_other hO (a := ⟨b, 4, none⟩) (fun e => (hvb b e).1 rfl) v3
    rw [List.length_append]
    exact this
  · have hvl : vs.length = m.waits.length := by have := h.pd.own.1; omega
    by_cases hi2 : i < m.waits.length
    · obtain ⟨x, e, hx⟩ := h.pd.cls i hi2
      refine ⟨x, by rw [List.getElem?_append_left (by omega)]; exact e, ?_⟩
      have e2 : (m.waits ++ [c])[i] = m.waits[i] := List.getElem_append_left hi2
      show ClsV _ _ _ ((m.waits ++ [c])[i]) _
      rw [e2]
      exact hcls hx
    · have hie : i = m.waits.length := by
        have : i < (m.waits ++ [c]).length := hi
        rw [List.length_append] at this
        simp at this
        omega
      subst hie
      refine ⟨v, by rw [List.getElem?_append_right (by omega), hvl]; simp, ?_⟩
      have e2 : (m.waits ++ [c])[m.waits.length] = c := by simp
      show ClsV _ _ _ ((m.waits ++ [c])[m.waits.length]) _
      rw [e2]
      exact hcls hcl
  · rcases List.mem_append.1 hx with hx | hx
    · exact h.sz.waits x hx
    · simp at hx
      rw [hx]
      exact hz
set_option maxRecDepth 100000 in
set_option maxHeartbeats 4000000 in
theorem do_any {v : Value} {c : Ch} (h : Dp w S b m mv md pv vs sl) (hok : DkOk 300 m) (hcl : ClsV w S sl c v) (hcp : c.file.p.length < 100000) (hz : c.kind = 1 → c.file.size = ((bodyL m c.file).length : Int)) : Calls Tryd.prog 22 #[.pointer (some ⟨b, 0, none⟩), v] w fun e w' => e = .returned (.tuple #[]) ∧ (∃ pv2 vs2, Dp w' (SN S w.heap.size w'.heap.size) b (changeL m c) mv md pv2 vs2 sl) ∧ Kq8 S w w' := by
  obtain ⟨es, clock, hvb, _⟩ := id h.vis
  have HNE := Lib.hid (h.ne_map hvb)
  obtain ⟨g, cs, rfl⟩ := hcl.func
  obtain ⟨g2, e1, _, heg, hC⟩ := cls_any hcl m.seen mv h.vis hok.shS hcp _ _ _ rfl HNE.out.2.2
  injection e1 with e1
  subst e1
  have HC := Lib.hid hC
  have H := Lib.hid h
  have HCL := Lib.hid hcl
  have HZ := Lib.hid hz
  have HWL := Lib.hid (Nat.le_trans (Nat.le_add_left m.waits.length m.safe.length) hok.both)
  obtain ⟨pq, pc, hpv⟩ := own_slice h.pd.own
  have HPV := Lib.hid hpv
  have c2 := h.cell 2
  simp at c2
  clear h hC hcl hok hz hpv hvb
  go_enter Tryd.func22, Tryd.ntmps22
  go_wp2_with fail
  refine HC.out.mono ?_
  rintro e w1 ⟨rfl, hM, hg⟩
  have h1 := H.out.visTo hg hM (doL_size H.out.sz.seen HZ.out)
  have H1 := Lib.hid h1
  have HG1 := Lib.hid hg
  have hBA := (Below.refl w1.heap.size w1).alloc (Nat.le_refl _) (.cells #[.func (.func g) #[] cs] 60)
  have H2 := Lib.hid (h1.of_below hBA)
  have c4 := h1.cell 4
  rw [HPV.out] at c4
  simp at c4
  have c4b := (h1.of_below hBA).cell 4
  rw [HPV.out] at c4b
  simp at c4b
  have HLM := Lib.hid (LsC.made w1 [.func (.func g) #[] cs] 60)
  have HBA := Lib.hid hBA
  clear hM hg h1 c2 hBA
  have HCL2 : Hid (ClsV (w1.alloc (.cells #[.func (.func g) #[] cs] 60)) S sl c (.func (.func g) #[] cs)) := Lib.hid (HCL.out.keep (fun k T cs hs hc _ => by
    have h1 := H.out.low k hs
    rw [HBA.out.block k (Nat.lt_of_lt_of_le h1 HG1.out.size), HG1.out.block k h1 (by simpa using HNE.out.2.2 k T cs hc)]) (fun _ x => x))
  have HSU := Lib.hid (Nat.le_trans HG1.out.size HBA.out.size)
  have HO2 : Hid ((w1.alloc (.cells #[.func (.func g) #[] cs] 60)).ownsRow 0 60 1 pv m.waits.length vs) := Lib.hid H2.out.pd.own
  go_wp2_with (first
    | (refine wpl_appendK (v := pv) elCh _ rfl _ _ rfl 0 HPV.out.symm HO2.out (some ⟨w1.heap.size, 0, none⟩) 1 1 [.func (.func g) #[] cs] rfl rfl HLM.out (fun e => by cases e) (fun u hu => by rw [List.mem_singleton.1 hu]; rfl) (by have := HWL.out; omega) (Nat.zero_le _) ?_
       rintro v3 w3 hO3 hg3 hl3
       obtain ⟨q3, c3, hv3⟩ := own_slice hO3
       subst hv3
       have HD3 := Lib.hid (H2.out.pendTo (S' := SN S w.heap.size w3.heap.size) hg3 hO3 hl3 HCL2.out HZ.out (fun k hk => .inl hk) (fun k h1 h2 => .inr ⟨Nat.le_trans HSU.out h1, h2⟩) (fun k hk => by
         rcases hk with x | x
         · exact Nat.lt_of_lt_of_le (H2.out.low k x) hg3.size
         · exact x.2))
       have c43 : w3.cell? ⟨b, 4, none⟩ = some (.slice pq m.waits.length pc) := (World.cell?_of_block (hg3.block b H2.out.lt (fun e => (H2.out.ne_pend e.symm).1 rfl))).trans c4b
       have f43 : w3.frozen? ⟨b, 4, none⟩ = false := (World.frozen?_of_block (hg3.block b H2.out.lt (fun e => (H2.out.ne_pend e.symm).1 rfl))).trans (H2.out.free 4)
       have HG3 := Lib.hid hg3
       clear hO3 hg3 hl3)
    | go_in)
  go_end0
  have hsz : (w3.setCell ⟨b, 4, none⟩ (.slice q3 (m.waits.length + 1) c3)).heap.size = w3.heap.size := by simp
  refine ⟨rfl, ⟨_, _, by rw [hsz]; exact HD3.out⟩, ?_⟩
  have q1 := HG1.out
  have q2 := HBA.out
  have q3 := HG3.out
  refine ⟨q3.os.trans (q2.os.trans q1.os), q3.tape.trans (q2.tape.trans q1.tape), q3.output.trans (q2.output.trans q1.output), by rw [hsz]; exact Nat.le_trans HSU.out q3.size, fun k hk hn => ?_⟩
  have hk1 : k < w1.heap.size := Nat.lt_of_lt_of_le hk q1.size
  rw [Below.heap_setCell _ _ _ _ (fun e => hn (by rw [e]; exact H.out.sb)), q3.block k (Nat.lt_of_lt_of_le hk1 q2.size) (fun e => hn (H.out.pd.in_ k e.symm)), q2.block k hk1, q1.block k hk (fun e => hn (by injection e with e; rw [e]; exact H.out.sv))]
end
end Go.Proofs.YtjglgohchhdkkaaDoor
