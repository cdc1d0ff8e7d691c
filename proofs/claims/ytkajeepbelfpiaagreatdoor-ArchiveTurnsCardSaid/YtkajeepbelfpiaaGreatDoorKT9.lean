/- Merged texts: Do8, Rmv8, Nsy8, Cra8, Rot8, Rfs8, Wri8, Pat8, Psh12, All11, Ent12, RngM12, Seq11. -/
import Derived.Test.YtkajeepbelfpiaaGreatDoorKT8
import Derived.Test.YtkajeepbelfpiaaGreatDoorKT3
import Derived.BigQuiet
import Derived.Deep.RegionHeld3
import Derived.Sort.KeysCollected
import Derived.Test.YtkajeepbelfpiaaGreatDoorKT6
import Derived.Test.YtkajeepbelfpiaaGreatDoorKT1
import Derived.Test.YtkajeepbelfpiaaGreatDoorCuts
import Derived.StillTailTactics
import Derived.Test.YtkajeepbelfpiaaGreatDoorKT2
set_option linter.unusedSimpArgs false
set_option linter.unusedVariables false
/- do of the program's disk: a change is applied, and waits. -/
set_option maxRecDepth 100000
namespace Go.Proofs.YtkajeepbelfpiaaGreatDoor
open Go Go.RowKit
attribute [-go_sem] Sha.exec_store

theorem elCh : ElK 128 193 .nilFunc 1 8 := ⟨by kernel_rfl, by kernel_rfl, rfl, by decide, by decide⟩
/-- S and the blocks from N on below M. -/
def SN (S : Nat → Prop) (N M : Nat) (k : Nat) : Prop := S k ∨ (N ≤ k ∧ k < M)
theorem ClsV.one {w : World} {S : Nat → Prop} {sl : Nat → Hn} {c : Ch} {v : Value} (h : ClsV w S sl c v) : v.oneCell' = true := by
  cases h with
  | write b1 b2 hk hv h1 h2 s1 s2 => rw [hv]; rfl
  | rename b1 b2 hk hv h1 h2 s1 s2 => rw [hv]; rfl
  | remove b1 hk hv h1 s1 => rw [hv]; rfl
section
variable {w w' : World} {S S' : Nat → Prop} {b : Nat} {m : Dk} {mv md : Nat} {pv : Value} {vs : List Value} {sl : Nat → Hn}
/-- One of the maps, and nothing else of the disk, has changed. -/
theorem Dp.ne_map (h : Dp w S b m mv md pv vs sl) {k : Nat} {es : Array MapEntry} {clock : Nat} (hk : w.heap[k]? = some (.map es clock)) : k ≠ b ∧ (∀ g, pv.ownBlock = some g → k ≠ g) ∧ ∀ k2 T cs, w.heap[k2]? = some (.cells cs T (0, 0)) → k2 ≠ k := by
  refine ⟨fun e => ?_, fun g hg e => ?_, fun k2 T cs h2 e => ?_⟩
  · rw [e, h.box] at hk; cases hk
  · obtain ⟨cur, hc⟩ := own_type h.pd.own hg
    rw [e, hc] at hk; cases hk
  · rw [e, hk] at h2; cases h2
theorem Dp.visTo (h : Dp w S b m mv md pv vs sl) (hg : w.grownBy w' (some mv)) {l : List Fl} (hM : MpB w' mv (l.map (entV sl))) (hz : ∀ f ∈ l, f.size = ((bodyD m f).length : Int)) : Dp w' S b { m with seen := l } mv md pv vs sl := by
  obtain ⟨es, clock, hb, _⟩ := h.vis
  obtain ⟨n1, n2, n3⟩ := h.ne_map hb
  have hk : ∀ k, S k → k ≠ mv → w'.heap[k]? = w.heap[k]? := fun k hk hne => hg.block k (h.low k hk) (by simpa using hne)
  exact ⟨(hk b h.sb n1.symm).trans h.box, h.sb, h.sv, h.sd, h.ne, hM, h.dur.keep (hk md h.sd h.ne.symm), h.bod.keep (fun k cur hs hc => hk k hs (n3 k _ _ hc)) (fun _ x => x), h.pd.keep (fun k T cs hs hc _ => hk k hs (n3 k _ _ hc)) (fun _ x => x), ⟨hz, h.sz.safe, h.sz.waits⟩, fun k hk => Nat.lt_of_lt_of_le (h.low k hk) hg.size⟩
theorem doL_size {m : Dk} {l : List Fl} {c : Ch} (hl : ∀ f ∈ l, f.size = ((bodyD m f).length : Int)) (hc : c.kind = 1 → c.file.size = ((bodyD m c.file).length : Int)) : ∀ f ∈ doL l c, f.size = ((bodyD m f).length : Int) := by
  intro f hf
  unfold doL at hf
  split at hf
  · rename_i hk
    rcases List.mem_append.1 hf with hf | hf
    · exact hl f (without_mem hf)
    · simp at hf
      subst hf
      exact hc hk
  · split at hf
    · exact hl f hf
    · rename_i i hi
      rcases List.mem_append.1 hf with hf | hf
      · exact hl f (without_mem (without_mem hf))
      · simp only [List.mem_singleton] at hf
        subst hf
        have := hl _ (findL_in hi)
        exact this
  · exact hl f (without_mem hf)
theorem enters_wr : ∀ args w, (callFunc 162 args).run Tryz.prog w = .ok (.enter 162 args) w := enters_of Tryz.func162 (by kernel_rfl) rfl
theorem enters_rn : ∀ args w, (callFunc 167 args).run Tryz.prog w = .ok (.enter 167 args) w := enters_of Tryz.func167 (by kernel_rfl) rfl
theorem enters_rm : ∀ args w, (callFunc 168 args).run Tryz.prog w = .ok (.enter 168 args) w := enters_of Tryz.func168 (by kernel_rfl) rfl
/-- A closure applied to a map. -/
theorem cls_any {c : Ch} {v : Value} (h : ClsV w S sl c v) (l : List Fl) (mb : Nat) (hM : MpB w mb (l.map (entV sl))) (hs : ShortF l) (hp : c.file.p.length < 100000) (f : Fn) (fs : Array Value) (cs : Array Value) (hv : v = .func f fs cs) (hmb : ∀ k T cur, w.heap[k]? = some (.cells cur T (0, 0)) → k ≠ mb) :
    ∃ g, f = .func g ∧ fs = #[] ∧ (∀ args u, (callFunc g args).run Tryz.prog u = .ok (.enter g args) u) ∧ Calls Tryz.prog g (#[.map (some mb)] ++ cs) w fun e w' => e = .returned (.tuple #[]) ∧ MpB w' mb ((doL l c).map (entV sl)) ∧ w.grownBy w' (some mb) := by
  cases h with
  | write b1 b2 hk hv1 h1 h2 s1 s2 =>
    rw [hv] at hv1
    injection hv1 with e1 e2 e3
    subst e1 e2 e3
    exact ⟨_, rfl, rfl, enters_wr, wrC_any sl l c b1 b2 mb w hk hM h1 h2 hp hs⟩
  | rename b1 b2 hk hv1 h1 h2 s1 s2 =>
    rw [hv] at hv1
    injection hv1 with e1 e2 e3
    subst e1 e2 e3
    exact ⟨_, rfl, rfl, enters_rn, rnC_any sl l c b1 b2 mb w hk hM h1 h2 hp hs (hmb _ _ _ h1) (hmb _ _ _ h2)⟩
  | remove b1 hk hv1 h1 s1 =>
    rw [hv] at hv1
    injection hv1 with e1 e2 e3
    subst e1 e2 e3
    exact ⟨_, rfl, rfl, enters_rm, rmC_any sl l c b1 mb w hk hM h1⟩
theorem ClsV.func {c : Ch} {v : Value} (h : ClsV w S sl c v) : ∃ g cs, v = .func (.func g) #[] cs := by
  cases h with
  | write b1 b2 hk hv1 h1 h2 s1 s2 => exact ⟨_, _, hv1⟩
  | rename b1 b2 hk hv1 h1 h2 s1 s2 => exact ⟨_, _, hv1⟩
  | remove b1 hk hv1 h1 s1 => exact ⟨_, _, hv1⟩
theorem Dp.ne_pend (h : Dp w S b m mv md pv vs sl) {g : Nat} (hg : pv.ownBlock = some g) : g ≠ b ∧ g ≠ mv ∧ g ≠ md := by
  obtain ⟨cur, hc⟩ := own_type h.pd.own hg
  obtain ⟨e1, c1, hv, _⟩ := h.vis
  obtain ⟨e2, c2, hd, _⟩ := h.dur
  refine ⟨fun e => ?_, fun e => ?_, fun e => ?_⟩
  · rw [e, h.box] at hc
    injection hc with hc
    injection hc with _ hc _
    exact absurd hc (by decide)
  · rw [e, hv] at hc; cases hc
  · rw [e, hd] at hc; cases hc
theorem setCell_box {w : World} {b : Nat} {cs : Array Value} {T : TypeId} (h : w.heap[b]? = some (.cells cs T (0, 0))) (j : Nat) (v : Value) : (w.setCell ⟨b, j, none⟩ v).heap[b]? = some (.cells (cs.setIfInBounds j v) T (0, 0)) := by
  simp only [World.setCell, Array.getElem?_modify, if_true, h, Option.map_some]
  simp
theorem Dp.pendTo {u w3 : World} {v v3 : Value} {c : Ch} (h : Dp u S b m mv md pv vs sl) (hg : u.grownBy w3 pv.ownBlock) (hO : w3.ownsRow 0 193 1 v3 (m.waits.length + 1) (vs ++ [v])) (hloc : v3.ownBlock = pv.ownBlock ∨ v3.ownBlock = some u.heap.size) (hcl : ClsV u S sl c v) (hz : c.kind = 1 → c.file.size = ((bodyD m c.file).length : Int))
    (hS : ∀ k, S k → S' k) (hnew : ∀ k, u.heap.size ≤ k → k < w3.heap.size → S' k) (hlow : ∀ k, S' k → k < w3.heap.size) : Dp (w3.setCell ⟨b, 4, none⟩ v3) S' b { m with waits := m.waits ++ [c] } mv md v3 (vs ++ [v]) sl := by
  have hk3 : ∀ k, S k → pv.ownBlock ≠ some k → w3.heap[k]? = u.heap[k]? := fun k hk hn => hg.block k (h.low k hk) (fun e => hn e.symm)
  have hb3 := (hk3 b h.sb (fun e => (h.ne_pend e).1 rfl)).trans h.box
  have hk : ∀ k, S k → pv.ownBlock ≠ some k → k ≠ b → (w3.setCell ⟨b, 4, none⟩ v3).heap[k]? = u.heap[k]? := fun k hk hn hb => (Below.heap_setCell _ _ _ _ hb).trans (hk3 k hk hn)
  obtain ⟨e1, c1, hv, _⟩ := id h.vis
  obtain ⟨e2, c2, hd, _⟩ := id h.dur
  have nb : ∀ k T cs, u.heap[k]? = some (.cells cs T (0, 0)) → (T = 9 ∨ T = 196 ∨ T = 5) → k ≠ b ∧ pv.ownBlock ≠ some k := fun k T cs hc hT => by
    refine ⟨fun e => ?_, fun e => ?_⟩
    · rw [e, h.box] at hc
      injection hc with hc
      injection hc with _ hc _
      rcases hT with rfl | rfl | rfl <;> exact absurd hc (by decide)
    · obtain ⟨cur, hc2⟩ := own_type h.pd.own e
      rw [hc] at hc2
      injection hc2 with hc2
      injection hc2 with _ hc2 _
      rcases hT with rfl | rfl | rfl <;> exact absurd hc2 (by decide)
  have hcls : ∀ {c : Ch} {x : Value}, ClsV u S sl c x → ClsV (w3.setCell ⟨b, 4, none⟩ v3) S' sl c x := fun hx => hx.keep (fun k T cs hs hc hT => by
    obtain ⟨n1, n2⟩ := nb k T cs hc (by rcases hT with x | x; exact .inl x; exact .inr (.inl x))
    exact hk k hs n2 n1) hS
  have hvb : ∀ g, v3.ownBlock = some g → g ≠ b ∧ S' g := fun g hgv => by
    rcases hloc with e | e
    · rw [e] at hgv
      exact ⟨(h.ne_pend hgv).1, hS _ (h.pd.in_ g hgv)⟩
    · rw [e] at hgv
      injection hgv with hgv
      refine ⟨?_, hnew g (by omega) (hO.lt g (by rw [e, hgv])).2⟩
      have := h.lt
      omega
  refine ⟨?_, hS _ h.sb, hS _ h.sv, hS _ h.sd, h.ne, h.vis.keep (hk mv h.sv (fun e => (h.ne_pend e).2.1 rfl) ?_), h.dur.keep (hk md h.sd (fun e => (h.ne_pend e).2.2 rfl) ?_), h.bod.keep (fun k cur hs hc => ?_) hS, ⟨?_, fun g hgv => (hvb g hgv).2, fun i hi => ?_⟩, ⟨h.sz.seen, h.sz.safe, fun x hx => ?_⟩, fun k hk => by simpa using hlow k hk⟩
  · exact setCell_box hb3 4 v3
  · intro e; rw [e, h.box] at hv; cases hv
  · intro e; rw [e, h.box] at hd; cases hd
  · obtain ⟨n1, n2⟩ := nb k _ cur hc (.inr (.inr rfl))
    exact hk k hs n2 n1
  · have := ownsRow_setCell_other hO (a := ⟨b, 4, none⟩) (fun e => (hvb b e).1 rfl) v3
    rw [List.length_append]
    exact this
  · have hvl : vs.length = m.waits.length := by have := h.pd.own.1; omega
    by_cases hi2 : i < m.waits.length
    · obtain ⟨x, e, hx⟩ := h.pd.cls i hi2
      refine ⟨x, by rw [List.getElem?_append_left (by omega)]; exact e, ?_⟩
      have e2 : (m.waits ++ [c])[i] = m.waits[i] := List.getElem_append_left hi2
      show ClsV _ _ _ ((m.waits ++ [c])[i]) _
      rw [e2]
      exact hcls hx
    · have hie : i = m.waits.length := by
        have : i < (m.waits ++ [c]).length := hi
        rw [List.length_append] at this
        simp at this
        omega
      subst hie
      refine ⟨v, by rw [List.getElem?_append_right (by omega), hvl]; simp, ?_⟩
      have e2 : (m.waits ++ [c])[m.waits.length] = c := by simp
      show ClsV _ _ _ ((m.waits ++ [c])[m.waits.length]) _
      rw [e2]
      exact hcls hcl
  · rcases List.mem_append.1 hx with hx | hx
    · exact h.sz.waits x hx
    · simp at hx
      rw [hx]
      exact hz
set_option maxRecDepth 100000 in
set_option maxHeartbeats 4000000 in
theorem do_any {v : Value} {c : Ch} (h : Dp w S b m mv md pv vs sl) (hok : DkOk 300 m) (hcl : ClsV w S sl c v) (hcp : c.file.p.length < 100000) (hz : c.kind = 1 → c.file.size = ((bodyD m c.file).length : Int)) : Calls Tryz.prog 117 #[.pointer (some ⟨b, 0, none⟩), v] w fun e w' => e = .returned (.tuple #[]) ∧ (∃ pv2 vs2, Dp w' (SN S w.heap.size w'.heap.size) b (changeL m c) mv md pv2 vs2 sl) ∧ Kq8 S w w' := by
  obtain ⟨es, clock, hvb, _⟩ := id h.vis
  have HNE := Lib.hid (h.ne_map hvb)
  obtain ⟨g, cs, rfl⟩ := hcl.func
  obtain ⟨g2, e1, _, heg, hC⟩ := cls_any hcl m.seen mv h.vis hok.shS hcp _ _ _ rfl HNE.out.2.2
  injection e1 with e1
  subst e1
  have HC := Lib.hid hC
  have H := Lib.hid h
  have HCL := Lib.hid hcl
  have HZ := Lib.hid hz
  have HWL := Lib.hid (Nat.le_trans (Nat.le_add_left m.waits.length m.safe.length) hok.both)
  obtain ⟨pq, pc, hpv⟩ := own_slice h.pd.own
  have HPV := Lib.hid hpv
  have c2 := h.cell 2
  simp at c2
  clear h hC hcl hok hz hpv hvb
  go_enter Tryz.func117, Tryz.ntmps117
  go_wp2_with fail
  refine HC.out.mono ?_
  rintro e w1 ⟨rfl, hM, hg⟩
  have h1 := H.out.visTo hg hM (doL_size H.out.sz.seen HZ.out)
  have H1 := Lib.hid h1
  have HG1 := Lib.hid hg
  have hBA := (Below.refl w1.heap.size w1).alloc (Nat.le_refl _) (.cells #[.func (.func g) #[] cs] 193)
  have H2 := Lib.hid (h1.of_below hBA)
  have c4 := h1.cell 4
  rw [HPV.out] at c4
  simp at c4
  have c4b := (h1.of_below hBA).cell 4
  rw [HPV.out] at c4b
  simp at c4b
  have HLM := Lib.hid (LsC.made w1 [.func (.func g) #[] cs] 193)
  have HBA := Lib.hid hBA
  clear hM hg h1 c2 hBA
  have HCL2 : Hid (ClsV (w1.alloc (.cells #[.func (.func g) #[] cs] 193)) S sl c (.func (.func g) #[] cs)) := Lib.hid (HCL.out.keep (fun k T cs hs hc _ => by
    have h1 := H.out.low k hs
    rw [HBA.out.block k (Nat.lt_of_lt_of_le h1 HG1.out.size), HG1.out.block k h1 (by simpa using HNE.out.2.2 k T cs hc)]) (fun _ x => x))
  have HSU := Lib.hid (Nat.le_trans HG1.out.size HBA.out.size)
  have HO2 : Hid ((w1.alloc (.cells #[.func (.func g) #[] cs] 193)).ownsRow 0 193 1 pv m.waits.length vs) := Lib.hid H2.out.pd.own
  go_wp2_with (first
    | (refine wpl_appendK (v := pv) elCh _ rfl _ _ rfl 0 HPV.out.symm HO2.out (some ⟨w1.heap.size, 0, none⟩) 1 1 [.func (.func g) #[] cs] rfl rfl HLM.out (fun e => by cases e) (fun u hu => by rw [List.mem_singleton.1 hu]; rfl) (by have := HWL.out; omega) (Nat.zero_le _) ?_
       rintro v3 w3 hO3 hg3 hl3
       obtain ⟨q3, c3, hv3⟩ := own_slice hO3
       subst hv3
       have HD3 := Lib.hid (H2.out.pendTo (S' := SN S w.heap.size w3.heap.size) hg3 hO3 hl3 HCL2.out HZ.out (fun k hk => .inl hk) (fun k h1 h2 => .inr ⟨Nat.le_trans HSU.out h1, h2⟩) (fun k hk => by
         rcases hk with x | x
         · exact Nat.lt_of_lt_of_le (H2.out.low k x) hg3.size
         · exact x.2))
       have c43 : w3.cell? ⟨b, 4, none⟩ = some (.slice pq m.waits.length pc) := (World.cell?_of_block (hg3.block b H2.out.lt (fun e => (H2.out.ne_pend e.symm).1 rfl))).trans c4b
       have f43 : w3.frozen? ⟨b, 4, none⟩ = false := (World.frozen?_of_block (hg3.block b H2.out.lt (fun e => (H2.out.ne_pend e.symm).1 rfl))).trans (H2.out.free 4)
       have HG3 := Lib.hid hg3
       clear hO3 hg3 hl3)
    | go_in)
  go_end0
  have hsz : (w3.setCell ⟨b, 4, none⟩ (.slice q3 (m.waits.length + 1) c3)).heap.size = w3.heap.size := by simp
  refine ⟨rfl, ⟨_, _, by rw [hsz]; exact HD3.out⟩, ?_⟩
  have q1 := HG1.out
  have q2 := HBA.out
  have q3 := HG3.out
  refine ⟨q3.os.trans (q2.os.trans q1.os), q3.tape.trans (q2.tape.trans q1.tape), q3.output.trans (q2.output.trans q1.output), by rw [hsz]; exact Nat.le_trans HSU.out q3.size, fun k hk hn => ?_⟩
  have hk1 : k < w1.heap.size := Nat.lt_of_lt_of_le hk q1.size
  rw [Below.heap_setCell _ _ _ _ (fun e => hn (by rw [e]; exact H.out.sb)), q3.block k (Nat.lt_of_lt_of_le hk1 q2.size) (fun e => hn (H.out.pd.in_ k e.symm)), q2.block k hk1, q1.block k hk (fun e => hn (by injection e with e; rw [e]; exact H.out.sv))]
end
end Go.Proofs.YtkajeepbelfpiaaGreatDoor
/- Remove, Rename of the program's disk. -/
set_option maxRecDepth 100000
namespace Go.Proofs.YtkajeepbelfpiaaGreatDoor
open Go Go.RowKit
attribute [-go_sem] Sha.exec_store

/-- What a call leaves behind. -/
def DPost (S : Nat → Prop) (b : Nat) (w : World) (m : Dk) (w' : World) : Prop := (∃ mv md pv vs sl, Dp w' (SN S w.heap.size w'.heap.size) b m mv md pv vs sl) ∧ Kq8 S w w'
section
variable {w w' w2 w3 : World} {S S' : Nat → Prop} {b : Nat} {m : Dk} {mv md : Nat} {pv : Value} {vs : List Value} {sl : Nat → Hn}
theorem SN.low {N M : Nat} (hl : ∀ k, S k → k < N) (hNM : N ≤ M) : ∀ k, SN S N M k → k < M := fun k hk => by
  rcases hk with x | x
  · exact Nat.lt_of_lt_of_le (hl k x) hNM
  · exact x.2
theorem Dp.wide (h : Dp w S b m mv md pv vs sl) (hB : Below w.heap.size w w') : Dp w' (SN S w.heap.size w'.heap.size) b m mv md pv vs sl :=
  h.keep (fun k hk => hB.block k (h.low k hk)) (fun k hk => .inl hk) (SN.low h.low hB.size)
theorem DPost.same (h : Dp w S b m mv md pv vs sl) (hB : Below w.heap.size w w') : DPost S b w m w' := ⟨⟨mv, md, pv, vs, sl, h.wide hB⟩, Kq8.of_below hB⟩
theorem SN.join {N M K : Nat} (h1 : N ≤ M) (h2 : M ≤ K) (k : Nat) (h : SN (SN S N M) M K k) : SN S N K k := by
  rcases h with (x | x) | x
  · exact .inl x
  · exact .inr ⟨x.1, Nat.lt_of_lt_of_le x.2 h2⟩
  · exact .inr ⟨Nat.le_trans h1 x.1, x.2⟩
theorem DPost.after (hB : Below w.heap.size w w2) (hl : ∀ k, S k → k < w.heap.size) (h : DPost (SN S w.heap.size w2.heap.size) b w2 m w3) : DPost S b w m w3 := by
  obtain ⟨⟨mv, md, pv, vs, sl, hd⟩, hk⟩ := h
  refine ⟨⟨mv, md, pv, vs, sl, hd.keep (fun _ _ => rfl) (fun k hk2 => SN.join hB.size hk.size k hk2) (SN.low hl (Nat.le_trans hB.size hk.size))⟩, ?_⟩
  exact ⟨hk.os.trans hB.os, hk.tape.trans hB.tape, hk.output.trans hB.output, Nat.le_trans hB.size hk.size, fun k hk1 hn => by
    rw [hk.block k (Nat.lt_of_lt_of_le hk1 hB.size) (fun x => by rcases x with x | x; exact hn x; omega)]
    exact hB.block k hk1⟩
theorem ClsV.of_below {c : Ch} {v : Value} (h : ClsV w S sl c v) (hl : ∀ k, S k → k < w.heap.size) (hB : Below w.heap.size w w') (hS : ∀ k, S k → S' k) : ClsV w' S' sl c v :=
  h.keep (fun k T cs hs _ _ => hB.block k (hl k hs)) hS
end
end Go.Proofs.YtkajeepbelfpiaaGreatDoor
/- New and Sync of the program's disk. -/
set_option maxRecDepth 100000
namespace Go.Proofs.YtkajeepbelfpiaaGreatDoor
open Go Go.RowKit
attribute [-go_sem] Sha.exec_store

section
variable {w w' : World} {S S' : Nat → Prop} {b : Nat} {m : Dk} {mv md : Nat} {pv : Value} {vs : List Value} {sl : Nat → Hn}
theorem own_nil0 (w : World) (E : TypeId) (k : Nat) : w.ownsRow 0 E k (.slice none 0 0) 0 [] := ⟨by simp, .inl ⟨rfl, rfl⟩⟩
/-- A disk whose visible state alone counts. -/
structure Dq (w : World) (S : Nat → Prop) (b : Nat) (m : Dk) (mv : Nat) (x3 : Option Nat) (pq : Option Addr) (pn pc : Nat) (sl : Nat → Hn) : Prop where
  box : w.heap[b]? = some (.cells #[.int .i64 m.room, .int .i64 m.count, .map (some mv), .map x3, .slice pq pn pc] 130 (0, 0))
  sb : S b
  sv : S mv
  vis : MpB w mv (m.seen.map (entV sl))
  bod : BdOk w S m.bodies sl
  sz : ∀ f ∈ m.seen, f.size = ((bodyD m f).length : Int)
  low : ∀ k, S k → k < w.heap.size
theorem Dp.q (h : Dp w S b m mv md pv vs sl) : ∃ pq pn pc, Dq w S b m mv (some md) pq pn pc sl := by
  obtain ⟨pq, pc, hpv⟩ := own_slice h.pd.own
  exact ⟨pq, _, pc, by rw [← hpv]; exact h.box, h.sb, h.sv, h.vis, h.bod, h.sz.seen, h.low⟩
variable {x3 : Option Nat} {pq : Option Addr} {pn pc : Nat}
theorem Dq.cell (h : Dq w S b m mv x3 pq pn pc sl) (j : Nat) : w.cell? ⟨b, j, none⟩ = [Value.int .i64 m.room, .int .i64 m.count, .map (some mv), .map x3, .slice pq pn pc][j]? := by
  unfold World.cell?
  rw [h.box]
  simp
theorem Dq.free (h : Dq w S b m mv x3 pq pn pc sl) (j : Nat) : w.frozen? ⟨b, j, none⟩ = false := by
  unfold World.frozen?
  rw [h.box]
  simp
theorem Dq.syncTo (h : Dq w S b m mv x3 pq pn pc sl) {es : Array MapEntry} {clock : Nat} (hb : w.heap[mv]? = some (.map es clock)) :
    Dp (((w.alloc (.map es clock)).setCell ⟨b, 3, none⟩ (.map (some w.heap.size))).setCell ⟨b, 4, none⟩ (.slice none 0 0)) (SN S w.heap.size (w.heap.size + 1)) b (syncL m) mv w.heap.size (.slice none 0 0) [] sl ∧ Kq8 S w (((w.alloc (.map es clock)).setCell ⟨b, 3, none⟩ (.map (some w.heap.size))).setCell ⟨b, 4, none⟩ (.slice none 0 0)) := by
  have hB := (Below.refl w.heap.size w).alloc (Nat.le_refl _) (.map es clock)
  have hbl := h.low b h.sb
  have hk : ∀ k, k ≠ b → (((w.alloc (.map es clock)).setCell ⟨b, 3, none⟩ (.map (some w.heap.size))).setCell ⟨b, 4, none⟩ (.slice none 0 0)).heap[k]? = (w.alloc (.map es clock)).heap[k]? := fun k hne =>
    (Below.heap_setCell _ _ _ _ hne).trans (Below.heap_setCell _ _ _ _ hne)
  have hko : ∀ k, k < w.heap.size → k ≠ b → (((w.alloc (.map es clock)).setCell ⟨b, 3, none⟩ (.map (some w.heap.size))).setCell ⟨b, 4, none⟩ (.slice none 0 0)).heap[k]? = w.heap[k]? := fun k hl hne => (hk k hne).trans (hB.block k hl)
  have hb0 := (hB.block b hbl).trans h.box
  have hb1 := setCell_box (setCell_box hb0 3 (.map (some w.heap.size))) 4 (.slice none 0 0)
  have hsz : (((w.alloc (.map es clock)).setCell ⟨b, 3, none⟩ (.map (some w.heap.size))).setCell ⟨b, 4, none⟩ (.slice none 0 0)).heap.size = w.heap.size + 1 := by simp
  have nbm : mv ≠ b := fun e => by rw [e, h.box] at hb; cases hb
  have hc := h.vis.copied es clock hb
  have nty : ∀ k cur T, w.heap[k]? = some (.cells cur T (0, 0)) → T ≠ 130 → k ≠ b := fun k cur T hc hT e => by
    rw [e, h.box] at hc
    injection hc with hc
    injection hc with _ hc _
    exact hT hc.symm
  refine ⟨⟨hb1, .inl h.sb, .inl h.sv, .inr ⟨Nat.le_refl _, Nat.lt_succ_self _⟩, by have := h.low mv h.sv; omega, h.vis.keep (hko mv (h.low mv h.sv) nbm), hc.keep (hk _ (by omega)), h.bod.keep (fun k cur hs hc => hko k (h.low k hs) (nty k cur _ hc (by decide))) (fun _ x => .inl x), ⟨own_nil0 _ _ _, (fun g hg => by cases hg), fun i hi => absurd hi (by show ¬ i < 0; omega)⟩, ⟨h.sz, h.sz, fun c hc => absurd hc (by show ¬ c ∈ ([] : List Ch); simp)⟩, fun k hk => ?_⟩, rfl, rfl, rfl, by rw [hsz]; omega, fun k hk hn => hko k hk (fun e => hn (by rw [e]; exact h.sb))⟩
  rw [hsz]
  exact SN.low h.low (Nat.le_succ _) k hk
set_option maxRecDepth 100000 in
set_option maxHeartbeats 4000000 in
theorem syncq_any (h : Dq w S b m mv x3 pq pn pc sl) : Calls Tryz.prog 70 #[.pointer (some ⟨b, 0, none⟩)] w fun e w' => e = .returned (.tuple #[]) ∧ DPost S b w (syncL m) w' := by
  have c2 := h.cell 2
  simp at c2
  obtain ⟨es, clock, hb, _⟩ := id h.vis
  have HC := Lib.hid (mapClone_any mv es clock w hb)
  obtain ⟨hd, hk⟩ := h.syncTo hb
  have hB := (Below.refl w.heap.size w).alloc (Nat.le_refl _) (.map es clock)
  have hbl := h.low b h.sb
  have c3 := (hB.cell (p := ⟨b, 3, none⟩) hbl).trans (h.cell 3)
  have f3 := (hB.frozen (p := ⟨b, 3, none⟩) hbl).trans (h.free 3)
  have c4 := (hB.cell (p := ⟨b, 4, none⟩) hbl).trans (h.cell 4)
  have f4 := (hB.frozen (p := ⟨b, 4, none⟩) hbl).trans (h.free 4)
  simp only [List.getElem?_cons_succ, List.getElem?_cons_zero] at c3 c4
  have HP : Hid (DPost S b w (syncL m) (((w.alloc (.map es clock)).setCell ⟨b, 3, none⟩ (.map (some w.heap.size))).setCell ⟨b, 4, none⟩ (.slice none 0 0))) := Lib.hid ⟨⟨_, _, _, _, _, by
    have hsz : (((w.alloc (.map es clock)).setCell ⟨b, 3, none⟩ (.map (some w.heap.size))).setCell ⟨b, 4, none⟩ (.slice none 0 0)).heap.size = w.heap.size + 1 := by simp
    rw [hsz]
    exact hd⟩, hk⟩
  generalize hW : w.alloc (.map es clock) = W at *
  clear h hd hk hb hB
  go_enter Tryz.func70, Tryz.ntmps70
  go_wp2_with fail
  refine HC.out.mono ?_
  rintro e w2 ⟨rfl, hw2⟩
  subst hw2
  clear hW
  go_wp2
  go_end0
  exact ⟨rfl, HP.out⟩
theorem sync_any (h : Dp w S b m mv md pv vs sl) : Calls Tryz.prog 70 #[.pointer (some ⟨b, 0, none⟩)] w fun e w' => e = .returned (.tuple #[]) ∧ DPost S b w (syncL m) w' := by
  obtain ⟨pq, pn, pc, hq⟩ := h.q
  exact syncq_any hq
end
theorem clamp_eq (room : Int) : clampL room = min (max room 0) 1048576 := rfl
set_option maxRecDepth 100000 in
set_option maxHeartbeats 4000000 in
theorem newD_any (room : Int) (w : World) : Calls Tryz.prog 26 #[.int .i64 room] w fun e w' => e = .returned (.pointer (some ⟨w.heap.size + 2, 0, none⟩)) ∧ Dp w' (fun k => w.heap.size ≤ k ∧ k < w'.heap.size) (w.heap.size + 2) ⟨clampL room, 0, [], [], [], []⟩ w.heap.size (w.heap.size + 1) (.slice none 0 0) [] (fun _ => ⟨none, 0, 0⟩) ∧ Below w.heap.size w w' := by
  have hmm := @run_makeMap Tryz.prog
  have HC := Lib.hid (clamp_eq room)
  have h1 := MpB.made w
  have h2 := MpB.made (w.alloc (.map #[] 0))
  have hB0 := (Below.refl w.heap.size w).alloc (Nat.le_refl _) (.map #[] 0)
  have hB1 := hB0.alloc hB0.size (.map #[] 0)
  have z1 : (w.alloc (.map #[] 0)).heap.size = w.heap.size + 1 := World.size_alloc _ _
  have z2 : ((w.alloc (.map #[] 0)).alloc (.map #[] 0)).heap.size = w.heap.size + 2 := by rw [World.size_alloc, z1]
  have hD : ∀ r : Int, r = clampL room → Dp (((w.alloc (.map #[] 0)).alloc (.map #[] 0)).alloc (.cells #[.int .i64 r, .int .i64 0, .map (some w.heap.size), .map (some (w.heap.size + 1)), .slice none 0 0] 130)) (fun k => w.heap.size ≤ k ∧ k < (((w.alloc (.map #[] 0)).alloc (.map #[] 0)).alloc (.cells #[.int .i64 r, .int .i64 0, .map (some w.heap.size), .map (some (w.heap.size + 1)), .slice none 0 0] 130)).heap.size) (w.heap.size + 2) ⟨clampL room, 0, [], [], [], []⟩ w.heap.size (w.heap.size + 1) (.slice none 0 0) [] (fun _ => ⟨none, 0, 0⟩) ∧ Below w.heap.size w (((w.alloc (.map #[] 0)).alloc (.map #[] 0)).alloc (.cells #[.int .i64 r, .int .i64 0, .map (some w.heap.size), .map (some (w.heap.size + 1)), .slice none 0 0] 130)) := fun r hr => by
    subst hr
    have hb := World.alloc_heap_new ((w.alloc (.map #[] 0)).alloc (.map #[] 0)) (.cells #[.int .i64 (clampL room), .int .i64 0, .map (some w.heap.size), .map (some (w.heap.size + 1)), .slice none 0 0] 130)
    rw [z2] at hb
    have hBa := (Below.refl (w.alloc (.map #[] 0)).heap.size (w.alloc (.map #[] 0))).alloc (Nat.le_refl _) (.map #[] 0)
    have hBb := (Below.refl ((w.alloc (.map #[] 0)).alloc (.map #[] 0)).heap.size ((w.alloc (.map #[] 0)).alloc (.map #[] 0))).alloc (Nat.le_refl _) (.cells #[.int .i64 (clampL room), .int .i64 0, .map (some w.heap.size), .map (some (w.heap.size + 1)), .slice none 0 0] 130)
    rw [z1] at h2
    refine ⟨⟨hb, ⟨by omega, by rw [World.size_alloc, z2]; omega⟩, ⟨Nat.le_refl _, by rw [World.size_alloc, z2]; omega⟩, ⟨by omega, by rw [World.size_alloc, z2]; omega⟩, by omega, (h1.of_below hBa).of_below hBb, h2.of_below hBb, ⟨fun i hi => absurd hi (by show ¬ i < 0; omega), fun i hi => absurd hi (by show ¬ i < 0; omega), fun i j hi => absurd hi (by show ¬ i < 0; omega)⟩, ⟨own_nil0 _ _ _, (fun g hg => by cases hg), fun i hi => absurd hi (by show ¬ i < 0; omega)⟩, ⟨fun f hf => absurd hf (by show ¬ f ∈ ([] : List Fl); simp), fun f hf => absurd hf (by show ¬ f ∈ ([] : List Fl); simp), fun f hf => absurd hf (by show ¬ f ∈ ([] : List Ch); simp)⟩, fun k hk => hk.2⟩, hB1.alloc hB1.size _⟩
  have HD := Lib.hid hD
  clear h1 h2 hB0 hB1 hD
  go_enter Tryz.func26, Tryz.ntmps26
  go_wp2
  go_ret
  obtain ⟨d1, d2⟩ := HD.out _ HC.out.symm
  exact ⟨rfl, d1, d2⟩
end Go.Proofs.YtkajeepbelfpiaaGreatDoor
/- Crash of the program's disk. -/
set_option maxRecDepth 100000
namespace Go.Proofs.YtkajeepbelfpiaaGreatDoor
open Go Go.RowKit
attribute [-go_sem] Sha.exec_store

section
variable {w w' : World} {S S' : Nat → Prop} {b : Nat} {m : Dk} {mv md : Nat} {pv : Value} {vs : List Value} {sl : Nat → Hn}
end
end Go.Proofs.YtkajeepbelfpiaaGreatDoor
/- Rot of the program's disk. -/
set_option maxRecDepth 100000
namespace Go.Proofs.YtkajeepbelfpiaaGreatDoor
open Go Go.RowKit
attribute [-go_sem] Sha.exec_store

section
variable {w w' : World} {S S' : Nat → Prop} {b : Nat} {m : Dk} {mv md : Nat} {pv : Value} {vs : List Value} {sl : Nat → Hn}
end
end Go.Proofs.YtkajeepbelfpiaaGreatDoor
/- refusal of the program's disk. -/
set_option maxRecDepth 100000
namespace Go.Proofs.YtkajeepbelfpiaaGreatDoor
open Go Go.RowKit
attribute [-go_sem] Sha.exec_store

/-- The program's answer to a write. -/
def filesP (m : Dk) (p : S8) : Nat := if (findL m.seen p).isNone then m.seen.length + 1 else m.seen.length
def writeP (m : Dk) (p : S8) (n : Nat) : Nat :=
  if !goodL p then 7
  else if 262144 < n then 1
  else if clashesL m.seen p p then 9
  else if 64 < filesP m p then 14
  else if leftL m p < (n : Int) then 10
  else 0
theorem writeP_eq (m : Dk) (p b : S8) (t : Int) (h : m.seen.length ≤ 64) : (writeL m p b t).2 = writeP m p b.length := by
  unfold writeL writeP filesP
  repeat' split
  all_goals first | rfl | (exfalso; simp_all; done) | (exfalso; simp_all; omega)
theorem writeL_no (m : Dk) (p b : S8) (t : Int) (h : (writeL m p b t).2 ≠ 0) : (writeL m p b t).1 = m := by
  unfold writeL at h ⊢
  repeat' split
  all_goals first | rfl | (exfalso; apply h; simp_all)
section
variable {w : World} {S : Nat → Prop} {b : Nat} {m : Dk} {mv md : Nat} {pv : Value} {vs : List Value} {sl : Nat → Hn}
theorem len8 {u : World} (h : MpB u mv (m.seen.map (entV sl))) : ∀ ty, (Builtin.len_ #[127] ty #[.map (some mv)]).run Tryz.prog u = .ok (.int .i64 (m.seen.length : Int)) u := fun ty => by
  have := run_len8 (P := Tryz.prog) mapT (ty := ty) h
  rwa [List.length_map] at this
set_option maxRecDepth 100000 in
set_option maxHeartbeats 8000000 in
theorem refusal_true (h : Dp w S b m mv md pv vs sl) (hok : DkOk 300 m) (hr0 : 0 ≤ m.room) (hr1 : m.room ≤ 1048576) (p : S8) (n : Nat) (hp : p.length ≤ 1000) (hn : n ≤ 400000) (sz ti ch : Int) (q : Option Addr) (bn bc : Nat) (hz0 : 0 ≤ sz) (hz1 : sz ≤ 300000) (hL : leftL m p = m.room - (usedL m : Int) + sz) (hfi : filesP m p = m.seen.length)
    (hl : (Instr.lookup 127 (.map (some mv)) (.string (mkS p)) true).run Tryz.prog w = .ok (.tuple #[.agg #[.int .i64 sz, .int .i64 ti, .int .i64 ch, .slice q bn bc], .bool true]) w) :
    Calls Tryz.prog 116 #[.pointer (some ⟨b, 0, none⟩), .string (mkS p), .int .i64 (n : Int)] w fun e w' => e = .returned (.int .i64 (writeP m p n : Int)) ∧ Below w.heap.size w w' := by
  have c0 := h.cell 0
  have c2 := h.cell 2
  simp at c0 c2
  have hB1 := (Below.refl w.heap.size w).alloc (Nat.le_refl _) (.cells #[.int .i64 sz, .int .i64 ti, .int .i64 ch, .slice q bn bc] 196)
  have k0 : (w.alloc (.cells #[.int .i64 sz, .int .i64 ti, .int .i64 ch, .slice q bn bc] 196)).cell? ⟨w.heap.size, 0, none⟩ = some (.int .i64 sz) := box4_cell w 196 (.int .i64 sz) (.int .i64 ti) (.int .i64 ch) (.slice q bn bc) 0
  have H := Lib.hid h
  have HOK := Lib.hid hok
  have HB1 := Lib.hid hB1
  have HSZ := Lib.hid (World.size_alloc w (.cells #[.int .i64 sz, .int .i64 ti, .int .i64 ch, .slice q bn bc] 196))
  generalize hW : w.alloc (.cells #[.int .i64 sz, .int .i64 ti, .int .i64 ch, .slice q bn bc] 196) = W at *
  have HW := Lib.hid hW
  have HWR := Lib.hid (show writeP m p n = if !goodL p then 7 else if 262144 < n then 1 else if clashesL m.seen p p then 9 else if 64 < m.seen.length then 14 else if m.room - (usedL m : Int) + sz < (n : Int) then 10 else 0 by unfold writeP; rw [hfi, hL])
  have hul := usedL_le hok.shortB (n := m.seen.length) rfl
  have hsn := hok.seen
  obtain ⟨ul, hue⟩ : ∃ ul, usedL m = ul := ⟨_, rfl⟩
  have HUE := Lib.hid hue
  obtain ⟨ln, hln⟩ : ∃ ln, m.seen.length = ln := ⟨_, rfl⟩
  have HLN := Lib.hid hln
  rw [hue, hln] at hul
  rw [hln] at hsn
  have hws : IntKind.i64.wrap ((ul : Int) - sz) = (ul : Int) - sz := by rw [IntKind.wrap_i64]; omega
  have hws2 : IntKind.i64.wrap ((ul : Int) - sz + (n : Int)) = (ul : Int) - sz + (n : Int) := by rw [IntKind.wrap_i64]; omega
  have hS : ∀ u, Below W.heap.size W u → u.cell? ⟨b, 2, none⟩ = some (.map (some mv)) ∧ u.cell? ⟨w.heap.size, 0, none⟩ = some (.int .i64 sz) ∧ ∀ ty, (Builtin.len_ #[127] ty #[.map (some mv)]).run Tryz.prog u = .ok (.int .i64 (ln : Int)) u := fun u hu => by
    have hd := (H.out.of_below HB1.out).of_below hu
    have e2 := hd.cell 2
    simp at e2
    refine ⟨e2, ?_, fun ty => by have := len8 hd.vis ty; rwa [HLN.out] at this⟩
    rw [hu.cell (p := ⟨w.heap.size, 0, none⟩) (by rw [HSZ.out]; exact Nat.lt_succ_self _)]
    exact k0
  have HS := Lib.hid hS
  obtain ⟨s1, s2, s3⟩ := hS W.drew ((Below.refl _ _).drew)
  have hl64 : IntKind.i64.wrap ((ln : Int) + 1) = (ln : Int) + 1 := by rw [IntKind.wrap_i64]; omega
  have HN := Lib.hid (And.intro hn (And.intro hsn (And.intro hul (And.intro hz0 (And.intro hz1 (And.intro hr0 hr1))))))
  have HP := Lib.hid hp
  have HUS : Hid (Calls Tryz.prog 161 #[.pointer (some ⟨b, 0, none⟩)] W.drew fun e w' => e = .returned (.int .i64 (ul : Int)) ∧ Below W.heap.size W.drew w') := Lib.hid (by have := used_any ((H.out.of_below HB1.out).of_below (Below.refl W.heap.size W).drew) HOK.out; rwa [HUE.out] at this)
  clear h hok hB1 hW hL hfi hue hln hp hn hsn hul hz0 hz1 hr0 hr1 hS
  go_enter Tryz.func116, Tryz.ntmps116
  go_wp2_with fail
  rw [HW.out]
  go_region_held3 (fun u : World => u.cell? ⟨b, 2, none⟩ = some (.map (some mv)) ∧ u.cell? ⟨w.heap.size, 0, none⟩ = some (.int .i64 sz) ∧ ∀ ty, (Builtin.len_ #[127] ty #[.map (some mv)]).run Tryz.prog u = .ok (.int .i64 (ln : Int)) u) (first | exact ⟨s1, s2, s3⟩ | exact ⟨z1, z2, z3⟩ | go_keep) ((first | (go_at_call 161; refine (HUS.out).mono ?_; rintro e w2 ⟨rfl, hB2⟩; have hB3 := ((Below.refl W.heap.size W).drew).trans hB2; obtain ⟨z1, z2, z3⟩ := HS.out w2 hB3; have HB3 := Lib.hid hB3; clear hB2 hB3)))
  have HD2 := Lib.hid ((H.out.of_below HB1.out).of_below HB3.out)
  have HBX := Lib.hid (HB1.out.trans (HB3.out.mono HB1.out.size))
  have c02 := HD2.out.cell 0
  have c22 := HD2.out.cell 2
  simp at c02 c22
  have HGD := Lib.hid (good_any p w2 (by have := HP.out; omega))
  clear c0 c2 k0 s1 s2 s3 z1 z2 z3 hl
  cases hgd : goodL p with
  | false =>
    rw [hgd] at HGD
    have HE := Lib.hid (show writeP m p n = 7 by rw [HWR.out, hgd]; rfl)
    go_wp2_with fail
    refine HGD.out.mono ?_
    rintro e w4 ⟨rfl, hB4⟩
    have HB4 := Lib.hid (HBX.out.trans (hB4.mono HBX.out.size))
    clear hB4
    go_wp2
    go_ret
    exact ⟨by rw [HE.out]; rfl, HB4.out⟩
  | true =>
    rw [hgd] at HGD
    have HWR2 := Lib.hid (show writeP m p n = if 262144 < n then 1 else if clashesL m.seen p p then 9 else if 64 < ln then 14 else if m.room - (ul : Int) + sz < (n : Int) then 10 else 0 by rw [HWR.out, hgd, HUE.out, HLN.out]; rfl)
    clear HWR
    by_cases g1 : 262144 < n
    · have y1 : (262144 : Int) < (n : Int) := by omega
      have y2 : decide ((262144 : Int) < (n : Int)) = true := decide_eq_true y1
      have y3 : decide (262144 < n) = true := decide_eq_true g1
      have HE := Lib.hid (show writeP m p n = 1 by rw [HWR2.out, if_pos g1])
      clear g1
      go_wp2_with fail
      refine HGD.out.mono ?_
      rintro e w4 ⟨rfl, hB4⟩
      have HB4 := Lib.hid (HBX.out.trans (hB4.mono HBX.out.size))
      clear hB4
      go_wp2
      go_ret
      exact ⟨by rw [HE.out]; rfl, HB4.out⟩
    · have y1 : ¬ (262144 : Int) < (n : Int) := by omega
      have y2 : decide ((262144 : Int) < (n : Int)) = false := decide_eq_false y1
      have y3 : decide (262144 < n) = false := decide_eq_false g1
      have HWR3 := Lib.hid (show writeP m p n = if clashesL m.seen p p then 9 else if 64 < ln then 14 else if m.room - (ul : Int) + sz < (n : Int) then 10 else 0 by rw [HWR2.out, if_neg g1])
      clear HWR2 g1
      go_wp2_with fail
      refine HGD.out.mono ?_
      rintro e w4 ⟨rfl, hB4⟩
      have HB4 := Lib.hid (HBX.out.trans (hB4.mono HBX.out.size))
      have HD4 := Lib.hid (HD2.out.of_below hB4)
      have c04 := HD4.out.cell 0
      have c24 := HD4.out.cell 2
      simp at c04 c24
      have HCL := Lib.hid (clashes_any HD4.out.vis HOK.out.shS p p (by have := HP.out; omega))
      clear hB4 c02 c22
      cases hcl : clashesL m.seen p p with
      | true =>
        rw [hcl] at HCL
        have HE := Lib.hid (show writeP m p n = 9 by rw [HWR3.out, hcl]; rfl)
        clear hcl
        go_wp2_with fail
        refine HCL.out.mono ?_
        rintro e w5 ⟨rfl, hB5⟩
        have HB5 := Lib.hid (HB4.out.trans (hB5.mono HB4.out.size))
        clear hB5
        go_wp2
        go_ret
        exact ⟨by rw [HE.out]; rfl, HB5.out⟩
      | false =>
        rw [hcl] at HCL
        have HWR4 := Lib.hid (show writeP m p n = if 64 < ln then 14 else if m.room - (ul : Int) + sz < (n : Int) then 10 else 0 by rw [HWR3.out, hcl]; rfl)
        clear HWR3 hcl
        go_wp2_with fail
        refine HCL.out.mono ?_
        rintro e w5 ⟨rfl, hB5⟩
        have HB5 := Lib.hid (HB4.out.trans (hB5.mono HB4.out.size))
        have c05 := (HD4.out.of_below hB5).cell 0
        simp at c05
        clear hB5 c04 c24
        obtain ⟨hn, hsn, hul, hz0, hz1, hr0, hr1⟩ := HN.out
        by_cases g2 : 64 < ln
        · have x1 : (64 : Int) < (ln : Int) := by omega
          have x2 : decide ((64 : Int) < (ln : Int)) = true := decide_eq_true x1
          have HE := Lib.hid (show writeP m p n = 14 by rw [HWR4.out, if_pos g2])
          clear g2 hn hsn hul hz0 hz1 hr0 hr1
          go_wp2
          go_ret
          exact ⟨by rw [HE.out]; rfl, HB5.out⟩
        · have x1 : ¬ (64 : Int) < (ln : Int) := by omega
          have x2 : decide ((64 : Int) < (ln : Int)) = false := decide_eq_false x1
          by_cases g3 : m.room - (ul : Int) + sz < (n : Int)
          · have v1 : m.room < (ul : Int) - sz + (n : Int) := by omega
            have v2 : decide (m.room < (ul : Int) - sz + (n : Int)) = true := decide_eq_true v1
            have HE := Lib.hid (show writeP m p n = 10 by rw [HWR4.out, if_neg g2, if_pos g3])
            clear g2 g3 hn hsn hul hz0 hz1 hr0 hr1
            go_wp2
            go_ret
            exact ⟨by rw [HE.out]; rfl, HB5.out⟩
          · have v1 : ¬ m.room < (ul : Int) - sz + (n : Int) := by omega
            have v2 : decide (m.room < (ul : Int) - sz + (n : Int)) = false := decide_eq_false v1
            have HE := Lib.hid (show writeP m p n = 0 by rw [HWR4.out, if_neg g2, if_neg g3])
            clear g2 g3 hn hsn hul hz0 hz1 hr0 hr1
            go_wp2
            go_ret
            exact ⟨by rw [HE.out]; rfl, HB5.out⟩
set_option maxRecDepth 100000 in
set_option maxHeartbeats 8000000 in
theorem refusal_false (h : Dp w S b m mv md pv vs sl) (hok : DkOk 300 m) (hr0 : 0 ≤ m.room) (hr1 : m.room ≤ 1048576) (p : S8) (n : Nat) (hp : p.length ≤ 1000) (hn : n ≤ 400000) (sz ti ch : Int) (q : Option Addr) (bn bc : Nat) (hz0 : 0 ≤ sz) (hz1 : sz ≤ 300000) (hL : leftL m p = m.room - (usedL m : Int) + sz) (hfi : filesP m p = m.seen.length + 1)
    (hl : (Instr.lookup 127 (.map (some mv)) (.string (mkS p)) true).run Tryz.prog w = .ok (.tuple #[.agg #[.int .i64 sz, .int .i64 ti, .int .i64 ch, .slice q bn bc], .bool false]) w) :
    Calls Tryz.prog 116 #[.pointer (some ⟨b, 0, none⟩), .string (mkS p), .int .i64 (n : Int)] w fun e w' => e = .returned (.int .i64 (writeP m p n : Int)) ∧ Below w.heap.size w w' := by
  have c0 := h.cell 0
  have c2 := h.cell 2
  simp at c0 c2
  have hB1 := (Below.refl w.heap.size w).alloc (Nat.le_refl _) (.cells #[.int .i64 sz, .int .i64 ti, .int .i64 ch, .slice q bn bc] 196)
  have k0 : (w.alloc (.cells #[.int .i64 sz, .int .i64 ti, .int .i64 ch, .slice q bn bc] 196)).cell? ⟨w.heap.size, 0, none⟩ = some (.int .i64 sz) := box4_cell w 196 (.int .i64 sz) (.int .i64 ti) (.int .i64 ch) (.slice q bn bc) 0
  have H := Lib.hid h
  have HOK := Lib.hid hok
  have HB1 := Lib.hid hB1
  have HSZ := Lib.hid (World.size_alloc w (.cells #[.int .i64 sz, .int .i64 ti, .int .i64 ch, .slice q bn bc] 196))
  generalize hW : w.alloc (.cells #[.int .i64 sz, .int .i64 ti, .int .i64 ch, .slice q bn bc] 196) = W at *
  have HW := Lib.hid hW
  have HWR := Lib.hid (show writeP m p n = if !goodL p then 7 else if 262144 < n then 1 else if clashesL m.seen p p then 9 else if 64 < m.seen.length + 1 then 14 else if m.room - (usedL m : Int) + sz < (n : Int) then 10 else 0 by unfold writeP; rw [hfi, hL])
  have hul := usedL_le hok.shortB (n := m.seen.length) rfl
  have hsn := hok.seen
  obtain ⟨ul, hue⟩ : ∃ ul, usedL m = ul := ⟨_, rfl⟩
  have HUE := Lib.hid hue
  obtain ⟨ln, hln⟩ : ∃ ln, m.seen.length = ln := ⟨_, rfl⟩
  have HLN := Lib.hid hln
  rw [hue, hln] at hul
  rw [hln] at hsn
  have hws : IntKind.i64.wrap ((ul : Int) - sz) = (ul : Int) - sz := by rw [IntKind.wrap_i64]; omega
  have hws2 : IntKind.i64.wrap ((ul : Int) - sz + (n : Int)) = (ul : Int) - sz + (n : Int) := by rw [IntKind.wrap_i64]; omega
  have hS : ∀ u, Below W.heap.size W u → u.cell? ⟨b, 2, none⟩ = some (.map (some mv)) ∧ u.cell? ⟨w.heap.size, 0, none⟩ = some (.int .i64 sz) ∧ ∀ ty, (Builtin.len_ #[127] ty #[.map (some mv)]).run Tryz.prog u = .ok (.int .i64 (ln : Int)) u := fun u hu => by
    have hd := (H.out.of_below HB1.out).of_below hu
    have e2 := hd.cell 2
    simp at e2
    refine ⟨e2, ?_, fun ty => by have := len8 hd.vis ty; rwa [HLN.out] at this⟩
    rw [hu.cell (p := ⟨w.heap.size, 0, none⟩) (by rw [HSZ.out]; exact Nat.lt_succ_self _)]
    exact k0
  have HS := Lib.hid hS
  obtain ⟨s1, s2, s3⟩ := hS W.drew ((Below.refl _ _).drew)
  have hl64 : IntKind.i64.wrap ((ln : Int) + 1) = (ln : Int) + 1 := by rw [IntKind.wrap_i64]; omega
  have HN := Lib.hid (And.intro hn (And.intro hsn (And.intro hul (And.intro hz0 (And.intro hz1 (And.intro hr0 hr1))))))
  have HP := Lib.hid hp
  have HUS : Hid (Calls Tryz.prog 161 #[.pointer (some ⟨b, 0, none⟩)] W.drew fun e w' => e = .returned (.int .i64 (ul : Int)) ∧ Below W.heap.size W.drew w') := Lib.hid (by have := used_any ((H.out.of_below HB1.out).of_below (Below.refl W.heap.size W).drew) HOK.out; rwa [HUE.out] at this)
  clear h hok hB1 hW hL hfi hue hln hp hn hsn hul hz0 hz1 hr0 hr1 hS
  go_enter Tryz.func116, Tryz.ntmps116
  go_wp2_with fail
  rw [HW.out]
  go_region_held3 (fun u : World => u.cell? ⟨b, 2, none⟩ = some (.map (some mv)) ∧ u.cell? ⟨w.heap.size, 0, none⟩ = some (.int .i64 sz) ∧ ∀ ty, (Builtin.len_ #[127] ty #[.map (some mv)]).run Tryz.prog u = .ok (.int .i64 (ln : Int)) u) (first | exact ⟨s1, s2, s3⟩ | exact ⟨z1, z2, z3⟩ | go_keep) ((first | (go_at_call 161; refine (HUS.out).mono ?_; rintro e w2 ⟨rfl, hB2⟩; have hB3 := ((Below.refl W.heap.size W).drew).trans hB2; obtain ⟨z1, z2, z3⟩ := HS.out w2 hB3; have HB3 := Lib.hid hB3; clear hB2 hB3)))
  have HD2 := Lib.hid ((H.out.of_below HB1.out).of_below HB3.out)
  have HBX := Lib.hid (HB1.out.trans (HB3.out.mono HB1.out.size))
  have c02 := HD2.out.cell 0
  have c22 := HD2.out.cell 2
  simp at c02 c22
  have HGD := Lib.hid (good_any p w2 (by have := HP.out; omega))
  clear c0 c2 k0 s1 s2 s3 z1 z2 z3 hl
  cases hgd : goodL p with
  | false =>
    rw [hgd] at HGD
    have HE := Lib.hid (show writeP m p n = 7 by rw [HWR.out, hgd]; rfl)
    go_wp2_with fail
    refine HGD.out.mono ?_
    rintro e w4 ⟨rfl, hB4⟩
    have HB4 := Lib.hid (HBX.out.trans (hB4.mono HBX.out.size))
    clear hB4
    go_wp2
    go_ret
    exact ⟨by rw [HE.out]; rfl, HB4.out⟩
  | true =>
    rw [hgd] at HGD
    have HWR2 := Lib.hid (show writeP m p n = if 262144 < n then 1 else if clashesL m.seen p p then 9 else if 64 < ln + 1 then 14 else if m.room - (ul : Int) + sz < (n : Int) then 10 else 0 by rw [HWR.out, hgd, HUE.out, HLN.out]; rfl)
    clear HWR
    by_cases g1 : 262144 < n
    · have y1 : (262144 : Int) < (n : Int) := by omega
      have y2 : decide ((262144 : Int) < (n : Int)) = true := decide_eq_true y1
      have y3 : decide (262144 < n) = true := decide_eq_true g1
      have HE := Lib.hid (show writeP m p n = 1 by rw [HWR2.out, if_pos g1])
      clear g1
      go_wp2_with fail
      refine HGD.out.mono ?_
      rintro e w4 ⟨rfl, hB4⟩
      have HB4 := Lib.hid (HBX.out.trans (hB4.mono HBX.out.size))
      clear hB4
      go_wp2
      go_ret
      exact ⟨by rw [HE.out]; rfl, HB4.out⟩
    · have y1 : ¬ (262144 : Int) < (n : Int) := by omega
      have y2 : decide ((262144 : Int) < (n : Int)) = false := decide_eq_false y1
      have y3 : decide (262144 < n) = false := decide_eq_false g1
      have HWR3 := Lib.hid (show writeP m p n = if clashesL m.seen p p then 9 else if 64 < ln + 1 then 14 else if m.room - (ul : Int) + sz < (n : Int) then 10 else 0 by rw [HWR2.out, if_neg g1])
      clear HWR2 g1
      go_wp2_with fail
      refine HGD.out.mono ?_
      rintro e w4 ⟨rfl, hB4⟩
      have HB4 := Lib.hid (HBX.out.trans (hB4.mono HBX.out.size))
      have HD4 := Lib.hid (HD2.out.of_below hB4)
      have c04 := HD4.out.cell 0
      have c24 := HD4.out.cell 2
      simp at c04 c24
      have HCL := Lib.hid (clashes_any HD4.out.vis HOK.out.shS p p (by have := HP.out; omega))
      clear hB4 c02 c22
      cases hcl : clashesL m.seen p p with
      | true =>
        rw [hcl] at HCL
        have HE := Lib.hid (show writeP m p n = 9 by rw [HWR3.out, hcl]; rfl)
        clear hcl
        go_wp2_with fail
        refine HCL.out.mono ?_
        rintro e w5 ⟨rfl, hB5⟩
        have HB5 := Lib.hid (HB4.out.trans (hB5.mono HB4.out.size))
        clear hB5
        go_wp2
        go_ret
        exact ⟨by rw [HE.out]; rfl, HB5.out⟩
      | false =>
        rw [hcl] at HCL
        have HWR4 := Lib.hid (show writeP m p n = if 64 < ln + 1 then 14 else if m.room - (ul : Int) + sz < (n : Int) then 10 else 0 by rw [HWR3.out, hcl]; rfl)
        clear HWR3 hcl
        go_wp2_with fail
        refine HCL.out.mono ?_
        rintro e w5 ⟨rfl, hB5⟩
        have HB5 := Lib.hid (HB4.out.trans (hB5.mono HB4.out.size))
        have c05 := (HD4.out.of_below hB5).cell 0
        simp at c05
        clear hB5 c04 c24
        obtain ⟨hn, hsn, hul, hz0, hz1, hr0, hr1⟩ := HN.out
        by_cases g2 : 64 < ln + 1
        · have x1 : (64 : Int) < (ln : Int) + 1 := by omega
          have x2 : decide ((64 : Int) < (ln : Int) + 1) = true := decide_eq_true x1
          have HE := Lib.hid (show writeP m p n = 14 by rw [HWR4.out, if_pos g2])
          clear g2 hn hsn hul hz0 hz1 hr0 hr1
          go_wp2
          go_ret
          exact ⟨by rw [HE.out]; rfl, HB5.out⟩
        · have x1 : ¬ (64 : Int) < (ln : Int) + 1 := by omega
          have x2 : decide ((64 : Int) < (ln : Int) + 1) = false := decide_eq_false x1
          by_cases g3 : m.room - (ul : Int) + sz < (n : Int)
          · have v1 : m.room < (ul : Int) - sz + (n : Int) := by omega
            have v2 : decide (m.room < (ul : Int) - sz + (n : Int)) = true := decide_eq_true v1
            have HE := Lib.hid (show writeP m p n = 10 by rw [HWR4.out, if_neg g2, if_pos g3])
            clear g2 g3 hn hsn hul hz0 hz1 hr0 hr1
            go_wp2
            go_ret
            exact ⟨by rw [HE.out]; rfl, HB5.out⟩
          · have v1 : ¬ m.room < (ul : Int) - sz + (n : Int) := by omega
            have v2 : decide (m.room < (ul : Int) - sz + (n : Int)) = false := decide_eq_false v1
            have HE := Lib.hid (show writeP m p n = 0 by rw [HWR4.out, if_neg g2, if_neg g3])
            clear g2 g3 hn hsn hul hz0 hz1 hr0 hr1
            go_wp2
            go_ret
            exact ⟨by rw [HE.out]; rfl, HB5.out⟩
set_option maxHeartbeats 1000000 in
theorem refusalD_any (h : Dp w S b m mv md pv vs sl) (hok : DkOk 300 m) (hr0 : 0 ≤ m.room) (hr1 : m.room ≤ 1048576) (p : S8) (n : Nat) (hp : p.length ≤ 1000) (hn : n ≤ 400000) :
    Calls Tryz.prog 116 #[.pointer (some ⟨b, 0, none⟩), .string (mkS p), .int .i64 (n : Int)] w fun e w' => e = .returned (.int .i64 (writeP m p n : Int)) ∧ Below w.heap.size w w' := by
  cases hf : findL m.seen p with
  | none => exact refusal_false h hok hr0 hr1 p n hp hn 0 0 0 none 0 0 (by decide) (by decide) (by rw [leftL_none hf]; omega) (by unfold filesP; rw [hf]; rfl) (look_none h.vis hf)
  | some i =>
    have hz := size_small h.sz hok (findL_in hf)
    exact refusal_true h hok hr0 hr1 p n hp hn _ _ _ _ _ _ hz.1 hz.2 (by rw [leftL_some hf, h.sz.seen _ (findL_in hf)]) (by unfold filesP; rw [hf]; rfl) (look_some h.vis hf _ rfl)
end
end Go.Proofs.YtkajeepbelfpiaaGreatDoor
/- Write of the program's disk. -/
set_option maxRecDepth 100000
namespace Go.Proofs.YtkajeepbelfpiaaGreatDoor
open Go Go.RowKit
attribute [-go_sem] Sha.exec_store

def fileW (m : Dk) (p x : S8) (time : Int) : Fl := ⟨p, m.bodies.length, x.length, time, m.count + 1⟩
def bodyW (m : Dk) (x : S8) : Dk := { m with count := m.count + 1, bodies := m.bodies ++ [x] }
def writeQ (m : Dk) (p x : S8) (time : Int) : Dk × Nat := if writeP m p x.length = 0 then (changeL (bodyW m x) ⟨1, [], fileW m p x time⟩, 0) else (m, writeP m p x.length)
theorem writeQ_eq (m : Dk) (p x : S8) (time : Int) (h : m.seen.length ≤ 64) : writeQ m p x time = writeL m p x time := by
  unfold writeQ
  have h2 := writeP_eq m p x time h
  by_cases h0 : writeP m p x.length = 0
  · rw [if_pos h0]
    rw [h0] at h2
    have : ∀ y, writeL m p x time = y → y.2 = 0 → y = (changeL (bodyW m x) ⟨1, [], fileW m p x time⟩, 0) := by
      intro y hy h3
      unfold writeL at hy
      repeat' split at hy
      all_goals first | (rw [← hy] at h3; cases h3; done) | (rw [← hy]; rfl)
    exact (this _ rfl h2).symm
  · rw [if_neg h0]
    have h3 := writeL_no m p x time (by rw [h2]; exact h0)
    exact (Prod.ext h3 h2).symm
theorem writeP_small {m : Dk} {p : S8} {n : Nat} (h : writeP m p n = 0) : n ≤ 262144 ∧ goodL p = true := by
  unfold writeP at h
  cases hg : goodL p with
  | false => rw [hg] at h; simp at h
  | true =>
    rw [hg] at h
    refine ⟨?_, rfl⟩
    rcases Nat.lt_or_ge 262144 n with g | g
    · rw [if_neg (by decide), if_pos g] at h
      exact absurd h (by decide)
    · exact g
def slPut (sl : Nat → Hn) (i : Nat) (h : Hn) (j : Nat) : Hn := if j = i then h else sl j
theorem slPut_at (sl : Nat → Hn) (i : Nat) (h : Hn) : slPut sl i h i = h := by unfold slPut; rw [if_pos rfl]
theorem slPut_lt (sl : Nat → Hn) {i j : Nat} (h : Hn) (hj : j < i) : slPut sl i h j = sl j := by unfold slPut; rw [if_neg (by omega)]
section
variable {w w' : World} {S S' : Nat → Prop} {b : Nat} {m : Dk} {mv md : Nat} {pv : Value} {vs : List Value} {sl : Nat → Hn}
theorem Dp.count (h : Dp w S b m mv md pv vs sl) (c : Int) : Dp (w.setCell ⟨b, 1, none⟩ (.int .i64 c)) S b { m with count := c } mv md pv vs sl := by
  have hk : ∀ k, k ≠ b → (w.setCell ⟨b, 1, none⟩ (.int .i64 c)).heap[k]? = w.heap[k]? := fun k hne => Below.heap_setCell _ _ _ _ hne
  have nty : ∀ k cs T, w.heap[k]? = some (.cells cs T (0, 0)) → T ≠ 130 → k ≠ b := fun k cs T h2 hT e => by
    rw [e, h.box] at h2
    injection h2 with h2
    injection h2 with _ h2 _
    exact hT h2.symm
  obtain ⟨e1, c1, hv1, _⟩ := id h.vis
  obtain ⟨e2, c2, hd1, _⟩ := id h.dur
  exact ⟨setCell_box h.box 1 _, h.sb, h.sv, h.sd, h.ne, h.vis.keep (hk mv (h.ne_map hv1).1), h.dur.keep (hk md (h.ne_map hd1).1), h.bod.keep (fun k cur _ hc => hk k (nty k cur _ hc (by decide))) (fun _ x => x), h.pd.keep (fun k T cs _ h2 hT => hk k (nty k cs T h2 (by rcases hT with rfl | rfl | rfl <;> decide))) (fun _ x => x), ⟨h.sz.seen, h.sz.safe, h.sz.waits⟩, fun k hk2 => by simpa using h.low k hk2⟩
theorem body_new (m : Dk) (x : S8) {f : Fl} (h : f.body < m.bodies.length) : bodyD { m with bodies := m.bodies ++ [x] } f = bodyD m f := by
  unfold bodyD
  show (m.bodies ++ [x]).getD f.body [] = m.bodies.getD f.body []
  rw [List.getD_eq_getElem?_getD, List.getElem?_append_left h, ← List.getD_eq_getElem?_getD]
theorem Dp.body {n : Nat} (h : Dp w S b m mv md pv vs sl) (hok : DkOk n m) (hB : Below w.heap.size w w') (x : S8) (q : Option Addr) (k c : Nat) (ho : w'.ownsRow w.heap.size 5 1 (.slice q k c) x.length (bytC x)) :
    Dp w' (SN S w.heap.size w'.heap.size) b { m with bodies := m.bodies ++ [x] } mv md pv vs (slPut sl m.bodies.length ⟨q, k, c⟩) := by
  have hw := h.wide hB
  have hlt : ∀ {i}, i < (m.bodies ++ [x]).length → i < m.bodies.length ∨ i = m.bodies.length := fun hi => by
    rw [List.length_append] at hi
    simp at hi
    omega
  have hold : ∀ {i}, i < m.bodies.length → (m.bodies ++ [x]).getD i [] = m.bodies.getD i [] := fun hi => by
    rw [List.getD_eq_getElem?_getD, List.getElem?_append_left hi, ← List.getD_eq_getElem?_getD]
  have hnew : (m.bodies ++ [x]).getD m.bodies.length [] = x := by
    rw [List.getD_eq_getElem?_getD, List.getElem?_append_right (Nat.le_refl _)]
    simp
  have hfile : ∀ f : Fl, f.body < m.bodies.length → sl f.body = slPut sl m.bodies.length ⟨q, k, c⟩ f.body := fun f hf => (slPut_lt sl _ hf).symm
  refine ⟨hw.box, hw.sb, hw.sv, hw.sd, hw.ne, ?_, ?_, ⟨fun i hi => ?_, fun i hi g hg => ?_, fun i j hi hj hne g hg => ?_⟩, ⟨hw.pd.own, hw.pd.in_, fun i hi => ?_⟩, ⟨fun f hf => ?_, fun f hf => ?_, fun y hy hk => ?_⟩, hw.low⟩
  · show MpB w' mv (m.seen.map _)
    rw [← ent_congr (sl := sl) (fun f hf => hfile f (hok.inS f hf))]
    exact hw.vis
  · show MpB w' md (m.safe.map _)
    rw [← ent_congr (sl := sl) (fun f hf => hfile f (hok.inF f hf))]
    exact hw.dur
  · show World.ownsRow _ _ _ _ _ ((m.bodies ++ [x]).getD i []).length (bytC ((m.bodies ++ [x]).getD i []))
    rcases hlt hi with hi | hi
    · rw [hold hi, slPut_lt sl _ hi]
      exact hw.bod.own i hi
    · rw [hi, hnew, slPut_at]
      exact own_lower ho (Nat.zero_le _)
  · rcases hlt hi with hi | hi
    · rw [slPut_lt sl _ hi] at hg
      exact hw.bod.in_ i hi g hg
    · rw [hi, slPut_at] at hg
      exact .inr (ho.lt g hg)
  · rcases hlt hi with hi | hi <;> rcases hlt hj with hj | hj
    · rw [slPut_lt sl _ hi] at hg
      rw [slPut_lt sl _ hj]
      exact hw.bod.ap i j hi hj hne g hg
    · rw [slPut_lt sl _ hi] at hg
      rw [hj, slPut_at]
      intro e
      have h1 := h.low g (h.bod.in_ i hi g hg)
      have h2 := (ho.lt g e).1
      omega
    · rw [hi, slPut_at] at hg
      rw [slPut_lt sl _ hj]
      intro e
      have h1 := h.low g (h.bod.in_ j hj g e)
      have h2 := (ho.lt g hg).1
      omega
    · omega
  · obtain ⟨v, e, hc⟩ := hw.pd.cls i hi
    refine ⟨v, e, ?_⟩
    cases hc with
    | write b1 b2 hk hv h1 h2 s1 s2 =>
      refine .write b1 b2 hk hv h1 ?_ s1 s2
      have hb := hok.inW _ (List.getElem_mem hi) hk
      unfold BoxF fileC at h2 ⊢
      rw [← hfile _ hb]
      exact h2
    | rename b1 b2 hk hv h1 h2 s1 s2 => exact .rename b1 b2 hk hv h1 h2 s1 s2
    | remove b1 hk hv h1 s1 => exact .remove b1 hk hv h1 s1
  · rw [body_new m x (hok.inS f hf)]; exact h.sz.seen f hf
  · rw [body_new m x (hok.inF f hf)]; exact h.sz.safe f hf
  · rw [body_new m x (hok.inW y hy hk)]; exact h.sz.waits y hy hk
theorem DkOk.bodyW {n : Nat} (h : DkOk n m) (x : S8) (hx : x.length ≤ 262144) : DkOk (n + 1) (bodyW m x) := by
  have hl : (m.bodies ++ [x]).length = m.bodies.length + 1 := by simp
  exact ⟨Nat.le_succ_of_le h.seen, Nat.le_succ_of_le h.both, by show (m.bodies ++ [x]).length ≤ _; rw [hl]; exact Nat.add_le_add_right h.bod 1, by have := h.cnt0; show 0 ≤ m.count + 1; omega, by have := h.cnt1; show m.count + 1 ≤ _; push_cast; omega, h.shS, h.shF, h.chk, fun f hf => by show _ < (m.bodies ++ [x]).length; rw [hl]; exact Nat.lt_succ_of_lt (h.inS f hf), fun f hf => by show _ < (m.bodies ++ [x]).length; rw [hl]; exact Nat.lt_succ_of_lt (h.inF f hf), fun c hc hk => by show _ < (m.bodies ++ [x]).length; rw [hl]; exact Nat.lt_succ_of_lt (h.inW c hc hk), fun y hy => by
    rcases List.mem_append.1 hy with hy | hy
    · exact h.bs y hy
    · simp at hy; rw [hy]; exact hx⟩
theorem stamp_cells (u : World) (a b c : Value) : (u.alloc (.cells #[a, b, c] 38)).cell? ⟨u.heap.size, 0, none⟩ = some a ∧ (u.alloc (.cells #[a, b, c] 38)).cell? ⟨u.heap.size, 1, none⟩ = some b ∧ (u.alloc (.cells #[a, b, c] 38)).cell? ⟨u.heap.size, 2, none⟩ = some c := by
  have h := World.alloc_heap_new u (.cells #[a, b, c] 38)
  unfold World.cell?
  rw [h]
  simp
theorem three_kept {u u' : World} {k : Nat} {a b c : Value} (h : u.cell? ⟨k, 0, none⟩ = some a ∧ u.cell? ⟨k, 1, none⟩ = some b ∧ u.cell? ⟨k, 2, none⟩ = some c) (hk : u'.heap[k]? = u.heap[k]?) : u'.cell? ⟨k, 0, none⟩ = some a ∧ u'.cell? ⟨k, 1, none⟩ = some b ∧ u'.cell? ⟨k, 2, none⟩ = some c :=
  ⟨(World.cell?_of_block hk).trans h.1, (World.cell?_of_block hk).trans h.2.1, (World.cell?_of_block hk).trans h.2.2⟩
set_option maxRecDepth 100000 in
set_option maxHeartbeats 8000000 in
theorem write_any (h : Dp w S b m mv md pv vs sl) (hok : DkOk 299 m) (hr0 : 0 ≤ m.room) (hr1 : m.room ≤ 1048576) (p x : S8) (q : Option Addr) (cap : Nat) (time : Int) (hp : p.length ≤ 1000) (hx : x.length ≤ 400000) (hl : LsG (fun k => ¬ S k) w q x.length cap 1 (bytC x)) : Calls Tryz.prog 64 #[.pointer (some ⟨b, 0, none⟩), .string (mkS p), .slice q x.length cap, .int .i64 time] w fun e w' => e = .returned (.int .i64 ((writeQ m p x time).2 : Int)) ∧ DPost S b w (writeQ m p x time).1 w' := by
  have HRF := Lib.hid (refusalD_any h (hok.mono (by decide)) hr0 hr1 p x.length hp hx)
  have H := Lib.hid h
  have HOK := Lib.hid hok
  have HL := Lib.hid hl
  have HPX := Lib.hid (And.intro hp hx)
  have HCT := Lib.hid (And.intro hok.cnt0 hok.cnt1)
  obtain ⟨cd, hcd⟩ : ∃ cd, writeP m p x.length = cd := ⟨_, rfl⟩
  rw [hcd] at HRF
  obtain ⟨xl, hxl⟩ : ∃ xl, x.length = xl := ⟨_, rfl⟩
  rw [hxl] at HRF
  rw [hxl]
  have HXL := Lib.hid hxl
  have HCD := Lib.hid hcd
  clear h hok hl hp hx hcd hr0 hr1 hxl
  by_cases h0 : cd = 0
  · subst h0
    have HW := Lib.hid (show writeQ m p x time = (changeL (Go.Proofs.YtkajeepbelfpiaaGreatDoor.bodyW m x) ⟨1, [], fileW m p x time⟩, 0) by unfold writeQ; rw [if_pos HCD.out])
    have hcw : IntKind.i64.wrap (m.count + 1) = m.count + 1 := by have h1 := HCT.out.1; have h2 := HCT.out.2; rw [IntKind.wrap_i64]; omega
    go_enter Tryz.func64, Tryz.ntmps64
    go_wp2_with fail
    refine HRF.out.mono ?_
    rintro e w1 ⟨rfl, hB1⟩
    have h1 := H.out.of_below hB1
    have c1 := h1.cell 1
    have f1 := h1.free 1
    simp at c1
    have hc2 := h1.count (m.count + 1)
    have c12 := hc2.cell 1
    simp at c12
    have H2 := Lib.hid hc2
    have HB1 := Lib.hid hB1
    clear h1 hB1 hc2
    go_wp2_with fail
    have HBT := Lib.hid (show Below w.heap.size w w1 from HB1.out)
    obtain ⟨U0, hU0⟩ : ∃ U0, w1.setCell ⟨b, 1, none⟩ (.int .i64 (m.count + 1)) = U0 := ⟨_, rfl⟩
    obtain ⟨U, hU⟩ : ∃ U, U0.alloc (.cells #[.int .i64 (xl : Int), .int .i64 time, .int .i64 (m.count + 1)] 38) = U := ⟨_, rfl⟩
    have HU0 := Lib.hid hU0
    have HU := Lib.hid hU
    have hs0 : U0.heap.size = w1.heap.size := by rw [← hU0]; simp
    have hs1 : U.heap.size = U0.heap.size + 1 := by rw [← hU, World.size_alloc]
    have HZ0 := Lib.hid hs0
    have HZ1 := Lib.hid hs1
    have hBU : Below U0.heap.size U0 U := by rw [← hU]; exact (Below.refl _ _).alloc (Nat.le_refl _) _
    have HBU := Lib.hid hBU
    have hst := stamp_cells U0 (.int .i64 (xl : Int)) (.int .i64 time) (.int .i64 (m.count + 1))
    rw [hU] at hst
    have HST := Lib.hid hst
    have hd0 := H2.out
    rw [hU0] at hd0
    have HDU := Lib.hid (hd0.of_below hBU)
    have hokc : DkOk 300 { m with count := m.count + 1 } := ⟨Nat.le_succ_of_le HOK.out.seen, Nat.le_succ_of_le HOK.out.both, Nat.le_succ_of_le HOK.out.bod, by have := HCT.out.1; show 0 ≤ m.count + 1; omega, by have := HCT.out.2; show m.count + 1 ≤ _; omega, HOK.out.shS, HOK.out.shF, HOK.out.chk, HOK.out.inS, HOK.out.inF, HOK.out.inW, HOK.out.bs⟩
    have HOKC := Lib.hid hokc
    obtain ⟨hxle, hpl⟩ := writeP_small HCD.out
    have HOKB := Lib.hid (HOK.out.bodyW x hxle)
    have HPL := Lib.hid (goodL_len hpl)
    have hlw : LsC U q (bytC x) := (HL.out.keep (w' := U) (fun c hns hc => by
      rw [hBU.block c (by rw [hs0]; exact Nat.lt_of_lt_of_le hc HB1.out.size), ← hU0, Below.heap_setCell _ _ _ _ (fun e2 => hns (by rw [e2]; exact H.out.sb))]
      exact HB1.out.block c hc) (Nat.le_trans HB1.out.size (by rw [← hs0]; exact hBU.size))).at_
    have HCL := Lib.hid (clone8_any x q xl cap U.drew HXL.out (hlw.of_below (Below.refl _ _).drew) HL.out.nil (by have := HL.out.le; rw [HXL.out] at this; exact this) (by have := HXL.out; omega))
    have HST0 := Lib.hid hst
    have HSTK := Lib.hid (fun (u : World) (hb : u.heap[U0.heap.size]? = U.heap[U0.heap.size]?) => three_kept hst hb)
    obtain ⟨s1, s2, s3⟩ := hst
    obtain ⟨r1, r2, r3⟩ := HSTK.out U.drew rfl
    have HBW : Hid (Kq8 S w U) := Lib.hid ⟨by rw [hBU.os, ← hU0]; exact HB1.out.os, by rw [hBU.tape, ← hU0]; exact HB1.out.tape, by rw [hBU.output, ← hU0]; exact HB1.out.output, Nat.le_trans HB1.out.size (by rw [← hs0]; exact hBU.size), fun k hk hn => by
      rw [hBU.block k (by rw [hs0]; exact Nat.lt_of_lt_of_le hk HB1.out.size), ← hU0, Below.heap_setCell _ _ _ _ (fun e2 => hn (by rw [e2]; exact H.out.sb))]
      exact HB1.out.block k hk⟩
    rw [HU0.out, HZ0.out.symm, HU.out]
    clear hokc hxle hpl hlw hBU hU hU0 hd0 c1 f1 c12 hs0 hs1
    go_region_held3 (fun u : World => u.cell? ⟨U0.heap.size, 0, none⟩ = some (.int .i64 (xl : Int)) ∧ u.cell? ⟨U0.heap.size, 1, none⟩ = some (.int .i64 time) ∧ u.cell? ⟨U0.heap.size, 2, none⟩ = some (.int .i64 (m.count + 1))) (first | exact ⟨r1, r2, r3⟩ | exact ⟨z1, z2, z3⟩ | exact ⟨y1, y2, y3⟩ | exact ⟨t1, t2, t3⟩ | go_keep) ((first
      | (go_at_call 109
         refine HCL.out.mono ?_
         rintro e w3 ⟨v, rfl, hO, hB3⟩
         obtain ⟨q3, c3, hv3⟩ := own_slice hO
         subst hv3
         have hB3b : Below U.heap.size U w3 := ((Below.refl _ _).drew).trans (by exact hB3)
         obtain ⟨z1, z2, z3⟩ := HSTK.out w3 (hB3b.block _ (by rw [HZ1.out]; omega))
         have hO2 : w3.ownsRow U.heap.size 5 1 (.slice q3 xl c3) x.length (bytC x) := by rw [HXL.out]; exact hO
         have hD3 := HDU.out.body HOKC.out hB3b x q3 xl c3 hO2
         have HD3 := Lib.hid hD3
         have hWR := writing_any (slPut sl m.bodies.length ⟨q3, xl, c3⟩) (fileW m p x time) w3 (Nat.lt_of_le_of_lt HPL.out (by decide))
         unfold fileW at hWR
         simp only [slPut_at, HXL.out] at hWR
         have HWR := Lib.hid hWR
         have HB3 := Lib.hid hB3b
         clear hO hB3 hB3b hO2 hD3 hWR)
      | (go_at_call 118
         refine HWR.out.mono ?_
         rintro e w4 ⟨rfl, hb1, hb2, hB4⟩
         obtain ⟨y1, y2, y3⟩ := HSTK.out w4 ((hB4.block _ (Nat.lt_of_lt_of_le (by rw [HZ1.out]; omega) HB3.out.size)).trans (HB3.out.block _ (by rw [HZ1.out]; omega)))
         have hD4 : Dp w4 (SN S U.heap.size w4.heap.size) b (Go.Proofs.YtkajeepbelfpiaaGreatDoor.bodyW m x) mv md pv vs (slPut sl m.bodies.length ⟨q3, xl, c3⟩) :=
           (HD3.out.wide hB4).keep (fun _ _ => rfl) (fun k hk => SN.join HB3.out.size hB4.size k hk) (SN.low (HDU.out.low) (Nat.le_trans HB3.out.size hB4.size))
         have hcl : ClsV w4 (SN S U.heap.size w4.heap.size) (slPut sl m.bodies.length ⟨q3, xl, c3⟩) ⟨1, [], fileW m p x time⟩ (.func (.func 162) #[] #[.pointer (some ⟨w3.heap.size, 0, none⟩), .pointer (some ⟨w3.heap.size + 1, 0, none⟩)]) :=
           .write _ _ rfl rfl hb1 (by
             have e : fileW m p x time = ⟨p, m.bodies.length, (xl : Int), time, m.count + 1⟩ := by unfold fileW; rw [HXL.out]
             show BoxF _ _ _ (fileW m p x time)
             rw [e]
             exact hb2) (.inr ⟨HB3.out.size, hb1.lt⟩) (.inr ⟨Nat.le_succ_of_le HB3.out.size, hb2.lt⟩)
         have HDO := Lib.hid (do_any hD4 HOKB.out hcl (Nat.lt_of_le_of_lt HPL.out (by decide)) (fun _ => by
           show (x.length : Int) = (((m.bodies ++ [x]).getD m.bodies.length []).length : Int)
           rw [List.getD_eq_getElem?_getD, List.getElem?_append_right (Nat.le_refl _)]
           simp))
         have HB4 := Lib.hid hB4
         clear hb1 hb2 hB4 hD4 hcl)
      | (go_at_call 117
         refine HDO.out.mono ?_
         rintro e w5 ⟨rfl, hd, hk⟩
         have hns : ¬ SN S U.heap.size w4.heap.size U0.heap.size := fun e => by
           rcases e with e | e
           · have h1 := H.out.low _ e
             have h2 := HB1.out.size
             have h3 := HZ0.out
             omega
           · have := HZ1.out
             omega
         obtain ⟨t1, t2, t3⟩ := HSTK.out w5 ((hk.block _ (Nat.lt_of_lt_of_le (by rw [HZ1.out]; omega) (Nat.le_trans HB3.out.size HB4.out.size)) hns).trans ((HB4.out.block _ (Nat.lt_of_lt_of_le (by rw [HZ1.out]; omega) HB3.out.size)).trans (HB3.out.block _ (by rw [HZ1.out]; omega))))
         have HFIN : Hid (DPost S b w (changeL (Go.Proofs.YtkajeepbelfpiaaGreatDoor.bodyW m x) ⟨1, [], fileW m p x time⟩) w5) := Lib.hid (by
           obtain ⟨pv2, vs2, hd⟩ := hd
           have hB34 : Below U.heap.size U w4 := HB3.out.trans (HB4.out.mono HB3.out.size)
           have hp := DPost.after hB34 HDU.out.low (m := changeL (Go.Proofs.YtkajeepbelfpiaaGreatDoor.bodyW m x) ⟨1, [], fileW m p x time⟩) ⟨⟨_, _, _, _, _, hd⟩, hk⟩
           obtain ⟨⟨a1, a2, a3, a4, a5, hd5⟩, hk5⟩ := hp
           refine ⟨⟨a1, a2, a3, a4, a5, hd5.keep (fun _ _ => rfl) (fun i hi => ?_) (SN.low H.out.low (Nat.le_trans HBW.out.size hk5.size))⟩, ?_⟩
           · rcases hi with e | e
             · exact .inl e
             · exact .inr ⟨Nat.le_trans HBW.out.size e.1, e.2⟩
           · exact ⟨hk5.os.trans HBW.out.os, hk5.tape.trans HBW.out.tape, hk5.output.trans HBW.out.output, Nat.le_trans HBW.out.size hk5.size, fun i hi hn => (hk5.block i (Nat.lt_of_lt_of_le hi HBW.out.size) hn).trans (HBW.out.block i hi hn)⟩)
         clear hd hk hns)
      ))
    clear s1 s2 s3 r1 r2 r3 z1 z2 z3 y1 y2 y3 t1 t2 t3
    go_wp2
    go_ret
    rw [HW.out]
    exact ⟨rfl, HFIN.out⟩
  · have hne : ((cd : Int) != 0) = true := by simp; omega
    have HW := Lib.hid (show writeQ m p x time = (m, cd) by unfold writeQ; rw [HCD.out, if_neg h0])
    clear h0
    go_enter Tryz.func64, Tryz.ntmps64
    go_wp2_with fail
    refine HRF.out.mono ?_
    rintro e w1 ⟨rfl, hB1⟩
    have HB1 := Lib.hid hB1
    clear hB1
    go_wp2
    go_ret
    rw [HW.out]
    exact ⟨rfl, DPost.same H.out HB1.out⟩
end
end Go.Proofs.YtkajeepbelfpiaaGreatDoor
/- Paths of the program's disk: the map's keys, sorted. -/
set_option maxRecDepth 100000
namespace Go.Proofs.YtkajeepbelfpiaaGreatDoor
open Go Go.RowKit Go.WideShapes
attribute [-go_sem] Sha.exec_store
open Go.WideElems (rd rg rd_mk rg_of)
open Go.WideMaps (keyOf_string_mk)

def kbS : Value → S8
  | .string s => s.data.toList
  | _ => []
theorem mkS_data (p : S8) : (mkS p).data.toList = p := by unfold mkS; simp
theorem kbS_mk (p : S8) : kbS (.string (mkS p)) = p := mkS_data p
def unitR (_ : Value) : Option (DataW Unit × List MemPlace) := some (.nil, [])
theorem MpB.owns {w : World} {b : Nat} {l : List (S8 × Value)} (h : MpB w b l) (hk : ∀ x ∈ l, x.1.length ≤ 1000) (hn : l.length ≤ 100000) :
    ∃ D : DataW Unit, w.ownsMap Tryz.prog 9 unitR b l.length D ∧ (strKeys D).Perm (l.map (·.1)) ∧ Maps.size D = l.length := by
  obtain ⟨es, clock, hb, r⟩ := h
  have hsz := r.size
  have hrd : ∀ x ∈ es.toList, rd Tryz.prog 9 unitR x = some (.string (kbS x.key), .nil) := fun x hx => by
    obtain ⟨p, v, hm, e1, e2⟩ := r.mem hx
    have hl : p.length ≤ 1000 := hk _ hm
    have hkey := keyOf_string_mk (P := Tryz.prog) strT (s := mkS p) (by rw [mkS_size]; simp only [maxLen]; omega)
    rw [mkS_data] at hkey
    obtain ⟨key, val, born⟩ := x
    dsimp only at e1
    subst e1
    rw [kbS_mk]
    exact rd_mk (R := unitR) (yv := (DataW.nil, [])) hkey rfl
  have hrg : es.toList.map (rg Tryz.prog 9 unitR) = es.toList.map fun x => (.string (kbS x.key), .nil) := List.map_congr_left fun x hx => rg_of (hrd x hx)
  refine ⟨_, ⟨es, clock, hb, ⟨by simp only [maxLen]; omega, r.st, fun x hx => ⟨_, hrd x hx⟩⟩, by omega, rfl⟩, ?_, ?_⟩
  · show ((List.foldr DataW.insert [] _).map fun p => _root_.Go.strOf p.1).Perm _
    refine ((sorted_perm _).map _).trans ?_
    rw [hrg, List.map_map]
    have e1 : (es.toList.map ((fun p : Lit × DataW Unit => _root_.Go.strOf p.1) ∘ fun x : MapEntry => (Lit.string (kbS x.key), DataW.nil))) = (es.toList.map kvE).map fun x => kbS x.1 := by
      rw [List.map_map]
      rfl
    rw [e1]
    refine (r.kv.map _).trans (List.Perm.of_eq ?_)
    rw [List.map_map]
    exact List.map_congr_left fun x _ => kbS_mk x.1
  · show (List.foldr DataW.insert [] _).length = _
    rw [length_sorted, List.length_map, ← hsz]
    simp
theorem encStr_mk (l : List S8) : l.map encStr = l.map fun s => .string (mkS s) := List.map_congr_left fun s _ => by show Value.string ⟨s.toArray⟩ = _; rw [mkS_lit]
section
variable {w w' : World} {S S' : Nat → Prop} {b : Nat} {m : Dk} {mv md : Nat} {pv : Value} {vs : List Value} {sl : Nat → Hn}
theorem sort_strict {l : List S8} (hn : l.Nodup) : ((l.mergeSort fun x y => decide (x ≤ y))).Pairwise fun x y => decide (y ≤ x) = false := by
  have tr : ∀ a b c : S8, (fun x y : S8 => decide (x ≤ y)) a b = true → (fun x y : S8 => decide (x ≤ y)) b c = true → (fun x y : S8 => decide (x ≤ y)) a c = true := fun a b c h1 h2 => by simp only [decide_eq_true_eq] at *; exact List.le_trans h1 h2
  have to : ∀ a b : S8, ((fun x y : S8 => decide (x ≤ y)) a b || (fun x y : S8 => decide (x ≤ y)) b a) = true := fun a b => by simp only [Bool.or_eq_true, decide_eq_true_eq]; exact List.le_total a b
  have h1 := List.pairwise_mergeSort tr to l
  have h2 : (l.mergeSort fun x y => decide (x ≤ y)).Nodup := ((List.mergeSort_perm l _).nodup_iff).2 hn
  refine (h1.and h2).imp fun {x y} h => ?_
  rw [decide_eq_false_iff_not]
  intro h3
  have h4 : x ≤ y := by simpa using h.1
  exact h.2 (List.le_antisymm h4 h3)
set_option maxRecDepth 100000 in
set_option maxHeartbeats 4000000 in
theorem paths_any (h : Dp w S b m mv md pv vs sl) (hok : DkOk 300 m) : Calls Tryz.prog 129 #[.pointer (some ⟨b, 0, none⟩)] w fun e w' => ∃ (v : Value) (ls : List S8), e = .returned v ∧ ls.Perm (m.seen.map Fl.p) ∧ ls.Pairwise (fun x y => decide (y ≤ x) = false) ∧ w'.ownsRow w.heap.size 9 1 v ls.length (ls.map fun s => .string (mkS s)) ∧ Below w.heap.size w w' := by
  have c2 := h.cell 2
  simp at c2
  obtain ⟨D, hown, hperm, hsize⟩ := h.vis.owns (fun x hx => by
    obtain ⟨f, hf, rfl⟩ := List.mem_map.1 hx
    have := (shortF_iff.1 hok.shS) f hf
    exact Nat.le_trans this (by decide)) (by rw [List.length_map]; have := hok.seen; omega)
  rw [List.length_map] at hsize hown
  have e0 : (m.seen.map (entV sl)).map (·.1) = m.seen.map Fl.p := by rw [List.map_map]; rfl
  rw [e0] at hperm
  have HPM := Lib.hid hperm
  have HON := Lib.hid h.vis.once
  have HKY := Lib.hid (callsIn_wide.1 (Tryz.maps_Keys_174 (some mv) w))
  have hsn := hok.seen
  have HST := Lib.hid (callsIn_wide.1 (Tryz.slices_Sorted_keys_81_174 mv m.seen.length D unitR w hown (by rw [hsize]; simp only [maxLen]; omega) (by rw [hsize]; omega)))
  have HSZ := Lib.hid (World.size_alloc w (.cells #[.map (some mv)] 127))
  have HB := Lib.hid ((Below.refl w.heap.size w).alloc (Nat.le_refl _) (.cells #[.map (some mv)] 127))
  clear h hok hown hperm hsize hsn e0
  go_enter Tryz.func129, Tryz.ntmps129
  go_wp2_with fail
  refine HKY.out.mono ?_
  rintro e w2 ⟨rfl, rfl⟩
  go_wp2_with fail
  refine HST.out.mono ?_
  rintro e w3 ⟨v, ss, rfl, hp, hrow, _, hB⟩
  have HX := Lib.hid (And.intro hp (And.intro hrow hB))
  clear hp hrow hB HKY HST
  go_wp2
  go_ret
  obtain ⟨hp, hrow, hB⟩ := HX.out
  have hpp := hp.trans HPM.out
  refine ⟨v, ss.mergeSort (fun x y => decide (x ≤ y)), rfl, (List.mergeSort_perm ss _).trans hpp, sort_strict ((hpp.nodup_iff).2 HON.out), ?_, HB.out.trans (hB.mono HB.out.size)⟩
  rw [(List.mergeSort_perm ss _).length_eq, ← encStr_mk]
  exact own_lower hrow HB.out.size
end
end Go.Proofs.YtkajeepbelfpiaaGreatDoor
/- A row appended to rows of the call's own inside a region that draws; headers that lie. -/
set_option maxRecDepth 100000
namespace Go.Proofs.YtkajeepbelfpiaaGreatDoor
open Go Go.RowKit
attribute [-go_sem] Sha.exec_store

/-- Headers of the bytes bs lie where p says. -/
def Lay (w : World) (p : Option Addr) (bs : List (List (BitVec 8))) : Prop :=
  ∀ i, i < bs.length → ∃ c o q d, p = some ⟨c, o, none⟩ ∧ w.cell? ⟨c, o + i, none⟩ = some (.slice q (bs.getD i []).length d) ∧ Sl w q (bs.getD i []) ∧ (q = none → d = 0)
theorem Lay.of_below {w w' : World} {p : Option Addr} {bs : List (List (BitVec 8))} (h : Lay w p bs) (k : Below w.heap.size w w') : Lay w' p bs := fun i hi => by
  obtain ⟨c, o, q, d, e, hc, hs, hq⟩ := h i hi
  exact ⟨c, o, q, d, e, by rw [k.cell (by exact World.block_lt_of_cell? w _ hc)]; exact hc, hs.of_below k, hq⟩
theorem Hds.lay {w : World} {N : Nat} {v : Value} {bs : List (List (BitVec 8))} (h : Hds w N v bs) : ∃ p cap, v = .slice p bs.length cap ∧ (p = none → cap = 0) ∧ bs.length ≤ cap ∧ Lay w p bs := by
  obtain ⟨p, cap, e, h1, h2, -, h3⟩ := h.shape
  exact ⟨p, cap, e, h1, h2, h3⟩
/-- What lies from lo to hi is as it was. -/
def Fr12 (W u : World) (lo hi : Nat) : Prop := hi ≤ u.heap.size ∧ ∀ g, lo ≤ g → g < hi → u.heap[g]? = W.heap[g]?
theorem Fr12.of_below {W u u' : World} {lo hi : Nat} (h : Fr12 W u lo hi) (k : Below u.heap.size u u') : Fr12 W u' lo hi :=
  ⟨Nat.le_trans h.1 k.size, fun g h1 h2 => by rw [k.block g (Nat.lt_of_lt_of_le h2 h.1)]; exact h.2 g h1 h2⟩
theorem Fr12.grown {W u u' : World} {lo hi : Nat} {own : Option Nat} (h : Fr12 W u lo hi) (k : u.grownBy u' own) (ho : ∀ g, own = some g → g < lo ∨ hi ≤ g) : Fr12 W u' lo hi :=
  ⟨Nat.le_trans h.1 k.size, fun g h1 h2 => by rw [k.block g (Nat.lt_of_lt_of_le h2 h.1) (fun e => by have := ho g e.symm; omega)]; exact h.2 g h1 h2⟩
end Go.Proofs.YtkajeepbelfpiaaGreatDoor
/- The records of an archive in the order of their paths. -/
set_option maxRecDepth 100000
namespace Go.Proofs.YtkajeepbelfpiaaGreatDoor
open Go Go.RowKit Go.WideShapes

attribute [-go_sem] Sha.exec_store
theorem perm_sorted11 {α : Type} {R : α → α → Prop} (anti : ∀ a b, R a b → R b a → a = b) : ∀ {l1 l2 : List α}, l1.Perm l2 → l1.Pairwise R → l2.Pairwise R → l1 = l2
  | [], l2, hp, _, _ => (List.Perm.eq_nil hp.symm).symm
  | a :: l1, [], hp, _, _ => absurd hp.length_eq (by simp)
  | a :: l1, b :: l2, hp, h1, h2 => by
    have hab : a = b := by
      rw [List.pairwise_cons] at h1 h2
      have ha : a ∈ b :: l2 := hp.mem_iff.1 (by simp)
      have hb : b ∈ a :: l1 := hp.mem_iff.2 (by simp)
      rcases List.mem_cons.1 ha with e | ha
      · exact e
      rcases List.mem_cons.1 hb with e | hb
      · exact e.symm
      · exact anti a b (h1.1 b hb) (h2.1 a ha)
    subst hab
    rw [List.pairwise_cons] at h1 h2
    rw [perm_sorted11 anti hp.cons_inv h1.2 h2.2]
def leE (x y : Ent) : Bool := decide (x.1.path ≤ y.1.path)
/-- The records by increasing path. -/
def sortA (es : List Ent) : List Ent := es.mergeSort leE
theorem sortA_perm (es : List Ent) : (sortA es).Perm es := List.mergeSort_perm es leE
theorem sortA_len (es : List Ent) : (sortA es).length = es.length := (sortA_perm es).length_eq
theorem sortA_mem {es : List Ent} {e : Ent} : e ∈ sortA es ↔ e ∈ es := (sortA_perm es).mem_iff
theorem leE_tr (a b c : Ent) (h1 : leE a b = true) (h2 : leE b c = true) : leE a c = true := by
  unfold leE at *
  simp only [decide_eq_true_eq] at *
  exact List.le_trans h1 h2
theorem leE_to (a b : Ent) : (leE a b || leE b a) = true := by
  unfold leE
  simp only [Bool.or_eq_true, decide_eq_true_eq]
  exact List.le_total _ _
theorem sortA_le (es : List Ent) : ((sortA es).map fun e => e.1.path).Pairwise (fun x y => x ≤ y) := by
  rw [List.pairwise_map]
  exact (List.pairwise_mergeSort leE_tr leE_to es).imp fun h => by unfold leE at h; simpa using h
theorem sortA_keys {es : List Ent} {ls : List S8} (hp : ls.Perm (es.map fun e => e.1.path)) (hs : ls.Pairwise (fun x y => x ≤ y)) : ls = (sortA es).map fun e => e.1.path :=
  perm_sorted11 (fun a b => List.le_antisymm) (hp.trans ((sortA_perm es).map _).symm) hs (sortA_le es)
/-- The order does not matter. -/
theorem sortA_congr {es es' : List Ent} (hp : es.Perm es') (hk : (es.map fun e => e.1.path).Nodup) : sortA es = sortA es' := by
  have hk' : ((sortA es).map fun e => e.1.path).Nodup := (((sortA_perm es).map _).nodup_iff).2 hk
  refine perm_sorted11 (R := fun x y => leE x y = true ∧ x ∈ es ∧ y ∈ es) (fun a b h1 h2 => ?_) (((sortA_perm es).trans hp).trans (sortA_perm es').symm) ?_ ?_
  · have e1 : a.1.path = b.1.path := by
      have x1 := h1.1
      have x2 := h2.1
      unfold leE at x1 x2
      simp only [decide_eq_true_eq] at x1 x2
      exact List.le_antisymm x1 x2
    have : ∀ (l : List Ent), (l.map fun e => e.1.path).Nodup → a ∈ l → b ∈ l → a = b := fun l => by
      induction l with
      | nil => intro _ h; cases h
      | cons x l ih =>
        intro hn ha hb
        rw [List.map_cons, List.nodup_cons] at hn
        rcases List.mem_cons.1 ha with ea | ha2
        · rcases List.mem_cons.1 hb with eb | hb2
          · rw [ea, eb]
          · exact absurd (List.mem_map.2 ⟨b, hb2, by rw [← e1, ea]⟩) hn.1
        · rcases List.mem_cons.1 hb with eb | hb2
          · exact absurd (List.mem_map.2 ⟨a, ha2, by rw [e1, eb]⟩) hn.1
          · exact ih hn.2 ha2 hb2
    exact this es hk h1.2.1 h1.2.2
  · have := List.pairwise_mergeSort leE_tr leE_to es
    refine (List.Pairwise.and_mem.1 this).imp fun h => ⟨h.2.2, sortA_mem.1 h.1, sortA_mem.1 h.2.1⟩
  · have := List.pairwise_mergeSort leE_tr leE_to es'
    refine (List.Pairwise.and_mem.1 this).imp fun h => ⟨h.2.2, hp.mem_iff.2 (sortA_mem.1 h.1), hp.mem_iff.2 (sortA_mem.1 h.2.1)⟩
set_option maxRecDepth 100000 in
theorem keysA_any {w : World} {mb : Nat} {es : List Ent} (h : MpB w mb (es.map entA)) (hlen : ∀ e ∈ es, e.1.path.length ≤ 1000) (hn : es.length ≤ 128) :
    Calls Tryz.prog 81 #[.func (.func 147) #[] #[.pointer (some ⟨w.heap.size, 0, none⟩)]] (w.alloc (.cells #[.map (some mb)] 106)) fun e w' => ∃ v, e = .returned v ∧
      w'.ownsRow (w.heap.size + 1) 9 1 v es.length ((sortA es).map fun e => .string (mkS e.1.path)) ∧ Below (w.heap.size + 1) (w.alloc (.cells #[.map (some mb)] 106)) w' := by
  obtain ⟨D, hown, hperm, hsize⟩ := h.owns (fun x hx => by
    obtain ⟨e, he, rfl⟩ := List.mem_map.1 hx
    exact hlen e he) (by rw [List.length_map]; omega)
  rw [List.length_map] at hsize hown
  have e0 : (es.map entA).map (·.1) = es.map fun e => e.1.path := by rw [List.map_map]; rfl
  rw [e0] at hperm
  have hz : (w.alloc (.cells #[.map (some mb)] 106)).heap.size = w.heap.size + 1 := World.size_alloc _ _
  refine (callsIn_wide.1 (Tryz.slices_Sorted_keys_81_96 mb es.length D unitR w hown (by rw [hsize]; simp only [maxLen]; omega) (by rw [hsize]; omega))).mono ?_
  rintro e w3 ⟨v, ss, rfl, hp, hrow, _, hB⟩
  rw [hz] at hB hrow
  have hpp := hp.trans hperm
  have tr : ∀ a b c : S8, (fun x y : S8 => decide (x ≤ y)) a b = true → (fun x y : S8 => decide (x ≤ y)) b c = true → (fun x y : S8 => decide (x ≤ y)) a c = true := fun a b c h1 h2 => by simp only [decide_eq_true_eq] at *; exact List.le_trans h1 h2
  have to : ∀ a b : S8, ((fun x y : S8 => decide (x ≤ y)) a b || (fun x y : S8 => decide (x ≤ y)) b a) = true := fun a b => by simp only [Bool.or_eq_true, decide_eq_true_eq]; exact List.le_total a b
  have hs := List.pairwise_mergeSort tr to ss
  have hkey := sortA_keys (es := es) (ls := ss.mergeSort fun x y => decide (x ≤ y)) ((List.mergeSort_perm ss _).trans hpp) (hs.imp fun h => by simpa using h)
  have hl : ss.length = es.length := by rw [hpp.length_eq, List.length_map]
  rw [hkey, encStr_mk, List.map_map, hl] at hrow
  exact ⟨v, rfl, hrow, hB⟩
end Go.Proofs.YtkajeepbelfpiaaGreatDoor
/- sidecar: the number of stripes, the length of a sidecar, one of its entries. -/
set_option maxRecDepth 100000
namespace Go.Proofs.YtkajeepbelfpiaaGreatDoor
open Go Go.RowKit

attribute [-go_sem] Sha.exec_store
/-- A slice seen as an array of 32 bytes. -/
def apT (t : TypeId) (x : Value) : Sem Next := do pure (.value (← Instr.arrayAt t x))
theorem exec_apT (r : Operand → Value) (dst : Option Tmp) (t : TypeId) (x : Operand) (ty : TypeId) (pos : String) (after : Array Edge) (guard : Option (Nat × Bool)) :
    execOp r ⟨dst, .sliceToArrayPointer t x, ty, pos, after, guard⟩ = apT t (r x) := rfl
theorem ap32 (a : Option Addr) (n cap : Nat) (w : World) (h : 32 ≤ n) : (apT 41 (.slice a n cap)).run Tryz.prog w = .ok (.value (.pointer a)) w := by
  unfold apT Instr.arrayAt
  simp [run_underlying und32, show ¬ n < 32 by omega]
theorem exec_store12 (r : Operand → Value) (dst : Option Tmp) (p v : Operand) (ty : TypeId) (pos : String) (after : Array Edge) (guard : Option (Nat × Bool)) :
    execOp r ⟨dst, .store 41 p v, ty, pos, after, guard⟩ = stT 41 (r p) (r v) := rfl
attribute [local go_sem ↓] exec_alloc32 exec_store12 exec_slice exec_apT exec_load32
attribute [local go_sem] ap32
end Go.Proofs.YtkajeepbelfpiaaGreatDoor
/- A range over an iterator that first makes memory of its own, then hands out stripes of it: sidecar.stripes. -/
set_option maxRecDepth 100000
namespace Go.Proofs.YtkajeepbelfpiaaGreatDoor
open Go Go.RowKit Go.Shelf
attribute [-go_sem] Sha.exec_store

theorem Fr12.refl (W : World) (lo : Nat) : Fr12 W W lo W.heap.size := ⟨Nat.le_refl _, fun _ _ _ => rfl⟩
theorem Fr12.trans {W u v : World} {lo hi : Nat} (h : Fr12 W u lo hi) (k : Fr12 u v lo hi) : Fr12 W v lo hi := ⟨k.1, fun g h1 h2 => (k.2 g h1 h2).trans (h.2 g h1 h2)⟩
theorem fr_put {A : World} {lo hi k : Nat} {o : Obj} (hk : k < lo) (hs : hi ≤ A.heap.size) (hlt : k < A.heap.size) : Fr12 A (A.putObj k o) lo hi :=
  ⟨Nat.le_trans hs (below_putP (N := 0) o (Nat.zero_le _) hlt).size, fun g h1 _ => World.putObj_heap_other (by omega)⟩
def bodyOutM (lo hi : Nat) (I : Nat → World → Prop) (A : World) (s : Nat) : Exit → Act → World → Prop
  | .normal, _, A' => KeepsOthers A A' ∧ Fr12 A A' lo hi ∧ I (s + 1) A'
  | _, _, _ => False
end Go.Proofs.YtkajeepbelfpiaaGreatDoor
/- (*archive.Archive).All and its iterator, in a range. -/
set_option maxRecDepth 100000
namespace Go.Proofs.YtkajeepbelfpiaaGreatDoor
open Go Go.RowKit Go.Shelf

attribute [-go_sem] Sha.exec_store
theorem mkFnA11 : ∀ (fn : Fn) (first cap : Array Value) (w : World), (Instr.makeFunc fn first cap).run Tryz.prog w = .ok (.func fn first cap) w := fun _ _ _ _ => rfl
section
attribute [local go_sem] mkFnA11
theorem all_any (v : Value) (hv : v.oneCell' = true) (hc : v.cells = #[v]) (u : World) : Calls Tryz.prog 43 #[v] u fun e w' => e = .returned (.func (.func 95) #[] #[.pointer (some ⟨u.heap.size, 0, none⟩)]) ∧ w' = u.alloc (.cells #[v] 26) := by
  go_enter Tryz.func43, Tryz.ntmps43
  go_wp2
  go_ret
  exact ⟨rfl, rfl⟩
end
theorem goodR_fac11 {r : Rc} (h : goodR r = true) : r.path.length ≤ 100 := (goodR_facts h).1
def ent0 : Ent := (rc0, [])
/-- What the iterator of an archive's records does with the loop's body. -/
def ArSeq (m bb : Nat) (L : List Ent) (w : World) : Prop :=
  ∀ (lp : Nat) (J0 : World → Prop) (J : Nat → Nat → Nat → World → Prop) (A : World), Below w.heap.size w A →
    (∀ B B', J0 B → Below B.heap.size B B' → J0 B') →
    (∀ lo hi s B B', J lo hi s B → hi ≤ B.heap.size → Below B.heap.size B B' → J lo hi s B') →
    (∀ lo hi s B, J lo hi s B → ∀ e ∈ L, DgAt B e.1 e.2) →
    (∀ B, Below A.heap.size A B → J0 B → J A.heap.size B.heap.size 0 B) →
    (∀ lo hi s B q c, s < L.length → J lo hi s B → hi ≤ B.heap.size → DgAt B ((L.getD s ent0).1.mov q c) (L.getD s ent0).2 → (∀ cc oo, q = some ⟨cc, oo, none⟩ → hi ≤ cc ∧ lo ≤ cc) →
      YieldAt Fence.wide (m - 1) Tryz.prog lp #[rcV ((L.getD s ent0).1.mov q c)] B fun e B' => e = .returned (.bool true) ∧ J lo hi (s + 1) B' ∧ Fr12 B B' lo hi) →
    J0 A → CallsIn Fence.wide m Tryz.prog 95 (#[.func (.yield lp) #[] #[]] ++ #[.pointer (some ⟨bb, 0, none⟩)]) A fun e A' => (∃ v, e = .returned v) ∧ ∃ lo hi, J lo hi L.length A'
theorem findA_mem {es : List Ent} (hk : (es.map fun e => e.1.path).Nodup) {e : Ent} (he : e ∈ es) : findA es e.1.path = some e := by
  unfold findA
  induction es with
  | nil => cases he
  | cons x l ih =>
    rw [List.map_cons, List.nodup_cons] at hk
    rw [List.find?_cons]
    rcases List.mem_cons.1 he with e1 | e1
    · rw [e1]; simp
    · have : (x.1.path == e.1.path) = false := by
        rw [beq_eq_false_iff_ne]
        intro h
        exact hk.1 (List.mem_map.2 ⟨e, e1, h.symm⟩)
      rw [this]
      exact ih hk.2 e1
theorem LsC.fr {W u : World} {lo hi : Nat} {p : Option Addr} {cs : List Value} (h : LsC W p cs) (hp : ∀ c o, p = some ⟨c, o, none⟩ → lo ≤ c ∧ c < hi) (hf : Fr12 W u lo hi) : LsC u p cs :=
  h.keep fun c o e hl => hf.2 c (hp c o e).1 (hp c o e).2
attribute [local go_sem] Oper.semAt_some
set_option maxRecDepth 100000 in
set_option maxHeartbeats 4000000 in
theorem all_seq (m : Nat) (hm : 3 ≤ m) (bb b mb : Nat) (gen : Int) (es : List Ent) (w : World) (hbb : w.cell? ⟨bb, 0, none⟩ = some (.pointer (some ⟨b, 0, none⟩))) (hA : ArAt w b mb gen es) (hnd : ∀ e ∈ es, e.2.length < 100000) : ArSeq m bb (sortA es) w := by
  intro lp J0 J A hBA hst0 hst hdg hstart hY h0
  have hm1 : 1 ≤ m := by omega
  have cb : A.cell? ⟨bb, 0, none⟩ = some (.pointer (some ⟨b, 0, none⟩)) := by rw [hBA.cell (by exact World.block_lt_of_cell? w _ hbb)]; exact hbb
  have hA1 := hA.of_below hBA
  have c1 := hA1.cell1
  obtain ⟨ms, clock, hmm⟩ := hA1.map.is
  have hplen : ∀ e ∈ es, e.1.path.length ≤ 1000 := fun e he => Nat.le_trans (goodR_fac11 (hA.good e he)) (by decide)
  have HCL := Lib.hid (mapCloneA_any mb ms clock A hmm)
  have hcp := hA1.map.copied ms clock hmm
  obtain ⟨lo, hlo⟩ : ∃ lo, A.heap.size = lo := ⟨_, rfl⟩
  rw [hlo] at hcp HCL
  obtain ⟨W1, hW1⟩ : ∃ W, A.alloc (.map ms clock) = W := ⟨_, rfl⟩
  have hB1 : Below A.heap.size A W1 := by rw [← hW1]; exact (Below.refl _ _).alloc (Nat.le_refl _) _
  rw [hW1] at hcp HCL
  have HKY := Lib.hid (callsIn_wide.1 (Tryz.maps_Keys_96 (some lo) W1))
  have HST := Lib.hid (keysA_any hcp hplen hA.few)
  have hB2 : Below W1.heap.size W1 (W1.alloc (.cells #[.map (some lo)] 106)) := (Below.refl _ _).alloc (Nat.le_refl _) _
  have hz1 : W1.heap.size = lo + 1 := by rw [← hW1, ← hlo]; simp
  obtain ⟨n, hn⟩ : ∃ n, es.length = n := ⟨_, rfl⟩
  have hn128 : n ≤ 128 := by rw [← hn]; exact hA.few
  rw [hn] at HST
  have HN := Lib.hid (show (sortA es).length = n by rw [sortA_len, hn])
  have HCP := Lib.hid hcp
  have HB1 := Lib.hid hB1
  have HB2 := Lib.hid hB2
  have HZ1 := Lib.hid (And.intro hz1 hlo)
  have HSS := Lib.hid (fun B hB => hstart B hB (hst0 A B h0 hB))
  have HJS := Lib.hid hst
  have HDG := Lib.hid hdg
  have HY := Lib.hid hY
  have HAR := Lib.hid hA
  have HNE := Lib.hid hnd
  clear hbb hA hBA hst0 hst hdg hstart hY h0 hA1 hmm hplen hcp hlo hB1 hB2 hz1 hn hW1 hnd
  refine callsIn_of_wp Tryz.func95 rfl trivial ?_ rfl
  simp only [Tryz.ntmps95, List.size_toArray, List.length_cons, List.length_nil, Nat.reduceAdd, Nat.reduceSub, Array.replicate_succ, Array.replicate_zero, List.push_toArray, List.append_toArray, List.nil_append, List.cons_append]
  gi_wp2_with (first
    | (refine ⟨trivial, ?_⟩; gi_at_call 45; refine (callsIn_wide.2 HCL.out).mono ?_; rintro e w1 ⟨rfl, rfl⟩)
    | (refine ⟨trivial, ?_⟩; gi_at_call 96; refine (callsIn_wide.2 HKY.out).mono ?_; rintro e w2 ⟨rfl, rfl⟩)
    | (refine ⟨trivial, ?_⟩; gi_at_call 81; refine (callsIn_wide.2 HST.out).mono ?_; rintro e w3 ⟨v, rfl, hrow, hB3⟩; obtain ⟨p, cap, rfl, hls, hpn, hpc, hpb⟩ := own_shape hrow; have HLS := Lib.hid (And.intro hls hpb); have HB3 := Lib.hid hB3; clear hrow hls hpn hpc hpb hB3))
  obtain ⟨hi, hhi⟩ : ∃ h, w3.heap.size = h := ⟨_, rfl⟩
  have hs13 : w1.heap.size ≤ w3.heap.size := by have h1 := HB2.out.size; have h2 := HB3.out.size; omega
  have hbl3 : Below w1.heap.size w1 w3 := HB2.out.trans (HB3.out.mono (by omega))
  have hA3 : Below A.heap.size A w3 := HB1.out.trans (hbl3.mono HB1.out.size)
  have hz := HZ1.out
  have HHI := Lib.hid hhi
  have HLH := Lib.hid (show lo < hi by omega)
  have HJ := Lib.hid (show J lo hi 0 w3 from by have h := HSS.out w3 hA3; rw [hz.2, hhi] at h; exact h)
  have HM3 := Lib.hid (HCP.out.of_below hbl3)
  have HPB := Lib.hid (show ∀ c o, p = some ⟨c, o, none⟩ → lo ≤ c ∧ c < hi from fun c o e => by
    have h := HLS.out.2 c o e
    omega)
  clear hs13 hbl3 hA3 hz hhi HSS HST HKY HCL HCP
  gi_loopw [15] (fun f wr => ∃ s : Nat, s ≤ n ∧ f = .int .i64 (s : Int) ∧ J lo hi s wr ∧ Fr12 w3 wr lo hi) (fun f _ => n - (intOf f).toNat)
  case atStart => exact ⟨0, Nat.zero_le _, rfl, HJ.out, ⟨Nat.le_of_eq HHI.out.symm, fun _ _ _ => rfl⟩⟩
  case round =>
    obtain ⟨s, hsn, rfl, hJ, hFr⟩ := hrel
    have HJs := Lib.hid hJ
    have HFR := Lib.hid hFr
    by_cases hlt : s < n
    · have z1 : (s : Int) < (n : Int) := by omega
      have z2 : decide ((s : Int) < (n : Int)) = true := decide_eq_true z1
      have z3 : decide (s < n) = true := decide_eq_true hlt
      obtain ⟨et, het⟩ : ∃ e, (sortA es).getD s ent0 = e := ⟨_, rfl⟩
      have hmem : et ∈ sortA es := by
        rw [← het, List.getD_eq_getElem?_getD, List.getElem?_eq_getElem (by rw [HN.out]; exact hlt)]
        exact List.getElem_mem _
      have hmem2 : et ∈ es := sortA_mem.1 hmem
      have hget : ((sortA es).map fun e => Value.string (mkS e.1.path))[s]? = some (.string (mkS et.1.path)) := by
        rw [List.getElem?_map, ← het, List.getD_eq_getElem?_getD, List.getElem?_eq_getElem (by rw [HN.out]; exact hlt)]
        rfl
      obtain ⟨c, o, ec, hclt, hck⟩ := (HLS.out.1.fr HPB.out hFr).cell hget
      subst ec
      have hMr : MpB wr lo (es.map entA) := HM3.out.keep (hFr.2 lo (Nat.le_refl _) HLH.out)
      have hl := run_lookup8 (P := Tryz.prog) mapA strT (zeroRc wr) hMr et.1.path false
      rw [findA_V, findA_mem HAR.out.keys hmem2] at hl
      have hl2 : (Instr.lookup 106 (.map (some lo)) (.string (mkS et.1.path)) false).run Tryz.prog wr = .ok (rcV et.1) wr := hl
      have HOW := Lib.hid (own_any et.1 et.2 wr (HDG.out lo hi s wr hJ et hmem) (HNE.out et hmem2))
      have HET := Lib.hid het
      obtain ⟨VE, hVE⟩ : ∃ V, rcV et.1 = V := ⟨_, rfl⟩
      rw [hVE] at hl2 HOW
      clear hl hMr hget hmem hmem2 het hVE hJ hFr
      gi_wp2_with (first
        | (refine ⟨trivial, ?_⟩; gi_at_call 47; refine (callsIn_wide.2 HOW.out).mono ?_; rintro e w4 ⟨q, cc, rfl, hB4, hD4, hq4⟩
           obtain ⟨fn, tmps, assign, body, hy, hR⟩ := HY.out lo hi s w4 q cc (by rw [HN.out]; exact hlt) (HJS.out lo hi s wr w4 HJs.out HFR.out.1 hB4) (Nat.le_trans HFR.out.1 hB4.size) (by rw [HET.out]; exact hD4) (fun c2 o2 e2 => by have h1 := HFR.out.1; have h2 := (hq4 c2 o2 e2).1; have h3 := HLH.out; omega)
           rw [HET.out] at hy
           have HF4 := Lib.hid (HFR.out.of_below hB4)
           clear hB4 hD4 hq4))
      refine hR.mono ?_
      rintro e W3 ⟨rfl, hJ3, hF3⟩
      have HJ3 := Lib.hid hJ3
      have HF3 := Lib.hid (HF4.out.trans hF3)
      clear hJ3 hF3
      gi_wp2
      go_roundw
      case rel => exact ⟨s + 1, by omega, by go_num, HJ3.out, HF3.out⟩
      case measure => simp [intOf]; omega
    · have z1 : ¬ (s : Int) < (n : Int) := by omega
      have z2 : decide ((s : Int) < (n : Int)) = false := decide_eq_false z1
      have z3 : decide (s < n) = false := decide_eq_false hlt
      have hse : s = n := by omega
      have HSE := Lib.hid hse
      clear hse hJ hFr
      gi_wp2
      go_end0
      exact ⟨⟨_, rfl⟩, lo, hi, by rw [HN.out, ← HSE.out]; exact HJs.out⟩
end Go.Proofs.YtkajeepbelfpiaaGreatDoor
