/- Merged texts: Usd8, Do8, RngC7, Hd7, LibI7, SplP7. -/
import Derived.Test.YtjglgohchhdkkaaGreatDoorK2
import Derived.RangeFuncNested
import Derived.RangeFuncBound
import Derived.RangeFuncCalls
import Derived.RangeFuncLeaves
import Derived.Shelf.Abstract
import Derived.Shelf.RegionOpen
import Derived.WalkKit
import Derived.OwnWalkIn
import Derived.TacticsInMore
import Derived.LoopNIn
import Derived.LoopIn
import Derived.Test.YtjglgohchhdkkaaGreatDoorStr7
import Derived.Lib.Bytealg
import Derived.Laws.Externs
import Derived.Deep.QuietTactic
import Derived.OwnWalk
import Derived.Lib.Hide
import Derived.Lib.OthersKept
set_option linter.unusedSimpArgs false
set_option linter.unusedVariables false
/- Used and clashes of the program's disk: ranges over the map. -/
namespace Go.Proofs.YtjglgohchhdkkaaGreatDoor
open Go Go.RowKit

theorem RngB.of_todo {w : World} {b r : Nat} {l todo todo2 : List (S8 × Value)} (h : RngB w b r l todo) (hp : todo.Perm todo2) : RngB w b r l todo2 := by
  obtain ⟨es, clock, since, seen, c0, h1, h2, h3, h4, h5, h6, h7⟩ := h
  exact ⟨es, clock, since, seen, c0, h1, h2, h3, h4, h5, h6, h7.trans (hp.map _)⟩
theorem ent_step {sl : Nat → Hn} {todo : List Fl} {k : S8} {v : Value} {t : List (S8 × Value)} (h : (todo.map (entV sl)).Perm ((k, v) :: t)) : ∃ f t2, todo.Perm (f :: t2) ∧ k = f.p ∧ v = fileV sl f ∧ t.Perm (t2.map (entV sl)) := by
  have hm : (k, v) ∈ todo.map (entV sl) := h.mem_iff.2 List.mem_cons_self
  obtain ⟨f, hf, e⟩ := List.mem_map.1 hm
  obtain ⟨a, c, rfl⟩ := List.append_of_mem hf
  have hp : (a ++ f :: c).Perm (f :: (a ++ c)) := List.perm_middle
  have e2 : (f.p, fileV sl f) = (k, v) := e
  injection e2 with e3 e4
  refine ⟨f, a ++ c, hp, e3.symm, e4.symm, ?_⟩
  have h2 := h.symm.trans (hp.map (entV sl))
  rw [List.map_cons, e] at h2
  exact h2.cons_inv
theorem wpl_nextE {P : Program} (w : World) {ops : Array Oper} {rest : List Oper} {o : Oper} {a : Go.Act} {Q : Exit → Go.Act → World → Prop} {b r : Nat} {l : List (S8 × Value)} {sl : Nat → Hn} {todo : List Fl} (hg : o.guard = none) (it : Operand) (hop : o.op = Op.next it false) (hit : a.eval it = .pointer (some ⟨r, 0, none⟩)) (h : RngB w b r l (todo.map (entV sl)))
    (hD : todo = [] → wpList P ops Q rest (a.put o.dst (.tuple #[.bool false])) w)
    (hM : ∀ f t2 w', todo.Perm (f :: t2) → RngB w' b r l (t2.map (entV sl)) → (Instr.entry (.pointer (some ⟨r, 0, none⟩))).run P w' = .ok (.tuple #[.string (mkS f.p), .agg #[.int .i64 f.size, .int .i64 f.time, .int .i64 f.chg, .slice (sl f.body).q (sl f.body).n (sl f.body).c]]) w' → w.grownBy w' (some r) → w'.heap.size = w.heap.size → wpList P ops Q rest (a.put o.dst (.tuple #[.bool true, .string (mkS f.p), .agg #[.int .i64 f.size, .int .i64 f.time, .int .i64 f.chg, .slice (sl f.body).q (sl f.body).n (sl f.body).c]])) w') : wpList P ops Q (o :: rest) a w := by
  refine wpl_next8 w hg it hop hit h (fun e => hD (List.map_eq_nil_iff.1 e)) fun p v todo' w' h1 _ h3 h4 h5 h6 => ?_
  obtain ⟨f, t2, hp2, rfl, rfl, hp3⟩ := ent_step h1
  exact hM f t2 w' hp2 (h3.of_todo hp3) h4 h5 h6
theorem sum_perm {l l' : List Int} (h : l.Perm l') : l.sum = l'.sum := by
  induction h with
  | nil => rfl
  | cons x _ ih => simp [ih]
  | swap x y l => simp only [List.sum_cons]; omega
  | trans _ _ h1 h2 => exact h1.trans h2
theorem sum_le {l : List Int} (h : ∀ x ∈ l, 0 ≤ x ∧ x ≤ 300000) : 0 ≤ l.sum ∧ l.sum ≤ (l.length : Int) * 300000 := by
  induction l with
  | nil => simp
  | cons x r ih =>
    have h1 := h x List.mem_cons_self
    have h2 := ih fun y hy => h y (List.mem_cons_of_mem _ hy)
    rw [List.sum_cons, List.length_cons]
    push_cast
    omega
theorem sum_cast (l : List Fl) (g : Fl → Nat) : ((l.map g).sum : Int) = (l.map fun f => (g f : Int)).sum := by
  induction l with
  | nil => rfl
  | cons x r ih => simp only [List.map_cons, List.sum_cons]; push_cast; rw [ih]
theorem used_sizes {m : Dk} (hz : SzOk m) : (usedL m : Int) = (m.seen.map Fl.size).sum := by
  unfold usedL
  rw [sum_cast]
  exact congrArg List.sum (List.map_congr_left fun f hf => (hz.seen f hf).symm)
theorem size_small {n : Nat} {m : Dk} (hz : SzOk m) (hok : DkOk n m) {f : Fl} (hf : f ∈ m.seen) : 0 ≤ f.size ∧ f.size ≤ 300000 := by
  rw [hz.seen f hf]
  have := hok.shortB f.body
  unfold bodyL
  omega
section
variable {w : World} {S : Nat → Prop} {b : Nat} {m : Dk} {mv md : Nat} {pv : Value} {vs : List Value} {sl : Nat → Hn}
set_option maxRecDepth 100000 in
set_option maxHeartbeats 4000000 in
theorem used_any (h : Dp w S b m mv md pv vs sl) (hok : DkOk 300 m) : Calls Tryz.prog 26 #[.pointer (some ⟨b, 0, none⟩)] w fun e w' => e = .returned (.int .i64 (usedL m : Int)) ∧ Below w.heap.size w w' := by
  have c2 := h.cell 2
  simp at c2
  have HV := Lib.hid h.vis
  have HU := Lib.hid (used_sizes h.sz)
  have HS := Lib.hid (fun f (hf : f ∈ m.seen) => size_small h.sz hok hf)
  have HN := Lib.hid hok.seen
  clear h
  go_enter Tryz.func26, Tryz.ntmps26
  go_wp2_with (first | (at_range; refine wpl_range8 _ rfl _ rfl mapT rfl HV.out ?_; intro w0 hR0 hB0 hz0) | go_in)
  go_frame
  go_loopw [3] (fun v wr => ∃ done todo : List Fl, m.seen.Perm (done ++ todo) ∧ v = .int .i64 ((done.map Fl.size).sum) ∧ RngB wr mv w.heap.size (m.seen.map (entV sl)) (todo.map (entV sl)) ∧ Below w.heap.size w wr) (fun _ wr => wr.rangeLeft mv w.heap.size)
  case atStart => exact ⟨[], m.seen, List.Perm.refl _, rfl, hR0, hB0⟩
  case round =>
    obtain ⟨done, todo, hperm, rfl, hR, hB⟩ := hrel
    have HPM := Lib.hid hperm
    have HB := Lib.hid hB
    clear hperm hB
    generalize hsum : (done.map Fl.size).sum = sm at *
    have HSM := Lib.hid hsum
    clear hsum
    have HRL := Lib.hid hR.left
    have HNW := Lib.hid hR.lt
    go_wp2_with (first | (at_next; refine wpl_nextE _ rfl _ rfl rfl hR ?_ ?_) | go_in)
    · intro htodo
      have HE := Lib.hid (show sm = (usedL m : Int) by
        rw [HU.out, ← HSM.out]
        have := HPM.out
        rw [htodo, List.append_nil] at this
        exact (sum_perm (this.map _)).symm)
      clear htodo hR
      go_wp2
      go_ret
      exact ⟨by rw [HE.out]; rfl, HB.out⟩
    · intro f t2 w1 hp1 hR1 hen hg1 hz1
      have hsd := sum_le (l := done.map Fl.size) (fun x hx => by
        obtain ⟨g, hg, rfl⟩ := List.mem_map.1 hx
        exact HS.out g (HPM.out.mem_iff.2 (List.mem_append_left _ hg)))
      have hfz := HS.out f (HPM.out.mem_iff.2 (List.mem_append_right _ (hp1.mem_iff.2 List.mem_cons_self)))
      have hln := HPM.out.length_eq
      have hlt := hp1.length_eq
      rw [List.length_append] at hln
      rw [List.length_map, HSM.out] at hsd
      have hNN := HN.out
      rw [List.length_cons] at hlt
      have hw : IntKind.i64.wrap (sm + f.size) = sm + f.size := by rw [IntKind.wrap_i64]; omega
      have HP1 := Lib.hid hp1
      have HB1 := Lib.hid (HB.out.grown hg1 HB.out.size (fun j hj => by cases hj; exact Nat.le_refl _))
      have HR2 := Lib.hid (hR1.of_below ((Below.refl _ _).alloc (Nat.le_refl _) (.cells #[.int .i64 f.size, .int .i64 f.time, .int .i64 f.chg, .slice (sl f.body).q (sl f.body).n (sl f.body).c] 74)))
      have HB2 := Lib.hid (HB1.out.alloc HB1.out.size (.cells #[.int .i64 f.size, .int .i64 f.time, .int .i64 f.chg, .slice (sl f.body).q (sl f.body).n (sl f.body).c] 74))
      clear hsd hfz hln hlt hNN hp1 hR hR1 hg1 hz1
      go_wp2
      go_roundw
      case rel =>
        refine ⟨f :: done, t2, HPM.out.trans ((HP1.out.append_left done).trans List.perm_middle), ?_, HR2.out, HB2.out⟩
        rw [List.map_cons, List.sum_cons, HSM.out, Int.add_comm]
      case measure => rw [HR2.out.left, HRL.out, List.length_map, List.length_map, HP1.out.length_eq]; simp
theorem clashes_perm {l l' : List Fl} (h : l.Perm l') (p but : S8) : clashesL l p but = clashesL l' p but := by
  unfold clashesL
  rw [Bool.eq_iff_iff, List.any_eq_true, List.any_eq_true]
  exact ⟨fun ⟨x, hx, e⟩ => ⟨x, h.mem_iff.1 hx, e⟩, fun ⟨x, hx, e⟩ => ⟨x, h.mem_iff.2 hx, e⟩⟩
set_option maxRecDepth 100000 in
set_option maxHeartbeats 4000000 in
theorem clashes_any {l : List Fl} (h : MpB w mv (l.map (entV sl))) (hs : ShortF l) (p but : S8) (hp : p.length < 100000) : Calls Tryz.prog 39 #[.map (some mv), .string (mkS p), .string (mkS but)] w fun e w' => e = .returned (.bool (clashesL l p but)) ∧ Below w.heap.size w w' := by
  have HV := Lib.hid h
  have HS := Lib.hid (shortF_iff.1 hs)
  clear h hs
  go_enter Tryz.func39, Tryz.ntmps39
  go_wp2_with (first | (at_range; refine wpl_range8 _ rfl _ rfl mapT rfl HV.out ?_; intro w0 hR0 hB0 hz0) | go_in)
  go_frame
  go_loopw [7] (fun _ wr => ∃ done todo : List Fl, l.Perm (done ++ todo) ∧ clashesL done p but = false ∧ RngB wr mv w.heap.size (l.map (entV sl)) (todo.map (entV sl)) ∧ Below w.heap.size w wr) (fun _ wr => wr.rangeLeft mv w.heap.size)
  case atStart => exact ⟨[], l, List.Perm.refl _, rfl, hR0, hB0⟩
  case round =>
    obtain ⟨done, todo, hperm, hno, hR, hB⟩ := hrel
    have HPM := Lib.hid hperm
    have HNO := Lib.hid hno
    have HB := Lib.hid hB
    clear hperm hB hno
    have HRL := Lib.hid hR.left
    have HNW := Lib.hid hR.lt
    go_wp2_with (first | (at_next; refine wpl_nextE _ rfl _ rfl rfl hR ?_ ?_) | go_in)
    · intro htodo
      have HE := Lib.hid (show clashesL l p but = false by
        have := HPM.out
        rw [htodo, List.append_nil] at this
        rw [clashes_perm this, HNO.out])
      clear htodo hR
      go_wp2
      go_ret
      exact ⟨by rw [HE.out]; rfl, HB.out⟩
    · intro f t2 w1 hp1 hR1 hen hg1 hz1
      have HIN := Lib.hid (HPM.out.mem_iff.2 (List.mem_append_right _ (hp1.mem_iff.2 List.mem_cons_self)))
      have HPL := Lib.hid (Nat.lt_of_le_of_lt (HS.out f HIN.out) (by decide : 100 < 100000))
      have HP1 := Lib.hid hp1
      have HB1 := Lib.hid (HB.out.grown hg1 HB.out.size (fun j hj => by cases hj; exact Nat.le_refl _))
      have HR1 := Lib.hid hR1
      clear hp1 hR hR1 hg1 hz1
      by_cases hb : f.p = but
      · have hq : (f.p == but) = true := by rw [hb]; simp
        have HC := Lib.hid (show clashesL (f :: done) p but = false by
          unfold clashesL; rw [List.any_cons, bne, hq]; exact HNO.out)
        clear hb
        go_wp2
        go_roundw
        case rel => exact ⟨f :: done, t2, HPM.out.trans ((HP1.out.append_left done).trans List.perm_middle), HC.out, HR1.out, HB1.out⟩
        case measure => rw [HR1.out.left, HRL.out, List.length_map, List.length_map, HP1.out.length_eq]; simp
      · have hq : (f.p == but) = false := by simpa using hb
        have HQ := Lib.hid hq
        have hcl : Calls Tryz.prog 53 #[.string (mkS f.p), .string (mkS p)] w1 fun e w' => Gives (.bool (clashL f.p p)) w1 e w' := clash_any f.p p w1 HPL.out hp
        obtain ⟨cv, hcv⟩ : ∃ cv, clashL f.p p = cv := ⟨_, rfl⟩
        rw [hcv] at hcl
        have HCL := Lib.hid hcl
        have HCV := Lib.hid hcv
        clear hb hcl hcv
        cases cv with
        | true =>
          have HE := Lib.hid (show clashesL l p but = true by
            unfold clashesL
            rw [List.any_eq_true]
            exact ⟨f, HIN.out, by rw [bne, HQ.out, HCV.out]; rfl⟩)
          go_wp2_with (first | (go_at_call 53; refine HCL.out.mono ?_; rintro e w2 ⟨rfl, hB2⟩; have HB2 := Lib.hid (HB1.out.trans (hB2.mono HB1.out.size)); clear hB2) | go_in)
          go_ret
          exact ⟨by rw [HE.out]; rfl, HB2.out⟩
        | false =>
          have HC := Lib.hid (show clashesL (f :: done) p but = false by
            unfold clashesL; rw [List.any_cons, bne, HQ.out, HCV.out]; exact HNO.out)
          go_wp2_with (first | (go_at_call 53; refine HCL.out.mono ?_; rintro e w2 ⟨rfl, hB2⟩; have HR2 := Lib.hid (HR1.out.of_below hB2); have HB2 := Lib.hid (HB1.out.trans (hB2.mono HB1.out.size)); clear hB2) | go_in)
          go_roundw
          case rel => exact ⟨f :: done, t2, HPM.out.trans ((HP1.out.append_left done).trans List.perm_middle), HC.out, HR2.out, HB2.out⟩
          case measure => rw [HR2.out.left, HRL.out, List.length_map, List.length_map, HP1.out.length_eq]; simp
end
end Go.Proofs.YtjglgohchhdkkaaGreatDoor
/- do of the program's disk: a change is applied, and waits. -/
namespace Go.Proofs.YtjglgohchhdkkaaGreatDoor
open Go Go.RowKit

theorem elCh : ElK 49 76 .nilFunc 1 8 := ⟨by kernel_rfl, by kernel_rfl, rfl, by decide, by decide⟩
/-- S and the blocks from N on below M. -/
def SN (S : Nat → Prop) (N M : Nat) (k : Nat) : Prop := S k ∨ (N ≤ k ∧ k < M)
theorem ClsV.one {w : World} {S : Nat → Prop} {sl : Nat → Hn} {c : Ch} {v : Value} (h : ClsV w S sl c v) : v.oneCell' = true := by
  cases h with
  | write b1 b2 hk hv h1 h2 s1 s2 => rw [hv]; rfl
  | rename b1 b2 hk hv h1 h2 s1 s2 => rw [hv]; rfl
  | remove b1 hk hv h1 s1 => rw [hv]; rfl
section
variable {w w' : World} {S S' : Nat → Prop} {b : Nat} {m : Dk} {mv md : Nat} {pv : Value} {vs : List Value} {sl : Nat → Hn}
/-- One of the maps, and nothing else of the disk, has changed. -/
theorem Dp.ne_map (h : Dp w S b m mv md pv vs sl) {k : Nat} {es : Array MapEntry} {clock : Nat} (hk : w.heap[k]? = some (.map es clock)) : k ≠ b ∧ (∀ g, pv.ownBlock = some g → k ≠ g) ∧ ∀ k2 T cs, w.heap[k2]? = some (.cells cs T (0, 0)) → k2 ≠ k := by
  refine ⟨fun e => ?_, fun g hg e => ?_, fun k2 T cs h2 e => ?_⟩
  · rw [e, h.box] at hk; cases hk
  · obtain ⟨cur, hc⟩ := own_type h.pd.own hg
    rw [e, hc] at hk; cases hk
  · rw [e, hk] at h2; cases h2
theorem Dp.visTo (h : Dp w S b m mv md pv vs sl) (hg : w.grownBy w' (some mv)) {l : List Fl} (hM : MpB w' mv (l.map (entV sl))) (hz : ∀ f ∈ l, f.size = ((bodyL m f).length : Int)) : Dp w' S b { m with seen := l } mv md pv vs sl := by
  obtain ⟨es, clock, hb, _⟩ := h.vis
  obtain ⟨n1, n2, n3⟩ := h.ne_map hb
  have hk : ∀ k, S k → k ≠ mv → w'.heap[k]? = w.heap[k]? := fun k hk hne => hg.block k (h.low k hk) (by simpa using hne)
  exact ⟨(hk b h.sb n1.symm).trans h.box, h.sb, h.sv, h.sd, h.ne, hM, h.dur.keep (hk md h.sd h.ne.symm), h.bod.keep (fun k cur hs hc => hk k hs (n3 k _ _ hc)) (fun _ x => x), h.pd.keep (fun k T cs hs hc _ => hk k hs (n3 k _ _ hc)) (fun _ x => x), ⟨hz, h.sz.safe, h.sz.waits⟩, fun k hk => Nat.lt_of_lt_of_le (h.low k hk) hg.size⟩
theorem Dp.durTo (h : Dp w S b m mv md pv vs sl) (hg : w.grownBy w' (some md)) {l : List Fl} (hM : MpB w' md (l.map (entV sl))) (hz : ∀ f ∈ l, f.size = ((bodyL m f).length : Int)) : Dp w' S b { m with safe := l } mv md pv vs sl := by
  obtain ⟨es, clock, hb, _⟩ := h.dur
  obtain ⟨n1, n2, n3⟩ := h.ne_map hb
  have hk : ∀ k, S k → k ≠ md → w'.heap[k]? = w.heap[k]? := fun k hk hne => hg.block k (h.low k hk) (by simpa using hne)
  exact ⟨(hk b h.sb n1.symm).trans h.box, h.sb, h.sv, h.sd, h.ne, h.vis.keep (hk mv h.sv h.ne), hM, h.bod.keep (fun k cur hs hc => hk k hs (n3 k _ _ hc)) (fun _ x => x), h.pd.keep (fun k T cs hs hc _ => hk k hs (n3 k _ _ hc)) (fun _ x => x), ⟨h.sz.seen, hz, h.sz.waits⟩, fun k hk => Nat.lt_of_lt_of_le (h.low k hk) hg.size⟩
theorem doL_size {m : Dk} {l : List Fl} {c : Ch} (hl : ∀ f ∈ l, f.size = ((bodyL m f).length : Int)) (hc : c.kind = 1 → c.file.size = ((bodyL m c.file).length : Int)) : ∀ f ∈ doL l c, f.size = ((bodyL m f).length : Int) := by
  intro f hf
  unfold doL at hf
  split at hf
  · rename_i hk
    rcases List.mem_append.1 hf with hf | hf
    · exact hl f (without_mem hf)
    · simp at hf
      subst hf
      exact hc hk
  · split at hf
    · exact hl f hf
    · rename_i i hi
      rcases List.mem_append.1 hf with hf | hf
      · exact hl f (without_mem (without_mem hf))
      · simp only [List.mem_singleton] at hf
        subst hf
        have := hl _ (findL_in hi)
        exact this
  · exact hl f (without_mem hf)
theorem enters_wr : ∀ args w, (callFunc 47 args).run Tryz.prog w = .ok (.enter 47 args) w := enters_of Tryz.func47 (by kernel_rfl) rfl
theorem enters_rn : ∀ args w, (callFunc 54 args).run Tryz.prog w = .ok (.enter 54 args) w := enters_of Tryz.func54 (by kernel_rfl) rfl
theorem enters_rm : ∀ args w, (callFunc 55 args).run Tryz.prog w = .ok (.enter 55 args) w := enters_of Tryz.func55 (by kernel_rfl) rfl
/-- A closure applied to a map. -/
theorem cls_any {c : Ch} {v : Value} (h : ClsV w S sl c v) (l : List Fl) (mb : Nat) (hM : MpB w mb (l.map (entV sl))) (hs : ShortF l) (hp : c.file.p.length < 100000) (f : Fn) (fs : Array Value) (cs : Array Value) (hv : v = .func f fs cs) (hmb : ∀ k T cur, w.heap[k]? = some (.cells cur T (0, 0)) → k ≠ mb) :
    ∃ g, f = .func g ∧ fs = #[] ∧ (∀ args u, (callFunc g args).run Tryz.prog u = .ok (.enter g args) u) ∧ Calls Tryz.prog g (#[.map (some mb)] ++ cs) w fun e w' => e = .returned (.tuple #[]) ∧ MpB w' mb ((doL l c).map (entV sl)) ∧ w.grownBy w' (some mb) := by
  cases h with
  | write b1 b2 hk hv1 h1 h2 s1 s2 =>
    rw [hv] at hv1
    injection hv1 with e1 e2 e3
    subst e1 e2 e3
    exact ⟨_, rfl, rfl, enters_wr, wrC_any sl l c b1 b2 mb w hk hM h1 h2 hp hs⟩
  | rename b1 b2 hk hv1 h1 h2 s1 s2 =>
    rw [hv] at hv1
    injection hv1 with e1 e2 e3
    subst e1 e2 e3
    exact ⟨_, rfl, rfl, enters_rn, rnC_any sl l c b1 b2 mb w hk hM h1 h2 hp hs (hmb _ _ _ h1) (hmb _ _ _ h2)⟩
  | remove b1 hk hv1 h1 s1 =>
    rw [hv] at hv1
    injection hv1 with e1 e2 e3
    subst e1 e2 e3
    exact ⟨_, rfl, rfl, enters_rm, rmC_any sl l c b1 mb w hk hM h1⟩
theorem ClsV.func {c : Ch} {v : Value} (h : ClsV w S sl c v) : ∃ g cs, v = .func (.func g) #[] cs := by
  cases h with
  | write b1 b2 hk hv1 h1 h2 s1 s2 => exact ⟨_, _, hv1⟩
  | rename b1 b2 hk hv1 h1 h2 s1 s2 => exact ⟨_, _, hv1⟩
  | remove b1 hk hv1 h1 s1 => exact ⟨_, _, hv1⟩
theorem Dp.ne_pend (h : Dp w S b m mv md pv vs sl) {g : Nat} (hg : pv.ownBlock = some g) : g ≠ b ∧ g ≠ mv ∧ g ≠ md := by
  obtain ⟨cur, hc⟩ := own_type h.pd.own hg
  obtain ⟨e1, c1, hv, _⟩ := h.vis
  obtain ⟨e2, c2, hd, _⟩ := h.dur
  refine ⟨fun e => ?_, fun e => ?_, fun e => ?_⟩
  · rw [e, h.box] at hc
    injection hc with hc
    injection hc with _ hc _
    exact absurd hc (by decide)
  · rw [e, hv] at hc; cases hc
  · rw [e, hd] at hc; cases hc
theorem setCell_box {w : World} {b : Nat} {cs : Array Value} {T : TypeId} (h : w.heap[b]? = some (.cells cs T (0, 0))) (j : Nat) (v : Value) : (w.setCell ⟨b, j, none⟩ v).heap[b]? = some (.cells (cs.setIfInBounds j v) T (0, 0)) := by
  simp only [World.setCell, Array.getElem?_modify, if_true, h, Option.map_some]
  simp
theorem Dp.pendTo {u w3 : World} {v v3 : Value} {c : Ch} (h : Dp u S b m mv md pv vs sl) (hg : u.grownBy w3 pv.ownBlock) (hO : w3.ownsRow 0 76 1 v3 (m.waits.length + 1) (vs ++ [v])) (hloc : v3.ownBlock = pv.ownBlock ∨ v3.ownBlock = some u.heap.size) (hcl : ClsV u S sl c v) (hz : c.kind = 1 → c.file.size = ((bodyL m c.file).length : Int))
    (hS : ∀ k, S k → S' k) (hnew : ∀ k, u.heap.size ≤ k → k < w3.heap.size → S' k) (hlow : ∀ k, S' k → k < w3.heap.size) : Dp (w3.setCell ⟨b, 4, none⟩ v3) S' b { m with waits := m.waits ++ [c] } mv md v3 (vs ++ [v]) sl := by
  have hk3 : ∀ k, S k → pv.ownBlock ≠ some k → w3.heap[k]? = u.heap[k]? := fun k hk hn => hg.block k (h.low k hk) (fun e => hn e.symm)
  have hb3 := (hk3 b h.sb (fun e => (h.ne_pend e).1 rfl)).trans h.box
  have hk : ∀ k, S k → pv.ownBlock ≠ some k → k ≠ b → (w3.setCell ⟨b, 4, none⟩ v3).heap[k]? = u.heap[k]? := fun k hk hn hb => (Below.heap_setCell _ _ _ _ hb).trans (hk3 k hk hn)
  obtain ⟨e1, c1, hv, _⟩ := id h.vis
  obtain ⟨e2, c2, hd, _⟩ := id h.dur
  have nb : ∀ k T cs, u.heap[k]? = some (.cells cs T (0, 0)) → (T = 9 ∨ T = 74 ∨ T = 5) → k ≠ b ∧ pv.ownBlock ≠ some k := fun k T cs hc hT => by
    refine ⟨fun e => ?_, fun e => ?_⟩
    · rw [e, h.box] at hc
      injection hc with hc
      injection hc with _ hc _
      rcases hT with rfl | rfl | rfl <;> exact absurd hc (by decide)
    · obtain ⟨cur, hc2⟩ := own_type h.pd.own e
      rw [hc] at hc2
      injection hc2 with hc2
      injection hc2 with _ hc2 _
      rcases hT with rfl | rfl | rfl <;> exact absurd hc2 (by decide)
  have hcls : ∀ {c : Ch} {x : Value}, ClsV u S sl c x → ClsV (w3.setCell ⟨b, 4, none⟩ v3) S' sl c x := fun hx => hx.keep (fun k T cs hs hc hT => by
    obtain ⟨n1, n2⟩ := nb k T cs hc (by rcases hT with x | x; exact .inl x; exact .inr (.inl x))
    exact hk k hs n2 n1) hS
  have hvb : ∀ g, v3.ownBlock = some g → g ≠ b ∧ S' g := fun g hgv => by
    rcases hloc with e | e
    · rw [e] at hgv
      exact ⟨(h.ne_pend hgv).1, hS _ (h.pd.in_ g hgv)⟩
    · rw [e] at hgv
      injection hgv with hgv
      refine ⟨?_, hnew g (by omega) (hO.lt g (by rw [e, hgv])).2⟩
      have := h.lt
      omega
  refine ⟨?_, hS _ h.sb, hS _ h.sv, hS _ h.sd, h.ne, h.vis.keep (hk mv h.sv (fun e => (h.ne_pend e).2.1 rfl) ?_), h.dur.keep (hk md h.sd (fun e => (h.ne_pend e).2.2 rfl) ?_), h.bod.keep (fun k cur hs hc => ?_) hS, ⟨?_, fun g hgv => (hvb g hgv).2, fun i hi => ?_⟩, ⟨h.sz.seen, h.sz.safe, fun x hx => ?_⟩, fun k hk => by simpa using hlow k hk⟩
  · exact setCell_box hb3 4 v3
  · intro e; rw [e, h.box] at hv; cases hv
  · intro e; rw [e, h.box] at hd; cases hd
  · obtain ⟨n1, n2⟩ := nb k _ cur hc (.inr (.inr rfl))
    exact hk k hs n2 n1
  · have := ownsRow_setCell_other hO (a := ⟨b, 4, none⟩) (fun e => (hvb b e).1 rfl) v3
    rw [List.length_append]
    exact this
  · have hvl : vs.length = m.waits.length := by have := h.pd.own.1; omega
    by_cases hi2 : i < m.waits.length
    · obtain ⟨x, e, hx⟩ := h.pd.cls i hi2
      refine ⟨x, by rw [List.getElem?_append_left (by omega)]; exact e, ?_⟩
      have e2 : (m.waits ++ [c])[i] = m.waits[i] := List.getElem_append_left hi2
      show ClsV _ _ _ ((m.waits ++ [c])[i]) _
      rw [e2]
      exact hcls hx
    · have hie : i = m.waits.length := by
        have : i < (m.waits ++ [c]).length := hi
        rw [List.length_append] at this
        simp at this
        omega
      subst hie
      refine ⟨v, by rw [List.getElem?_append_right (by omega), hvl]; simp, ?_⟩
      have e2 : (m.waits ++ [c])[m.waits.length] = c := by simp
      show ClsV _ _ _ ((m.waits ++ [c])[m.waits.length]) _
      rw [e2]
      exact hcls hcl
  · rcases List.mem_append.1 hx with hx | hx
    · exact h.sz.waits x hx
    · simp at hx
      rw [hx]
      exact hz
set_option maxRecDepth 100000 in
set_option maxHeartbeats 4000000 in
theorem do_any {v : Value} {c : Ch} (h : Dp w S b m mv md pv vs sl) (hok : DkOk 300 m) (hcl : ClsV w S sl c v) (hcp : c.file.p.length < 100000) (hz : c.kind = 1 → c.file.size = ((bodyL m c.file).length : Int)) : Calls Tryz.prog 32 #[.pointer (some ⟨b, 0, none⟩), v] w fun e w' => e = .returned (.tuple #[]) ∧ (∃ pv2 vs2, Dp w' (SN S w.heap.size w'.heap.size) b (changeL m c) mv md pv2 vs2 sl) ∧ Kq8 S w w' := by
  obtain ⟨es, clock, hvb, _⟩ := id h.vis
  have HNE := Lib.hid (h.ne_map hvb)
  obtain ⟨g, cs, rfl⟩ := hcl.func
  obtain ⟨g2, e1, _, heg, hC⟩ := cls_any hcl m.seen mv h.vis hok.shS hcp _ _ _ rfl HNE.out.2.2
  injection e1 with e1
  subst e1
  have HC := Lib.hid hC
  have H := Lib.hid h
  have HCL := Lib.hid hcl
  have HZ := Lib.hid hz
  have HWL := Lib.hid (Nat.le_trans (Nat.le_add_left m.waits.length m.safe.length) hok.both)
  obtain ⟨pq, pc, hpv⟩ := own_slice h.pd.own
  have HPV := Lib.hid hpv
  have c2 := h.cell 2
  simp at c2
  clear h hC hcl hok hz hpv hvb
  go_enter Tryz.func32, Tryz.ntmps32
  go_wp2_with fail
  refine HC.out.mono ?_
  rintro e w1 ⟨rfl, hM, hg⟩
  have h1 := H.out.visTo hg hM (doL_size H.out.sz.seen HZ.out)
  have H1 := Lib.hid h1
  have HG1 := Lib.hid hg
  have hBA := (Below.refl w1.heap.size w1).alloc (Nat.le_refl _) (.cells #[.func (.func g) #[] cs] 76)
  have H2 := Lib.hid (h1.of_below hBA)
  have c4 := h1.cell 4
  rw [HPV.out] at c4
  simp at c4
  have c4b := (h1.of_below hBA).cell 4
  rw [HPV.out] at c4b
  simp at c4b
  have HLM := Lib.hid (LsC.made w1 [.func (.func g) #[] cs] 76)
  have HBA := Lib.hid hBA
  clear hM hg h1 c2 hBA
  have HCL2 : Hid (ClsV (w1.alloc (.cells #[.func (.func g) #[] cs] 76)) S sl c (.func (.func g) #[] cs)) := Lib.hid (HCL.out.keep (fun k T cs hs hc _ => by
    have h1 := H.out.low k hs
    rw [HBA.out.block k (Nat.lt_of_lt_of_le h1 HG1.out.size), HG1.out.block k h1 (by simpa using HNE.out.2.2 k T cs hc)]) (fun _ x => x))
  have HSU := Lib.hid (Nat.le_trans HG1.out.size HBA.out.size)
  have HO2 : Hid ((w1.alloc (.cells #[.func (.func g) #[] cs] 76)).ownsRow 0 76 1 pv m.waits.length vs) := Lib.hid H2.out.pd.own
  go_wp2_with (first
    | (refine wpl_appendK (v := pv) elCh _ rfl _ _ rfl 0 HPV.out.symm HO2.out (some ⟨w1.heap.size, 0, none⟩) 1 1 [.func (.func g) #[] cs] rfl rfl HLM.out (fun e => by cases e) (fun u hu => by rw [List.mem_singleton.1 hu]; rfl) (by have := HWL.out; omega) (Nat.zero_le _) ?_
       rintro v3 w3 hO3 hg3 hl3
       obtain ⟨q3, c3, hv3⟩ := own_slice hO3
       subst hv3
       have HD3 := Lib.hid (H2.out.pendTo (S' := SN S w.heap.size w3.heap.size) hg3 hO3 hl3 HCL2.out HZ.out (fun k hk => .inl hk) (fun k h1 h2 => .inr ⟨Nat.le_trans HSU.out h1, h2⟩) (fun k hk => by
         rcases hk with x | x
         · exact Nat.lt_of_lt_of_le (H2.out.low k x) hg3.size
         · exact x.2))
       have c43 : w3.cell? ⟨b, 4, none⟩ = some (.slice pq m.waits.length pc) := (World.cell?_of_block (hg3.block b H2.out.lt (fun e => (H2.out.ne_pend e.symm).1 rfl))).trans c4b
       have f43 : w3.frozen? ⟨b, 4, none⟩ = false := (World.frozen?_of_block (hg3.block b H2.out.lt (fun e => (H2.out.ne_pend e.symm).1 rfl))).trans (H2.out.free 4)
       have HG3 := Lib.hid hg3
       clear hO3 hg3 hl3)
    | go_in)
  go_end0
  have hsz : (w3.setCell ⟨b, 4, none⟩ (.slice q3 (m.waits.length + 1) c3)).heap.size = w3.heap.size := by simp
  refine ⟨rfl, ⟨_, _, by rw [hsz]; exact HD3.out⟩, ?_⟩
  have q1 := HG1.out
  have q2 := HBA.out
  have q3 := HG3.out
  refine ⟨q3.os.trans (q2.os.trans q1.os), q3.tape.trans (q2.tape.trans q1.tape), q3.output.trans (q2.output.trans q1.output), by rw [hsz]; exact Nat.le_trans HSU.out q3.size, fun k hk hn => ?_⟩
  have hk1 : k < w1.heap.size := Nat.lt_of_lt_of_le hk q1.size
  rw [Below.heap_setCell _ _ _ _ (fun e => hn (by rw [e]; exact H.out.sb)), q3.block k (Nat.lt_of_lt_of_le hk1 q2.size) (fun e => hn (H.out.pd.in_ k e.symm)), q2.block k hk1, q1.block k hk (fun e => hn (by injection e with e; rw [e]; exact H.out.sv))]
end
end Go.Proofs.YtjglgohchhdkkaaGreatDoor
/- A range over an iterator that keeps a state of its own in a box: the law, and what such an iterator owes. -/
namespace Go.Proofs.YtjglgohchhdkkaaGreatDoor
open Go Go.RowKit Go.Shelf

/-- A call of yield: it goes on, all below N as it was; or it says that there is to be no more. -/
def Yields {α : Type} (m l : Nat) (encs : α → Array Value) (N : Nat) (J Jx : List α → World → Prop) : Prop :=
  ∀ pre x A, J pre A → YieldAt Fence.wide m Tryz.prog l (encs x) A fun e A' =>
    (e = .returned (.bool true) ∧ J (pre ++ [x]) A' ∧ Below N A A') ∨ (e = .returned (.bool false) ∧ Jx (pre ++ [x]) A')
/-- The iterator hands out xs; of what was there it writes box b alone. -/
def Seq {α : Type} (m g : Nat) (lb : Array Value) (encs : α → Array Value) (b : Nat) (xs : List α) (w : World) : Prop :=
  ∀ (l : Nat) (J Jx : List α → World → Prop) (A : World), Below w.heap.size w A → (∀ pre B k, J pre B → J pre (B.drewN k)) → (∀ pre B v, J pre B → J pre (B.setCell ⟨b, 0, none⟩ v)) →
    Yields (m - 1) l encs w.heap.size J Jx → J [] A →
    CallsIn Fence.wide m Tryz.prog g (#[.func (.yield l) #[] #[]] ++ lb) A fun e A' => (∃ v, e = .returned v) ∧ (J xs A' ∨ ∃ pre, pre <+: xs ∧ Jx pre A')
/-- How the body may be left: it goes on, or returns. -/
def bodyOut {α : Type} (N : Nat) (I Ix : List α → World → Prop) (xs : List α) (A : World) : Exit → Act → World → Prop
  | .normal, _, A' => KeepsOthers A A' ∧ Below N A A' ∧ I xs A'
  | .ret, _, A' => KeepsOthers A A' ∧ Ix xs A'
  | _, _, _ => False
/-- What a caller's invariant must bear: new blocks, the loop's own blocks, draws, the iterator's box. -/
structure Bears {α : Type} (N b : Nat) (I : List α → World → Prop) : Prop where
  new : ∀ pre A o, I pre A → I pre (A.alloc o)
  put : ∀ pre A k o, N ≤ k → k < A.heap.size → I pre A → I pre (A.putObj k o)
  drew : ∀ pre A k, I pre A → I pre (A.drewN k)
  box : ∀ pre A v, I pre A → I pre (A.setCell ⟨b, 0, none⟩ v)
theorem below_put {N k : Nat} {A : World} (o : Obj) (hk : N ≤ k) (hlt : k < A.heap.size) : Below N A (A.putObj k o) :=
  (Below.refl N A).grown (grownBy_putObj' A k o) (by omega) (fun j e => by cases e; exact hk)
theorem range_box {α : Type} {g : Operand} {ps : Array Tmp} {assign body : Code} {Q : Exit → Act → World → Prop} {a : Act} {w : World} {m : Nat} (hm : 1 ≤ m)
    {gf : Nat} {lb : Array Value} (hg : a.eval g = .func (.func gf) #[] lb) (eg : ∀ args w, (callFunc gf args).run Tryz.prog w = .ok (.enter gf args) w)
    {encs : α → Array Value} (hps : ∀ x, (encs x).size = ps.size) {b : Nat} (hb : b < w.heap.size) {xs : List α} (hseq : Seq (m - 1) gf lb encs b xs w)
    (I Ix : List α → World → Prop) (hI : Bears w.heap.size b I) (hIx : ∀ pre A k o, w.heap.size ≤ k → k < A.heap.size → Ix pre A → Ix pre (A.putObj k o)) (h0 : I [] w) (a₁ : α → Act)
    (hassign : ∀ (l : Nat) (x : α) (W : World) (K : Act → World → Prop), K (a₁ x) W →
      assign.wpIn (Fence.wide.inRound l) (m - 1 - 1) Tryz.prog (Exit.then K (fun _ _ _ => False)) { tmps := (ps.zip (encs x)).foldl (fun t (p, v) => t.setIfInBounds p v) a.tmps, defers := [] } W)
    (hbody : ∀ (l : Nat) (pre : List α) (x : α) (A : World), I pre A → body.wpIn (Fence.wide.inRound l) (m - 1 - 1) Tryz.prog (bodyOut w.heap.size I Ix (pre ++ [x]) A) (a₁ x) A)
    (hdone : ∀ (D : Nat) (A : World), w.heap.size ≤ D → I xs A → A.heap[D]? = some (.deferred (some [])) → Q .normal { a with defers := { target := .collected D, args := #[] } :: a.defers } A)
    (hstop : ∀ (D : Nat) (pre : List α) (A : World), w.heap.size ≤ D → pre <+: xs → Ix pre A → A.heap[D]? = some (.deferred (some [])) → Code.ret.wpIn Fence.wide m Tryz.prog Q { a with defers := { target := .collected D, args := #[] } :: a.defers } A) :
    (Code.rangeFunc g ps assign body).wpIn Fence.wide m Tryz.prog Q a w := by
  refine wpIn_rangeFunc fun fn hfn => ?_
  -- the loop's record (block n + 1) and the block of its deferred calls (block n)
  obtain ⟨n, hn⟩ : ∃ n, w.heap.size = n := ⟨_, rfl⟩
  obtain ⟨R, hR⟩ : ∃ R : LoopState → Option Code → Loop, R = fun st pe => { state := st, pending := pe, fn, tmps := a.tmps, params := ps, assign, body, defers := n } := ⟨_, rfl⟩
  obtain ⟨W, hW⟩ : ∃ W, (w.alloc (.deferred (some []))).alloc (.loop (R .ready none)) = W := ⟨_, rfl⟩
  have two : ∀ {A : World}, A.heap[n + 1]? = some (.loop (R .busy none)) ∨ A.heap[n + 1]? = some (.loop (R .ready none)) → n + 1 < A.heap.size := fun h => by
    rcases h with h | h <;> exact (Array.getElem?_eq_some_iff.1 h).1
  let At : LoopState → Option Code → World → Prop := fun st pe A => A.heap[n + 1]? = some (.loop (R st pe)) ∧ A.heap[n]? = some (.deferred (some []))
  have at0 : At .ready none W := by
    constructor
    · rw [← hW]
      have := World.alloc_heap_new (w.alloc (.deferred (some []))) (.loop (R .ready none))
      rwa [World.size_alloc, hn] at this
    · rw [← hW]
      have h1 := World.alloc_heap_new w (.deferred (some []))
      rw [hn] at h1
      exact (Below.heap_alloc _ _ _ (by simp; omega)).trans h1
  have putAt : ∀ {st st' : LoopState} {pe pe' : Option Code} {A : World}, At st pe A → At st' pe' (A.putObj (n + 1) (.loop (R st' pe'))) := fun h =>
    ⟨World.putObj_heap_same (Array.getElem?_eq_some_iff.1 h.1).1, (World.putObj_heap_other (by omega)).trans h.2⟩
  refine ⟨n + 1, [{ target := .collected n, args := #[] }], W, { target := .fn (.func gf) lb, args := #[.func (.yield (n + 1)) #[] #[]] }, W, gf, #[.func (.yield (n + 1)) #[] #[]] ++ lb, W, ?_, ?_, ?_, ?_, fun _ => hm, ?_⟩
  · rw [← hW, hR, ← hn]; exact run_enterLoop_outer _ _ _ _ _
  · simp only [resolve, hg]
    simp [go_sem]
  · intro f' hf'
    simp [Target.leads] at hf'
    subst hf'
    trivial
  · simp [invoke, go_sem, eg]
  · have hbel : Below w.heap.size w W := by rw [← hW]; exact ((Below.refl _ w).alloc (Nat.le_refl _) _).alloc (by simp) _
    refine (hseq (n + 1) (fun pre A => I pre A ∧ At .ready none A) (fun pre A => Ix pre A ∧ At .done (some .ret) A) W hbel
      (fun pre B k h => ⟨hI.drew pre B k h.1, h.2⟩)
      (fun pre B v h => ⟨hI.box pre B v h.1, (Below.heap_setCell B _ v _ (by show n + 1 ≠ b; omega)).trans h.2.1, (Below.heap_setCell B _ v _ (by show n ≠ b; omega)).trans h.2.2⟩)
      ?_ ⟨by rw [← hW]; exact hI.new _ _ _ (hI.new _ _ _ h0), at0⟩).mono ?_
    · rintro pre x A ⟨hi, hat⟩
      have hlt := two (.inr hat.1)
      have hy := run_yield (P := Tryz.prog) (args := encs x) hat.1 (by rw [hR]; exact hps x)
      rw [hR] at hy
      refine ⟨fn, _, assign, body, hy, roundIn_of_wpIn hfn (hassign _ x A _ ⟨_, run_beginRound hat.1 (by rw [hR]), ?_⟩)⟩
      have hbusy : ({ R .ready none with state := .busy } : Loop) = R .busy none := by rw [hR]
      rw [hbusy]
      have hat2 : At .busy none (A.putObj (n + 1) (.loop (R .busy none))) := putAt hat
      refine wpIn_mono (hbody _ pre x _ (hI.put _ _ _ _ (by omega) hlt hi)) ?_
      have fin : ∀ (st : LoopState) (jump : Option Code) (A3 : World), st = (if jump.isNone then .ready else .done) → KeepsOthers (A.putObj (n + 1) (.loop (R .busy none))) A3 →
          n + 1 < A3.heap.size ∧ (Instr.endRound (n + 1) jump).run Tryz.prog A3 = .ok (.bool jump.isNone) (A3.putObj (n + 1) (.loop (R st jump))) ∧ At st jump (A3.putObj (n + 1) (.loop (R st jump))) := fun st jump A3 hst hk => by
        have h3 : At .busy none A3 := ⟨hk.same _ _ hat2.1 rfl, hk.same _ _ hat2.2 rfl⟩
        have he := run_endRound (P := Tryz.prog) jump h3.1
        have e : ({ R .busy none with state := (if jump.isNone then .ready else .done), pending := jump } : Loop) = R st jump := by rw [hR, hst]
        rw [e] at he
        exact ⟨two (.inl h3.1), he, putAt h3⟩
      rintro e a3 A3 hp
      cases e with
      | normal =>
        obtain ⟨hk, hB, hi3⟩ := hp
        obtain ⟨hl3, he, h4⟩ := fin .ready none A3 rfl hk
        exact ⟨_, _, he, .inl ⟨rfl, ⟨hI.put _ _ _ _ (by omega) hl3 hi3, h4⟩, ((below_put _ (by omega) hlt).trans hB).trans (below_put _ (by omega) hl3)⟩⟩
      | ret =>
        obtain ⟨hk, hi3⟩ := hp
        obtain ⟨hl3, he, h4⟩ := fin .done (some .ret) A3 rfl hk
        exact ⟨_, _, he, .inr ⟨rfl, hIx _ _ _ _ (by omega) hl3 hi3, h4⟩⟩
      | exit id => exact hp.elim
      | goto t => exact hp.elim
      | panic ch => exact hp.elim
      | outgrown => exact hp.elim
    · rintro e A2 ⟨⟨v, rfl⟩, ⟨hi, hat⟩ | ⟨pre, hpre, hi, hat⟩⟩
      · have hlt := two (.inr hat.1)
        have he := run_endLoop (P := Tryz.prog) hat.1 (by rw [hR]; simp)
        refine ⟨none, _, by rw [he, hR], ?_⟩
        exact hdone n _ (by omega) (hI.put _ _ _ _ (by omega) hlt hi) ((World.putObj_heap_other (by omega)).trans hat.2)
      · have hlt := (Array.getElem?_eq_some_iff.1 hat.1).1
        have he := run_endLoop (P := Tryz.prog) hat.1 (by rw [hR]; simp)
        refine ⟨some .ret, _, by rw [he, hR], ?_⟩
        exact hstop n pre _ (by omega) hpre (hIx _ _ _ _ (by omega) hlt hi) ((World.putObj_heap_other (by omega)).trans hat.2)
end Go.Proofs.YtjglgohchhdkkaaGreatDoor
/- What lies ahead of the first "/", and behind it. -/
namespace Go.Proofs.YtjglgohchhdkkaaGreatDoor
open Go Go.RowKit

def headS (l : S8) : S8 := l.takeWhile (fun c => c != 47)
def hasS (l : S8) : Bool := l.any (fun c => c == 47)
def tailS (l : S8) : S8 := l.drop ((headS l).length + 1)
def restS (l : S8) : S8 := if hasS l then tailS l else []
theorem head_clean (l : S8) : ∀ c ∈ headS l, c ≠ 47 := fun c hc => by
  unfold headS at hc
  have : ∀ m : S8, ∀ c ∈ m.takeWhile (fun c => c != 47), c ≠ 47 := by
    intro m
    induction m with
    | nil => intro c h; cases h
    | cons x r ih =>
      intro c h
      rw [List.takeWhile_cons] at h
      by_cases hx : (x != 47) = true
      · rw [if_pos hx] at h
        rcases List.mem_cons.1 h with e | e
        · subst e; simpa using hx
        · exact ih c e
      · rw [if_neg hx] at h; cases h
  exact this l c hc
theorem head_tail : ∀ l : S8, hasS l = true → l = headS l ++ 47 :: tailS l := by
  intro l
  induction l with
  | nil => intro h; cases h
  | cons c r ih =>
    intro h
    by_cases hc : c = 47
    · subst hc
      simp [headS, tailS]
    · have hr : hasS r = true := by unfold hasS at h ⊢; simpa [hc] using h
      have e : headS (c :: r) = c :: headS r := by unfold headS; rw [List.takeWhile_cons, if_pos (by simpa using hc)]
      have t : tailS (c :: r) = tailS r := by unfold tailS; rw [e]; simp
      rw [e, t, List.cons_append, ← ih hr]
theorem head_all (l : S8) (h : hasS l = false) : headS l = l := by
  unfold headS hasS at *
  rw [List.any_eq_false] at h
  have key : ∀ m : S8, (∀ c ∈ m, (c != 47) = true) → m.takeWhile (fun c => c != 47) = m := by
    intro m
    induction m with
    | nil => intro _; rfl
    | cons x r ih =>
      intro hm
      rw [List.takeWhile_cons, if_pos (hm x (by simp)), ih (fun c hc => hm c (by simp [hc]))]
  exact key l fun c hc => by
    have := h c hc
    simpa using this
theorem nm_cut (l : S8) : nm l = headS l :: (if hasS l then nm (restS l) else []) := by
  by_cases h : hasS l = true
  · unfold restS
    rw [if_pos h, if_pos h]
    conv => lhs; rw [head_tail l h]
    exact nm_more _ (head_clean l)
  · have h2 : hasS l = false := by simpa using h
    rw [if_neg h]
    have := head_clean l
    rw [head_all l h2] at this ⊢
    exact nm_end this
theorem rest_le (l : S8) : (restS l).length ≤ l.length := by
  unfold restS
  split
  · unfold tailS; rw [List.length_drop]; omega
  · simp
theorem rest_len (l : S8) (h : hasS l = true) : (restS l).length < l.length := by
  have := congrArg List.length (head_tail l h)
  unfold restS
  rw [if_pos h]
  rw [List.length_append, List.length_cons] at this
  omega
theorem idx47 : ∀ l : S8, Lib.indexByte l 47 = if hasS l then ((headS l).length : Int) else -1 := by
  intro l
  induction l with
  | nil => rfl
  | cons c r ih =>
    by_cases hc : c = 47
    · subst hc; simp [Lib.indexByte, hasS, headS]
    · have e : headS (c :: r) = c :: headS r := by unfold headS; rw [List.takeWhile_cons, if_pos (by simpa using hc)]
      have h : hasS (c :: r) = hasS r := by unfold hasS; simp [hc]
      have hb : (c == 47) = false := beq_eq_false_iff_ne.2 hc
      rw [e, h]
      unfold Lib.indexByte
      rw [hb, ih]
      by_cases hr : hasS r = true
      · rw [if_pos hr]
        have : (((headS r).length : Int) == -1) = false := beq_eq_false_iff_ne.2 (by omega)
        simp [this, hr]
      · have hr2 : hasS r = false := by simpa using hr
        simp [hr2]
theorem all_pre {l : S8} {pre : List S8} (h : pre <+: nm l) (hb : pre.all okN = false) : allN l = false := by
  obtain ⟨t, e⟩ := h
  unfold allN
  rw [← e, List.all_append, hb, Bool.false_and]
end Go.Proofs.YtjglgohchhdkkaaGreatDoor
/- strings.Index at "/". -/
namespace Go.Proofs.YtjglgohchhdkkaaGreatDoor
open Go Go.RowKit

theorem ixb (l : S8) (w : World) : (callFunc 111 #[.string (mkS l), .int .u8 47]).run Tryz.prog w = .ok (.value (.int .i64 (Lib.indexByte l 47))) w := by
  have h := run_callFunc_extern (P := Tryz.prog) (f := 111) (e := Extern.BytealgIndexByte.indexByte) Tryz.func111 (by kernel_rfl) (by kernel_rfl) (by kernel_rfl) (by kernel_rfl) #[.string (mkS l), .int .u8 47] w
  rw [h, Lib.run_indexByteString (P := Tryz.prog)]
  have e : (mkS l).data.toList = l := by rw [← ByteArray.toList_eq, mkS_toList]
  rw [e]
  rfl
set_option maxRecDepth 100000 in
theorem ix47 (w : World) : (Instr.index 9 (.string ⟨#[47]⟩) (.int .i64 0)).run Tryz.prog w = .ok (.int .u8 47) w := by
  have e : (⟨#[47]⟩ : ByteArray) = mkS [47] := mkS_lit [47]
  have h := ix_S [47] 0 w (by decide)
  rw [e]
  have c : chr [47] 0 = 47 := by rw [chr_eq (by decide)]; rfl
  rw [c] at h
  exact h
attribute [local go_sem] ixb
attribute [local go_sem high] ix47
set_option maxRecDepth 100000 in
set_option maxHeartbeats 1000000 in
theorem index47 (l : S8) (w : World) (hl : l.length < 1000000) : Calls Tryz.prog 92 #[.string (mkS l), .string ⟨#[47]⟩] w fun e w' => e = .returned (.int .i64 (Lib.indexByte l 47)) ∧ w = w' := by
  by_cases h : l = [47]
  · subst h
    have hi : Lib.indexByte [47] 47 = 0 := by rw [idx47]; rfl
    rw [hi]
    go_enter Tryz.func92, Tryz.ntmps92
    go_wp2
    go_ret
    exact ⟨rfl, rfl⟩
  · have hb : ([47] == l) = false := beq_eq_false_iff_ne.2 (fun e => h e.symm)
    clear h
    go_enter Tryz.func92, Tryz.ntmps92
    go_wp2
    go_ret
    exact ⟨rfl, rfl⟩
set_option maxHeartbeats 1000000 in
theorem sindex47 (l : S8) (w : World) (hl : l.length < 1000000) : Calls Tryz.prog 74 #[.string (mkS l), .string ⟨#[47]⟩] w fun e w' => e = .returned (.int .i64 (Lib.indexByte l 47)) ∧ w = w' := by
  have HC := Lib.hid (index47 l w hl)
  generalize Lib.indexByte l 47 = x at *
  go_enter Tryz.func74, Tryz.ntmps74
  go_wp2_with fail
  refine HC.out.mono ?_
  rintro e w' ⟨rfl, rfl⟩
  go_wp2
  go_ret
  exact ⟨rfl, rfl⟩
end Go.Proofs.YtjglgohchhdkkaaGreatDoor
/- strings.SplitSeq at "/": what it hands out. -/
namespace Go.Proofs.YtjglgohchhdkkaaGreatDoor
open Go Go.RowKit Go.Shelf

attribute [local go_sem] Oper.semAt_some
theorem slash_lit : (ByteArray.mk #[47]) = mkS [47] := mkS_lit [47]
/-- The iterator's three boxes: the separator, what is left, how much of the separator is kept. -/
structure Boxes (b1 b2 b3 : Nat) (r : S8) (A : World) : Prop where
  sep : A.cell? ⟨b1, 0, none⟩ = some (.string ⟨#[47]⟩)
  rest : A.cell? ⟨b2, 0, none⟩ = some (.string (mkS r))
  free : A.frozen? ⟨b2, 0, none⟩ = false
  save : A.cell? ⟨b3, 0, none⟩ = some (.int .i64 0)
theorem Boxes.below {b1 b2 b3 N : Nat} {r : S8} {A A' : World} (h : Boxes b1 b2 b3 r A) (hB : Below N A A') (h1 : b1 < N) (h2 : b2 < N) (h3 : b3 < N) : Boxes b1 b2 b3 r A' :=
  ⟨by rw [hB.cell (p := ⟨b1, 0, none⟩) h1]; exact h.sep, by rw [hB.cell (p := ⟨b2, 0, none⟩) h2]; exact h.rest, by rw [hB.frozen (p := ⟨b2, 0, none⟩) h2]; exact h.free, by rw [hB.cell (p := ⟨b3, 0, none⟩) h3]; exact h.save⟩
theorem Boxes.set {b1 b2 b3 : Nat} {r : S8} {A : World} (h : Boxes b1 b2 b3 r A) (h12 : b1 ≠ b2) (h32 : b3 ≠ b2) (t : S8) : Boxes b1 b2 b3 t (A.setCell ⟨b2, 0, none⟩ (.string (mkS t))) :=
  ⟨by rw [World.cell?_setCell_other _ _ _ _ (by simp [h12])]; exact h.sep, World.cell?_setCell_same' _ _ _ (by rw [h.rest]; rfl), by rw [World.frozen?_setCell]; exact h.free, by rw [World.cell?_setCell_other _ _ _ _ (by simp [h32])]; exact h.save⟩
/-- How much is left. -/
def leftB (b : Nat) (A : World) : Nat := match A.cell? ⟨b, 0, none⟩ with
  | some (.string s) => s.size
  | _ => 0
theorem leftB_eq {b1 b2 b3 : Nat} {r : S8} {A : World} (h : Boxes b1 b2 b3 r A) : leftB b2 A = r.length := by unfold leftB; rw [h.rest]; exact mkS_size r
set_option maxRecDepth 100000 in
set_option maxHeartbeats 2000000 in
theorem split_seq (m : Nat) (hm : 3 ≤ m) (b1 b2 b3 : Nat) (l : S8) (w : World) (h1 : b1 < w.heap.size) (h2 : b2 < w.heap.size) (h3 : b3 < w.heap.size) (h12 : b1 ≠ b2) (h32 : b3 ≠ b2) (hbx : Boxes b1 b2 b3 l w) (hl : l.length < 1000000) :
    Seq m 72 #[.pointer (some ⟨b1, 0, none⟩), .pointer (some ⟨b2, 0, none⟩), .pointer (some ⟨b3, 0, none⟩)] (fun x : S8 => #[.string (mkS x)]) b2 (nm l) w := by
  intro L J Jx A hA hJd hJs hY h0
  have hm1 : 1 ≤ m := by omega
  have hbA := hbx.below hA h1 h2 h3
  have c1 := hbA.sep
  refine callsIn_of_wp Tryz.func72 rfl trivial ?_ rfl
  simp only [Tryz.ntmps72, List.size_toArray, List.length_cons, List.length_nil, Nat.reduceAdd, Nat.reduceSub, Array.replicate_succ, Array.replicate_zero, List.push_toArray, List.append_toArray, List.nil_append, List.cons_append]
  gi_wp2
  gi_loopw [7, 8] (fun v7 v8 wr => ∃ (pre : List S8) (r : S8), nm l = pre ++ nm r ∧ r.length ≤ l.length ∧ Boxes b1 b2 b3 r wr ∧ J pre wr) (fun v7 v8 wr => leftB b2 wr)
  case atStart => exact ⟨[], l, rfl, Nat.le_refl _, hbA, h0⟩
  case round =>
    obtain ⟨pre, r, hn, hr, hbr, hJ0⟩ := hrel
    have d1 := hbr.sep
    have d2 := hbr.rest
    have d3 := hbr.save
    have d4 := hbr.free
    have HBR := Lib.hid hbr
    have HJ0 := Lib.hid hJ0
    have HI := Lib.hid (sindex47 r wr (by omega))
    rw [idx47] at HI
    have hcut := nm_cut r
    have hrest : restS r = if hasS r then r.drop ((headS r).length + 1) else [] := rfl
    have hlen := fun h => congrArg List.length (head_tail r h)
    have htake := fun h => (congrArg (List.take (headS r).length) (head_tail r h)).trans List.take_left
    have hall := head_all r
    by_cases hh : hasS r = true
    · rw [if_pos hh] at HI hcut
      rw [if_pos hh] at hrest
      have hlr : (headS r).length < r.length := by have := hlen hh; rw [List.length_append, List.length_cons] at this; omega
      have HT := Lib.hid (htake hh)
      have hdl : (restS r).length < r.length := rest_len r hh
      obtain ⟨fn, tmps, assign, body, hy, hR⟩ := hY pre (headS r) wr hJ0
      have HN := Lib.hid (show nm l = (pre ++ [headS r]) ++ nm (restS r) from by rw [hn, hcut]; simp)
      have HS := Lib.hid (hrest)
      generalize restS r = t at *
      generalize headS r = x at *
      obtain ⟨k, hk⟩ : ∃ k, x.length = k := ⟨_, rfl⟩
      rw [hk] at HI hlr HT HS
      have z1 : (0 : Int) ≤ (k : Int) := by omega
      have z2 : decide ((k : Int) < 0) = false := decide_eq_false (by omega)
      have hw0 : IntKind.i64.wrap (k : Int) = (k : Int) := by rw [IntKind.wrap_i64]; omega
      have hw : IntKind.i64.wrap ((k : Int) + 1) = (k : Int) + 1 := by rw [IntKind.wrap_i64]; omega
      have hs1 : ∀ u : World, (Instr.slice 9 (.string (mkS r)) none (some (.int .i64 (k : Int))) none).run Tryz.prog u = .ok (.string (mkS x)) u := fun u => by
        rw [sl_to r k u (by omega), HT.out]
      have hs2 : ∀ u : World, (Instr.slice 9 (.string (mkS r)) (some (.int .i64 ((k : Int) + 1))) none none).run Tryz.prog u = .ok (.string (mkS t)) u := fun u => by
        have := sl_from r (k + 1) u (by omega)
        rw [HS.out]
        simpa using this
      have HL := Lib.hid (And.intro hdl hr)
      clear hn hr hbr hJ0 hcut hrest hlen htake hall hh hk hdl
      dsimp only at hy
      gi_wp2_with (refine ⟨trivial, ?_⟩; gi_at_call 74; refine (callsIn_wide.2 HI.out).mono ?_; rintro e w' ⟨rfl, rfl⟩)
      refine hR.mono ?_
      rintro e W3 (⟨rfl, hJ3, hB3⟩ | ⟨rfl, hJx3⟩)
      · have hb3 := HBR.out.below hB3 h1 h2 h3
        have d1 := hb3.sep
        have d2 := hb3.rest
        have d3 := hb3.save
        have d4 := hb3.free
        have HB3 := Lib.hid hb3
        have HJ3 := Lib.hid hJ3
        clear hb3 hJ3 hB3
        gi_wp2
        go_roundw
        case rel => exact ⟨pre ++ [x], t, HN.out, Nat.le_of_lt (Nat.lt_of_lt_of_le HL.out.1 HL.out.2), HB3.out.set h12 h32 t, hJs _ _ _ HJ3.out⟩
        case measure => rw [leftB_eq (HB3.out.set h12 h32 t), leftB_eq HBR.out]; exact HL.out.1
      · gi_wp2
        refine bodyPost_ret (results_none rfl _ _ _) rfl ?_
        exact ⟨⟨_, rfl⟩, .inr ⟨pre ++ [x], ⟨nm t, HN.out.symm⟩, hJx3⟩⟩
    · have hh2 : hasS r = false := by simpa using hh
      rw [if_neg hh] at HI hcut
      have hx := hall hh2
      obtain ⟨fn, tmps, assign, body, hy, hR⟩ := hY pre r wr hJ0
      have HN := Lib.hid (show nm l = pre ++ [r] from by rw [hn, hcut, hx])
      clear hn hr hbr hJ0 hcut hrest hlen htake hall hh hh2 hx
      dsimp only at hy
      gi_wp2_with (refine ⟨trivial, ?_⟩; gi_at_call 74; refine (callsIn_wide.2 HI.out).mono ?_; rintro e w' ⟨rfl, rfl⟩)
      refine hR.mono ?_
      rintro e W3 (⟨rfl, hJ3, hB3⟩ | ⟨rfl, hJx3⟩)
      · gi_wp2
        go_end0
        exact ⟨⟨_, rfl⟩, .inl (by rw [HN.out]; exact hJ3)⟩
      · gi_wp2
        go_end0
        exact ⟨⟨_, rfl⟩, .inr ⟨pre ++ [r], ⟨[], by rw [List.append_nil, HN.out]⟩, hJx3⟩⟩
/-- strings.SplitSeq at "/": three boxes are laid. -/
theorem splitSeq_any (l : S8) (u : World) : Calls Tryz.prog 51 #[.string (mkS l), .string ⟨#[47]⟩] u fun e w' => e = .returned (.func (.func 72) #[] #[.pointer (some ⟨u.heap.size + 1, 0, none⟩), .pointer (some ⟨u.heap.size, 0, none⟩), .pointer (some ⟨u.heap.size + 2, 0, none⟩)]) ∧ w' = ((u.alloc (.cells #[.string (mkS l)] 9)).alloc (.cells #[.string ⟨#[47]⟩] 9)).alloc (.cells #[.int .i64 0] 3) := by
  have hmf : ∀ (fn : Fn) (first cap : Array Value) (w : World), (Instr.makeFunc fn first cap).run Tryz.prog w = .ok (.func fn first cap) w := fun _ _ _ _ => rfl
  have key : Calls Tryz.prog 64 #[.string (mkS l), .string ⟨#[47]⟩, .int .i64 0] u fun e w' => e = .returned (.func (.func 72) #[] #[.pointer (some ⟨u.heap.size + 1, 0, none⟩), .pointer (some ⟨u.heap.size, 0, none⟩), .pointer (some ⟨u.heap.size + 2, 0, none⟩)]) ∧ w' = ((u.alloc (.cells #[.string (mkS l)] 9)).alloc (.cells #[.string ⟨#[47]⟩] 9)).alloc (.cells #[.int .i64 0] 3) := by
    go_enter Tryz.func64, Tryz.ntmps64
    go_wp2
    go_ret
    exact ⟨rfl, rfl⟩
  have HC := Lib.hid key
  clear key
  go_enter Tryz.func51, Tryz.ntmps51
  go_wp2_with fail
  refine HC.out.mono ?_
  rintro e w' ⟨rfl, rfl⟩
  go_wp2
  go_ret
  exact ⟨rfl, rfl⟩
end Go.Proofs.YtjglgohchhdkkaaGreatDoor
