/- Used and clashes of the program's disk: ranges over the map. -/
import Derived.Test.YtjglgohchhdkkaaDoorRdk8
set_option linter.unusedSimpArgs false
set_option linter.unusedVariables false
namespace Go.Proofs.YtjglgohchhdkkaaDoor
open Go Go.RowKit

theorem RngB.of_todo {w : World} {b r : Nat} {l todo todo2 : List (S8 × Value)} (h : RngB w b r l todo) (hp : todo.Perm todo2) : RngB w b r l todo2 := by
  obtain ⟨es, clock, since, seen, c0, h1, h2, h3, h4, h5, h6, h7⟩ := h
  exact ⟨es, clock, since, seen, c0, h1, h2, h3, h4, h5, h6, h7.trans (hp.map _)⟩
theorem ent_step {sl : Nat → Hn} {todo : List Fl} {k : S8} {v : Value} {t : List (S8 × Value)} (h : (todo.map (entV sl)).Perm ((k, v) :: t)) : ∃ f t2, todo.Perm (f :: t2) ∧ k = f.p ∧ v = fileV sl f ∧ t.Perm (t2.map (entV sl)) := by
  have hm : (k, v) ∈ todo.map (entV sl) := h.mem_iff.2 List.mem_cons_self
  obtain ⟨f, hf, e⟩ := List.mem_map.1 hm
  obtain ⟨a, c, rfl⟩ := List.append_of_mem hf
  have hp : (a ++ f :: c).Perm (f :: (a ++ c)) := List.perm_middle
  have e2 : (f.p, fileV sl f) = (k, v) := e
  injection e2 with e3 e4
  refine ⟨f, a ++ c, hp, e3.symm, e4.symm, ?_⟩
  have h2 := h.symm.trans (hp.map (entV sl))
  rw [List.map_cons, e] at h2
  exact h2.cons_inv
theorem wpl_nextE {P : Program} (w : World) {ops : Array Oper} {rest : List Oper} {o : Oper} {a : Go.Act} {Q : Exit → Go.Act → World → Prop} {b r : Nat} {l : List (S8 × Value)} {sl : Nat → Hn} {todo : List Fl} (hg : o.guard = none) (it : Operand) (hop : o.op = Op.next it false) (hit : a.eval it = .pointer (some ⟨r, 0, none⟩)) (h : RngB w b r l (todo.map (entV sl)))
    (hD : todo = [] → wpList P ops Q rest (a.put o.dst (.tuple #[.bool false])) w)
    (hM : ∀ f t2 w', todo.Perm (f :: t2) → RngB w' b r l (t2.map (entV sl)) → (Instr.entry (.pointer (some ⟨r, 0, none⟩))).run P w' = .ok (.tuple #[.string (mkS f.p), .agg #[.int .i64 f.size, .int .i64 f.time, .int .i64 f.chg, .slice (sl f.body).q (sl f.body).n (sl f.body).c]]) w' → w.grownBy w' (some r) → w'.heap.size = w.heap.size → wpList P ops Q rest (a.put o.dst (.tuple #[.bool true, .string (mkS f.p), .agg #[.int .i64 f.size, .int .i64 f.time, .int .i64 f.chg, .slice (sl f.body).q (sl f.body).n (sl f.body).c]])) w') : wpList P ops Q (o :: rest) a w := by
  refine wpl_next8 w hg it hop hit h (fun e => hD (List.map_eq_nil_iff.1 e)) fun p v todo' w' h1 _ h3 h4 h5 h6 => ?_
  obtain ⟨f, t2, hp2, rfl, rfl, hp3⟩ := ent_step h1
  exact hM f t2 w' hp2 (h3.of_todo hp3) h4 h5 h6
theorem sum_perm {l l' : List Int} (h : l.Perm l') : l.sum = l'.sum := by
  induction h with
  | nil => rfl
  | cons x _ ih => simp [ih]
  | swap x y l => simp only [List.sum_cons]; omega
  | trans _ _ h1 h2 => exact h1.trans h2
theorem sum_le {l : List Int} (h : ∀ x ∈ l, 0 ≤ x ∧ x ≤ 300000) : 0 ≤ l.sum ∧ l.sum ≤ (l.length : Int) * 300000 := by
  induction l with
  | nil => simp
  | cons x r ih =>
    have h1 := h x List.mem_cons_self
    have h2 := ih fun y hy => h y (List.mem_cons_of_mem _ hy)
    rw [List.sum_cons, List.length_cons]
    push_cast
    omega
theorem sum_cast (l : List Fl) (g : Fl → Nat) : ((l.map g).sum : Int) = (l.map fun f => (g f : Int)).sum := by
  induction l with
  | nil => rfl
  | cons x r ih => simp only [List.map_cons, List.sum_cons]; push_cast; rw [ih]
theorem used_sizes {m : Dk} (hz : SzOk m) : (usedL m : Int) = (m.seen.map Fl.size).sum := by
  unfold usedL
  rw [sum_cast]
  exact congrArg List.sum (List.map_congr_left fun f hf => (hz.seen f hf).symm)
theorem size_small {n : Nat} {m : Dk} (hz : SzOk m) (hok : DkOk n m) {f : Fl} (hf : f ∈ m.seen) : 0 ≤ f.size ∧ f.size ≤ 300000 := by
  rw [hz.seen f hf]
  have := hok.shortB f.body
  unfold bodyL
  omega
section
variable {w : World} {S : Nat → Prop} {b : Nat} {m : Dk} {mv md : Nat} {pv : Value} {vs : List Value} {sl : Nat → Hn}
set_option maxRecDepth 100000 in
set_option maxHeartbeats 4000000 in
theorem used_any (h : Dp w S b m mv md pv vs sl) (hok : DkOk 300 m) : Calls Tryd.prog 14 #[.pointer (some ⟨b, 0, none⟩)] w fun e w' => e = .returned (.int .i64 (usedL m : Int)) ∧ Below w.heap.size w w' := by
  have c2 := h.cell 2
  simp at c2
  have HV := Lib.hid h.vis
  have HU := Lib.hid (used_sizes h.sz)
  have HS := Lib.hid (fun f (hf : f ∈ m.seen) => size_small h.sz hok hf)
  have HN := Lib.hid hok.seen
  clear h
  go_enter Tryd.func14, Tryd.ntmps14
  go_wp2_with (first | (at_range; refine wpl_range8 _ rfl _ rfl mapT rfl HV.out ?_; intro w0 hR0 hB0 hz0) | go_in)
  go_frame
  go_loopw [3] (fun v wr => ∃ done todo : List Fl, m.seen.Perm (done ++ todo) ∧ v = .int .i64 ((done.map Fl.size).sum) ∧ RngB wr mv w.heap.size (m.seen.map (entV sl)) (todo.map (entV sl)) ∧ Below w.heap.size w wr) (fun _ wr => wr.rangeLeft mv w.heap.size)
  case atStart => exact ⟨[], m.seen, List.Perm.refl _, rfl, hR0, hB0⟩
  case round =>
    obtain ⟨done, todo, hperm, rfl, hR, hB⟩ := hrel
    have HPM := Lib.hid hperm
    have HB := Lib.hid hB
    clear hperm hB
    generalize hsum : (done.map Fl.size).sum = sm at *
    have HSM := Lib.hid hsum
    clear hsum
    have HRL := Lib.hid hR.left
    have HNW := Lib.hid hR.lt
    go_wp2_with (first | (at_next; refine wpl_nextE _ rfl _ rfl rfl hR ?_ ?_) | go_in)
    · intro htodo
      have HE := Lib.hid (show sm = (usedL m : Int) by
        rw [HU.out, ← HSM.out]
        have := HPM.out
        rw [htodo, List.append_nil] at this
        exact (sum_perm (this.map _)).symm)
      clear htodo hR
      go_wp2
      go_ret
      exact ⟨by rw [HE.out]; rfl, HB.out⟩
    · intro f t2 w1 hp1 hR1 hen hg1 hz1
      have hsd := sum_le (l := done.map Fl.size) (fun x hx => by
        obtain ⟨g, hg, rfl⟩ := List.mem_map.1 hx
        exact HS.out g (HPM.out.mem_iff.2 (List.mem_append_left _ hg)))
      have hfz := HS.out f (HPM.out.mem_iff.2 (List.mem_append_right _ (hp1.mem_iff.2 List.mem_cons_self)))
      have hln := HPM.out.length_eq
      have hlt := hp1.length_eq
      rw [List.length_append] at hln
      rw [List.length_map, HSM.out] at hsd
      have hNN := HN.out
      rw [List.length_cons] at hlt
      have hw : IntKind.i64.wrap (sm + f.size) = sm + f.size := by rw [IntKind.wrap_i64]; omega
      have HP1 := Lib.hid hp1
      have HB1 := Lib.hid (HB.out.grown hg1 HB.out.size (fun j hj => by cases hj; exact Nat.le_refl _))
      have HR2 := Lib.hid (hR1.of_below ((Below.refl _ _).alloc (Nat.le_refl _) (.cells #[.int .i64 f.size, .int .i64 f.time, .int .i64 f.chg, .slice (sl f.body).q (sl f.body).n (sl f.body).c] 64)))
      have HB2 := Lib.hid (HB1.out.alloc HB1.out.size (.cells #[.int .i64 f.size, .int .i64 f.time, .int .i64 f.chg, .slice (sl f.body).q (sl f.body).n (sl f.body).c] 64))
      clear hsd hfz hln hlt hNN hp1 hR hR1 hg1 hz1
      go_wp2
      go_roundw
      case rel =>
        refine ⟨f :: done, t2, HPM.out.trans ((HP1.out.append_left done).trans List.perm_middle), ?_, HR2.out, HB2.out⟩
        rw [List.map_cons, List.sum_cons, HSM.out, Int.add_comm]
      case measure => rw [HR2.out.left, HRL.out, List.length_map, List.length_map, HP1.out.length_eq]; simp
theorem clashes_perm {l l' : List Fl} (h : l.Perm l') (p but : S8) : clashesL l p but = clashesL l' p but := by
  unfold clashesL
  rw [Bool.eq_iff_iff, List.any_eq_true, List.any_eq_true]
  exact ⟨fun ⟨x, hx, e⟩ => ⟨x, h.mem_iff.1 hx, e⟩, fun ⟨x, hx, e⟩ => ⟨x, h.mem_iff.2 hx, e⟩⟩
set_option maxRecDepth 100000 in
set_option maxHeartbeats 4000000 in
theorem clashes_any {l : List Fl} (h : MpB w mv (l.map (entV sl))) (hs : ShortF l) (p but : S8) (hp : p.length < 100000) : Calls Tryd.prog 26 #[.map (some mv), .string (mkS p), .string (mkS but)] w fun e w' => e = .returned (.bool (clashesL l p but)) ∧ Below w.heap.size w w' := by
  have HV := Lib.hid h
  have HS := Lib.hid (shortF_iff.1 hs)
  clear h hs
  go_enter Tryd.func26, Tryd.ntmps26
  go_wp2_with (first | (at_range; refine wpl_range8 _ rfl _ rfl mapT rfl HV.out ?_; intro w0 hR0 hB0 hz0) | go_in)
  go_frame
  go_loopw [7] (fun _ wr => ∃ done todo : List Fl, l.Perm (done ++ todo) ∧ clashesL done p but = false ∧ RngB wr mv w.heap.size (l.map (entV sl)) (todo.map (entV sl)) ∧ Below w.heap.size w wr) (fun _ wr => wr.rangeLeft mv w.heap.size)
  case atStart => exact ⟨[], l, List.Perm.refl _, rfl, hR0, hB0⟩
  case round =>
    obtain ⟨done, todo, hperm, hno, hR, hB⟩ := hrel
    have HPM := Lib.hid hperm
    have HNO := Lib.hid hno
    have HB := Lib.hid hB
    clear hperm hB hno
    have HRL := Lib.hid hR.left
    have HNW := Lib.hid hR.lt
    go_wp2_with (first | (at_next; refine wpl_nextE _ rfl _ rfl rfl hR ?_ ?_) | go_in)
    · intro htodo
      have HE := Lib.hid (show clashesL l p but = false by
        have := HPM.out
        rw [htodo, List.append_nil] at this
        rw [clashes_perm this, HNO.out])
      clear htodo hR
      go_wp2
      go_ret
      exact ⟨by rw [HE.out]; rfl, HB.out⟩
    · intro f t2 w1 hp1 hR1 hen hg1 hz1
      have HIN := Lib.hid (HPM.out.mem_iff.2 (List.mem_append_right _ (hp1.mem_iff.2 List.mem_cons_self)))
      have HPL := Lib.hid (Nat.lt_of_le_of_lt (HS.out f HIN.out) (by decide : 100 < 100000))
      have HP1 := Lib.hid hp1
      have HB1 := Lib.hid (HB.out.grown hg1 HB.out.size (fun j hj => by cases hj; exact Nat.le_refl _))
      have HR1 := Lib.hid hR1
      clear hp1 hR hR1 hg1 hz1
      by_cases hb : f.p = but
      · have hq : (f.p == but) = true := by rw [hb]; simp
        have HC := Lib.hid (show clashesL (f :: done) p but = false by
          unfold clashesL; rw [List.any_cons, bne, hq]; exact HNO.out)
        clear hb
        go_wp2
        go_roundw
        case rel => exact ⟨f :: done, t2, HPM.out.trans ((HP1.out.append_left done).trans List.perm_middle), HC.out, HR1.out, HB1.out⟩
        case measure => rw [HR1.out.left, HRL.out, List.length_map, List.length_map, HP1.out.length_eq]; simp
      · have hq : (f.p == but) = false := by simpa using hb
        have HQ := Lib.hid hq
        have hcl : Calls Tryd.prog 39 #[.string (mkS f.p), .string (mkS p)] w1 fun e w' => Gives (.bool (clashL f.p p)) w1 e w' := clash_any f.p p w1 HPL.out hp
        obtain ⟨cv, hcv⟩ : ∃ cv, clashL f.p p = cv := ⟨_, rfl⟩
        rw [hcv] at hcl
        have HCL := Lib.hid hcl
        have HCV := Lib.hid hcv
        clear hb hcl hcv
        cases cv with
        | true =>
          have HE := Lib.hid (show clashesL l p but = true by
            unfold clashesL
            rw [List.any_eq_true]
            exact ⟨f, HIN.out, by rw [bne, HQ.out, HCV.out]; rfl⟩)
          go_wp2_with (first | (go_at_call 39; refine HCL.out.mono ?_; rintro e w2 ⟨rfl, hB2⟩; have HB2 := Lib.hid (HB1.out.trans (hB2.mono HB1.out.size)); clear hB2) | go_in)
          go_ret
          exact ⟨by rw [HE.out]; rfl, HB2.out⟩
        | false =>
          have HC := Lib.hid (show clashesL (f :: done) p but = false by
            unfold clashesL; rw [List.any_cons, bne, HQ.out, HCV.out]; exact HNO.out)
          go_wp2_with (first | (go_at_call 39; refine HCL.out.mono ?_; rintro e w2 ⟨rfl, hB2⟩; have HR2 := Lib.hid (HR1.out.of_below hB2); have HB2 := Lib.hid (HB1.out.trans (hB2.mono HB1.out.size)); clear hB2) | go_in)
          go_roundw
          case rel => exact ⟨f :: done, t2, HPM.out.trans ((HP1.out.append_left done).trans List.perm_middle), HC.out, HR2.out, HB2.out⟩
          case measure => rw [HR2.out.left, HRL.out, List.length_map, List.length_map, HP1.out.length_eq]; simp
end
end Go.Proofs.YtjglgohchhdkkaaDoor
