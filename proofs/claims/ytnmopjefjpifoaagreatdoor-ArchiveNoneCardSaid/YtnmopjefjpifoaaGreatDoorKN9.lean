/- Merged texts: Set11, Mkc8, Rdk8, Usd8, Do8, Rmv8, Nsy8, Cra8, Rot8. -/
import Derived.Test.YtnmopjefjpifoaaGreatDoorKN8
import Derived.Deep.RegionHeld3
import Derived.Test.YtnmopjefjpifoaaGreatDoorKN6
import Derived.Test.YtnmopjefjpifoaaGreatDoorKN3
import Derived.BigQuiet
set_option linter.unusedSimpArgs false
set_option linter.unusedVariables false
/- (*archive.Archive).Drop, Set. -/
set_option maxRecDepth 100000
namespace Go.Proofs.YtnmopjefjpifoaaGreatDoor
open Go Go.RowKit

attribute [-go_sem] Sha.exec_store
def delA (es : List Ent) (p : S8) : List Ent := es.filter fun e => e.1.path != p
def setA (es : List Ent) (e : Ent) : List Ent := e :: delA es e.1.path
theorem delA_V (es : List Ent) (p : S8) : (delA es p).map entA = delV (es.map entA) p := by
  unfold delA delV
  rw [List.filter_map]
  rfl
theorem setA_V (es : List Ent) (e : Ent) : (setA es e).map entA = putV (es.map entA) e.1.path (rcV e.1) := by
  unfold setA putV
  rw [List.map_cons, delA_V]
  rfl
theorem kp_grown {w w' : World} {mb : Nat} (h : w.grownBy w' (some mb)) : Kp mb w w' :=
  ⟨h.os, h.tape, h.output, h.size, fun k hk hne => h.block k hk (by simpa using hne)⟩
section
variable {w : World} {b mb : Nat} {gen : Int} {es : List Ent}
theorem ArAt.put {w' : World} {r : Rc} {ds : List By} (h : ArAt w b mb gen es) (hM : MpB w' mb (putV (es.map entA) r.path (rcV r))) (hk : Kp mb w w') (hd : DgAt w' r ds) (hg : goodR r = true) (hi : r.time < 9223372036854775808 ∧ r.chg < 9223372036854775808) (hf : findA es r.path = none → es.length < 128) : ArAt w' b mb gen (setA es (r, ds)) := by
  refine ⟨(hk.block b h.lt h.ne).trans h.box, by rw [setA_V]; exact hM, fun e he => ?_, fun e he => ?_, fun e he => ?_, ?_⟩
  · rcases List.mem_cons.1 he with rfl | he
    · exact hd
    · exact (h.dg e (List.mem_filter.1 he).1).kp_map h.map.is hk
  · rcases List.mem_cons.1 he with rfl | he
    · exact hg
    · exact h.good e (List.mem_filter.1 he).1
  · rcases List.mem_cons.1 he with rfl | he
    · exact hi
    · exact h.inn e (List.mem_filter.1 he).1
  · unfold setA
    rw [List.length_cons]
    cases hf' : findA es r.path with
    | none =>
      have h1 := List.length_filter_le (fun e : Ent => e.1.path != r.path) es
      have h2 := hf hf'
      unfold delA
      dsimp only
      omega
    | some e =>
      have hin := findA_in hf'
      have h1 : (delA es r.path).length < es.length := by
        unfold delA
        refine List.length_filter_lt_length_iff_exists.2 ⟨e, hin.1, ?_⟩
        simp [hin.2]
      have h2 := h.few
      dsimp only
      omega
attribute [local go_sem ↓] exec_boxP exec_allocP exec_storeP exec_loadP
attribute [local go_sem] boxP
end
end Go.Proofs.YtnmopjefjpifoaaGreatDoor
/- The program's writing, renaming, removing: closures made. -/
set_option maxRecDepth 100000
namespace Go.Proofs.YtnmopjefjpifoaaGreatDoor
open Go Go.RowKit
attribute [-go_sem] Sha.exec_store

theorem BoxS.free {w : World} {b : Nat} {p : S8} (h : BoxS w b p) : w.frozen? ⟨b, 0, none⟩ = false := by
  unfold World.frozen?
  rw [show w.heap[b]? = _ from h]
  simp
theorem BoxS.set {w : World} {b : Nat} {p : S8} (h : BoxS w b p) (q : S8) : BoxS (w.setCell ⟨b, 0, none⟩ (.string (mkS q))) b q := by
  unfold BoxS at h ⊢
  simp only [World.setCell, Array.getElem?_modify, if_true, h, Option.map_some]
  simp
theorem BoxS.of_below {w w' : World} {b : Nat} {p : S8} (h : BoxS w b p) {N : Nat} (hB : Below N w w') (hb : b < N) : BoxS w' b p := (hB.block b hb).trans h
theorem BoxF.of_below {w w' : World} {b : Nat} {sl : Nat → Hn} {f : Fl} (h : BoxF w b sl f) {N : Nat} (hB : Below N w w') (hb : b < N) : BoxF w' b sl f := (hB.block b hb).trans h
theorem BoxS.new (w : World) (p : S8) : BoxS (w.alloc (.cells #[.string (mkS p)] 9)) w.heap.size p := World.alloc_heap_new w _
set_option maxRecDepth 100000 in
set_option maxHeartbeats 4000000 in
theorem writing_any (sl : Nat → Hn) (f : Fl) (w : World) (hp : f.p.length < 100000) : Calls Tryz.prog 61 #[.string (mkS f.p), .agg #[.int .i64 f.size, .int .i64 f.time, .int .i64 f.chg, .slice (sl f.body).q (sl f.body).n (sl f.body).c]] w fun e w' =>
    e = .returned (.func (.func 127) #[] #[.pointer (some ⟨w.heap.size, 0, none⟩), .pointer (some ⟨w.heap.size + 1, 0, none⟩)]) ∧ BoxS w' w.heap.size f.p ∧ BoxF w' (w.heap.size + 1) sl f ∧ Below w.heap.size w w' := by
  have hB0 := (Below.refl w.heap.size w).alloc (Nat.le_refl _) (.cells #[.string (mkS f.p)] 9)
  have hB1 := hB0.alloc hB0.size (.cells #[.int .i64 f.size, .int .i64 f.time, .int .i64 f.chg, .slice (sl f.body).q (sl f.body).n (sl f.body).c] 137)
  have hs1 : BoxS ((w.alloc (.cells #[.string (mkS f.p)] 9)).alloc (.cells #[.int .i64 f.size, .int .i64 f.time, .int .i64 f.chg, .slice (sl f.body).q (sl f.body).n (sl f.body).c] 137)) w.heap.size f.p :=
    (BoxS.new w f.p).of_below ((Below.refl _ _).alloc (Nat.le_refl _) _) (by rw [World.size_alloc]; omega)
  have hf1 : BoxF ((w.alloc (.cells #[.string (mkS f.p)] 9)).alloc (.cells #[.int .i64 f.size, .int .i64 f.time, .int .i64 f.chg, .slice (sl f.body).q (sl f.body).n (sl f.body).c] 137)) (w.heap.size + 1) sl f := by
    have := World.alloc_heap_new (w.alloc (.cells #[.string (mkS f.p)] 9)) (.cells (fileC sl f) 137)
    rw [World.size_alloc] at this
    exact this
  have HSZ : Hid (((w.alloc (.cells #[.string (mkS f.p)] 9)).alloc (.cells #[.int .i64 f.size, .int .i64 f.time, .int .i64 f.chg, .slice (sl f.body).q (sl f.body).n (sl f.body).c] 137)).heap.size = w.heap.size + 2) := Lib.hid (by rw [World.size_alloc, World.size_alloc])
  have HC := Lib.hid (fun u => strClone_any f.p u (Nat.lt_trans hp (by decide)))
  generalize hW : ((w.alloc (.cells #[.string (mkS f.p)] 9)).alloc (.cells #[.int .i64 f.size, .int .i64 f.time, .int .i64 f.chg, .slice (sl f.body).q (sl f.body).n (sl f.body).c] 137)) = W at *
  have HW := Lib.hid hW
  have HB1 := Lib.hid hB1
  have HF1 := Lib.hid hf1
  have HS1 := Lib.hid hs1
  have c0 := hs1.cell
  clear hB0 hB1 hs1 hf1 hW hp
  go_enter Tryz.func61, Tryz.ntmps61
  go_wp2_with fail
  rw [HW.out]
  refine (HC.out W).mono ?_
  rintro e w2 ⟨rfl, hB2⟩
  have hs2 := HS1.out.of_below hB2 (by rw [HSZ.out]; omega)
  have c2 := hs2.cell
  have f2 := hs2.free
  have HB2 := Lib.hid (HB1.out.trans (hB2.mono HB1.out.size))
  have HF2 := Lib.hid (HF1.out.of_below hB2 (by rw [HSZ.out]; omega))
  have HS2 := Lib.hid hs2
  clear hB2 hs2 c0
  go_wp2
  go_ret
  exact ⟨rfl, HS2.out.set _, (Below.heap_setCell _ _ _ _ (by simp)).trans HF2.out, HB2.out.setCell (Nat.le_refl _) _⟩
/-- Two boxes of strings. -/
def Bx2 (w : World) (b1 b2 : Nat) (p q : S8) (u : World) : Prop := BoxS u b1 p ∧ BoxS u b2 q ∧ Below w.heap.size w u
theorem Bx2.facts {w u : World} {b1 b2 : Nat} {p q : S8} (h : Bx2 w b1 b2 p q u) : u.cell? ⟨b1, 0, none⟩ = some (.string (mkS p)) ∧ u.cell? ⟨b2, 0, none⟩ = some (.string (mkS q)) ∧ u.frozen? ⟨b1, 0, none⟩ = false ∧ u.frozen? ⟨b2, 0, none⟩ = false ∧ Bx2 w b1 b2 p q u :=
  ⟨h.1.cell, h.2.1.cell, h.1.free, h.2.1.free, h⟩
theorem Bx2.next {w u u' : World} {b1 b2 : Nat} {p q : S8} (h : Bx2 w b1 b2 p q u) (hB : Below u.heap.size u u') : Bx2 w b1 b2 p q u' :=
  ⟨h.1.of_below hB h.1.lt, h.2.1.of_below hB h.2.1.lt, h.2.2.trans (hB.mono h.2.2.size)⟩
end Go.Proofs.YtnmopjefjpifoaaGreatDoor
/- Read, Stat, Room, Waiting of the program's disk. -/
set_option maxRecDepth 100000
namespace Go.Proofs.YtnmopjefjpifoaaGreatDoor
open Go Go.RowKit
attribute [-go_sem] Sha.exec_store

theorem results_cell_tmp {P : Program} {fn : Func} {p q : Tmp} {ty : TypeId} (h : fn.results = #[.cell p ty, .tmp q]) (tmps : Array Value) (w : World) (g : Nat) (t : TypeId) (cs : Array Value) (fr : Nat × Nat) (d : TypeDesc)
    (hp : tmps.getD p undef = .pointer (some ⟨g, 0, none⟩)) (hg : w.heap[g]? = some (.cells cs t fr))
    (hu : P.underlying ty = some d) (hd : (match d with | .struct _ | .array _ _ => true | _ => false) = true) (hi : (P.info? ty).map (·.size) = some cs.size) (v : Value) (hv : tmps.getD q undef = v) :
    (results fn tmps).run P w = .ok (.tuple #[.agg cs, v]) w := by
  have hp' : tmps[p]?.getD undef = .pointer (some ⟨g, 0, none⟩) := by simpa using hp
  have hv' : tmps[q]?.getD undef = v := by simpa using hv
  simp [results, h, hp', hv', asAddr, run_loadVar_row w g t ty cs fr d hg hu hd hi, Result.andThen]
section
variable {w : World} {S : Nat → Prop} {b : Nat} {m : Dk} {mv md : Nat} {pv : Value} {vs : List Value} {sl : Nat → Hn}
theorem findL_in {l : List Fl} {p : S8} {i : Nat} (h : findL l p = some i) : l.getD i fl0 ∈ l := by
  have hi := findL_lt h
  rw [List.getD_eq_getElem?_getD, List.getElem?_eq_getElem hi]
  exact List.getElem_mem hi
set_option maxRecDepth 100000 in
set_option maxHeartbeats 4000000 in
theorem readD_any (h : Dp w S b m mv md pv vs sl) (hok : DkOk 300 m) (p : S8) : Calls Tryz.prog 71 #[.pointer (some ⟨b, 0, none⟩), .string (mkS p)] w fun e w' => ∃ v, e = .returned (.tuple #[v, .int .i64 (readN m p)]) ∧ w'.ownsRow w.heap.size 5 1 v ((readL m p).getD []).length (bytC ((readL m p).getD [])) ∧ Below w.heap.size w w' := by
  have c2 := h.cell 2
  simp at c2
  cases hf : findL m.seen p with
  | none =>
    have hl := look_none h.vis hf
    have HR := Lib.hid (show readL m p = none by unfold readL; rw [hf]; rfl)
    have HB := Lib.hid ((Below.refl w.heap.size w).alloc (Nat.le_refl _) (.cells #[.int .i64 0, .int .i64 0, .int .i64 0, .slice none 0 0] 137))
    have HN := Lib.hid (show readN m p = 8 by unfold readN; rw [HR.out]; rfl)
    clear h hf
    go_enter Tryz.func71, Tryz.ntmps71
    go_wp2
    go_ret2
    exact ⟨.slice none 0 0, by rw [HN.out]; rfl, by rw [HR.out]; exact ⟨rfl, .inl ⟨rfl, rfl⟩⟩, HB.out⟩
  | some i =>
    obtain ⟨x, hx⟩ : ∃ x, m.seen.getD i fl0 = x := ⟨_, rfl⟩
    have hl := look_some h.vis hf x hx
    have hxm : x.body < m.bodies.length := by rw [← hx]; exact hok.inS _ (findL_in hf)
    obtain ⟨b1, b2, b3, b4⟩ := h.bytes x.body hxm
    have hbb : (m.bodies.getD x.body []).length ≤ 300000 := hok.shortB x.body
    have HR := Lib.hid (show readL m p = some (m.bodies.getD x.body []) by unfold readL; rw [hf]; show some (bodyD m _) = _; rw [hx]; rfl)
    have hB := ((Below.refl w.heap.size w).alloc (Nat.le_refl _) (.cells #[.int .i64 x.size, .int .i64 x.time, .int .i64 x.chg, .slice (sl x.body).q (sl x.body).n (sl x.body).c] 137))
    have HC := Lib.hid (clone8_any (m.bodies.getD x.body []) (sl x.body).q (sl x.body).n (sl x.body).c (w.alloc (.cells #[.int .i64 x.size, .int .i64 x.time, .int .i64 x.chg, .slice (sl x.body).q (sl x.body).n (sl x.body).c] 137)) b1.symm (b2.of_below hB) b3 b4 (by omega))
    have k3 := box4_cell w 137 (.int .i64 x.size) (.int .i64 x.time) (.int .i64 x.chg) (.slice (sl x.body).q (sl x.body).n (sl x.body).c) 3
    simp at k3
    have HB := Lib.hid hB
    have HN := Lib.hid b1
    have HN2 := Lib.hid (show readN m p = 0 by unfold readN; rw [HR.out]; rfl)
    clear h hf b1 b2 b3 b4 hB hx
    go_enter Tryz.func71, Tryz.ntmps71
    go_wp2_with fail
    refine HC.out.mono ?_
    rintro e w2 ⟨v, rfl, hO, hB2⟩
    have HO := Lib.hid (own_lower hO (b2 := w.heap.size) HB.out.size)
    have HB2 := Lib.hid (HB.out.trans (hB2.mono HB.out.size))
    clear hO hB2
    go_wp2
    go_ret2
    refine ⟨v, by rw [HN2.out]; rfl, ?_, HB2.out⟩
    rw [HR.out]
    show w2.ownsRow _ _ _ _ (m.bodies.getD x.body []).length _
    rw [← HN.out]
    exact HO.out
def stampV (o : Option Fl) : Value := match o with
  | some f => .tuple #[.agg #[.int .i64 f.size, .int .i64 f.time, .int .i64 f.chg], .int .i64 0]
  | none => .tuple #[.agg #[.int .i64 0, .int .i64 0, .int .i64 0], .int .i64 8]
set_option maxRecDepth 100000 in
set_option maxHeartbeats 4000000 in
theorem stat_any (h : Dp w S b m mv md pv vs sl) (p : S8) : Calls Tryz.prog 105 #[.pointer (some ⟨b, 0, none⟩), .string (mkS p)] w fun e w' => e = .returned (stampV (fileL m p)) ∧ Below w.heap.size w w' := by
  have c2 := h.cell 2
  simp at c2
  have HLT := Lib.hid h.lt
  cases hf : findL m.seen p with
  | none =>
    have hB0 := (Below.refl w.heap.size w).alloc (Nat.le_refl _) (.cells #[.int .i64 0, .int .i64 0, .int .i64 0] 38)
    have hl := look_none (h.of_below hB0).vis hf
    have HR := Lib.hid (show stampV (fileL m p) = .tuple #[.agg #[.int .i64 0, .int .i64 0, .int .i64 0], .int .i64 8] by unfold fileL; rw [hf]; rfl)
    have c20 := (hB0.cell (p := ⟨b, 2, none⟩) h.lt).trans c2
    have HB := Lib.hid (hB0.alloc hB0.size (.cells #[.int .i64 0, .int .i64 0, .int .i64 0, .slice none 0 0] 137))
    clear h hf
    go_enter Tryz.func105, Tryz.ntmps105
    go_wp2
    refine bodyPost_ret (results_cell_tmp rfl _ _ w.heap.size 38 #[.int .i64 0, .int .i64 0, .int .i64 0] (0, 0) _ rfl (by rw [Below.heap_alloc _ _ _ (by rw [World.size_alloc]; omega)]; exact World.alloc_heap_new w _) Tryz.underlying38 rfl (by kernel_rfl) (.int .i64 8) rfl) rfl ?_
    exact ⟨by rw [HR.out], HB.out⟩
  | some i =>
    obtain ⟨x, hx⟩ : ∃ x, m.seen.getD i fl0 = x := ⟨_, rfl⟩
    have hB0 := (Below.refl w.heap.size w).alloc (Nat.le_refl _) (.cells #[.int .i64 0, .int .i64 0, .int .i64 0] 38)
    have hl := look_some (h.of_below hB0).vis hf x hx
    have HR := Lib.hid (show stampV (fileL m p) = .tuple #[.agg #[.int .i64 x.size, .int .i64 x.time, .int .i64 x.chg], .int .i64 0] by unfold fileL; rw [hf, ← hx]; rfl)
    have c20 := (hB0.cell (p := ⟨b, 2, none⟩) h.lt).trans c2
    have hB1 := (Below.refl w.heap.size w).alloc (Nat.le_refl _) (.cells #[.int .i64 x.size, .int .i64 x.time, .int .i64 x.chg] 38)
    have HB := Lib.hid (hB1.alloc hB1.size (.cells #[.int .i64 x.size, .int .i64 x.time, .int .i64 x.chg, .slice (sl x.body).q (sl x.body).n (sl x.body).c] 137))
    clear h hf hx hB1
    go_enter Tryz.func105, Tryz.ntmps105
    go_wp2
    refine bodyPost_ret (results_cell_tmp rfl _ _ w.heap.size 38 #[.int .i64 x.size, .int .i64 x.time, .int .i64 x.chg] (0, 0) _ rfl (by rw [Below.heap_alloc _ _ _ (by rw [World.size_alloc]; omega)]; exact World.alloc_heap_new w _) Tryz.underlying38 rfl (by kernel_rfl) (.int .i64 0) rfl) rfl ?_
    exact ⟨by rw [HR.out], HB.out⟩
set_option maxHeartbeats 1000000 in
theorem room_any (h : Dp w S b m mv md pv vs sl) : Calls Tryz.prog 217 #[.pointer (some ⟨b, 0, none⟩)] w fun e w' => e = .returned (.int .i64 m.room) ∧ w = w' := by
  have c0 := h.cell 0
  simp at c0
  clear h
  go_enter Tryz.func217, Tryz.ntmps217
  go_wp2
  go_ret
  exact ⟨rfl, rfl⟩
end
end Go.Proofs.YtnmopjefjpifoaaGreatDoor
/- Used and clashes of the program's disk: ranges over the map. -/
set_option maxRecDepth 100000
namespace Go.Proofs.YtnmopjefjpifoaaGreatDoor
open Go Go.RowKit
attribute [-go_sem] Sha.exec_store

theorem RngB.of_todo {w : World} {b r : Nat} {l todo todo2 : List (S8 × Value)} (h : RngB w b r l todo) (hp : todo.Perm todo2) : RngB w b r l todo2 := by
  obtain ⟨es, clock, since, seen, c0, h1, h2, h3, h4, h5, h6, h7⟩ := h
  exact ⟨es, clock, since, seen, c0, h1, h2, h3, h4, h5, h6, h7.trans (hp.map _)⟩
theorem ent_step {sl : Nat → Hn} {todo : List Fl} {k : S8} {v : Value} {t : List (S8 × Value)} (h : (todo.map (entV sl)).Perm ((k, v) :: t)) : ∃ f t2, todo.Perm (f :: t2) ∧ k = f.p ∧ v = fileV sl f ∧ t.Perm (t2.map (entV sl)) := by
  have hm : (k, v) ∈ todo.map (entV sl) := h.mem_iff.2 List.mem_cons_self
  obtain ⟨f, hf, e⟩ := List.mem_map.1 hm
  obtain ⟨a, c, rfl⟩ := List.append_of_mem hf
  have hp : (a ++ f :: c).Perm (f :: (a ++ c)) := List.perm_middle
  have e2 : (f.p, fileV sl f) = (k, v) := e
  injection e2 with e3 e4
  refine ⟨f, a ++ c, hp, e3.symm, e4.symm, ?_⟩
  have h2 := h.symm.trans (hp.map (entV sl))
  rw [List.map_cons, e] at h2
  exact h2.cons_inv
theorem wpl_nextE {P : Program} (w : World) {ops : Array Oper} {rest : List Oper} {o : Oper} {a : Go.Act} {Q : Exit → Go.Act → World → Prop} {b r : Nat} {l : List (S8 × Value)} {sl : Nat → Hn} {todo : List Fl} (hg : o.guard = none) (it : Operand) (hop : o.op = Op.next it false) (hit : a.eval it = .pointer (some ⟨r, 0, none⟩)) (h : RngB w b r l (todo.map (entV sl)))
    (hD : todo = [] → wpList P ops Q rest (a.put o.dst (.tuple #[.bool false])) w)
    (hM : ∀ f t2 w', todo.Perm (f :: t2) → RngB w' b r l (t2.map (entV sl)) → (Instr.entry (.pointer (some ⟨r, 0, none⟩))).run P w' = .ok (.tuple #[.string (mkS f.p), .agg #[.int .i64 f.size, .int .i64 f.time, .int .i64 f.chg, .slice (sl f.body).q (sl f.body).n (sl f.body).c]]) w' → w.grownBy w' (some r) → w'.heap.size = w.heap.size → wpList P ops Q rest (a.put o.dst (.tuple #[.bool true, .string (mkS f.p), .agg #[.int .i64 f.size, .int .i64 f.time, .int .i64 f.chg, .slice (sl f.body).q (sl f.body).n (sl f.body).c]])) w') : wpList P ops Q (o :: rest) a w := by
  refine wpl_next8 w hg it hop hit h (fun e => hD (List.map_eq_nil_iff.1 e)) fun p v todo' w' h1 _ h3 h4 h5 h6 => ?_
  obtain ⟨f, t2, hp2, rfl, rfl, hp3⟩ := ent_step h1
  exact hM f t2 w' hp2 (h3.of_todo hp3) h4 h5 h6
theorem sum_perm {l l' : List Int} (h : l.Perm l') : l.sum = l'.sum := by
  induction h with
  | nil => rfl
  | cons x _ ih => simp [ih]
  | swap x y l => simp only [List.sum_cons]; omega
  | trans _ _ h1 h2 => exact h1.trans h2
theorem sum_le {l : List Int} (h : ∀ x ∈ l, 0 ≤ x ∧ x ≤ 300000) : 0 ≤ l.sum ∧ l.sum ≤ (l.length : Int) * 300000 := by
  induction l with
  | nil => simp
  | cons x r ih =>
    have h1 := h x List.mem_cons_self
    have h2 := ih fun y hy => h y (List.mem_cons_of_mem _ hy)
    rw [List.sum_cons, List.length_cons]
    push_cast
    omega
theorem sum_cast (l : List Fl) (g : Fl → Nat) : ((l.map g).sum : Int) = (l.map fun f => (g f : Int)).sum := by
  induction l with
  | nil => rfl
  | cons x r ih => simp only [List.map_cons, List.sum_cons]; push_cast; rw [ih]
theorem used_sizes {m : Dk} (hz : SzOk m) : (usedL m : Int) = (m.seen.map Fl.size).sum := by
  unfold usedL
  rw [sum_cast]
  exact congrArg List.sum (List.map_congr_left fun f hf => (hz.seen f hf).symm)
theorem size_small {n : Nat} {m : Dk} (hz : SzOk m) (hok : DkOk n m) {f : Fl} (hf : f ∈ m.seen) : 0 ≤ f.size ∧ f.size ≤ 300000 := by
  rw [hz.seen f hf]
  have := hok.shortB f.body
  unfold bodyD
  omega
section
variable {w : World} {S : Nat → Prop} {b : Nat} {m : Dk} {mv md : Nat} {pv : Value} {vs : List Value} {sl : Nat → Hn}
set_option maxRecDepth 100000 in
set_option maxHeartbeats 4000000 in
theorem used_any (h : Dp w S b m mv md pv vs sl) (hok : DkOk 300 m) : Calls Tryz.prog 124 #[.pointer (some ⟨b, 0, none⟩)] w fun e w' => e = .returned (.int .i64 (usedL m : Int)) ∧ Below w.heap.size w w' := by
  have c2 := h.cell 2
  simp at c2
  have HV := Lib.hid h.vis
  have HU := Lib.hid (used_sizes h.sz)
  have HS := Lib.hid (fun f (hf : f ∈ m.seen) => size_small h.sz hok hf)
  have HN := Lib.hid hok.seen
  clear h
  go_enter Tryz.func124, Tryz.ntmps124
  go_wp2_with (first | (at_range; refine wpl_range8 _ rfl _ rfl mapT rfl HV.out ?_; intro w0 hR0 hB0 hz0) | go_in)
  go_frame
  go_loopw [3] (fun v wr => ∃ done todo : List Fl, m.seen.Perm (done ++ todo) ∧ v = .int .i64 ((done.map Fl.size).sum) ∧ RngB wr mv w.heap.size (m.seen.map (entV sl)) (todo.map (entV sl)) ∧ Below w.heap.size w wr) (fun _ wr => wr.rangeLeft mv w.heap.size)
  case atStart => exact ⟨[], m.seen, List.Perm.refl _, rfl, hR0, hB0⟩
  case round =>
    obtain ⟨done, todo, hperm, rfl, hR, hB⟩ := hrel
    have HPM := Lib.hid hperm
    have HB := Lib.hid hB
    clear hperm hB
    generalize hsum : (done.map Fl.size).sum = sm at *
    have HSM := Lib.hid hsum
    clear hsum
    have HRL := Lib.hid hR.left
    have HNW := Lib.hid hR.lt
    go_wp2_with (first | (at_next; refine wpl_nextE _ rfl _ rfl rfl hR ?_ ?_) | go_in)
    · intro htodo
      have HE := Lib.hid (show sm = (usedL m : Int) by
        rw [HU.out, ← HSM.out]
        have := HPM.out
        rw [htodo, List.append_nil] at this
        exact (sum_perm (this.map _)).symm)
      clear htodo hR
      go_wp2
      go_ret
      exact ⟨by rw [HE.out]; rfl, HB.out⟩
    · intro f t2 w1 hp1 hR1 hen hg1 hz1
      have hsd := sum_le (l := done.map Fl.size) (fun x hx => by
        obtain ⟨g, hg, rfl⟩ := List.mem_map.1 hx
        exact HS.out g (HPM.out.mem_iff.2 (List.mem_append_left _ hg)))
      have hfz := HS.out f (HPM.out.mem_iff.2 (List.mem_append_right _ (hp1.mem_iff.2 List.mem_cons_self)))
      have hln := HPM.out.length_eq
      have hlt := hp1.length_eq
      rw [List.length_append] at hln
      rw [List.length_map, HSM.out] at hsd
      have hNN := HN.out
      rw [List.length_cons] at hlt
      have hw : IntKind.i64.wrap (sm + f.size) = sm + f.size := by rw [IntKind.wrap_i64]; omega
      have HP1 := Lib.hid hp1
      have HB1 := Lib.hid (HB.out.grown hg1 HB.out.size (fun j hj => by cases hj; exact Nat.le_refl _))
      have HR2 := Lib.hid (hR1.of_below ((Below.refl _ _).alloc (Nat.le_refl _) (.cells #[.int .i64 f.size, .int .i64 f.time, .int .i64 f.chg, .slice (sl f.body).q (sl f.body).n (sl f.body).c] 137)))
      have HB2 := Lib.hid (HB1.out.alloc HB1.out.size (.cells #[.int .i64 f.size, .int .i64 f.time, .int .i64 f.chg, .slice (sl f.body).q (sl f.body).n (sl f.body).c] 137))
      clear hsd hfz hln hlt hNN hp1 hR hR1 hg1 hz1
      go_wp2
      go_roundw
      case rel =>
        refine ⟨f :: done, t2, HPM.out.trans ((HP1.out.append_left done).trans List.perm_middle), ?_, HR2.out, HB2.out⟩
        rw [List.map_cons, List.sum_cons, HSM.out, Int.add_comm]
      case measure => rw [HR2.out.left, HRL.out, List.length_map, List.length_map, HP1.out.length_eq]; simp
theorem clashes_perm {l l' : List Fl} (h : l.Perm l') (p but : S8) : clashesL l p but = clashesL l' p but := by
  unfold clashesL
  rw [Bool.eq_iff_iff, List.any_eq_true, List.any_eq_true]
  exact ⟨fun ⟨x, hx, e⟩ => ⟨x, h.mem_iff.1 hx, e⟩, fun ⟨x, hx, e⟩ => ⟨x, h.mem_iff.2 hx, e⟩⟩
set_option maxRecDepth 100000 in
set_option maxHeartbeats 4000000 in
theorem clashes_any {l : List Fl} (h : MpB w mv (l.map (entV sl))) (hs : ShortF l) (p but : S8) (hp : p.length < 100000) : Calls Tryz.prog 126 #[.map (some mv), .string (mkS p), .string (mkS but)] w fun e w' => e = .returned (.bool (clashesL l p but)) ∧ Below w.heap.size w w' := by
  have HV := Lib.hid h
  have HS := Lib.hid (shortF_iff.1 hs)
  clear h hs
  go_enter Tryz.func126, Tryz.ntmps126
  go_wp2_with (first | (at_range; refine wpl_range8 _ rfl _ rfl mapT rfl HV.out ?_; intro w0 hR0 hB0 hz0) | go_in)
  go_frame
  go_loopw [7] (fun _ wr => ∃ done todo : List Fl, l.Perm (done ++ todo) ∧ clashesL done p but = false ∧ RngB wr mv w.heap.size (l.map (entV sl)) (todo.map (entV sl)) ∧ Below w.heap.size w wr) (fun _ wr => wr.rangeLeft mv w.heap.size)
  case atStart => exact ⟨[], l, List.Perm.refl _, rfl, hR0, hB0⟩
  case round =>
    obtain ⟨done, todo, hperm, hno, hR, hB⟩ := hrel
    have HPM := Lib.hid hperm
    have HNO := Lib.hid hno
    have HB := Lib.hid hB
    clear hperm hB hno
    have HRL := Lib.hid hR.left
    have HNW := Lib.hid hR.lt
    go_wp2_with (first | (at_next; refine wpl_nextE _ rfl _ rfl rfl hR ?_ ?_) | go_in)
    · intro htodo
      have HE := Lib.hid (show clashesL l p but = false by
        have := HPM.out
        rw [htodo, List.append_nil] at this
        rw [clashes_perm this, HNO.out])
      clear htodo hR
      go_wp2
      go_ret
      exact ⟨by rw [HE.out]; rfl, HB.out⟩
    · intro f t2 w1 hp1 hR1 hen hg1 hz1
      have HIN := Lib.hid (HPM.out.mem_iff.2 (List.mem_append_right _ (hp1.mem_iff.2 List.mem_cons_self)))
      have HPL := Lib.hid (Nat.lt_of_le_of_lt (HS.out f HIN.out) (by decide : 100 < 100000))
      have HP1 := Lib.hid hp1
      have HB1 := Lib.hid (HB.out.grown hg1 HB.out.size (fun j hj => by cases hj; exact Nat.le_refl _))
      have HR1 := Lib.hid hR1
      clear hp1 hR hR1 hg1 hz1
      by_cases hb : f.p = but
      · have hq : (f.p == but) = true := by rw [hb]; simp
        have HC := Lib.hid (show clashesL (f :: done) p but = false by
          unfold clashesL; rw [List.any_cons, bne, hq]; exact HNO.out)
        clear hb
        go_wp2
        go_roundw
        case rel => exact ⟨f :: done, t2, HPM.out.trans ((HP1.out.append_left done).trans List.perm_middle), HC.out, HR1.out, HB1.out⟩
        case measure => rw [HR1.out.left, HRL.out, List.length_map, List.length_map, HP1.out.length_eq]; simp
      · have hq : (f.p == but) = false := by simpa using hb
        have HQ := Lib.hid hq
        have hcl : Calls Tryz.prog 181 #[.string (mkS f.p), .string (mkS p)] w1 fun e w' => Gives (.bool (clashL f.p p)) w1 e w' := clash_any f.p p w1 HPL.out hp
        obtain ⟨cv, hcv⟩ : ∃ cv, clashL f.p p = cv := ⟨_, rfl⟩
        rw [hcv] at hcl
        have HCL := Lib.hid hcl
        have HCV := Lib.hid hcv
        clear hb hcl hcv
        cases cv with
        | true =>
          have HE := Lib.hid (show clashesL l p but = true by
            unfold clashesL
            rw [List.any_eq_true]
            exact ⟨f, HIN.out, by rw [bne, HQ.out, HCV.out]; rfl⟩)
          go_wp2_with (first | (go_at_call 181; refine HCL.out.mono ?_; rintro e w2 ⟨rfl, hB2⟩; have HB2 := Lib.hid (HB1.out.trans (hB2.mono HB1.out.size)); clear hB2) | go_in)
          go_ret
          exact ⟨by rw [HE.out]; rfl, HB2.out⟩
        | false =>
          have HC := Lib.hid (show clashesL (f :: done) p but = false by
            unfold clashesL; rw [List.any_cons, bne, HQ.out, HCV.out]; exact HNO.out)
          go_wp2_with (first | (go_at_call 181; refine HCL.out.mono ?_; rintro e w2 ⟨rfl, hB2⟩; have HR2 := Lib.hid (HR1.out.of_below hB2); have HB2 := Lib.hid (HB1.out.trans (hB2.mono HB1.out.size)); clear hB2) | go_in)
          go_roundw
          case rel => exact ⟨f :: done, t2, HPM.out.trans ((HP1.out.append_left done).trans List.perm_middle), HC.out, HR2.out, HB2.out⟩
          case measure => rw [HR2.out.left, HRL.out, List.length_map, List.length_map, HP1.out.length_eq]; simp
end
end Go.Proofs.YtnmopjefjpifoaaGreatDoor
/- do of the program's disk: a change is applied, and waits. -/
set_option maxRecDepth 100000
namespace Go.Proofs.YtnmopjefjpifoaaGreatDoor
open Go Go.RowKit
attribute [-go_sem] Sha.exec_store

theorem elCh : ElK 127 133 .nilFunc 1 8 := ⟨by kernel_rfl, by kernel_rfl, rfl, by decide, by decide⟩
/-- S and the blocks from N on below M. -/
def SN (S : Nat → Prop) (N M : Nat) (k : Nat) : Prop := S k ∨ (N ≤ k ∧ k < M)
theorem ClsV.one {w : World} {S : Nat → Prop} {sl : Nat → Hn} {c : Ch} {v : Value} (h : ClsV w S sl c v) : v.oneCell' = true := by
  cases h with
  | write b1 b2 hk hv h1 h2 s1 s2 => rw [hv]; rfl
  | rename b1 b2 hk hv h1 h2 s1 s2 => rw [hv]; rfl
  | remove b1 hk hv h1 s1 => rw [hv]; rfl
section
variable {w w' : World} {S S' : Nat → Prop} {b : Nat} {m : Dk} {mv md : Nat} {pv : Value} {vs : List Value} {sl : Nat → Hn}
/-- One of the maps, and nothing else of the disk, has changed. -/
theorem Dp.ne_map (h : Dp w S b m mv md pv vs sl) {k : Nat} {es : Array MapEntry} {clock : Nat} (hk : w.heap[k]? = some (.map es clock)) : k ≠ b ∧ (∀ g, pv.ownBlock = some g → k ≠ g) ∧ ∀ k2 T cs, w.heap[k2]? = some (.cells cs T (0, 0)) → k2 ≠ k := by
  refine ⟨fun e => ?_, fun g hg e => ?_, fun k2 T cs h2 e => ?_⟩
  · rw [e, h.box] at hk; cases hk
  · obtain ⟨cur, hc⟩ := own_type h.pd.own hg
    rw [e, hc] at hk; cases hk
  · rw [e, hk] at h2; cases h2
theorem Dp.visTo (h : Dp w S b m mv md pv vs sl) (hg : w.grownBy w' (some mv)) {l : List Fl} (hM : MpB w' mv (l.map (entV sl))) (hz : ∀ f ∈ l, f.size = ((bodyD m f).length : Int)) : Dp w' S b { m with seen := l } mv md pv vs sl := by
  obtain ⟨es, clock, hb, _⟩ := h.vis
  obtain ⟨n1, n2, n3⟩ := h.ne_map hb
  have hk : ∀ k, S k → k ≠ mv → w'.heap[k]? = w.heap[k]? := fun k hk hne => hg.block k (h.low k hk) (by simpa using hne)
  exact ⟨(hk b h.sb n1.symm).trans h.box, h.sb, h.sv, h.sd, h.ne, hM, h.dur.keep (hk md h.sd h.ne.symm), h.bod.keep (fun k cur hs hc => hk k hs (n3 k _ _ hc)) (fun _ x => x), h.pd.keep (fun k T cs hs hc _ => hk k hs (n3 k _ _ hc)) (fun _ x => x), ⟨hz, h.sz.safe, h.sz.waits⟩, fun k hk => Nat.lt_of_lt_of_le (h.low k hk) hg.size⟩
theorem doL_size {m : Dk} {l : List Fl} {c : Ch} (hl : ∀ f ∈ l, f.size = ((bodyD m f).length : Int)) (hc : c.kind = 1 → c.file.size = ((bodyD m c.file).length : Int)) : ∀ f ∈ doL l c, f.size = ((bodyD m f).length : Int) := by
  intro f hf
  unfold doL at hf
  split at hf
  · rename_i hk
    rcases List.mem_append.1 hf with hf | hf
    · exact hl f (without_mem hf)
    · simp at hf
      subst hf
      exact hc hk
  · split at hf
    · exact hl f hf
    · rename_i i hi
      rcases List.mem_append.1 hf with hf | hf
      · exact hl f (without_mem (without_mem hf))
      · simp only [List.mem_singleton] at hf
        subst hf
        have := hl _ (findL_in hi)
        exact this
  · exact hl f (without_mem hf)
theorem enters_wr : ∀ args w, (callFunc 127 args).run Tryz.prog w = .ok (.enter 127 args) w := enters_of Tryz.func127 (by kernel_rfl) rfl
theorem enters_rn : ∀ args w, (callFunc 208 args).run Tryz.prog w = .ok (.enter 208 args) w := enters_of Tryz.func208 (by kernel_rfl) rfl
theorem enters_rm : ∀ args w, (callFunc 209 args).run Tryz.prog w = .ok (.enter 209 args) w := enters_of Tryz.func209 (by kernel_rfl) rfl
/-- A closure applied to a map. -/
theorem cls_any {c : Ch} {v : Value} (h : ClsV w S sl c v) (l : List Fl) (mb : Nat) (hM : MpB w mb (l.map (entV sl))) (hs : ShortF l) (hp : c.file.p.length < 100000) (f : Fn) (fs : Array Value) (cs : Array Value) (hv : v = .func f fs cs) (hmb : ∀ k T cur, w.heap[k]? = some (.cells cur T (0, 0)) → k ≠ mb) :
    ∃ g, f = .func g ∧ fs = #[] ∧ (∀ args u, (callFunc g args).run Tryz.prog u = .ok (.enter g args) u) ∧ Calls Tryz.prog g (#[.map (some mb)] ++ cs) w fun e w' => e = .returned (.tuple #[]) ∧ MpB w' mb ((doL l c).map (entV sl)) ∧ w.grownBy w' (some mb) := by
  cases h with
  | write b1 b2 hk hv1 h1 h2 s1 s2 =>
    rw [hv] at hv1
    injection hv1 with e1 e2 e3
    subst e1 e2 e3
    exact ⟨_, rfl, rfl, enters_wr, wrC_any sl l c b1 b2 mb w hk hM h1 h2 hp hs⟩
  | rename b1 b2 hk hv1 h1 h2 s1 s2 =>
    rw [hv] at hv1
    injection hv1 with e1 e2 e3
    subst e1 e2 e3
    exact ⟨_, rfl, rfl, enters_rn, rnC_any sl l c b1 b2 mb w hk hM h1 h2 hp hs (hmb _ _ _ h1) (hmb _ _ _ h2)⟩
  | remove b1 hk hv1 h1 s1 =>
    rw [hv] at hv1
    injection hv1 with e1 e2 e3
    subst e1 e2 e3
    exact ⟨_, rfl, rfl, enters_rm, rmC_any sl l c b1 mb w hk hM h1⟩
theorem ClsV.func {c : Ch} {v : Value} (h : ClsV w S sl c v) : ∃ g cs, v = .func (.func g) #[] cs := by
  cases h with
  | write b1 b2 hk hv1 h1 h2 s1 s2 => exact ⟨_, _, hv1⟩
  | rename b1 b2 hk hv1 h1 h2 s1 s2 => exact ⟨_, _, hv1⟩
  | remove b1 hk hv1 h1 s1 => exact ⟨_, _, hv1⟩
theorem Dp.ne_pend (h : Dp w S b m mv md pv vs sl) {g : Nat} (hg : pv.ownBlock = some g) : g ≠ b ∧ g ≠ mv ∧ g ≠ md := by
  obtain ⟨cur, hc⟩ := own_type h.pd.own hg
  obtain ⟨e1, c1, hv, _⟩ := h.vis
  obtain ⟨e2, c2, hd, _⟩ := h.dur
  refine ⟨fun e => ?_, fun e => ?_, fun e => ?_⟩
  · rw [e, h.box] at hc
    injection hc with hc
    injection hc with _ hc _
    exact absurd hc (by decide)
  · rw [e, hv] at hc; cases hc
  · rw [e, hd] at hc; cases hc
theorem setCell_box {w : World} {b : Nat} {cs : Array Value} {T : TypeId} (h : w.heap[b]? = some (.cells cs T (0, 0))) (j : Nat) (v : Value) : (w.setCell ⟨b, j, none⟩ v).heap[b]? = some (.cells (cs.setIfInBounds j v) T (0, 0)) := by
  simp only [World.setCell, Array.getElem?_modify, if_true, h, Option.map_some]
  simp
theorem Dp.pendTo {u w3 : World} {v v3 : Value} {c : Ch} (h : Dp u S b m mv md pv vs sl) (hg : u.grownBy w3 pv.ownBlock) (hO : w3.ownsRow 0 133 1 v3 (m.waits.length + 1) (vs ++ [v])) (hloc : v3.ownBlock = pv.ownBlock ∨ v3.ownBlock = some u.heap.size) (hcl : ClsV u S sl c v) (hz : c.kind = 1 → c.file.size = ((bodyD m c.file).length : Int))
    (hS : ∀ k, S k → S' k) (hnew : ∀ k, u.heap.size ≤ k → k < w3.heap.size → S' k) (hlow : ∀ k, S' k → k < w3.heap.size) : Dp (w3.setCell ⟨b, 4, none⟩ v3) S' b { m with waits := m.waits ++ [c] } mv md v3 (vs ++ [v]) sl := by
  have hk3 : ∀ k, S k → pv.ownBlock ≠ some k → w3.heap[k]? = u.heap[k]? := fun k hk hn => hg.block k (h.low k hk) (fun e => hn e.symm)
  have hb3 := (hk3 b h.sb (fun e => (h.ne_pend e).1 rfl)).trans h.box
  have hk : ∀ k, S k → pv.ownBlock ≠ some k → k ≠ b → (w3.setCell ⟨b, 4, none⟩ v3).heap[k]? = u.heap[k]? := fun k hk hn hb => (Below.heap_setCell _ _ _ _ hb).trans (hk3 k hk hn)
  obtain ⟨e1, c1, hv, _⟩ := id h.vis
  obtain ⟨e2, c2, hd, _⟩ := id h.dur
  have nb : ∀ k T cs, u.heap[k]? = some (.cells cs T (0, 0)) → (T = 9 ∨ T = 137 ∨ T = 5) → k ≠ b ∧ pv.ownBlock ≠ some k := fun k T cs hc hT => by
    refine ⟨fun e => ?_, fun e => ?_⟩
    · rw [e, h.box] at hc
      injection hc with hc
      injection hc with _ hc _
      rcases hT with rfl | rfl | rfl <;> exact absurd hc (by decide)
    · obtain ⟨cur, hc2⟩ := own_type h.pd.own e
      rw [hc] at hc2
      injection hc2 with hc2
      injection hc2 with _ hc2 _
      rcases hT with rfl | rfl | rfl <;> exact absurd hc2 (by decide)
  have hcls : ∀ {c : Ch} {x : Value}, ClsV u S sl c x → ClsV (w3.setCell ⟨b, 4, none⟩ v3) S' sl c x := fun hx => hx.keep (fun k T cs hs hc hT => by
    obtain ⟨n1, n2⟩ := nb k T cs hc (by rcases hT with x | x; exact .inl x; exact .inr (.inl x))
    exact hk k hs n2 n1) hS
  have hvb : ∀ g, v3.ownBlock = some g → g ≠ b ∧ S' g := fun g hgv => by
    rcases hloc with e | e
    · rw [e] at hgv
      exact ⟨(h.ne_pend hgv).1, hS _ (h.pd.in_ g hgv)⟩
    · rw [e] at hgv
      injection hgv with hgv
      refine ⟨?_, hnew g (by omega) (hO.lt g (by rw [e, hgv])).2⟩
      have := h.lt
      omega
  refine ⟨?_, hS _ h.sb, hS _ h.sv, hS _ h.sd, h.ne, h.vis.keep (hk mv h.sv (fun e => (h.ne_pend e).2.1 rfl) ?_), h.dur.keep (hk md h.sd (fun e => (h.ne_pend e).2.2 rfl) ?_), h.bod.keep (fun k cur hs hc => ?_) hS, ⟨?_, fun g hgv => (hvb g hgv).2, fun i hi => ?_⟩, ⟨h.sz.seen, h.sz.safe, fun x hx => ?_⟩, fun k hk => by simpa using hlow k hk⟩
  · exact setCell_box hb3 4 v3
  · intro e; rw [e, h.box] at hv; cases hv
  · intro e; rw [e, h.box] at hd; cases hd
  · obtain ⟨n1, n2⟩ := nb k _ cur hc (.inr (.inr rfl))
    exact hk k hs n2 n1
  · have := ownsRow_setCell_other hO (a := ⟨b, 4, none⟩) (fun e => (hvb b e).1 rfl) v3
    rw [List.length_append]
    exact this
  · have hvl : vs.length = m.waits.length := by have := h.pd.own.1; omega
    by_cases hi2 : i < m.waits.length
    · obtain ⟨x, e, hx⟩ := h.pd.cls i hi2
      refine ⟨x, by rw [List.getElem?_append_left (by omega)]; exact e, ?_⟩
      have e2 : (m.waits ++ [c])[i] = m.waits[i] := List.getElem_append_left hi2
      show ClsV _ _ _ ((m.waits ++ [c])[i]) _
      rw [e2]
      exact hcls hx
    · have hie : i = m.waits.length := by
        have : i < (m.waits ++ [c]).length := hi
        rw [List.length_append] at this
        simp at this
        omega
      subst hie
      refine ⟨v, by rw [List.getElem?_append_right (by omega), hvl]; simp, ?_⟩
      have e2 : (m.waits ++ [c])[m.waits.length] = c := by simp
      show ClsV _ _ _ ((m.waits ++ [c])[m.waits.length]) _
      rw [e2]
      exact hcls hcl
  · rcases List.mem_append.1 hx with hx | hx
    · exact h.sz.waits x hx
    · simp at hx
      rw [hx]
      exact hz
set_option maxRecDepth 100000 in
set_option maxHeartbeats 4000000 in
theorem do_any {v : Value} {c : Ch} (h : Dp w S b m mv md pv vs sl) (hok : DkOk 300 m) (hcl : ClsV w S sl c v) (hcp : c.file.p.length < 100000) (hz : c.kind = 1 → c.file.size = ((bodyD m c.file).length : Int)) : Calls Tryz.prog 60 #[.pointer (some ⟨b, 0, none⟩), v] w fun e w' => e = .returned (.tuple #[]) ∧ (∃ pv2 vs2, Dp w' (SN S w.heap.size w'.heap.size) b (changeL m c) mv md pv2 vs2 sl) ∧ Kq8 S w w' := by
  obtain ⟨es, clock, hvb, _⟩ := id h.vis
  have HNE := Lib.hid (h.ne_map hvb)
  obtain ⟨g, cs, rfl⟩ := hcl.func
  obtain ⟨g2, e1, _, heg, hC⟩ := cls_any hcl m.seen mv h.vis hok.shS hcp _ _ _ rfl HNE.out.2.2
  injection e1 with e1
  subst e1
  have HC := Lib.hid hC
  have H := Lib.hid h
  have HCL := Lib.hid hcl
  have HZ := Lib.hid hz
  have HWL := Lib.hid (Nat.le_trans (Nat.le_add_left m.waits.length m.safe.length) hok.both)
  obtain ⟨pq, pc, hpv⟩ := own_slice h.pd.own
  have HPV := Lib.hid hpv
  have c2 := h.cell 2
  simp at c2
  clear h hC hcl hok hz hpv hvb
  go_enter Tryz.func60, Tryz.ntmps60
  go_wp2_with fail
  refine HC.out.mono ?_
  rintro e w1 ⟨rfl, hM, hg⟩
  have h1 := H.out.visTo hg hM (doL_size H.out.sz.seen HZ.out)
  have H1 := Lib.hid h1
  have HG1 := Lib.hid hg
  have hBA := (Below.refl w1.heap.size w1).alloc (Nat.le_refl _) (.cells #[.func (.func g) #[] cs] 133)
  have H2 := Lib.hid (h1.of_below hBA)
  have c4 := h1.cell 4
  rw [HPV.out] at c4
  simp at c4
  have c4b := (h1.of_below hBA).cell 4
  rw [HPV.out] at c4b
  simp at c4b
  have HLM := Lib.hid (LsC.made w1 [.func (.func g) #[] cs] 133)
  have HBA := Lib.hid hBA
  clear hM hg h1 c2 hBA
  have HCL2 : Hid (ClsV (w1.alloc (.cells #[.func (.func g) #[] cs] 133)) S sl c (.func (.func g) #[] cs)) := Lib.hid (HCL.out.keep (fun k T cs hs hc _ => by
    have h1 := H.out.low k hs
    rw [HBA.out.block k (Nat.lt_of_lt_of_le h1 HG1.out.size), HG1.out.block k h1 (by simpa using HNE.out.2.2 k T cs hc)]) (fun _ x => x))
  have HSU := Lib.hid (Nat.le_trans HG1.out.size HBA.out.size)
  have HO2 : Hid ((w1.alloc (.cells #[.func (.func g) #[] cs] 133)).ownsRow 0 133 1 pv m.waits.length vs) := Lib.hid H2.out.pd.own
  go_wp2_with (first
    | (refine wpl_appendK (v := pv) elCh _ rfl _ _ rfl 0 HPV.out.symm HO2.out (some ⟨w1.heap.size, 0, none⟩) 1 1 [.func (.func g) #[] cs] rfl rfl HLM.out (fun e => by cases e) (fun u hu => by rw [List.mem_singleton.1 hu]; rfl) (by have := HWL.out; omega) (Nat.zero_le _) ?_
       rintro v3 w3 hO3 hg3 hl3
       obtain ⟨q3, c3, hv3⟩ := own_slice hO3
       subst hv3
       have HD3 := Lib.hid (H2.out.pendTo (S' := SN S w.heap.size w3.heap.size) hg3 hO3 hl3 HCL2.out HZ.out (fun k hk => .inl hk) (fun k h1 h2 => .inr ⟨Nat.le_trans HSU.out h1, h2⟩) (fun k hk => by
         rcases hk with x | x
         · exact Nat.lt_of_lt_of_le (H2.out.low k x) hg3.size
         · exact x.2))
       have c43 : w3.cell? ⟨b, 4, none⟩ = some (.slice pq m.waits.length pc) := (World.cell?_of_block (hg3.block b H2.out.lt (fun e => (H2.out.ne_pend e.symm).1 rfl))).trans c4b
       have f43 : w3.frozen? ⟨b, 4, none⟩ = false := (World.frozen?_of_block (hg3.block b H2.out.lt (fun e => (H2.out.ne_pend e.symm).1 rfl))).trans (H2.out.free 4)
       have HG3 := Lib.hid hg3
       clear hO3 hg3 hl3)
    | go_in)
  go_end0
  have hsz : (w3.setCell ⟨b, 4, none⟩ (.slice q3 (m.waits.length + 1) c3)).heap.size = w3.heap.size := by simp
  refine ⟨rfl, ⟨_, _, by rw [hsz]; exact HD3.out⟩, ?_⟩
  have q1 := HG1.out
  have q2 := HBA.out
  have q3 := HG3.out
  refine ⟨q3.os.trans (q2.os.trans q1.os), q3.tape.trans (q2.tape.trans q1.tape), q3.output.trans (q2.output.trans q1.output), by rw [hsz]; exact Nat.le_trans HSU.out q3.size, fun k hk hn => ?_⟩
  have hk1 : k < w1.heap.size := Nat.lt_of_lt_of_le hk q1.size
  rw [Below.heap_setCell _ _ _ _ (fun e => hn (by rw [e]; exact H.out.sb)), q3.block k (Nat.lt_of_lt_of_le hk1 q2.size) (fun e => hn (H.out.pd.in_ k e.symm)), q2.block k hk1, q1.block k hk (fun e => hn (by injection e with e; rw [e]; exact H.out.sv))]
end
end Go.Proofs.YtnmopjefjpifoaaGreatDoor
/- Remove, Rename of the program's disk. -/
set_option maxRecDepth 100000
namespace Go.Proofs.YtnmopjefjpifoaaGreatDoor
open Go Go.RowKit
attribute [-go_sem] Sha.exec_store

/-- What a call leaves behind. -/
def DPost (S : Nat → Prop) (b : Nat) (w : World) (m : Dk) (w' : World) : Prop := (∃ mv md pv vs sl, Dp w' (SN S w.heap.size w'.heap.size) b m mv md pv vs sl) ∧ Kq8 S w w'
section
variable {w w' w2 w3 : World} {S S' : Nat → Prop} {b : Nat} {m : Dk} {mv md : Nat} {pv : Value} {vs : List Value} {sl : Nat → Hn}
theorem SN.low {N M : Nat} (hl : ∀ k, S k → k < N) (hNM : N ≤ M) : ∀ k, SN S N M k → k < M := fun k hk => by
  rcases hk with x | x
  · exact Nat.lt_of_lt_of_le (hl k x) hNM
  · exact x.2
theorem Dp.wide (h : Dp w S b m mv md pv vs sl) (hB : Below w.heap.size w w') : Dp w' (SN S w.heap.size w'.heap.size) b m mv md pv vs sl :=
  h.keep (fun k hk => hB.block k (h.low k hk)) (fun k hk => .inl hk) (SN.low h.low hB.size)
theorem DPost.same (h : Dp w S b m mv md pv vs sl) (hB : Below w.heap.size w w') : DPost S b w m w' := ⟨⟨mv, md, pv, vs, sl, h.wide hB⟩, Kq8.of_below hB⟩
theorem SN.join {N M K : Nat} (h1 : N ≤ M) (h2 : M ≤ K) (k : Nat) (h : SN (SN S N M) M K k) : SN S N K k := by
  rcases h with (x | x) | x
  · exact .inl x
  · exact .inr ⟨x.1, Nat.lt_of_lt_of_le x.2 h2⟩
  · exact .inr ⟨Nat.le_trans h1 x.1, x.2⟩
theorem DPost.after (hB : Below w.heap.size w w2) (hl : ∀ k, S k → k < w.heap.size) (h : DPost (SN S w.heap.size w2.heap.size) b w2 m w3) : DPost S b w m w3 := by
  obtain ⟨⟨mv, md, pv, vs, sl, hd⟩, hk⟩ := h
  refine ⟨⟨mv, md, pv, vs, sl, hd.keep (fun _ _ => rfl) (fun k hk2 => SN.join hB.size hk.size k hk2) (SN.low hl (Nat.le_trans hB.size hk.size))⟩, ?_⟩
  exact ⟨hk.os.trans hB.os, hk.tape.trans hB.tape, hk.output.trans hB.output, Nat.le_trans hB.size hk.size, fun k hk1 hn => by
    rw [hk.block k (Nat.lt_of_lt_of_le hk1 hB.size) (fun x => by rcases x with x | x; exact hn x; omega)]
    exact hB.block k hk1⟩
theorem ClsV.of_below {c : Ch} {v : Value} (h : ClsV w S sl c v) (hl : ∀ k, S k → k < w.heap.size) (hB : Below w.heap.size w w') (hS : ∀ k, S k → S' k) : ClsV w' S' sl c v :=
  h.keep (fun k T cs hs _ _ => hB.block k (hl k hs)) hS
end
end Go.Proofs.YtnmopjefjpifoaaGreatDoor
/- New and Sync of the program's disk. -/
set_option maxRecDepth 100000
namespace Go.Proofs.YtnmopjefjpifoaaGreatDoor
open Go Go.RowKit
attribute [-go_sem] Sha.exec_store

section
variable {w w' : World} {S S' : Nat → Prop} {b : Nat} {m : Dk} {mv md : Nat} {pv : Value} {vs : List Value} {sl : Nat → Hn}
theorem own_nil0 (w : World) (E : TypeId) (k : Nat) : w.ownsRow 0 E k (.slice none 0 0) 0 [] := ⟨by simp, .inl ⟨rfl, rfl⟩⟩
/-- A disk whose visible state alone counts. -/
structure Dq (w : World) (S : Nat → Prop) (b : Nat) (m : Dk) (mv : Nat) (x3 : Option Nat) (pq : Option Addr) (pn pc : Nat) (sl : Nat → Hn) : Prop where
  box : w.heap[b]? = some (.cells #[.int .i64 m.room, .int .i64 m.count, .map (some mv), .map x3, .slice pq pn pc] 129 (0, 0))
  sb : S b
  sv : S mv
  vis : MpB w mv (m.seen.map (entV sl))
  bod : BdOk w S m.bodies sl
  sz : ∀ f ∈ m.seen, f.size = ((bodyD m f).length : Int)
  low : ∀ k, S k → k < w.heap.size
theorem Dp.q (h : Dp w S b m mv md pv vs sl) : ∃ pq pn pc, Dq w S b m mv (some md) pq pn pc sl := by
  obtain ⟨pq, pc, hpv⟩ := own_slice h.pd.own
  exact ⟨pq, _, pc, by rw [← hpv]; exact h.box, h.sb, h.sv, h.vis, h.bod, h.sz.seen, h.low⟩
variable {x3 : Option Nat} {pq : Option Addr} {pn pc : Nat}
theorem Dq.cell (h : Dq w S b m mv x3 pq pn pc sl) (j : Nat) : w.cell? ⟨b, j, none⟩ = [Value.int .i64 m.room, .int .i64 m.count, .map (some mv), .map x3, .slice pq pn pc][j]? := by
  unfold World.cell?
  rw [h.box]
  simp
theorem Dq.free (h : Dq w S b m mv x3 pq pn pc sl) (j : Nat) : w.frozen? ⟨b, j, none⟩ = false := by
  unfold World.frozen?
  rw [h.box]
  simp
theorem Dq.syncTo (h : Dq w S b m mv x3 pq pn pc sl) {es : Array MapEntry} {clock : Nat} (hb : w.heap[mv]? = some (.map es clock)) :
    Dp (((w.alloc (.map es clock)).setCell ⟨b, 3, none⟩ (.map (some w.heap.size))).setCell ⟨b, 4, none⟩ (.slice none 0 0)) (SN S w.heap.size (w.heap.size + 1)) b (syncL m) mv w.heap.size (.slice none 0 0) [] sl ∧ Kq8 S w (((w.alloc (.map es clock)).setCell ⟨b, 3, none⟩ (.map (some w.heap.size))).setCell ⟨b, 4, none⟩ (.slice none 0 0)) := by
  have hB := (Below.refl w.heap.size w).alloc (Nat.le_refl _) (.map es clock)
  have hbl := h.low b h.sb
  have hk : ∀ k, k ≠ b → (((w.alloc (.map es clock)).setCell ⟨b, 3, none⟩ (.map (some w.heap.size))).setCell ⟨b, 4, none⟩ (.slice none 0 0)).heap[k]? = (w.alloc (.map es clock)).heap[k]? := fun k hne =>
    (Below.heap_setCell _ _ _ _ hne).trans (Below.heap_setCell _ _ _ _ hne)
  have hko : ∀ k, k < w.heap.size → k ≠ b → (((w.alloc (.map es clock)).setCell ⟨b, 3, none⟩ (.map (some w.heap.size))).setCell ⟨b, 4, none⟩ (.slice none 0 0)).heap[k]? = w.heap[k]? := fun k hl hne => (hk k hne).trans (hB.block k hl)
  have hb0 := (hB.block b hbl).trans h.box
  have hb1 := setCell_box (setCell_box hb0 3 (.map (some w.heap.size))) 4 (.slice none 0 0)
  have hsz : (((w.alloc (.map es clock)).setCell ⟨b, 3, none⟩ (.map (some w.heap.size))).setCell ⟨b, 4, none⟩ (.slice none 0 0)).heap.size = w.heap.size + 1 := by simp
  have nbm : mv ≠ b := fun e => by rw [e, h.box] at hb; cases hb
  have hc := h.vis.copied es clock hb
  have nty : ∀ k cur T, w.heap[k]? = some (.cells cur T (0, 0)) → T ≠ 129 → k ≠ b := fun k cur T hc hT e => by
    rw [e, h.box] at hc
    injection hc with hc
    injection hc with _ hc _
    exact hT hc.symm
  refine ⟨⟨hb1, .inl h.sb, .inl h.sv, .inr ⟨Nat.le_refl _, Nat.lt_succ_self _⟩, by have := h.low mv h.sv; omega, h.vis.keep (hko mv (h.low mv h.sv) nbm), hc.keep (hk _ (by omega)), h.bod.keep (fun k cur hs hc => hko k (h.low k hs) (nty k cur _ hc (by decide))) (fun _ x => .inl x), ⟨own_nil0 _ _ _, (fun g hg => by cases hg), fun i hi => absurd hi (by show ¬ i < 0; omega)⟩, ⟨h.sz, h.sz, fun c hc => absurd hc (by show ¬ c ∈ ([] : List Ch); simp)⟩, fun k hk => ?_⟩, rfl, rfl, rfl, by rw [hsz]; omega, fun k hk hn => hko k hk (fun e => hn (by rw [e]; exact h.sb))⟩
  rw [hsz]
  exact SN.low h.low (Nat.le_succ _) k hk
set_option maxRecDepth 100000 in
set_option maxHeartbeats 4000000 in
theorem syncq_any (h : Dq w S b m mv x3 pq pn pc sl) : Calls Tryz.prog 100 #[.pointer (some ⟨b, 0, none⟩)] w fun e w' => e = .returned (.tuple #[]) ∧ DPost S b w (syncL m) w' := by
  have c2 := h.cell 2
  simp at c2
  obtain ⟨es, clock, hb, _⟩ := id h.vis
  have HC := Lib.hid (mapClone_any mv es clock w hb)
  obtain ⟨hd, hk⟩ := h.syncTo hb
  have hB := (Below.refl w.heap.size w).alloc (Nat.le_refl _) (.map es clock)
  have hbl := h.low b h.sb
  have c3 := (hB.cell (p := ⟨b, 3, none⟩) hbl).trans (h.cell 3)
  have f3 := (hB.frozen (p := ⟨b, 3, none⟩) hbl).trans (h.free 3)
  have c4 := (hB.cell (p := ⟨b, 4, none⟩) hbl).trans (h.cell 4)
  have f4 := (hB.frozen (p := ⟨b, 4, none⟩) hbl).trans (h.free 4)
  simp only [List.getElem?_cons_succ, List.getElem?_cons_zero] at c3 c4
  have HP : Hid (DPost S b w (syncL m) (((w.alloc (.map es clock)).setCell ⟨b, 3, none⟩ (.map (some w.heap.size))).setCell ⟨b, 4, none⟩ (.slice none 0 0))) := Lib.hid ⟨⟨_, _, _, _, _, by
    have hsz : (((w.alloc (.map es clock)).setCell ⟨b, 3, none⟩ (.map (some w.heap.size))).setCell ⟨b, 4, none⟩ (.slice none 0 0)).heap.size = w.heap.size + 1 := by simp
    rw [hsz]
    exact hd⟩, hk⟩
  generalize hW : w.alloc (.map es clock) = W at *
  clear h hd hk hb hB
  go_enter Tryz.func100, Tryz.ntmps100
  go_wp2_with fail
  refine HC.out.mono ?_
  rintro e w2 ⟨rfl, hw2⟩
  subst hw2
  clear hW
  go_wp2
  go_end0
  exact ⟨rfl, HP.out⟩
theorem sync_any (h : Dp w S b m mv md pv vs sl) : Calls Tryz.prog 100 #[.pointer (some ⟨b, 0, none⟩)] w fun e w' => e = .returned (.tuple #[]) ∧ DPost S b w (syncL m) w' := by
  obtain ⟨pq, pn, pc, hq⟩ := h.q
  exact syncq_any hq
end
theorem clamp_eq (room : Int) : clampL room = min (max room 0) 1048576 := rfl
set_option maxRecDepth 100000 in
set_option maxHeartbeats 4000000 in
theorem newD_any (room : Int) (w : World) : Calls Tryz.prog 20 #[.int .i64 room] w fun e w' => e = .returned (.pointer (some ⟨w.heap.size + 2, 0, none⟩)) ∧ Dp w' (fun k => w.heap.size ≤ k ∧ k < w'.heap.size) (w.heap.size + 2) ⟨clampL room, 0, [], [], [], []⟩ w.heap.size (w.heap.size + 1) (.slice none 0 0) [] (fun _ => ⟨none, 0, 0⟩) ∧ Below w.heap.size w w' := by
  have hmm := @run_makeMap Tryz.prog
  have HC := Lib.hid (clamp_eq room)
  have h1 := MpB.made w
  have h2 := MpB.made (w.alloc (.map #[] 0))
  have hB0 := (Below.refl w.heap.size w).alloc (Nat.le_refl _) (.map #[] 0)
  have hB1 := hB0.alloc hB0.size (.map #[] 0)
  have z1 : (w.alloc (.map #[] 0)).heap.size = w.heap.size + 1 := World.size_alloc _ _
  have z2 : ((w.alloc (.map #[] 0)).alloc (.map #[] 0)).heap.size = w.heap.size + 2 := by rw [World.size_alloc, z1]
  have hD : ∀ r : Int, r = clampL room → Dp (((w.alloc (.map #[] 0)).alloc (.map #[] 0)).alloc (.cells #[.int .i64 r, .int .i64 0, .map (some w.heap.size), .map (some (w.heap.size + 1)), .slice none 0 0] 129)) (fun k => w.heap.size ≤ k ∧ k < (((w.alloc (.map #[] 0)).alloc (.map #[] 0)).alloc (.cells #[.int .i64 r, .int .i64 0, .map (some w.heap.size), .map (some (w.heap.size + 1)), .slice none 0 0] 129)).heap.size) (w.heap.size + 2) ⟨clampL room, 0, [], [], [], []⟩ w.heap.size (w.heap.size + 1) (.slice none 0 0) [] (fun _ => ⟨none, 0, 0⟩) ∧ Below w.heap.size w (((w.alloc (.map #[] 0)).alloc (.map #[] 0)).alloc (.cells #[.int .i64 r, .int .i64 0, .map (some w.heap.size), .map (some (w.heap.size + 1)), .slice none 0 0] 129)) := fun r hr => by
    subst hr
    have hb := World.alloc_heap_new ((w.alloc (.map #[] 0)).alloc (.map #[] 0)) (.cells #[.int .i64 (clampL room), .int .i64 0, .map (some w.heap.size), .map (some (w.heap.size + 1)), .slice none 0 0] 129)
    rw [z2] at hb
    have hBa := (Below.refl (w.alloc (.map #[] 0)).heap.size (w.alloc (.map #[] 0))).alloc (Nat.le_refl _) (.map #[] 0)
    have hBb := (Below.refl ((w.alloc (.map #[] 0)).alloc (.map #[] 0)).heap.size ((w.alloc (.map #[] 0)).alloc (.map #[] 0))).alloc (Nat.le_refl _) (.cells #[.int .i64 (clampL room), .int .i64 0, .map (some w.heap.size), .map (some (w.heap.size + 1)), .slice none 0 0] 129)
    rw [z1] at h2
    refine ⟨⟨hb, ⟨by omega, by rw [World.size_alloc, z2]; omega⟩, ⟨Nat.le_refl _, by rw [World.size_alloc, z2]; omega⟩, ⟨by omega, by rw [World.size_alloc, z2]; omega⟩, by omega, (h1.of_below hBa).of_below hBb, h2.of_below hBb, ⟨fun i hi => absurd hi (by show ¬ i < 0; omega), fun i hi => absurd hi (by show ¬ i < 0; omega), fun i j hi => absurd hi (by show ¬ i < 0; omega)⟩, ⟨own_nil0 _ _ _, (fun g hg => by cases hg), fun i hi => absurd hi (by show ¬ i < 0; omega)⟩, ⟨fun f hf => absurd hf (by show ¬ f ∈ ([] : List Fl); simp), fun f hf => absurd hf (by show ¬ f ∈ ([] : List Fl); simp), fun f hf => absurd hf (by show ¬ f ∈ ([] : List Ch); simp)⟩, fun k hk => hk.2⟩, hB1.alloc hB1.size _⟩
  have HD := Lib.hid hD
  clear h1 h2 hB0 hB1 hD
  go_enter Tryz.func20, Tryz.ntmps20
  go_wp2
  go_ret
  obtain ⟨d1, d2⟩ := HD.out _ HC.out.symm
  exact ⟨rfl, d1, d2⟩
end Go.Proofs.YtnmopjefjpifoaaGreatDoor
/- Crash of the program's disk. -/
set_option maxRecDepth 100000
namespace Go.Proofs.YtnmopjefjpifoaaGreatDoor
open Go Go.RowKit
attribute [-go_sem] Sha.exec_store

section
variable {w w' : World} {S S' : Nat → Prop} {b : Nat} {m : Dk} {mv md : Nat} {pv : Value} {vs : List Value} {sl : Nat → Hn}
end
end Go.Proofs.YtnmopjefjpifoaaGreatDoor
/- Rot of the program's disk. -/
set_option maxRecDepth 100000
namespace Go.Proofs.YtnmopjefjpifoaaGreatDoor
open Go Go.RowKit
attribute [-go_sem] Sha.exec_store

section
variable {w w' : World} {S S' : Nat → Prop} {b : Nat} {m : Dk} {mv md : Nat} {pv : Value} {vs : List Value} {sl : Nat → Hn}
end
end Go.Proofs.YtnmopjefjpifoaaGreatDoor
