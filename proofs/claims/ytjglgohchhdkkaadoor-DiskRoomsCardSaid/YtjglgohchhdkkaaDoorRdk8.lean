/- Read, Stat, Room, Waiting of the program's disk. -/
import Derived.Test.YtjglgohchhdkkaaDoorCln8
set_option linter.unusedSimpArgs false
set_option linter.unusedVariables false
namespace Go.Proofs.YtjglgohchhdkkaaDoor
open Go Go.RowKit

theorem results_cell_tmp {P : Program} {fn : Func} {p q : Tmp} {ty : TypeId} (h : fn.results = #[.cell p ty, .tmp q]) (tmps : Array Value) (w : World) (g : Nat) (t : TypeId) (cs : Array Value) (fr : Nat × Nat) (d : TypeDesc)
    (hp : tmps.getD p undef = .pointer (some ⟨g, 0, none⟩)) (hg : w.heap[g]? = some (.cells cs t fr))
    (hu : P.underlying ty = some d) (hd : (match d with | .struct _ | .array _ _ => true | _ => false) = true) (hi : (P.info? ty).map (·.size) = some cs.size) (v : Value) (hv : tmps.getD q undef = v) :
    (results fn tmps).run P w = .ok (.tuple #[.agg cs, v]) w := by
  have hp' : tmps[p]?.getD undef = .pointer (some ⟨g, 0, none⟩) := by simpa using hp
  have hv' : tmps[q]?.getD undef = v := by simpa using hv
  simp [results, h, hp', hv', asAddr, run_loadVar_row w g t ty cs fr d hg hu hd hi, Result.andThen]
section
variable {w : World} {S : Nat → Prop} {b : Nat} {m : Dk} {mv md : Nat} {pv : Value} {vs : List Value} {sl : Nat → Hn}
theorem findL_in {l : List Fl} {p : S8} {i : Nat} (h : findL l p = some i) : l.getD i fl0 ∈ l := by
  have hi := findL_lt h
  rw [List.getD_eq_getElem?_getD, List.getElem?_eq_getElem hi]
  exact List.getElem_mem hi
set_option maxRecDepth 100000 in
set_option maxHeartbeats 4000000 in
theorem read_any (h : Dp w S b m mv md pv vs sl) (hok : DkOk 300 m) (p : S8) : Calls Tryd.prog 19 #[.pointer (some ⟨b, 0, none⟩), .string (mkS p)] w fun e w' => ∃ v, e = .returned (.tuple #[v, .int .i64 (readN m p)]) ∧ w'.ownsRow w.heap.size 5 1 v ((readL m p).getD []).length (bytC ((readL m p).getD [])) ∧ Below w.heap.size w w' := by
  have c2 := h.cell 2
  simp at c2
  cases hf : findL m.seen p with
  | none =>
    have hl := look_none h.vis hf
    have HR := Lib.hid (show readL m p = none by unfold readL; rw [hf]; rfl)
    have HB := Lib.hid ((Below.refl w.heap.size w).alloc (Nat.le_refl _) (.cells #[.int .i64 0, .int .i64 0, .int .i64 0, .slice none 0 0] 64))
    have HN := Lib.hid (show readN m p = 8 by unfold readN; rw [HR.out]; rfl)
    clear h hf
    go_enter Tryd.func19, Tryd.ntmps19
    go_wp2
    go_ret2
    exact ⟨.slice none 0 0, by rw [HN.out]; rfl, by rw [HR.out]; exact ⟨rfl, .inl ⟨rfl, rfl⟩⟩, HB.out⟩
  | some i =>
    obtain ⟨x, hx⟩ : ∃ x, m.seen.getD i fl0 = x := ⟨_, rfl⟩
    have hl := look_some h.vis hf x hx
    have hxm : x.body < m.bodies.length := by rw [← hx]; exact hok.inS _ (findL_in hf)
    obtain ⟨b1, b2, b3, b4⟩ := h.bytes x.body hxm
    have hbb : (m.bodies.getD x.body []).length ≤ 300000 := hok.shortB x.body
    have HR := Lib.hid (show readL m p = some (m.bodies.getD x.body []) by unfold readL; rw [hf]; show some (bodyL m _) = _; rw [hx]; rfl)
    have hB := ((Below.refl w.heap.size w).alloc (Nat.le_refl _) (.cells #[.int .i64 x.size, .int .i64 x.time, .int .i64 x.chg, .slice (sl x.body).q (sl x.body).n (sl x.body).c] 64))
    have HC := Lib.hid (clone8_any (m.bodies.getD x.body []) (sl x.body).q (sl x.body).n (sl x.body).c (w.alloc (.cells #[.int .i64 x.size, .int .i64 x.time, .int .i64 x.chg, .slice (sl x.body).q (sl x.body).n (sl x.body).c] 64)) b1.symm (b2.of_below hB) b3 b4 (by omega))
    have k3 := box4_cell w 64 (.int .i64 x.size) (.int .i64 x.time) (.int .i64 x.chg) (.slice (sl x.body).q (sl x.body).n (sl x.body).c) 3
    simp at k3
    have HB := Lib.hid hB
    have HN := Lib.hid b1
    have HN2 := Lib.hid (show readN m p = 0 by unfold readN; rw [HR.out]; rfl)
    clear h hf b1 b2 b3 b4 hB hx
    go_enter Tryd.func19, Tryd.ntmps19
    go_wp2_with fail
    refine HC.out.mono ?_
    rintro e w2 ⟨v, rfl, hO, hB2⟩
    have HO := Lib.hid (own_lower hO (b2 := w.heap.size) HB.out.size)
    have HB2 := Lib.hid (HB.out.trans (hB2.mono HB.out.size))
    clear hO hB2
    go_wp2
    go_ret2
    refine ⟨v, by rw [HN2.out]; rfl, ?_, HB2.out⟩
    rw [HR.out]
    show w2.ownsRow _ _ _ _ (m.bodies.getD x.body []).length _
    rw [← HN.out]
    exact HO.out
theorem zeroStamp (w : World) : (zeroValue 45).run Tryd.prog w = .ok (.agg #[.int .i64 0, .int .i64 0, .int .i64 0]) w := by kernel_rfl
def stampV (o : Option Fl) : Value := match o with
  | some f => .tuple #[.agg #[.int .i64 f.size, .int .i64 f.time, .int .i64 f.chg], .int .i64 0]
  | none => .tuple #[.agg #[.int .i64 0, .int .i64 0, .int .i64 0], .int .i64 8]
set_option maxRecDepth 100000 in
set_option maxHeartbeats 4000000 in
theorem stat_any (h : Dp w S b m mv md pv vs sl) (p : S8) : Calls Tryd.prog 18 #[.pointer (some ⟨b, 0, none⟩), .string (mkS p)] w fun e w' => e = .returned (stampV (fileL m p)) ∧ Below w.heap.size w w' := by
  have c2 := h.cell 2
  simp at c2
  have HLT := Lib.hid h.lt
  cases hf : findL m.seen p with
  | none =>
    have hB0 := (Below.refl w.heap.size w).alloc (Nat.le_refl _) (.cells #[.int .i64 0, .int .i64 0, .int .i64 0] 45)
    have hl := look_none (h.of_below hB0).vis hf
    have HR := Lib.hid (show stampV (fileL m p) = .tuple #[.agg #[.int .i64 0, .int .i64 0, .int .i64 0], .int .i64 8] by unfold fileL; rw [hf]; rfl)
    have c20 := (hB0.cell (p := ⟨b, 2, none⟩) h.lt).trans c2
    have HB := Lib.hid (hB0.alloc hB0.size (.cells #[.int .i64 0, .int .i64 0, .int .i64 0, .slice none 0 0] 64))
    clear h hf
    go_enter Tryd.func18, Tryd.ntmps18
    go_wp2
    refine bodyPost_ret (results_cell_tmp rfl _ _ w.heap.size 45 #[.int .i64 0, .int .i64 0, .int .i64 0] (0, 0) _ rfl (by rw [Below.heap_alloc _ _ _ (by rw [World.size_alloc]; omega)]; exact World.alloc_heap_new w _) Tryd.underlying45 rfl (by kernel_rfl) (.int .i64 8) rfl) rfl ?_
    exact ⟨by rw [HR.out], HB.out⟩
  | some i =>
    obtain ⟨x, hx⟩ : ∃ x, m.seen.getD i fl0 = x := ⟨_, rfl⟩
    have hB0 := (Below.refl w.heap.size w).alloc (Nat.le_refl _) (.cells #[.int .i64 0, .int .i64 0, .int .i64 0] 45)
    have hl := look_some (h.of_below hB0).vis hf x hx
    have HR := Lib.hid (show stampV (fileL m p) = .tuple #[.agg #[.int .i64 x.size, .int .i64 x.time, .int .i64 x.chg], .int .i64 0] by unfold fileL; rw [hf, ← hx]; rfl)
    have c20 := (hB0.cell (p := ⟨b, 2, none⟩) h.lt).trans c2
    have hB1 := (Below.refl w.heap.size w).alloc (Nat.le_refl _) (.cells #[.int .i64 x.size, .int .i64 x.time, .int .i64 x.chg] 45)
    have HB := Lib.hid (hB1.alloc hB1.size (.cells #[.int .i64 x.size, .int .i64 x.time, .int .i64 x.chg, .slice (sl x.body).q (sl x.body).n (sl x.body).c] 64))
    clear h hf hx hB1
    go_enter Tryd.func18, Tryd.ntmps18
    go_wp2
    refine bodyPost_ret (results_cell_tmp rfl _ _ w.heap.size 45 #[.int .i64 x.size, .int .i64 x.time, .int .i64 x.chg] (0, 0) _ rfl (by rw [Below.heap_alloc _ _ _ (by rw [World.size_alloc]; omega)]; exact World.alloc_heap_new w _) Tryd.underlying45 rfl (by kernel_rfl) (.int .i64 0) rfl) rfl ?_
    exact ⟨by rw [HR.out], HB.out⟩
set_option maxHeartbeats 1000000 in
theorem room_any (h : Dp w S b m mv md pv vs sl) : Calls Tryd.prog 15 #[.pointer (some ⟨b, 0, none⟩)] w fun e w' => e = .returned (.int .i64 m.room) ∧ w = w' := by
  have c0 := h.cell 0
  simp at c0
  clear h
  go_enter Tryd.func15, Tryd.ntmps15
  go_wp2
  go_ret
  exact ⟨rfl, rfl⟩
end
end Go.Proofs.YtjglgohchhdkkaaDoor
