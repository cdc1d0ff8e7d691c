/- The program's changes: closures that do to a map what a change does. -/
import Derived.Test.YtjglgohchhdkkaaDoorPut8
set_option linter.unusedSimpArgs false
set_option linter.unusedVariables false
namespace Go.Proofs.YtjglgohchhdkkaaDoor
open Go Go.RowKit

/-- A box of a string. -/
def BoxS (w : World) (b : Nat) (p : S8) : Prop := w.heap[b]? = some (.cells #[.string (mkS p)] 9 (0, 0))
/-- A box of a file. -/
def BoxF (w : World) (b : Nat) (sl : Nat → Hn) (f : Fl) : Prop := w.heap[b]? = some (.cells (fileC sl f) 64 (0, 0))
theorem BoxS.cell {w : World} {b : Nat} {p : S8} (h : BoxS w b p) : w.cell? ⟨b, 0, none⟩ = some (.string (mkS p)) := by
  unfold World.cell?
  rw [show w.heap[b]? = _ from h]
  simp
theorem BoxF.cell {w : World} {b : Nat} {sl : Nat → Hn} {f : Fl} (h : BoxF w b sl f) (j : Nat) : w.cell? ⟨b, j, none⟩ = [Value.int .i64 f.size, .int .i64 f.time, .int .i64 f.chg, .slice (sl f.body).q (sl f.body).n (sl f.body).c][j]? := by
  unfold World.cell?
  rw [show w.heap[b]? = _ from h]
  simp [fileC]
theorem BoxS.lt {w : World} {b : Nat} {p : S8} (h : BoxS w b p) : b < w.heap.size := (Array.getElem?_eq_some_iff.1 h).1
theorem BoxF.lt {w : World} {b : Nat} {sl : Nat → Hn} {f : Fl} (h : BoxF w b sl f) : b < w.heap.size := (Array.getElem?_eq_some_iff.1 h).1
/-- A value is the closure of a change; what it has captured lies where S holds. -/
inductive ClsV (w : World) (S : Nat → Prop) (sl : Nat → Hn) (c : Ch) (v : Value) : Prop
  | write (b1 b2 : Nat) (hk : c.kind = 1) (hv : v = .func (.func 35) #[] #[.pointer (some ⟨b1, 0, none⟩), .pointer (some ⟨b2, 0, none⟩)]) (h1 : BoxS w b1 c.file.p) (h2 : BoxF w b2 sl c.file) (s1 : S b1) (s2 : S b2)
  | rename (b1 b2 : Nat) (hk : c.kind = 2) (hv : v = .func (.func 40) #[] #[.pointer (some ⟨b1, 0, none⟩), .pointer (some ⟨b2, 0, none⟩)]) (h1 : BoxS w b1 c.src) (h2 : BoxS w b2 c.file.p) (s1 : S b1) (s2 : S b2)
  | remove (b1 : Nat) (hk : c.kind = 3) (hv : v = .func (.func 41) #[] #[.pointer (some ⟨b1, 0, none⟩)]) (h1 : BoxS w b1 c.src) (s1 : S b1)
theorem ClsV.keep {w w' : World} {S S' : Nat → Prop} {sl : Nat → Hn} {c : Ch} {v : Value} (h : ClsV w S sl c v) (hk : ∀ k T cs, S k → w.heap[k]? = some (.cells cs T (0, 0)) → (T = 9 ∨ T = 64) → w'.heap[k]? = w.heap[k]?) (hS : ∀ k, S k → S' k) : ClsV w' S' sl c v := by
  cases h with
  | write b1 b2 hk1 hv h1 h2 s1 s2 => exact .write b1 b2 hk1 hv ((hk b1 _ _ s1 h1 (.inl rfl)).trans h1) ((hk b2 _ _ s2 h2 (.inr rfl)).trans h2) (hS _ s1) (hS _ s2)
  | rename b1 b2 hk1 hv h1 h2 s1 s2 => exact .rename b1 b2 hk1 hv ((hk b1 _ _ s1 h1 (.inl rfl)).trans h1) ((hk b2 _ _ s2 h2 (.inl rfl)).trans h2) (hS _ s1) (hS _ s2)
  | remove b1 hk1 hv h1 s1 => exact .remove b1 hk1 hv ((hk b1 _ _ s1 h1 (.inl rfl)).trans h1) (hS _ s1)
set_option maxHeartbeats 4000000 in
theorem wrC_any (sl : Nat → Hn) (l : List Fl) (c : Ch) (b1 b2 mb : Nat) (w : World) (hk : c.kind = 1) (h : MpB w mb (l.map (entV sl))) (h1 : BoxS w b1 c.file.p) (h2 : BoxF w b2 sl c.file) (hp : c.file.p.length < 100000) (hs : ShortF l) :
    Calls Tryd.prog 35 #[.map (some mb), .pointer (some ⟨b1, 0, none⟩), .pointer (some ⟨b2, 0, none⟩)] w fun e w' => e = .returned (.tuple #[]) ∧ MpB w' mb ((doL l c).map (entV sl)) ∧ w.grownBy w' (some mb) := by
  have HP := Lib.hid (put_any sl l c.file.p c.file rfl mb w h hp hs)
  have e1 : doL l c = withoutL l c.file.p true ++ [c.file] := by unfold doL; rw [hk]; rfl
  have HE := Lib.hid e1
  have f0 := h1.cell
  have g0 := h2.cell 0
  have g1 := h2.cell 1
  have g2 := h2.cell 2
  have g3 := h2.cell 3
  simp at g0 g1 g2 g3
  clear h1 h2 h e1
  unfold fileV fileC at *
  go_enter Tryd.func35, Tryd.ntmps35
  go_wp2_with fail
  refine HP.out.mono ?_
  rintro e w2 ⟨rfl, hM2, hg2⟩
  have HM := Lib.hid hM2
  have HG := Lib.hid hg2
  clear hM2 hg2
  go_wp2
  go_end0
  exact ⟨rfl, by rw [HE.out]; exact HM.out, HG.out⟩
set_option maxHeartbeats 4000000 in
theorem rmC_any (sl : Nat → Hn) (l : List Fl) (c : Ch) (b1 mb : Nat) (w : World) (hk : c.kind = 3) (h : MpB w mb (l.map (entV sl))) (h1 : BoxS w b1 c.src) : Calls Tryd.prog 41 #[.map (some mb), .pointer (some ⟨b1, 0, none⟩)] w fun e w' => e = .returned (.tuple #[]) ∧ MpB w' mb ((doL l c).map (entV sl)) ∧ w.grownBy w' (some mb) := by
  have e1 : doL l c = withoutL l c.src false := by unfold doL; rw [hk]; rfl
  have HE := Lib.hid (e1.symm ▸ delV_ent sl l c.src)
  have f0 := h1.cell
  have HM := Lib.hid h
  clear h1 h e1
  go_enter Tryd.func41, Tryd.ntmps41
  go_wp2_with (first | (refine wpl_delete8 _ rfl _ _ rfl mapT strT rfl HM.out c.src rfl ?_; intro w3 hM3 hg3 hz3; simp only [Act.put]) | go_in)
  go_end0
  exact ⟨rfl, by rw [← HE.out]; exact hM3, hg3⟩
theorem zeroFile (w : World) : (zeroValue 64).run Tryd.prog w = .ok (.agg #[.int .i64 0, .int .i64 0, .int .i64 0, .slice none 0 0]) w := by kernel_rfl
theorem look_none {sl : Nat → Hn} {l : List Fl} {p : S8} {mb : Nat} {w : World} (h : MpB w mb (l.map (entV sl))) (hf : findL l p = none) :
    (Instr.lookup 53 (.map (some mb)) (.string (mkS p)) true).run Tryd.prog w = .ok (.tuple #[.agg #[.int .i64 0, .int .i64 0, .int .i64 0, .slice none 0 0], .bool false]) w := by
  have hl := run_lookup8 (P := Tryd.prog) mapT strT (zeroFile w) h p true
  rw [findV_ent, hf] at hl
  exact hl
theorem look_some {sl : Nat → Hn} {l : List Fl} {p : S8} {mb : Nat} {w : World} (h : MpB w mb (l.map (entV sl))) {i : Nat} (hf : findL l p = some i) (x : Fl) (hx : l.getD i fl0 = x) :
    (Instr.lookup 53 (.map (some mb)) (.string (mkS p)) true).run Tryd.prog w = .ok (.tuple #[.agg #[.int .i64 x.size, .int .i64 x.time, .int .i64 x.chg, .slice (sl x.body).q (sl x.body).n (sl x.body).c], .bool true]) w := by
  have hl := run_lookup8 (P := Tryd.prog) mapT strT (zeroFile w) h p true
  rw [findV_ent, hf] at hl
  subst hx
  exact hl
theorem without_short {l : List Fl} {p : S8} {cl : Bool} (h : ShortF l) : ShortF (withoutL l p cl) := by
  rw [shortF_iff] at h ⊢
  exact fun f hf => h f (without_mem hf)
set_option maxRecDepth 100000 in
set_option maxHeartbeats 8000000 in
theorem rnC_any (sl : Nat → Hn) (l : List Fl) (c : Ch) (b1 b2 mb : Nat) (w : World) (hk : c.kind = 2) (h : MpB w mb (l.map (entV sl))) (h1 : BoxS w b1 c.src) (h2 : BoxS w b2 c.file.p) (hp : c.file.p.length < 100000) (hs : ShortF l) (hm1 : b1 ≠ mb) (hm2 : b2 ≠ mb) :
    Calls Tryd.prog 40 #[.map (some mb), .pointer (some ⟨b1, 0, none⟩), .pointer (some ⟨b2, 0, none⟩)] w fun e w' => e = .returned (.tuple #[]) ∧ MpB w' mb ((doL l c).map (entV sl)) ∧ w.grownBy w' (some mb) := by
  have f1 := h1.cell
  cases hf : findL l c.src with
  | none =>
    have hl := look_none h hf
    have e1 : doL l c = l := by unfold doL; rw [hk]; dsimp only; rw [hf]; rfl
    have hB := ((Below.refl w.heap.size w).alloc (Nat.le_refl _) (.cells #[.int .i64 0, .int .i64 0, .int .i64 0, .slice none 0 0] 64))
    have HM := Lib.hid (h.of_below hB)
    have HG := Lib.hid (below_grown hB (some mb))
    have HE := Lib.hid e1
    clear h h1 h2 e1 hB
    go_enter Tryd.func40, Tryd.ntmps40
    go_wp2
    refine bodyPost_ret (results_none rfl _ _ _) rfl ?_
    exact ⟨rfl, by rw [HE.out]; exact HM.out, HG.out⟩
  | some i =>
    obtain ⟨x, hx⟩ : ∃ x, l.getD i fl0 = x := ⟨_, rfl⟩
    have hl := look_some h hf x hx
    have e1 : doL l c = withoutL (withoutL l c.src false) c.file.p true ++ [{ x with p := c.file.p }] := by unfold doL; rw [hk]; dsimp only; rw [hf, ← hx]; rfl
    have HE := Lib.hid e1
    have hB := ((Below.refl w.heap.size w).alloc (Nat.le_refl _) (.cells #[.int .i64 x.size, .int .i64 x.time, .int .i64 x.chg, .slice (sl x.body).q (sl x.body).n (sl x.body).c] 64))
    have HM := Lib.hid (h.of_below hB)
    have HG := Lib.hid (below_grown hB (some mb))
    have hmb := h.lt
    have hb1 := (hB.cell h1.lt).trans f1
    have HF1 := Lib.hid hb1
    have HF2 := Lib.hid ((hB.cell h2.lt).trans h2.cell)
    have HL1 := Lib.hid h1.lt
    have HL2 := Lib.hid h2.lt
    have HX := Lib.hid (box4_cell w 64 (.int .i64 x.size) (.int .i64 x.time) (.int .i64 x.chg) (.slice (sl x.body).q (sl x.body).n (sl x.body).c))
    have HS := Lib.hid (without_short (p := c.src) (cl := false) hs)
    have HK := Lib.hid (fun (w3 : World) (hg3 : (w.alloc (.cells #[.int .i64 x.size, .int .i64 x.time, .int .i64 x.chg, .slice (sl x.body).q (sl x.body).n (sl x.body).c] 64)).grownBy w3 (some mb)) => (by
      have k3 : ∀ j, w3.cell? ⟨w.heap.size, j, none⟩ = [Value.int .i64 x.size, .int .i64 x.time, .int .i64 x.chg, .slice (sl x.body).q (sl x.body).n (sl x.body).c][j]? := fun j => by
        rw [World.cell?_of_block (hg3.block w.heap.size (by rw [World.size_alloc]; omega) (by simp; omega))]
        exact HX.out j
      refine ⟨?_, k3 0, k3 1, k3 2, k3 3⟩
      rw [World.cell?_of_block (hg3.block b2 (by rw [World.size_alloc]; have := HL2.out; omega) (by simpa using hm2))]
      exact HF2.out : w3.cell? ⟨b2, 0, none⟩ = some (.string (mkS c.file.p)) ∧ w3.cell? ⟨w.heap.size, 0, none⟩ = some (.int .i64 x.size) ∧ w3.cell? ⟨w.heap.size, 1, none⟩ = some (.int .i64 x.time) ∧ w3.cell? ⟨w.heap.size, 2, none⟩ = some (.int .i64 x.chg) ∧ w3.cell? ⟨w.heap.size, 3, none⟩ = some (.slice (sl x.body).q (sl x.body).n (sl x.body).c)))
    have HPU := Lib.hid (fun (w3 : World) (hM3 : MpB w3 mb ((withoutL l c.src false).map (entV sl))) => (by exact put_any sl _ c.file.p { x with p := c.file.p } rfl mb w3 hM3 hp HS.out : Calls Tryd.prog 36 #[.map (some mb), .string (mkS c.file.p), .agg #[.int .i64 x.size, .int .i64 x.time, .int .i64 x.chg, .slice (sl x.body).q (sl x.body).n (sl x.body).c]] w3 fun e w' => e = .returned (.tuple #[]) ∧ MpB w' mb ((withoutL (withoutL l c.src false) c.file.p true ++ [{ x with p := c.file.p }]).map (entV sl)) ∧ w3.grownBy w' (some mb)))
    clear h h1 h2 e1 hB
    go_enter Tryd.func40, Tryd.ntmps40
    go_wp2_with (first | (refine wpl_delete8 _ rfl _ _ rfl mapT strT rfl HM.out c.src rfl ?_; intro w3 hM3 hg3 hz3; obtain ⟨k2, g0, g1, g2, g3⟩ := HK.out w3 hg3; rw [delV_ent] at hM3; have HM3 := Lib.hid hM3; have HG3 := Lib.hid (HG.out.andThen hg3 (fun j hj => .inr hj)); clear hM3 hg3 hz3 hl hb1 f1; simp only [Act.put]) | (go_at_call 36; refine (HPU.out _ HM3.out).mono ?_; rintro e w4 ⟨rfl, hM4, hg4⟩) | go_in)
    have HM4 := Lib.hid hM4
    have HG4 := Lib.hid (HG3.out.andThen hg4 (fun j hj => .inr hj))
    go_end0
    exact ⟨rfl, by rw [HE.out]; exact HM4.out, HG4.out⟩
end Go.Proofs.YtjglgohchhdkkaaDoor
