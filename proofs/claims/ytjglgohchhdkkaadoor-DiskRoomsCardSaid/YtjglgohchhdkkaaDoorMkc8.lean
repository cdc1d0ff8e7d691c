/- The program's writing, renaming, removing: closures made. -/
import Derived.Test.YtjglgohchhdkkaaDoorCln8
import Derived.Deep.RegionHeld3
set_option linter.unusedSimpArgs false
set_option linter.unusedVariables false
namespace Go.Proofs.YtjglgohchhdkkaaDoor
open Go Go.RowKit

theorem BoxS.free {w : World} {b : Nat} {p : S8} (h : BoxS w b p) : w.frozen? ⟨b, 0, none⟩ = false := by
  unfold World.frozen?
  rw [show w.heap[b]? = _ from h]
  simp
theorem BoxS.set {w : World} {b : Nat} {p : S8} (h : BoxS w b p) (q : S8) : BoxS (w.setCell ⟨b, 0, none⟩ (.string (mkS q))) b q := by
  unfold BoxS at h ⊢
  simp only [World.setCell, Array.getElem?_modify, if_true, h, Option.map_some]
  simp
theorem BoxS.of_below {w w' : World} {b : Nat} {p : S8} (h : BoxS w b p) {N : Nat} (hB : Below N w w') (hb : b < N) : BoxS w' b p := (hB.block b hb).trans h
theorem BoxF.of_below {w w' : World} {b : Nat} {sl : Nat → Hn} {f : Fl} (h : BoxF w b sl f) {N : Nat} (hB : Below N w w') (hb : b < N) : BoxF w' b sl f := (hB.block b hb).trans h
theorem BoxS.new (w : World) (p : S8) : BoxS (w.alloc (.cells #[.string (mkS p)] 9)) w.heap.size p := World.alloc_heap_new w _
/-- What a maker gives. -/
def MakesC (v : World → Nat → Value → Prop) (w : World) (e : Ending) (w' : World) : Prop := ∃ x, e = .returned x ∧ v w' w.heap.size x ∧ Below w.heap.size w w'
set_option maxRecDepth 100000 in
set_option maxHeartbeats 4000000 in
theorem writing_any (sl : Nat → Hn) (f : Fl) (w : World) (hp : f.p.length < 100000) : Calls Tryd.prog 23 #[.string (mkS f.p), .agg #[.int .i64 f.size, .int .i64 f.time, .int .i64 f.chg, .slice (sl f.body).q (sl f.body).n (sl f.body).c]] w fun e w' =>
    e = .returned (.func (.func 35) #[] #[.pointer (some ⟨w.heap.size, 0, none⟩), .pointer (some ⟨w.heap.size + 1, 0, none⟩)]) ∧ BoxS w' w.heap.size f.p ∧ BoxF w' (w.heap.size + 1) sl f ∧ Below w.heap.size w w' := by
  have hB0 := (Below.refl w.heap.size w).alloc (Nat.le_refl _) (.cells #[.string (mkS f.p)] 9)
  have hB1 := hB0.alloc hB0.size (.cells #[.int .i64 f.size, .int .i64 f.time, .int .i64 f.chg, .slice (sl f.body).q (sl f.body).n (sl f.body).c] 64)
  have hs1 : BoxS ((w.alloc (.cells #[.string (mkS f.p)] 9)).alloc (.cells #[.int .i64 f.size, .int .i64 f.time, .int .i64 f.chg, .slice (sl f.body).q (sl f.body).n (sl f.body).c] 64)) w.heap.size f.p :=
    (BoxS.new w f.p).of_below ((Below.refl _ _).alloc (Nat.le_refl _) _) (by rw [World.size_alloc]; omega)
  have hf1 : BoxF ((w.alloc (.cells #[.string (mkS f.p)] 9)).alloc (.cells #[.int .i64 f.size, .int .i64 f.time, .int .i64 f.chg, .slice (sl f.body).q (sl f.body).n (sl f.body).c] 64)) (w.heap.size + 1) sl f := by
    have := World.alloc_heap_new (w.alloc (.cells #[.string (mkS f.p)] 9)) (.cells (fileC sl f) 64)
    rw [World.size_alloc] at this
    exact this
  have HSZ : Hid (((w.alloc (.cells #[.string (mkS f.p)] 9)).alloc (.cells #[.int .i64 f.size, .int .i64 f.time, .int .i64 f.chg, .slice (sl f.body).q (sl f.body).n (sl f.body).c] 64)).heap.size = w.heap.size + 2) := Lib.hid (by rw [World.size_alloc, World.size_alloc])
  have HC := Lib.hid (fun u => strClone_any f.p u (Nat.lt_trans hp (by decide)))
  generalize hW : ((w.alloc (.cells #[.string (mkS f.p)] 9)).alloc (.cells #[.int .i64 f.size, .int .i64 f.time, .int .i64 f.chg, .slice (sl f.body).q (sl f.body).n (sl f.body).c] 64)) = W at *
  have HW := Lib.hid hW
  have HB1 := Lib.hid hB1
  have HF1 := Lib.hid hf1
  have HS1 := Lib.hid hs1
  have c0 := hs1.cell
  clear hB0 hB1 hs1 hf1 hW hp
  go_enter Tryd.func23, Tryd.ntmps23
  go_wp2_with fail
  rw [HW.out]
  refine (HC.out W).mono ?_
  rintro e w2 ⟨rfl, hB2⟩
  have hs2 := HS1.out.of_below hB2 (by rw [HSZ.out]; omega)
  have c2 := hs2.cell
  have f2 := hs2.free
  have HB2 := Lib.hid (HB1.out.trans (hB2.mono HB1.out.size))
  have HF2 := Lib.hid (HF1.out.of_below hB2 (by rw [HSZ.out]; omega))
  have HS2 := Lib.hid hs2
  clear hB2 hs2 c0
  go_wp2
  go_ret
  exact ⟨rfl, HS2.out.set _, (Below.heap_setCell _ _ _ _ (by simp)).trans HF2.out, HB2.out.setCell (Nat.le_refl _) _⟩
set_option maxRecDepth 100000 in
set_option maxHeartbeats 4000000 in
theorem removing_any (p : S8) (w : World) (hp : p.length < 100000) : Calls Tryd.prog 28 #[.string (mkS p)] w fun e w' =>
    e = .returned (.func (.func 41) #[] #[.pointer (some ⟨w.heap.size, 0, none⟩)]) ∧ BoxS w' w.heap.size p ∧ Below w.heap.size w w' := by
  have hB1 := (Below.refl w.heap.size w).alloc (Nat.le_refl _) (.cells #[.string (mkS p)] 9)
  have hs1 := BoxS.new w p
  have HSZ : Hid ((w.alloc (.cells #[.string (mkS p)] 9)).heap.size = w.heap.size + 1) := Lib.hid (by rw [World.size_alloc])
  have HC := Lib.hid (fun u => strClone_any p u (Nat.lt_trans hp (by decide)))
  generalize hW : (w.alloc (.cells #[.string (mkS p)] 9)) = W at *
  have HW := Lib.hid hW
  have HB1 := Lib.hid hB1
  have HS1 := Lib.hid hs1
  have c0 := hs1.cell
  clear hB1 hs1 hW hp
  go_enter Tryd.func28, Tryd.ntmps28
  go_wp2_with fail
  rw [HW.out]
  refine (HC.out W).mono ?_
  rintro e w2 ⟨rfl, hB2⟩
  have hs2 := HS1.out.of_below hB2 (by rw [HSZ.out]; omega)
  have c2 := hs2.cell
  have f2 := hs2.free
  have HB2 := Lib.hid (HB1.out.trans (hB2.mono HB1.out.size))
  have HS2 := Lib.hid hs2
  clear hB2 hs2 c0
  go_wp2
  go_ret
  exact ⟨rfl, HS2.out.set _, HB2.out.setCell (Nat.le_refl _) _⟩
/-- Two boxes of strings. -/
def Bx2 (w : World) (b1 b2 : Nat) (p q : S8) (u : World) : Prop := BoxS u b1 p ∧ BoxS u b2 q ∧ Below w.heap.size w u
theorem Bx2.facts {w u : World} {b1 b2 : Nat} {p q : S8} (h : Bx2 w b1 b2 p q u) : u.cell? ⟨b1, 0, none⟩ = some (.string (mkS p)) ∧ u.cell? ⟨b2, 0, none⟩ = some (.string (mkS q)) ∧ u.frozen? ⟨b1, 0, none⟩ = false ∧ u.frozen? ⟨b2, 0, none⟩ = false ∧ Bx2 w b1 b2 p q u :=
  ⟨h.1.cell, h.2.1.cell, h.1.free, h.2.1.free, h⟩
theorem Bx2.next {w u u' : World} {b1 b2 : Nat} {p q : S8} (h : Bx2 w b1 b2 p q u) (hB : Below u.heap.size u u') : Bx2 w b1 b2 p q u' :=
  ⟨h.1.of_below hB h.1.lt, h.2.1.of_below hB h.2.1.lt, h.2.2.trans (hB.mono h.2.2.size)⟩
theorem Bx2.set1 {w u : World} {b1 b2 : Nat} {p q : S8} (h : Bx2 w b1 b2 p q u) (h1 : w.heap.size ≤ b1) (hn : b2 ≠ b1) : Bx2 w b1 b2 p q (u.setCell ⟨b1, 0, none⟩ (.string (mkS p))) :=
  ⟨h.1.set _, (Below.heap_setCell _ _ _ _ hn).trans h.2.1, h.2.2.setCell h1 _⟩
theorem Bx2.set2 {w u : World} {b1 b2 : Nat} {p q : S8} (h : Bx2 w b1 b2 p q u) (h1 : w.heap.size ≤ b2) (hn : b1 ≠ b2) : Bx2 w b1 b2 p q (u.setCell ⟨b2, 0, none⟩ (.string (mkS q))) :=
  ⟨(Below.heap_setCell _ _ _ _ hn).trans h.1, h.2.1.set _, h.2.2.setCell h1 _⟩
set_option maxRecDepth 100000 in
set_option maxHeartbeats 4000000 in
theorem renaming_any (p q : S8) (w : World) (hp : p.length < 100000) (hq : q.length < 100000) : Calls Tryd.prog 27 #[.string (mkS p), .string (mkS q)] w fun e w' =>
    e = .returned (.func (.func 40) #[] #[.pointer (some ⟨w.heap.size, 0, none⟩), .pointer (some ⟨w.heap.size + 1, 0, none⟩)]) ∧ BoxS w' w.heap.size p ∧ BoxS w' (w.heap.size + 1) q ∧ Below w.heap.size w w' := by
  have hB0 := (Below.refl w.heap.size w).alloc (Nat.le_refl _) (.cells #[.string (mkS p)] 9)
  have hB1 := hB0.alloc hB0.size (.cells #[.string (mkS q)] 9)
  have hs1 : BoxS ((w.alloc (.cells #[.string (mkS p)] 9)).alloc (.cells #[.string (mkS q)] 9)) w.heap.size p :=
    (BoxS.new w p).of_below ((Below.refl _ _).alloc (Nat.le_refl _) _) (by rw [World.size_alloc]; omega)
  have hf1 : BoxS ((w.alloc (.cells #[.string (mkS p)] 9)).alloc (.cells #[.string (mkS q)] 9)) (w.heap.size + 1) q := by
    have := BoxS.new (w.alloc (.cells #[.string (mkS p)] 9)) q
    rw [World.size_alloc] at this
    exact this
  have HSZ : Hid (((w.alloc (.cells #[.string (mkS p)] 9)).alloc (.cells #[.string (mkS q)] 9)).heap.size = w.heap.size + 2) := Lib.hid (by rw [World.size_alloc, World.size_alloc])
  have HCp := Lib.hid (fun u => strClone_any p u (Nat.lt_trans hp (by decide)))
  have HCq := Lib.hid (fun u => strClone_any q u (Nat.lt_trans hq (by decide)))
  generalize hW : ((w.alloc (.cells #[.string (mkS p)] 9)).alloc (.cells #[.string (mkS q)] 9)) = W at *
  have HW := Lib.hid hW
  have HB1 := Lib.hid hB1
  have HF1 := Lib.hid hf1
  have HS1 := Lib.hid hs1
  have hx0 : Bx2 w w.heap.size (w.heap.size + 1) p q W := ⟨hs1, hf1, hB1⟩
  have hx : Bx2 w w.heap.size (w.heap.size + 1) p q W.drew := hx0.next (Below.refl _ _).drew
  have HS := Lib.hid (fun (u : World) (h : Bx2 w w.heap.size (w.heap.size + 1) p q u) => (h.set1 (Nat.le_refl _) (by omega)).facts)
  have HS2 := Lib.hid (fun (u : World) (h : Bx2 w w.heap.size (w.heap.size + 1) p q u) => (h.set2 (Nat.le_succ _) (by omega)).facts)
  clear hB0 hB1 hs1 hf1 hW hp hq
  go_enter Tryd.func27, Tryd.ntmps27
  go_wp2_with fail
  rw [HW.out]
  go_region_held3 (fun u : World => u.cell? ⟨w.heap.size, 0, none⟩ = some (.string (mkS p)) ∧ u.cell? ⟨w.heap.size + 1, 0, none⟩ = some (.string (mkS q)) ∧ u.frozen? ⟨w.heap.size, 0, none⟩ = false ∧ u.frozen? ⟨w.heap.size + 1, 0, none⟩ = false ∧ Bx2 w w.heap.size (w.heap.size + 1) p q u) (first | exact hx.facts | exact HS.out _ hz | exact HS2.out _ hz | exact HS2.out _ (HS.out _ hz).2.2.2.2 | exact HS.out _ (HS2.out _ hz).2.2.2.2 | exact hz.facts | go_keep) ((first | (go_at_call 34; (first | with_reducible refine (HCp.out _).mono ?_ | with_reducible refine (HCq.out _).mono ?_); rintro e w2 ⟨rfl, hB2⟩; have hz := Bx2.next (by assumption) hB2; obtain ⟨z1, z2, z3, z4, -⟩ := hz.facts; clear hB2)))
  all_goals
    rename_i hh
    have HF := Lib.hid hh.2.2.2.2
    clear hh hz z1 z2 z3 z4 hx hx0
    go_wp2
    go_ret
    exact ⟨rfl, HF.out.1, HF.out.2.1, HF.out.2.2⟩
end Go.Proofs.YtjglgohchhdkkaaDoor
