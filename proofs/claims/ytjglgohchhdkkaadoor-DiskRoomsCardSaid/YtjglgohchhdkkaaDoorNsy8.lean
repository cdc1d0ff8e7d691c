/- New and Sync of the program's disk. -/
import Derived.Test.YtjglgohchhdkkaaDoorRmv8
set_option linter.unusedSimpArgs false
set_option linter.unusedVariables false
namespace Go.Proofs.YtjglgohchhdkkaaDoor
open Go Go.RowKit

section
variable {w w' : World} {S S' : Nat → Prop} {b : Nat} {m : Dk} {mv md : Nat} {pv : Value} {vs : List Value} {sl : Nat → Hn}
theorem own_nil0 (w : World) (E : TypeId) (k : Nat) : w.ownsRow 0 E k (.slice none 0 0) 0 [] := ⟨by simp, .inl ⟨rfl, rfl⟩⟩
/-- A disk whose visible state alone counts. -/
structure Dq (w : World) (S : Nat → Prop) (b : Nat) (m : Dk) (mv : Nat) (x3 : Option Nat) (pq : Option Addr) (pn pc : Nat) (sl : Nat → Hn) : Prop where
  box : w.heap[b]? = some (.cells #[.int .i64 m.room, .int .i64 m.count, .map (some mv), .map x3, .slice pq pn pc] 56 (0, 0))
  sb : S b
  sv : S mv
  vis : MpB w mv (m.seen.map (entV sl))
  bod : BdOk w S m.bodies sl
  sz : ∀ f ∈ m.seen, f.size = ((bodyL m f).length : Int)
  low : ∀ k, S k → k < w.heap.size
theorem Dp.q (h : Dp w S b m mv md pv vs sl) : ∃ pq pn pc, Dq w S b m mv (some md) pq pn pc sl := by
  obtain ⟨pq, pc, hpv⟩ := own_slice h.pd.own
  exact ⟨pq, _, pc, by rw [← hpv]; exact h.box, h.sb, h.sv, h.vis, h.bod, h.sz.seen, h.low⟩
variable {x3 : Option Nat} {pq : Option Addr} {pn pc : Nat}
theorem Dq.cell (h : Dq w S b m mv x3 pq pn pc sl) (j : Nat) : w.cell? ⟨b, j, none⟩ = [Value.int .i64 m.room, .int .i64 m.count, .map (some mv), .map x3, .slice pq pn pc][j]? := by
  unfold World.cell?
  rw [h.box]
  simp
theorem Dq.free (h : Dq w S b m mv x3 pq pn pc sl) (j : Nat) : w.frozen? ⟨b, j, none⟩ = false := by
  unfold World.frozen?
  rw [h.box]
  simp
theorem Dq.syncTo (h : Dq w S b m mv x3 pq pn pc sl) {es : Array MapEntry} {clock : Nat} (hb : w.heap[mv]? = some (.map es clock)) :
    Dp (((w.alloc (.map es clock)).setCell ⟨b, 3, none⟩ (.map (some w.heap.size))).setCell ⟨b, 4, none⟩ (.slice none 0 0)) (SN S w.heap.size (w.heap.size + 1)) b (syncL m) mv w.heap.size (.slice none 0 0) [] sl ∧ Kq8 S w (((w.alloc (.map es clock)).setCell ⟨b, 3, none⟩ (.map (some w.heap.size))).setCell ⟨b, 4, none⟩ (.slice none 0 0)) := by
  have hB := (Below.refl w.heap.size w).alloc (Nat.le_refl _) (.map es clock)
  have hbl := h.low b h.sb
  have hk : ∀ k, k ≠ b → (((w.alloc (.map es clock)).setCell ⟨b, 3, none⟩ (.map (some w.heap.size))).setCell ⟨b, 4, none⟩ (.slice none 0 0)).heap[k]? = (w.alloc (.map es clock)).heap[k]? := fun k hne =>
    (Below.heap_setCell _ _ _ _ hne).trans (Below.heap_setCell _ _ _ _ hne)
  have hko : ∀ k, k < w.heap.size → k ≠ b → (((w.alloc (.map es clock)).setCell ⟨b, 3, none⟩ (.map (some w.heap.size))).setCell ⟨b, 4, none⟩ (.slice none 0 0)).heap[k]? = w.heap[k]? := fun k hl hne => (hk k hne).trans (hB.block k hl)
  have hb0 := (hB.block b hbl).trans h.box
  have hb1 := setCell_box (setCell_box hb0 3 (.map (some w.heap.size))) 4 (.slice none 0 0)
  have hsz : (((w.alloc (.map es clock)).setCell ⟨b, 3, none⟩ (.map (some w.heap.size))).setCell ⟨b, 4, none⟩ (.slice none 0 0)).heap.size = w.heap.size + 1 := by simp
  have nbm : mv ≠ b := fun e => by rw [e, h.box] at hb; cases hb
  have hc := h.vis.copied es clock hb
  have nty : ∀ k cur T, w.heap[k]? = some (.cells cur T (0, 0)) → T ≠ 56 → k ≠ b := fun k cur T hc hT e => by
    rw [e, h.box] at hc
    injection hc with hc
    injection hc with _ hc _
    exact hT hc.symm
  refine ⟨⟨hb1, .inl h.sb, .inl h.sv, .inr ⟨Nat.le_refl _, Nat.lt_succ_self _⟩, by have := h.low mv h.sv; omega, h.vis.keep (hko mv (h.low mv h.sv) nbm), hc.keep (hk _ (by omega)), h.bod.keep (fun k cur hs hc => hko k (h.low k hs) (nty k cur _ hc (by decide))) (fun _ x => .inl x), ⟨own_nil0 _ _ _, (fun g hg => by cases hg), fun i hi => absurd hi (by show ¬ i < 0; omega)⟩, ⟨h.sz, h.sz, fun c hc => absurd hc (by show ¬ c ∈ ([] : List Ch); simp)⟩, fun k hk => ?_⟩, rfl, rfl, rfl, by rw [hsz]; omega, fun k hk hn => hko k hk (fun e => hn (by rw [e]; exact h.sb))⟩
  rw [hsz]
  exact SN.low h.low (Nat.le_succ _) k hk
set_option maxRecDepth 100000 in
set_option maxHeartbeats 4000000 in
theorem syncq_any (h : Dq w S b m mv x3 pq pn pc sl) : Calls Tryd.prog 11 #[.pointer (some ⟨b, 0, none⟩)] w fun e w' => e = .returned (.tuple #[]) ∧ DPost S b w (syncL m) w' := by
  have c2 := h.cell 2
  simp at c2
  obtain ⟨es, clock, hb, _⟩ := id h.vis
  have HC := Lib.hid (mapClone_any mv es clock w hb)
  obtain ⟨hd, hk⟩ := h.syncTo hb
  have hB := (Below.refl w.heap.size w).alloc (Nat.le_refl _) (.map es clock)
  have hbl := h.low b h.sb
  have c3 := (hB.cell (p := ⟨b, 3, none⟩) hbl).trans (h.cell 3)
  have f3 := (hB.frozen (p := ⟨b, 3, none⟩) hbl).trans (h.free 3)
  have c4 := (hB.cell (p := ⟨b, 4, none⟩) hbl).trans (h.cell 4)
  have f4 := (hB.frozen (p := ⟨b, 4, none⟩) hbl).trans (h.free 4)
  simp only [List.getElem?_cons_succ, List.getElem?_cons_zero] at c3 c4
  have HP : Hid (DPost S b w (syncL m) (((w.alloc (.map es clock)).setCell ⟨b, 3, none⟩ (.map (some w.heap.size))).setCell ⟨b, 4, none⟩ (.slice none 0 0))) := Lib.hid ⟨⟨_, _, _, _, _, by
    have hsz : (((w.alloc (.map es clock)).setCell ⟨b, 3, none⟩ (.map (some w.heap.size))).setCell ⟨b, 4, none⟩ (.slice none 0 0)).heap.size = w.heap.size + 1 := by simp
    rw [hsz]
    exact hd⟩, hk⟩
  generalize hW : w.alloc (.map es clock) = W at *
  clear h hd hk hb hB
  go_enter Tryd.func11, Tryd.ntmps11
  go_wp2_with fail
  refine HC.out.mono ?_
  rintro e w2 ⟨rfl, hw2⟩
  subst hw2
  clear hW
  go_wp2
  go_end0
  exact ⟨rfl, HP.out⟩
theorem sync_any (h : Dp w S b m mv md pv vs sl) : Calls Tryd.prog 11 #[.pointer (some ⟨b, 0, none⟩)] w fun e w' => e = .returned (.tuple #[]) ∧ DPost S b w (syncL m) w' := by
  obtain ⟨pq, pn, pc, hq⟩ := h.q
  exact syncq_any hq
end
theorem clamp_eq (room : Int) : clampL room = min (max room 0) 1048576 := rfl
set_option maxRecDepth 100000 in
set_option maxHeartbeats 4000000 in
theorem new_any (room : Int) (w : World) : Calls Tryd.prog 7 #[.int .i64 room] w fun e w' => e = .returned (.pointer (some ⟨w.heap.size + 2, 0, none⟩)) ∧ Dp w' (fun k => w.heap.size ≤ k ∧ k < w'.heap.size) (w.heap.size + 2) ⟨clampL room, 0, [], [], [], []⟩ w.heap.size (w.heap.size + 1) (.slice none 0 0) [] (fun _ => ⟨none, 0, 0⟩) ∧ Below w.heap.size w w' := by
  have hmm := @run_makeMap Tryd.prog
  have HC := Lib.hid (clamp_eq room)
  have h1 := MpB.made w
  have h2 := MpB.made (w.alloc (.map #[] 0))
  have hB0 := (Below.refl w.heap.size w).alloc (Nat.le_refl _) (.map #[] 0)
  have hB1 := hB0.alloc hB0.size (.map #[] 0)
  have z1 : (w.alloc (.map #[] 0)).heap.size = w.heap.size + 1 := World.size_alloc _ _
  have z2 : ((w.alloc (.map #[] 0)).alloc (.map #[] 0)).heap.size = w.heap.size + 2 := by rw [World.size_alloc, z1]
  have hD : ∀ r : Int, r = clampL room → Dp (((w.alloc (.map #[] 0)).alloc (.map #[] 0)).alloc (.cells #[.int .i64 r, .int .i64 0, .map (some w.heap.size), .map (some (w.heap.size + 1)), .slice none 0 0] 56)) (fun k => w.heap.size ≤ k ∧ k < (((w.alloc (.map #[] 0)).alloc (.map #[] 0)).alloc (.cells #[.int .i64 r, .int .i64 0, .map (some w.heap.size), .map (some (w.heap.size + 1)), .slice none 0 0] 56)).heap.size) (w.heap.size + 2) ⟨clampL room, 0, [], [], [], []⟩ w.heap.size (w.heap.size + 1) (.slice none 0 0) [] (fun _ => ⟨none, 0, 0⟩) ∧ Below w.heap.size w (((w.alloc (.map #[] 0)).alloc (.map #[] 0)).alloc (.cells #[.int .i64 r, .int .i64 0, .map (some w.heap.size), .map (some (w.heap.size + 1)), .slice none 0 0] 56)) := fun r hr => by
    subst hr
    have hb := World.alloc_heap_new ((w.alloc (.map #[] 0)).alloc (.map #[] 0)) (.cells #[.int .i64 (clampL room), .int .i64 0, .map (some w.heap.size), .map (some (w.heap.size + 1)), .slice none 0 0] 56)
    rw [z2] at hb
    have hBa := (Below.refl (w.alloc (.map #[] 0)).heap.size (w.alloc (.map #[] 0))).alloc (Nat.le_refl _) (.map #[] 0)
    have hBb := (Below.refl ((w.alloc (.map #[] 0)).alloc (.map #[] 0)).heap.size ((w.alloc (.map #[] 0)).alloc (.map #[] 0))).alloc (Nat.le_refl _) (.cells #[.int .i64 (clampL room), .int .i64 0, .map (some w.heap.size), .map (some (w.heap.size + 1)), .slice none 0 0] 56)
    rw [z1] at h2
    refine ⟨⟨hb, ⟨by omega, by rw [World.size_alloc, z2]; omega⟩, ⟨Nat.le_refl _, by rw [World.size_alloc, z2]; omega⟩, ⟨by omega, by rw [World.size_alloc, z2]; omega⟩, by omega, (h1.of_below hBa).of_below hBb, h2.of_below hBb, ⟨fun i hi => absurd hi (by show ¬ i < 0; omega), fun i hi => absurd hi (by show ¬ i < 0; omega), fun i j hi => absurd hi (by show ¬ i < 0; omega)⟩, ⟨own_nil0 _ _ _, (fun g hg => by cases hg), fun i hi => absurd hi (by show ¬ i < 0; omega)⟩, ⟨fun f hf => absurd hf (by show ¬ f ∈ ([] : List Fl); simp), fun f hf => absurd hf (by show ¬ f ∈ ([] : List Fl); simp), fun f hf => absurd hf (by show ¬ f ∈ ([] : List Ch); simp)⟩, fun k hk => hk.2⟩, hB1.alloc hB1.size _⟩
  have HD := Lib.hid hD
  clear h1 h2 hB0 hB1 hD
  go_enter Tryd.func7, Tryd.ntmps7
  go_wp2
  go_ret
  obtain ⟨d1, d2⟩ := HD.out _ HC.out.symm
  exact ⟨rfl, d1, d2⟩
end Go.Proofs.YtjglgohchhdkkaaDoor
