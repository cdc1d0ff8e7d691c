/- The reference's items, read. -/
import Derived.Test.YtgmogbgkokofoaaPut6
import Derived.Test.YtgmogbgkokofoaaCuts
import Derived.Deep.AppendLies
set_option linter.unusedSimpArgs false
set_option linter.unusedVariables false
namespace Go.Proofs.Ytgmogbgkokofoaa
open Go Go.RowKit

/-- The item of a kind at the beginning of bytes, how many bytes it has, the error. -/
def nextI (l : List (BitVec 8)) (k : Nat) (most : Int) : It × Nat × Nat :=
  if k = 3 then (if l.length < 1 ∨ 1 < (l.getD 0 0#8).toNat then (⟨0, 0, []⟩, 0, 6) else (⟨3, (l.getD 0 0#8).toNat, []⟩, 1, 0))
  else if k = 4 then (if l.length < 32 then (⟨0, 0, []⟩, 0, 6) else (⟨4, 0, l.take 32⟩, 32, 0))
  else if (takeI l most).2.2 ≠ 0 then (⟨0, 0, []⟩, 0, (takeI l most).2.2)
  else if k ≠ 1 ∧ k ≠ 2 then (⟨k, (takeI l most).1, []⟩, (takeI l most).2.1, 0)
  else if l.length - (takeI l most).2.1 < (takeI l most).1 then (⟨0, 0, []⟩, 0, 6)
  else (⟨k, 0, (l.drop (takeI l most).2.1).take (takeI l most).1⟩, (takeI l most).2.1 + (takeI l most).1, 0)
/-- What Next tells. -/
def NextR (w : World) (x : It × Nat × Nat) (e : Ending) (w' : World) : Prop := ∃ q c, e = .returned (.tuple #[x.1.v q c, .int .i64 (x.2.1 : Int), .int .i64 (x.2.2 : Int)]) ∧ Sl w' q x.1.b ∧ (q = none → c = 0) ∧ x.1.b.length ≤ c ∧ (∀ k, (Value.slice q x.1.b.length c).ownBlock = some k → w.heap.size ≤ k) ∧ Below w.heap.size w w'
attribute [local go_sem ↓] exec_bs
attribute [local go_sem] convIB6 bsB0 bsB1 bsb1
theorem nextI_take {l : List (BitVec 8)} {k : Nat} {most : Int} (h3 : k ≠ 3) (h4 : k ≠ 4) : nextI l k most = if (takeI l most).2.2 ≠ 0 then (⟨0, 0, []⟩, 0, (takeI l most).2.2)
  else if k ≠ 1 ∧ k ≠ 2 then (⟨k, (takeI l most).1, []⟩, (takeI l most).2.1, 0)
  else if l.length - (takeI l most).2.1 < (takeI l most).1 then (⟨0, 0, []⟩, 0, 6)
  else (⟨k, 0, (l.drop (takeI l most).2.1).take (takeI l most).1⟩, (takeI l most).2.1 + (takeI l most).1, 0) := by
  unfold nextI
  rw [if_neg h3, if_neg h4]
set_option maxRecDepth 100000 in
set_option maxHeartbeats 4000000 in
theorem refNext3 (l : List (BitVec 8)) (most : Int) (p : Option Addr) (n cap : Nat) (w : World) (hl : l.length = n) (hs : Sl w p l) : Calls Try.prog 18 #[.slice p n cap, .int .i64 3, .int .i64 most] w (NextR w (nextI l 3 most)) := by
  have HL := Lib.hid hl
  have HS := Lib.hid hs
  clear hl hs
  by_cases h1 : n < 1
  · have h1z : (n : Int) < 1 := by omega
    have hN := Lib.hid (show nextI l 3 most = (⟨0, 0, []⟩, 0, 6) from by unfold nextI; rw [if_pos rfl, if_pos (.inl (by rw [HL.out]; exact h1))])
    go_enter Try.func18, Try.ntmps18
    go_wp2
    refine bodyPost_ret (v := .tuple #[(It.mk 0 0 []).v none 0, .int .i64 0, .int .i64 6]) (by simp [results, Try.results18, go_sem]; try rfl) rfl ?_
    rw [hN.out]
    exact ⟨none, 0, rfl, Sl.nil _ _, fun _ => rfl, Nat.le_refl _, (fun k hk => by cases hk), (Below.refl _ _).alloc (Nat.le_refl _) _⟩
  · have h1z : ¬ (n : Int) < 1 := by omega
    have h1y : (0 : Int) < (n : Int) := by omega
    have h1x : 0 < n := by omega
    have h1d : decide ((n : Int) < 1) = false := decide_eq_false h1z
    obtain ⟨c0, o0, hpe, hx⟩ := HS.out 0 (by rw [HL.out]; omega)
    subst hpe
    rw [B_eq', Nat.add_zero] at hx
    have hcl := (l.getD 0 0#8).isLt
    have hA := Lib.hid (show 1 < (l.getD 0 0#8).toNat → nextI l 3 most = (⟨0, 0, []⟩, 0, 6) from fun h => by unfold nextI; rw [if_pos rfl, if_pos (.inr h)])
    have hB := Lib.hid (show ¬ 1 < (l.getD 0 0#8).toNat → nextI l 3 most = (⟨3, (l.getD 0 0#8).toNat, []⟩, 1, 0) from fun h => by unfold nextI; rw [if_pos rfl, if_neg (by rw [HL.out]; omega)])
    generalize (l.getD 0 0#8).toNat = c at *
    have hlt : c0 < w.heap.size := World.block_lt_of_cell? w _ hx
    have y1 : (w.alloc (.cells #[.int .i64 0, .int .i64 0, .slice none 0 0] 29)).cell? ⟨c0, o0, none⟩ = some (.int .u8 (c : Int)) := by
      rw [World.cell?_alloc_lt _ _ _ (by exact hlt)]
      exact hx
    by_cases h2 : 1 < c
    · have h2z : (1 : Int) < (c : Int) := by omega
      have h2d : decide ((1 : Int) < (c : Int)) = true := decide_eq_true h2z
      have hN := Lib.hid (hA.out h2)
      go_enter Try.func18, Try.ntmps18
      go_wp2
      refine bodyPost_ret (v := .tuple #[(It.mk 0 0 []).v none 0, .int .i64 0, .int .i64 6]) (by simp [results, Try.results18, go_sem]; try rfl) rfl ?_
      rw [hN.out]
      exact ⟨none, 0, rfl, Sl.nil _ _, fun _ => rfl, Nat.le_refl _, (fun k hk => by cases hk), (Below.refl _ _).alloc (Nat.le_refl _) _⟩
    · have h2z : ¬ (1 : Int) < (c : Int) := by omega
      have h2d : decide ((1 : Int) < (c : Int)) = false := decide_eq_false h2z
      have hN := Lib.hid (hB.out h2)
      have hc3 : (c : Int) < 256 := by omega
      go_enter Try.func18, Try.ntmps18
      go_wp2
      refine bodyPost_ret (v := .tuple #[(It.mk 3 c []).v none 0, .int .i64 1, .int .i64 0]) (by simp [results, Try.results18, go_sem]; try rfl) rfl ?_
      rw [hN.out]
      refine ⟨none, 0, rfl, Sl.nil _ _, fun _ => rfl, Nat.le_refl _, (fun k hk => by cases hk), ?_⟩
      exact (Below.refl _ _).alloc (Nat.le_refl _) _
attribute [local go_sem ↓] exec_slice
/-- Own bytes behind stores into another block. -/
theorem OwnB.set3 {w : World} {base g : Nat} {q : Option Addr} {n d : Nat} {l : List (BitVec 8)} (h : OwnB w base (.slice q n d) l) (hg : g < base) (a b c : Value) :
    Sl (((w.setCell ⟨g, 0, none⟩ a).setCell ⟨g, 1, none⟩ b).setCell ⟨g, 2, none⟩ c) q l ∧ (q = none → d = 0) ∧ l.length ≤ d := by
  have h2 : OwnB (((w.setCell ⟨g, 0, none⟩ a).setCell ⟨g, 1, none⟩ b).setCell ⟨g, 2, none⟩ c) base (.slice q n d) l := h.keep fun k hk => by
    have := (h.lt k hk).1
    rw [Below.heap_setCell _ _ _ _ (by show k ≠ g; omega), Below.heap_setCell _ _ _ _ (by show k ≠ g; omega), Below.heap_setCell _ _ _ _ (by show k ≠ g; omega)]
  obtain ⟨q', d', e, h3, h4, h5⟩ := h2.shape
  injection e with e1 e2 e3
  subst e1 e3
  exact ⟨h3, h4, h5⟩
theorem sl_32 (q : Option Addr) (n cap : Nat) (w : World) (hk : 32 ≤ cap) : (slT 23 (.slice q n cap) none (some (.int .i64 32)) none).run Try.prog w = .ok (.value (.slice q 32 cap)) w := sl_hi q n cap 32 w hk
attribute [local go_sem] sl_32
set_option maxRecDepth 100000 in
set_option maxHeartbeats 4000000 in
theorem refNext4 (l : List (BitVec 8)) (most : Int) (p : Option Addr) (n cap : Nat) (w : World) (hl : l.length = n) (hs : Sl w p l) (hp : p = none → cap = 0) (hc : n ≤ cap) : Calls Try.prog 18 #[.slice p n cap, .int .i64 4, .int .i64 most] w (NextR w (nextI l 4 most)) := by
  have HL := Lib.hid hl
  have HS := Lib.hid hs
  have HP := Lib.hid hp
  clear hl hs hp
  by_cases h1 : n < 32
  · have h1z : (n : Int) < 32 := by omega
    have hN := Lib.hid (show nextI l 4 most = (⟨0, 0, []⟩, 0, 6) from by unfold nextI; rw [if_neg (by decide), if_pos rfl, if_pos (by rw [HL.out]; exact h1)])
    go_enter Try.func18, Try.ntmps18
    go_wp2
    refine bodyPost_ret (v := .tuple #[(It.mk 0 0 []).v none 0, .int .i64 0, .int .i64 6]) (by simp [results, Try.results18, go_sem]; try rfl) rfl ?_
    rw [hN.out]
    exact ⟨none, 0, rfl, Sl.nil _ _, fun _ => rfl, Nat.le_refl _, (fun k hk => by cases hk), (Below.refl _ _).alloc (Nat.le_refl _) _⟩
  · have h1z : ¬ (n : Int) < 32 := by omega
    have h32 : 32 ≤ cap := by omega
    have hN := Lib.hid (show nextI l 4 most = (⟨4, 0, l.take 32⟩, 32, 0) from by unfold nextI; rw [if_neg (by decide), if_pos rfl, if_neg (by rw [HL.out]; exact h1)])
    have HB1 := Lib.hid (show Below w.heap.size w (w.alloc (.cells #[.int .i64 0, .int .i64 0, .slice none 0 0] 29)) from (Below.refl _ _).alloc (Nat.le_refl _) _)
    have HB2 := Lib.hid (show Below w.heap.size w ((w.alloc (.cells #[.int .i64 0, .int .i64 0, .slice none 0 0] 29)).alloc (.cells #[] 5)) from HB1.out.alloc HB1.out.size _)
    have HO := Lib.hid (show OwnB ((w.alloc (.cells #[.int .i64 0, .int .i64 0, .slice none 0 0] 29)).alloc (.cells #[] 5)) (w.heap.size + 1) (.slice (some ⟨w.heap.size + 1, 0, none⟩) 0 0) [] from by have := OwnB.empty (w.alloc (.cells #[.int .i64 0, .int .i64 0, .slice none 0 0] 29)) (w.heap.size + 1) (by rw [World.size_alloc]; exact Nat.le_refl _); rw [World.size_alloc] at this; exact this)
    have HST := Lib.hid (show Sl ((w.alloc (.cells #[.int .i64 0, .int .i64 0, .slice none 0 0] 29)).alloc (.cells #[] 5)) p (l.take 32) from (HS.out.take 32).of_below HB2.out)
    have HLT := Lib.hid (show (l.take 32).length = 32 from by rw [List.length_take, HL.out]; omega)
    have hsz : w.heap.size + 1 ≤ ((w.alloc (.cells #[.int .i64 0, .int .i64 0, .slice none 0 0] 29)).alloc (.cells #[] 5)).heap.size := by rw [World.size_alloc, World.size_alloc]; omega
    have z0 : ∀ i v, (#[.int .i64 0, .int .i64 0, .slice none 0 0] : Array Value)[i]? = some v → ((w.alloc (.cells #[.int .i64 0, .int .i64 0, .slice none 0 0] 29)).alloc (.cells #[] 5)).cell? ⟨w.heap.size, i, none⟩ = some v := fun i v h => by
      rw [World.cell?_alloc_lt _ _ _ (by rw [World.size_alloc]; exact Nat.lt_succ_self _), World.cell?_alloc_new]
      exact h
    have HZ := Lib.hid z0
    have HFZ := Lib.hid (show ∀ i, ((w.alloc (.cells #[.int .i64 0, .int .i64 0, .slice none 0 0] 29)).alloc (.cells #[] 5)).frozen? ⟨w.heap.size, i, none⟩ = false from fun i => by
      have hb : ((w.alloc (.cells #[.int .i64 0, .int .i64 0, .slice none 0 0] 29)).alloc (.cells #[] 5)).heap[w.heap.size]? = some (.cells #[.int .i64 0, .int .i64 0, .slice none 0 0] 29 (0, 0)) := by
        rw [((Below.refl _ (w.alloc (.cells #[.int .i64 0, .int .i64 0, .slice none 0 0] 29))).alloc (Nat.le_refl _) (.cells #[] 5)).block w.heap.size (by rw [World.size_alloc]; exact Nat.lt_succ_self _)]
        exact heap_alloc_last w _
      simp [World.frozen?, hb])
    clear z0
    go_enter Try.func18, Try.ntmps18
    go_wp2_with (first | (refine wpl_append _ rfl (.tmp 36) (.tmp 38) rfl (w.heap.size + 1) (.slice (some ⟨w.heap.size + 1, 0, none⟩) 0 0) [] rfl HO.out p 32 cap (l.take 32) HLT.out rfl HST.out HP.out (by simp) hsz ?_; rintro v3 w3 hO3 hg3; rw [List.nil_append] at hO3; obtain ⟨q3, d3, hv3, hS3, hp3, hd3⟩ := hO3.shape; rw [HLT.out] at hv3 hd3; subst hv3; have HO4 := Lib.hid (show ∀ k, (Value.slice q3 32 d3).ownBlock = some k → w.heap.size ≤ k from fun k hk => Nat.le_of_succ_le (hO3.lt k hk).1); have HS3 := Lib.hid hS3; have HP3 := Lib.hid hp3; have c0 : w3.cell? ⟨w.heap.size, 0, none⟩ = some (.int .i64 0) := (hg3.cell_far _ (by exact Nat.lt_of_succ_le hsz) (by simp [Value.ownBlock])).trans (HZ.out 0 _ rfl); have c1 : w3.cell? ⟨w.heap.size, 1, none⟩ = some (.int .i64 0) := (hg3.cell_far _ (by exact Nat.lt_of_succ_le hsz) (by simp [Value.ownBlock])).trans (HZ.out 1 _ rfl); have c2 : w3.cell? ⟨w.heap.size, 2, none⟩ = some (.slice none 0 0) := (hg3.cell_far _ (by exact Nat.lt_of_succ_le hsz) (by simp [Value.ownBlock])).trans (HZ.out 2 _ rfl); have ff : ∀ i, w3.frozen? ⟨w.heap.size, i, none⟩ = false := (fun i => (hg3.frozen_far _ (by exact Nat.lt_of_succ_le hsz) (by simp [Value.ownBlock])).trans (HFZ.out i)); have HO3 := Lib.hid hO3; have HB3 := Lib.hid (HB2.out.grown hg3 (Nat.le_of_succ_le hsz) (fun k hk => by have : w.heap.size + 1 = k := (by simpa [Value.ownBlock] using hk); omega)); clear hO3 hg3 hS3 hp3))
    refine bodyPost_ret (v := .tuple #[.agg #[.int .i64 4, .int .i64 0, .slice q3 32 d3], .int .i64 32, .int .i64 0]) (by simp [results, Try.results18, go_sem, c0, c1, c2, ff]) rfl ?_
    have hv : (It.mk 4 0 (l.take 32)).v q3 d3 = .agg #[.int .i64 4, .int .i64 0, .slice q3 32 d3] := by unfold It.v; dsimp only; rw [HLT.out]; rfl
    rw [hN.out]
    obtain ⟨s1, s2, s3⟩ := HO3.out.set3 (Nat.lt_succ_self _) (.int .i64 4) (.int .i64 0) (.slice q3 32 d3)
    exact ⟨q3, d3, by rw [← hv]; rfl, s1, s2, s3, fun k hk => HO4.out k (by rw [HLT.out] at hk; exact hk), ((HB3.out.setCell (Nat.le_refl _) _).setCell (Nat.le_refl _) _).setCell (Nat.le_refl _) _⟩
end Go.Proofs.Ytgmogbgkokofoaa
