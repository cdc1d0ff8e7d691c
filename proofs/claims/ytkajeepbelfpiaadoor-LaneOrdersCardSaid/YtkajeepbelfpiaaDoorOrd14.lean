/- LaneOrders, in plain terms; lanes of a statement's own. -/
import Derived.Test.YtkajeepbelfpiaaDoorNam14
set_option linter.unusedSimpArgs false
set_option maxRecDepth 100000
set_option linter.unusedVariables false
namespace Go.Proofs.YtkajeepbelfpiaaDoor
open Go Go.RowKit

/-- Lanes that the statement made since w. -/
def St14 (w u : World) (b : Nat) (s : Ln) : Prop := LnAt u b (Nw w) s ∧ Below w.heap.size w u
theorem St14.new {w u u' : World} {b : Nat} {s : Ln} (h : St14 w u b s) (hB : Below u.heap.size u u') : St14 w u' b s := ⟨h.1.of_new hB, h.2.trans (hB.mono h.2.size)⟩
theorem St14.next {w u u' : World} {b : Nat} {s s' : Ln} (h : St14 w u b s) (hL : LnAt u' b (newF (Nw w) u u') s') (hK : KpF (Nw w) u u') : St14 w u' b s' :=
  ⟨hL.mono fun g _ hg => by
    rcases hg with hg | hg
    · exact hg
    · exact Nat.le_trans h.2.size hg.1, h.2.trans (hK.below (fun k hk => hk) h.2.size)⟩
theorem St14.mono {w w' u : World} {b : Nat} {s : Ln} (h : St14 w' u b s) (hB : Below w.heap.size w w') : St14 w u b s := ⟨h.1.mono fun g _ hg => Nat.le_trans hB.size hg, hB.trans (h.2.mono hB.size)⟩
/-- The files that are put first. -/
def enI (Bn : Nat → Nat) (k : Nat) : List Fl := (List.range k).map fun i => ⟨nmI i, Bn i, 0, 0⟩
theorem enI_len (Bn : Nat → Nat) (k : Nat) : (enI Bn k).length = k := by simp [enI]
theorem enI_get (Bn : Nat → Nat) (k i : Nat) (hi : i < k) : (enI Bn k).getD i fl0 = ⟨nmI i, Bn i, 0, 0⟩ := by simp [enI, List.getD_eq_getElem?_getD, hi]
theorem nmI_ne {i j : Nat} (hi : i < 26) (hj : j < 26) (h : i ≠ j) : nmI i ≠ nmI j := fun e => by
  unfold nmI at e
  injection e with e
  have := congrArg UInt8.toNat e
  simp at this
  omega
theorem enI_put (Bn : Nat → Nat) (k : Nat) (hk : k < 26) (hb : Bn k ≤ 64) : putC (nmI k) (Bn k : Int) = 0 ∧ putS ⟨0, enI Bn k, []⟩ (nmI k) (Bn k : Int) = ⟨0, enI Bn (k + 1), []⟩ := by
  have h0 : putC (nmI k) (Bn k : Int) = 0 := by
    unfold putC
    rw [if_neg (by show ¬ kindL [UInt8.ofNat (97 + k)] ≠ 3; rw [kind_one k hk]; decide), if_neg (by omega)]
  refine ⟨h0, ?_⟩
  unfold putS
  rw [if_pos h0]
  have h1 : dropF (enI Bn k) (nmI k) = enI Bn k := dropF_no fun f hf => by
    unfold enI at hf
    obtain ⟨i, hi, rfl⟩ := List.mem_map.1 hf
    have := List.mem_range.1 hi
    exact nmI_ne (by omega) hk (by omega)
  rw [h1]
  show (⟨0, _, dropF [] (nmI k)⟩ : Ln) = _
  unfold enI dropF
  rw [List.range_succ, List.map_append]
  simp
theorem enI_ok (Bn : Nat → Nat) (k : Nat) (hk : k ≤ 26) : okLn ⟨0, enI Bn k, []⟩ := by
  unfold okLn
  simp only [List.append_nil]
  unfold enI
  rw [List.map_map, List.nodup_iff_pairwise_ne, List.pairwise_map]
  refine List.Pairwise.imp_of_mem (fun {a b} ha hb hab => ?_) (List.nodup_iff_pairwise_ne.1 List.nodup_range)
  exact nmI_ne (by have := List.mem_range.1 ha; omega) (by have := List.mem_range.1 hb; omega) hab
/-- The lanes, while the ticks go. -/
structure OrI (n h t nx : Nat) (s : Ln) : Prop where
  ck : s.clock = t
  oe : okL s.en
  os : okL s.sc
  ln : s.en.length + s.sc.length = n
  nxt : nx + s.en.length = n
  nm : ∀ i, i < s.en.length → (s.en.getD i fl0).path = nmI (nx + i)
  pr : s.en = [] ∨ remL s.en + t * h ≤ 64 * n
theorem OrI.start (Bn : Nat → Nat) (n h : Nat) (hb : ∀ i, Bn i ≤ 64) : OrI n h 0 0 ⟨0, enI Bn n, []⟩ := by
  have ok : okL (enI Bn n) := fun f hf => by
    unfold enI at hf
    obtain ⟨i, hi, rfl⟩ := List.mem_map.1 hf
    exact ⟨Nat.zero_le _, hb i⟩
  refine ⟨rfl, ok, (fun f hf => by cases hf), by simp [enI_len], by simp [enI_len], fun i hi => ?_, .inr ?_⟩
  · rw [enI_get Bn n i (by simpa [enI_len] using hi), Nat.zero_add]
  · have := remL_le _ ok
    rw [enI_len] at this
    simpa using this
theorem OrI.tick {n h t nx : Nat} {s : Ln} (o : OrI n h t nx s) {ns : List Fl} (hp : ns.Perm (tickFin s h)) : OrI n h (t + 1) (nx + (tickA s h).fin.length) (tickS s h ns) := by
  obtain ⟨a1, a2, a3, a4, a5, a6, a7, a8⟩ := workL_enrol (s.clock + 1) true s.en h o.oe
  have okA := workL_ok (s.clock + 1) true s.en h o.oe
  have okB := workL_ok (s.clock + 1) false s.sc ((tickA s h).left + h) o.os
  have lb := congrArg List.length (workL_paths (s.clock + 1) false s.sc ((tickA s h).left + h)).1
  simp only [List.length_append, List.length_map] at lb
  have hln := hp.length_eq
  unfold tickFin at hln
  rw [List.length_append] at hln
  have ho := o.ln
  have hx := o.nxt
  refine ⟨by show s.clock + 1 = t + 1; rw [o.ck], okA.1, fun f hf => ?_, ?_, ?_, fun i hi => ?_, ?_⟩
  · rcases List.mem_append.1 hf with h1 | h1
    · exact okB.1 f h1
    · rcases List.mem_append.1 (hp.mem_iff.1 h1) with h2 | h2
      · exact okA.2.1 f h2
      · exact okB.2.1 f h2
  · show (tickA s h).rest.length + ((tickB s h).rest ++ ns).length = n
    rw [List.length_append]
    have e1 : s.en.length = (tickA s h).fin.length + (tickA s h).rest.length := a4
    have e2 : s.sc.length = (tickB s h).fin.length + (tickB s h).rest.length := lb
    omega
  · show nx + (tickA s h).fin.length + (tickA s h).rest.length = n
    unfold tickA at *
    omega
  · have h1 := a5 i hi
    have h2 := o.nm ((tickA s h).fin.length + i) (by
      have hi' : i < (tickA s h).rest.length := hi
      unfold tickA at *
      omega)
    show ((tickA s h).rest.getD i fl0).path = _
    rw [Nat.add_assoc, ← h2]
    exact h1
  · show (tickA s h).rest = [] ∨ remL (tickA s h).rest + (t + 1) * h ≤ 64 * n
    rcases a8 with a8 | a8
    · exact .inl a8
    · rcases o.pr with hpr | hpr
      · left
        unfold tickA
        rw [hpr]
        rfl
      · right
        rw [Nat.add_mul]
        unfold tickA at *
        omega
theorem OrI.done {n h t nx : Nat} {s : Ln} (o : OrI n h t nx s) (ht : 64 * n < t * h) : s.en = [] ∧ nx = n := by
  have h1 : s.en = [] := by
    rcases o.pr with h1 | h1
    · exact h1
    · omega
  have := o.nxt
  rw [h1] at this
  exact ⟨h1, by simpa using this⟩
/-- What the works of a tick say. -/
theorem OrI.works {n h t nx : Nat} {s : Ln} (o : OrI n h t nx s) (j : Nat) (hj : j < (tickOut s h).length) :
    (j < (tickA s h).out.length → ((tickOut s h).getD j wk0).en = true ∧ ((tickOut s h).getD j wk0).path = nmI (nx + j) ∧ ((tickOut s h).getD j wk0).lo ≤ ((tickOut s h).getD j wk0).hi ∧ ((tickOut s h).getD j wk0).hi ≤ 64 ∧ ((tickOut s h).getD j wk0).fin = decide (j < (tickA s h).fin.length) ∧ j ≤ (tickA s h).fin.length ∧ nx + j < n ∧ (tickOut s h).getD j wk0 = (tickA s h).out.getD j wk0) ∧
    (¬ j < (tickA s h).out.length → ((tickOut s h).getD j wk0).en = false) := by
  obtain ⟨a1, a2, a3, a4, a5, a6, a7, a8⟩ := workL_enrol (s.clock + 1) true s.en h o.oe
  obtain ⟨b1, b2, b3, -⟩ := workL_enrol (s.clock + 1) false s.sc ((tickA s h).left + h) o.os
  have hx := o.nxt
  have hlen := workL_out_le (s.clock + 1) true s.en h
  refine ⟨fun hlt => ?_, fun hge => ?_⟩
  · have e : (tickOut s h).getD j wk0 = (tickA s h).out.getD j wk0 := by
      unfold tickOut
      rw [List.getD_eq_getElem?_getD, List.getD_eq_getElem?_getD, List.getElem?_append_left hlt]
    rw [e]
    have h3 := a3 j hlt
    have hje : j < s.en.length := by unfold tickA at hlt; omega
    refine ⟨h3.2.1, ?_, h3.2.2.1, h3.2.2.2.1, h3.2.2.2.2, ?_, by omega, rfl⟩
    · rw [show ((tickA s h).out.getD j wk0).path = (s.en.getD j fl0).path from h3.1]
      exact o.nm j hje
    · unfold tickA at *; omega
  · have e : (tickOut s h).getD j wk0 = (tickB s h).out.getD (j - (tickA s h).out.length) wk0 := by
      unfold tickOut
      rw [List.getD_eq_getElem?_getD, List.getD_eq_getElem?_getD, List.getElem?_append_right (by omega)]
    rw [e]
    have hj2 : j - (tickA s h).out.length < (tickB s h).out.length := by
      unfold tickOut at hj
      rw [List.length_append] at hj
      omega
    exact (b3 _ hj2).2.1
theorem sumW_take (l : List Wk) (j : Nat) (hj : j < l.length) : sumW (l.take (j + 1)) = sumW (l.take j) + ((l.getD j wk0).hi - (l.getD j wk0).lo) := by
  unfold sumW
  rw [List.take_add_one, List.getElem?_eq_getElem hj, List.map_append, List.sum_append, List.getD_eq_getElem?_getD, List.getElem?_eq_getElem hj]
  simp
theorem sumW_le (l : List Wk) (j : Nat) : sumW (l.take j) ≤ sumW l := by
  have h : sumW l = sumW (l.take j) + sumW (l.drop j) := by
    unfold sumW
    rw [← List.sum_append, ← List.map_append, List.take_append_drop]
  omega
end Go.Proofs.YtkajeepbelfpiaaDoor
