/- What never happens on a disk without crashes: too much used, too many files, two that clash: in plain words. -/
import Derived.Test.YtjglgohchhdkkaaDoorDisk8
import Derived.Test.YtjglgohchhdkkaaDoorDkp8
set_option linter.unusedSimpArgs false
set_option linter.unusedVariables false
namespace Go.Proofs.YtjglgohchhdkkaaDoor
open Go Go.RowKit

/-- No more used than there is room for; paths are good, and none clash. -/
structure RmOk (m : Dk) : Prop where
  used : (usedL m : Int) ≤ m.room
  good : ∀ f ∈ m.seen, goodL f.p = true
  apart : ∀ f ∈ m.seen, ∀ g ∈ m.seen, f.p ≠ g.p → clashL f.p g.p = false
theorem clash_symm (a b : S8) : clashL a b = clashL b a := by unfold clashL; exact Bool.or_comm _ _
theorem sum_filter_le {α : Type} (P : α → Bool) (g : α → Nat) (l : List α) : ((l.filter P).map g).sum ≤ (l.map g).sum := by
  induction l with
  | nil => simp
  | cons x r ih =>
    rw [List.filter_cons]
    split
    · simp only [List.map_cons, List.sum_cons]; omega
    · simp only [List.map_cons, List.sum_cons]; omega
theorem sum_filter_less {α : Type} (P : α → Bool) (g : α → Nat) (l : List α) (i : Nat) (hi : i < l.length) (hP : P l[i] = false) : ((l.filter P).map g).sum + g l[i] ≤ (l.map g).sum := by
  induction l generalizing i with
  | nil => exact absurd hi (by simp)
  | cons x r ih =>
    rw [List.filter_cons]
    cases i with
    | zero =>
      have hx : P x = false := hP
      rw [hx]
      have := sum_filter_le P g r
      simp only [List.map_cons, List.sum_cons, List.getElem_cons_zero, Bool.false_eq_true, if_false]
      omega
    | succ i =>
      have := ih i (by simpa using hi) hP
      simp only [List.getElem_cons_succ] at this ⊢
      split
      · simp only [List.map_cons, List.sum_cons]; omega
      · simp only [List.map_cons, List.sum_cons]; omega
theorem findL_at {l : List Fl} {p : S8} {i : Nat} (h : findL l p = some i) : ∃ hi : i < l.length, (l[i]).p = p := by
  have hi := findL_lt h
  refine ⟨hi, ?_⟩
  unfold findL at h
  rw [List.findIdx?_eq_some_iff_getElem] at h
  obtain ⟨_, h2, _⟩ := h
  simpa using h2
theorem getD_at {l : List Fl} {i : Nat} (hi : i < l.length) : l.getD i fl0 = l[i] := by rw [List.getD_eq_getElem?_getD, List.getElem?_eq_getElem hi]; rfl
theorem without_not {l : List Fl} {p : S8} {f : Fl} (hf : f ∈ withoutL l p true) : f.p ≠ p ∧ clashL f.p p = false := by
  unfold withoutL at hf
  have := (List.mem_filter.1 hf).2
  simp at this
  exact this
/-- A file put where nothing is in its way. -/
theorem apart_put {l : List Fl} {p : S8} {f : Fl} (hp : f.p = p) (h : ∀ f ∈ l, ∀ g ∈ l, f.p ≠ g.p → clashL f.p g.p = false) : ∀ x ∈ withoutL l p true ++ [f], ∀ g ∈ withoutL l p true ++ [f], x.p ≠ g.p → clashL x.p g.p = false := by
  intro x hx g hg hne
  rcases List.mem_append.1 hx with x1 | x1
  · rcases List.mem_append.1 hg with g1 | g1
    · exact h x (without_mem x1) g (without_mem g1) hne
    · rw [List.mem_singleton.1 g1, hp]
      exact (without_not x1).2
  · have ex := List.mem_singleton.1 x1
    rcases List.mem_append.1 hg with g1 | g1
    · rw [ex, hp, clash_symm]
      exact (without_not g1).2
    · rw [ex, List.mem_singleton.1 g1] at hne
      exact absurd rfl hne
theorem good_put {l : List Fl} {p : S8} {f : Fl} (hp : f.p = p) (hg : goodL p = true) (h : ∀ f ∈ l, goodL f.p = true) : ∀ x ∈ withoutL l p true ++ [f], goodL x.p = true := by
  intro x hx
  rcases List.mem_append.1 hx with hx | hx
  · exact h x (without_mem hx)
  · simp at hx
    subst hx
    rw [hp, hg]
theorem body_app {m : Dk} {b : S8} (f : Fl) (hf : f.body < m.bodies.length) : ((m.bodies ++ [b]).getD f.body []).length = (bodyL m f).length := by
  unfold bodyL
  rw [List.getD_eq_getElem?_getD, List.getD_eq_getElem?_getD, List.getElem?_append_left hf]
theorem RmOk.write {n : Nat} {m : Dk} (h : RmOk m) (hok : DkOk n m) (p b : S8) (t : Int) : RmOk (writeL m p b t).1 := by
  unfold writeL
  split
  · exact h
  rename_i h1
  split
  · exact h
  rename_i h2
  split
  · exact h
  split
  · exact h
  split
  · exact h
  rename_i h5
  have hgp : goodL p = true := by simpa using h1
  refine ⟨?_, good_put rfl hgp h.good, apart_put rfl h.apart⟩
  have hle : (b.length : Int) ≤ leftL m p := by omega
  have e : usedL (changeL { m with count := m.count + 1, bodies := m.bodies ++ [b] } ⟨1, [], ⟨p, m.bodies.length, b.length, t, m.count + 1⟩⟩) = ((withoutL m.seen p true).map fun f => (bodyL m f).length).sum + b.length := by
    show ((withoutL m.seen p true ++ [_]).map fun f : Fl => ((m.bodies ++ [b]).getD f.body []).length).sum = _
    rw [List.map_append, List.sum_append]
    congr 1
    · congr 1
      exact List.map_congr_left fun f hf => body_app f (hok.inS f (without_mem hf))
    · simp
  rw [e]
  show _ ≤ m.room
  cases hf : findL m.seen p with
  | none =>
    rw [leftL_none hf] at hle
    have := sum_filter_le (fun f => f.p != p && !(true && clashL f.p p)) (fun f => (bodyL m f).length) m.seen
    unfold withoutL
    unfold usedL at hle
    omega
  | some i =>
    rw [leftL_some hf] at hle
    obtain ⟨hi, hpi⟩ := findL_at hf
    rw [getD_at hi] at hle
    have := sum_filter_less (fun f => f.p != p && !(true && clashL f.p p)) (fun f => (bodyL m f).length) m.seen i hi (by simp [hpi])
    unfold withoutL
    unfold usedL at hle
    omega
theorem RmOk.rename {m : Dk} (h : RmOk m) (p q : S8) : RmOk (renameL m p q).1 := by
  unfold renameL
  split
  · exact h
  rename_i h1
  split
  · exact h
  rename_i h2
  split
  · exact h
  have hgq : goodL q = true := by simpa using h2
  cases hf : findL m.seen p with
  | none => rw [hf] at h1; exact absurd rfl h1
  | some i =>
    obtain ⟨hi, hpi⟩ := findL_at hf
    have e : doL m.seen ⟨2, p, { fl0 with p := q }⟩ = withoutL (withoutL m.seen p false) q true ++ [{ m.seen.getD i fl0 with p := q }] := by
      show (match findL m.seen p with | none => m.seen | some i => withoutL (withoutL m.seen p false) q true ++ [{ m.seen.getD i fl0 with p := q }]) = _
      rw [hf]
    have hs : (changeL m ⟨2, p, { fl0 with p := q }⟩).seen = withoutL (withoutL m.seen p false) q true ++ [{ m.seen.getD i fl0 with p := q }] := e
    refine ⟨?_, ?_, ?_⟩
    · have hu := h.used
      have e2 : usedL (changeL m ⟨2, p, { fl0 with p := q }⟩) = ((withoutL (withoutL m.seen p false) q true).map fun f => (bodyL m f).length).sum + (bodyL m m.seen[i]).length := by
        unfold usedL
        rw [hs, List.map_append, List.sum_append, getD_at hi]
        congr 1
      rw [e2]
      show _ ≤ m.room
      have g1 := sum_filter_less (fun f => f.p != p && !(false && clashL f.p p)) (fun f => (bodyL m f).length) m.seen i hi (by simp [hpi])
      have g2 := sum_filter_le (fun f => f.p != q && !(true && clashL f.p q)) (fun f => (bodyL m f).length) (withoutL m.seen p false)
      unfold usedL at hu
      unfold withoutL at g2 ⊢
      omega
    · rw [hs]
      exact good_put rfl hgq fun f hf => h.good f (without_mem hf)
    · rw [hs]
      exact apart_put rfl fun f hf g hg => h.apart f (without_mem hf) g (without_mem hg)
theorem RmOk.remove {m : Dk} (h : RmOk m) (p : S8) : RmOk (removeL m p).1 := by
  unfold removeL
  split
  · exact h
  have hs : (changeL m ⟨3, p, fl0⟩).seen = withoutL m.seen p false := rfl
  refine ⟨?_, ?_, ?_⟩
  · have hu := h.used
    have g1 := sum_filter_le (fun f => f.p != p && !(false && clashL f.p p)) (fun f => (bodyL m f).length) m.seen
    show (((withoutL m.seen p false).map fun f => (bodyL m f).length).sum : Int) ≤ m.room
    unfold usedL at hu
    unfold withoutL
    omega
  · rw [hs]; exact fun f hf => h.good f (without_mem hf)
  · rw [hs]; exact fun f hf g hg => h.apart f (without_mem hf) g (without_mem hg)
theorem RmOk.sync {m : Dk} (h : RmOk m) : RmOk (syncL m) := ⟨h.used, h.good, h.apart⟩
theorem set_lenR (l : List S8) (i j : Nat) (b : S8) (h : b.length = (l.getD i []).length) : ((l.set i b).getD j []).length = (l.getD j []).length := by
  by_cases e : i = j
  · subst e
    by_cases hl : i < l.length
    · rw [List.getD_eq_getElem?_getD, List.getElem?_set_self hl]
      exact h
    · rw [List.set_eq_of_length_le (by omega)]
  · rw [List.getD_eq_getElem?_getD, List.getElem?_set_ne e, ← List.getD_eq_getElem?_getD]
theorem RmOk.rot {m : Dk} (h : RmOk m) (p : S8) (a : Int) (k : UInt8) : RmOk (rotL m p a k).1 := by
  unfold rotL
  split
  · exact h
  rename_i i hf
  dsimp only
  split
  · exact h
  refine ⟨?_, h.good, h.apart⟩
  have hu := h.used
  have e : usedL { m with bodies := m.bodies.set (m.seen.getD i fl0).body (flipL (bodyL m (m.seen.getD i fl0)) a.toNat k) } = usedL m := by
    unfold usedL
    congr 1
    refine List.map_congr_left fun f _ => ?_
    exact set_lenR _ _ _ _ (flip_len _ _ _)
  rw [e]
  exact hu
/-- Where nothing crashes there are never more than 64 files. -/
theorem seen64_write {m : Dk} (h : m.seen.length ≤ 64) (p b : S8) (t : Int) : (writeL m p b t).1.seen.length ≤ 64 := by
  unfold writeL
  split
  · exact h
  split
  · exact h
  split
  · exact h
  split
  · exact h
  rename_i h4
  split
  · exact h
  show (withoutL m.seen p true ++ [_]).length ≤ 64
  rw [List.length_append]
  show (withoutL m.seen p true).length + 1 ≤ 64
  cases hf : findL m.seen p with
  | none =>
    rw [hf] at h4
    have := without_len m.seen p true
    simp at h4
    omega
  | some i =>
    obtain ⟨hi, hpi⟩ := findL_at hf
    have := sum_filter_less (fun f => f.p != p && !(true && clashL f.p p)) (fun _ => 1) m.seen i hi (by simp [hpi])
    unfold withoutL
    simp only [List.map_const', List.sum_replicate_nat, Nat.mul_one] at this
    omega
theorem seen64_rename {m : Dk} (h : m.seen.length ≤ 64) (p q : S8) : (renameL m p q).1.seen.length ≤ 64 := by
  unfold renameL
  split
  · exact h
  rename_i h1
  split
  · exact h
  split
  · exact h
  cases hf : findL m.seen p with
  | none => rw [hf] at h1; exact absurd rfl h1
  | some i =>
    obtain ⟨hi, hpi⟩ := findL_at hf
    have e : doL m.seen ⟨2, p, { fl0 with p := q }⟩ = withoutL (withoutL m.seen p false) q true ++ [{ m.seen.getD i fl0 with p := q }] := by
      show (match findL m.seen p with | none => m.seen | some i => withoutL (withoutL m.seen p false) q true ++ [{ m.seen.getD i fl0 with p := q }]) = _
      rw [hf]
    show (doL m.seen ⟨2, p, { fl0 with p := q }⟩).length ≤ 64
    rw [e, List.length_append]
    show (withoutL (withoutL m.seen p false) q true).length + 1 ≤ 64
    have g := sum_filter_less (fun f => f.p != p && !(false && clashL f.p p)) (fun _ => 1) m.seen i hi (by simp [hpi])
    simp only [List.map_const', List.sum_replicate_nat, Nat.mul_one] at g
    have g2 := without_len (withoutL m.seen p false) q true
    have g3 : withoutL m.seen p false = m.seen.filter (fun f => f.p != p && !(false && clashL f.p p)) := rfl
    rw [g3] at g2 ⊢
    omega
theorem seen64_remove {m : Dk} (h : m.seen.length ≤ 64) (p : S8) : (removeL m p).1.seen.length ≤ 64 := by
  unfold removeL
  split
  · exact h
  exact Nat.le_trans (without_len m.seen p false) h
end Go.Proofs.YtjglgohchhdkkaaDoor
