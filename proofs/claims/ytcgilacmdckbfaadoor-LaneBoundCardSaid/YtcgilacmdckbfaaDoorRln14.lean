/- The document's lanes, in plain terms, and how they stand to the program's. -/
import Derived.Test.YtcgilacmdckbfaaDoorLan14
set_option linter.unusedSimpArgs false
set_option maxRecDepth 100000
set_option linter.unusedVariables false
namespace Go.Proofs.YtcgilacmdckbfaaDoor
open Go

/-- A file of the document's. -/
structure Rf where
  path : S8
  blocks : Nat
  done : Nat
  last : Int
def rf0 : Rf := ⟨[], 0, 0, 0⟩
instance : Inhabited Rf := ⟨rf0⟩
def isE (x : Rf) : Bool := decide (x.last < 0)
def flR (x : Rf) : Fl := ⟨x.path, x.blocks, x.done, x.last.toNat⟩
/-- The document's list holds the enrol lane's files in their order, and the scrub lane's. -/
structure RelQ (M : List Rf) (en S : List Fl) : Prop where
  e : (M.filter isE).map flR = en
  s : ((M.filter fun x => !isE x).map flR).Perm S
  nd : (M.map (·.path)).Nodup
theorem RelQ.perm {M : List Rf} {en S T : List Fl} (h : RelQ M en S) (hp : S.Perm T) : RelQ M en T := ⟨h.e, h.s.trans hp, h.nd⟩
theorem split_at {M : List Rf} {i : Nat} (hi : i < M.length) : ∃ A B, M = A ++ M.getD i rf0 :: B ∧ A.length = i ∧ ∀ y, M.set i y = A ++ y :: B := by
  refine ⟨M.take i, M.drop (i + 1), ?_, by simp; omega, fun y => ?_⟩
  · have : M.getD i rf0 = M[i] := by rw [List.getD_eq_getElem?_getD, List.getElem?_eq_getElem hi]; rfl
    rw [this, List.getElem_cons_drop, List.take_append_drop]
  · rw [List.set_eq_take_append_cons_drop, if_pos hi]
theorem path_set {M : List Rf} {i : Nat} (hi : i < M.length) (y : Rf) (hy : y.path = (M.getD i rf0).path) : (M.set i y).map (·.path) = M.map (·.path) := by
  rw [List.map_set, hy]
  have : (M.getD i rf0).path = (M.map (·.path))[i]'(by simpa using hi) := by simp [List.getD_eq_getElem?_getD, hi]
  rw [this, List.set_getElem_self]
theorem RelQ.no_enrol {M : List Rf} {en S : List Fl} (h : RelQ M en S) (hn : ∀ j, j < M.length → isE (M.getD j rf0) = false) : en = [] := by
  rw [← h.e, List.filter_eq_nil_iff.2, List.map_nil]
  intro x hx
  obtain ⟨j, hj, rfl⟩ := List.getElem_of_mem hx
  have := hn j hj
  rw [List.getD_eq_getElem?_getD, List.getElem?_eq_getElem hj] at this
  simpa using this
theorem RelQ.enrol {M : List Rf} {en S : List Fl} (h : RelQ M en S) {i : Nat} (hi : i < M.length) (hx : isE (M.getD i rf0) = true) (hf : ∀ j, j < i → isE (M.getD j rf0) = false) :
    ∃ q, en = flR (M.getD i rf0) :: q ∧ (∀ y, y.path = (M.getD i rf0).path → isE y = true → RelQ (M.set i y) (flR y :: q) S) ∧ (∀ y, y.path = (M.getD i rf0).path → isE y = false → RelQ (M.set i y) q (flR y :: S)) := by
  obtain ⟨A, B, hM, hA, hset⟩ := split_at hi
  have hAE : A.filter isE = [] := by
    rw [List.filter_eq_nil_iff]
    intro x hx
    obtain ⟨j, hj, rfl⟩ := List.getElem_of_mem hx
    have := hf j (by omega)
    rw [hM, List.getD_eq_getElem?_getD, List.getElem?_append_left hj, List.getElem?_eq_getElem hj] at this
    simpa using this
  have hnd := h.nd
  have hps := fun y hy => path_set hi y hy
  obtain ⟨X, hX⟩ : ∃ X, M.getD i rf0 = X := ⟨_, rfl⟩
  rw [hX] at hM hx hps ⊢
  have he := h.e
  have hs := h.s
  rw [hM] at he hs
  simp only [List.filter_append, hAE, List.nil_append, List.filter_cons, hx, if_true, List.map_cons, Bool.not_true, Bool.false_eq_true, if_false, List.map_append] at he hs
  refine ⟨(B.filter isE).map flR, he.symm, fun y hy hye => ⟨?_, ?_, ?_⟩, fun y hy hye => ⟨?_, ?_, ?_⟩⟩
  · rw [hset]; simp [List.filter_append, hAE, List.filter_cons, hye]
  · rw [hset]; simpa [List.filter_append, List.filter_cons, hye] using hs
  · rw [hps y hy]; exact hnd
  · rw [hset]; simp [List.filter_append, hAE, List.filter_cons, hye]
  · rw [hset]
    simp only [List.filter_append, List.filter_cons, hye, Bool.not_false, if_true, List.map_append, List.map_cons]
    exact List.perm_middle.trans (hs.cons _)
  · rw [hps y hy]; exact hnd
/-- The order of the scrub lane. -/
def ltF (f g : Fl) : Prop := f.tick < g.tick ∨ f.tick = g.tick ∧ f.path < g.path
/-- Those of the scrub lane that are looked at in a tick. -/
def isS (c : Int) (x : Rf) : Bool := !isE x && decide (x.last ≠ c)
theorem isS_split {c : Int} {x : Rf} : isS c x = true ↔ isE x = false ∧ x.last ≠ c := by
  unfold isS
  simp
theorem RelQ.mem {M : List Rf} {en S : List Fl} (h : RelQ M en S) {f : Fl} (hf : f ∈ S) : ∃ j, j < M.length ∧ isE (M.getD j rf0) = false ∧ flR (M.getD j rf0) = f := by
  have := h.s.mem_iff.2 hf
  obtain ⟨x, hx, rfl⟩ := List.mem_map.1 this
  obtain ⟨hx1, hx2⟩ := List.mem_filter.1 hx
  obtain ⟨j, hj, rfl⟩ := List.getElem_of_mem hx1
  refine ⟨j, hj, ?_, ?_⟩
  · rw [List.getD_eq_getElem?_getD, List.getElem?_eq_getElem hj]; simpa using hx2
  · rw [List.getD_eq_getElem?_getD, List.getElem?_eq_getElem hj]; rfl
theorem RelQ.no_scrub {M : List Rf} {en rest fin : List Fl} {c : Nat} (h : RelQ M en (rest ++ fin)) (hr : ∀ f ∈ rest, f.tick < c) (hn : ∀ j, j < M.length → isS c (M.getD j rf0) = false) : rest = [] := by
  cases rest with
  | nil => rfl
  | cons f rest =>
    exfalso
    obtain ⟨j, hj, h1, h2⟩ := h.mem (f := f) (by simp)
    have h3 := hr f (by simp)
    have h4 := hn j hj
    have : isS c (M.getD j rf0) = true := by
      rw [isS_split]
      refine ⟨h1, fun e => ?_⟩
      rw [← h2] at h3
      unfold flR at h3
      simp only [e] at h3
      omega
    rw [this] at h4
    cases h4
theorem RelQ.scrub {M : List Rf} {en rest fin : List Fl} {c : Nat} (h : RelQ M en (rest ++ fin)) (hr : ∀ f ∈ rest, f.tick < c) (hfn : ∀ f ∈ fin, f.tick = c) (hs : rest.Pairwise ltF)
    {i : Nat} (hi : i < M.length) (hx : isS c (M.getD i rf0) = true) (hmin : ∀ j, j < M.length → isS c (M.getD j rf0) = true → ¬ ltF (flR (M.getD j rf0)) (flR (M.getD i rf0))) :
    ∃ q, rest = flR (M.getD i rf0) :: q ∧ ∀ y, y.path = (M.getD i rf0).path → isE y = false → RelQ (M.set i y) en (flR y :: (q ++ fin)) := by
  obtain ⟨hxe, hxc⟩ := isS_split.1 hx
  obtain ⟨A, B, hM, hA, hset⟩ := split_at hi
  have hnd := h.nd
  have hps := fun y hy => path_set hi y hy
  have hge : ∀ j, j < M.length → isE (M.getD j rf0) = false → ((M.getD j rf0).last.toNat : Int) = (M.getD j rf0).last := fun j _ h => by
    unfold isE at h
    have := of_decide_eq_false h
    omega
  have hXge := hge i hi hxe
  obtain ⟨X, hX⟩ : ∃ X, M.getD i rf0 = X := ⟨_, rfl⟩
  rw [hX] at hM hx hps hmin hxe hxc hXge ⊢
  have he := h.e
  have hss := h.s
  rw [hM] at he hss
  simp only [List.filter_append, List.filter_cons, hxe, Bool.not_false, if_true, List.map_append, List.map_cons, Bool.false_eq_true, if_false] at he hss
  have hmem : flR X ∈ rest ++ fin := hss.mem_iff.1 (by simp)
  have hmr : flR X ∈ rest := by
    rcases List.mem_append.1 hmem with h1 | h1
    · exact h1
    · exfalso
      have := hfn _ h1
      apply hxc
      rw [← hXge]
      unfold flR at this
      simp only at this
      rw [this]
  cases rest with
  | nil => cases hmr
  | cons f q =>
    have hfx : f = flR X := by
      rcases List.mem_cons.1 hmr with h1 | h1
      · exact h1.symm
      · exfalso
        rw [List.pairwise_cons] at hs
        have hlt := hs.1 _ h1
        obtain ⟨j, hj, h2, h3⟩ := h.mem (f := f) (by simp)
        have h4 := hr f (by simp)
        refine hmin j hj (isS_split.2 ⟨h2, fun e => ?_⟩) (by rw [h3]; exact hlt)
        rw [← h3] at h4
        unfold flR at h4
        simp only [e] at h4
        omega
    subst hfx
    have hrest := (List.perm_middle.symm.trans hss).cons_inv
    refine ⟨q, rfl, fun y hy hye => ⟨?_, ?_, ?_⟩⟩
    · rw [hset]
      simp only [List.filter_append, List.filter_cons, hye, Bool.false_eq_true, if_false]
      rw [List.map_append]
      exact he
    · rw [hset]
      simp only [List.filter_append, List.filter_cons, hye, Bool.not_false, if_true, List.map_append, List.map_cons]
      exact List.perm_middle.trans (hrest.cons _)
    · rw [hps y hy]; exact hnd
/-- A path is taken out. -/
def dropR (M : List Rf) (p : S8) : List Rf := M.filter fun x => decide (x.path ≠ p)
def dropF (l : List Fl) (p : S8) : List Fl := l.filter fun x => decide (x.path ≠ p)
theorem drop_map (l : List Rf) (p : S8) : (dropR l p).map flR = dropF (l.map flR) p := by
  unfold dropR dropF
  rw [List.filter_map]
  rfl
theorem RelQ.drop {M : List Rf} {en S : List Fl} (h : RelQ M en S) (p : S8) : RelQ (dropR M p) (dropF en p) (dropF S p) := by
  have hcomm : ∀ (g : Rf → Bool), (dropR M p).filter g = dropR (M.filter g) p := fun g => by
    unfold dropR
    rw [List.filter_filter, List.filter_filter]
    congr 1
    funext x
    exact Bool.and_comm _ _
  refine ⟨?_, ?_, ?_⟩
  · rw [hcomm, drop_map, h.e]
  · rw [hcomm, drop_map]
    exact h.s.filter _
  · exact h.nd.sublist (List.filter_sublist.map _)
theorem RelQ.put {M : List Rf} {en S : List Fl} (h : RelQ M en S) (p : S8) (n : Nat) (hp : ∀ x ∈ M, x.path ≠ p) : RelQ (M ++ [⟨p, n, 0, -1⟩]) (en ++ [⟨p, n, 0, 0⟩]) S := by
  refine ⟨?_, ?_, ?_⟩
  · rw [List.filter_append, List.map_append, h.e]; rfl
  · rw [List.filter_append, List.map_append]; simpa [isE] using h.s
  · rw [List.map_append, List.nodup_append]
    refine ⟨h.nd, by simp, fun a ha b hb => ?_⟩
    obtain ⟨x, hx, rfl⟩ := List.mem_map.1 ha
    have : b = p := by simpa using hb
    rw [this]
    exact hp x hx
/-- What is cut out where a path stands is what a path is taken out of, if it stands there once. -/
theorem cut_drop {l : List Fl} {p : S8} {i : Nat} (hi : i < l.length) (hp : (l.getD i fl0).path = p) (hnd : (l.map (·.path)).Nodup) : l.take i ++ l.drop (i + 1) = dropF l p := by
  induction l generalizing i with
  | nil => simp at hi
  | cons f l ih =>
    rw [List.map_cons, List.nodup_cons] at hnd
    cases i with
    | zero =>
      have hf : f.path = p := by simpa using hp
      unfold dropF
      rw [List.filter_cons, if_neg (by simp [hf])]
      simp only [List.take_zero, List.nil_append, Nat.zero_add, List.drop_succ_cons, List.drop_zero]
      symm
      rw [List.filter_eq_self]
      intro x hx
      simp only [decide_eq_true_eq]
      intro e
      exact hnd.1 (List.mem_map.2 ⟨x, hx, by rw [e, hf]⟩)
    | succ i =>
      have hp' : (l.getD i fl0).path = p := by simpa using hp
      have hi' : i < l.length := by simpa using hi
      have hne : f.path ≠ p := fun e => hnd.1 (List.mem_map.2 ⟨l.getD i fl0, by rw [List.getD_eq_getElem?_getD, List.getElem?_eq_getElem hi']; exact List.getElem_mem _, by rw [hp', e]⟩)
      unfold dropF
      rw [List.filter_cons, if_pos (by simpa using hne)]
      simp only [List.take_succ_cons, List.drop_succ_cons, List.cons_append]
      rw [ih hi' hp' hnd.2]
      rfl
theorem cut_dropR {l : List Rf} {p : S8} {i : Nat} (hi : i < l.length) (hp : (l.getD i rf0).path = p) (hnd : (l.map (·.path)).Nodup) : l.take i ++ l.drop (i + 1) = dropR l p := by
  induction l generalizing i with
  | nil => simp at hi
  | cons f l ih =>
    rw [List.map_cons, List.nodup_cons] at hnd
    cases i with
    | zero =>
      have hf : f.path = p := by simpa using hp
      unfold dropR
      rw [List.filter_cons, if_neg (by simp [hf])]
      simp only [List.take_zero, List.nil_append, Nat.zero_add, List.drop_succ_cons, List.drop_zero]
      symm
      rw [List.filter_eq_self]
      intro x hx
      simp only [decide_eq_true_eq]
      intro e
      exact hnd.1 (List.mem_map.2 ⟨x, hx, by rw [e, hf]⟩)
    | succ i =>
      have hp' : (l.getD i rf0).path = p := by simpa using hp
      have hi' : i < l.length := by simpa using hi
      have hne : f.path ≠ p := fun e => hnd.1 (List.mem_map.2 ⟨l.getD i rf0, by rw [List.getD_eq_getElem?_getD, List.getElem?_eq_getElem hi']; exact List.getElem_mem _, by rw [hp', e]⟩)
      unfold dropR
      rw [List.filter_cons, if_pos (by simpa using hne)]
      simp only [List.take_succ_cons, List.drop_succ_cons, List.cons_append]
      rw [ih hi' hp' hnd.2]
      rfl
end Go.Proofs.YtcgilacmdckbfaaDoor
