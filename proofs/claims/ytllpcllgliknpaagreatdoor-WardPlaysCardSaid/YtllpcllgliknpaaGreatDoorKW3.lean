/- Merged texts: Rlo15, Pbw15, Wbq15, Awake6, AppL6, CloneP, Cuts6W, WrtP6, WrnP6, LdT, Its6, CopyB, Dig6, Fresh6, WrbP6, Wpu15, Wby15, Apf15. -/
import Derived.Test.YtllpcllgliknpaaGreatDoorKW2
import Derived.Test.YtllpcllgliknpaaGreatDoorStr7
import Derived.Test.YtllpcllgliknpaaGreatDoorSha10
import Derived.Test.YtllpcllgliknpaaGreatDoorCode6
import Derived.OwnWalk
import Derived.RegionTactic
import Derived.Maps.AppendAt
import Derived.Test.YtllpcllgliknpaaGreatDoorBytes
import Derived.Test.YtllpcllgliknpaaGreatDoorRef6
import Derived.Test.YtllpcllgliknpaaGreatDoorTake6
import Derived.Test.YtllpcllgliknpaaGreatDoorBase
import Derived.Deep.AppendLies
import Derived.Lib.MinMax
import Derived.Laws.CopyOwn
import Derived.Laws.Tables
import Derived.Laws.NewDeep
import Derived.Test.YtllpcllgliknpaaGreatDoorCuts
import Derived.Lib.ConvBytes
import Derived.Lib.AppendStr
import Derived.Deep.RegionLaw
import Derived.ArgAppend
import Derived.Test.YtllpcllgliknpaaGreatDoorOwnK8
set_option linter.unusedSimpArgs false
set_option linter.unusedVariables false
/- What each act does to the document's list, and to what the ward keeps. -/
set_option maxRecDepth 100000
namespace Go.Proofs.YtllpcllgliknpaaGreatDoor
open Go Go.RowKit
attribute [-go_sem] Sha.exec_store

theorem onoff_len (M : List Hr) (p : S8) : (offH M p).length + (onH M p).length = M.length := by
  unfold offH onH
  induction M with
  | nil => rfl
  | cons x M ih =>
    rw [List.filter_cons, List.filter_cons]
    by_cases hx : x.path = p
    · rw [if_neg (by simp [hx]), if_pos (by simp [hx]), List.length_cons, List.length_cons]; omega
    · rw [if_pos (by simpa using hx), if_neg (by simpa using hx), List.length_cons, List.length_cons]; omega
theorem getD_mem15 {M : List Hr} {i : Nat} (hi : i < M.length) : M.getD i hr0 ∈ M := by
  rw [List.getD_eq_getElem?_getD, List.getElem?_eq_getElem hi]
  exact List.getElem_mem _
theorem split15 {M : List Hr} {i : Nat} (hi : i < M.length) : M = M.take i ++ M.getD i hr0 :: M.drop (i + 1) := by
  rw [List.getD_eq_getElem?_getD, List.getElem?_eq_getElem hi]
  show M = M.take i ++ M[i] :: M.drop (i + 1)
  rw [← List.drop_eq_getElem_cons hi, List.take_append_drop]
theorem nkey15 {u v : Hr} (h : ltH u v) : ¬ (u.path = v.path ∧ u.blk = v.blk) := by
  rintro ⟨e1, e2⟩
  rcases h with h | ⟨-, h⟩
  · rw [e1] at h; exact List.lt_irrefl _ h
  · omega
theorem sortH_mid {A B : List Hr} {x : Hr} : SortH (A ++ x :: B) ↔ SortH A ∧ SortH B ∧ (∀ a ∈ A, ltH a x) ∧ (∀ b ∈ B, ltH x b) ∧ ∀ a ∈ A, ∀ b ∈ B, ltH a b := by
  unfold SortH
  rw [List.pairwise_append, List.pairwise_cons]
  constructor
  · rintro ⟨h1, ⟨h2, h3⟩, h4⟩
    exact ⟨h1, h3, fun a ha => h4 a ha x List.mem_cons_self, h2, fun a ha b hb => h4 a ha b (List.mem_cons_of_mem _ hb)⟩
  · rintro ⟨h1, h2, h3, h4, h5⟩
    exact ⟨h1, ⟨h4, h2⟩, fun a ha b hb => by
      rcases List.mem_cons.1 hb with rfl | hb
      · exact h3 a ha
      · exact h5 a ha b hb⟩
theorem sortH_app {A B : List Hr} : SortH (A ++ B) ↔ SortH A ∧ SortH B ∧ ∀ a ∈ A, ∀ b ∈ B, ltH a b := by
  unfold SortH
  rw [List.pairwise_append]
theorem mid_mem {A B : List Hr} {x0 : Hr} (h : SortH (A ++ x0 :: B)) (x : Hr) : x ∈ A ++ B ↔ x ∈ A ++ x0 :: B ∧ ¬ (x.path = x0.path ∧ x.blk = x0.blk) := by
  obtain ⟨-, -, h3, h4, -⟩ := sortH_mid.1 h
  rw [List.mem_append, List.mem_append, List.mem_cons]
  constructor
  · rintro (hx | hx)
    · exact ⟨.inl hx, nkey15 (h3 x hx)⟩
    · exact ⟨.inr (.inr hx), fun e => nkey15 (h4 x hx) ⟨e.1.symm, e.2.symm⟩⟩
  · rintro ⟨hx | rfl | hx, hk⟩
    · exact .inl hx
    · exact absurd ⟨rfl, rfl⟩ hk
    · exact .inr hx
theorem setH_eq {M : List Hr} {i : Nat} (hi : i < M.length) (y : Int) : setH M i y = M.take i ++ ⟨(M.getD i hr0).path, (M.getD i hr0).blk, y⟩ :: M.drop (i + 1) := by
  unfold setH
  rw [List.set_eq_take_append_cons_drop, if_pos hi]
theorem setH_sort {M : List Hr} (h : SortH M) {i : Nat} (hi : i < M.length) (y : Int) : SortH (setH M i y) := by
  rw [setH_eq hi]
  rw [split15 hi] at h
  obtain ⟨h1, h2, h3, h4, h5⟩ := sortH_mid.1 h
  exact sortH_mid.2 ⟨h1, h2, fun a ha => h3 a ha, fun b hb => h4 b hb, h5⟩
theorem setH_mem {M : List Hr} (h : SortH M) {i : Nat} (hi : i < M.length) (y : Int) (x : Hr) : x ∈ setH M i y ↔ x = ⟨(M.getD i hr0).path, (M.getD i hr0).blk, y⟩ ∨ x ∈ M ∧ ¬ (x.path = (M.getD i hr0).path ∧ x.blk = (M.getD i hr0).blk) := by
  rw [setH_eq hi]
  have hs := split15 hi
  have h' := h
  rw [hs] at h'
  have hm := mid_mem h' x
  rw [← hs, List.mem_append] at hm
  rw [List.mem_append, List.mem_cons]
  constructor
  · rintro (hx | hx | hx)
    · exact .inr (hm.1 (.inl hx))
    · exact .inl hx
    · exact .inr (hm.1 (.inr hx))
  · rintro (hx | hx)
    · exact .inr (.inl hx)
    · rcases hm.2 hx with hx | hx
      · exact .inl hx
      · exact .inr (.inr hx)
theorem cutH_sort {M : List Hr} (h : SortH M) {i : Nat} (hi : i < M.length) : SortH (cutH M i) := by
  unfold cutH
  rw [split15 hi] at h
  obtain ⟨h1, h2, h3, h4, h5⟩ := sortH_mid.1 h
  exact sortH_app.2 ⟨h1, h2, h5⟩
theorem cutH_mem {M : List Hr} (h : SortH M) {i : Nat} (hi : i < M.length) (x : Hr) : x ∈ cutH M i ↔ x ∈ M ∧ ¬ (x.path = (M.getD i hr0).path ∧ x.blk = (M.getD i hr0).blk) := by
  have hs := split15 hi
  have h' := h
  rw [hs] at h'
  have hm := mid_mem h' x
  rw [← hs] at hm
  exact hm
/-- Where a new block goes. -/
def AtH (M : List Hr) (x : Hr) (a : Nat) : Prop := a ≤ M.length ∧ (∀ i, i < a → ltH (M.getD i hr0) x) ∧ (a < M.length → ¬ ltH (M.getD a hr0) x)
theorem ins_sort {M : List Hr} (h : SortH M) {x : Hr} {a : Nat} (ha : AtH M x a) (hx : ∀ z ∈ M, ¬ (z.path = x.path ∧ z.blk = x.blk)) : SortH (M.take a ++ x :: M.drop a) := by
  obtain ⟨h1, h2, h3⟩ := ha
  have hs : SortH (M.take a ++ M.drop a) := by rw [List.take_append_drop]; exact h
  obtain ⟨k1, k2, k3⟩ := sortH_app.1 hs
  refine sortH_mid.2 ⟨k1, k2, fun z hz => ?_, fun z hz => ?_, k3⟩
  · obtain ⟨i, hi, rfl⟩ := List.getElem_of_mem hz
    rw [List.length_take] at hi
    have := h2 i (by omega)
    rw [List.getD_eq_getElem?_getD, List.getElem?_eq_getElem (by omega)] at this
    rw [List.getElem_take]
    exact this
  · have hal : a < M.length := by
      have := List.length_pos_of_mem hz
      rw [List.length_drop] at this
      omega
    have hd : M.drop a = M.getD a hr0 :: M.drop (a + 1) := by
      rw [List.getD_eq_getElem?_getD, List.getElem?_eq_getElem hal]
      exact List.drop_eq_getElem_cons hal
    have hxa : ltH x (M.getD a hr0) := by
      rcases ltH_tot (x := x) (y := M.getD a hr0) (fun e => hx _ (getD_mem15 hal) ⟨e.1.symm, e.2.symm⟩) with h | h
      · exact h
      · exact absurd h (h3 hal)
    rw [hd] at hz k2
    rcases List.mem_cons.1 hz with rfl | hz
    · exact hxa
    · unfold SortH at k2
      rw [List.pairwise_cons] at k2
      exact ltH_tr hxa (k2.1 z hz)
theorem ins_mem {M : List Hr} {x : Hr} {a : Nat} (z : Hr) : z ∈ M.take a ++ x :: M.drop a ↔ z = x ∨ z ∈ M := by
  conv => rhs; rw [← List.take_append_drop a M]
  rw [List.mem_append, List.mem_append, List.mem_cons]
  constructor
  · rintro (h | h | h)
    · exact .inr (.inl h)
    · exact .inl h
    · exact .inr (.inr h)
  · rintro (h | h | h)
    · exact .inr (.inl h)
    · exact .inl h
    · exact .inr (.inr h)
/-- What the document's Hold gives. -/
def HoldR (M : List Hr) (p : S8) (b y c : Int) (M' : List Hr) : Prop :=
  (badH p b y ≠ 0 ∧ c = badH p b y ∧ M' = M) ∨ badH p b y = 0 ∧
    ((∃ i, i < M.length ∧ (M.getD i hr0).path = p ∧ (M.getD i hr0).blk = b ∧ c = 0 ∧ M' = setH M i y) ∨
     (∀ x ∈ M, ¬ (x.path = p ∧ x.blk = b)) ∧ ((1000 ≤ M.length ∧ c = 14 ∧ M' = M) ∨ (M.length < 1000 ∧ c = 0 ∧ ∃ a, AtH M ⟨p, b, y⟩ a ∧ M' = M.take a ++ ⟨p, b, y⟩ :: M.drop a)))
theorem holdC_bad (s : Ws) (p : S8) (k r : Int) (h : badH p k r ≠ 0) : holdC s p k r = badH p k r := by
  unfold holdC badH at *
  by_cases h1 : kindL p ≠ 3
  · rw [if_pos h1, if_pos h1]
  · rw [if_neg h1] at h ⊢
    rw [if_neg h1]
    by_cases h2 : k < 0 ∨ 63 < k ∨ r < 1 ∨ 3 < r
    · rw [if_pos h2, if_pos h2]
    · rw [if_neg h2] at h; exact absurd rfl h
theorem holdC_ok (s : Ws) (p : S8) (k r : Int) (h : badH p k r = 0) : holdC s p k r = if whyW (ofW s p) k = none ∧ 1000 ≤ lenW s then 14 else 0 := by
  obtain ⟨k1, k2, k3, k4, k5⟩ := badH_ok h
  unfold holdC
  rw [if_neg (by simp [k1]), if_neg (by omega)]
theorem putW_ne {s : Ws} (hn : ∀ x ∈ s, x.2 ≠ []) (p : S8) (k r : Int) : ∀ x ∈ putW s p k r, x.2 ≠ [] := by
  intro x hx
  unfold putW at hx
  rcases List.mem_cons.1 hx with rfl | hx
  · simp [putH]
  · exact hn x (delW_mem hx).1
theorem RelH.put {s : Ws} {M M' : List Hr} {p : S8} {k r : Int} (h : RelH s M) (ok : OkW (putW s p k r)) (hb : badH p k r = 0) (srt : SortH M') (mem : ∀ x, x ∈ M' ↔ x = ⟨p, k, r⟩ ∨ x ∈ M ∧ ¬ (x.path = p ∧ x.blk = k)) : RelH (putW s p k r) M' := by
  obtain ⟨k1, k2, k3, k4, k5⟩ := badH_ok hb
  refine .of ok (putW_ne h.ne p k r) srt (fun x => ?_) (fun x hx => ?_)
  · rw [mem, ofW_put]
    obtain ⟨xp, xb, xw⟩ := x
    dsimp only
    by_cases hp : xp = p
    · subst hp
      rw [if_pos rfl, whyW_put]
      by_cases hk : xb = k
      · subst hk
        rw [if_pos rfl]
        constructor
        · rintro (e | ⟨-, e⟩)
          · injection e with _ _ e3; rw [e3]
          · exact absurd ⟨rfl, rfl⟩ e
        · intro e; injection e with e; exact .inl (by rw [e])
      · rw [if_neg hk]
        constructor
        · rintro (e | ⟨e, -⟩)
          · injection e with _ e2 _; exact absurd e2 hk
          · exact h.mem.1 e
        · intro e; exact .inr ⟨h.mem.2 e, fun e => hk e.2⟩
    · rw [if_neg hp]
      constructor
      · rintro (e | ⟨e, -⟩)
        · injection e with e1 _ _; exact absurd e1 hp
        · exact h.mem.1 e
      · intro e; exact .inr ⟨h.mem.2 e, fun e => hp e.1⟩
  · rcases (mem x).1 hx with rfl | ⟨hx, -⟩
    · exact ⟨k1, k2, k3, k4, k5⟩
    · exact h.bd x hx
theorem RelH.hold {s : Ws} {M M' : List Hr} {p : S8} {b y c : Int} (h : RelH s M) (ok : OkW (holdW s p b y)) (hr : HoldR M p b y c M') : c = holdC s p b y ∧ RelH (holdW s p b y) M' := by
  rcases hr with ⟨hb, rfl, rfl⟩ | ⟨hb, hr⟩
  · have e := holdC_bad s p b y hb
    refine ⟨e.symm, ?_⟩
    unfold holdW
    rw [if_neg (by rw [e]; exact hb)]
    exact h
  · have e := holdC_ok s p b y hb
    rcases hr with ⟨i, hi, e1, e2, rfl, rfl⟩ | ⟨hno, hr⟩
    · have hmem := getD_mem15 hi
      have hw := h.mem.1 hmem
      rw [e1, e2] at hw
      rw [if_neg (by rw [hw]; rintro ⟨e, -⟩; cases e)] at e
      have e0 : holdW s p b y = putW s p b y := by unfold holdW; rw [if_pos e]
      rw [e0] at ok ⊢
      refine ⟨e.symm, h.put ok hb (setH_sort h.sort hi y) fun x => ?_⟩
      have := setH_mem h.sort hi y x
      rw [e1, e2] at this
      exact this
    · have hw := (h.why p b).2 hno
      rcases hr with ⟨hm, rfl, rfl⟩ | ⟨hm, rfl, a, ha, rfl⟩
      · rw [if_pos ⟨hw, by rw [← h.len]; exact hm⟩] at e
        refine ⟨e.symm, ?_⟩
        unfold holdW
        rw [if_neg (by rw [e]; decide)]
        exact h
      · rw [if_neg (by rw [← h.len]; omega)] at e
        have e0 : holdW s p b y = putW s p b y := by unfold holdW; rw [if_pos e]
        rw [e0] at ok ⊢
        refine ⟨e.symm, h.put ok hb (ins_sort h.sort ha hno) fun x => ?_⟩
        rw [ins_mem]
        constructor
        · rintro (e | e)
          · exact .inl e
          · exact .inr ⟨e, hno x e⟩
        · rintro (e | ⟨e, -⟩)
          · exact .inl e
          · exact .inr e
theorem ofW_del (s : Ws) (p q : S8) : ofW (delW s p) q = if q = p then [] else ofW s q := by
  unfold ofW findW delW
  induction s with
  | nil => simp
  | cons x s ih =>
    rw [List.filter_cons]
    by_cases hx : x.1 = p
    · rw [if_neg (by simp [hx]), ih]
      by_cases hq : q = p
      · rw [if_pos hq, if_pos hq]
      · rw [if_neg hq, if_neg hq, List.find?_cons]
        have : (x.1 == q) = false := by simpa [hx] using Ne.symm hq
        rw [this]
    · rw [if_pos (by simpa using hx), List.find?_cons]
      cases hxq : (x.1 == q) with
      | true =>
        have : ¬ q = p := by rw [← show x.1 = q by simpa using hxq]; exact hx
        rw [if_neg this, List.find?_cons, hxq]
      | false =>
        by_cases hq : q = p
        · rw [if_pos hq] at ih ⊢
          exact ih
        · rw [if_neg hq] at ih ⊢
          rw [List.find?_cons, hxq]
          exact ih
theorem ofW_cons (s : Ws) (p q : S8) (h : Hs) : ofW ((p, h) :: s) q = if q = p then h else ofW s q := by
  unfold ofW findW
  rw [List.find?_cons]
  by_cases hq : q = p
  · subst hq; simp
  · have : ((p, h).1 == q) = false := by simpa using Ne.symm hq
    rw [this, if_neg hq]
theorem whyW_del (h : Hs) (k j : Int) : whyW (delH h k) j = if j = k then none else whyW h j := by
  unfold whyW delH
  induction h with
  | nil => simp
  | cons x h ih =>
    rw [List.filter_cons]
    by_cases hx : x.1 = k
    · rw [if_neg (by simp [hx]), ih]
      by_cases hj : j = k
      · rw [if_pos hj, if_pos hj]
      · rw [if_neg hj, if_neg hj, List.find?_cons]
        have : (x.1 == j) = false := by simpa [hx] using Ne.symm hj
        rw [this]
    · rw [if_pos (by simpa using hx), List.find?_cons]
      cases hxj : (x.1 == j) with
      | true =>
        have : ¬ j = k := by rw [← show x.1 = j by simpa using hxj]; exact hx
        rw [if_neg this, List.find?_cons, hxj]
      | false =>
        by_cases hj : j = k
        · rw [if_pos hj] at ih ⊢
          exact ih
        · rw [if_neg hj] at ih ⊢
          rw [List.find?_cons, hxj]
          exact ih
theorem RelH.drop {s : Ws} {M : List Hr} (h : RelH s M) (p : S8) (ok : OkW (delW s p)) : RelH (delW s p) (offH M p) := by
  refine .of ok (fun x hx => h.ne x (delW_mem hx).1) ?_ (fun x => ?_) (fun x hx => h.bd x (List.mem_filter.1 hx).1)
  · exact List.Pairwise.filter _ h.sort
  · unfold offH
    rw [List.mem_filter, ofW_del, h.mem]
    by_cases hp : x.path = p
    · rw [if_pos hp]
      simp [hp, whyW]
    · rw [if_neg hp]
      simp [hp]
theorem RelH.grp {s : Ws} {M : List Hr} (h : RelH s M) (p : S8) : onH M p = grpH p (ofW s p) := by
  refine sortH_ext (List.Pairwise.filter _ h.sort) (grpH_sort (ofW_nodup h.ok p)) fun x => ?_
  unfold onH
  rw [List.mem_filter, grpH_mem, h.mem]
  constructor
  · rintro ⟨h1, h2⟩
    have e : x.path = p := by simpa using h2
    exact ⟨e, by rw [← e]; exact h1⟩
  · rintro ⟨rfl, h1⟩
    exact ⟨h1, by simp⟩
theorem RelH.onlen {s : Ws} {M : List Hr} (h : RelH s M) (p : S8) : (onH M p).length = (ofW s p).length := by rw [h.grp, grpH_len]
theorem RelH.non15 {s : Ws} {M : List Hr} (h : RelH s M) (p : S8) : findW s p = none ↔ onH M p = [] := by
  constructor
  · intro hf
    apply List.eq_nil_of_length_eq_zero
    rw [h.onlen]
    unfold ofW
    rw [hf]
    rfl
  · intro he
    cases hf : findW s p with
    | none => rfl
    | some l =>
      exfalso
      have h1 := h.onlen p
      rw [he] at h1
      unfold ofW at h1
      rw [hf] at h1
      exact h.ne _ (findW_in hf) (List.eq_nil_of_length_eq_zero h1.symm)
/-- What the document's Free gives. -/
def FreeR (M : List Hr) (p : S8) (b c : Int) (M' : List Hr) : Prop :=
  ((∀ x ∈ M, ¬ (x.path = p ∧ x.blk = b)) ∧ c = 8 ∧ M' = M) ∨ ∃ i, i < M.length ∧ (M.getD i hr0).path = p ∧ (M.getD i hr0).blk = b ∧ c = 0 ∧ M' = cutH M i
theorem RelH.free {s : Ws} {M M' : List Hr} {p : S8} {b c : Int} (h : RelH s M) (ok : OkW (freeW s p b)) (hr : FreeR M p b c M') : c = freeC s p b ∧ RelH (freeW s p b) M' := by
  rcases hr with ⟨hno, rfl, rfl⟩ | ⟨i, hi, e1, e2, rfl, rfl⟩
  · have hw := (h.why p b).2 hno
    unfold freeC freeW
    rw [hw]
    exact ⟨rfl, h⟩
  · have hw := h.mem.1 (getD_mem15 hi)
    rw [e1, e2] at hw
    have hc : freeC s p b = 0 := by unfold freeC; rw [hw]; rfl
    refine ⟨hc.symm, ?_⟩
    have hof : ∀ q, ofW (freeW s p b) q = if q = p then delH (ofW s p) b else ofW s q := by
      intro q
      unfold freeW
      rw [hw]
      simp only [Option.isSome_some, if_true]
      by_cases hl : (delH (ofW s p) b).length = 0
      · rw [if_pos hl, ofW_del]
        rw [List.eq_nil_of_length_eq_zero hl]
      · rw [if_neg hl, ofW_cons, ofW_del]
        by_cases hq : q = p
        · rw [if_pos hq, if_pos hq]
        · rw [if_neg hq, if_neg hq, if_neg hq]
    refine .of ok (fun x hx => ?_) (cutH_sort h.sort hi) (fun x => ?_) (fun x hx => h.bd x ((cutH_mem h.sort hi x).1 hx).1)
    · unfold freeW at hx
      rw [hw] at hx
      simp only [Option.isSome_some, if_true] at hx
      by_cases hl : (delH (ofW s p) b).length = 0
      · rw [if_pos hl] at hx
        exact h.ne x (delW_mem hx).1
      · rw [if_neg hl] at hx
        rcases List.mem_cons.1 hx with rfl | hx
        · intro e; dsimp only at e; rw [e] at hl; exact hl rfl
        · exact h.ne x (delW_mem hx).1
    · rw [cutH_mem h.sort hi, e1, e2, hof, h.mem]
      by_cases hp : x.path = p
      · rw [if_pos hp, whyW_del, hp]
        by_cases hb : x.blk = b
        · rw [if_pos hb]; simp [hb]
        · rw [if_neg hb]; simp [hb]
      · rw [if_neg hp]; simp [hp]
/-- What the document's Move has brought so far. -/
def MvR (q : S8) (R0 of : List Hr) (k : Nat) (R : List Hr) : Prop := SortH R ∧ R.length = R0.length + k ∧ ∀ x, x ∈ R ↔ x ∈ R0 ∨ ∃ z ∈ of.take k, x = ⟨q, z.blk, z.why⟩
theorem badH_zero {p : S8} {b y : Int} (h1 : kindL p = 3) (h2 : 0 ≤ b ∧ b ≤ 63 ∧ 1 ≤ y ∧ y ≤ 3) : badH p b y = 0 := by
  unfold badH
  rw [if_neg (by simp [h1]), if_neg (by omega)]
theorem MvR.step {M : List Hr} {p q : S8} {k : Nat} {R R' : List Hr} {c : Int} (hM : SortH M) (hbd : ∀ x ∈ M, kindL x.path = 3 ∧ 0 ≤ x.blk ∧ x.blk ≤ 63 ∧ 1 ≤ x.why ∧ x.why ≤ 3) (hML : M.length ≤ 1000) (hq : kindL q = 3) (hk : k < (onH M p).length) (h : MvR q (offH (offH M p) q) (onH M p) k R)
    (hr : HoldR R q ((onH M p).getD k hr0).blk ((onH M p).getD k hr0).why c R') : MvR q (offH (offH M p) q) (onH M p) (k + 1) R' := by
  have hmem := getD_mem15 hk
  obtain ⟨z, hz⟩ : ∃ z, (onH M p).getD k hr0 = z := ⟨_, rfl⟩
  have htk := takeH_getD (onH M p) k hk
  rw [hz] at hr hmem htk
  have hzM := (List.mem_filter.1 hmem).1
  have hzp : z.path = p := by simpa using (List.mem_filter.1 hmem).2
  have hb := hbd z hzM
  have hb0 : badH q z.blk z.why = 0 := badH_zero hq hb.2
  have hoS : SortH (onH M p) := List.Pairwise.filter _ hM
  obtain ⟨h1, h2, h3⟩ := h
  have hno : ∀ x ∈ R, ¬ (x.path = q ∧ x.blk = z.blk) := by
    rintro x hx ⟨e1, e2⟩
    rcases (h3 x).1 hx with h | ⟨y, hy, rfl⟩
    · have := (List.mem_filter.1 h).2
      simp [e1] at this
    · dsimp only at e2
      obtain ⟨i, hi, rfl⟩ := List.getElem_of_mem hy
      rw [List.length_take] at hi
      rw [List.getElem_take] at e2
      have hlt : ltH (onH M p)[i] (onH M p)[k] := List.pairwise_iff_getElem.1 hoS i k (by omega) hk (by omega)
      have hz' : (onH M p)[k] = z := by
        rw [← hz, List.getD_eq_getElem?_getD, List.getElem?_eq_getElem hk]; rfl
      rw [hz'] at hlt
      have hpi : (onH M p)[i].path = p := by simpa using (List.mem_filter.1 (List.getElem_mem (l := onH M p) (by omega : i < _))).2
      exact nkey15 hlt ⟨hpi.trans hzp.symm, e2⟩
  have hlen : R.length < 1000 := by
    have e1 := onoff_len M p
    have e2 : (offH (offH M p) q).length ≤ (offH M p).length := List.length_filter_le _ _
    omega
  rcases hr with ⟨hb1, -⟩ | ⟨-, ⟨i, hi, e1, e2, -⟩ | ⟨-, ⟨hm, -⟩ | ⟨-, -, a, ha, rfl⟩⟩⟩
  · exact absurd hb0 hb1
  · exact absurd ⟨e1, e2⟩ (hno _ (getD_mem15 hi))
  · omega
  · refine ⟨ins_sort h1 ha hno, ?_, fun x => ?_⟩
    · have := ha.1
      rw [List.length_append, List.length_cons, List.length_take, List.length_drop]
      omega
    · rw [ins_mem, h3, htk]
      constructor
      · rintro (rfl | h | ⟨y, hy, rfl⟩)
        · exact .inr ⟨z, List.mem_append_right _ (List.mem_singleton.2 rfl), rfl⟩
        · exact .inl h
        · exact .inr ⟨y, List.mem_append_left _ hy, rfl⟩
      · rintro (h | ⟨y, hy, rfl⟩)
        · exact .inr (.inl h)
        · rcases List.mem_append.1 hy with hy | hy
          · exact .inr (.inr ⟨y, hy, rfl⟩)
          · rw [List.mem_singleton.1 hy]; exact .inl rfl
/-- What the document's Move gives. -/
def MoveR (M : List Hr) (p q : S8) (c : Int) (M' : List Hr) : Prop :=
  (onH M p = [] ∧ c = 8 ∧ M' = M) ∨ onH M p ≠ [] ∧ ((kindL q ≠ 3 ∧ c = 7 ∧ M' = M) ∨ (kindL q = 3 ∧ c = 0 ∧ MvR q (offH (offH M p) q) (onH M p) (onH M p).length M'))
theorem RelH.move {s : Ws} {M M' : List Hr} {p q : S8} {c : Int} (h : RelH s M) (ok : OkW (moveW s p q)) (hr : MoveR M p q c M') : c = moveC s p q ∧ RelH (moveW s p q) M' := by
  rcases hr with ⟨he, rfl, rfl⟩ | ⟨he, hr⟩
  · have hf := (h.non15 p).2 he
    have e : moveC s p q = 8 := by unfold moveC; rw [if_pos hf]
    refine ⟨e.symm, ?_⟩
    unfold moveW
    rw [if_neg (by rw [e]; decide)]
    exact h
  · have hf : findW s p ≠ none := fun hf => he ((h.non15 p).1 hf)
    rcases hr with ⟨hk, rfl, rfl⟩ | ⟨hk, rfl, h1, h2, h3⟩
    · have e : moveC s p q = 7 := by unfold moveC; rw [if_neg hf, if_pos hk]
      refine ⟨e.symm, ?_⟩
      unfold moveW
      rw [if_neg (by rw [e]; decide)]
      exact h
    · have e : moveC s p q = 0 := by unfold moveC; rw [if_neg hf, if_neg (by simp [hk])]
      have e0 : moveW s p q = (q, ofW s p) :: delW (delW s p) q := by unfold moveW; rw [if_pos e]
      refine ⟨e.symm, ?_⟩
      rw [e0] at ok ⊢
      have hon : ∀ z, z ∈ onH M p ↔ z ∈ M ∧ z.path = p := fun z => by unfold onH; rw [List.mem_filter]; simp
      rw [List.take_length] at h3
      refine .of ok (fun x hx => ?_) h1 (fun x => ?_) (fun x hx => ?_)
      · rcases List.mem_cons.1 hx with rfl | hx
        · cases hl : findW s p with
          | none => exact absurd hl hf
          | some l =>
            have := h.ne _ (findW_in hl)
            intro e
            apply this
            dsimp only at e ⊢
            unfold ofW at e
            rw [hl] at e
            exact e
        · exact h.ne x (delW_mem (delW_mem hx).1).1
      · rw [h3, ofW_cons, ofW_del, ofW_del]
        have hoff : x ∈ offH (offH M p) q ↔ x ∈ M ∧ x.path ≠ p ∧ x.path ≠ q := by
          unfold offH
          rw [List.mem_filter, List.mem_filter]
          simp [and_assoc]
        rw [hoff, h.mem]
        by_cases hq : x.path = q
        · rw [if_pos hq]
          constructor
          · rintro (⟨-, -, e⟩ | ⟨z, hz, rfl⟩)
            · exact absurd hq e
            · obtain ⟨hz1, rfl⟩ := (hon z).1 hz
              exact h.mem.1 hz1
          · intro e
            exact .inr ⟨⟨p, x.blk, x.why⟩, (hon _).2 ⟨h.mem.2 e, rfl⟩, by rw [← hq]⟩
        · rw [if_neg hq, if_neg hq]
          by_cases hp : x.path = p
          · rw [if_pos hp]
            constructor
            · rintro (⟨-, e, -⟩ | ⟨z, hz, rfl⟩)
              · exact absurd hp e
              · exact absurd rfl hq
            · intro e; cases e
          · rw [if_neg hp]
            constructor
            · rintro (⟨e, -, -⟩ | ⟨z, hz, rfl⟩)
              · exact e
              · exact absurd rfl hq
            · intro e; exact .inl ⟨e, hp, hq⟩
      · rcases (h3 x).1 hx with hx | ⟨z, hz, rfl⟩
        · exact h.bd x (List.mem_filter.1 (List.mem_filter.1 hx).1).1
        · have := h.bd z ((hon z).1 hz).1
          exact ⟨hk, this.2⟩
end Go.Proofs.YtllpcllgliknpaaGreatDoor
/- A path's bytes (as in Enc10, without the records). -/
set_option maxRecDepth 100000
namespace Go.Proofs.YtllpcllgliknpaaGreatDoor
open Go Go.RowKit
attribute [-go_sem] Sha.exec_store

abbrev By := List (BitVec 8)
/-- A path's bytes. -/
def pB (p : S8) : By := p.map UInt8.toBitVec
theorem pB_len (p : S8) : (pB p).length = p.length := by unfold pB; rw [List.length_map]
def pS (b : By) : S8 := b.map UInt8.ofBitVec
theorem pS_pB (p : S8) : pS (pB p) = p := by
  unfold pS pB
  rw [List.map_map]
  exact (List.map_congr_left fun x _ => by rfl).trans (List.map_id p)
theorem strOf_pS (b : By) : strOf b = mkS (pS b) := by unfold mkS pS strOf; rfl
theorem strOf_pB (p : S8) : strOf (pB p) = mkS p := by rw [strOf_pS, pS_pB]
end Go.Proofs.YtllpcllgliknpaaGreatDoor
/- The ward's bytes, plain. -/
set_option maxRecDepth 100000
namespace Go.Proofs.YtllpcllgliknpaaGreatDoor
open Go Go.RowKit
attribute [-go_sem] Sha.exec_store

theorem enc7_9W {n : Nat} (h : n < 9223372036854775808) : (enc7 n).length ≤ 9 := enc7_len 8 n (by rw [show (128 : Nat) ^ 9 = 9223372036854775808 by decide]; exact h)
def itH (x : Hr) : By := enc7 x.blk.toNat ++ enc7 x.why.toNat
def itsH (M : List Hr) : By := (M.map itH).flatten
def grpB (M : List Hr) : By := enc7 M.length ++ itsH M
def pthB (p : S8) (M : List Hr) : By := (enc7 (pB p).length ++ pB p) ++ grpB M
def pthsB (s : Ws) (P : List S8) : By := (P.map fun p => pthB p (grpH p (ofW s p))).flatten
def bodyW (s : Ws) : By := enc7 s.length ++ pthsB s (pathsW s)
def encW (s : Ws) : By := bodyW s ++ digL (bodyW s)
theorem itsH_take (M : List Hr) (k : Nat) (hk : k < M.length) : itsH (M.take (k + 1)) = itsH (M.take k) ++ itH (M.getD k hr0) := by
  unfold itsH
  rw [takeH_getD M k hk, List.map_append, List.flatten_append]
  simp
theorem pthsB_take (s : Ws) (P : List S8) (k : Nat) (hk : k < P.length) : pthsB s (P.take (k + 1)) = pthsB s (P.take k) ++ pthB P[k] (grpH P[k] (ofW s P[k])) := by
  unfold pthsB
  rw [List.take_add_one, List.getElem?_eq_getElem hk, List.map_append, List.flatten_append]
  simp
theorem itH_len {x : Hr} (hx : 0 ≤ x.blk ∧ x.blk ≤ 63 ∧ 1 ≤ x.why ∧ x.why ≤ 3) : (itH x).length ≤ 18 := by
  unfold itH
  rw [List.length_append]
  have h1 := enc7_9W (n := x.blk.toNat) (by omega)
  have h2 := enc7_9W (n := x.why.toNat) (by omega)
  omega
theorem itsH_len {M : List Hr} (h : ∀ x ∈ M, 0 ≤ x.blk ∧ x.blk ≤ 63 ∧ 1 ≤ x.why ∧ x.why ≤ 3) : (itsH M).length ≤ 18 * M.length := by
  unfold itsH
  induction M with
  | nil => simp
  | cons x M ih =>
    rw [List.map_cons, List.flatten_cons, List.length_append, List.length_cons]
    have := itH_len (h x List.mem_cons_self)
    have := ih fun y hy => h y (List.mem_cons_of_mem _ hy)
    omega
/-- Where the blocks of a path begin in the document's list. -/
def offP (s : Ws) (P : List S8) : Nat := (P.map fun p => (ofW s p).length).sum
theorem offP_take (s : Ws) (P : List S8) (k : Nat) (hk : k < P.length) : offP s (P.take (k + 1)) = offP s (P.take k) + (ofW s P[k]).length := by
  unfold offP
  rw [List.take_add_one, List.getElem?_eq_getElem hk, List.map_append, List.sum_append]
  simp
theorem flat_at15 (s : Ws) : ∀ (P : List S8) (k : Nat) (hk : k < P.length), (ofW s P[k]).length ≠ 0 → ∃ x ∈ grpH P[k] (ofW s P[k]), (P.flatMap fun p => grpH p (ofW s p))[offP s (P.take k)]? = some x
  | p :: P, 0, _, h0 => by
    show ∃ x ∈ grpH p (ofW s p), _
    have hl : 0 < (grpH p (ofW s p)).length := by rw [grpH_len]; exact Nat.pos_of_ne_zero h0
    refine ⟨_, List.getElem_mem hl, ?_⟩
    show ((p :: P).flatMap _)[0]? = _
    rw [List.flatMap_cons, List.getElem?_append_left hl, List.getElem?_eq_getElem hl]
  | p :: P, k + 1, hk, h0 => by
    obtain ⟨x, hx, e⟩ := flat_at15 s P k (by simpa using hk) h0
    refine ⟨x, hx, ?_⟩
    have e1 : offP s ((p :: P).take (k + 1)) = (grpH p (ofW s p)).length + offP s (P.take k) := by
      unfold offP
      rw [List.take_succ_cons, List.map_cons, List.sum_cons, grpH_len]
    rw [e1, List.flatMap_cons, List.getElem?_append_right (by omega), Nat.add_sub_cancel_left]
    exact e
theorem flat_len15W (s : Ws) (P : List S8) : (P.flatMap fun p => grpH p (ofW s p)).length = offP s P := by
  unfold offP
  rw [List.length_flatMap]
  congr 1
  exact List.map_congr_left fun p _ => grpH_len p _
theorem ofW_pos {s : Ws} {M : List Hr} (h : RelH s M) {p : S8} (hp : p ∈ pathsW s) : (ofW s p).length ≠ 0 := by
  obtain ⟨l, hf⟩ := pathsW_mem.1 hp
  have := h.ne _ (findW_in hf)
  unfold ofW
  rw [hf]
  intro e
  exact this (List.eq_nil_of_length_eq_zero e)
/-- The list's element where a path's blocks begin. -/
theorem RelH.start {s : Ws} {M : List Hr} (h : RelH s M) (k : Nat) (hk : k < (pathsW s).length) : offP s ((pathsW s).take k) < M.length ∧ (M.getD (offP s ((pathsW s).take k)) hr0).path = (pathsW s)[k] := by
  obtain ⟨x, hx, e⟩ := flat_at15 s (pathsW s) k hk (ofW_pos h (List.getElem_mem hk))
  have hM : M = (pathsW s).flatMap fun p => grpH p (ofW s p) := h.can
  rw [← hM] at e
  refine ⟨(List.getElem?_eq_some_iff.1 e).1, ?_⟩
  rw [List.getD_eq_getElem?_getD, e]
  exact (grpH_mem.1 hx).1
theorem RelH.fin {s : Ws} {M : List Hr} (h : RelH s M) : offP s ((pathsW s).take (pathsW s).length) = M.length := by
  rw [List.take_length, ← flat_len15W]
  rw [show M = (pathsW s).flatMap fun p => grpH p (ofW s p) from h.can]
theorem pathsW_len (s : Ws) : (pathsW s).length = s.length := by
  unfold pathsW
  rw [List.length_mergeSort, List.length_map]
theorem ws_len {s : Ws} (h : ∀ x ∈ s, x.2 ≠ []) : s.length ≤ lenW s := by
  unfold lenW
  induction s with
  | nil => simp
  | cons x s ih =>
    rw [List.map_cons, List.sum_cons, List.length_cons]
    have := ih fun y hy => h y (List.mem_cons_of_mem _ hy)
    have : 0 < x.2.length := List.length_pos_iff.2 (h x List.mem_cons_self)
    omega
theorem grpH_bd {s : Ws} {M : List Hr} (h : RelH s M) (p : S8) : ∀ x ∈ grpH p (ofW s p), kindL x.path = 3 ∧ 0 ≤ x.blk ∧ x.blk ≤ 63 ∧ 1 ≤ x.why ∧ x.why ≤ 3 := fun x hx => by
  rw [← h.grp] at hx
  exact h.bd x (List.mem_filter.1 hx).1
theorem ofW_len {s : Ws} {M : List Hr} (h : RelH s M) (p : S8) : (ofW s p).length ≤ M.length := by
  rw [← h.onlen]
  exact List.length_filter_le _ _
theorem pathsW_bd {s : Ws} {M : List Hr} (h : RelH s M) {p : S8} (hp : p ∈ pathsW s) : kindL p = 3 := by
  have h0 := ofW_pos h hp
  have hl : 0 < (grpH p (ofW s p)).length := by rw [grpH_len]; exact Nat.pos_of_ne_zero h0
  have hm := List.getElem_mem hl
  have := grpH_bd h p _ hm
  rw [(grpH_mem.1 hm).1] at this
  exact this.1
end Go.Proofs.YtllpcllgliknpaaGreatDoor
/- What the program's writer is asked to do; the document's example of layer 6. -/
set_option maxRecDepth 100000
namespace Go.Proofs.YtllpcllgliknpaaGreatDoor
open Go Go.RowKit
attribute [-go_sem] Sha.exec_store

/-- A new Writer's cells: to be held against the program's own. -/
def zW : Array Value := #[.slice none 0 0]
/-- What a writer's function leaves: the writer with more bytes; its own block g, or a new one. -/
def WrPost (Wr : Nat → World → Addr → Option Nat → List (BitVec 8) → Prop) (N : Nat) (w : World) (a : Addr) (g : Option Nat) (l : List (BitVec 8)) (w' : World) : Prop :=
  ∃ g', Wr N w' a g' l ∧ (∀ k, g' = some k → g = some k ∨ w.heap.size ≤ k) ∧ Kq a.block g w w'
theorem Sl.far {w : World} {p : Option Addr} {l : List (BitVec 8)} {y : Nat} (h : Sl w p l) (hne : ∀ c o, p = some ⟨c, o, none⟩ → c ≠ y) (v : Value) : Sl (w.setCell ⟨y, 0, none⟩ v) p l := fun j hj => by
  obtain ⟨c, o, e, hc⟩ := h j hj
  exact ⟨c, o, e, by rw [World.cell?_setCell_far _ _ _ _ (show y ≠ c from Ne.symm (hne c o e))]; exact hc⟩
theorem Sl.blk {w : World} {p : Option Addr} {l : List (BitVec 8)} (h : Sl w p l) (hl : 0 < l.length) : ∀ c o, p = some ⟨c, o, none⟩ → c < w.heap.size := fun c o e => by
  obtain ⟨c', o', e', hc⟩ := h 0 hl
  rw [e] at e'
  injection e' with e'
  injection e' with e1 e2
  subst e1
  exact World.block_lt_of_cell? w _ hc
attribute [local go_sem] mkFn
end Go.Proofs.YtllpcllgliknpaaGreatDoor
/- Bytes appended to a slice of the call's own: the block afterwards is the old one or a new one. -/
set_option maxRecDepth 100000
namespace Go.Proofs.YtllpcllgliknpaaGreatDoor
open Go Go.RowKit
attribute [-go_sem] Sha.exec_store

theorem append_ownL (w : World) (base : Nat) (ty : TypeId) (v : Value) (l : List (BitVec 8)) (hown : OwnB w base v l) (p : Option Addr) (n cap : Nat) (bs : List (BitVec 8)) (hbl : bs.length = n) (hs : Sl w p bs) (hc : p = none → cap = 0)
    (hn : l.length + n < 1000000000000) (hb : base ≤ w.heap.size) :
    ∃ v' w', (Builtin.append_ #[53, 53] ty #[v, .slice p n cap]).run Tryz.prog w = .ok v' w' ∧ OwnB w' base v' (l ++ bs) ∧ w.grownBy w' v.ownBlock ∧ (v'.ownBlock = v.ownBlock ∨ v'.ownBlock = some w.heap.size) := by
  subst hbl
  obtain ⟨i0, hi, hz0, hz1, hz2⟩ := info_parts info5
  cases p with
  | some a =>
    obtain ⟨v', w', h1, h2, h3, _, h5⟩ := run_append_own_at (P := Tryz.prog) w base 53 ty 5 i0 (.int .u8 0) 1 1 und35 hi hz0 hz1 hz2 rfl (by decide) v l.length (l.map B) hown a bs.length cap (bs.map B) (by simp) hs.news (one_map bs)
      (by simp only [maxLen]; omega) (by omega) hb
    exact ⟨v', w', h1, by unfold OwnB; rw [List.length_append, List.map_append]; exact h2, h3, h5⟩
  | none =>
    have : bs = [] := by
      cases bs with
      | nil => rfl
      | cons x r => obtain ⟨c, o, e, _⟩ := hs 0 (by simp); cases e
    subst this
    obtain rfl := hc rfl
    exact ⟨v, w, run_append_owned_none (P := Tryz.prog) w base 53 ty 5 i0 1 und35 hi v l.length (l.map B) hown, by rw [List.append_nil]; exact hown, World.grownBy.refl _ _, .inl rfl⟩
theorem wpl_appendL {ops : Array Oper} {rest : List Oper} {o : Oper} {a : Act} {Q : Exit → Act → World → Prop} (w : World) (hgd : o.guard = none) (s x : Operand)
    (ho : o.op = .call { callee := .builtin .append, args := #[s, x], argTypes := #[53, 53] })
    (base : Nat) (v : Value) (l : List (BitVec 8)) (hs : a.eval s = v) (hown : OwnB w base v l) (p : Option Addr) (n cap : Nat) (bs : List (BitVec 8)) (hbl : bs.length = n) (hx : a.eval x = .slice p n cap) (hsl : Sl w p bs) (hc : p = none → cap = 0)
    (hn : l.length + n < 1000000000000) (hb : base ≤ w.heap.size)
    (h : ∀ v' w', OwnB w' base v' (l ++ bs) → w.grownBy w' v.ownBlock → (v'.ownBlock = v.ownBlock ∨ v'.ownBlock = some w.heap.size) → wpList Tryz.prog ops Q rest (a.put o.dst v') w') : wpList Tryz.prog ops Q (o :: rest) a w := by
  refine wpList_plain hgd fun K hK => ?_
  obtain ⟨v', w', hr, h2, h3, h4⟩ := append_ownL w base o.type v l hown p n cap bs hbl hsl hc hn hb
  unfold Oper.wp execOp
  simp only [ho, resolve, invoke, builtin, Sem.run_bind, Sem.run_pure, Result.andThen_ok, List.map_toArray, List.map_cons, List.map_nil, hs, hx, hr]
  exact hK _ _ (h v' w' h2 h3 h4)
theorem step_appendL {ops : Array Oper} {o : Oper} {a : Act} {Q : Exit → Act → World → Prop} {K : Act → World → Prop} {Z : Prop} (w : World) (hgd : o.guard = none) (s x : Operand)
    (ho : o.op = .call { callee := .builtin .append, args := #[s, x], argTypes := #[53, 53] })
    (base : Nat) (v : Value) (l : List (BitVec 8)) (hs : a.eval s = v) (hown : OwnB w base v l) (p : Option Addr) (n cap : Nat) (bs : List (BitVec 8)) (hbl : bs.length = n) (hx : a.eval x = .slice p n cap) (hsl : Sl w p bs) (hc : p = none → cap = 0)
    (hn : l.length + n < 1000000000000) (hb : base ≤ w.heap.size)
    (h : ∀ v' w', OwnB w' base v' (l ++ bs) → w.grownBy w' v.ownBlock → (v'.ownBlock = v.ownBlock ∨ v'.ownBlock = some w.heap.size) → K (a.put o.dst v') w') : if Region.wanted o (yielded ops a.tmps) = true then Oper.wp Tryz.prog o a w K Q else Z := by
  have hw : Region.wanted o (yielded ops a.tmps) = true := by simp [Region.wanted, hgd]
  rw [if_pos hw]
  obtain ⟨v', w', hr, h2, h3, h4⟩ := append_ownL w base o.type v l hown p n cap bs hbl hsl hc hn hb
  unfold Oper.wp execOp
  simp only [ho, resolve, invoke, builtin, Sem.run_bind, Sem.run_pure, Result.andThen_ok, List.map_toArray, List.map_cons, List.map_nil, hs, hx, hr]
  exact h v' w' h2 h3 h4
end Go.Proofs.YtllpcllgliknpaaGreatDoor
/- bytes.Clone. -/
set_option maxRecDepth 100000
namespace Go.Proofs.YtllpcllgliknpaaGreatDoor
open Go Go.RowKit
attribute [-go_sem] Sha.exec_store

theorem nil_yes (w : World) : (binOp BinOp.eql 53 (.slice none 0 0) (.slice none 0 0)).run Tryz.prog w = .ok (.bool true) w := by kernel_rfl
theorem nil_no (a : Addr) (n cap : Nat) (w : World) : (binOp BinOp.eql 53 (.slice (some a) n cap) (.slice none 0 0)).run Tryz.prog w = .ok (.bool false) w := by kernel_rfl
attribute [local go_sem] nil_yes nil_no
set_option maxHeartbeats 1000000 in
theorem clone_any (l : List (BitVec 8)) (p : Option Addr) (n cap : Nat) (w : World) (hl : l.length = n) (hs : Sl w p l) (hp : p = none → cap = 0) (hnc : n ≤ cap) (hn : n < 2000000000) : Calls Tryz.prog 50 #[.slice p n cap] w (fun e w' => GivesB w l e w') := by
  cases p with
  | none =>
    obtain rfl := hp rfl
    obtain rfl : n = 0 := by omega
    have hl0 : l = [] := List.eq_nil_of_length_eq_zero hl
    subst hl0
    clear hs hp hnc hn hl
    go_enter Tryz.func50, Tryz.ntmps50
    go_wp2
    go_ret
    exact ⟨_, rfl, ⟨rfl, .inl ⟨rfl, rfl⟩⟩, Below.refl _ _⟩
  | some a =>
    have HSE := Lib.hid (hs.of_below (show Below w.heap.size w (w.alloc (.cells #[] 5)) from (Below.refl _ _).alloc (Nat.le_refl _) _))
    have HO := Lib.hid (OwnB.empty w w.heap.size (Nat.le_refl _))
    have HB := Lib.hid (show Below w.heap.size w (w.alloc (.cells #[] 5)) from (Below.refl _ _).alloc (Nat.le_refl _) _)
    have HL := Lib.hid hl
    have hsz : w.heap.size ≤ (w.alloc (.cells #[] 5)).heap.size := by rw [World.size_alloc]; omega
    clear hs hp hl
    go_enter Tryz.func50, Tryz.ntmps50
    go_wp2_with (first | (refine wpl_append _ rfl (.tmp 5) (.tmp 6) rfl w.heap.size (.slice (some ⟨w.heap.size, 0, none⟩) 0 0) [] rfl HO.out (some a) n cap l HL.out rfl HSE.out (fun h => by cases h) (by simp; omega) hsz ?_; rintro v3 w3 hO3 hg3; rw [List.nil_append] at hO3; have HO3 := Lib.hid hO3; have HG3 := Lib.hid hg3; clear hO3 hg3))
    go_wp2
    go_ret
    exact ⟨_, rfl, HO3.out, HB.out.grown HG3.out hsz (fun k hk => by have : w.heap.size = k := (by simpa [Value.ownBlock] using hk); omega)⟩
end Go.Proofs.YtllpcllgliknpaaGreatDoor
/- Nothing written yet. -/
namespace Go.Proofs.YtllpcllgliknpaaGreatDoor
open Go Go.RowKit
attribute [-go_sem] Sha.exec_store
theorem OwnB.nil (w : World) (base : Nat) : OwnB w base (.slice none 0 0) [] := ⟨rfl, .inl ⟨rfl, rfl⟩⟩
end Go.Proofs.YtllpcllgliknpaaGreatDoor
/- What the program's Writer is in memory; its numbers. -/
set_option maxRecDepth 100000
namespace Go.Proofs.YtllpcllgliknpaaGreatDoor
open Go Go.RowKit
attribute [-go_sem] Sha.exec_store

/-- The writer at a has the bytes l. -/
def WrP (N : Nat) (w : World) (a : Addr) (g : Option Nat) (l : List (BitVec 8)) : Prop := ∃ (b : Nat) (v : Value), a = ⟨b, 0, none⟩ ∧ N ≤ b ∧ w.cell? ⟨b, 0, none⟩ = some v ∧ w.frozen? ⟨b, 0, none⟩ = false ∧ OwnB w N v l ∧ v.ownBlock = g ∧ g ≠ some b
theorem wrP_lie (N : Nat) (w : World) (a : Addr) (g : Option Nat) (l : List (BitVec 8)) (h : WrP N w a g l) : N ≤ a.block ∧ a.block < w.heap.size ∧ ∀ k, g = some k → N ≤ k ∧ k < w.heap.size ∧ k ≠ a.block := by
  obtain ⟨b, v, rfl, h1, h2, h3, h4, h5, h6⟩ := h
  refine ⟨h1, World.block_lt_of_cell? w _ h2, fun k hk => ?_⟩
  have := h4.lt k (by rw [h5]; exact hk)
  refine ⟨this.1, this.2, fun e => h6 ?_⟩
  rw [hk, e]
theorem wrP_stay (N : Nat) (w w' : World) (a : Addr) (g : Option Nat) (l : List (BitVec 8)) (h : WrP N w a g l) (hs : w.heap.size ≤ w'.heap.size) (hb : w'.heap[a.block]? = w.heap[a.block]?) (hg : ∀ k, g = some k → w'.heap[k]? = w.heap[k]?) : WrP N w' a g l := by
  obtain ⟨b, v, rfl, h1, h2, h3, h4, h5, h6⟩ := h
  exact ⟨b, v, rfl, h1, by rw [World.cell?_of_block (w := w) hb]; exact h2, by rw [World.frozen?_of_block (w := w) hb]; exact h3, h4.keep fun k hk => hg k (by rw [← h5]; exact hk), h5, h6⟩
theorem wrP_zero (N : Nat) (w : World) (hN : N ≤ w.heap.size) : WrP N (w.alloc (.cells zW 66)) ⟨w.heap.size, 0, none⟩ none [] :=
  ⟨w.heap.size, .slice none 0 0, rfl, hN, World.cell?_alloc_new _ _ _ _, by go_simp, OwnB.nil _ _, rfl, by simp⟩
theorem Kq.refl (b : Nat) (g : Option Nat) (w : World) : Kq b g w w := ⟨rfl, rfl, rfl, Nat.le_refl _, fun _ _ _ _ => rfl⟩
theorem Kq.trans {b : Nat} {g g' : Option Nat} {x y z : World} (h : Kq b g x y) (k : Kq b g' y z) (hg : ∀ i, g' = some i → g = some i ∨ x.heap.size ≤ i) : Kq b g x z :=
  ⟨k.os.trans h.os, k.tape.trans h.tape, k.output.trans h.output, Nat.le_trans h.size k.size, fun i h1 h2 h3 => (k.block i (Nat.lt_of_lt_of_le h1 h.size) h2 (fun e => by rcases hg i e with h4 | h4; exact h3 h4; omega)).trans (h.block i h1 h2 h3)⟩
theorem Kq.ofBelow {b : Nat} {g : Option Nat} {x y : World} (k : Below x.heap.size x y) : Kq b g x y := ⟨k.os, k.tape, k.output, k.size, fun i h _ _ => k.block i h⟩
/-- More bytes: appended to the writer's own, and stored. -/
theorem wr_put {N : Nat} {w y z : World} {b : Nat} {g : Option Nat} {l' : List (BitVec 8)} {v v' : Value} (hN : N ≤ b) (hblt : b < w.heap.size) (hB : Below w.heap.size w y) (hc : w.cell? ⟨b, 0, none⟩ = some v) (hf : w.frozen? ⟨b, 0, none⟩ = false) (hv : v.ownBlock = g) (hgb : g ≠ some b)
    (hO : OwnB z N v' l') (hG : y.grownBy z v.ownBlock) (hor : v'.ownBlock = v.ownBlock ∨ v'.ownBlock = some y.heap.size) :
    (z.cell? ⟨b, 0, none⟩ = some v ∧ z.frozen? ⟨b, 0, none⟩ = false) ∧ WrPost WrP N w ⟨b, 0, none⟩ g l' (z.setCell ⟨b, 0, none⟩ v') := by
  have hzb : z.heap[b]? = w.heap[b]? := by rw [hG.block b (Nat.lt_of_lt_of_le hblt hB.size) (by rw [hv]; exact Ne.symm hgb), hB.block b hblt]
  have hz : z.cell? ⟨b, 0, none⟩ = some v := by rw [World.cell?_of_block (w := w) hzb]; exact hc
  have hzf : z.frozen? ⟨b, 0, none⟩ = false := by rw [World.frozen?_of_block (w := w) hzb]; exact hf
  have hne : v'.ownBlock ≠ some b := by
    rcases hor with e | e
    · rw [e, hv]; exact hgb
    · rw [e]; intro h; injection h with h; have := hB.size; omega
  refine ⟨⟨hz, hzf⟩, v'.ownBlock, ⟨b, v', rfl, hN, World.cell?_setCell_same _ _ _ hz, by rw [World.frozen?_setCell]; exact hzf, hO.keep fun k hk => Below.heap_setCell _ _ _ _ (fun e => hne (by rw [hk]; exact congrArg some e)), rfl, hne⟩, fun k hk => ?_, ?_⟩
  · rcases hor with e | e
    · left; rw [← hv, ← e]; exact hk
    · right; rw [e] at hk; injection hk with hk; rw [← hk]; exact hB.size
  · exact ⟨hG.os.trans hB.os, hG.tape.trans hB.tape, hG.output.trans hB.output, Nat.le_trans hB.size (by simpa using hG.size), fun k h1 h2 h3 => by
      rw [Below.heap_setCell _ _ _ _ h2, hG.block k (Nat.lt_of_lt_of_le h1 hB.size) (by rw [hv]; exact fun e => h3 e.symm), hB.block k h1]⟩
/-- Two steps, one behind the other. -/
theorem WrPost.trans {N : Nat} {w y z : World} {a : Addr} {g g' : Option Nat} {l' : List (BitVec 8)} (hg' : ∀ k, g' = some k → g = some k ∨ w.heap.size ≤ k) (hK : Kq a.block g w y) (h : WrPost WrP N y a g' l' z) : WrPost WrP N w a g l' z := by
  obtain ⟨g2, h1, h2, h3⟩ := h
  refine ⟨g2, h1, fun k hk => ?_, hK.trans h3 hg'⟩
  rcases h2 k hk with h4 | h4
  · exact hg' k h4
  · right; have := hK.size; omega
end Go.Proofs.YtllpcllgliknpaaGreatDoor
/- The program's Writer: numbers. -/
set_option maxRecDepth 100000
namespace Go.Proofs.YtllpcllgliknpaaGreatDoor
open Go Go.RowKit
attribute [-go_sem] Sha.exec_store

theorem OwnB.shape3 {w : World} {base : Nat} {v : Value} {l : List (BitVec 8)} (h : OwnB w base v l) : ∃ p n c, v = .slice p n c := by
  obtain ⟨p, c, rfl, -⟩ := h.shape
  exact ⟨_, _, _, rfl⟩
theorem or128F : ∀ t : Fin 128, bits BinOp.or IntKind.u8 ((t.val : Nat) : Int) 128 = ((128 + t.val : Nat) : Int) := by decide
theorem or128 (t : Nat) (h : t < 128) : bits BinOp.or IntKind.u8 (t : Int) 128 = ((128 + t : Nat) : Int) := or128F ⟨t, h⟩
/-- A byte that was just made. -/
theorem Sl.one (x : World) (c : Nat) (h : c < 256) : Sl (x.alloc (.cells #[.int .u8 (c : Int)] 5)) (some ⟨x.heap.size, 0, none⟩) [BitVec.ofNat 8 c] := fun j hj => by
  have : j = 0 := by simp at hj; omega
  subst this
  refine ⟨x.heap.size, 0, rfl, ?_⟩
  rw [World.cell?_alloc_new]
  show some (Value.int .u8 (c : Int)) = some (B (BitVec.ofNat 8 c))
  rw [B_eq', BitVec.toNat_ofNat, Nat.mod_eq_of_lt (by simpa using h)]
set_option maxRecDepth 100000 in
set_option maxHeartbeats 4000000 in
theorem wrP_number (N : Nat) (w : World) (a : Addr) (g : Option Nat) (l : List (BitVec 8)) (n : Nat) (h : WrP N w a g l) (hl : l.length < 1000000100) (hn : n < 9223372036854775808) : Calls Tryz.prog 27 #[.pointer (some a), .int .i64 (n : Int)] w fun e w' => e = .returned (.bool true) ∧ WrPost WrP N w a g (l ++ enc7 n) w' := by
  have HW := Lib.hid h
  have hNb := wrP_lie _ _ _ _ _ h
  obtain ⟨b, v0, rfl, -⟩ := h
  have HN := Lib.hid hNb
  clear hNb
  have hge : ¬ (n : Int) < 0 := by omega
  have hged : decide ((n : Int) < 0) = false := decide_eq_false hge
  have HE9 := Lib.hid (show (enc7 n).length ≤ 9 from enc7_len 8 n (Nat.lt_of_lt_of_le hn (by decide)))
  go_enter Tryz.func27, Tryz.ntmps27
  go_wp2
  go_loopw [1] (fun vn wr => ∃ (m : Nat) (l' : List (BitVec 8)) (g' : Option Nat), vn = .int .i64 m ∧ m < 9223372036854775808 ∧ enc7 n = l' ++ enc7 m ∧ WrP N wr ⟨b, 0, none⟩ g' (l ++ l') ∧ (∀ k, g' = some k → g = some k ∨ w.heap.size ≤ k) ∧ Kq b g w wr) (fun vn _ => (intOf vn).toNat)
  case atStart => exact ⟨n, [], g, rfl, hn, rfl, by rw [List.append_nil]; exact HW.out, fun k hk => .inl hk, Kq.refl _ _ _⟩
  case round =>
    obtain ⟨m, l', g', rfl, hm, he, hW, hg', hK⟩ := hrel
    have hlen : (l ++ l').length < 2000000000 := by
      have h9 := HE9.out
      rw [he, List.length_append] at h9
      rw [List.length_append]; omega
    obtain ⟨b2, v, hb2, k1, hc, hf, hO, hv, hgb⟩ := hW
    injection hb2 with hb2
    subst hb2
    have hblt : b < wr.heap.size := World.block_lt_of_cell? wr _ hc
    have HO := Lib.hid hO
    have HV := Lib.hid (And.intro hv hgb)
    have HE := Lib.hid he
    have HG := Lib.hid hg'
    have HK := Lib.hid hK
    have HLEN := Lib.hid hlen
    clear hO hv hgb he hg' hK hlen
    by_cases h128 : 128 ≤ m
    · have z1 : (128 : Int) ≤ (m : Int) := by omega
      have z2 : decide ((128 : Int) ≤ (m : Int)) = true := decide_eq_true z1
      obtain ⟨t, ht⟩ : ∃ t, m % 128 = t := ⟨_, rfl⟩
      obtain ⟨m2, hm2⟩ : ∃ m2, m / 128 = m2 := ⟨_, rfl⟩
      have ht1 : t < 128 := by omega
      have t1 : (m : Int) % 128 = (t : Int) := by omega
      have t2 : (m : Int).tmod 128 = (t : Int) := by rw [Int.tmod_eq_emod_of_nonneg (by omega)]; exact t1
      have t3 : IntKind.u8.wrap (t : Int) = (t : Int) := by rw [IntKind.wrap_u8']; clear t1 t2; omega
      have t4 : (m : Int) / 128 = (m2 : Int) := by clear t2; omega
      have hor := or128 t ht1
      obtain ⟨c, hcc⟩ : ∃ c, 128 + t = c := ⟨_, rfl⟩
      rw [hcc] at hor
      have hHE := HE.out
      rw [enc7_hi h128, ht, hcc, hm2] at hHE
      have HE2 := Lib.hid hHE
      have HSL := Lib.hid (Sl.one wr c (by clear t1 t2 t4; omega))
      have HB := Lib.hid (show Below wr.heap.size wr (wr.alloc (.cells #[.int .u8 (c : Int)] 5)) from (Below.refl _ _).alloc (Nat.le_refl _) _)
      have HOB := Lib.hid (HO.out.of_below HB.out)
      have HM := Lib.hid (show m2 < m from by clear t1 t2 t4; omega)
      have hNs : N ≤ (wr.alloc (.cells #[.int .u8 (c : Int)] 5)).heap.size := by rw [World.size_alloc]; clear t1 t2 t4; omega
      have hc2 : (wr.alloc (.cells #[.int .u8 (c : Int)] 5)).cell? ⟨b, 0, none⟩ = some v := by rw [HB.out.cell (by exact hblt)]; exact hc
      clear ht hm2 hHE hcc HE
      go_wp2_with (first | (refine wpl_appendL _ rfl (.tmp 13) (.tmp 18) rfl N v (l ++ l') rfl HOB.out (some ⟨wr.heap.size, 0, none⟩) 1 1 [BitVec.ofNat 8 c] rfl rfl HSL.out (fun h => by cases h) (by have := HLEN.out; clear t1 t2 t4; omega) hNs ?_; rintro v3 w3 hO3 hg3 ho3
                            obtain ⟨⟨z3, f3⟩, hP3⟩ := wr_put k1 hblt HB.out hc hf HV.out.1 HV.out.2 hO3 hg3 ho3
                            have HP3 := Lib.hid hP3
                            obtain ⟨p3, n3, c3, rfl⟩ := hO3.shape3
                            clear hO3 hg3 ho3 hP3))
      obtain ⟨g2, q1, q2, q3⟩ := HP3.out
      refine ⟨⟨m2, l' ++ [BitVec.ofNat 8 c], g2, rfl, ?_, by rw [HE2.out]; simp, by rw [← List.append_assoc]; exact q1, fun k hk => (q2 k hk).elim (HG.out k) (fun h => .inr (Nat.le_trans HK.out.size h)), HK.out.trans q3 HG.out⟩, ?_⟩
      · have := HM.out; clear t1 t2 t4; omega
      · have := HM.out; simp [intOf]; exact this
    · have z1 : ¬ (128 : Int) ≤ (m : Int) := by omega
      have z2 : decide ((128 : Int) ≤ (m : Int)) = false := decide_eq_false z1
      have t3 : IntKind.u8.wrap (m : Int) = (m : Int) := by rw [IntKind.wrap_u8']; omega
      have hHE := HE.out
      rw [enc7_lo (n := m) (by omega)] at hHE
      have HE2 := Lib.hid hHE
      have HSL := Lib.hid (Sl.one wr m (by omega))
      have HB := Lib.hid (show Below wr.heap.size wr (wr.alloc (.cells #[.int .u8 (m : Int)] 5)) from (Below.refl _ _).alloc (Nat.le_refl _) _)
      have HOB := Lib.hid (HO.out.of_below HB.out)
      have hNs : N ≤ (wr.alloc (.cells #[.int .u8 (m : Int)] 5)).heap.size := by rw [World.size_alloc]; omega
      have hc2 : (wr.alloc (.cells #[.int .u8 (m : Int)] 5)).cell? ⟨b, 0, none⟩ = some v := by rw [HB.out.cell (by exact hblt)]; exact hc
      clear hHE HE
      go_wp2_with (first | (refine wpl_appendL _ rfl (.tmp 28) (.tmp 31) rfl N v (l ++ l') rfl HOB.out (some ⟨wr.heap.size, 0, none⟩) 1 1 [BitVec.ofNat 8 m] rfl rfl HSL.out (fun h => by cases h) (by have := HLEN.out; omega) hNs ?_; rintro v3 w3 hO3 hg3 ho3
                            obtain ⟨⟨z3, f3⟩, hP3⟩ := wr_put k1 hblt HB.out hc hf HV.out.1 HV.out.2 hO3 hg3 ho3
                            have HP3 := Lib.hid (WrPost.trans HG.out HK.out hP3)
                            obtain ⟨p3, n3, c3, rfl⟩ := hO3.shape3
                            clear hO3 hg3 ho3 hP3))
      go_ret
      exact ⟨rfl, by rw [HE2.out, ← List.append_assoc]; exact HP3.out⟩
set_option maxHeartbeats 1000000 in
theorem wrP_done (N : Nat) (w : World) (a : Addr) (g : Option Nat) (l : List (BitVec 8)) (h : WrP N w a g l) (hl : l.length < 1000000000) : Calls Tryz.prog 32 #[.pointer (some a)] w fun e w' => GivesB w l e w' := by
  obtain ⟨b, v, rfl, k1, hc, hf, hO, hv, hgb⟩ := h
  obtain ⟨p, cap, rfl, hs, hp, hle⟩ := hO.shape
  have HC := Lib.hid (clone_any l p l.length cap w rfl hs hp hle (by omega))
  clear hO hv hgb hs hp hle
  generalize l.length = n at *
  go_enter Tryz.func32, Tryz.ntmps32
  go_wp2_with fail
  refine HC.out.mono ?_
  rintro e w' ⟨v, rfl, hO, hB⟩
  have HO := Lib.hid (And.intro hO hB)
  clear hO hB HC
  go_wp2
  go_ret
  exact ⟨_, rfl, HO.out.1, HO.out.2⟩
end Go.Proofs.YtllpcllgliknpaaGreatDoor
/- A load of a whole array or struct, its operand reckoned first. -/
set_option maxRecDepth 100000
namespace Go.Proofs.YtllpcllgliknpaaGreatDoor
open Go Go.RowKit
attribute [-go_sem] Sha.exec_store

/-- A load of a whole array, its operand reckoned first. -/
def ldT (t : TypeId) (p : Value) : Sem Next := do pure (.value (← Instr.loadAt t p))
end Go.Proofs.YtllpcllgliknpaaGreatDoor
/- Lists of items in memory. -/
set_option maxRecDepth 100000
namespace Go.Proofs.YtllpcllgliknpaaGreatDoor
open Go Go.RowKit
attribute [-go_sem] Sha.exec_store

/-- An item as it comes in. -/
structure Rw where
  k : Int
  n : Int
  b : List (BitVec 8)
def rw0 : Rw := ⟨0, 0, []⟩
/-- The item's bytes lie at q. -/
structure Bt (w : World) (x : Rw) (q : Option Addr) (c : Nat) : Prop where
  sl : Sl w q x.b
  nil : q = none → c = 0
  le : x.b.length ≤ c
def ItAt (w : World) (c o : Nat) (x : Rw) : Prop := ∃ q cap, w.cell? ⟨c, o, none⟩ = some (.int .i64 x.k) ∧ w.cell? ⟨c, o + 1, none⟩ = some (.int .i64 x.n) ∧ w.cell? ⟨c, o + 2, none⟩ = some (.slice q x.b.length cap) ∧ Bt w x q cap
/-- Items lie where a slice of their number begins. -/
def Its (w : World) (p : Option Addr) (xs : List Rw) : Prop := ∀ i, i < xs.length → ∃ c o, p = some ⟨c, o, none⟩ ∧ c < w.heap.size ∧ ItAt w c (o + i * 3) (xs.getD i rw0)
section
variable {w w' : World} {p q : Option Addr} {xs : List Rw} {x : Rw} {c o : Nat}
theorem Bt.of_below (h : Bt w x q c) (k : Below w.heap.size w w') : Bt w' x q c := ⟨h.sl.of_below k, h.nil, h.le⟩
theorem ItAt.of_below (h : ItAt w c o x) (hc : c < w.heap.size) (k : Below w.heap.size w w') : ItAt w' c o x := by
  obtain ⟨q, cap, h1, h2, h3, h4⟩ := h
  exact ⟨q, cap, by rw [k.cell (by exact hc)]; exact h1, by rw [k.cell (by exact hc)]; exact h2, by rw [k.cell (by exact hc)]; exact h3, h4.of_below k⟩
theorem Its.of_below (h : Its w p xs) (k : Below w.heap.size w w') : Its w' p xs := fun i hi => by
  obtain ⟨c, o, e, hc, ha⟩ := h i hi
  exact ⟨c, o, e, Nat.lt_of_lt_of_le hc k.size, ha.of_below hc k⟩
theorem Its.nil (w : World) (p : Option Addr) : Its w p [] := fun i hi => absurd hi (by simp)
theorem Its.take (h : Its w p xs) (k : Nat) : Its w p (xs.take k) := fun i hi => by
  have hi' : i < k ∧ i < xs.length := by simp [List.length_take] at hi; omega
  obtain ⟨c, o, e, hc, ha⟩ := h i hi'.2
  exact ⟨c, o, e, hc, by simpa [List.getD_eq_getElem?_getD, hi'.1] using ha⟩
end
section
variable {w w' : World} {base : Nat} {v : Value} {xs : List Rw}
end
end Go.Proofs.YtllpcllgliknpaaGreatDoor
/- copy of bytes into a row of the call's own. -/
set_option maxRecDepth 100000
namespace Go.Proofs.YtllpcllgliknpaaGreatDoor
open Go Go.RowKit
attribute [-go_sem] Sha.exec_store

end Go.Proofs.YtllpcllgliknpaaGreatDoor
/- Arrays of 32 bytes: filled by copy, cut whole, read by value. -/
set_option maxRecDepth 100000
namespace Go.Proofs.YtllpcllgliknpaaGreatDoor
open Go Go.RowKit
attribute [-go_sem] Sha.exec_store

theorem sl_arr (E : Nat) (w : World) : (slT 72 (.pointer (some ⟨E, 0, none⟩)) none none none).run Tryz.prog w = .ok (.value (.slice (some ⟨E, 0, none⟩) 32 32)) w := by
  first
  | kernel_rfl
  | (unfold slT; simp [go_sem, Instr.sliceAt])
theorem info32 : (Tryz.prog.info? 72).map (fun i => (i.zero, i.size)) = some (some (.agg (Array.replicate 32 (Value.int .u8 0))), 32) := by kernel_rfl
theorem size32 : (Tryz.prog.info? 72).map (·.size) = some 32 := by kernel_rfl
section
variable (r : Operand → Value) (dst : Option Tmp) (ty : TypeId) (pos : String) (after : Array Edge) (guard : Option (Nat × Bool))
theorem exec_alloc32 (w : World) :
    (execOp r ⟨dst, .alloc 72, ty, pos, after, guard⟩).run Tryz.prog w = .ok (.value (.pointer (some ⟨w.heap.size, 0, none⟩))) (w.alloc (.cells (zb 32) 72)) := by
  have h := (zero_of_info info32).1 w
  rw [← zb_eq] at h
  simp [execOp, Instr.alloc, h, newVar, newRow, Value.cells]
theorem exec_load32 (p : Operand) : execOp r ⟨dst, .load 72 p, ty, pos, after, guard⟩ = ldT 72 (r p) := rfl
end
theorem run_storeAt_new' {P : Program} (w : World) (t e : TypeId) (c c' : Array Value) (hi : (P.info? t).map (·.size) = some c'.size) (ho : c.size = c'.size) (h1 : c'.all (·.oneCell') = true) :
    (Instr.storeAt t (.pointer (some ⟨w.heap.size, 0, none⟩)) (.agg c')).run P (w.alloc (.cells c e)) = .ok () (w.alloc (.cells c' e)) := by
  simp only [Instr.storeAt, Instr.sureAddr, Sem.run_bind, Sem.run_pure, Result.andThen]
  rw [run_storeVar_row _ _ e t c c' (heap_alloc_last w _) hi ho h1, World.setRow_alloc_new]
theorem st_dig (w : World) (N : Nat) (l : List (BitVec 8)) (hN : N = w.heap.size) : (stT 72 (.pointer (some ⟨N, 0, none⟩)) (digV l)).run Tryz.prog (w.alloc (.cells (zb 32) 72)) = .ok .skip (w.alloc (.cells (tab 32 (dgF l)) 72)) := by
  subst hN
  have h := run_storeAt_new' (P := Tryz.prog) w 72 72 (zb 32) (tab 32 (dgF l)) (by rw [size32, tab_size]) (by rw [zb, tab_size, tab_size]) (by simp [tab, dgF, one_B])
  unfold digV
  simp only [stT, Sem.run_bind, h, Result.andThen, Sem.run_pure]
end Go.Proofs.YtllpcllgliknpaaGreatDoor
/- Bytes that a call made and that may be written; a string as bytes. -/
set_option maxRecDepth 100000
namespace Go.Proofs.YtllpcllgliknpaaGreatDoor
open Go Go.RowKit
attribute [-go_sem] Sha.exec_store

/-- The bytes b lie at q, in a block from base on, and may be written. -/
structure Fresh (w : World) (base : Nat) (q : Option Addr) (c : Nat) (b : List (BitVec 8)) : Prop where
  sl : Sl w q b
  nil : q = none → c = 0
  le : b.length ≤ c
  new : 0 < b.length → ∀ d o, q = some ⟨d, o, none⟩ → base ≤ d ∧ d < w.heap.size
  free : ∀ j, j < b.length → ∀ d o, q = some ⟨d, o, none⟩ → w.frozen? ⟨d, o + j, none⟩ = false
section
variable {w w' : World} {base : Nat} {q : Option Addr} {c : Nat} {b : List (BitVec 8)}
theorem Fresh.keep (h : Fresh w base q c b) (hs : w.heap.size ≤ w'.heap.size) (k : ∀ d, base ≤ d → d < w.heap.size → w'.heap[d]? = w.heap[d]?) : Fresh w' base q c b := by
  have hk : ∀ d o, 0 < b.length → q = some ⟨d, o, none⟩ → w'.heap[d]? = w.heap[d]? := fun d o hb e => k d (h.new hb d o e).1 (h.new hb d o e).2
  refine ⟨fun j hj => ?_, h.nil, h.le, fun hb d o e => ⟨(h.new hb d o e).1, Nat.lt_of_lt_of_le (h.new hb d o e).2 hs⟩, fun j hj d o e => ?_⟩
  · obtain ⟨d, o, e, hx⟩ := h.sl j hj
    exact ⟨d, o, e, by rw [World.cell?_of_block (w := w) (hk d o (by omega) e)]; exact hx⟩
  · rw [World.frozen?_of_block (w := w) (hk d o (by omega) e)]
    exact h.free j hj d o e
theorem Fresh.lower (h : Fresh w base q c b) {b2 : Nat} (hb : b2 ≤ base) : Fresh w b2 q c b :=
  ⟨h.sl, h.nil, h.le, fun hl d o e => ⟨Nat.le_trans hb (h.new hl d o e).1, (h.new hl d o e).2⟩, h.free⟩
theorem Fresh.of_below (h : Fresh w base q c b) (k : Below w.heap.size w w') : Fresh w' base q c b := h.keep k.size fun d _ hd => k.block d hd
theorem Fresh.far (h : Fresh w base q c b) {y : Nat} (hy : y < base) (o : Nat) (v : Value) : Fresh (w.setCell ⟨y, o, none⟩ v) base q c b :=
  h.keep (by simp) fun d hd _ => Below.heap_setCell _ _ _ _ (by show d ≠ y; omega)
theorem OwnB.fresh {v : Value} (h : OwnB w base v b) : ∃ q c, v = .slice q b.length c ∧ Fresh w base q c b := by
  obtain ⟨q, c, rfl, hs, hp, hc⟩ := h.shape
  refine ⟨q, c, rfl, hs, hp, hc, fun _ d o e => h.lt d (by rw [e]; rfl), fun j hj d o e => ?_⟩
  rcases h.2 with ⟨hv, hl⟩ | ⟨g, cap, cur, hv, _, hg, _⟩
  · injection hv with e1 e2 e3
    rw [e1] at e; cases e
  · injection hv with e1 e2 e3
    rw [e1] at e
    injection e with e
    injection e with e4 e5
    subst e4
    simp only [World.frozen?, hg]
    simp
theorem Row.fresh {E : Nat} {T : TypeId} (h : Row w E T 32 (dgF b)) (hb : base ≤ E) (hl : b.length = 32) : Fresh w base (some ⟨E, 0, none⟩) 32 b :=
  ⟨Sl.row h (by omega) fun j hj => rfl, (fun e => by cases e), by omega, fun _ d o e => by injection e with e; injection e with e1 e2; subst e1; exact ⟨hb, h.lt⟩, fun j hj d o e => by injection e with e; injection e with e1 e2; subst e1; exact h.free _⟩
end
theorem strOf_size (b : List (BitVec 8)) : (strOf b).size = b.length := by simp [strOf, ByteArray.size]
theorem conv_bytes (w : World) (b : List (BitVec 8)) : ∃ c w', (convert 9 53 (.string (strOf b))).run Tryz.prog w = .ok (.slice (some ⟨w.heap.size, 0, none⟩) b.length c) w' ∧ Fresh w' w.heap.size (some ⟨w.heap.size, 0, none⟩) c b ∧ Below w.heap.size w w' := by
  have h := Go.Lib.run_convert_string_bytes (P := Tryz.prog) w 9 53 5 (strOf b) (u := .string) (by kernel_rfl) und35 (by kernel_rfl)
  rw [strOf_size] at h
  have hsz := Go.Lib.bytesWorld_size w 5 (strOf b)
  have hge := grownCap_ge w b.length 0 5
  refine ⟨_, _, h, ⟨fun j hj => ⟨w.heap.size, 0, rfl, ?_⟩, (fun e => by cases e), hge, fun _ d o e => ?_, fun j hj d o e => ?_⟩, ?_⟩
  · rw [Nat.zero_add, Go.Lib.bytesWorld_cell w 5 (strOf b) j (by rw [strOf_size]; exact hj), B_eq']
    congr 2
    simp [strOf, List.getD_eq_getElem?_getD, hj]
  · injection e with e
    injection e with e1 e2
    omega
  · injection e with e
    injection e with e1 e2
    subst e1 e2
    have hg := Go.Lib.bytesWorld_at_new w 5 (strOf b)
    simp only [World.frozen?, hg]
    have hcs : (Go.Lib.bytesCells w 5 (strOf b)).size = b.length + (grownCap w b.length 0 5 - b.length) := by
      simp [Go.Lib.bytesCells, strOf, ByteArray.size]
    simp [hcs]
    omega
  · exact ⟨rfl, rfl, rfl, by omega, fun k hk => Go.Lib.bytesWorld_at_old w 5 (strOf b) k hk⟩
end Go.Proofs.YtllpcllgliknpaaGreatDoor
/- The program's Writer: bytes, texts, digests. -/
set_option maxRecDepth 100000
namespace Go.Proofs.YtllpcllgliknpaaGreatDoor
open Go Go.RowKit
attribute [-go_sem] Sha.exec_store

theorem strOf_cells (l : List (BitVec 8)) : Lib.strCells (strOf l) = l.map B := by
  show ((l.map UInt8.ofBitVec).toArray.toList.map fun b => Value.int .u8 b.toNat) = _
  simp only [List.map_map]
  apply List.map_congr_left
  intro x _
  show Value.int .u8 ((UInt8.ofBitVec x).toNat : Int) = B x
  rw [B_eq']
  rfl
/-- A text appended to a slice of the call's own: the block afterwards is the old one or a new one. -/
theorem append_strL (w : World) (base : Nat) (ty : TypeId) (v : Value) (l : List (BitVec 8)) (hown : OwnB w base v l) (bs : List (BitVec 8)) (hn : l.length + bs.length < 1000000000000) (hb : base ≤ w.heap.size) :
    ∃ v' w', (Builtin.append_ #[53, 9] ty #[v, .string (strOf bs)]).run Tryz.prog w = .ok v' w' ∧ OwnB w' base v' (l ++ bs) ∧ w.grownBy w' v.ownBlock ∧ (v'.ownBlock = v.ownBlock ∨ v'.ownBlock = some w.heap.size) := by
  obtain ⟨i0, hi, hz0, hz1, hz2⟩ := info_parts info5
  have hst : Tryz.prog.underlying 9 = some .string := by kernel_rfl
  have hsz := strOf_size bs
  obtain ⟨v', w', h1, h2, h3, h4⟩ := Lib.run_append_own_string (P := Tryz.prog) w base 53 9 ty 5 i0 und35 hst hi hz0 hz1 hz2 v l.length (l.map B) hown (strOf bs) (by rw [hsz]; simp only [maxLen]; omega) (by rw [hsz]; omega) hb
  refine ⟨v', w', h1, by unfold OwnB; rw [List.length_append, List.map_append, ← strOf_cells bs, ← hsz]; exact h2, h3, ?_⟩
  rcases hown.2 with ⟨rfl, hl0⟩ | ⟨g, cap, cur, rfl, hbg, hg, hnc, hcm, hcs, htake⟩
  · by_cases h0 : (strOf bs).size = 0
    · left; rw [h4.2 ⟨rfl, h0⟩]
    · right
      have hr := run_append_nil_string (P := Tryz.prog) w 53 9 ty 5 i0 (.int .u8 0) und35 hst hi hz0 (strOf bs) (by omega) (by rw [hsz]; omega) (by rw [hz2, hsz]; omega)
      rw [hr] at h1
      injection h1 with h1 _
      rw [← h1]; rfl
  · by_cases hroom : l.length + (strOf bs).size ≤ cap
    · left
      have hr := Lib.run_append_room_string (P := Tryz.prog) w 53 9 ty 5 i0 und35 hst hi hz1 g l.length cap cur hg (strOf bs) hroom (by rw [hcs, Nat.mul_one]; exact hroom)
      rw [hr] at h1
      injection h1 with h1 _
      rw [← h1]; rfl
    · right
      have holds : ∀ j u, (l.map B)[j]? = some u → w.cell? ((⟨g, 0, none⟩ : Addr).add j) = some u := World.ownsRow.cells (g := g) hown rfl
      have hr := Lib.run_append_grow_string (P := Tryz.prog) w 53 9 ty 5 i0 (.int .u8 0) und35 hst hi hz0 ⟨g, 0, none⟩ l.length cap (l.map B) (by rw [hz1]; simp) holds (strOf bs) (by omega) (by rw [hsz]; omega) (by rw [hz2]; exact growslice_fits (by omega) (by rw [hsz]; omega))
      rw [hr] at h1
      injection h1 with h1 _
      rw [← h1]; rfl
theorem wpl_appendS {ops : Array Oper} {rest : List Oper} {o : Oper} {a : Act} {Q : Exit → Act → World → Prop} (w : World) (hgd : o.guard = none) (s x : Operand)
    (ho : o.op = .call { callee := .builtin .append, args := #[s, x], argTypes := #[53, 9] })
    (base : Nat) (v : Value) (l : List (BitVec 8)) (hs : a.eval s = v) (hown : OwnB w base v l) (bs : List (BitVec 8)) (S : ByteArray) (hS : strOf bs = S) (hx : a.eval x = .string S)
    (hn : l.length + bs.length < 1000000000000) (hb : base ≤ w.heap.size)
    (h : ∀ v' w', OwnB w' base v' (l ++ bs) → w.grownBy w' v.ownBlock → (v'.ownBlock = v.ownBlock ∨ v'.ownBlock = some w.heap.size) → wpList Tryz.prog ops Q rest (a.put o.dst v') w') : wpList Tryz.prog ops Q (o :: rest) a w := by
  subst hS
  refine wpList_plain hgd fun K hK => ?_
  obtain ⟨v', w', hr, h2, h3, h4⟩ := append_strL w base o.type v l hown bs hn hb
  unfold Oper.wp execOp
  simp only [ho, resolve, invoke, builtin, Sem.run_bind, Sem.run_pure, Result.andThen_ok, List.map_toArray, List.map_cons, List.map_nil, hs, hx, hr]
  exact hK _ _ (h v' w' h2 h3 h4)
set_option maxHeartbeats 1000000 in
theorem wrP_text (N : Nat) (w : World) (a : Addr) (g : Option Nat) (l : List (BitVec 8)) (bs : List (BitVec 8)) (h : WrP N w a g l) (hl : l.length < 1000000000) (hn : bs.length < 1000000) :
    Calls Tryz.prog 28 #[.pointer (some a), .string (strOf bs)] w fun e w' => e = .returned (.tuple #[]) ∧ WrPost WrP N w a g (l ++ (enc7 bs.length ++ bs)) w' := by
  obtain ⟨S, hS⟩ : ∃ S, strOf bs = S := ⟨_, rfl⟩
  have hsz : bs.length = S.size := by rw [← hS, strOf_size]
  have HS := Lib.hid hS
  rw [hS, hsz]
  rw [hsz] at hn
  have hL := wrP_lie _ _ _ _ _ h
  have HN := Lib.hid (wrP_number N w a g l S.size h (by omega) (by omega))
  have HX := Lib.hid (And.intro hL (And.intro hsz hl))
  have HE9 := Lib.hid (show (enc7 S.size).length ≤ 9 from enc7_len 8 _ (by rw [show (128 : Nat) ^ 9 = 9223372036854775808 by decide]; omega))
  clear h hL hl hS hsz
  go_enter Tryz.func28, Tryz.ntmps28
  go_wp2_with fail
  refine HN.out.mono ?_
  rintro e w1 ⟨rfl, g1, ⟨b, v, rfl, k1, hc, hf, hO, hv, hgb⟩, hg1, hK1⟩
  obtain ⟨hL, hsz, hl⟩ := HX.out
  have hblt : b < w1.heap.size := World.block_lt_of_cell? w1 _ hc
  have HO := Lib.hid hO
  have HV := Lib.hid (And.intro hv hgb)
  have HG := Lib.hid hg1
  have HK := Lib.hid hK1
  have hNs : N ≤ w1.heap.size := by omega
  have hlen : (l ++ enc7 S.size).length + bs.length < 1000000000000 := by have := HE9.out; rw [List.length_append]; omega
  have HLEN := Lib.hid hlen
  clear hL hsz hl hO hv hgb hg1 hK1 hlen HN
  go_wp2_with (first | (refine wpl_appendS _ rfl (.tmp 12) (.tmp 13) rfl N v (l ++ enc7 S.size) rfl HO.out bs S HS.out rfl HLEN.out hNs ?_; rintro v3 w3 hO3 hg3 ho3
                        obtain ⟨⟨z3, f3⟩, hP3⟩ := wr_put k1 hblt (Below.refl _ _) hc hf HV.out.1 HV.out.2 hO3 hg3 ho3
                        have HP3 := Lib.hid (WrPost.trans HG.out HK.out hP3)
                        obtain ⟨p3, n3, c3, rfl⟩ := hO3.shape3
                        clear hO3 hg3 ho3 hP3))
  go_end0
  exact ⟨rfl, by rw [← List.append_assoc]; exact HP3.out⟩
theorem exec_box32 (r : Operand → Value) (dst : Option Tmp) (x : Operand) (ty : TypeId) (pos : String) (after : Array Edge) (guard : Option (Nat × Bool)) :
    execOp r ⟨dst, .box 72 x, ty, pos, after, guard⟩ = bxT 72 (r x) := rfl
theorem bx_dig (w : World) (l : List (BitVec 8)) : (bxT 72 (digV l)).run Tryz.prog w = .ok (.value (.pointer (some ⟨w.heap.size, 0, none⟩))) (w.alloc (.cells (tab 32 (dgF l)) 72)) := by
  have hs := size32
  cases hq : Tryz.prog.info? 72 with
  | none => rw [hq] at hs; cases hs
  | some i =>
    rw [hq] at hs
    simp at hs
    unfold digV
    simp [bxT, Instr.box, newVar, newRow, Value.cells]
theorem dgF_sl {w : World} {E : Nat} {T : TypeId} {l : List (BitVec 8)} (h : Row w E T 32 (dgF l)) (hl : l.length = 32) : Sl w (some ⟨E, 0, none⟩) l :=
  Sl.row h (by omega) fun j hj => rfl
attribute [local go_sem] sl_arr bx_dig
attribute [local go_sem ↓] exec_slice exec_box32
set_option maxHeartbeats 1000000 in
theorem wrP_digest (N : Nat) (w : World) (a : Addr) (g : Option Nat) (l : List (BitVec 8)) (bs : List (BitVec 8)) (h : WrP N w a g l) (hl : l.length < 1000000000) (hn : bs.length = 32) :
    Calls Tryz.prog 30 #[.pointer (some a), digV bs] w fun e w' => e = .returned (.tuple #[]) ∧ WrPost WrP N w a g (l ++ bs) w' := by
  obtain ⟨b, v, rfl, k1, hc, hf, hO, hv, hgb⟩ := h
  have hblt : b < w.heap.size := World.block_lt_of_cell? w _ hc
  have hB : Below w.heap.size w (w.alloc (.cells (tab 32 (dgF bs)) 72)).drew := ((Below.refl _ _).alloc (Nat.le_refl _) _).drew
  have HB := Lib.hid hB
  have HO := Lib.hid (hO.of_below hB)
  have HSL := Lib.hid (dgF_sl (Row.new w 72 32 (dgF bs)).drew hn)
  have HV := Lib.hid (And.intro hv hgb)
  have hNs : N ≤ (w.alloc (.cells (tab 32 (dgF bs)) 72)).drew.heap.size := by have := hB.size; omega
  have hc1 : (w.alloc (.cells (tab 32 (dgF bs)) 72)).drew.cell? ⟨b, 0, none⟩ = some v := by rw [hB.cell (by exact hblt)]; exact hc
  have HC := Lib.hid (And.intro hc hf)
  have HNS := Lib.hid hNs
  have HL := Lib.hid (And.intro hl hn)
  clear hB hO hv hgb hc hf hNs hl hn
  obtain ⟨p0, n0, c0, rfl⟩ := HO.out.shape3
  go_enter Tryz.func30, Tryz.ntmps30
  go_wp2
  go_region_law (first
    | (refine step_appendL _ rfl (.tmp 8) (.tmp 9) rfl N (.slice p0 n0 c0) l rfl HO.out (some ⟨w.heap.size, 0, none⟩) 32 32 bs HL.out.2 rfl HSL.out (fun h => by cases h) (by have := HL.out.1; omega) HNS.out ?_; rintro v3 w3 hO3 hg3 ho3
       obtain ⟨⟨z3, f3⟩, hP3⟩ := wr_put k1 hblt HB.out HC.out.1 HC.out.2 HV.out.1 HV.out.2 hO3 hg3 ho3
       have HP3 := Lib.hid hP3
       obtain ⟨p3, n3, c3, rfl⟩ := hO3.shape3
       clear hO3 hg3 ho3 hP3))
  all_goals
    go_wp2
    go_end0
    exact ⟨rfl, HP3.out⟩
end Go.Proofs.YtllpcllgliknpaaGreatDoor
/- reasons.put of the ward. -/
set_option maxRecDepth 100000
namespace Go.Proofs.YtllpcllgliknpaaGreatDoor
open Go Go.RowKit Go.MapKept

attribute [-go_sem] Sha.exec_store
/-- What lies from lo to hi is left alone. -/
def FrW (W u : World) (lo hi : Nat) : Prop := hi ≤ u.heap.size ∧ ∀ g, lo ≤ g → g < hi → u.heap[g]? = W.heap[g]?
/-- The writer at block N, while what lies from NR to hi is left alone. -/
def WrJ (w : World) (N NR hi : Nat) (g : Option Nat) (L : By) (u : World) : Prop :=
  (N < NR ∧ NR ≤ hi ∧ hi ≤ u.heap.size) ∧ ∃ g', WrP N u ⟨N, 0, none⟩ g' L ∧ (∀ k, g' = some k → g = some k ∨ w.heap.size ≤ k) ∧ (∀ k, g' = some k → k < NR ∨ hi ≤ k) ∧ Kq N g w u
theorem WrJ.post {w u : World} {N NR hi : Nat} {g : Option Nat} {L : By} (h : WrJ w N NR hi g L u) : WrPost WrP N w ⟨N, 0, none⟩ g L u := by
  obtain ⟨-, g', h1, h2, -, h3⟩ := h
  exact ⟨g', h1, h2, h3⟩
/-- A step of the writer. -/
theorem WrJ.step {w W u u' : World} {N NR hi : Nat} {g g' : Option Nat} {L' : By} (hN : N < NR ∧ NR ≤ hi ∧ hi ≤ u.heap.size) (hF : FrW W u NR hi) (h2 : ∀ k, g' = some k → g = some k ∨ w.heap.size ≤ k) (h3 : ∀ k, g' = some k → k < NR ∨ hi ≤ k) (h4 : Kq N g w u) (h : WrPost WrP N u ⟨N, 0, none⟩ g' L' u') :
    WrJ w N NR hi g L' u' ∧ FrW W u' NR hi := by
  obtain ⟨g'', k1, k2, k3⟩ := h
  have h5 : Kq N g w u' := h4.trans k3 h2
  refine ⟨⟨⟨hN.1, hN.2.1, Nat.le_trans hN.2.2 k3.size⟩, g'', k1, fun k hk => ?_, fun k hk => ?_, h5⟩, Nat.le_trans hN.2.2 k3.size, fun k e1 e2 => (k3.block k (by omega) (by show k ≠ N; omega) (fun e => by have := h3 k e; omega)).trans (hF.2 k e1 e2)⟩
  · rcases k2 k hk with h | h
    · exact h2 k h
    · exact .inr (Nat.le_trans h4.size h)
  · rcases k2 k hk with h | h
    · exact h3 k h
    · exact .inr (Nat.le_trans hN.2.2 h)
theorem WrJ.start {w u u' : World} {N : Nat} {g : Option Nat} {L : By} (hN : N < u.heap.size) (h : WrPost WrP N w ⟨N, 0, none⟩ g L u) (hB : Below u.heap.size u u') : WrJ w N u.heap.size u'.heap.size g L u' ∧ FrW u' u' u.heap.size u'.heap.size := by
  obtain ⟨g', h1, h2, h3⟩ := h
  have hlie := wrP_lie _ _ _ _ _ h1
  have h5 : Kq N g w u' := h3.trans (Kq.ofBelow (b := N) (g := g') hB) h2
  exact ⟨⟨⟨hN, hB.size, Nat.le_refl _⟩, g', wrP_stay _ _ _ _ _ _ h1 hB.size (hB.block _ hlie.2.1) (fun k hk => hB.block k (hlie.2.2 k hk).2.1), h2, fun k hk => .inl (hlie.2.2 k hk).2.1, h5⟩, Nat.le_refl _, fun _ _ _ => rfl⟩
theorem own_fr {W u : World} {lo hi base n k : Nat} {E : TypeId} {v : Value} {cs : List Value} (h : W.ownsRow base E k v n cs) (hb : lo ≤ base) (hh : W.heap.size ≤ hi) (hF : FrW W u lo hi) : u.ownsRow base E k v n cs :=
  own_keep h fun g hg => hF.2 g (by have := (h.lt g hg).1; omega) (by have := (h.lt g hg).2; omega)
set_option maxRecDepth 100000 in
set_option maxHeartbeats 4000000 in
theorem put15_any {N : Nat} {w : World} {g : Option Nat} {l : By} {h : Hs} {gm : Nat} (p : S8) (hW : WrP N w ⟨N, 0, none⟩ g l) (hm : MiB w gm (hsV h)) (hgN : gm < N) (hbd : ∀ x ∈ grpH p h, 0 ≤ x.blk ∧ x.blk ≤ 63 ∧ 1 ≤ x.why ∧ x.why ≤ 3) (hl : l.length < 100000000) (hn : h.length ≤ 1000) :
    Calls Tryz.prog 29 #[.map (some gm), .pointer (some ⟨N, 0, none⟩)] w fun e w' => e = .returned (.tuple #[]) ∧ WrPost WrP N w ⟨N, 0, none⟩ g (l ++ grpB (grpH p h)) w' := by
  have hlie := wrP_lie _ _ _ _ _ hW
  have hln := fun ty => run_lenI15 (P := Tryz.prog) (ty := ty) rsT hm
  rw [hsV_len] at hln
  obtain ⟨n, hnn⟩ : ∃ n, h.length = n := ⟨_, rfl⟩
  rw [hnn] at hln hn
  have hML : (grpH p h).length = n := by rw [grpH_len, hnn]
  have HNM := Lib.hid (wrP_number N w ⟨N, 0, none⟩ g l n hW (by omega) (by omega))
  have HG := Lib.hid (fun k hk => (hlie.2.2 k hk))
  have HKB := Lib.hid (fun u (hu : Kq N g w u) => hm.keep (w' := u) (hu.block gm (by have := hlie.1; have := hlie.2.1; dsimp only at *; omega) (by omega) (fun e => by have := (hlie.2.2 gm e).1; omega)))
  have HKY := Lib.hid (fun x (hx : x ∈ h) => (show 0 ≤ x.1 ∧ x.1 < 9223372036854775808 from by
    cases hw : whyW h x.1 with
    | none => exact absurd rfl (whyW_none hw x hx)
    | some r =>
      have := hbd ⟨p, x.1, r⟩ (grpH_mem.2 ⟨rfl, hw⟩)
      dsimp only at this
      omega))
  have HBD := Lib.hid hbd
  have HN := Lib.hid (And.intro hn (And.intro hnn (And.intro hML (And.intro hl (And.intro hgN hlie.2.1)))))
  have HLN := Lib.hid (show (enc7 n).length ≤ 9 from enc7_9W (by omega))
  clear hW hm hbd hl hn hnn hML hlie hgN
  go_enter Tryz.func29, Tryz.ntmps29
  go_wp2_with fail
  refine HNM.out.mono ?_
  rintro e w1 ⟨rfl, hP⟩
  have HP := Lib.hid hP
  have hm1 := HKB.out w1 (by obtain ⟨g', -, -, h3⟩ := hP; exact h3)
  have HKS := Lib.hid (callsIn_wide.1 (keysI15 (some gm) w1))
  have HST := Lib.hid (sortedH15 hm1 HKY.out (by rw [HN.out.2.1]; have := HN.out.1; omega))
  clear hP hm1 hln HNM
  go_wp2_with fail
  refine HKS.out.mono ?_
  rintro e w2 ⟨rfl, rfl⟩
  go_wp2_with fail
  refine HST.out.mono ?_
  rintro e w3 ⟨v, rfl, hrow, hB⟩
  rw [HN.out.2.1] at hrow
  obtain ⟨hJ, hF⟩ := WrJ.start (by obtain ⟨g', h1, -⟩ := HP.out; exact (wrP_lie _ _ _ _ _ h1).2.1) HP.out hB
  obtain ⟨pv, cv, rfl, -⟩ := own_shape hrow
  have HROW := Lib.hid hrow
  have HJ := Lib.hid (And.intro hJ hF)
  clear hrow hB hJ hF HKS HST
  go_wp2
  go_loopw [14] (fun v14 wr => ∃ j : Nat, j ≤ n ∧ v14 = .int .i64 (j : Int) ∧ WrJ w N w1.heap.size w3.heap.size g ((l ++ enc7 n) ++ itsH ((grpH p h).take j)) wr ∧ FrW w3 wr w1.heap.size w3.heap.size) (fun v14 _ => n - (intOf v14).toNat)
  case atStart =>
    refine ⟨0, Nat.zero_le _, rfl, ?_, HJ.out.2⟩
    have := HJ.out.1
    simpa [itsH] using this
  case round =>
    obtain ⟨j, hj, rfl, hJ, hF⟩ := hrel
    have HR := Lib.hid (And.intro hJ hF)
    clear hJ hF HJ
    by_cases hlt : j < n
    · have y1 : (j : Int) < (n : Int) := by omega
      have y2 : decide ((j : Int) < (n : Int)) = true := decide_eq_true y1
      have y3 : (0 : Int) ≤ (j : Int) := by omega
      have hw6 : IntKind.i64.wrap ((j : Int) + 1) = (j : Int) + 1 := by rw [IntKind.wrap_i64]; have := HN.out.1; omega
      obtain ⟨x, hx⟩ : ∃ x, (grpH p h).getD j hr0 = x := ⟨_, rfl⟩
      have hxm : x ∈ grpH p h := by rw [← hx]; exact getD_mem15 (by rw [HN.out.2.2.1]; exact hlt)
      have hxb := HBD.out x hxm
      obtain ⟨kb, hkb⟩ : ∃ k : Nat, x.blk = (k : Int) := ⟨x.blk.toNat, by omega⟩
      obtain ⟨kr, hkr⟩ : ∃ k : Nat, x.why = (k : Int) := ⟨x.why.toNat, by omega⟩
      have hwy : whyW h (kb : Int) = some (kr : Int) := by rw [← hkb, ← hkr]; exact (grpH_mem.1 hxm).2
      have hit := itsH_take (grpH p h) j (by rw [HN.out.2.2.1]; exact hlt)
      rw [hx] at hit
      have hitx : itH x = enc7 kb ++ enc7 kr := by unfold itH; rw [hkb, hkr]; rfl
      have hrow := own_fr HROW.out (Nat.le_refl _) (Nat.le_refl _) HR.out.2
      obtain ⟨pv2, cv2, epv, hls, -⟩ := own_shape hrow
      injection epv with e1 e2 e3
      subst e1 e3
      have hcj : ((keysH h).map encZ)[j]? = some (.int .i64 (kb : Int)) := by
        have h1 : (grpH p h)[j]? = some x := by rw [← hx, List.getD_eq_getElem?_getD, List.getElem?_eq_getElem (by rw [HN.out.2.2.1]; exact hlt)]; rfl
        unfold grpH at h1
        rw [List.getElem?_map] at h1
        rw [List.getElem?_map]
        cases hk : (keysH h)[j]? with
        | none => rw [hk] at h1; cases h1
        | some k =>
          rw [hk] at h1
          injection h1 with h1
          rw [← h1] at hkb
          dsimp only at hkb
          show some (encZ k) = _
          rw [hkb]
      obtain ⟨c, o, rfl, -, x0⟩ := hls.cell hcj
      have HX := Lib.hid (And.intro hit hitx)
      have HXL := Lib.hid (show (itH x).length ≤ 18 from itH_len hxb)
      have HTL := Lib.hid (show (itsH ((grpH p h).take j)).length ≤ 18000 from by
        have h1 := itsH_len (M := (grpH p h).take j) (fun y hy => HBD.out y (List.mem_of_mem_take hy))
        have h2 : ((grpH p h).take j).length ≤ j := by rw [List.length_take]; omega
        have h3 := HN.out.1
        omega)
      have HWY := Lib.hid hwy
      have HJ2 := Lib.hid hlt
      have HKBL := Lib.hid (show kb ≤ 63 ∧ kr ≤ 3 by omega)
      clear hx hxm hxb hkb hkr hwy hit hitx hrow hls hcj hlt hj
      obtain ⟨hJ1, g1, hW1, hg1, hq1, hK1⟩ := HR.out.1
      have HNB := Lib.hid (wrP_number N wr ⟨N, 0, none⟩ g1 _ kb hW1 (by rw [List.length_append, List.length_append]; have := HN.out.2.2.2.1; have := HLN.out; have := HTL.out; omega) (by have := HKBL.out; omega))
      have HA := Lib.hid (And.intro hJ1 (And.intro hg1 (And.intro hq1 hK1)))
      clear hW1 hg1 hq1 hK1 hJ1
      go_wp2_with fail
      refine HNB.out.mono ?_
      rintro e w5 ⟨rfl, hP5⟩
      obtain ⟨hJ5, hF5⟩ := WrJ.step HA.out.1 HR.out.2 HA.out.2.1 HA.out.2.2.1 HA.out.2.2.2 hP5
      have HJ5 := Lib.hid (And.intro hJ5 hF5)
      obtain ⟨hj5, g5, hW5, hg5, hq5, hK5⟩ := hJ5
      have hl5 := run_lookupI15 (P := Tryz.prog) rsT inT15 (zeroIn w5) (HKB.out w5 hK5) (kb : Int) false
      rw [findI_hs, HWY.out] at hl5
      change _ = Result.ok (Value.int .i64 (kr : Int)) w5 at hl5
      have HNB2 := Lib.hid (wrP_number N w5 ⟨N, 0, none⟩ g5 _ kr hW5 (by rw [List.length_append, List.length_append, List.length_append]; have := HN.out.2.2.2.1; have := HLN.out; have := HTL.out; have := enc7_9W (n := kb) (by have := HKBL.out; omega); omega) (by have := HKBL.out; omega))
      have HA5 := Lib.hid (And.intro hj5 (And.intro hg5 (And.intro hq5 hK5)))
      clear hP5 hF5 hj5 hW5 hg5 hq5 hK5 HNB x0
      go_wp2_with fail
      refine HNB2.out.mono ?_
      rintro e w6 ⟨rfl, hP6⟩
      have HJ6 := Lib.hid (WrJ.step HA5.out.1 HJ5.out.2 HA5.out.2.1 HA5.out.2.2.1 HA5.out.2.2.2 hP6)
      clear hP6 hl5 HNB2
      go_wp2
      refine ⟨⟨j + 1, HJ2.out, by go_num, ?_, HJ6.out.2⟩, by simp [intOf]; have := HJ2.out; omega⟩
      have := HJ6.out.1
      rw [HX.out.1, HX.out.2]
      simpa [List.append_assoc] using this
    · have y1 : ¬ (j : Int) < (n : Int) := by omega
      have y2 : decide ((j : Int) < (n : Int)) = false := decide_eq_false y1
      obtain rfl : j = n := by omega
      go_wp2
      ((try simp only [Exit.inBlock, Exit.then]); first | (refine bodyPost_ret (results_none rfl _ _ _) rfl ?_) | (refine bodyPost_end (results_none rfl _ _ _) rfl ?_))
      refine ⟨rfl, ?_⟩
      have := HR.out.1.post
      rw [List.take_of_length_le (by rw [HN.out.2.2.1]; exact Nat.le_refl _)] at this
      unfold grpB
      rw [HN.out.2.2.1, ← List.append_assoc]
      exact this
end Go.Proofs.YtllpcllgliknpaaGreatDoor
/- Bytes of the ward. -/
set_option maxRecDepth 100000
namespace Go.Proofs.YtllpcllgliknpaaGreatDoor
open Go Go.RowKit Go.MapKept

attribute [-go_sem] Sha.exec_store
theorem pathsW_str {s : Ws} {j : Nat} (hj : j < (pathsW s).length) : ((pathsW s).map fun p => Value.string (mkS p))[j]? = some (.string (mkS (pathsW s)[j])) := by
  rw [List.getElem?_map, List.getElem?_eq_getElem hj]
  rfl
theorem pthB_len {p : S8} {M : List Hr} (hp : p.length ≤ 1000) (hM : M.length ≤ 1000) (h : ∀ x ∈ M, 0 ≤ x.blk ∧ x.blk ≤ 63 ∧ 1 ≤ x.why ∧ x.why ≤ 3) : (pthB p M).length ≤ 1018 + 18 * M.length := by
  unfold pthB grpB
  rw [List.length_append, List.length_append, List.length_append, pB_len]
  have h1 := enc7_9W (n := p.length) (by omega)
  have h2 := enc7_9W (n := M.length) (by omega)
  have h3 := itsH_len h
  omega
theorem pthsB_len {s : Ws} {M : List Hr} (h : RelH s M) (hM : M.length ≤ 1000) (hp : ∀ p ∈ pathsW s, p.length ≤ 1000) : ∀ (P : List S8), (∀ p ∈ P, p ∈ pathsW s) → (pthsB s P).length ≤ 1018 * P.length + 18 * offP s P
  | [], _ => by simp [pthsB]
  | p :: P, hP => by
    have ih := pthsB_len h hM hp P fun q hq => hP q (List.mem_cons_of_mem _ hq)
    have h1 := pthB_len (M := grpH p (ofW s p)) (hp p (hP p List.mem_cons_self)) (by rw [grpH_len]; exact Nat.le_trans (ofW_len h p) hM) (fun x hx => (grpH_bd h p x hx).2)
    rw [grpH_len] at h1
    unfold pthsB at ih ⊢
    rw [List.map_cons, List.flatten_cons, List.length_append]
    have e : offP s (p :: P) = (ofW s p).length + offP s P := by unfold offP; rw [List.map_cons, List.sum_cons]
    rw [e, List.length_cons]
    omega
section
variable {w w' : World} {b mb : Nat} {F : Nat → Prop} {s : Ws} {bk : S8 → Nat}
set_option maxRecDepth 100000 in
set_option maxHeartbeats 8000000 in
theorem bytes15_any {M : List Hr} (h : WdAt w b F s mb bk) (hR : RelH s M) (hM : M.length ≤ 1000) (hp : ∀ p ∈ pathsW s, p.length ≤ 1000) (hT : Tb w) :
    Calls Tryz.prog 20 #[.pointer (some ⟨b, 0, none⟩)] w (GivesB w (encW s)) := by
  obtain ⟨N, hN⟩ : ∃ N, w.heap.size = N := ⟨_, rfl⟩
  obtain ⟨W1, hW1⟩ : ∃ W, w.alloc (.cells #[.slice none 0 0] 66) = W := ⟨_, rfl⟩
  have hz := wrP_zero w.heap.size w (Nat.le_refl _)
  unfold zW at hz
  rw [hW1, hN] at hz
  have hB1 : Below w.heap.size w W1 := by rw [← hW1]; exact (Below.refl _ _).alloc (Nat.le_refl _) _
  have hs1 : W1.heap.size = N + 1 := by rw [← hW1, World.size_alloc, hN]
  have hA1 := h.of_new hB1
  have c0 := h.cell
  have c1 := hA1.cell
  obtain ⟨n, hn⟩ : ∃ n, s.length = n := ⟨_, rfl⟩
  have hsn : n ≤ 1000 := by rw [← hn]; have h1 := ws_len hR.ne; have h2 := hR.len; omega
  have hln := fun ty => run_len8 (P := Tryz.prog) (ty := ty) wmT hA1.map
  rw [show (wsV bk s).length = n by unfold wsV; rw [List.length_map, hn]] at hln
  have HNM := Lib.hid (wrP_number N W1 ⟨N, 0, none⟩ none [] n hz (by decide) (by omega))
  rw [List.nil_append] at HNM
  have HA := Lib.hid (fun u (hu : Below N w u) => h.of_new (w' := u) (by rw [hN]; exact hu))
  have HT := Lib.hid (fun u (hu : Below N w u) => hT.on (u := u) (by rw [hN]; exact hu))
  have HR := Lib.hid hR
  have HP := Lib.hid hp
  have HM := Lib.hid hM
  have HX1 := Lib.hid (show Below N w W1 from by rw [← hN]; exact hB1)
  have HNN := Lib.hid (And.intro hN (And.intro hs1 (And.intro hn hsn)))
  have HLN := Lib.hid (show (enc7 n).length ≤ 9 from enc7_9W (by omega))
  have HPL := Lib.hid (show (pathsW s).length = n by rw [pathsW_len, hn])
  have HFB := Lib.hid (fun q (hq : (findW s q) ≠ none) => (show bk q < N from by
    cases hf : findW s q with
    | none => exact absurd hf hq
    | some l => rw [← hN]; exact (h.of hf).lt))
  clear h hR hz hB1 hs1 hA1 hT hp hM hn hsn
  go_enter Tryz.func20, Tryz.ntmps20
  try rw [hN]
  go_wp2_with fail
  try rw [hW1]
  try rw [hN]
  refine HNM.out.mono ?_
  rintro e w1 ⟨rfl, hP1⟩
  have hX2 : Below N w w1 := by
    obtain ⟨g', -, -, h3⟩ := hP1
    exact HX1.out.trans (h3.below (Nat.le_refl _) (fun k hk => by cases hk) (by have := HNN.out; omega))
  have HX2 := Lib.hid hX2
  have HP1 := Lib.hid hP1
  have HPA := Lib.hid (paths15_any (HA.out w1 hX2) (fun x hx => Nat.le_trans (HP.out x.1 (pathsW_mem.2 (by
    cases hf : findW s x.1 with
    | none => exact absurd rfl (findW_none hf x hx)
    | some l => exact ⟨l, rfl⟩))) (by decide)) (by rw [HNN.out.2.2.1]; have := HNN.out; omega))
  clear hX2 hP1 HNM hW1 c0 c1 hln
  go_wp2_with fail
  refine HPA.out.mono ?_
  rintro e w3 ⟨v, rfl, hrow, hB⟩
  rw [HNN.out.2.2.1] at hrow
  obtain ⟨hJ, hF⟩ := WrJ.start (by obtain ⟨g', h1, -⟩ := HP1.out; exact (wrP_lie _ _ _ _ _ h1).2.1) HP1.out hB
  obtain ⟨pv, cv, rfl, -⟩ := own_shape hrow
  have HROW := Lib.hid hrow
  have HJ := Lib.hid (And.intro hJ hF)
  clear hrow hB hJ hF HPA
  go_wp2
  go_loopw [15] (fun v15 wr => ∃ j : Nat, j ≤ n ∧ v15 = .int .i64 (j : Int) ∧ WrJ W1 N w1.heap.size w3.heap.size none (enc7 n ++ pthsB s ((pathsW s).take j)) wr ∧ FrW w3 wr w1.heap.size w3.heap.size) (fun v15 _ => n - (intOf v15).toNat)
  case atStart =>
    refine ⟨0, Nat.zero_le _, rfl, ?_, HJ.out.2⟩
    have := HJ.out.1
    simpa [pthsB] using this
  case round =>
    obtain ⟨j, hj, rfl, hJ, hF⟩ := hrel
    have HRR := Lib.hid (And.intro hJ hF)
    clear hJ hF HJ
    have HTL := Lib.hid (show (pthsB s ((pathsW s).take j)).length ≤ 1036000 from by
      have h1 := pthsB_len HR.out HM.out HP.out ((pathsW s).take j) (fun q hq => List.mem_of_mem_take hq)
      have h2 : ((pathsW s).take j).length ≤ n := by rw [List.length_take]; omega
      have h3 : offP s ((pathsW s).take j) ≤ M.length := by
        rw [← HR.out.fin, List.take_length]
        conv => rhs; rw [← List.take_append_drop j (pathsW s)]
        unfold offP
        rw [List.map_append, List.sum_append]
        omega
      have h4 := HM.out
      have h5 := HNN.out.2.2.2
      omega)
    by_cases hlt : j < n
    · have y1 : (j : Int) < (n : Int) := by omega
      have y2 : decide ((j : Int) < (n : Int)) = true := decide_eq_true y1
      have y3 : (0 : Int) ≤ (j : Int) := by omega
      have hw6 : IntKind.i64.wrap ((j : Int) + 1) = (j : Int) + 1 := by rw [IntKind.wrap_i64]; have := HNN.out.2.2.2; omega
      have hjl : j < (pathsW s).length := by rw [HPL.out]; exact hlt
      have hcj := pathsW_str hjl
      have hit := pthsB_take s (pathsW s) j hjl
      obtain ⟨p, hpj⟩ : ∃ p, (pathsW s)[j] = p := ⟨_, rfl⟩
      rw [hpj] at hcj hit
      have hpm : p ∈ pathsW s := by rw [← hpj]; exact List.getElem_mem hjl
      obtain ⟨lp, hfp⟩ := pathsW_mem.1 hpm
      have hof : ofW s p = lp := by unfold ofW; rw [hfp]; rfl
      rw [hof] at hit
      have hpl := HP.out p hpm
      have hrow := own_fr HROW.out (Nat.le_refl _) (Nat.le_refl _) HRR.out.2
      obtain ⟨pv2, cv2, epv, hls, -⟩ := own_shape hrow
      injection epv with e1 e2 e3
      subst e1 e3
      obtain ⟨c, o, rfl, -, x0⟩ := hls.cell hcj
      have HIT := Lib.hid hit
      have HGB := Lib.hid (show ∀ x ∈ grpH p lp, 0 ≤ x.blk ∧ x.blk ≤ 63 ∧ 1 ≤ x.why ∧ x.why ≤ 3 from fun x hx => (grpH_bd HR.out p x (by rw [hof]; exact hx)).2)
      have HLP := Lib.hid (show lp.length ≤ 1000 from by rw [← hof]; exact Nat.le_trans (ofW_len HR.out p) HM.out)
      have HFP := Lib.hid (And.intro hfp (HFB.out p (by rw [hfp]; simp)))
      have HJ2 := Lib.hid (And.intro hlt hpl)
      clear hjl hcj hit hpj hpm hfp hof hpl hrow hls hlt hj
      obtain ⟨hJ1, g1, hW1, hg1, hq1, hK1⟩ := HRR.out.1
      have hTX := wrP_text N wr ⟨N, 0, none⟩ g1 _ (pB p) hW1 (by rw [List.length_append]; have := HLN.out; have := HTL.out; omega) (by rw [pB_len]; have := HJ2.out.2; omega)
      rw [strOf_pB] at hTX
      have HNB := Lib.hid hTX
      have HA1 := Lib.hid (And.intro hJ1 (And.intro hg1 (And.intro hq1 hK1)))
      clear hW1 hg1 hq1 hK1 hJ1 hTX
      go_wp2_with fail
      refine HNB.out.mono ?_
      rintro e w5 ⟨rfl, hP5⟩
      obtain ⟨hJ5, hF5⟩ := WrJ.step HA1.out.1 HRR.out.2 HA1.out.2.1 HA1.out.2.2.1 HA1.out.2.2.2 hP5
      have HJ5 := Lib.hid (And.intro hJ5 hF5)
      obtain ⟨hj5, g5, hW5, hg5, hq5, hK5⟩ := hJ5
      have hX5 : Below N w w5 := HX1.out.trans (hK5.below (Nat.le_refl _) (fun k hk => by cases hk) (by have := HNN.out; omega))
      have hA5 := HA.out w5 hX5
      have c5 := hA5.cell
      have hl5 := look15 hA5 p
      rw [HFP.out.1] at hl5
      change _ = Result.ok (Value.map (some (bk p))) w5 at hl5
      have HNB2 := Lib.hid (put15_any p hW5 (hA5.of HFP.out.1) HFP.out.2 HGB.out (by rw [List.length_append, List.length_append, List.length_append, pB_len]; have := HLN.out; have := HTL.out; have := HJ2.out.2; have := enc7_9W (n := p.length) (by omega); omega) HLP.out)
      have HA5 := Lib.hid (And.intro hj5 (And.intro hg5 (And.intro hq5 hK5)))
      obtain ⟨gm, hgm⟩ : ∃ x, bk p = x := ⟨_, rfl⟩
      rw [hgm] at hl5 HNB2
      clear hP5 hF5 hj5 hW5 hg5 hq5 hK5 HNB x0 hX5 hA5 hgm
      go_wp2_with fail
      refine HNB2.out.mono ?_
      rintro e w6 ⟨rfl, hP6⟩
      have HJ6 := Lib.hid (WrJ.step HA5.out.1 HJ5.out.2 HA5.out.2.1 HA5.out.2.2.1 HA5.out.2.2.2 hP6)
      clear hP6 hl5 HNB2 c5
      go_wp2
      refine ⟨⟨j + 1, HJ2.out.1, by go_num, ?_, HJ6.out.2⟩, by simp [intOf]; have := HJ2.out.1; omega⟩
      have := HJ6.out.1
      rw [HIT.out]
      unfold pthB
      simpa [List.append_assoc] using this
    · have y1 : ¬ (j : Int) < (n : Int) := by omega
      have y2 : decide ((j : Int) < (n : Int)) = false := decide_eq_false y1
      obtain rfl : j = n := by omega
      obtain ⟨body, hbody⟩ : ∃ x, bodyW s = x := ⟨_, rfl⟩
      have hbd2 : enc7 j ++ pthsB s ((pathsW s).take j) = body := by
        rw [List.take_of_length_le (by rw [HPL.out]; exact Nat.le_refl _), ← hbody]
        unfold bodyW
        rw [HNN.out.2.2.1]
      have HEN := Lib.hid (show encW s = body ++ digL body from by unfold encW; rw [hbody])
      have HLB := Lib.hid (show body.length ≤ 2000000 from by rw [← hbd2, List.length_append]; have := HLN.out; have := HTL.out; omega)
      obtain ⟨hJ1, g4, hW4, hg4, hq4, hK4⟩ := HRR.out.1
      rw [hbd2] at hW4
      have HX4 := Lib.hid (show Below N w wr from HX1.out.trans (hK4.below (Nat.le_refl _) (fun k hk => by cases hk) (by have := HNN.out; omega)))
      have HW4 := Lib.hid hW4
      have HDN := Lib.hid (wrP_done N wr ⟨N, 0, none⟩ g4 body hW4 (by have := HLB.out; omega))
      clear hJ1 hW4 hg4 hq4 hK4 hbody hbd2
      go_wp2_with fail
      refine HDN.out.mono ?_
      rintro e w5 ⟨v5, rfl, hO5, hB5⟩
      obtain ⟨p5, c5, rfl, hs5, hp5, -⟩ := hO5.shape
      obtain ⟨W6, hW6⟩ : ∃ W, w5.alloc (.cells #[.slice p5 body.length c5] 53) = W := ⟨_, rfl⟩
      have hB6 : Below w5.heap.size w5 W6 := by rw [← hW6]; exact (Below.refl _ _).alloc (Nat.le_refl _) _
      have hc6 : W6.cell? ⟨w5.heap.size, 0, none⟩ = some (.slice p5 body.length c5) := by rw [← hW6]; exact World.cell?_alloc_new _ _ _ _
      have hX6 := HX4.out.trans ((hB5.trans (hB6.mono hB5.size)).mono (by have := HX4.out.size; have := HNN.out.1; omega))
      have HB46 := Lib.hid (hB5.trans (hB6.mono hB5.size))
      have HSM := Lib.hid (sum1_any body w5.heap.size 0 p5 body.length c5 W6 rfl hc6 (hs5.of_below hB6) (HT.out _ hX6) (by have := HLB.out; omega))
      clear hO5 hs5 hp5 hB6 hc6 hB5 HDN hX6
      go_wp2_with fail
      clear hW6
      refine HSM.out.mono ?_
      rintro e w7 ⟨rfl, hB7⟩
      have hB47 := HB46.out.trans (hB7.mono HB46.out.size)
      have hlie := wrP_lie _ _ _ _ _ HW4.out
      have hW7 := wrP_stay _ _ w7 _ _ _ HW4.out hB47.size (hB47.block _ hlie.2.1) (fun k hk => hB47.block k (hlie.2.2 k hk).2.1)
      have HX7 := Lib.hid (HX4.out.trans (hB47.mono (by have := HX4.out.size; have := HNN.out.1; omega)))
      have HDG := Lib.hid (wrP_digest N w7 ⟨N, 0, none⟩ g4 body (digL body) hW7 (by have := HLB.out; omega) (digL_len _))
      rw [← HEN.out] at HDG
      have HLE := Lib.hid (show (encW s).length < 1000000000 from by rw [HEN.out, List.length_append, digL_len]; have := HLB.out; omega)
      have HG4 := Lib.hid (fun k hk => (hlie.2.2 k hk).1)
      clear hB7 hB47 hW7 hlie HSM
      go_wp2_with fail
      refine HDG.out.mono ?_
      rintro e w8 ⟨rfl, g8, hW8, hg8, hK8⟩
      have hX8 : Below N w w8 := HX7.out.trans (hK8.below (Nat.le_refl _) (fun k hk => HG4.out k hk) (by have := HX7.out.size; have := HNN.out.1; omega))
      have HX8 := Lib.hid hX8
      have HDN := Lib.hid (wrP_done N w8 ⟨N, 0, none⟩ g8 (encW s) hW8 HLE.out)
      clear hW8 hg8 hK8 hX8 HDG
      go_wp2_with fail
      refine HDN.out.mono ?_
      rintro e w9 ⟨v9, rfl, hO9, hB9⟩
      have HO9 := Lib.hid (show OwnB w9 w.heap.size v9 (encW s) from hO9.lower (by have := HX8.out.size; have := HNN.out.1; omega))
      have HB9 := Lib.hid (show Below w.heap.size w w9 from by rw [HNN.out.1]; exact HX8.out.trans (hB9.mono (by have := HX8.out.size; have := HNN.out.1; omega)))
      clear hO9 hB9
      go_wp2
      go_ret
      exact ⟨_, rfl, HO9.out, HB9.out⟩
end
end Go.Proofs.YtllpcllgliknpaaGreatDoor
/- Elements of k cells behind a slice without room. -/
set_option maxRecDepth 100000
namespace Go.Proofs.YtllpcllgliknpaaGreatDoor
open Go Go.RowKit
attribute [-go_sem] Sha.exec_store

section
variable {w w' : World} {T E : TypeId} {z : Value} {k b : Nat}
theorem append_fullK (K : ElK T E z k b) (w : World) (ty : TypeId) (p : Option Addr) (n : Nat) (cs : List Value) (hl : cs.length = n * k) (hp : p = none → n = 0) (hs : LsC w p cs) (ad : Addr) (m c : Nat) (news : List Value) (hnl : news.length = m * k) (hm : 0 < m) (hns : LsC w (some ad) news) (h1 : ∀ u ∈ news, u.oneCell' = true) (hn : n + m < 100000000) :
    ∃ v' w', (Builtin.append_ #[T, T] ty #[.slice p n n, .slice (some ad) m c]).run Tryz.prog w = .ok v' w' ∧ w'.ownsRow w.heap.size E k v' (n + m) (cs ++ news) ∧ w.grownBy w' none := by
  obtain ⟨i0, hi, hz0, hz1, hz2⟩ := info_parts K.inf
  have hbb := K.few
  have hbytes : (n + m) * b ≤ 140737488355328 := by have : (n + m) * b ≤ (n + m) * 200 := Nat.mul_le_mul_left _ hbb; omega
  cases p with
  | some a =>
    exact run_append_arg_grows (P := Tryz.prog) w T ty E i0 z k b K.und hi hz0 hz1 hz2 K.zc K.pos a n n cs hl hs.news ad m c news hnl hns.news (by omega) (by simp only [maxLen]; omega) hbytes
  | none =>
    obtain rfl := hp rfl
    obtain rfl : cs = [] := List.eq_nil_of_length_eq_zero (by simpa using hl)
    obtain ⟨v', w', g1, g2, g3, _, g5⟩ := run_append_own_at (P := Tryz.prog) w w.heap.size T ty E i0 z k b K.und hi hz0 hz1 hz2 K.zc K.pos (.slice none 0 0) 0 [] (World.ownsRow_nil w _ E k) ad m c news hnl hns.news h1
      (by simp only [maxLen]; omega) hbytes (Nat.le_refl _)
    exact ⟨v', w', g1, g2, g3⟩
theorem step_fullK {ops : Array Oper} {o : Oper} {a : Act} {Q : Exit → Act → World → Prop} {K' : Act → World → Prop} {Z : Prop} (K : ElK T E z k b) (w : World) (hgd : o.guard = none) (s x : Operand)
    (ho : o.op = .call { callee := .builtin .append, args := #[s, x], argTypes := #[T, T] })
    (p : Option Addr) (n : Nat) (cs : List Value) (hs : a.eval s = .slice p n n) (hl : cs.length = n * k) (hp : p = none → n = 0) (hls : LsC w p cs) (ad : Addr) (m c : Nat) (news : List Value) (hnl : news.length = m * k) (hm : 0 < m) (hx : a.eval x = .slice (some ad) m c) (hns : LsC w (some ad) news) (h1 : ∀ u ∈ news, u.oneCell' = true)
    (hn : n + m < 100000000)
    (h : ∀ v' w', w'.ownsRow w.heap.size E k v' (n + m) (cs ++ news) → w.grownBy w' none → K' (a.put o.dst v') w') : if Region.wanted o (yielded ops a.tmps) = true then Oper.wp Tryz.prog o a w K' Q else Z := by
  have hw : Region.wanted o (yielded ops a.tmps) = true := by simp [Region.wanted, hgd]
  rw [if_pos hw]
  obtain ⟨v', w', hr, h2, h3⟩ := append_fullK K w o.type p n cs hl hp hls ad m c news hnl hm hns h1 hn
  unfold Oper.wp execOp
  simp only [ho, resolve, invoke, builtin, Sem.run_bind, Sem.run_pure, Result.andThen_ok, List.map_toArray, List.map_cons, List.map_nil, hs, hx, hr]
  exact h v' w' h2 h3
end
end Go.Proofs.YtllpcllgliknpaaGreatDoor
