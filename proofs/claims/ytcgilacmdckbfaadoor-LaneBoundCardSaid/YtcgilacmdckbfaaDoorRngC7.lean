/- A range over an iterator that keeps a state of its own in a box: the law, and what such an iterator owes. -/
import Derived.Test.YtcgilacmdckbfaaDoorStr7
import Derived.RangeFuncNested
import Derived.RangeFuncBound
import Derived.RangeFuncCalls
import Derived.RangeFuncLeaves
import Derived.Shelf.Abstract
import Derived.Shelf.RegionOpen
import Derived.WalkKit
import Derived.OwnWalkIn
import Derived.TacticsInMore
import Derived.LoopNIn
import Derived.LoopIn
set_option linter.unusedSimpArgs false
set_option maxRecDepth 100000
set_option linter.unusedVariables false
namespace Go.Proofs.YtcgilacmdckbfaaDoor
open Go Go.RowKit Go.Shelf

/-- A call of yield: it goes on, all below N as it was; or it says that there is to be no more. -/
def Yields {α : Type} (m l : Nat) (encs : α → Array Value) (N : Nat) (J Jx : List α → World → Prop) : Prop :=
  ∀ pre x A, J pre A → YieldAt Fence.wide m Tryd.prog l (encs x) A fun e A' =>
    (e = .returned (.bool true) ∧ J (pre ++ [x]) A' ∧ Below N A A') ∨ (e = .returned (.bool false) ∧ Jx (pre ++ [x]) A')
/-- The iterator hands out xs; of what was there it writes box b alone. -/
def Seq {α : Type} (m g : Nat) (lb : Array Value) (encs : α → Array Value) (b : Nat) (xs : List α) (w : World) : Prop :=
  ∀ (l : Nat) (J Jx : List α → World → Prop) (A : World), Below w.heap.size w A → (∀ pre B k, J pre B → J pre (B.drewN k)) → (∀ pre B v, J pre B → J pre (B.setCell ⟨b, 0, none⟩ v)) →
    Yields (m - 1) l encs w.heap.size J Jx → J [] A →
    CallsIn Fence.wide m Tryd.prog g (#[.func (.yield l) #[] #[]] ++ lb) A fun e A' => (∃ v, e = .returned v) ∧ (J xs A' ∨ ∃ pre, pre <+: xs ∧ Jx pre A')
/-- How the body may be left: it goes on, or returns. -/
def bodyOut {α : Type} (N : Nat) (I Ix : List α → World → Prop) (xs : List α) (A : World) : Exit → Act → World → Prop
  | .normal, _, A' => KeepsOthers A A' ∧ Below N A A' ∧ I xs A'
  | .ret, _, A' => KeepsOthers A A' ∧ Ix xs A'
  | _, _, _ => False
/-- What a caller's invariant must bear: new blocks, the loop's own blocks, draws, the iterator's box. -/
structure Bears {α : Type} (N b : Nat) (I : List α → World → Prop) : Prop where
  new : ∀ pre A o, I pre A → I pre (A.alloc o)
  put : ∀ pre A k o, N ≤ k → k < A.heap.size → I pre A → I pre (A.putObj k o)
  drew : ∀ pre A k, I pre A → I pre (A.drewN k)
  box : ∀ pre A v, I pre A → I pre (A.setCell ⟨b, 0, none⟩ v)
theorem below_put {N k : Nat} {A : World} (o : Obj) (hk : N ≤ k) (hlt : k < A.heap.size) : Below N A (A.putObj k o) :=
  (Below.refl N A).grown (grownBy_putObj' A k o) (by omega) (fun j e => by cases e; exact hk)
theorem range_box {α : Type} {g : Operand} {ps : Array Tmp} {assign body : Code} {Q : Exit → Act → World → Prop} {a : Act} {w : World} {m : Nat} (hm : 1 ≤ m)
    {gf : Nat} {lb : Array Value} (hg : a.eval g = .func (.func gf) #[] lb) (eg : ∀ args w, (callFunc gf args).run Tryd.prog w = .ok (.enter gf args) w)
    {encs : α → Array Value} (hps : ∀ x, (encs x).size = ps.size) {b : Nat} (hb : b < w.heap.size) {xs : List α} (hseq : Seq (m - 1) gf lb encs b xs w)
    (I Ix : List α → World → Prop) (hI : Bears w.heap.size b I) (hIx : ∀ pre A k o, w.heap.size ≤ k → k < A.heap.size → Ix pre A → Ix pre (A.putObj k o)) (h0 : I [] w) (a₁ : α → Act)
    (hassign : ∀ (l : Nat) (x : α) (W : World) (K : Act → World → Prop), K (a₁ x) W →
      assign.wpIn (Fence.wide.inRound l) (m - 1 - 1) Tryd.prog (Exit.then K (fun _ _ _ => False)) { tmps := (ps.zip (encs x)).foldl (fun t (p, v) => t.setIfInBounds p v) a.tmps, defers := [] } W)
    (hbody : ∀ (l : Nat) (pre : List α) (x : α) (A : World), I pre A → body.wpIn (Fence.wide.inRound l) (m - 1 - 1) Tryd.prog (bodyOut w.heap.size I Ix (pre ++ [x]) A) (a₁ x) A)
    (hdone : ∀ (D : Nat) (A : World), w.heap.size ≤ D → I xs A → A.heap[D]? = some (.deferred (some [])) → Q .normal { a with defers := { target := .collected D, args := #[] } :: a.defers } A)
    (hstop : ∀ (D : Nat) (pre : List α) (A : World), w.heap.size ≤ D → pre <+: xs → Ix pre A → A.heap[D]? = some (.deferred (some [])) → Code.ret.wpIn Fence.wide m Tryd.prog Q { a with defers := { target := .collected D, args := #[] } :: a.defers } A) :
    (Code.rangeFunc g ps assign body).wpIn Fence.wide m Tryd.prog Q a w := by
  refine wpIn_rangeFunc fun fn hfn => ?_
  -- the loop's record (block n + 1) and the block of its deferred calls (block n)
  obtain ⟨n, hn⟩ : ∃ n, w.heap.size = n := ⟨_, rfl⟩
  obtain ⟨R, hR⟩ : ∃ R : LoopState → Option Code → Loop, R = fun st pe => { state := st, pending := pe, fn, tmps := a.tmps, params := ps, assign, body, defers := n } := ⟨_, rfl⟩
  obtain ⟨W, hW⟩ : ∃ W, (w.alloc (.deferred (some []))).alloc (.loop (R .ready none)) = W := ⟨_, rfl⟩
  have two : ∀ {A : World}, A.heap[n + 1]? = some (.loop (R .busy none)) ∨ A.heap[n + 1]? = some (.loop (R .ready none)) → n + 1 < A.heap.size := fun h => by
    rcases h with h | h <;> exact (Array.getElem?_eq_some_iff.1 h).1
  let At : LoopState → Option Code → World → Prop := fun st pe A => A.heap[n + 1]? = some (.loop (R st pe)) ∧ A.heap[n]? = some (.deferred (some []))
  have at0 : At .ready none W := by
    constructor
    · rw [← hW]
      have := World.alloc_heap_new (w.alloc (.deferred (some []))) (.loop (R .ready none))
      rwa [World.size_alloc, hn] at this
    · rw [← hW]
      have h1 := World.alloc_heap_new w (.deferred (some []))
      rw [hn] at h1
      exact (Below.heap_alloc _ _ _ (by simp; omega)).trans h1
  have putAt : ∀ {st st' : LoopState} {pe pe' : Option Code} {A : World}, At st pe A → At st' pe' (A.putObj (n + 1) (.loop (R st' pe'))) := fun h =>
    ⟨World.putObj_heap_same (Array.getElem?_eq_some_iff.1 h.1).1, (World.putObj_heap_other (by omega)).trans h.2⟩
  refine ⟨n + 1, [{ target := .collected n, args := #[] }], W, { target := .fn (.func gf) lb, args := #[.func (.yield (n + 1)) #[] #[]] }, W, gf, #[.func (.yield (n + 1)) #[] #[]] ++ lb, W, ?_, ?_, ?_, ?_, fun _ => hm, ?_⟩
  · rw [← hW, hR, ← hn]; exact run_enterLoop_outer _ _ _ _ _
  · simp only [resolve, hg]
    simp [go_sem]
  · intro f' hf'
    simp [Target.leads] at hf'
    subst hf'
    trivial
  · simp [invoke, go_sem, eg]
  · have hbel : Below w.heap.size w W := by rw [← hW]; exact ((Below.refl _ w).alloc (Nat.le_refl _) _).alloc (by simp) _
    refine (hseq (n + 1) (fun pre A => I pre A ∧ At .ready none A) (fun pre A => Ix pre A ∧ At .done (some .ret) A) W hbel
      (fun pre B k h => ⟨hI.drew pre B k h.1, h.2⟩)
      (fun pre B v h => ⟨hI.box pre B v h.1, (Below.heap_setCell B _ v _ (by show n + 1 ≠ b; omega)).trans h.2.1, (Below.heap_setCell B _ v _ (by show n ≠ b; omega)).trans h.2.2⟩)
      ?_ ⟨by rw [← hW]; exact hI.new _ _ _ (hI.new _ _ _ h0), at0⟩).mono ?_
    · rintro pre x A ⟨hi, hat⟩
      have hlt := two (.inr hat.1)
      have hy := run_yield (P := Tryd.prog) (args := encs x) hat.1 (by rw [hR]; exact hps x)
      rw [hR] at hy
      refine ⟨fn, _, assign, body, hy, roundIn_of_wpIn hfn (hassign _ x A _ ⟨_, run_beginRound hat.1 (by rw [hR]), ?_⟩)⟩
      have hbusy : ({ R .ready none with state := .busy } : Loop) = R .busy none := by rw [hR]
      rw [hbusy]
      have hat2 : At .busy none (A.putObj (n + 1) (.loop (R .busy none))) := putAt hat
      refine wpIn_mono (hbody _ pre x _ (hI.put _ _ _ _ (by omega) hlt hi)) ?_
      have fin : ∀ (st : LoopState) (jump : Option Code) (A3 : World), st = (if jump.isNone then .ready else .done) → KeepsOthers (A.putObj (n + 1) (.loop (R .busy none))) A3 →
          n + 1 < A3.heap.size ∧ (Instr.endRound (n + 1) jump).run Tryd.prog A3 = .ok (.bool jump.isNone) (A3.putObj (n + 1) (.loop (R st jump))) ∧ At st jump (A3.putObj (n + 1) (.loop (R st jump))) := fun st jump A3 hst hk => by
        have h3 : At .busy none A3 := ⟨hk.same _ _ hat2.1 rfl, hk.same _ _ hat2.2 rfl⟩
        have he := run_endRound (P := Tryd.prog) jump h3.1
        have e : ({ R .busy none with state := (if jump.isNone then .ready else .done), pending := jump } : Loop) = R st jump := by rw [hR, hst]
        rw [e] at he
        exact ⟨two (.inl h3.1), he, putAt h3⟩
      rintro e a3 A3 hp
      cases e with
      | normal =>
        obtain ⟨hk, hB, hi3⟩ := hp
        obtain ⟨hl3, he, h4⟩ := fin .ready none A3 rfl hk
        exact ⟨_, _, he, .inl ⟨rfl, ⟨hI.put _ _ _ _ (by omega) hl3 hi3, h4⟩, ((below_put _ (by omega) hlt).trans hB).trans (below_put _ (by omega) hl3)⟩⟩
      | ret =>
        obtain ⟨hk, hi3⟩ := hp
        obtain ⟨hl3, he, h4⟩ := fin .done (some .ret) A3 rfl hk
        exact ⟨_, _, he, .inr ⟨rfl, hIx _ _ _ _ (by omega) hl3 hi3, h4⟩⟩
      | exit id => exact hp.elim
      | goto t => exact hp.elim
      | panic ch => exact hp.elim
      | outgrown => exact hp.elim
    · rintro e A2 ⟨⟨v, rfl⟩, ⟨hi, hat⟩ | ⟨pre, hpre, hi, hat⟩⟩
      · have hlt := two (.inr hat.1)
        have he := run_endLoop (P := Tryd.prog) hat.1 (by rw [hR]; simp)
        refine ⟨none, _, by rw [he, hR], ?_⟩
        exact hdone n _ (by omega) (hI.put _ _ _ _ (by omega) hlt hi) ((World.putObj_heap_other (by omega)).trans hat.2)
      · have hlt := (Array.getElem?_eq_some_iff.1 hat.1).1
        have he := run_endLoop (P := Tryd.prog) hat.1 (by rw [hR]; simp)
        refine ⟨some .ret, _, by rw [he, hR], ?_⟩
        exact hstop n pre _ (by omega) hpre (hIx _ _ _ _ (by omega) hlt hi) ((World.putObj_heap_other (by omega)).trans hat.2)
end Go.Proofs.YtcgilacmdckbfaaDoor
