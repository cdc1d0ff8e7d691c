/- Merged texts: RngP, Blk10, CloneP, Hds10, Dgs10, Deq10, Dga10, Stm10, Ref7, RefH7, RefL7, RefW7, LibP7, PtaP7, RngC7, Hd7, LibI7, SplP7, IdxF7, RunP7. -/
import Derived.RangeFuncNested
import Derived.RangeFuncBound
import Derived.RangeFuncCalls
import Derived.RangeFuncLeaves
import Derived.Shelf.Abstract
import Derived.Shelf.RegionOpen
import Derived.WalkKit
import Derived.OwnWalkIn
import Derived.TacticsInMore
import Derived.LoopNIn
import Derived.LoopIn
import Derived.Test.YtkajeepbelfpiaaGreatDoorBytes
import Derived.Lib.Hide
import Derived.Lib.MinMax
import Derived.Test.YtkajeepbelfpiaaGreatDoorCuts
import Derived.OwnWalk
import Derived.Test.YtkajeepbelfpiaaGreatDoorRef6
import Derived.Test.YtkajeepbelfpiaaGreatDoorOwnK8
import Derived.Test.YtkajeepbelfpiaaGreatDoorSha10
import Derived.Test.YtkajeepbelfpiaaGreatDoorKT1
import Derived.Test.YtkajeepbelfpiaaGreatDoorShEq
import Derived.Test.YtkajeepbelfpiaaGreatDoorVec9
import Derived.Deep.RegionHeld3
import Derived.Test.YtkajeepbelfpiaaGreatDoorStr7
import Derived.Deep.RegionLaw
import Derived.BigRegion
import Derived.Laws.Externs
import Derived.Deep.QuietTactic
import Derived.Lib.OthersKept
import Derived.Lib.Bytealg
import Derived.Laws.RangeAny
import Derived.Laws.Runes
set_option linter.unusedSimpArgs false
set_option linter.unusedVariables false
/- A range over an iterator that writes nothing: the law, and what such an iterator owes. -/
set_option maxRecDepth 100000
namespace Go.Proofs.YtkajeepbelfpiaaGreatDoor
open Go Go.RowKit Go.Shelf
attribute [-go_sem] Sha.exec_store

/-- A call of yield: it goes on, block b as it was; or it says that there is to be no more. -/
def YieldsP {α : Type} (m l : Nat) (encs : α → Array Value) (b : Nat) (xs : List α) (J Jx : List α → World → Prop) : Prop :=
  ∀ pre x A, pre ++ [x] <+: xs → J pre A → YieldAt Fence.wide m Tryz.prog l (encs x) A fun e A' =>
    (e = .returned (.bool true) ∧ J (pre ++ [x]) A' ∧ A'.heap[b]? = A.heap[b]?) ∨ (e = .returned (.bool false) ∧ Jx (pre ++ [x]) A')
/-- The iterator hands out xs; it writes nothing, and reads block b. -/
def SeqP {α : Type} (m g : Nat) (lb : Array Value) (encs : α → Array Value) (b : Nat) (xs : List α) (w : World) : Prop :=
  ∀ (l : Nat) (J Jx : List α → World → Prop) (A : World), Below w.heap.size w A → (∀ pre B k, J pre B → J pre (B.drewN k)) →
    YieldsP (m - 1) l encs b xs J Jx → J [] A →
    CallsIn Fence.wide m Tryz.prog g (#[.func (.yield l) #[] #[]] ++ lb) A fun e A' => (∃ v, e = .returned v) ∧ (J xs A' ∨ ∃ pre, pre <+: xs ∧ Jx pre A')
/-- How the body may be left: it goes on, or returns. -/
def bodyOutP {α : Type} (b : Nat) (I Ix : List α → World → Prop) (xs : List α) (A : World) : Exit → Act → World → Prop
  | .normal, _, A' => KeepsOthers A A' ∧ A'.heap[b]? = A.heap[b]? ∧ I xs A'
  | .ret, _, A' => KeepsOthers A A' ∧ Ix xs A'
  | _, _, _ => False
/-- What a caller's invariant must bear: new blocks, the loop's own blocks, draws. -/
structure BearsP {α : Type} (N : Nat) (I : List α → World → Prop) : Prop where
  new : ∀ pre A o, I pre A → I pre (A.alloc o)
  put : ∀ pre A o, N + 1 < A.heap.size → I pre A → I pre (A.putObj (N + 1) o)
  drew : ∀ pre A k, I pre A → I pre (A.drewN k)
theorem below_putP {N k : Nat} {A : World} (o : Obj) (hk : N ≤ k) (hlt : k < A.heap.size) : Below N A (A.putObj k o) :=
  (Below.refl N A).grown (grownBy_putObj' A k o) (by omega) (fun j e => by cases e; exact hk)
theorem BearsP.put' {α : Type} {N n : Nat} {I : List α → World → Prop} (hI : BearsP N I) (hn : N = n) {pre : List α} {A : World} {o : Obj} (hlt : n + 1 < A.heap.size) (h : I pre A) : I pre (A.putObj (n + 1) o) := by
  subst hn
  exact hI.put pre A o hlt h
theorem range_pure {α : Type} {g : Operand} {ps : Array Tmp} {assign body : Code} {Q : Exit → Act → World → Prop} {a : Act} {w : World} {m : Nat} (hm : 1 ≤ m)
    {gf : Nat} {lb : Array Value} (hg : a.eval g = .func (.func gf) #[] lb) (eg : ∀ args w, (callFunc gf args).run Tryz.prog w = .ok (.enter gf args) w)
    {encs : α → Array Value} (hps : ∀ x, (encs x).size = ps.size) {b : Nat} (hb : b < w.heap.size) {xs : List α} (hseq : SeqP (m - 1) gf lb encs b xs w)
    (I Ix : List α → World → Prop) (hI : BearsP w.heap.size I) (hIx : ∀ pre A o, w.heap.size + 1 < A.heap.size → Ix pre A → Ix pre (A.putObj (w.heap.size + 1) o)) (h0 : I [] w) (a₁ : α → Act)
    (hassign : ∀ (l : Nat) (x : α) (W : World) (K : Act → World → Prop), K (a₁ x) W →
      assign.wpIn (Fence.wide.inRound l) (m - 1 - 1) Tryz.prog (Exit.then K (fun _ _ _ => False)) { tmps := (ps.zip (encs x)).foldl (fun t (p, v) => t.setIfInBounds p v) a.tmps, defers := [] } W)
    (hbody : ∀ (l : Nat) (pre : List α) (x : α) (A : World), pre ++ [x] <+: xs → w.heap.size + 1 < A.heap.size → I pre A → body.wpIn (Fence.wide.inRound l) (m - 1 - 1) Tryz.prog (bodyOutP b I Ix (pre ++ [x]) A) (a₁ x) A)
    (hdone : ∀ (D : Nat) (A : World), D = w.heap.size → I xs A → A.heap[D]? = some (.deferred (some [])) → Q .normal { a with defers := { target := .collected D, args := #[] } :: a.defers } A)
    (hstop : ∀ (D : Nat) (pre : List α) (A : World), D = w.heap.size → pre <+: xs → Ix pre A → A.heap[D]? = some (.deferred (some [])) → Code.ret.wpIn Fence.wide m Tryz.prog Q { a with defers := { target := .collected D, args := #[] } :: a.defers } A) :
    (Code.rangeFunc g ps assign body).wpIn Fence.wide m Tryz.prog Q a w := by
  refine wpIn_rangeFunc fun fn hfn => ?_
  -- the loop's record (block n + 1) and the block of its deferred calls (block n)
  obtain ⟨n, hn⟩ : ∃ n, w.heap.size = n := ⟨_, rfl⟩
  have hIx' : ∀ {pre : List α} {A : World} {o : Obj}, n + 1 < A.heap.size → Ix pre A → Ix pre (A.putObj (n + 1) o) := fun {pre A o} h1 h2 => by rw [← hn] at h1 ⊢; exact hIx pre A o h1 h2
  have hbn : b < n := by omega
  obtain ⟨R, hR⟩ : ∃ R : LoopState → Option Code → Loop, R = fun st pe => { state := st, pending := pe, fn, tmps := a.tmps, params := ps, assign, body, defers := n } := ⟨_, rfl⟩
  obtain ⟨W, hW⟩ : ∃ W, (w.alloc (.deferred (some []))).alloc (.loop (R .ready none)) = W := ⟨_, rfl⟩
  have two : ∀ {A : World}, A.heap[n + 1]? = some (.loop (R .busy none)) ∨ A.heap[n + 1]? = some (.loop (R .ready none)) → n + 1 < A.heap.size := fun h => by
    rcases h with h | h <;> exact (Array.getElem?_eq_some_iff.1 h).1
  let At : LoopState → Option Code → World → Prop := fun st pe A => A.heap[n + 1]? = some (.loop (R st pe)) ∧ A.heap[n]? = some (.deferred (some []))
  have at0 : At .ready none W := by
    constructor
    · rw [← hW]
      have := World.alloc_heap_new (w.alloc (.deferred (some []))) (.loop (R .ready none))
      rwa [World.size_alloc, hn] at this
    · rw [← hW]
      have h1 := World.alloc_heap_new w (.deferred (some []))
      rw [hn] at h1
      exact (Below.heap_alloc _ _ _ (by simp; omega)).trans h1
  have putAt : ∀ {st st' : LoopState} {pe pe' : Option Code} {A : World}, At st pe A → At st' pe' (A.putObj (n + 1) (.loop (R st' pe'))) := fun h =>
    ⟨World.putObj_heap_same (Array.getElem?_eq_some_iff.1 h.1).1, (World.putObj_heap_other (by omega)).trans h.2⟩
  refine ⟨n + 1, [{ target := .collected n, args := #[] }], W, { target := .fn (.func gf) lb, args := #[.func (.yield (n + 1)) #[] #[]] }, W, gf, #[.func (.yield (n + 1)) #[] #[]] ++ lb, W, ?_, ?_, ?_, ?_, fun _ => hm, ?_⟩
  · rw [← hW, hR, ← hn]; exact run_enterLoop_outer _ _ _ _ _
  · simp only [resolve, hg]
    simp [go_sem]
  · intro f' hf'
    simp [Target.leads] at hf'
    subst hf'
    trivial
  · simp [invoke, go_sem, eg]
  · have hbel : Below w.heap.size w W := by rw [← hW]; exact ((Below.refl _ w).alloc (Nat.le_refl _) _).alloc (by simp) _
    refine (hseq (n + 1) (fun pre A => I pre A ∧ At .ready none A) (fun pre A => Ix pre A ∧ At .done (some .ret) A) W hbel
      (fun pre B k h => ⟨hI.drew pre B k h.1, h.2⟩)
      ?_ ⟨by rw [← hW]; exact hI.new _ _ _ (hI.new _ _ _ h0), at0⟩).mono ?_
    · rintro pre x A hpx ⟨hi, hat⟩
      have hlt := two (.inr hat.1)
      have hy := run_yield (P := Tryz.prog) (args := encs x) hat.1 (by rw [hR]; exact hps x)
      rw [hR] at hy
      refine ⟨fn, _, assign, body, hy, roundIn_of_wpIn hfn (hassign _ x A _ ⟨_, run_beginRound hat.1 (by rw [hR]), ?_⟩)⟩
      have hbusy : ({ R .ready none with state := .busy } : Loop) = R .busy none := by rw [hR]
      rw [hbusy]
      have hat2 : At .busy none (A.putObj (n + 1) (.loop (R .busy none))) := putAt hat
      refine wpIn_mono (hbody _ pre x _ hpx (by rw [hn]; exact Nat.lt_of_lt_of_le hlt (below_putP (N := 0) _ (Nat.zero_le _) hlt).size) (hI.put' hn hlt hi)) ?_
      have fin : ∀ (st : LoopState) (jump : Option Code) (A3 : World), st = (if jump.isNone then .ready else .done) → KeepsOthers (A.putObj (n + 1) (.loop (R .busy none))) A3 →
          n + 1 < A3.heap.size ∧ (Instr.endRound (n + 1) jump).run Tryz.prog A3 = .ok (.bool jump.isNone) (A3.putObj (n + 1) (.loop (R st jump))) ∧ At st jump (A3.putObj (n + 1) (.loop (R st jump))) := fun st jump A3 hst hk => by
        have h3 : At .busy none A3 := ⟨hk.same _ _ hat2.1 rfl, hk.same _ _ hat2.2 rfl⟩
        have he := run_endRound (P := Tryz.prog) jump h3.1
        have e : ({ R .busy none with state := (if jump.isNone then .ready else .done), pending := jump } : Loop) = R st jump := by rw [hR, hst]
        rw [e] at he
        exact ⟨two (.inl h3.1), he, putAt h3⟩
      rintro e a3 A3 hp
      cases e with
      | normal =>
        obtain ⟨hk, hB, hi3⟩ := hp
        obtain ⟨hl3, he, h4⟩ := fin .ready none A3 rfl hk
        exact ⟨_, _, he, .inl ⟨rfl, ⟨hI.put' hn hl3 hi3, h4⟩, ((World.putObj_heap_other (by omega)).trans hB).trans (World.putObj_heap_other (by omega))⟩⟩
      | ret =>
        obtain ⟨hk, hi3⟩ := hp
        obtain ⟨hl3, he, h4⟩ := fin .done (some .ret) A3 rfl hk
        exact ⟨_, _, he, .inr ⟨rfl, hIx' hl3 hi3, h4⟩⟩
      | exit id => exact hp.elim
      | goto t => exact hp.elim
      | panic ch => exact hp.elim
      | outgrown => exact hp.elim
    · rintro e A2 ⟨⟨v, rfl⟩, ⟨hi, hat⟩ | ⟨pre, hpre, hi, hat⟩⟩
      · have hlt := two (.inr hat.1)
        have he := run_endLoop (P := Tryz.prog) hat.1 (by rw [hR]; simp)
        refine ⟨none, _, by rw [he, hR], ?_⟩
        exact hdone n _ (by omega) (hI.put' hn hlt hi) ((World.putObj_heap_other (by omega)).trans hat.2)
      · have hlt := (Array.getElem?_eq_some_iff.1 hat.1).1
        have he := run_endLoop (P := Tryz.prog) hat.1 (by rw [hR]; simp)
        refine ⟨some .ret, _, by rw [he, hR], ?_⟩
        exact hstop n pre _ (by omega) hpre (hIx' hlt hi) ((World.putObj_heap_other (by omega)).trans hat.2)
end Go.Proofs.YtkajeepbelfpiaaGreatDoor
/- The iterator over the blocks of bytes. -/
set_option maxRecDepth 100000
namespace Go.Proofs.YtkajeepbelfpiaaGreatDoor
open Go Go.RowKit Go.Shelf
attribute [-go_sem] Sha.exec_store

attribute [local go_sem] Oper.semAt_some
/-- How many blocks so many bytes have; how long a block is; a block. -/
def nblk (n : Nat) : Nat := (n + 255) / 256
def blen (n i : Nat) : Nat := min (256 * i + 256) n - 256 * i
def blkL (l : List (BitVec 8)) (i : Nat) : List (BitVec 8) := (l.drop (256 * i)).take 256
/-- A block as a slice. -/
def blkS (q : Option Addr) (n i : Nat) : Value := .slice (q.map (·.add (256 * i))) (blen n i) (blen n i)
theorem count_any (n : Nat) (w : World) (hn : n < 100000000) : Calls Tryz.prog 103 #[.int .i64 (n : Int)] w fun e w' => e = .returned (.int .i64 (nblk n : Int)) ∧ w = w' := by
  have h1 : IntKind.i64.wrap ((n : Int) + 256) = (n : Int) + 256 := by rw [IntKind.wrap_i64]; omega
  have h2 : IntKind.i64.wrap ((n : Int) + 256 - 1) = (n : Int) + 255 := by rw [IntKind.wrap_i64]; omega
  have h3 : ((n : Int) + 255).tdiv 256 = (nblk n : Int) := by rw [Int.tdiv_eq_ediv_of_nonneg (by omega)]; unfold nblk; omega
  have h4 : IntKind.i64.wrap (nblk n : Int) = (nblk n : Int) := by unfold nblk; rw [IntKind.wrap_i64]; omega
  have h5 : ((n : Int) + 255) / 256 = (nblk n : Int) := by unfold nblk; omega
  generalize nblk n = k at *
  go_enter Tryz.func103, Tryz.ntmps103
  go_wp2
  go_ret
  exact ⟨rfl, rfl⟩
theorem mkFnB : ∀ (fn : Fn) (first cap : Array Value) (w : World), (Instr.makeFunc fn first cap).run Tryz.prog w = .ok (.func fn first cap) w := fun _ _ _ _ => rfl
attribute [local go_sem] mkFnB
end Go.Proofs.YtkajeepbelfpiaaGreatDoor
/- bytes.Clone. -/
set_option maxRecDepth 100000
namespace Go.Proofs.YtkajeepbelfpiaaGreatDoor
open Go Go.RowKit
attribute [-go_sem] Sha.exec_store

theorem nil_yes (w : World) : (binOp BinOp.eql 56 (.slice none 0 0) (.slice none 0 0)).run Tryz.prog w = .ok (.bool true) w := by kernel_rfl
theorem nil_no (a : Addr) (n cap : Nat) (w : World) : (binOp BinOp.eql 56 (.slice (some a) n cap) (.slice none 0 0)).run Tryz.prog w = .ok (.bool false) w := by kernel_rfl
attribute [local go_sem] nil_yes nil_no
set_option maxHeartbeats 1000000 in
theorem clone_any (l : List (BitVec 8)) (p : Option Addr) (n cap : Nat) (w : World) (hl : l.length = n) (hs : Sl w p l) (hp : p = none → cap = 0) (hnc : n ≤ cap) (hn : n < 2000000000) : Calls Tryz.prog 109 #[.slice p n cap] w (fun e w' => GivesB w l e w') := by
  cases p with
  | none =>
    obtain rfl := hp rfl
    obtain rfl : n = 0 := by omega
    have hl0 : l = [] := List.eq_nil_of_length_eq_zero hl
    subst hl0
    clear hs hp hnc hn hl
    go_enter Tryz.func109, Tryz.ntmps109
    go_wp2
    go_ret
    exact ⟨_, rfl, ⟨rfl, .inl ⟨rfl, rfl⟩⟩, Below.refl _ _⟩
  | some a =>
    have HSE := Lib.hid (hs.of_below (show Below w.heap.size w (w.alloc (.cells #[] 5)) from (Below.refl _ _).alloc (Nat.le_refl _) _))
    have HO := Lib.hid (OwnB.empty w w.heap.size (Nat.le_refl _))
    have HB := Lib.hid (show Below w.heap.size w (w.alloc (.cells #[] 5)) from (Below.refl _ _).alloc (Nat.le_refl _) _)
    have HL := Lib.hid hl
    have hsz : w.heap.size ≤ (w.alloc (.cells #[] 5)).heap.size := by rw [World.size_alloc]; omega
    clear hs hp hl
    go_enter Tryz.func109, Tryz.ntmps109
    go_wp2_with (first | (refine wpl_append _ rfl (.tmp 5) (.tmp 6) rfl w.heap.size (.slice (some ⟨w.heap.size, 0, none⟩) 0 0) [] rfl HO.out (some a) n cap l HL.out rfl HSE.out (fun h => by cases h) (by simp; omega) hsz ?_; rintro v3 w3 hO3 hg3; rw [List.nil_append] at hO3; have HO3 := Lib.hid hO3; have HG3 := Lib.hid hg3; clear hO3 hg3))
    go_wp2
    go_ret
    exact ⟨_, rfl, HO3.out, HB.out.grown HG3.out hsz (fun k hk => by have : w.heap.size = k := (by simpa [Value.ownBlock] using hk); omega)⟩
end Go.Proofs.YtkajeepbelfpiaaGreatDoor
/- Slices of bytes of the call's own, whose headers are appended one by one. -/
set_option maxRecDepth 100000
namespace Go.Proofs.YtkajeepbelfpiaaGreatDoor
open Go Go.RowKit Go.Shelf
attribute [-go_sem] Sha.exec_store

theorem elR : ElK 65 56 (.slice none 0 0) 1 24 := ⟨by kernel_rfl, by kernel_rfl, rfl, by decide, by decide⟩
/-- The slice v, among the blocks from N on, holds slices of the bytes bs, whose blocks are not v's. -/
def Hds (w : World) (N : Nat) (v : Value) (bs : List (List (BitVec 8))) : Prop :=
  ∃ hs : List Value, w.ownsRow N 56 1 v bs.length hs ∧ ∀ i, i < bs.length → ∃ p cap, hs[i]? = some (.slice p (bs.getD i []).length cap) ∧ Sl w p (bs.getD i []) ∧ (p = none → cap = 0) ∧ ∀ c o, p = some ⟨c, o, none⟩ → N ≤ c ∧ c < w.heap.size ∧ v.ownBlock ≠ some c
theorem Hds.nil (w : World) (N : Nat) : Hds w N (.slice none 0 0) [] := ⟨[], ⟨rfl, .inl ⟨rfl, rfl⟩⟩, fun i h => absurd h (by simp)⟩
theorem Sl.keepP {w w' : World} {p : Option Addr} {l : List (BitVec 8)} (h : Sl w p l) (hk : ∀ c o, p = some ⟨c, o, none⟩ → c < w.heap.size → w'.heap[c]? = w.heap[c]?) : Sl w' p l := fun j hj => by
  obtain ⟨c, o, e, hc⟩ := h j hj
  exact ⟨c, o, e, by rw [World.cell?_of_block (w := w) (hk c o e (World.block_lt_of_cell? w _ hc))]; exact hc⟩
theorem Hds.keep {w w' : World} {N : Nat} {v : Value} {bs : List (List (BitVec 8))} (h : Hds w N v bs) (hs : w.heap.size ≤ w'.heap.size) (hb : ∀ c, N ≤ c → c < w.heap.size → w'.heap[c]? = w.heap[c]?) : Hds w' N v bs := by
  obtain ⟨cs, h1, h2⟩ := h
  refine ⟨cs, own_keep h1 (fun g hg => hb g (h1.lt g hg).1 (h1.lt g hg).2), fun i hi => ?_⟩
  obtain ⟨p, cap, e1, e2, e3, e4⟩ := h2 i hi
  exact ⟨p, cap, e1, e2.keepP (fun c o e hlt => hb c (e4 c o e).1 hlt), e3, fun c o e => ⟨(e4 c o e).1, Nat.lt_of_lt_of_le (e4 c o e).2.1 hs, (e4 c o e).2.2⟩⟩
theorem Hds.of_below {w w' : World} {N : Nat} {v : Value} {bs : List (List (BitVec 8))} (h : Hds w N v bs) (k : Below w.heap.size w w') : Hds w' N v bs := h.keep k.size fun c _ hc => k.block c hc
theorem Hds.far {w : World} {N b : Nat} {v : Value} {bs : List (List (BitVec 8))} (h : Hds w N v bs) (hb : b < N) {o : Nat} {x : Value} : Hds (w.setCell ⟨b, o, none⟩ x) N v bs := h.keep (by simp) fun c hc _ => Below.heap_setCell _ _ _ _ (by show c ≠ b; omega)
theorem Hds.put {w : World} {N k : Nat} {o : Obj} {v : Value} {bs : List (List (BitVec 8))} (h : Hds w N v bs) (hlt : k < w.heap.size) (hk : k < N := by omega) : Hds (w.putObj k o) N v bs := h.keep (below_putP (N := k) o (Nat.le_refl _) hlt).size fun c hc _ => World.putObj_heap_other (by omega)
theorem Hds.lower {w : World} {N M : Nat} {v : Value} {bs : List (List (BitVec 8))} (h : Hds w N v bs) (hM : M ≤ N) : Hds w M v bs := by
  obtain ⟨cs, h1, h2⟩ := h
  refine ⟨cs, own_lower h1 hM, fun i hi => ?_⟩
  obtain ⟨p, cap, e1, e2, e3, e4⟩ := h2 i hi
  exact ⟨p, cap, e1, e2, e3, fun c o e => ⟨Nat.le_trans hM (e4 c o e).1, (e4 c o e).2⟩⟩
theorem Hds.push {w w' : World} {N : Nat} {v v' : Value} {bs : List (List (BitVec 8))} {cs : List Value} {p : Option Addr} {cap : Nat} {r : List (BitVec 8)} (h1 : w.ownsRow N 56 1 v bs.length cs)
    (h2 : ∀ i, i < bs.length → ∃ p cap, cs[i]? = some (.slice p (bs.getD i []).length cap) ∧ Sl w p (bs.getD i []) ∧ (p = none → cap = 0) ∧ ∀ c o, p = some ⟨c, o, none⟩ → N ≤ c ∧ c < w.heap.size ∧ v.ownBlock ≠ some c)
    (hs : Sl w p r) (hp : p = none → cap = 0) (hb : ∀ c o, p = some ⟨c, o, none⟩ → N ≤ c ∧ c < w.heap.size ∧ v.ownBlock ≠ some c)
    (hO : w'.ownsRow N 56 1 v' (bs.length + 1) (cs ++ [.slice p r.length cap])) (hg : w.grownBy w' v.ownBlock) (hor : v'.ownBlock = v.ownBlock ∨ v'.ownBlock = some w.heap.size) : Hds w' N v' (bs ++ [r]) := by
  have hcl : cs.length = bs.length := by have := h1.1; omega
  have key : ∀ c, c < w.heap.size → v.ownBlock ≠ some c → w'.heap[c]? = w.heap[c]? ∧ v'.ownBlock ≠ some c := fun c h3 h4 =>
    ⟨hg.block c h3 (fun e => h4 e.symm), fun e => by
      rcases hor with e2 | e2
      · exact h4 (by rw [← e2]; exact e)
      · rw [e2] at e; injection e with e; omega⟩
  refine ⟨cs ++ [.slice p r.length cap], by rw [List.length_append]; exact hO, fun i hi => ?_⟩
  by_cases h : i < bs.length
  · obtain ⟨p', cap', e1, e2, e3, e4⟩ := h2 i h
    have hgd : (bs ++ [r]).getD i [] = bs.getD i [] := by simp [List.getD_eq_getElem?_getD, List.getElem?_append_left h]
    rw [hgd]
    exact ⟨p', cap', by rw [List.getElem?_append_left (by omega)]; exact e1, e2.keepP (fun c o e hlt => (key c hlt (e4 c o e).2.2).1), e3, fun c o e => ⟨(e4 c o e).1, Nat.lt_of_lt_of_le (e4 c o e).2.1 hg.size, (key c (e4 c o e).2.1 (e4 c o e).2.2).2⟩⟩
  · have hi' : i = bs.length := by rw [List.length_append] at hi; simp at hi; omega
    subst hi'
    have hgd : (bs ++ [r]).getD bs.length [] = r := by simp [List.getD_eq_getElem?_getD]
    rw [hgd]
    exact ⟨p, cap, by rw [← hcl]; simp, hs.keepP (fun c o e hlt => (key c hlt (hb c o e).2.2).1), hp, fun c o e => ⟨(hb c o e).1, Nat.lt_of_lt_of_le (hb c o e).2.1 hg.size, (key c (hb c o e).2.1 (hb c o e).2.2).2⟩⟩
/-- Such a slice's shape. -/
theorem Hds.shape {w : World} {N : Nat} {v : Value} {bs : List (List (BitVec 8))} (h : Hds w N v bs) : ∃ p cap, v = .slice p bs.length cap ∧ (p = none → cap = 0) ∧ bs.length ≤ cap ∧ (∀ c o, p = some ⟨c, o, none⟩ → N ≤ c ∧ c < w.heap.size) ∧
    ∀ i, i < bs.length → ∃ c o q d, p = some ⟨c, o, none⟩ ∧ w.cell? ⟨c, o + i, none⟩ = some (.slice q (bs.getD i []).length d) ∧ Sl w q (bs.getD i []) ∧ (q = none → d = 0) := by
  obtain ⟨cs, h1, h2⟩ := h
  obtain ⟨p, cap, e, h3, h4, h5, h6⟩ := own_shape h1
  refine ⟨p, cap, e, h4, h5, h6, fun i hi => ?_⟩
  obtain ⟨q, d, e1, e2, e3, -⟩ := h2 i hi
  obtain ⟨c, o, ep, hlt, hc⟩ := h3.cell e1
  exact ⟨c, o, q, d, ep, hc, e2, e3⟩
theorem others_belowP {W W' : World} (h : Below W.heap.size W W') : KeepsOthers W W' := ⟨h.size, fun k o hk _ => by rw [h.block k (Array.getElem?_eq_some_iff.1 hk).1]; exact hk⟩
end Go.Proofs.YtkajeepbelfpiaaGreatDoor
/- record.digests. -/
set_option maxRecDepth 100000
namespace Go.Proofs.YtkajeepbelfpiaaGreatDoor
open Go Go.RowKit Go.Shelf

attribute [-go_sem] Sha.exec_store
theorem elD : ElK 42 41 (.agg (Array.replicate 32 (Value.int .u8 0))) 32 32 := ⟨by kernel_rfl, by kernel_rfl, rfl, by decide, by decide⟩
/-- A digest's cells. -/
def digC (d : List (BitVec 8)) : List Value := d.map B
theorem digC_len (d : List (BitVec 8)) : (digC d).length = d.length := by unfold digC; rw [List.length_map]
theorem digC_one (d : List (BitVec 8)) : ∀ u ∈ digC d, u.oneCell' = true := one_map d
theorem below_newD (w : World) (o : Obj) : Below w.heap.size w (w.alloc o) := (Below.refl _ _).alloc (Nat.le_refl _) _
theorem dig_tab {d : List (BitVec 8)} (h : d.length = 32) : (tab 32 (dgF d)).toList = digC d := by
  apply List.ext_getElem?
  intro i
  unfold tab digC dgF
  by_cases hi : i < 32
  · simp [hi, List.getD_eq_getElem?_getD, show i < d.length by omega]
  · rw [List.getElem?_eq_none (by simp; omega), List.getElem?_eq_none (by simp; omega)]
theorem lsc_dig (w : World) (d : List (BitVec 8)) (h : d.length = 32) : LsC (w.alloc (.cells (tab 32 (dgF d)) 41)) (some ⟨w.heap.size, 0, none⟩) (digC d) := by
  have := LsC.made w (digC d) 41
  have e : (digC d).toArray = tab 32 (dgF d) := by rw [← dig_tab h, Array.toArray_toList]
  rw [e] at this
  exact this
set_option maxRecDepth 100000 in
theorem bsD1 (d : List (BitVec 8)) (w : World) : (bsT 42 1 #[(0, digV d)]).run Tryz.prog w = .ok (.value (.slice (some ⟨w.heap.size, 0, none⟩) 1 1)) (w.alloc (.cells (tab 32 (dgF d)) 41)) := by
  unfold digV
  kernel_rfl
set_option maxRecDepth 100000 in
theorem bsBlk (q : Option Addr) (n i : Nat) (w : World) : (bsT 65 1 #[(0, blkS q n i)]).run Tryz.prog w = .ok (.value (.slice (some ⟨w.heap.size, 0, none⟩) 1 1)) (w.alloc (.cells #[blkS q n i] 56)) := by
  unfold blkS
  kernel_rfl
attribute [local go_sem] Oper.semAt_some bsD1 bsBlk
attribute [local go_sem ↓] exec_bs
/-- What the walk carries. -/
def InvD (w : World) (N : Nat) (l : List (BitVec 8)) (pre : List Nat) (A : World) : Prop :=
  ∃ v, A.cell? ⟨N, 0, none⟩ = some v ∧ A.frozen? ⟨N, 0, none⟩ = false ∧ A.ownsRow (N + 4) 41 32 v pre.length (pre.flatMap fun i => digC (digL (blkL l i))) ∧ Below w.heap.size w A ∧ N + 2 ≤ A.heap.size
theorem InvD.of_below {w : World} {N : Nat} {l : List (BitVec 8)} {pre : List Nat} {A A' : World} (h : InvD w N l pre A) (hB : Below A.heap.size A A') : InvD w N l pre A' := by
  obtain ⟨v, h1, h2, h3, h4, h5⟩ := h
  have hlt := World.block_lt_of_cell? A _ h1
  exact ⟨v, by rw [hB.cell (by exact hlt)]; exact h1, by rw [hB.frozen (by exact hlt)]; exact h2, own_below h3 hB, h4.trans (hB.mono h4.size), Nat.le_trans h5 hB.size⟩
theorem InvD.bears (w : World) (N : Nat) (l : List (BitVec 8)) (hw : w.heap.size = N) : BearsP (N + 2) (InvD w N l) :=
  ⟨fun pre A o h => h.of_below (below_newD _ _),
   fun pre A o hlt h => by
    obtain ⟨v, h1, h2, h3, h4, h5⟩ := h
    have hB := below_putP (N := N + 2 + 1) o (Nat.le_refl _) hlt
    exact ⟨v, by rw [hB.cell (by show N < _; omega)]; exact h1, by rw [hB.frozen (by show N < _; omega)]; exact h2, own_keep h3 (fun g hg => World.putObj_heap_other (by have := (h3.lt g hg).1; omega)), h4.trans (hB.mono (by omega)), Nat.le_trans h5 hB.size⟩,
   fun pre A k h => h.of_below ((show Dr A (A.drewN k) from ⟨k, rfl⟩).below _)⟩
end Go.Proofs.YtkajeepbelfpiaaGreatDoor
/- Digests by value compared. -/
set_option maxRecDepth 100000
namespace Go.Proofs.YtkajeepbelfpiaaGreatDoor
open Go Go.RowKit
attribute [-go_sem] Sha.exec_store

/-- Are two digests the same? -/
def deq (a b : List (BitVec 8)) : Bool := (List.range 32).all fun i => a.getD i 0#8 == b.getD i 0#8
theorem deq_self (a : List (BitVec 8)) : deq a a = true := by unfold deq; simp
theorem digV_sha (l : List (BitVec 8)) : digV l = Sha.dgV fun i => l.getD i 0#8 := by
  unfold Sha.dgV digV
  have : tab 32 (dgF l) = Sha.tab 32 (fun i => Sha.B (l.getD i 0#8)) := by
    apply Array.ext_getElem?
    intro i
    by_cases h : i < 32
    · rw [tab_get 32 _ i h, Sha.tab_get 32 _ i h]
      unfold dgF
      rw [shaB]
    · rw [Array.getElem?_eq_none (by rw [tab_size]; omega), Array.getElem?_eq_none (by rw [Sha.tab_size]; omega)]
  rw [this]
theorem digV_agg (l : List (BitVec 8)) : digV l = .agg (tab 32 (dgF l)) := by unfold digV; rfl
theorem eql_run (a b : List (BitVec 8)) (w : World) : (binOp .eql 41 (digV a) (digV b)).run Tryz.prog w = .ok (.bool (deq a b)) w := by
  have := run_eql_struct (P := Tryz.prog) w 41 (tab 32 (dgF a)) (tab 32 (dgF b))
  rw [← digV_agg, ← digV_agg] at this
  rw [digV_sha a, digV_sha b] at this ⊢
  rw [Sha.eq_digest 9998] at this
  exact this
theorem neq_run (a b : List (BitVec 8)) (w : World) : (binOp .neq 41 (digV a) (digV b)).run Tryz.prog w = .ok (.bool (!deq a b)) w := by
  have := run_neq_struct (P := Tryz.prog) w 41 (tab 32 (dgF a)) (tab 32 (dgF b))
  rw [← digV_agg, ← digV_agg] at this
  rw [digV_sha a, digV_sha b] at this ⊢
  rw [Sha.eq_digest 9998] at this
  exact this
theorem exec_eqlD (r : Operand → Value) (dst : Option Tmp) (x y : Operand) (z : TypeId) (ty : TypeId) (pos : String) (after : Array Edge) (guard : Option (Nat × Bool)) :
    execOp r ⟨dst, .binOp .eql 41 x y z, ty, pos, after, guard⟩ = eqX .eql 41 x y (r x) (r y) := rfl
theorem exec_neqD (r : Operand → Value) (dst : Option Tmp) (x y : Operand) (z : TypeId) (ty : TypeId) (pos : String) (after : Array Edge) (guard : Option (Nat × Bool)) :
    execOp r ⟨dst, .binOp .neq 41 x y z, ty, pos, after, guard⟩ = eqX .neq 41 x y (r x) (r y) := rfl
theorem eqlD (x y : Operand) (a b : List (BitVec 8)) (w : World) : (eqX .eql 41 x y (digV a) (digV b)).run Tryz.prog w = .ok (.value (.bool (deq a b))) w := by
  have hg : (eqGuard .eql 41 x y (digV a) (digV b)).run Tryz.prog w = .ok () w := by rw [digV_agg, digV_agg]; exact run_eqGuard_agg (P := Tryz.prog) w .eql 41 x y _ _ (by kernel_rfl)
  simp only [eqX, Sem.run_bind, hg, eql_run, Result.andThen_ok, Sem.run_pure]
theorem neqD (x y : Operand) (a b : List (BitVec 8)) (w : World) : (eqX .neq 41 x y (digV a) (digV b)).run Tryz.prog w = .ok (.value (.bool (!deq a b))) w := by
  have hg : (eqGuard .neq 41 x y (digV a) (digV b)).run Tryz.prog w = .ok () w := by rw [digV_agg, digV_agg]; exact run_eqGuard_agg (P := Tryz.prog) w .neq 41 x y _ _ (by kernel_rfl)
  simp only [eqX, Sem.run_bind, hg, neq_run, Result.andThen_ok, Sem.run_pure]
end Go.Proofs.YtkajeepbelfpiaaGreatDoor
/- Where a record's digests lie. -/
set_option maxRecDepth 100000
namespace Go.Proofs.YtkajeepbelfpiaaGreatDoor
open Go Go.RowKit
attribute [-go_sem] Sha.exec_store

/-- The digests ds are where the record has them. -/
structure DgAt (w : World) (r : Rc) (ds : List By) : Prop where
  n : r.n = ds.length
  lie : LsC w r.q (ds.flatMap digC)
  each : ∀ d ∈ ds, d.length = 32
  nil : r.q = none → r.cap = 0
  le : r.n ≤ r.cap
  whole : r.whole.length = 32
theorem DgAt.of_below {w u : World} {r : Rc} {ds : List By} (h : DgAt w r ds) (hB : Below w.heap.size w u) : DgAt u r ds := ⟨h.n, h.lie.of_below hB, h.each, h.nil, h.le, h.whole⟩
theorem DgAt.keep {w u : World} {r : Rc} {ds : List By} (h : DgAt w r ds) (hk : ∀ c o, r.q = some ⟨c, o, none⟩ → c < w.heap.size → u.heap[c]? = w.heap[c]?) : DgAt u r ds := ⟨h.n, h.lie.keep hk, h.each, h.nil, h.le, h.whole⟩
theorem flat_digC : ∀ ds : List By, ds.flatMap digC = (ds.flatten).map B
  | [] => rfl
  | d :: ds => by
    have ih := flat_digC ds
    unfold digC at ih ⊢
    rw [List.flatMap_cons, ih, List.flatten_cons, List.map_append]
theorem flat_len32 : ∀ {ds : List By}, (∀ d ∈ ds, d.length = 32) → ds.flatten.length = ds.length * 32
  | [], _ => rfl
  | d :: ds, h => by
    rw [List.flatten_cons, List.length_append, h d (by simp), flat_len32 (fun x hx => h x (by simp [hx])), List.length_cons]
    omega
theorem flat_get32 : ∀ {ds : List By} (h : ∀ d ∈ ds, d.length = 32) (i j : Nat), j < 32 → i < ds.length → (ds.flatten)[32 * i + j]? = (ds.getD i [])[j]?
  | [], _, i, j, _, hi => absurd hi (by simp)
  | d :: ds, h, i, j, hj, hi => by
    have hd := h d (by simp)
    cases i with
    | zero => rw [List.flatten_cons, List.getElem?_append_left (by omega)]; simp
    | succ i =>
      rw [List.flatten_cons, List.getElem?_append_right (by omega), hd, show 32 * (i + 1) + j - 32 = 32 * i + j by omega, flat_get32 (fun x hx => h x (by simp [hx])) i j hj (by simpa using hi)]
      simp
/-- One digest of a record, where it lies. -/
theorem DgAt.at {w : World} {r : Rc} {ds : List By} (h : DgAt w r ds) (i : Nat) (hi : i < ds.length) : ∃ c o, r.q = some ⟨c, o, none⟩ ∧ c < w.heap.size ∧ (∀ j, j < 32 → w.cell? ⟨c, o + 32 * i + j, none⟩ = some (B ((ds.getD i []).getD j 0#8))) ∧ (ds.getD i []).length = 32 := by
  have hm : ds.getD i [] ∈ ds := by rw [List.getD_eq_getElem?_getD, List.getElem?_eq_getElem hi]; exact List.getElem_mem hi
  have h32 := h.each _ hm
  have hl : (ds.flatMap digC).length = ds.length * 32 := by rw [flat_digC, List.length_map, flat_len32 h.each]
  have hcell : ∀ j, j < 32 → (ds.flatMap digC)[32 * i + j]? = some (B ((ds.getD i []).getD j 0#8)) := fun j hj => by
    rw [flat_digC, List.getElem?_map, flat_get32 h.each i j hj hi]
    rw [List.getElem?_eq_getElem (by omega), List.getD_eq_getElem?_getD (l := ds.getD i []), List.getElem?_eq_getElem (by omega)]
    rfl
  obtain ⟨c, o, e, hlt, hc⟩ := h.lie.cell (hcell 0 (by decide))
  refine ⟨c, o, e, hlt, fun j hj => ?_, h32⟩
  obtain ⟨c2, o2, e2, -, hc2⟩ := h.lie.cell (hcell j hj)
  rw [e] at e2
  injection e2 with e2
  injection e2 with e3 e4
  subst e3 e4
  rw [Nat.add_assoc]
  exact hc2
theorem DgAt.sl {w : World} {r : Rc} {ds : List By} (h : DgAt w r ds) : Sl w r.q ds.flatten := fun j hj => by
  have e : (ds.flatMap digC)[j]? = some (B (ds.flatten.getD j 0#8)) := by rw [flat_digC, List.getElem?_map, List.getElem?_eq_getElem hj, List.getD_eq_getElem?_getD, List.getElem?_eq_getElem hj]; rfl
  obtain ⟨c, o, e1, -, e2⟩ := h.lie.cell e
  exact ⟨c, o, e1, e2⟩
/-- Digests of the call's own, as a record has them. -/
theorem dg_own {w : World} {base : Nat} {v : Value} {ds : List By} {n : Nat} (h : w.ownsRow base 41 32 v n (ds.flatMap digC)) (hn : n = ds.length) (he : ∀ d ∈ ds, d.length = 32) : ∃ q cap, v = .slice q ds.length cap ∧ (∀ c o, q = some ⟨c, o, none⟩ → base ≤ c ∧ c < w.heap.size) ∧ ∀ (r : Rc), r.q = q → r.n = ds.length → r.cap = cap → r.whole.length = 32 → DgAt w r ds := by
  subst hn
  obtain ⟨p, cap, e, h1, h2, h3, h4⟩ := own_shape h
  exact ⟨p, cap, e, h4, fun r e1 e2 e3 e4 => ⟨e2, by rw [e1]; exact h1, he, by rw [e1, e3]; exact h2, by rw [e2, e3]; exact h3, e4⟩⟩
theorem dg_nil (w : World) (r : Rc) (h1 : r.q = none) (h2 : r.n = 0) (h3 : r.cap = 0) (h4 : r.whole.length = 32) : DgAt w r [] := ⟨by rw [h2]; rfl, fun j hj => absurd hj (by simp), (fun d hd => by cases hd), fun _ => h3, by omega, h4⟩
theorem z32_len : z32.length = 32 := by unfold z32; simp
end Go.Proofs.YtkajeepbelfpiaaGreatDoor
/- What stamps and versions records may have. -/
set_option maxRecDepth 100000
namespace Go.Proofs.YtkajeepbelfpiaaGreatDoor
open Go Go.RowKit
attribute [-go_sem] Sha.exec_store

attribute [local go_sem ↓] exec_boxA exec_loadA exec_indexA exec_allocA exec_storeA exec_buildA exec_eqlA exec_neqA exec_boxV exec_loadV exec_indexV exec_allocV exec_storeV exec_buildV exec_eqlV exec_neqV
attribute [local go_sem] boxA indexA storeNewA buildA eqlA neqA boxV indexV storeNewV buildV eqlV neqV

/-- A stamp. -/
def stV (s t c : Int) : Value := .agg #[.int .i64 s, .int .i64 t, .int .i64 c]
def okS (s t c : Int) : Bool := decide (0 ≤ s) && (decide (s ≤ 16384) && (decide (0 ≤ t) && decide (0 ≤ c)))
def okV (f : Nat → Int) : Bool := gdV f && !(veq f fun _ => 0)
set_option maxRecDepth 100000 in
set_option maxHeartbeats 2000000 in
theorem stamp_any (s t c : Int) (w : World) : Calls Tryz.prog 149 #[stV s t c] w fun e w' => e = .returned (.bool (okS s t c)) ∧ Below w.heap.size w w' := by
  unfold stV okS
  have HB := Lib.hid (show Below w.heap.size w (w.alloc (.cells #[.int .i64 s, .int .i64 t, .int .i64 c] 38)) from (Below.refl _ _).alloc (Nat.le_refl _) _)
  go_enter Tryz.func149, Tryz.ntmps149
  by_cases h1 : 0 ≤ s
  · have d1 : decide (0 ≤ s) = true := decide_eq_true h1
    by_cases h2 : s ≤ 16384
    · have d2 : decide (s ≤ 16384) = true := decide_eq_true h2
      by_cases h3 : 0 ≤ t
      · have d3 : decide (0 ≤ t) = true := decide_eq_true h3
        by_cases h4 : 0 ≤ c
        · have d4 : decide (0 ≤ c) = true := decide_eq_true h4
          go_wp2
          go_ret
          exact ⟨by simp [h1, h2, h3, h4], HB.out⟩
        · have d4 : decide (0 ≤ c) = false := decide_eq_false h4
          go_wp2
          go_ret
          exact ⟨by simp [h1, h2, h3, h4], HB.out⟩
      · have d3 : decide (0 ≤ t) = false := decide_eq_false h3
        go_wp2
        go_ret
        exact ⟨by simp [h1, h2, h3], HB.out⟩
    · have d2 : decide (s ≤ 16384) = false := decide_eq_false h2
      go_wp2
      go_ret
      exact ⟨by simp [h1, h2], HB.out⟩
  · have d1 : decide (0 ≤ s) = false := decide_eq_false h1
    go_wp2
    go_ret
    exact ⟨by simp [h1], HB.out⟩
set_option maxRecDepth 100000 in
set_option maxHeartbeats 2000000 in
theorem version_any (f : Nat → Int) (w : World) : Calls Tryz.prog 150 #[vcV f] w fun e w' => e = .returned (.bool (okV f)) ∧ Below w.heap.size w w' := by
  have HG := Lib.hid (fun u => good9_any f u)
  obtain ⟨W, hW⟩ : ∃ W, w.alloc (.cells (tab 16 (vf f)) 40) = W := ⟨_, rfl⟩
  have HR := Lib.hid (show Row W w.heap.size 40 16 (vf f) from by rw [← hW]; exact Row.new w 40 16 (vf f))
  have HB := Lib.hid (show Below w.heap.size w W from by rw [← hW]; exact (Below.refl _ _).alloc (Nat.le_refl _) _)
  have HS := Lib.hid (fun (u : World) (hu : Below W.heap.size W u) => (⟨loadVT vtV (VecAt.of_row (HR.out.of_below hu) (Nat.le_refl _)), hu⟩ : (ldT 40 (.pointer (some ⟨w.heap.size, 0, none⟩))).run Tryz.prog u = .ok (.value (vcV f)) u ∧ Below W.heap.size W u))
  obtain ⟨g, hg⟩ : ∃ g, gdV f = g := ⟨_, rfl⟩
  have HOK := Lib.hid (show okV f = (g && !(veq f fun _ => 0)) from by unfold okV; rw [hg])
  rw [hg] at HG
  clear hg
  have l1 := (HS.out W (Below.refl _ _)).1
  go_enter Tryz.func150, Tryz.ntmps150
  go_wp2_with fail
  clear l1 hW
  refine (HG.out _).mono ?_
  rintro e u ⟨rfl, hB⟩
  have l2 := (HS.out u hB).1
  have HB2 := Lib.hid (HB.out.trans (hB.mono HB.out.size))
  clear hB
  cases g with
  | false =>
    go_wp2
    go_ret
    exact ⟨by rw [HOK.out]; rfl, HB2.out⟩
  | true =>
    go_wp2
    go_ret
    exact ⟨by rw [HOK.out]; rfl, HB2.out⟩
attribute [irreducible] stV
end Go.Proofs.YtkajeepbelfpiaaGreatDoor
/- The reference of layer 7: signs, paths, slashes, beginnings. -/
set_option maxRecDepth 100000
namespace Go.Proofs.YtkajeepbelfpiaaGreatDoor
open Go Go.RowKit
attribute [-go_sem] Sha.exec_store

def signN (c : Nat) : Bool := allS.any fun x => x.toNat == c
theorem signB_eq (c : UInt8) : signB c = signN c.toNat := by
  unfold signB signN
  rw [List.contains_eq_any_beq]
  congr 1
  funext x
  by_cases h : c = x
  · subst h; simp
  · have : ¬ x.toNat = c.toNat := fun e => h (UInt8.toNat_inj.1 e.symm)
    rw [beq_eq_false_iff_ne.2 h]
    simp [this]
theorem i64s (x : Nat) (h : x < 9000000000000000000) : IntKind.i64.wrap ((x : Int) + 1) = (x : Int) + 1 := by rw [IntKind.wrap_i64]; omega
set_option maxRecDepth 100000 in
set_option maxHeartbeats 1000000 in
theorem refSign_any (c : Nat) (hc : c < 256) (w : World) : Calls Tryz.prog 148 #[.int .u8 (c : Int)] w fun e w' => e = .returned (.bool (signN c)) ∧ w = w' := by
  obtain ⟨A, hA⟩ : ∃ A, A = allS := ⟨_, rfl⟩
  have hlen : A.length = 67 := by rw [hA]; rfl
  have HA := Lib.hid hA
  have hlit : (⟨(List.append [97, 98, 99, 100, 101, 102, 103, 104, 105, 106, 107, 108, 109, 110, 111, 112, 113, 114, 115, 116, 117, 118, 119, 120, 121, 122, 65, 66, 67, 68, 69, 70, 71] [72, 73, 74, 75, 76, 77, 78, 79, 80, 81, 82, 83, 84, 85, 86, 87, 88, 89, 90, 48, 49, 50, 51, 52, 53, 54, 55, 56, 57, 45, 95, 46, 126, 43]).toArray⟩ : ByteArray) = mkS A := by rw [hA]; exact mkS_lit allS
  clear hA
  go_enter Tryz.func148, Tryz.ntmps148
  rw [hlit]
  clear hlit
  go_wp2
  go_loopw [4] (fun vi wr => ∃ i : Nat, i ≤ 67 ∧ vi = .int .i64 i ∧ (∀ j, j < i → chr A j ≠ c) ∧ w = wr) (fun vi _ => 67 - (intOf vi).toNat)
  case atStart => exact ⟨0, by decide, rfl, fun j h => absurd h (by omega), rfl⟩
  case round =>
    obtain ⟨i, hi, rfl, hn, rfl⟩ := hrel
    by_cases hlt : i < 67
    · have hl : i < A.length := by omega
      have z1 : (i : Int) < 67 := by omega
      have z2 : decide ((i : Int) < 67) = true := decide_eq_true z1
      have hw := i64s i (by omega)
      obtain ⟨x, hx⟩ : ∃ x, chr A i = x := ⟨_, rfl⟩
      by_cases hxc : x = c
      · subst hxc
        have hz : ((x : Int) == (x : Int)) = true := by simp
        have HS := Lib.hid (show signN x = true from by
          unfold signN
          rw [← HA.out, List.any_eq_true]
          exact ⟨A[i], List.getElem_mem hl, by rw [← chr_eq hl, hx]; simp⟩)
        clear hn
        go_wp2
        go_ret
        exact ⟨by rw [HS.out]; rfl, rfl⟩
      · have hz : ((x : Int) == (c : Int)) = false := by simp; omega
        have HN := Lib.hid (show ∀ j, j < i + 1 → chr A j ≠ c from fun j h => by
          rcases Nat.lt_succ_iff_lt_or_eq.1 h with h | h
          · exact hn j h
          · rw [h, hx]; exact hxc)
        clear hn
        go_wp2
        exact ⟨⟨i + 1, by omega, by go_num, HN.out, trivial⟩, by simp [intOf]; omega⟩
    · obtain rfl : i = 67 := by omega
      have HS := Lib.hid (show signN c = false from by
        unfold signN
        rw [← HA.out, List.any_eq_false]
        intro x hx
        obtain ⟨j, hj, rfl⟩ := List.getElem_of_mem hx
        have := hn j (by omega)
        rw [chr_eq hj] at this
        simpa using this)
      clear hn
      go_wp2
      go_ret
      exact ⟨by rw [HS.out]; rfl, rfl⟩
end Go.Proofs.YtkajeepbelfpiaaGreatDoor
/- The reference's Good. -/
set_option maxRecDepth 100000
namespace Go.Proofs.YtkajeepbelfpiaaGreatDoor
open Go Go.RowKit
attribute [-go_sem] Sha.exec_store

/-- What is known of a path when the bytes from place f to place i have been looked at, and all names ahead of f. -/
structure Gd7 (l : S8) (i f : Nat) : Prop where
  fi : f ≤ i
  il : i ≤ l.length
  all : allN l = allN (l.drop f)
  seg : ∀ j, f ≤ j → j < i → chr l j ≠ 47 ∧ signN (chr l j) = true
theorem Gd7.zero (l : S8) : Gd7 l 0 0 := ⟨Nat.le_refl _, Nat.zero_le _, by rw [List.drop_zero], fun j _ h => absurd h (by omega)⟩
section
variable {l : S8} {i f : Nat}
theorem mem_seg {x : UInt8} (hx : x ∈ (l.drop f).take (i - f)) (hi : i ≤ l.length) : ∃ j, f ≤ j ∧ j < i ∧ chr l j = x.toNat := by
  obtain ⟨k, hk, rfl⟩ := List.getElem_of_mem hx
  rw [List.length_take, List.length_drop] at hk
  refine ⟨f + k, by omega, by omega, ?_⟩
  rw [chr_eq (by omega)]
  simp [List.getElem_take, List.getElem_drop]
theorem Gd7.noSlash (h : Gd7 l i f) : ∀ c ∈ (l.drop f).take (i - f), c ≠ 47 := fun c hc e => by
  obtain ⟨j, h1, h2, h3⟩ := mem_seg hc h.il
  exact (h.seg j h1 h2).1 (by rw [h3, e]; rfl)
theorem Gd7.signs (h : Gd7 l i f) : ((l.drop f).take (i - f)).all signB = true := by
  rw [List.all_eq_true]
  intro c hc
  obtain ⟨j, h1, h2, h3⟩ := mem_seg hc h.il
  rw [signB_eq, ← h3]
  exact (h.seg j h1 h2).2
/-- A name of signs is told by its looks. -/
theorem okN_signs {n : S8} (h : n.all signB = true) : okN n = (n != [] && n != [46] && n != [46, 46]) := by unfold okN; rw [h, Bool.and_true]
theorem Gd7.step (h : Gd7 l i f) (hi : i < l.length) (h47 : chr l i ≠ 47) (hs : signN (chr l i) = true) : Gd7 l (i + 1) f :=
  ⟨Nat.le_succ_of_le h.fi, hi, h.all, fun j h1 h2 => by
    rcases Nat.lt_succ_iff_lt_or_eq.1 h2 with h3 | h3
    · exact h.seg j h1 h3
    · rw [h3]; exact ⟨h47, hs⟩⟩
theorem take_snoc (hi : i < l.length) (hf : f ≤ i) : (l.drop f).take (i + 1 - f) = (l.drop f).take (i - f) ++ [l[i]] := by
  rw [show i + 1 - f = (i - f) + 1 by omega, List.take_add_one]
  congr 1
  rw [List.getElem?_drop, show f + (i - f) = i by omega, List.getElem?_eq_getElem hi]
  rfl
theorem Gd7.bad (h : Gd7 l i f) (hi : i < l.length) (h47 : chr l i ≠ 47) (hs : signN (chr l i) = false) : allN l = false := by
  rw [h.all, ← List.take_append_drop (i + 1 - f) (l.drop f)]
  rw [take_snoc hi h.fi]
  refine allN_odd _ (fun c hc => ?_) l[i] (by simp) (by rw [signB_eq, ← chr_eq hi]; exact hs)
  rw [List.mem_append] at hc
  rcases hc with hc | hc
  · exact h.noSlash c hc
  · rw [List.mem_singleton] at hc
    subst hc
    intro e
    exact h47 (by rw [chr_eq hi, e]; rfl)
theorem Gd7.last (h : Gd7 l i f) (hi : i = l.length) : allN l = okN ((l.drop f).take (i - f)) := by
  have e : (l.drop f).take (i - f) = l.drop f := List.take_of_length_le (by rw [List.length_drop]; omega)
  have hn := h.noSlash
  rw [e] at hn ⊢
  rw [h.all, allN_end hn]
theorem Gd7.slash (h : Gd7 l i f) (hi : i < l.length) (h47 : chr l i = 47) : allN l = (okN ((l.drop f).take (i - f)) && allN (l.drop (i + 1))) := by
  have e : l.drop f = (l.drop f).take (i - f) ++ 47 :: l.drop (i + 1) := by
    have h1 := List.take_append_drop (i - f) (l.drop f)
    rw [List.drop_drop, show f + (i - f) = i by have := h.fi; omega, List.drop_eq_getElem_cons hi] at h1
    have h2 : l[i] = 47 := by
      rw [chr_eq hi] at h47
      exact UInt8.toNat_inj.1 h47
    rw [h2] at h1
    exact h1.symm
  rw [h.all, e, allN_more _ h.noSlash]
  rw [← e]
theorem Gd7.more (h : Gd7 l i f) (hi : i < l.length) (h47 : chr l i = 47) (ho : okN ((l.drop f).take (i - f)) = true) : Gd7 l (i + 1) (i + 1) :=
  ⟨Nat.le_refl _, hi, by rw [h.slash hi h47, ho, Bool.true_and], fun j h1 h2 => absurd h1 (by omega)⟩
end
set_option maxRecDepth 100000 in
set_option maxHeartbeats 2000000 in
theorem refGood_any (l : S8) (hl : l.length < 1000000) (w : World) : Calls Tryz.prog 99 #[.string (mkS l)] w fun e w' => e = .returned (.bool (goodL l)) ∧ w = w' := by
  by_cases h100 : 100 < l.length
  · have h1 : (100 : Int) < (l.length : Int) := by omega
    have h2 : decide ((100 : Int) < (l.length : Int)) = true := decide_eq_true h1
    have HS := Lib.hid (show goodL l = false from by unfold goodL; rw [decide_eq_false (by omega)]; rfl)
    go_enter Tryz.func99, Tryz.ntmps99
    go_wp2
    go_ret
    exact ⟨by rw [HS.out]; rfl, rfl⟩
  · have h1 : ¬ (100 : Int) < (l.length : Int) := by omega
    have h2 : decide ((100 : Int) < (l.length : Int)) = false := decide_eq_false h1
    have HG := Lib.hid (show goodL l = allN l from by unfold goodL; rw [decide_eq_true (by omega), Bool.true_and])
    have H100 := Lib.hid h100
    clear h100
    go_enter Tryz.func99, Tryz.ntmps99
    go_wp2
    go_loopw [3, 4, 5] (fun vf vi vo wr => ∃ i f : Nat, vi = .int .i64 i ∧ vf = .int .i64 f ∧ (Gd7 l i f ∨ (i = l.length + 1 ∧ allN l = true)) ∧ w = wr) (fun vf vi vo _ => l.length + 2 - (intOf vi).toNat)
    case atStart => exact ⟨0, 0, rfl, rfl, .inl (Gd7.zero l), rfl⟩
    case round =>
      obtain ⟨i, f, rfl, rfl, hD, rfl⟩ := hrel
      rcases hD with hD | ⟨hi, hT⟩
      · have hle : (i : Int) ≤ (l.length : Int) := by have := hD.il; omega
        have hld : decide ((i : Int) ≤ (l.length : Int)) = true := decide_eq_true hle
        have hw := i64s i (by omega)
        have hfi : (f : Int) ≤ (i : Int) := by have := hD.fi; omega
        have hfn := hD.fi
        have hin := hD.il
        have HD := Lib.hid hD
        obtain ⟨O, hO⟩ : ∃ O, (l.drop f).take (i - f) = O := ⟨_, rfl⟩
        have HSG := Lib.hid (okN_signs hD.signs)
        have hsl := fun w => sl_S l f i w hfn hin
        rw [hO] at HSG hsl
        clear hD
        by_cases hlt : i < l.length
        · have z1 : (i : Int) < (l.length : Int) := by omega
          have z2 : decide ((i : Int) < (l.length : Int)) = true := decide_eq_true z1
          obtain ⟨c, hc⟩ : ∃ c, chr l i = c := ⟨_, rfl⟩
          have hcl : c < 256 := by rw [← hc]; exact chr_lt l i
          by_cases h47 : c = 47
          · subst h47
            have HSL := Lib.hid (HD.out.slash hlt hc)
            have HMO := Lib.hid (HD.out.more hlt hc)
            rw [hO] at HSL HMO
            rcases (show O = [] ∨ O = [46] ∨ O = [46, 46] ∨ (O ≠ [] ∧ O ≠ [46] ∧ O ≠ [46, 46]) from by
              by_cases a : O = []
              · exact .inl a
              · by_cases b : O = [46]
                · exact .inr (.inl b)
                · by_cases d : O = [46, 46]
                  · exact .inr (.inr (.inl d))
                  · exact .inr (.inr (.inr ⟨a, b, d⟩))) with h | h | h | ⟨a, b, d⟩
            · subst h
              have HFA := Lib.hid (show allN l = false from by rw [HSL.out]; rfl)
              clear hO
              go_wp2
              go_ret
              exact ⟨by rw [HG.out, HFA.out]; rfl, rfl⟩
            · subst h
              have HFA := Lib.hid (show allN l = false from by rw [HSL.out]; rfl)
              clear hO
              go_wp2
              go_ret
              exact ⟨by rw [HG.out, HFA.out]; rfl, rfl⟩
            · subst h
              have HFA := Lib.hid (show allN l = false from by rw [HSL.out]; rfl)
              clear hO
              go_wp2
              go_ret
              exact ⟨by rw [HG.out, HFA.out]; rfl, rfl⟩
            · have a1 : (O == []) = false := beq_eq_false_iff_ne.2 a
              have b1 : (O == [46]) = false := beq_eq_false_iff_ne.2 b
              have d1 : (O == [46, 46]) = false := beq_eq_false_iff_ne.2 d
              have a2 : O.isEmpty = false := by cases O with | nil => exact absurd rfl a | cons _ _ => rfl
              have hok : okN O = true := by rw [HSG.out]; simp [a, b, d]
              have HM2 := Lib.hid (HMO.out hok)
              clear hO hok
              go_wp2
              exact ⟨⟨i + 1, i + 1, by go_num, by go_num, .inl HM2.out, trivial⟩, by simp [intOf]; omega⟩
          · have hz : ((c : Int) == 47) = false := by simp; omega
            have hz2 : ((c : Int) != 47) = true := by simp; omega
            have HSI := Lib.hid (refSign_any c hcl w)
            by_cases hs : signN c = true
            · have HST := Lib.hid (HD.out.step hlt (by rw [hc]; exact h47) (by rw [hc]; exact hs))
              rw [hs] at HSI
              clear hO hsl
              go_wp2_with fail
              refine HSI.out.mono ?_
              rintro e w' ⟨rfl, rfl⟩
              go_wp2
              exact ⟨⟨i + 1, f, by go_num, rfl, .inl HST.out, trivial⟩, by simp [intOf]; omega⟩
            · have hsf : signN c = false := by simpa using hs
              have HBA := Lib.hid (HD.out.bad hlt (by rw [hc]; exact h47) (by rw [hc]; exact hsf))
              rw [hsf] at HSI
              clear hO hsl
              go_wp2_with fail
              refine HSI.out.mono ?_
              rintro e w' ⟨rfl, rfl⟩
              go_wp2
              go_ret
              exact ⟨by rw [HG.out, HBA.out]; rfl, rfl⟩
        · obtain hie : i = l.length := by omega
          have z1 : ¬ (i : Int) < (l.length : Int) := by omega
          have z2 : decide ((i : Int) < (l.length : Int)) = false := decide_eq_false z1
          have HSL := Lib.hid (HD.out.last hie)
          rw [hO] at HSL
          have HIE := Lib.hid hie
          clear hie
          rcases (show O = [] ∨ O = [46] ∨ O = [46, 46] ∨ (O ≠ [] ∧ O ≠ [46] ∧ O ≠ [46, 46]) from by
            by_cases a : O = []
            · exact .inl a
            · by_cases b : O = [46]
              · exact .inr (.inl b)
              · by_cases d : O = [46, 46]
                · exact .inr (.inr (.inl d))
                · exact .inr (.inr (.inr ⟨a, b, d⟩))) with h | h | h | ⟨a, b, d⟩
          · subst h
            have HFA := Lib.hid (show allN l = false from by rw [HSL.out]; rfl)
            clear hO
            go_wp2
            go_ret
            exact ⟨by rw [HG.out, HFA.out]; rfl, rfl⟩
          · subst h
            have HFA := Lib.hid (show allN l = false from by rw [HSL.out]; rfl)
            clear hO
            go_wp2
            go_ret
            exact ⟨by rw [HG.out, HFA.out]; rfl, rfl⟩
          · subst h
            have HFA := Lib.hid (show allN l = false from by rw [HSL.out]; rfl)
            clear hO
            go_wp2
            go_ret
            exact ⟨by rw [HG.out, HFA.out]; rfl, rfl⟩
          · have a1 : (O == []) = false := beq_eq_false_iff_ne.2 a
            have b1 : (O == [46]) = false := beq_eq_false_iff_ne.2 b
            have d1 : (O == [46, 46]) = false := beq_eq_false_iff_ne.2 d
            have a2 : O.isEmpty = false := by cases O with | nil => exact absurd rfl a | cons _ _ => rfl
            have hok : okN O = true := by rw [HSG.out]; simp [a, b, d]
            have HT := Lib.hid (show allN l = true from by rw [HSL.out]; exact hok)
            clear hO hok
            go_wp2
            exact ⟨⟨i + 1, i + 1, by go_num, by go_num, .inr ⟨by rw [HIE.out], HT.out⟩, trivial⟩, by simp [intOf]; omega⟩
      · subst hi
        have z1 : ¬ ((l.length + 1 : Nat) : Int) ≤ (l.length : Int) := by omega
        have z2 : decide (((l.length + 1 : Nat) : Int) ≤ (l.length : Int)) = false := decide_eq_false z1
        have z3 : ¬ ((l.length : Int) + 1) ≤ (l.length : Int) := by omega
        have z4 : decide (((l.length : Int) + 1) ≤ (l.length : Int)) = false := decide_eq_false z3
        have HT := Lib.hid hT
        clear hT
        go_wp2
        go_ret
        exact ⟨by rw [HG.out, HT.out]; rfl, rfl⟩
end Go.Proofs.YtkajeepbelfpiaaGreatDoor
/- The reference's last slash. -/
set_option maxRecDepth 100000
namespace Go.Proofs.YtkajeepbelfpiaaGreatDoor
open Go Go.RowKit
attribute [-go_sem] Sha.exec_store

set_option maxHeartbeats 1000000 in
theorem refSlash_any (l : S8) (hl : l.length < 1000000) (w : World) : Calls Tryz.prog 100 #[.string (mkS l)] w fun e w' => e = .returned (.int .i64 ((kL l : Int) - 1)) ∧ w = w' := by
  obtain ⟨n, hn⟩ : ∃ n, l.length = n := ⟨_, rfl⟩
  rw [hn] at hl
  have HN := Lib.hid hn
  go_enter Tryz.func100, Tryz.ntmps100
  go_wp2
  go_loopw [3, 4] (fun vo vi wr => ∃ i m : Nat, i ≤ n ∧ vi = .int .i64 i ∧ vo = .int .i64 ((m : Int) - 1) ∧ kTo l i = m ∧ w = wr) (fun vo vi _ => n - (intOf vi).toNat)
  case atStart => exact ⟨0, 0, Nat.zero_le _, rfl, rfl, rfl, rfl⟩
  case round =>
    obtain ⟨i, m, hi, rfl, rfl, hm, rfl⟩ := hrel
    by_cases hlt : i < n
    · have hli : i < l.length := by omega
      have z1 : (i : Int) < (n : Int) := by omega
      have z2 : decide ((i : Int) < (n : Int)) = true := decide_eq_true z1
      have hw := i64s i (by omega)
      have hk : kTo l (i + 1) = if chr l i = 47 then i + 1 else kTo l i := rfl
      rw [hm] at hk
      have HK := Lib.hid hk
      obtain ⟨c, hc⟩ : ∃ c, chr l i = c := ⟨_, rfl⟩
      rw [hc] at HK
      clear hm hk
      by_cases h47 : c = 47
      · subst h47
        go_wp2
        exact ⟨⟨i + 1, i + 1, by omega, by go_num, by go_num, by rw [HK.out, if_pos rfl], trivial⟩, by simp [intOf]; omega⟩
      · have hz : ((c : Int) == 47) = false := by simp; omega
        go_wp2
        exact ⟨⟨i + 1, m, by omega, by go_num, rfl, by rw [HK.out, if_neg h47], trivial⟩, by simp [intOf]; omega⟩
    · obtain rfl : i = n := by omega
      have z1 : ¬ (i : Int) < (i : Int) := by omega
      have z2 : decide ((i : Int) < (i : Int)) = false := decide_eq_false z1
      have HM := Lib.hid (show kL l = m from by unfold kL; rw [HN.out]; exact hm)
      clear hm
      go_wp2
      go_ret
      exact ⟨by rw [HM.out]; rfl, rfl⟩
end Go.Proofs.YtkajeepbelfpiaaGreatDoor
/- The reference of layer 7: decimals, what is put ahead of a name, homes, copies, kinds. -/
set_option maxRecDepth 100000
namespace Go.Proofs.YtkajeepbelfpiaaGreatDoor
open Go Go.RowKit
attribute [-go_sem] Sha.exec_store

/-- A string of one byte that was just made. -/
theorem conv1 (w : World) (b c : Nat) (h : w.cell? ⟨b, 0, none⟩ = some (.int .u8 (c : Int))) (hc : c < 256) : (convert 56 9 (.slice (some ⟨b, 0, none⟩) 1 1)).run Tryz.prog w = .ok (.string (mkS [UInt8.ofNat c])) w := by
  have hs : Sl w (some ⟨b, 0, none⟩) [BitVec.ofNat 8 c] := fun j hj => by
    have : j = 0 := by simp at hj; omega
    subst this
    refine ⟨b, 0, rfl, ?_⟩
    show w.cell? ⟨b, 0, none⟩ = some (B (BitVec.ofNat 8 c))
    rw [h, B_eq', BitVec.toNat_ofNat, Nat.mod_eq_of_lt (by simpa using hc)]
  have := conv_str w _ _ 1 1 hs rfl (fun h => by cases h)
  rw [this]
  congr 2
  unfold mkS
  rfl
attribute [local go_sem high] conv1
end Go.Proofs.YtkajeepbelfpiaaGreatDoor
/- strings.LastIndexByte at "/"; HasPrefix, CutPrefix. -/
set_option maxRecDepth 100000
namespace Go.Proofs.YtkajeepbelfpiaaGreatDoor
open Go Go.RowKit
attribute [-go_sem] Sha.exec_store

set_option maxHeartbeats 1000000 in
theorem lastByte_in (l : S8) (w : World) (hl : l.length < 1000000) : Calls Tryz.prog 233 #[.string (mkS l), .int .u8 47] w fun e w' => e = .returned (.int .i64 ((kL l : Int) - 1)) ∧ w = w' := by
  obtain ⟨n, hn⟩ : ∃ n, l.length = n := ⟨_, rfl⟩
  have HK := Lib.hid (show kL l = kTo l n from by unfold kL; rw [hn])
  have HN := Lib.hid hn
  rw [hn] at hl
  have hs : IntKind.i64.wrap ((n : Int) - 1) = (n : Int) - 1 := by rw [IntKind.wrap_i64]; omega
  have hs2 : wrap64 ((n : Int) - 1) = (n : Int) - 1 := by unfold wrap64; omega
  go_enter Tryz.func233, Tryz.ntmps233
  go_wp2
  go_loopw [5] (fun vi wr => ∃ k : Nat, k ≤ n ∧ vi = .int .i64 ((k : Int) - 1) ∧ kTo l k = kL l ∧ w = wr) (fun vi _ => (intOf vi + 1).toNat)
  case atStart => exact ⟨n, Nat.le_refl _, rfl, HK.out.symm, rfl⟩
  case round =>
    obtain ⟨k, hk, rfl, hkt, rfl⟩ := hrel
    cases k with
    | zero =>
      have HZ := Lib.hid (show kL l = 0 from hkt.symm)
      clear hkt
      go_wp2
      go_ret
      exact ⟨by rw [HZ.out]; rfl, rfl⟩
    | succ j =>
      have e1 : ((j + 1 : Nat) : Int) - 1 = (j : Int) := by omega
      have e2 : (j : Int) + 1 - 1 = (j : Int) := by omega
      have hjn : j < n := by omega
      have hjl : j < l.length := by rw [HN.out]; omega
      obtain ⟨c, hc⟩ : ∃ c, chr l j = c := ⟨_, rfl⟩
      have hw : IntKind.i64.wrap ((j : Int) - 1) = (j : Int) - 1 := by rw [IntKind.wrap_i64]; omega
      have hkk : kTo l (j + 1) = if chr l j = 47 then j + 1 else kTo l j := rfl
      rw [hc] at hkk
      rw [hkk] at hkt
      by_cases h47 : c = 47
      · subst h47
        have HZ := Lib.hid (show kL l = j + 1 from by rw [← hkt, if_pos rfl])
        clear hkt hkk
        go_wp2
        go_ret
        exact ⟨by rw [HZ.out]; simp, rfl⟩
      · have hz : ((c : Int) == 47) = false := by simp; omega
        have HZ := Lib.hid (show kTo l j = kL l from by rw [← hkt, if_neg h47])
        clear hkt hkk
        go_wp2
        exact ⟨⟨j, by omega, by go_num, HZ.out, trivial⟩, by simp [intOf] <;> omega⟩
set_option maxHeartbeats 1000000 in
theorem lastByte (l : S8) (w : World) (hl : l.length < 1000000) : Calls Tryz.prog 210 #[.string (mkS l), .int .u8 47] w fun e w' => e = .returned (.int .i64 ((kL l : Int) - 1)) ∧ w = w' := by
  have HI := Lib.hid (lastByte_in l w hl)
  generalize kL l = k at *
  go_enter Tryz.func210, Tryz.ntmps210
  go_wp2_with fail
  refine HI.out.mono ?_
  rintro e w' ⟨rfl, rfl⟩
  go_wp2
  go_ret
  exact ⟨rfl, rfl⟩
set_option maxHeartbeats 1000000 in
theorem prefix_in (s t : S8) (w : World) : Calls Tryz.prog 211 #[.string (mkS s), .string (mkS t)] w fun e w' => e = .returned (.bool (startsL s t)) ∧ w = w' := by
  by_cases h : t.length ≤ s.length
  · have h1 : (t.length : Int) ≤ (s.length : Int) := by omega
    have h2 : decide ((t.length : Int) ≤ (s.length : Int)) = true := decide_eq_true h1
    have HS := Lib.hid (show startsL s t = (s.take t.length == t) from by unfold startsL; rw [decide_eq_true h]; rfl)
    go_enter Tryz.func211, Tryz.ntmps211
    go_wp2
    go_ret
    exact ⟨by rw [HS.out]; rfl, rfl⟩
  · have h1 : ¬ (t.length : Int) ≤ (s.length : Int) := by omega
    have h2 : decide ((t.length : Int) ≤ (s.length : Int)) = false := decide_eq_false h1
    have HS := Lib.hid (show startsL s t = false from by unfold startsL; rw [decide_eq_false h]; rfl)
    go_enter Tryz.func211, Tryz.ntmps211
    go_wp2
    go_ret
    exact ⟨by rw [HS.out]; rfl, rfl⟩
set_option maxHeartbeats 1000000 in
theorem hasPrefix_any (s t : S8) (w : World) : Calls Tryz.prog 176 #[.string (mkS s), .string (mkS t)] w fun e w' => e = .returned (.bool (startsL s t)) ∧ w = w' := by
  have HC := Lib.hid (prefix_in s t w)
  generalize startsL s t = b at *
  go_enter Tryz.func176, Tryz.ntmps176
  go_wp2_with fail
  refine HC.out.mono ?_
  rintro e w' ⟨rfl, rfl⟩
  go_wp2
  go_ret
  exact ⟨rfl, rfl⟩
/-- What is behind a beginning, and whether there is that beginning. -/
def behindL (s t : S8) : S8 := if startsL s t then s.drop t.length else s
set_option maxHeartbeats 1000000 in
theorem cutPrefix_in (s t : S8) (w : World) : Calls Tryz.prog 245 #[.string (mkS s), .string (mkS t)] w fun e w' => e = .returned (.tuple #[.string (mkS (behindL s t)), .bool (startsL s t)]) ∧ w = w' := by
  have HC := Lib.hid (prefix_in s t w)
  have hle : startsL s t = true → t.length ≤ s.length := fun h => by unfold startsL at h; rw [Bool.and_eq_true, decide_eq_true_eq] at h; exact h.1
  have HB := Lib.hid (show behindL s t = if startsL s t then s.drop t.length else s from rfl)
  obtain ⟨x, hx⟩ : ∃ x, behindL s t = x := ⟨_, rfl⟩
  rw [hx] at HB ⊢
  clear hx
  generalize startsL s t = b at *
  cases b with
  | true =>
    have hl := hle rfl
    obtain rfl : x = s.drop t.length := by rw [HB.out]; rfl
    have h1 : (t.length : Int) ≤ (s.length : Int) := by omega
    clear hle
    go_enter Tryz.func245, Tryz.ntmps245
    go_wp2_with fail
    refine HC.out.mono ?_
    rintro e w' ⟨rfl, rfl⟩
    go_wp2
    go_ret2
    exact ⟨rfl, rfl⟩
  | false =>
    obtain rfl : x = s := by rw [HB.out]; rfl
    clear hle
    go_enter Tryz.func245, Tryz.ntmps245
    go_wp2_with fail
    refine HC.out.mono ?_
    rintro e w' ⟨rfl, rfl⟩
    go_wp2
    go_ret2
    exact ⟨rfl, rfl⟩
set_option maxHeartbeats 1000000 in
theorem cutPrefix_any (s t : S8) (w : World) : Calls Tryz.prog 226 #[.string (mkS s), .string (mkS t)] w fun e w' => e = .returned (.tuple #[.string (mkS (behindL s t)), .bool (startsL s t)]) ∧ w = w' := by
  have HC := Lib.hid (cutPrefix_in s t w)
  generalize startsL s t = b at *
  generalize behindL s t = x at *
  go_enter Tryz.func226, Tryz.ntmps226
  go_wp2_with fail
  refine HC.out.mono ?_
  rintro e w' ⟨rfl, rfl⟩
  go_wp2
  go_ret2
  exact ⟨rfl, rfl⟩
end Go.Proofs.YtkajeepbelfpiaaGreatDoor
/- Dir, Base, In, Clash. -/
set_option maxRecDepth 100000
namespace Go.Proofs.YtkajeepbelfpiaaGreatDoor
open Go Go.RowKit
attribute [-go_sem] Sha.exec_store

set_option maxHeartbeats 1000000 in
theorem base_any (l : S8) (w : World) (hl : l.length < 100000) : Calls Tryz.prog 175 #[.string (mkS l)] w fun e w' => Gives (.string (mkS (baseL l))) w e w' := by
  have HC := Lib.hid (lastByte l w (by omega))
  have hk := kL_le l
  have HD := Lib.hid (show baseL l = l.drop (kL l) from rfl)
  generalize kL l = k at *
  have hs := fun u => sl_from l k u (by omega)
  have x1 : ((k : Int) - 1) + 1 = (k : Int) := by omega
  have hw : IntKind.i64.wrap (k : Int) = (k : Int) := by rw [IntKind.wrap_i64]; omega
  go_enter Tryz.func175, Tryz.ntmps175
  go_wp2_with fail
  refine HC.out.mono ?_
  rintro e w' ⟨rfl, rfl⟩
  go_wp2
  go_ret
  exact ⟨by rw [HD.out]; rfl, Below.refl _ _⟩
theorem starts_parts {s d : S8} (h : startsL s d = true) : s = d ++ s.drop d.length := by
  unfold startsL at h
  rw [Bool.and_eq_true, beq_iff_eq] at h
  conv => lhs; rw [← List.take_append_drop d.length s, h.2]
theorem inL_parts (s d : S8) : inL s d = (startsL s d && (decide (1 < (s.drop d.length).length) && (chr (s.drop d.length) 0 == 47))) := by
  cases h : startsL s d with
  | true =>
    rw [Bool.true_and]
    have e := starts_parts h
    generalize s.drop d.length = t at *
    subst e
    unfold inL
    cases t with
    | nil => rw [decide_eq_false (by simp), decide_eq_false (by simp)]; rfl
    | cons c r =>
      have e1 : (d ++ c :: r).take (d.length + 1) = d ++ [c] := by
        simp [List.take_append, List.take_of_length_le]
      rw [e1]
      have hc : chr (c :: r) 0 = c.toNat := by rw [chr_eq (by simp)]; rfl
      rw [hc]
      have e2 : decide (d.length + 1 < (d ++ c :: r).length) = decide (1 < (c :: r).length) := by
        congr 1
        simp
      rw [e2]
      congr 1
      by_cases h47 : c = 47
      · subst h47; simp
      · have : ¬ c.toNat = 47 := fun e => h47 (UInt8.toNat_inj.1 e)
        rw [beq_eq_false_iff_ne.2 this]
        exact beq_eq_false_iff_ne.2 (fun e => h47 (by simpa using e))
  | false =>
    rw [Bool.false_and]
    unfold inL
    by_cases hl : d.length + 1 < s.length
    · rw [decide_eq_true hl, Bool.true_and]
      refine beq_eq_false_iff_ne.2 fun e => ?_
      have : startsL s d = true := by
        unfold startsL
        rw [decide_eq_true (by omega), Bool.true_and, beq_iff_eq]
        have := congrArg (List.take d.length) e
        rw [List.take_take, List.take_left] at this
        rwa [Nat.min_eq_left (by omega)] at this
      rw [this] at h; cases h
    · rw [decide_eq_false hl]; rfl
set_option maxHeartbeats 1000000 in
theorem lies_any (s d : S8) (w : World) (hs : s.length < 100000) (hd : d.length < 100000) : Calls Tryz.prog 197 #[.string (mkS s), .string (mkS d)] w fun e w' => Gives (.bool (inL s d)) w e w' := by
  have HC := Lib.hid (cutPrefix_any s d w)
  have HP := Lib.hid (inL_parts s d)
  have HB := Lib.hid (show behindL s d = if startsL s d then s.drop d.length else s from rfl)
  have hlen : (s.drop d.length).length ≤ s.length := by rw [List.length_drop]; omega
  generalize behindL s d = x at *
  generalize s.drop d.length = t at *
  generalize inL s d = v at *
  generalize startsL s d = b at *
  cases b with
  | false =>
    obtain rfl : v = false := by rw [HP.out]; rfl
    go_enter Tryz.func197, Tryz.ntmps197
    go_wp2_with fail
    refine HC.out.mono ?_
    rintro e w' ⟨rfl, rfl⟩
    go_wp2
    go_ret
    exact ⟨rfl, Below.refl _ _⟩
  | true =>
    obtain rfl : x = t := by rw [HB.out]; rfl
    by_cases h1 : 1 < x.length
    · have z1 : (1 : Int) < (x.length : Int) := by omega
      have z2 : decide ((1 : Int) < (x.length : Int)) = true := decide_eq_true z1
      have hix : ∀ u, (Instr.index 9 (.string (mkS x)) (.int .i64 0)).run Tryz.prog u = .ok (.int .u8 (chr x 0 : Int)) u := fun u => ix_S x 0 u (by omega)
      have HP2 := Lib.hid (show v = (chr x 0 == 47) from by rw [HP.out, decide_eq_true h1, Bool.true_and, Bool.true_and])
      clear HP
      generalize chr x 0 = c at *
      by_cases h47 : c = 47
      · subst h47
        obtain rfl : v = true := by rw [HP2.out]; rfl
        go_enter Tryz.func197, Tryz.ntmps197
        go_wp2_with fail
        refine HC.out.mono ?_
        rintro e w' ⟨rfl, rfl⟩
        go_wp2
        go_ret
        exact ⟨rfl, Below.refl _ _⟩
      · have hz : ((c : Int) == 47) = false := by simp; omega
        obtain rfl : v = false := by rw [HP2.out]; simpa using h47
        go_enter Tryz.func197, Tryz.ntmps197
        go_wp2_with fail
        refine HC.out.mono ?_
        rintro e w' ⟨rfl, rfl⟩
        go_wp2
        go_ret
        exact ⟨rfl, Below.refl _ _⟩
    · have z1 : ¬ (1 : Int) < (x.length : Int) := by omega
      have z2 : decide ((1 : Int) < (x.length : Int)) = false := decide_eq_false z1
      obtain rfl : v = false := by rw [HP.out, decide_eq_false h1]; rfl
      go_enter Tryz.func197, Tryz.ntmps197
      go_wp2_with fail
      refine HC.out.mono ?_
      rintro e w' ⟨rfl, rfl⟩
      go_wp2
      go_ret
      exact ⟨rfl, Below.refl _ _⟩
set_option maxHeartbeats 1000000 in
theorem clash_any (a b : S8) (w : World) (ha : a.length < 100000) (hb : b.length < 100000) : Calls Tryz.prog 166 #[.string (mkS a), .string (mkS b)] w fun e w' => Gives (.bool (inL a b || inL b a)) w e w' := by
  have H1 := Lib.hid (lies_any a b w ha hb)
  have H2 := Lib.hid (fun u => lies_any b a u hb ha)
  generalize inL a b = x at *
  generalize inL b a = y at *
  cases x with
  | true =>
    go_enter Tryz.func166, Tryz.ntmps166
    go_wp2_with fail
    refine H1.out.mono ?_
    rintro e w1 ⟨rfl, hB⟩
    have HB := Lib.hid hB
    clear hB H1
    go_wp2
    go_ret
    exact ⟨rfl, HB.out⟩
  | false =>
    go_enter Tryz.func166, Tryz.ntmps166
    go_wp2_with fail
    refine H1.out.mono ?_
    rintro e w1 ⟨rfl, hB⟩
    have HB := Lib.hid hB
    clear hB H1
    go_wp2_with fail
    refine (H2.out _).mono ?_
    rintro e w2 ⟨rfl, hB⟩
    have HB2 := Lib.hid (HB.out.trans (hB.mono HB.out.size))
    clear hB H2
    go_wp2
    go_ret
    exact ⟨rfl, HB2.out⟩
end Go.Proofs.YtkajeepbelfpiaaGreatDoor
/- A range over an iterator that keeps a state of its own in a box: the law, and what such an iterator owes. -/
set_option maxRecDepth 100000
namespace Go.Proofs.YtkajeepbelfpiaaGreatDoor
open Go Go.RowKit Go.Shelf
attribute [-go_sem] Sha.exec_store

/-- A call of yield: it goes on, all below N as it was; or it says that there is to be no more. -/
def Yields {α : Type} (m l : Nat) (encs : α → Array Value) (N : Nat) (J Jx : List α → World → Prop) : Prop :=
  ∀ pre x A, J pre A → YieldAt Fence.wide m Tryz.prog l (encs x) A fun e A' =>
    (e = .returned (.bool true) ∧ J (pre ++ [x]) A' ∧ Below N A A') ∨ (e = .returned (.bool false) ∧ Jx (pre ++ [x]) A')
/-- The iterator hands out xs; of what was there it writes box b alone. -/
def Seq {α : Type} (m g : Nat) (lb : Array Value) (encs : α → Array Value) (b : Nat) (xs : List α) (w : World) : Prop :=
  ∀ (l : Nat) (J Jx : List α → World → Prop) (A : World), Below w.heap.size w A → (∀ pre B k, J pre B → J pre (B.drewN k)) → (∀ pre B v, J pre B → J pre (B.setCell ⟨b, 0, none⟩ v)) →
    Yields (m - 1) l encs w.heap.size J Jx → J [] A →
    CallsIn Fence.wide m Tryz.prog g (#[.func (.yield l) #[] #[]] ++ lb) A fun e A' => (∃ v, e = .returned v) ∧ (J xs A' ∨ ∃ pre, pre <+: xs ∧ Jx pre A')
/-- How the body may be left: it goes on, or returns. -/
def bodyOut {α : Type} (N : Nat) (I Ix : List α → World → Prop) (xs : List α) (A : World) : Exit → Act → World → Prop
  | .normal, _, A' => KeepsOthers A A' ∧ Below N A A' ∧ I xs A'
  | .ret, _, A' => KeepsOthers A A' ∧ Ix xs A'
  | _, _, _ => False
/-- What a caller's invariant must bear: new blocks, the loop's own blocks, draws, the iterator's box. -/
structure Bears {α : Type} (N b : Nat) (I : List α → World → Prop) : Prop where
  new : ∀ pre A o, I pre A → I pre (A.alloc o)
  put : ∀ pre A k o, N ≤ k → k < A.heap.size → I pre A → I pre (A.putObj k o)
  drew : ∀ pre A k, I pre A → I pre (A.drewN k)
  box : ∀ pre A v, I pre A → I pre (A.setCell ⟨b, 0, none⟩ v)
theorem below_put {N k : Nat} {A : World} (o : Obj) (hk : N ≤ k) (hlt : k < A.heap.size) : Below N A (A.putObj k o) :=
  (Below.refl N A).grown (grownBy_putObj' A k o) (by omega) (fun j e => by cases e; exact hk)
theorem range_box {α : Type} {g : Operand} {ps : Array Tmp} {assign body : Code} {Q : Exit → Act → World → Prop} {a : Act} {w : World} {m : Nat} (hm : 1 ≤ m)
    {gf : Nat} {lb : Array Value} (hg : a.eval g = .func (.func gf) #[] lb) (eg : ∀ args w, (callFunc gf args).run Tryz.prog w = .ok (.enter gf args) w)
    {encs : α → Array Value} (hps : ∀ x, (encs x).size = ps.size) {b : Nat} (hb : b < w.heap.size) {xs : List α} (hseq : Seq (m - 1) gf lb encs b xs w)
    (I Ix : List α → World → Prop) (hI : Bears w.heap.size b I) (hIx : ∀ pre A k o, w.heap.size ≤ k → k < A.heap.size → Ix pre A → Ix pre (A.putObj k o)) (h0 : I [] w) (a₁ : α → Act)
    (hassign : ∀ (l : Nat) (x : α) (W : World) (K : Act → World → Prop), K (a₁ x) W →
      assign.wpIn (Fence.wide.inRound l) (m - 1 - 1) Tryz.prog (Exit.then K (fun _ _ _ => False)) { tmps := (ps.zip (encs x)).foldl (fun t (p, v) => t.setIfInBounds p v) a.tmps, defers := [] } W)
    (hbody : ∀ (l : Nat) (pre : List α) (x : α) (A : World), I pre A → body.wpIn (Fence.wide.inRound l) (m - 1 - 1) Tryz.prog (bodyOut w.heap.size I Ix (pre ++ [x]) A) (a₁ x) A)
    (hdone : ∀ (D : Nat) (A : World), w.heap.size ≤ D → I xs A → A.heap[D]? = some (.deferred (some [])) → Q .normal { a with defers := { target := .collected D, args := #[] } :: a.defers } A)
    (hstop : ∀ (D : Nat) (pre : List α) (A : World), w.heap.size ≤ D → pre <+: xs → Ix pre A → A.heap[D]? = some (.deferred (some [])) → Code.ret.wpIn Fence.wide m Tryz.prog Q { a with defers := { target := .collected D, args := #[] } :: a.defers } A) :
    (Code.rangeFunc g ps assign body).wpIn Fence.wide m Tryz.prog Q a w := by
  refine wpIn_rangeFunc fun fn hfn => ?_
  -- the loop's record (block n + 1) and the block of its deferred calls (block n)
  obtain ⟨n, hn⟩ : ∃ n, w.heap.size = n := ⟨_, rfl⟩
  obtain ⟨R, hR⟩ : ∃ R : LoopState → Option Code → Loop, R = fun st pe => { state := st, pending := pe, fn, tmps := a.tmps, params := ps, assign, body, defers := n } := ⟨_, rfl⟩
  obtain ⟨W, hW⟩ : ∃ W, (w.alloc (.deferred (some []))).alloc (.loop (R .ready none)) = W := ⟨_, rfl⟩
  have two : ∀ {A : World}, A.heap[n + 1]? = some (.loop (R .busy none)) ∨ A.heap[n + 1]? = some (.loop (R .ready none)) → n + 1 < A.heap.size := fun h => by
    rcases h with h | h <;> exact (Array.getElem?_eq_some_iff.1 h).1
  let At : LoopState → Option Code → World → Prop := fun st pe A => A.heap[n + 1]? = some (.loop (R st pe)) ∧ A.heap[n]? = some (.deferred (some []))
  have at0 : At .ready none W := by
    constructor
    · rw [← hW]
      have := World.alloc_heap_new (w.alloc (.deferred (some []))) (.loop (R .ready none))
      rwa [World.size_alloc, hn] at this
    · rw [← hW]
      have h1 := World.alloc_heap_new w (.deferred (some []))
      rw [hn] at h1
      exact (Below.heap_alloc _ _ _ (by simp; omega)).trans h1
  have putAt : ∀ {st st' : LoopState} {pe pe' : Option Code} {A : World}, At st pe A → At st' pe' (A.putObj (n + 1) (.loop (R st' pe'))) := fun h =>
    ⟨World.putObj_heap_same (Array.getElem?_eq_some_iff.1 h.1).1, (World.putObj_heap_other (by omega)).trans h.2⟩
  refine ⟨n + 1, [{ target := .collected n, args := #[] }], W, { target := .fn (.func gf) lb, args := #[.func (.yield (n + 1)) #[] #[]] }, W, gf, #[.func (.yield (n + 1)) #[] #[]] ++ lb, W, ?_, ?_, ?_, ?_, fun _ => hm, ?_⟩
  · rw [← hW, hR, ← hn]; exact run_enterLoop_outer _ _ _ _ _
  · simp only [resolve, hg]
    simp [go_sem]
  · intro f' hf'
    simp [Target.leads] at hf'
    subst hf'
    trivial
  · simp [invoke, go_sem, eg]
  · have hbel : Below w.heap.size w W := by rw [← hW]; exact ((Below.refl _ w).alloc (Nat.le_refl _) _).alloc (by simp) _
    refine (hseq (n + 1) (fun pre A => I pre A ∧ At .ready none A) (fun pre A => Ix pre A ∧ At .done (some .ret) A) W hbel
      (fun pre B k h => ⟨hI.drew pre B k h.1, h.2⟩)
      (fun pre B v h => ⟨hI.box pre B v h.1, (Below.heap_setCell B _ v _ (by show n + 1 ≠ b; omega)).trans h.2.1, (Below.heap_setCell B _ v _ (by show n ≠ b; omega)).trans h.2.2⟩)
      ?_ ⟨by rw [← hW]; exact hI.new _ _ _ (hI.new _ _ _ h0), at0⟩).mono ?_
    · rintro pre x A ⟨hi, hat⟩
      have hlt := two (.inr hat.1)
      have hy := run_yield (P := Tryz.prog) (args := encs x) hat.1 (by rw [hR]; exact hps x)
      rw [hR] at hy
      refine ⟨fn, _, assign, body, hy, roundIn_of_wpIn hfn (hassign _ x A _ ⟨_, run_beginRound hat.1 (by rw [hR]), ?_⟩)⟩
      have hbusy : ({ R .ready none with state := .busy } : Loop) = R .busy none := by rw [hR]
      rw [hbusy]
      have hat2 : At .busy none (A.putObj (n + 1) (.loop (R .busy none))) := putAt hat
      refine wpIn_mono (hbody _ pre x _ (hI.put _ _ _ _ (by omega) hlt hi)) ?_
      have fin : ∀ (st : LoopState) (jump : Option Code) (A3 : World), st = (if jump.isNone then .ready else .done) → KeepsOthers (A.putObj (n + 1) (.loop (R .busy none))) A3 →
          n + 1 < A3.heap.size ∧ (Instr.endRound (n + 1) jump).run Tryz.prog A3 = .ok (.bool jump.isNone) (A3.putObj (n + 1) (.loop (R st jump))) ∧ At st jump (A3.putObj (n + 1) (.loop (R st jump))) := fun st jump A3 hst hk => by
        have h3 : At .busy none A3 := ⟨hk.same _ _ hat2.1 rfl, hk.same _ _ hat2.2 rfl⟩
        have he := run_endRound (P := Tryz.prog) jump h3.1
        have e : ({ R .busy none with state := (if jump.isNone then .ready else .done), pending := jump } : Loop) = R st jump := by rw [hR, hst]
        rw [e] at he
        exact ⟨two (.inl h3.1), he, putAt h3⟩
      rintro e a3 A3 hp
      cases e with
      | normal =>
        obtain ⟨hk, hB, hi3⟩ := hp
        obtain ⟨hl3, he, h4⟩ := fin .ready none A3 rfl hk
        exact ⟨_, _, he, .inl ⟨rfl, ⟨hI.put _ _ _ _ (by omega) hl3 hi3, h4⟩, ((below_put _ (by omega) hlt).trans hB).trans (below_put _ (by omega) hl3)⟩⟩
      | ret =>
        obtain ⟨hk, hi3⟩ := hp
        obtain ⟨hl3, he, h4⟩ := fin .done (some .ret) A3 rfl hk
        exact ⟨_, _, he, .inr ⟨rfl, hIx _ _ _ _ (by omega) hl3 hi3, h4⟩⟩
      | exit id => exact hp.elim
      | goto t => exact hp.elim
      | panic ch => exact hp.elim
      | outgrown => exact hp.elim
    · rintro e A2 ⟨⟨v, rfl⟩, ⟨hi, hat⟩ | ⟨pre, hpre, hi, hat⟩⟩
      · have hlt := two (.inr hat.1)
        have he := run_endLoop (P := Tryz.prog) hat.1 (by rw [hR]; simp)
        refine ⟨none, _, by rw [he, hR], ?_⟩
        exact hdone n _ (by omega) (hI.put _ _ _ _ (by omega) hlt hi) ((World.putObj_heap_other (by omega)).trans hat.2)
      · have hlt := (Array.getElem?_eq_some_iff.1 hat.1).1
        have he := run_endLoop (P := Tryz.prog) hat.1 (by rw [hR]; simp)
        refine ⟨some .ret, _, by rw [he, hR], ?_⟩
        exact hstop n pre _ (by omega) hpre (hIx _ _ _ _ (by omega) hlt hi) ((World.putObj_heap_other (by omega)).trans hat.2)
end Go.Proofs.YtkajeepbelfpiaaGreatDoor
/- What lies ahead of the first "/", and behind it. -/
set_option maxRecDepth 100000
namespace Go.Proofs.YtkajeepbelfpiaaGreatDoor
open Go Go.RowKit
attribute [-go_sem] Sha.exec_store

def headS (l : S8) : S8 := l.takeWhile (fun c => c != 47)
def hasS (l : S8) : Bool := l.any (fun c => c == 47)
def tailS (l : S8) : S8 := l.drop ((headS l).length + 1)
def restS (l : S8) : S8 := if hasS l then tailS l else []
theorem head_clean (l : S8) : ∀ c ∈ headS l, c ≠ 47 := fun c hc => by
  unfold headS at hc
  have : ∀ m : S8, ∀ c ∈ m.takeWhile (fun c => c != 47), c ≠ 47 := by
    intro m
    induction m with
    | nil => intro c h; cases h
    | cons x r ih =>
      intro c h
      rw [List.takeWhile_cons] at h
      by_cases hx : (x != 47) = true
      · rw [if_pos hx] at h
        rcases List.mem_cons.1 h with e | e
        · subst e; simpa using hx
        · exact ih c e
      · rw [if_neg hx] at h; cases h
  exact this l c hc
theorem head_tail : ∀ l : S8, hasS l = true → l = headS l ++ 47 :: tailS l := by
  intro l
  induction l with
  | nil => intro h; cases h
  | cons c r ih =>
    intro h
    by_cases hc : c = 47
    · subst hc
      simp [headS, tailS]
    · have hr : hasS r = true := by unfold hasS at h ⊢; simpa [hc] using h
      have e : headS (c :: r) = c :: headS r := by unfold headS; rw [List.takeWhile_cons, if_pos (by simpa using hc)]
      have t : tailS (c :: r) = tailS r := by unfold tailS; rw [e]; simp
      rw [e, t, List.cons_append, ← ih hr]
theorem head_all (l : S8) (h : hasS l = false) : headS l = l := by
  unfold headS hasS at *
  rw [List.any_eq_false] at h
  have key : ∀ m : S8, (∀ c ∈ m, (c != 47) = true) → m.takeWhile (fun c => c != 47) = m := by
    intro m
    induction m with
    | nil => intro _; rfl
    | cons x r ih =>
      intro hm
      rw [List.takeWhile_cons, if_pos (hm x (by simp)), ih (fun c hc => hm c (by simp [hc]))]
  exact key l fun c hc => by
    have := h c hc
    simpa using this
theorem nm_cut (l : S8) : nm l = headS l :: (if hasS l then nm (restS l) else []) := by
  by_cases h : hasS l = true
  · unfold restS
    rw [if_pos h, if_pos h]
    conv => lhs; rw [head_tail l h]
    exact nm_more _ (head_clean l)
  · have h2 : hasS l = false := by simpa using h
    rw [if_neg h]
    have := head_clean l
    rw [head_all l h2] at this ⊢
    exact nm_end this
theorem rest_len (l : S8) (h : hasS l = true) : (restS l).length < l.length := by
  have := congrArg List.length (head_tail l h)
  unfold restS
  rw [if_pos h]
  rw [List.length_append, List.length_cons] at this
  omega
theorem idx47 : ∀ l : S8, Lib.indexByte l 47 = if hasS l then ((headS l).length : Int) else -1 := by
  intro l
  induction l with
  | nil => rfl
  | cons c r ih =>
    by_cases hc : c = 47
    · subst hc; simp [Lib.indexByte, hasS, headS]
    · have e : headS (c :: r) = c :: headS r := by unfold headS; rw [List.takeWhile_cons, if_pos (by simpa using hc)]
      have h : hasS (c :: r) = hasS r := by unfold hasS; simp [hc]
      have hb : (c == 47) = false := beq_eq_false_iff_ne.2 hc
      rw [e, h]
      unfold Lib.indexByte
      rw [hb, ih]
      by_cases hr : hasS r = true
      · rw [if_pos hr]
        have : (((headS r).length : Int) == -1) = false := beq_eq_false_iff_ne.2 (by omega)
        simp [this, hr]
      · have hr2 : hasS r = false := by simpa using hr
        simp [hr2]
theorem all_pre {l : S8} {pre : List S8} (h : pre <+: nm l) (hb : pre.all okN = false) : allN l = false := by
  obtain ⟨t, e⟩ := h
  unfold allN
  rw [← e, List.all_append, hb, Bool.false_and]
end Go.Proofs.YtkajeepbelfpiaaGreatDoor
/- strings.Index at "/". -/
set_option maxRecDepth 100000
namespace Go.Proofs.YtkajeepbelfpiaaGreatDoor
open Go Go.RowKit
attribute [-go_sem] Sha.exec_store

theorem ixb (l : S8) (w : World) : (callFunc 256 #[.string (mkS l), .int .u8 47]).run Tryz.prog w = .ok (.value (.int .i64 (Lib.indexByte l 47))) w := by
  have h := run_callFunc_extern (P := Tryz.prog) (f := 256) (e := Extern.BytealgIndexByte.indexByte) Tryz.func256 (by kernel_rfl) (by kernel_rfl) (by kernel_rfl) (by kernel_rfl) #[.string (mkS l), .int .u8 47] w
  rw [h, Lib.run_indexByteString (P := Tryz.prog)]
  have e : (mkS l).data.toList = l := by rw [← ByteArray.toList_eq, mkS_toList]
  rw [e]
  rfl
set_option maxRecDepth 100000 in
theorem ix47 (w : World) : (Instr.index 9 (.string ⟨#[47]⟩) (.int .i64 0)).run Tryz.prog w = .ok (.int .u8 47) w := by
  have e : (⟨#[47]⟩ : ByteArray) = mkS [47] := mkS_lit [47]
  have h := ix_S [47] 0 w (by decide)
  rw [e]
  have c : chr [47] 0 = 47 := by rw [chr_eq (by decide)]; rfl
  rw [c] at h
  exact h
attribute [local go_sem] ixb
attribute [local go_sem high] ix47
set_option maxRecDepth 100000 in
set_option maxHeartbeats 1000000 in
theorem index47 (l : S8) (w : World) (hl : l.length < 1000000) : Calls Tryz.prog 242 #[.string (mkS l), .string ⟨#[47]⟩] w fun e w' => e = .returned (.int .i64 (Lib.indexByte l 47)) ∧ w = w' := by
  by_cases h : l = [47]
  · subst h
    have hi : Lib.indexByte [47] 47 = 0 := by rw [idx47]; rfl
    rw [hi]
    go_enter Tryz.func242, Tryz.ntmps242
    go_wp2
    go_ret
    exact ⟨rfl, rfl⟩
  · have hb : ([47] == l) = false := beq_eq_false_iff_ne.2 (fun e => h e.symm)
    clear h
    go_enter Tryz.func242, Tryz.ntmps242
    go_wp2
    go_ret
    exact ⟨rfl, rfl⟩
set_option maxHeartbeats 1000000 in
theorem sindex47 (l : S8) (w : World) (hl : l.length < 1000000) : Calls Tryz.prog 221 #[.string (mkS l), .string ⟨#[47]⟩] w fun e w' => e = .returned (.int .i64 (Lib.indexByte l 47)) ∧ w = w' := by
  have HC := Lib.hid (index47 l w hl)
  generalize Lib.indexByte l 47 = x at *
  go_enter Tryz.func221, Tryz.ntmps221
  go_wp2_with fail
  refine HC.out.mono ?_
  rintro e w' ⟨rfl, rfl⟩
  go_wp2
  go_ret
  exact ⟨rfl, rfl⟩
end Go.Proofs.YtkajeepbelfpiaaGreatDoor
/- strings.SplitSeq at "/": what it hands out. -/
set_option maxRecDepth 100000
namespace Go.Proofs.YtkajeepbelfpiaaGreatDoor
open Go Go.RowKit Go.Shelf
attribute [-go_sem] Sha.exec_store

attribute [local go_sem] Oper.semAt_some
/-- The iterator's three boxes: the separator, what is left, how much of the separator is kept. -/
structure Boxes (b1 b2 b3 : Nat) (r : S8) (A : World) : Prop where
  sep : A.cell? ⟨b1, 0, none⟩ = some (.string ⟨#[47]⟩)
  rest : A.cell? ⟨b2, 0, none⟩ = some (.string (mkS r))
  free : A.frozen? ⟨b2, 0, none⟩ = false
  save : A.cell? ⟨b3, 0, none⟩ = some (.int .i64 0)
theorem Boxes.below {b1 b2 b3 N : Nat} {r : S8} {A A' : World} (h : Boxes b1 b2 b3 r A) (hB : Below N A A') (h1 : b1 < N) (h2 : b2 < N) (h3 : b3 < N) : Boxes b1 b2 b3 r A' :=
  ⟨by rw [hB.cell (p := ⟨b1, 0, none⟩) h1]; exact h.sep, by rw [hB.cell (p := ⟨b2, 0, none⟩) h2]; exact h.rest, by rw [hB.frozen (p := ⟨b2, 0, none⟩) h2]; exact h.free, by rw [hB.cell (p := ⟨b3, 0, none⟩) h3]; exact h.save⟩
theorem Boxes.set {b1 b2 b3 : Nat} {r : S8} {A : World} (h : Boxes b1 b2 b3 r A) (h12 : b1 ≠ b2) (h32 : b3 ≠ b2) (t : S8) : Boxes b1 b2 b3 t (A.setCell ⟨b2, 0, none⟩ (.string (mkS t))) :=
  ⟨by rw [World.cell?_setCell_other _ _ _ _ (by simp [h12])]; exact h.sep, World.cell?_setCell_same' _ _ _ (by rw [h.rest]; rfl), by rw [World.frozen?_setCell]; exact h.free, by rw [World.cell?_setCell_other _ _ _ _ (by simp [h32])]; exact h.save⟩
/-- How much is left. -/
def leftB (b : Nat) (A : World) : Nat := match A.cell? ⟨b, 0, none⟩ with
  | some (.string s) => s.size
  | _ => 0
theorem leftB_eq {b1 b2 b3 : Nat} {r : S8} {A : World} (h : Boxes b1 b2 b3 r A) : leftB b2 A = r.length := by unfold leftB; rw [h.rest]; exact mkS_size r
set_option maxRecDepth 100000 in
set_option maxHeartbeats 2000000 in
theorem split_seq (m : Nat) (hm : 3 ≤ m) (b1 b2 b3 : Nat) (l : S8) (w : World) (h1 : b1 < w.heap.size) (h2 : b2 < w.heap.size) (h3 : b3 < w.heap.size) (h12 : b1 ≠ b2) (h32 : b3 ≠ b2) (hbx : Boxes b1 b2 b3 l w) (hl : l.length < 1000000) :
    Seq m 219 #[.pointer (some ⟨b1, 0, none⟩), .pointer (some ⟨b2, 0, none⟩), .pointer (some ⟨b3, 0, none⟩)] (fun x : S8 => #[.string (mkS x)]) b2 (nm l) w := by
  intro L J Jx A hA hJd hJs hY h0
  have hm1 : 1 ≤ m := by omega
  have hbA := hbx.below hA h1 h2 h3
  have c1 := hbA.sep
  refine callsIn_of_wp Tryz.func219 rfl trivial ?_ rfl
  simp only [Tryz.ntmps219, List.size_toArray, List.length_cons, List.length_nil, Nat.reduceAdd, Nat.reduceSub, Array.replicate_succ, Array.replicate_zero, List.push_toArray, List.append_toArray, List.nil_append, List.cons_append]
  gi_wp2
  gi_loopw [7, 8] (fun v7 v8 wr => ∃ (pre : List S8) (r : S8), nm l = pre ++ nm r ∧ r.length ≤ l.length ∧ Boxes b1 b2 b3 r wr ∧ J pre wr) (fun v7 v8 wr => leftB b2 wr)
  case atStart => exact ⟨[], l, rfl, Nat.le_refl _, hbA, h0⟩
  case round =>
    obtain ⟨pre, r, hn, hr, hbr, hJ0⟩ := hrel
    have d1 := hbr.sep
    have d2 := hbr.rest
    have d3 := hbr.save
    have d4 := hbr.free
    have HBR := Lib.hid hbr
    have HJ0 := Lib.hid hJ0
    have HI := Lib.hid (sindex47 r wr (by omega))
    rw [idx47] at HI
    have hcut := nm_cut r
    have hrest : restS r = if hasS r then r.drop ((headS r).length + 1) else [] := rfl
    have hlen := fun h => congrArg List.length (head_tail r h)
    have htake := fun h => (congrArg (List.take (headS r).length) (head_tail r h)).trans List.take_left
    have hall := head_all r
    by_cases hh : hasS r = true
    · rw [if_pos hh] at HI hcut
      rw [if_pos hh] at hrest
      have hlr : (headS r).length < r.length := by have := hlen hh; rw [List.length_append, List.length_cons] at this; omega
      have HT := Lib.hid (htake hh)
      have hdl : (restS r).length < r.length := rest_len r hh
      obtain ⟨fn, tmps, assign, body, hy, hR⟩ := hY pre (headS r) wr hJ0
      have HN := Lib.hid (show nm l = (pre ++ [headS r]) ++ nm (restS r) from by rw [hn, hcut]; simp)
      have HS := Lib.hid (hrest)
      generalize restS r = t at *
      generalize headS r = x at *
      obtain ⟨k, hk⟩ : ∃ k, x.length = k := ⟨_, rfl⟩
      rw [hk] at HI hlr HT HS
      have z1 : (0 : Int) ≤ (k : Int) := by omega
      have z2 : decide ((k : Int) < 0) = false := decide_eq_false (by omega)
      have hw0 : IntKind.i64.wrap (k : Int) = (k : Int) := by rw [IntKind.wrap_i64]; omega
      have hw : IntKind.i64.wrap ((k : Int) + 1) = (k : Int) + 1 := by rw [IntKind.wrap_i64]; omega
      have hs1 : ∀ u : World, (Instr.slice 9 (.string (mkS r)) none (some (.int .i64 (k : Int))) none).run Tryz.prog u = .ok (.string (mkS x)) u := fun u => by
        rw [sl_to r k u (by omega), HT.out]
      have hs2 : ∀ u : World, (Instr.slice 9 (.string (mkS r)) (some (.int .i64 ((k : Int) + 1))) none none).run Tryz.prog u = .ok (.string (mkS t)) u := fun u => by
        have := sl_from r (k + 1) u (by omega)
        rw [HS.out]
        simpa using this
      have HL := Lib.hid (And.intro hdl hr)
      clear hn hr hbr hJ0 hcut hrest hlen htake hall hh hk hdl
      dsimp only at hy
      gi_wp2_with (refine ⟨trivial, ?_⟩; gi_at_call 221; refine (callsIn_wide.2 HI.out).mono ?_; rintro e w' ⟨rfl, rfl⟩)
      refine hR.mono ?_
      rintro e W3 (⟨rfl, hJ3, hB3⟩ | ⟨rfl, hJx3⟩)
      · have hb3 := HBR.out.below hB3 h1 h2 h3
        have d1 := hb3.sep
        have d2 := hb3.rest
        have d3 := hb3.save
        have d4 := hb3.free
        have HB3 := Lib.hid hb3
        have HJ3 := Lib.hid hJ3
        clear hb3 hJ3 hB3
        gi_wp2
        go_roundw
        case rel => exact ⟨pre ++ [x], t, HN.out, Nat.le_of_lt (Nat.lt_of_lt_of_le HL.out.1 HL.out.2), HB3.out.set h12 h32 t, hJs _ _ _ HJ3.out⟩
        case measure => rw [leftB_eq (HB3.out.set h12 h32 t), leftB_eq HBR.out]; exact HL.out.1
      · gi_wp2
        refine bodyPost_ret (results_none rfl _ _ _) rfl ?_
        exact ⟨⟨_, rfl⟩, .inr ⟨pre ++ [x], ⟨nm t, HN.out.symm⟩, hJx3⟩⟩
    · have hh2 : hasS r = false := by simpa using hh
      rw [if_neg hh] at HI hcut
      have hx := hall hh2
      obtain ⟨fn, tmps, assign, body, hy, hR⟩ := hY pre r wr hJ0
      have HN := Lib.hid (show nm l = pre ++ [r] from by rw [hn, hcut, hx])
      clear hn hr hbr hJ0 hcut hrest hlen htake hall hh hh2 hx
      dsimp only at hy
      gi_wp2_with (refine ⟨trivial, ?_⟩; gi_at_call 221; refine (callsIn_wide.2 HI.out).mono ?_; rintro e w' ⟨rfl, rfl⟩)
      refine hR.mono ?_
      rintro e W3 (⟨rfl, hJ3, hB3⟩ | ⟨rfl, hJx3⟩)
      · gi_wp2
        go_end0
        exact ⟨⟨_, rfl⟩, .inl (by rw [HN.out]; exact hJ3)⟩
      · gi_wp2
        go_end0
        exact ⟨⟨_, rfl⟩, .inr ⟨pre ++ [r], ⟨[], by rw [List.append_nil, HN.out]⟩, hJx3⟩⟩
/-- strings.SplitSeq at "/": three boxes are laid. -/
theorem splitSeq_any (l : S8) (u : World) : Calls Tryz.prog 164 #[.string (mkS l), .string ⟨#[47]⟩] u fun e w' => e = .returned (.func (.func 219) #[] #[.pointer (some ⟨u.heap.size + 1, 0, none⟩), .pointer (some ⟨u.heap.size, 0, none⟩), .pointer (some ⟨u.heap.size + 2, 0, none⟩)]) ∧ w' = ((u.alloc (.cells #[.string (mkS l)] 9)).alloc (.cells #[.string ⟨#[47]⟩] 9)).alloc (.cells #[.int .i64 0] 3) := by
  have hmf : ∀ (fn : Fn) (first cap : Array Value) (w : World), (Instr.makeFunc fn first cap).run Tryz.prog w = .ok (.func fn first cap) w := fun _ _ _ _ => rfl
  have key : Calls Tryz.prog 194 #[.string (mkS l), .string ⟨#[47]⟩, .int .i64 0] u fun e w' => e = .returned (.func (.func 219) #[] #[.pointer (some ⟨u.heap.size + 1, 0, none⟩), .pointer (some ⟨u.heap.size, 0, none⟩), .pointer (some ⟨u.heap.size + 2, 0, none⟩)]) ∧ w' = ((u.alloc (.cells #[.string (mkS l)] 9)).alloc (.cells #[.string ⟨#[47]⟩] 9)).alloc (.cells #[.int .i64 0] 3) := by
    go_enter Tryz.func194, Tryz.ntmps194
    go_wp2
    go_ret
    exact ⟨rfl, rfl⟩
  have HC := Lib.hid key
  clear key
  go_enter Tryz.func164, Tryz.ntmps164
  go_wp2_with fail
  refine HC.out.mono ?_
  rintro e w' ⟨rfl, rfl⟩
  go_wp2
  go_ret
  exact ⟨rfl, rfl⟩
end Go.Proofs.YtkajeepbelfpiaaGreatDoor
/- strings.IndexFunc and strings.ContainsFunc at any function that holds of all runes from 128 on. -/
set_option maxRecDepth 100000
namespace Go.Proofs.YtkajeepbelfpiaaGreatDoor
open Go Go.RowKit
attribute [-go_sem] Sha.exec_store

/-- The function value answers whether P holds, at every rune, as long as what lay below N stands as in w0. -/
def Tells (N : Nat) (w0 : World) (g : Nat) (caps : Array Value) (P : Nat → Bool) : Prop := ∀ (r : Nat) (u : World), r ≤ 2147483647 → Below N w0 u → Calls Tryz.prog g (#[.int .i32 (r : Int)] ++ caps) u fun e w' => e = .returned (.bool (P r)) ∧ Below u.heap.size u w'
theorem below_iter {N k : Nat} {w x : World} {s : ByteArray} {pos : Nat} (h : Below N w x) (hk : N ≤ k) (hlt : k < x.heap.size) : Below N w (x.iterAt k s pos) :=
  ⟨h.os, h.tape, h.output, by rw [Lib.iterAt_size]; exact h.size, fun j hj => by rw [Lib.iterAt_other _ _ _ _ _ (by omega)]; exact h.block j hj⟩
set_option maxRecDepth 100000 in
set_option maxHeartbeats 1000000 in
theorem indexFunc_any (N : Nat) (w0 : World) (g : Nat) (caps : Array Value) (P : Nat → Bool) (hent : ∀ args w, (callFunc g args).run Tryz.prog w = .ok (.enter g args) w) (hT : Tells N w0 g caps P) (hP : ∀ r, 128 ≤ r → P r = true) (l : S8) (u : World) (hN : N ≤ u.heap.size) (hB0 : Below N w0 u) :
    Calls Tryz.prog 253 #[.string (mkS l), .func (.func g) #[] caps, .bool true] u fun e w' => (∃ i : Int, e = .returned (.int .i64 i) ∧ -1 ≤ i ∧ (0 ≤ i ↔ l.any (fun c => P c.toNat) = true)) ∧ Below u.heap.size u w' := by
  obtain ⟨s, hs⟩ : ∃ s, mkS l = s := ⟨_, rfl⟩
  have hsz : s.size = l.length := by rw [← hs, mkS_size]
  have hget : ∀ i (h : i < s.size), (s[i]).toNat = chr l i := by subst hs; exact fun i h => mkS_get l i h
  rw [hs]
  have HSZ := Lib.hid hsz
  have HGET := Lib.hid hget
  have HT := Lib.hid (fun (r : Nat) (x : World) (hr : r ≤ 2147483647) (hx : Below u.heap.size u x) => hT r x hr (hB0.trans (hx.mono hN)))
  have HP := Lib.hid hP
  clear hs hsz hget hT hP hB0 hN
  go_enter Tryz.func253, Tryz.ntmps253
  go_wp2
  go_loopw [7, 8] (fun va vb wr => ∃ pos : Nat, wr.heap[u.heap.size]? = some (.stringIter s pos) ∧ pos ≤ l.length ∧ (∀ j, j < pos → P (chr l j) = false) ∧ Below u.heap.size u wr) (fun va vb wr => l.length - wr.iterPos u.heap.size)
  case atStart => exact ⟨0, World.iter_heap _ _ _, Nat.zero_le _, fun j h => absurd h (by omega), (Below.refl _ _).alloc (Nat.le_refl _) _⟩
  case round =>
    obtain ⟨pos, hk, hle, hno, hB⟩ := hrel
    have HK := Lib.hid hk
    have HNO := Lib.hid hno
    have HB := Lib.hid hB
    have hlt := (Array.getElem?_eq_some_iff.1 hk).1
    by_cases hp : pos < s.size
    · have hpl : pos < l.length := by rw [← HSZ.out]; exact hp
      have hch := HGET.out pos hp
      obtain ⟨c, hc⟩ : ∃ c, chr l pos = c := ⟨_, rfl⟩
      rw [hc] at hch
      have hci : (l[pos]).toNat = c := by rw [← chr_eq hpl]; exact hc
      have hin : P c = true → l.any (fun c => P c.toNat) = true := fun h => by rw [List.any_eq_true]; exact ⟨l[pos], List.getElem_mem hpl, by rw [hci]; exact h⟩
      have HIN := Lib.hid hin
      by_cases ha : c < 128
      · have hnx : ∀ ty, (Instr.next (.pointer (some ⟨u.heap.size, 0, none⟩)) true ty).run Tryz.prog wr = .ok (.tuple #[.bool true, .int .i64 pos, .int .i32 (c : Int)]) (wr.iterAt u.heap.size s (pos + 1)) := fun ty => by
          rw [Lib.run_next_ascii_at wr u.heap.size s pos ty hk hp (by rw [hch]; exact ha), hch]
        have hB2 := below_iter (s := s) (pos := pos + 1) hB (Nat.le_refl _) hlt
        have hk2 := Lib.iterAt_heap wr u.heap.size s pos (pos + 1) hk
        generalize wr.iterAt u.heap.size s (pos + 1) = x at *
        have HB2 := Lib.hid hB2
        have HK2 := Lib.hid hk2
        have HC := Lib.hid (HT.out c x (by omega) HB2.out)
        have HIP := Lib.hid (iterPos_of hk)
        have HPL := Lib.hid hpl
        cases hPc : P c with
        | true =>
          rw [hPc] at HC
          have HI := Lib.hid (HIN.out hPc)
          clear hPc hin hno hB hk hB2 hk2 hci hch hc
          go_wp2_with (refine HC.out.mono ?_; rintro e x2 ⟨rfl, hB3⟩; have HB3 := Lib.hid (HB2.out.trans (hB3.mono HB2.out.size)); clear hB3)
          go_ret
          exact ⟨⟨_, rfl, by omega, fun _ => HI.out, fun _ => by omega⟩, HB3.out⟩
        | false =>
          rw [hPc] at HC
          have HNN := Lib.hid (show ∀ j, j < pos + 1 → P (chr l j) = false from fun j h => by
            rcases Nat.lt_succ_iff_lt_or_eq.1 h with h | h
            · exact HNO.out j h
            · rw [h, hc]; exact hPc)
          clear hPc hin hno hB hk hB2 hk2 hci hch hc
          go_wp2_with (refine HC.out.mono ?_; rintro e x2 ⟨rfl, hB3⟩; have HB3 := Lib.hid (HB2.out.trans (hB3.mono HB2.out.size)); have HK3 := Lib.hid (show x2.heap[u.heap.size]? = some (.stringIter s (pos + 1)) from by rw [hB3.block _ (Array.getElem?_eq_some_iff.1 HK2.out).1]; exact HK2.out); clear hB3)
          exact ⟨⟨pos + 1, HK3.out, by have := HPL.out; omega, HNN.out, HB3.out⟩, by rw [iterPos_of HK3.out, HIP.out]; have := HPL.out; omega⟩
      · have ha2 : 128 ≤ (s[pos]).toNat := by rw [hch]; omega
        have hd := (decode_high s pos hp ha2).1
        have hdl := decode_le s pos
        obtain ⟨r, hr⟩ : ∃ r, (Utf8.decode s pos).1 = r := ⟨_, rfl⟩
        obtain ⟨d, hdd⟩ : ∃ d, pos + (Utf8.decode s pos).2 = d := ⟨_, rfl⟩
        rw [hr] at hd hdl
        have hnx : ∀ ty, (Instr.next (.pointer (some ⟨u.heap.size, 0, none⟩)) true ty).run Tryz.prog wr = .ok (.tuple #[.bool true, .int .i64 pos, .int .i32 (r : Int)]) (wr.iterAt u.heap.size s d) := fun ty => by
          rw [Lib.run_next_any_at wr u.heap.size s pos ty hk hp, hr, hdd]
        have hB2 := below_iter (s := s) (pos := d) hB (Nat.le_refl _) hlt
        generalize wr.iterAt u.heap.size s d = x at *
        have HB2 := Lib.hid hB2
        have HC := Lib.hid (HT.out r x hdl HB2.out)
        rw [HP.out r hd] at HC
        have HI := Lib.hid (HIN.out (HP.out c (by omega)))
        clear hin hno hB hk hB2 hci hch hc hr hdd ha2 hdl
        go_wp2_with (refine HC.out.mono ?_; rintro e x2 ⟨rfl, hB3⟩; have HB3 := Lib.hid (HB2.out.trans (hB3.mono HB2.out.size)); clear hB3)
        go_ret
        exact ⟨⟨_, rfl, by omega, fun _ => HI.out, fun _ => by omega⟩, HB3.out⟩
    · have hnx : ∀ ty, (Instr.next (.pointer (some ⟨u.heap.size, 0, none⟩)) true ty).run Tryz.prog wr = .ok (.tuple #[.bool false]) wr := fun ty => Lib.run_next_end_at wr u.heap.size s pos ty hk hp
      have HI := Lib.hid (show l.any (fun c => P c.toNat) = false from by
        rw [List.any_eq_false]
        intro c hc
        obtain ⟨j, hj, rfl⟩ := List.getElem_of_mem hc
        have := hno j (by rw [HSZ.out] at hp; omega)
        rw [chr_eq hj] at this
        simp [this])
      clear hno hB hk
      go_wp2
      go_ret
      exact ⟨⟨_, rfl, by decide, fun h => absurd h (by decide), fun h => by rw [HI.out] at h; cases h⟩, HB.out⟩
set_option maxHeartbeats 1000000 in
theorem IndexFunc_any (N : Nat) (w0 : World) (g : Nat) (caps : Array Value) (P : Nat → Bool) (hent : ∀ args w, (callFunc g args).run Tryz.prog w = .ok (.enter g args) w) (hT : Tells N w0 g caps P) (hP : ∀ r, 128 ≤ r → P r = true) (l : S8) (u : World) (hN : N ≤ u.heap.size) (hB0 : Below N w0 u) :
    Calls Tryz.prog 243 #[.string (mkS l), .func (.func g) #[] caps] u fun e w' => (∃ i : Int, e = .returned (.int .i64 i) ∧ -1 ≤ i ∧ (0 ≤ i ↔ l.any (fun c => P c.toNat) = true)) ∧ Below u.heap.size u w' := by
  have HC := Lib.hid (indexFunc_any N w0 g caps P hent hT hP l u hN hB0)
  clear hent hT hP hB0 hN
  go_enter Tryz.func243, Tryz.ntmps243
  go_wp2_with fail
  refine HC.out.mono ?_
  rintro e w2 ⟨⟨i, rfl, h1, h2⟩, hB⟩
  have HX := Lib.hid (And.intro h1 (And.intro h2 hB))
  clear h1 h2 hB HC
  go_wp2
  go_ret
  exact ⟨⟨i, rfl, HX.out.1, HX.out.2.1⟩, HX.out.2.2⟩
set_option maxHeartbeats 1000000 in
theorem ContainsFunc_any (N : Nat) (w0 : World) (g : Nat) (caps : Array Value) (P : Nat → Bool) (hent : ∀ args w, (callFunc g args).run Tryz.prog w = .ok (.enter g args) w) (hT : Tells N w0 g caps P) (hP : ∀ r, 128 ≤ r → P r = true) (l : S8) (u : World) (hN : N ≤ u.heap.size) (hB0 : Below N w0 u) :
    Calls Tryz.prog 222 #[.string (mkS l), .func (.func g) #[] caps] u fun e w' => e = .returned (.bool (l.any (fun c => P c.toNat))) ∧ Below u.heap.size u w' := by
  have HC := Lib.hid (IndexFunc_any N w0 g caps P hent hT hP l u hN hB0)
  clear hent hT hP hB0 hN
  go_enter Tryz.func222, Tryz.ntmps222
  go_wp2_with fail
  refine HC.out.mono ?_
  rintro e w2 ⟨⟨i, rfl, h1, h2⟩, hB⟩
  have HB := Lib.hid hB
  clear hB HC
  by_cases h : 0 ≤ i
  · have HA := Lib.hid (h2.1 h)
    have hd : decide (0 ≤ i) = true := decide_eq_true h
    clear h2
    go_wp2
    go_ret
    exact ⟨by rw [HA.out]; rfl, HB.out⟩
  · have HA := Lib.hid (show l.any (fun c => P c.toNat) = false from by
      cases hh : l.any (fun c => P c.toNat) with
      | true => exact absurd (h2.2 hh) h
      | false => rfl)
    have hd : decide (0 ≤ i) = false := decide_eq_false h
    clear h2
    go_wp2
    go_ret
    exact ⟨by rw [HA.out]; rfl, HB.out⟩
end Go.Proofs.YtkajeepbelfpiaaGreatDoor
/- strings.IndexRune and strings.ContainsRune at whatever rune, over a string of five ASCII bytes; what a name may have, what a digest's text may have. -/
set_option maxRecDepth 100000
namespace Go.Proofs.YtkajeepbelfpiaaGreatDoor
open Go Go.RowKit
attribute [-go_sem] Sha.exec_store

theorem bytesL (l : S8) : (mkS l).data.toList = l := by rw [← ByteArray.toList_eq, mkS_toList]
/-- The library's search for one byte, in the model. -/
theorem ixc (l : S8) (c : Int) (w : World) : (callFunc 256 #[.string (mkS l), .int .u8 c]).run Tryz.prog w = .ok (.value (.int .i64 (Lib.indexByte l c.toNat.toUInt8))) w := by
  have h := run_callFunc_extern (P := Tryz.prog) (f := 256) (e := Extern.BytealgIndexByte.indexByte) Tryz.func256 (by kernel_rfl) (by kernel_rfl) (by kernel_rfl) (by kernel_rfl) #[.string (mkS l), .int .u8 c] w
  rw [h, Lib.run_indexByteString (P := Tryz.prog), bytesL]
  rfl
attribute [local go_sem] ixc
theorem indexByte_lite (l : S8) (c : Int) (w : World) : Calls Tryz.prog 249 #[.string (mkS l), .int .u8 c] w fun e w' => e = .returned (.int .i64 (Lib.indexByte l c.toNat.toUInt8)) ∧ w = w' := by
  go_enter Tryz.func249, Tryz.ntmps249
  go_wp2
  go_ret
  exact ⟨rfl, rfl⟩
theorem indexByte_any (l : S8) (c : Int) (w : World) : Calls Tryz.prog 254 #[.string (mkS l), .int .u8 c] w fun e w' => e = .returned (.int .i64 (Lib.indexByte l c.toNat.toUInt8)) ∧ w = w' := by
  have HC := Lib.hid (indexByte_lite l c w)
  generalize Lib.indexByte l c.toNat.toUInt8 = x at *
  go_enter Tryz.func254, Tryz.ntmps254
  go_wp2_with fail
  refine HC.out.mono ?_
  rintro e w' ⟨rfl, rfl⟩
  go_wp2
  go_ret
  exact ⟨rfl, rfl⟩
theorem indexByte_has (l : S8) (c : UInt8) : (0 ≤ Lib.indexByte l c) = (l.contains c = true) ∧ -1 ≤ Lib.indexByte l c := by
  induction l with
  | nil => exact ⟨by simp [Lib.indexByte], by simp [Lib.indexByte]⟩
  | cons b r ih =>
    obtain ⟨i1, i2⟩ := ih
    unfold Lib.indexByte
    by_cases h : b = c
    · subst h; simp
    · have hb : (b == c) = false := beq_eq_false_iff_ne.2 h
      have hcb : (c == b) = false := beq_eq_false_iff_ne.2 (fun e => h e.symm)
      rw [List.contains_cons, hcb, Bool.false_or, ← i1, hb]
      by_cases h1 : Lib.indexByte r c = -1
      · have e1 : (Lib.indexByte r c == -1) = true := by rw [h1]; rfl
        simp [e1, h1]
      · have e1 : (Lib.indexByte r c == -1) = false := beq_eq_false_iff_ne.2 h1
        rw [e1]
        simp only [Bool.false_eq_true, if_false]
        exact ⟨propext (by omega), by omega⟩
theorem indexByte_none {l : S8} {c : UInt8} (h : ∀ b ∈ l, b ≠ c) : Lib.indexByte l c = -1 := by
  obtain ⟨h1, h2⟩ := indexByte_has l c
  have : ¬ l.contains c = true := by simpa using fun hc => h c hc rfl
  rw [← h1] at this
  omega
set_option maxRecDepth 1000000 in
set_option maxHeartbeats 2000000 in
/-- A rune of ASCII. -/
theorem indexRune_lo (l : S8) (r : Nat) (w : World) (hr : r < 128) : Calls Tryz.prog 244 #[.string (mkS l), .int .i32 (r : Int)] w fun e w' => e = .returned (.int .i64 (Lib.indexByte l (UInt8.ofNat r))) ∧ w = w' := by
  have HC := Lib.hid (show Calls Tryz.prog 254 #[.string (mkS l), .int .u8 (r : Int)] w _ from indexByte_any l (r : Int) w)
  have e : ((r : Int).toNat.toUInt8) = UInt8.ofNat r := by simp [Nat.toUInt8]
  rw [e] at HC
  generalize Lib.indexByte l (UInt8.ofNat r) = x at *
  have z1 : (r : Int) < 128 := by omega
  have z2 : decide ((r : Int) < 128) = true := decide_eq_true z1
  have z3 : IntKind.u8.wrap (r : Int) = (r : Int) := by unfold IntKind.wrap; simp [IntKind.bits, IntKind.signed]; omega
  go_enter Tryz.func244, Tryz.ntmps244
  go_wp2_with fail
  refine HC.out.mono ?_
  rintro e w' ⟨rfl, rfl⟩
  go_wp2
  go_ret
  exact ⟨rfl, rfl⟩
theorem valid_any (r : Int) (w : World) : Calls Tryz.prog 255 #[.int .i32 r] w fun e w' => e = .returned (.bool (Utf8.valid r)) ∧ w = w' := by
  rw [validRune_eq]
  obtain ⟨v, hv⟩ : ∃ v, validRune r = v := ⟨_, rfl⟩
  rw [hv]
  unfold validRune at hv
  by_cases h1 : 0 ≤ r ∧ r < 55296
  · obtain rfl : v = true := hv.symm.trans (decide_eq_true (Or.inl h1))
    obtain ⟨a1, a2⟩ := h1
    clear hv
    go_enter Tryz.func255, Tryz.ntmps255
    go_wp2
    go_ret
    exact ⟨rfl, rfl⟩
  · by_cases h2 : 57343 < r ∧ r ≤ 1114111
    · obtain rfl : v = true := hv.symm.trans (decide_eq_true (Or.inr h2))
      obtain ⟨a1, a2⟩ := h2
      have a3 : ¬ r < 55296 := by omega
      have a4 : 0 ≤ r := by omega
      clear h1 hv
      go_enter Tryz.func255, Tryz.ntmps255
      go_wp2
      go_ret
      exact ⟨rfl, rfl⟩
    · obtain rfl : v = false := hv.symm.trans (decide_eq_false (fun h => h.elim h1 h2))
      clear hv
      by_cases b1 : 0 ≤ r
      · have b2 : ¬ r < 55296 := fun h => h1 ⟨b1, h⟩
        by_cases b3 : 57343 < r
        · have b4 : ¬ r ≤ 1114111 := fun h => h2 ⟨b3, h⟩
          clear h1 h2
          go_enter Tryz.func255, Tryz.ntmps255
          go_wp2
          go_ret
          exact ⟨rfl, rfl⟩
        · clear h1 h2
          go_enter Tryz.func255, Tryz.ntmps255
          go_wp2
          go_ret
          exact ⟨rfl, rfl⟩
      · have b3 : ¬ 57343 < r := by omega
        clear h1 h2
        go_enter Tryz.func255, Tryz.ntmps255
        go_wp2
        go_ret
        exact ⟨rfl, rfl⟩
/-- Bytes of ASCII, five of them. -/
def Low5 (l : S8) : Prop := l.length = 5 ∧ ∀ c ∈ l, c.toNat < 128
theorem Low5.get {l : S8} (h : Low5 l) (i : Nat) (hi : i < l.length) : chr l i < 128 := by
  rw [chr_eq hi]
  exact h.2 _ (List.getElem_mem hi)
set_option maxRecDepth 1000000 in
set_option maxHeartbeats 2000000 in
/-- A rune that is no rune. -/
theorem indexRune_no (l : S8) (r : Nat) (w : World) (hr : 128 ≤ r) (hf : r ≠ 65533) (hv : Utf8.valid (r : Int) = false) : Calls Tryz.prog 244 #[.string (mkS l), .int .i32 (r : Int)] w fun e w' => e = .returned (.int .i64 (-1)) ∧ w = w' := by
  have HV := Lib.hid (valid_any (r : Int) w)
  rw [hv] at HV
  have z0 : (0 : Int) ≤ (r : Int) := by omega
  have z1 : ¬ (r : Int) < 128 := by omega
  have z2 : decide ((r : Int) < 128) = false := decide_eq_false z1
  have z3 : ((r : Int) == 65533) = false := by simp; omega
  clear hv hr hf
  go_enter Tryz.func244, Tryz.ntmps244
  go_wp2_with fail
  refine HV.out.mono ?_
  rintro e w' ⟨rfl, rfl⟩
  go_wp2
  go_ret
  exact ⟨rfl, rfl⟩
end Go.Proofs.YtkajeepbelfpiaaGreatDoor
