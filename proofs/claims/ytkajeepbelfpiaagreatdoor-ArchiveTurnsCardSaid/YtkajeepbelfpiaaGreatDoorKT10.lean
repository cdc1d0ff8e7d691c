/- Merged texts: RngA11, Awake6, Cuts6W, WrtP6, WrnP6, WrbP6, Nzr9, Put9, Put10, Byp10, Byo10, Wrq11, Byt11. -/
import Derived.Test.YtkajeepbelfpiaaGreatDoorKT9
import Derived.Test.YtkajeepbelfpiaaGreatDoorCode6
import Derived.Test.YtkajeepbelfpiaaGreatDoorBytes
import Derived.Test.YtkajeepbelfpiaaGreatDoorKT6
import Derived.Test.YtkajeepbelfpiaaGreatDoorKT2
import Derived.Test.YtkajeepbelfpiaaGreatDoorTake6
import Derived.Lib.AppendStr
import Derived.Deep.RegionLaw
import Derived.Test.YtkajeepbelfpiaaGreatDoorKT7
import Derived.Test.YtkajeepbelfpiaaGreatDoorKT1
import Derived.Lib.Hide
import Derived.Test.YtkajeepbelfpiaaGreatDoorVec9
import Derived.Test.YtkajeepbelfpiaaGreatDoorKT8
import Derived.Test.YtkajeepbelfpiaaGreatDoorKT4
set_option linter.unusedSimpArgs false
set_option linter.unusedVariables false
/- A range over an archive's records. -/
set_option maxRecDepth 100000
namespace Go.Proofs.YtkajeepbelfpiaaGreatDoor
open Go Go.RowKit Go.Shelf
attribute [-go_sem] Sha.exec_store

theorem range_arch {L : List Ent} {g : Operand} {ps : Array Tmp} {assign body : Code} {Q : Exit → Act → World → Prop} {a : Act} {w : World} {m : Nat} (hm : 1 ≤ m)
    {bb : Nat} (hg : a.eval g = .func (.func 95) #[] #[.pointer (some ⟨bb, 0, none⟩)]) (hps : ps.size = 1) (hseq : ArSeq (m - 1) bb L w)
    (I0 : World → Prop) (I : Nat → Nat → Nat → World → Prop) (hI0 : ∀ B B', I0 B → Below B.heap.size B B' → I0 B')
    (hIb : ∀ lo hi s B B', I lo hi s B → hi ≤ B.heap.size → Below B.heap.size B B' → I lo hi s B') (hIg : ∀ lo hi s B, I lo hi s B → ∀ e ∈ L, DgAt B e.1 e.2)
    (hst : ∀ A B, w.heap.size + 2 ≤ A.heap.size → Below A.heap.size A B → I0 A → I0 B → I A.heap.size B.heap.size 0 B)
    (hIp : ∀ lo hi s A o, w.heap.size + 2 ≤ lo → w.heap.size + 1 < A.heap.size → I lo hi s A → I lo hi s (A.putObj (w.heap.size + 1) o)) (h0 : I0 w)
    (AsgR : Value → World → Act → World → Prop) (hAsg : ∀ v A a' A', AsgR v A a' A' → Below A.heap.size A A')
    (hassign : ∀ (Lp : Nat) (r : Rc) (W : World) (K : Act → World → Prop), (∀ a' W', AsgR (rcV r) W a' W' → K a' W') →
      assign.wpIn (Fence.wide.inRound Lp) (m - 1 - 1) Tryz.prog (Exit.then K (fun _ _ _ => False)) { tmps := (ps.zip #[rcV r]).foldl (fun t (p, v) => t.setIfInBounds p v) a.tmps, defers := [] } W)
    (hbody : ∀ (Lp lo hi s : Nat) (q : Option Addr) (c : Nat) (A0 A1 : World) (o : Obj) (a' : Act), s < L.length → w.heap.size + 2 ≤ lo → hi ≤ A0.heap.size → w.heap.size + 1 < A0.heap.size → I lo hi s (A1.putObj (w.heap.size + 1) o) → DgAt (A1.putObj (w.heap.size + 1) o) ((L.getD s ent0).1.mov q c) (L.getD s ent0).2 →
      AsgR (rcV ((L.getD s ent0).1.mov q c)) A0 a' A1 →
      body.wpIn (Fence.wide.inRound Lp) (m - 1 - 1) Tryz.prog (bodyOutM lo hi (I lo hi) (A1.putObj (w.heap.size + 1) o) s) a' (A1.putObj (w.heap.size + 1) o))
    (hdone : ∀ (D lo hi : Nat) (A : World), D = w.heap.size → I lo hi L.length A → A.heap[D]? = some (.deferred (some [])) → Q .normal { a with defers := { target := .collected D, args := #[] } :: a.defers } A) :
    (Code.rangeFunc g ps assign body).wpIn Fence.wide m Tryz.prog Q a w := by
  refine wpIn_rangeFunc fun fn hfn => ?_
  obtain ⟨n, hn⟩ : ∃ n, w.heap.size = n := ⟨_, rfl⟩
  obtain ⟨gf, hgf⟩ : ∃ gf, gf = 95 := ⟨_, rfl⟩
  obtain ⟨lb, hlb⟩ : ∃ lb : Array Value, lb = #[.pointer (some ⟨bb, 0, none⟩)] := ⟨_, rfl⟩
  have eg : ∀ args w, (callFunc gf args).run Tryz.prog w = .ok (.enter gf args) w := by rw [hgf]; exact enters_of Tryz.func95 (by kernel_rfl) rfl
  rw [← hgf, ← hlb] at hg
  obtain ⟨R, hR⟩ : ∃ R : LoopState → Option Code → Loop, R = fun st pe => { state := st, pending := pe, fn, tmps := a.tmps, params := ps, assign, body, defers := n } := ⟨_, rfl⟩
  obtain ⟨W, hW⟩ : ∃ W, (w.alloc (.deferred (some []))).alloc (.loop (R .ready none)) = W := ⟨_, rfl⟩
  have two : ∀ {A : World}, A.heap[n + 1]? = some (.loop (R .busy none)) ∨ A.heap[n + 1]? = some (.loop (R .ready none)) → n + 1 < A.heap.size := fun h => by
    rcases h with h | h <;> exact (Array.getElem?_eq_some_iff.1 h).1
  let At : LoopState → Option Code → World → Prop := fun st pe A => A.heap[n + 1]? = some (.loop (R st pe)) ∧ A.heap[n]? = some (.deferred (some []))
  have at0 : At .ready none W := by
    constructor
    · rw [← hW]
      have := World.alloc_heap_new (w.alloc (.deferred (some []))) (.loop (R .ready none))
      rwa [World.size_alloc, hn] at this
    · rw [← hW]
      have h1 := World.alloc_heap_new w (.deferred (some []))
      rw [hn] at h1
      exact (Below.heap_alloc _ _ _ (by simp; omega)).trans h1
  have hWs : W.heap.size = n + 2 := by rw [← hW, World.size_alloc, World.size_alloc, hn]
  have putAt : ∀ {st st' : LoopState} {pe pe' : Option Code} {A : World}, At st pe A → At st' pe' (A.putObj (n + 1) (.loop (R st' pe'))) := fun h =>
    ⟨World.putObj_heap_same (Array.getElem?_eq_some_iff.1 h.1).1, (World.putObj_heap_other (by omega)).trans h.2⟩
  have growAt : ∀ {st : LoopState} {pe : Option Code} {A A' : World}, At st pe A → Below A.heap.size A A' → At st pe A' := fun h k =>
    ⟨(k.block _ (Array.getElem?_eq_some_iff.1 h.1).1).trans h.1, (k.block _ (Array.getElem?_eq_some_iff.1 h.2).1).trans h.2⟩
  refine ⟨n + 1, [{ target := .collected n, args := #[] }], W, { target := .fn (.func gf) lb, args := #[.func (.yield (n + 1)) #[] #[]] }, W, gf, #[.func (.yield (n + 1)) #[] #[]] ++ lb, W, ?_, ?_, ?_, ?_, fun _ => hm, ?_⟩
  · rw [← hW, hR, ← hn]; exact run_enterLoop_outer _ _ _ _ _
  · simp only [resolve, hg]
    simp [go_sem]
  · intro f' hf'
    simp [Target.leads] at hf'
    subst hf'
    trivial
  · simp [invoke, go_sem, eg]
  · have hbel : Below w.heap.size w W := by rw [← hW]; exact ((Below.refl _ w).alloc (Nat.le_refl _) _).alloc (by simp) _
    rw [hgf, hlb]
    refine (hseq (n + 1) (fun A => I0 A ∧ At .ready none A) (fun lo hi s A => (I lo hi s A ∧ n + 2 ≤ lo) ∧ At .ready none A) W hbel
      (fun B B' h k => ⟨hI0 B B' h.1 k, growAt h.2 k⟩) (fun lo hi s B B' h hh k => ⟨⟨hIb lo hi s B B' h.1.1 hh k, h.1.2⟩, growAt h.2 k⟩) (fun lo hi s B h => hIg lo hi s B h.1.1)
      (fun B hB h => ⟨⟨hst W B (by rw [hWs, hn]; exact Nat.le_refl _) hB (hI0 w W h0 hbel) h.1, by rw [hWs]; exact Nat.le_refl _⟩, h.2⟩) ?_ ⟨hI0 w W h0 hbel, at0⟩).mono ?_
    · rintro lo hi s A q c hs ⟨⟨hi', hlo⟩, hat⟩ hhi hdg hfr
      have hlt := two (.inr hat.1)
      have hy := run_yield (P := Tryz.prog) (args := #[rcV ((L.getD s ent0).1.mov q c)]) hat.1 (by rw [hR]; exact hps.symm)
      rw [hR] at hy
      refine ⟨fn, _, assign, body, hy, roundIn_of_wpIn hfn (hassign _ ((L.getD s ent0).1.mov q c) A _ fun a' A1 hAR => ?_)⟩
      have hk1 := hAsg _ _ _ _ hAR
      have hat1 := growAt hat hk1
      have hlt1 := two (.inr hat1.1)
      refine ⟨_, run_beginRound hat1.1 (by rw [hR]), ?_⟩
      have hbusy : ({ R .ready none with state := .busy } : Loop) = R .busy none := by rw [hR]
      rw [hbusy]
      have hat2 : At .busy none (A1.putObj (n + 1) (.loop (R .busy none))) := putAt hat1
      have hfr0 : Fr12 A (A1.putObj (n + 1) (.loop (R .busy none))) lo hi := ⟨Nat.le_trans hhi (Nat.le_trans hk1.size (below_putP (N := 0) _ (Nat.zero_le _) hlt1).size), fun k h1 h2 => (World.putObj_heap_other (by omega)).trans (hk1.block k (by omega))⟩
      have hI1 : I lo hi s (A1.putObj (n + 1) (.loop (R .busy none))) := by
        have := hIp lo hi s A1 (.loop (R .busy none)) (by rw [hn]; exact hlo) (by rw [hn]; exact hlt1) (hIb lo hi s A A1 hi' hhi hk1)
        rw [hn] at this
        exact this
      have hd1 : DgAt (A1.putObj (n + 1) (.loop (R .busy none))) ((L.getD s ent0).1.mov q c) (L.getD s ent0).2 := (hdg.of_below hk1).keep fun cc oo e hl => World.putObj_heap_other (by
        have : q = some ⟨cc, oo, none⟩ := e
        have := (hfr cc oo this).2
        omega)
      have hB := hbody (n + 1) lo hi s q c A A1 (.loop (R .busy none)) a' hs (by rw [hn]; exact hlo) hhi (by rw [hn]; exact hlt) (by rw [hn]; exact hI1) (by rw [hn]; exact hd1) hAR
      rw [hn] at hB
      refine wpIn_mono hB ?_
      have fin : ∀ (A3 : World), KeepsOthers (A1.putObj (n + 1) (.loop (R .busy none))) A3 →
          n + 1 < A3.heap.size ∧ (Instr.endRound (n + 1) none).run Tryz.prog A3 = .ok (.bool true) (A3.putObj (n + 1) (.loop (R .ready none))) ∧ At .ready none (A3.putObj (n + 1) (.loop (R .ready none))) := fun A3 hk => by
        have h3 : At .busy none A3 := ⟨hk.same _ _ hat2.1 rfl, hk.same _ _ hat2.2 rfl⟩
        have he := run_endRound (P := Tryz.prog) none h3.1
        have e : ({ R .busy none with state := (if (none : Option Code).isNone then .ready else .done), pending := none } : Loop) = R .ready none := by rw [hR]; rfl
        rw [e] at he
        exact ⟨two (.inl h3.1), he, putAt h3⟩
      rintro e a3 A3 hp
      cases e with
      | normal =>
        obtain ⟨hk, hfr3, hi3⟩ := hp
        obtain ⟨hl3, he, h4⟩ := fin A3 hk
        refine ⟨_, _, he, rfl, ⟨⟨?_, hlo⟩, h4⟩, (hfr0.trans hfr3).trans (fr_put (by omega) hfr3.1 hl3)⟩
        have := hIp lo hi (s + 1) A3 (.loop (R .ready none)) (by rw [hn]; exact hlo) (by rw [hn]; exact hl3) hi3
        rw [hn] at this
        exact this
      | ret => exact hp.elim
      | exit id => exact hp.elim
      | goto t => exact hp.elim
      | panic ch => exact hp.elim
      | outgrown => exact hp.elim
    · rintro e A2 ⟨⟨v, rfl⟩, lo, hi, ⟨hi2, hlo⟩, hat⟩
      have hlt := two (.inr hat.1)
      have he := run_endLoop (P := Tryz.prog) hat.1 (by rw [hR]; simp)
      refine ⟨none, _, by rw [he, hR], ?_⟩
      refine hdone n lo hi _ (by omega) ?_ ((World.putObj_heap_other (by omega)).trans hat.2)
      have := fun o => hIp lo hi _ A2 o (by rw [hn]; exact hlo) (by rw [hn]; exact hlt) hi2
      rw [hn] at this
      exact this _
end Go.Proofs.YtkajeepbelfpiaaGreatDoor
/- What the program's writer is asked to do; the document's example of layer 6. -/
set_option maxRecDepth 100000
namespace Go.Proofs.YtkajeepbelfpiaaGreatDoor
open Go Go.RowKit
attribute [-go_sem] Sha.exec_store

/-- A new Writer's cells: to be held against the program's own. -/
def zW : Array Value := #[.slice none 0 0]
/-- What a writer's function leaves: the writer with more bytes; its own block g, or a new one. -/
def WrPost (Wr : Nat → World → Addr → Option Nat → List (BitVec 8) → Prop) (N : Nat) (w : World) (a : Addr) (g : Option Nat) (l : List (BitVec 8)) (w' : World) : Prop :=
  ∃ g', Wr N w' a g' l ∧ (∀ k, g' = some k → g = some k ∨ w.heap.size ≤ k) ∧ Kq a.block g w w'
theorem Sl.far {w : World} {p : Option Addr} {l : List (BitVec 8)} {y : Nat} (h : Sl w p l) (hne : ∀ c o, p = some ⟨c, o, none⟩ → c ≠ y) (v : Value) : Sl (w.setCell ⟨y, 0, none⟩ v) p l := fun j hj => by
  obtain ⟨c, o, e, hc⟩ := h j hj
  exact ⟨c, o, e, by rw [World.cell?_setCell_far _ _ _ _ (show y ≠ c from Ne.symm (hne c o e))]; exact hc⟩
theorem Sl.blk {w : World} {p : Option Addr} {l : List (BitVec 8)} (h : Sl w p l) (hl : 0 < l.length) : ∀ c o, p = some ⟨c, o, none⟩ → c < w.heap.size := fun c o e => by
  obtain ⟨c', o', e', hc⟩ := h 0 hl
  rw [e] at e'
  injection e' with e'
  injection e' with e1 e2
  subst e1
  exact World.block_lt_of_cell? w _ hc
attribute [local go_sem] mkFn
end Go.Proofs.YtkajeepbelfpiaaGreatDoor
/- Nothing written yet. -/
namespace Go.Proofs.YtkajeepbelfpiaaGreatDoor
open Go Go.RowKit
attribute [-go_sem] Sha.exec_store
theorem OwnB.nil (w : World) (base : Nat) : OwnB w base (.slice none 0 0) [] := ⟨rfl, .inl ⟨rfl, rfl⟩⟩
end Go.Proofs.YtkajeepbelfpiaaGreatDoor
/- What the program's Writer is in memory; its numbers. -/
set_option maxRecDepth 100000
namespace Go.Proofs.YtkajeepbelfpiaaGreatDoor
open Go Go.RowKit
attribute [-go_sem] Sha.exec_store

/-- The writer at a has the bytes l. -/
def WrP (N : Nat) (w : World) (a : Addr) (g : Option Nat) (l : List (BitVec 8)) : Prop := ∃ (b : Nat) (v : Value), a = ⟨b, 0, none⟩ ∧ N ≤ b ∧ w.cell? ⟨b, 0, none⟩ = some v ∧ w.frozen? ⟨b, 0, none⟩ = false ∧ OwnB w N v l ∧ v.ownBlock = g ∧ g ≠ some b
theorem wrP_lie (N : Nat) (w : World) (a : Addr) (g : Option Nat) (l : List (BitVec 8)) (h : WrP N w a g l) : N ≤ a.block ∧ a.block < w.heap.size ∧ ∀ k, g = some k → N ≤ k ∧ k < w.heap.size ∧ k ≠ a.block := by
  obtain ⟨b, v, rfl, h1, h2, h3, h4, h5, h6⟩ := h
  refine ⟨h1, World.block_lt_of_cell? w _ h2, fun k hk => ?_⟩
  have := h4.lt k (by rw [h5]; exact hk)
  refine ⟨this.1, this.2, fun e => h6 ?_⟩
  rw [hk, e]
theorem wrP_stay (N : Nat) (w w' : World) (a : Addr) (g : Option Nat) (l : List (BitVec 8)) (h : WrP N w a g l) (hs : w.heap.size ≤ w'.heap.size) (hb : w'.heap[a.block]? = w.heap[a.block]?) (hg : ∀ k, g = some k → w'.heap[k]? = w.heap[k]?) : WrP N w' a g l := by
  obtain ⟨b, v, rfl, h1, h2, h3, h4, h5, h6⟩ := h
  exact ⟨b, v, rfl, h1, by rw [World.cell?_of_block (w := w) hb]; exact h2, by rw [World.frozen?_of_block (w := w) hb]; exact h3, h4.keep fun k hk => hg k (by rw [← h5]; exact hk), h5, h6⟩
theorem wrP_zero (N : Nat) (w : World) (hN : N ≤ w.heap.size) : WrP N (w.alloc (.cells zW 117)) ⟨w.heap.size, 0, none⟩ none [] :=
  ⟨w.heap.size, .slice none 0 0, rfl, hN, World.cell?_alloc_new _ _ _ _, by go_simp, OwnB.nil _ _, rfl, by simp⟩
theorem Kq.refl (b : Nat) (g : Option Nat) (w : World) : Kq b g w w := ⟨rfl, rfl, rfl, Nat.le_refl _, fun _ _ _ _ => rfl⟩
theorem Kq.trans {b : Nat} {g g' : Option Nat} {x y z : World} (h : Kq b g x y) (k : Kq b g' y z) (hg : ∀ i, g' = some i → g = some i ∨ x.heap.size ≤ i) : Kq b g x z :=
  ⟨k.os.trans h.os, k.tape.trans h.tape, k.output.trans h.output, Nat.le_trans h.size k.size, fun i h1 h2 h3 => (k.block i (Nat.lt_of_lt_of_le h1 h.size) h2 (fun e => by rcases hg i e with h4 | h4; exact h3 h4; omega)).trans (h.block i h1 h2 h3)⟩
theorem Kq.ofBelow {b : Nat} {g : Option Nat} {x y : World} (k : Below x.heap.size x y) : Kq b g x y := ⟨k.os, k.tape, k.output, k.size, fun i h _ _ => k.block i h⟩
/-- More bytes: appended to the writer's own, and stored. -/
theorem wr_put {N : Nat} {w y z : World} {b : Nat} {g : Option Nat} {l' : List (BitVec 8)} {v v' : Value} (hN : N ≤ b) (hblt : b < w.heap.size) (hB : Below w.heap.size w y) (hc : w.cell? ⟨b, 0, none⟩ = some v) (hf : w.frozen? ⟨b, 0, none⟩ = false) (hv : v.ownBlock = g) (hgb : g ≠ some b)
    (hO : OwnB z N v' l') (hG : y.grownBy z v.ownBlock) (hor : v'.ownBlock = v.ownBlock ∨ v'.ownBlock = some y.heap.size) :
    (z.cell? ⟨b, 0, none⟩ = some v ∧ z.frozen? ⟨b, 0, none⟩ = false) ∧ WrPost WrP N w ⟨b, 0, none⟩ g l' (z.setCell ⟨b, 0, none⟩ v') := by
  have hzb : z.heap[b]? = w.heap[b]? := by rw [hG.block b (Nat.lt_of_lt_of_le hblt hB.size) (by rw [hv]; exact Ne.symm hgb), hB.block b hblt]
  have hz : z.cell? ⟨b, 0, none⟩ = some v := by rw [World.cell?_of_block (w := w) hzb]; exact hc
  have hzf : z.frozen? ⟨b, 0, none⟩ = false := by rw [World.frozen?_of_block (w := w) hzb]; exact hf
  have hne : v'.ownBlock ≠ some b := by
    rcases hor with e | e
    · rw [e, hv]; exact hgb
    · rw [e]; intro h; injection h with h; have := hB.size; omega
  refine ⟨⟨hz, hzf⟩, v'.ownBlock, ⟨b, v', rfl, hN, World.cell?_setCell_same _ _ _ hz, by rw [World.frozen?_setCell]; exact hzf, hO.keep fun k hk => Below.heap_setCell _ _ _ _ (fun e => hne (by rw [hk]; exact congrArg some e)), rfl, hne⟩, fun k hk => ?_, ?_⟩
  · rcases hor with e | e
    · left; rw [← hv, ← e]; exact hk
    · right; rw [e] at hk; injection hk with hk; rw [← hk]; exact hB.size
  · exact ⟨hG.os.trans hB.os, hG.tape.trans hB.tape, hG.output.trans hB.output, Nat.le_trans hB.size (by simpa using hG.size), fun k h1 h2 h3 => by
      rw [Below.heap_setCell _ _ _ _ h2, hG.block k (Nat.lt_of_lt_of_le h1 hB.size) (by rw [hv]; exact fun e => h3 e.symm), hB.block k h1]⟩
/-- Two steps, one behind the other. -/
theorem WrPost.trans {N : Nat} {w y z : World} {a : Addr} {g g' : Option Nat} {l' : List (BitVec 8)} (hg' : ∀ k, g' = some k → g = some k ∨ w.heap.size ≤ k) (hK : Kq a.block g w y) (h : WrPost WrP N y a g' l' z) : WrPost WrP N w a g l' z := by
  obtain ⟨g2, h1, h2, h3⟩ := h
  refine ⟨g2, h1, fun k hk => ?_, hK.trans h3 hg'⟩
  rcases h2 k hk with h4 | h4
  · exact hg' k h4
  · right; have := hK.size; omega
end Go.Proofs.YtkajeepbelfpiaaGreatDoor
/- The program's Writer: numbers. -/
set_option maxRecDepth 100000
namespace Go.Proofs.YtkajeepbelfpiaaGreatDoor
open Go Go.RowKit
attribute [-go_sem] Sha.exec_store

theorem OwnB.shape3 {w : World} {base : Nat} {v : Value} {l : List (BitVec 8)} (h : OwnB w base v l) : ∃ p n c, v = .slice p n c := by
  obtain ⟨p, c, rfl, -⟩ := h.shape
  exact ⟨_, _, _, rfl⟩
theorem or128F : ∀ t : Fin 128, bits BinOp.or IntKind.u8 ((t.val : Nat) : Int) 128 = ((128 + t.val : Nat) : Int) := by decide
theorem or128 (t : Nat) (h : t < 128) : bits BinOp.or IntKind.u8 (t : Int) 128 = ((128 + t : Nat) : Int) := or128F ⟨t, h⟩
/-- A byte that was just made. -/
theorem Sl.one (x : World) (c : Nat) (h : c < 256) : Sl (x.alloc (.cells #[.int .u8 (c : Int)] 5)) (some ⟨x.heap.size, 0, none⟩) [BitVec.ofNat 8 c] := fun j hj => by
  have : j = 0 := by simp at hj; omega
  subst this
  refine ⟨x.heap.size, 0, rfl, ?_⟩
  rw [World.cell?_alloc_new]
  show some (Value.int .u8 (c : Int)) = some (B (BitVec.ofNat 8 c))
  rw [B_eq', BitVec.toNat_ofNat, Nat.mod_eq_of_lt (by simpa using h)]
set_option maxRecDepth 100000 in
set_option maxHeartbeats 4000000 in
theorem wrP_number (N : Nat) (w : World) (a : Addr) (g : Option Nat) (l : List (BitVec 8)) (n : Nat) (h : WrP N w a g l) (hl : l.length < 1000000100) (hn : n < 9223372036854775808) : Calls Tryz.prog 53 #[.pointer (some a), .int .i64 (n : Int)] w fun e w' => e = .returned (.bool true) ∧ WrPost WrP N w a g (l ++ enc7 n) w' := by
  have HW := Lib.hid h
  have hNb := wrP_lie _ _ _ _ _ h
  obtain ⟨b, v0, rfl, -⟩ := h
  have HN := Lib.hid hNb
  clear hNb
  have hge : ¬ (n : Int) < 0 := by omega
  have hged : decide ((n : Int) < 0) = false := decide_eq_false hge
  have HE9 := Lib.hid (show (enc7 n).length ≤ 9 from enc7_len 8 n (Nat.lt_of_lt_of_le hn (by decide)))
  go_enter Tryz.func53, Tryz.ntmps53
  go_wp2
  go_loopw [1] (fun vn wr => ∃ (m : Nat) (l' : List (BitVec 8)) (g' : Option Nat), vn = .int .i64 m ∧ m < 9223372036854775808 ∧ enc7 n = l' ++ enc7 m ∧ WrP N wr ⟨b, 0, none⟩ g' (l ++ l') ∧ (∀ k, g' = some k → g = some k ∨ w.heap.size ≤ k) ∧ Kq b g w wr) (fun vn _ => (intOf vn).toNat)
  case atStart => exact ⟨n, [], g, rfl, hn, rfl, by rw [List.append_nil]; exact HW.out, fun k hk => .inl hk, Kq.refl _ _ _⟩
  case round =>
    obtain ⟨m, l', g', rfl, hm, he, hW, hg', hK⟩ := hrel
    have hlen : (l ++ l').length < 2000000000 := by
      have h9 := HE9.out
      rw [he, List.length_append] at h9
      rw [List.length_append]; omega
    obtain ⟨b2, v, hb2, k1, hc, hf, hO, hv, hgb⟩ := hW
    injection hb2 with hb2
    subst hb2
    have hblt : b < wr.heap.size := World.block_lt_of_cell? wr _ hc
    have HO := Lib.hid hO
    have HV := Lib.hid (And.intro hv hgb)
    have HE := Lib.hid he
    have HG := Lib.hid hg'
    have HK := Lib.hid hK
    have HLEN := Lib.hid hlen
    clear hO hv hgb he hg' hK hlen
    by_cases h128 : 128 ≤ m
    · have z1 : (128 : Int) ≤ (m : Int) := by omega
      have z2 : decide ((128 : Int) ≤ (m : Int)) = true := decide_eq_true z1
      obtain ⟨t, ht⟩ : ∃ t, m % 128 = t := ⟨_, rfl⟩
      obtain ⟨m2, hm2⟩ : ∃ m2, m / 128 = m2 := ⟨_, rfl⟩
      have ht1 : t < 128 := by omega
      have t1 : (m : Int) % 128 = (t : Int) := by omega
      have t2 : (m : Int).tmod 128 = (t : Int) := by rw [Int.tmod_eq_emod_of_nonneg (by omega)]; exact t1
      have t3 : IntKind.u8.wrap (t : Int) = (t : Int) := by rw [IntKind.wrap_u8']; clear t1 t2; omega
      have t4 : (m : Int) / 128 = (m2 : Int) := by clear t2; omega
      have hor := or128 t ht1
      obtain ⟨c, hcc⟩ : ∃ c, 128 + t = c := ⟨_, rfl⟩
      rw [hcc] at hor
      have hHE := HE.out
      rw [enc7_hi h128, ht, hcc, hm2] at hHE
      have HE2 := Lib.hid hHE
      have HSL := Lib.hid (Sl.one wr c (by clear t1 t2 t4; omega))
      have HB := Lib.hid (show Below wr.heap.size wr (wr.alloc (.cells #[.int .u8 (c : Int)] 5)) from (Below.refl _ _).alloc (Nat.le_refl _) _)
      have HOB := Lib.hid (HO.out.of_below HB.out)
      have HM := Lib.hid (show m2 < m from by clear t1 t2 t4; omega)
      have hNs : N ≤ (wr.alloc (.cells #[.int .u8 (c : Int)] 5)).heap.size := by rw [World.size_alloc]; clear t1 t2 t4; omega
      have hc2 : (wr.alloc (.cells #[.int .u8 (c : Int)] 5)).cell? ⟨b, 0, none⟩ = some v := by rw [HB.out.cell (by exact hblt)]; exact hc
      clear ht hm2 hHE hcc HE
      go_wp2_with (first | (refine wpl_appendL _ rfl (.tmp 13) (.tmp 18) rfl N v (l ++ l') rfl HOB.out (some ⟨wr.heap.size, 0, none⟩) 1 1 [BitVec.ofNat 8 c] rfl rfl HSL.out (fun h => by cases h) (by have := HLEN.out; clear t1 t2 t4; omega) hNs ?_; rintro v3 w3 hO3 hg3 ho3
                            obtain ⟨⟨z3, f3⟩, hP3⟩ := wr_put k1 hblt HB.out hc hf HV.out.1 HV.out.2 hO3 hg3 ho3
                            have HP3 := Lib.hid hP3
                            obtain ⟨p3, n3, c3, rfl⟩ := hO3.shape3
                            clear hO3 hg3 ho3 hP3))
      obtain ⟨g2, q1, q2, q3⟩ := HP3.out
      refine ⟨⟨m2, l' ++ [BitVec.ofNat 8 c], g2, rfl, ?_, by rw [HE2.out]; simp, by rw [← List.append_assoc]; exact q1, fun k hk => (q2 k hk).elim (HG.out k) (fun h => .inr (Nat.le_trans HK.out.size h)), HK.out.trans q3 HG.out⟩, ?_⟩
      · have := HM.out; clear t1 t2 t4; omega
      · have := HM.out; simp [intOf]; exact this
    · have z1 : ¬ (128 : Int) ≤ (m : Int) := by omega
      have z2 : decide ((128 : Int) ≤ (m : Int)) = false := decide_eq_false z1
      have t3 : IntKind.u8.wrap (m : Int) = (m : Int) := by rw [IntKind.wrap_u8']; omega
      have hHE := HE.out
      rw [enc7_lo (n := m) (by omega)] at hHE
      have HE2 := Lib.hid hHE
      have HSL := Lib.hid (Sl.one wr m (by omega))
      have HB := Lib.hid (show Below wr.heap.size wr (wr.alloc (.cells #[.int .u8 (m : Int)] 5)) from (Below.refl _ _).alloc (Nat.le_refl _) _)
      have HOB := Lib.hid (HO.out.of_below HB.out)
      have hNs : N ≤ (wr.alloc (.cells #[.int .u8 (m : Int)] 5)).heap.size := by rw [World.size_alloc]; omega
      have hc2 : (wr.alloc (.cells #[.int .u8 (m : Int)] 5)).cell? ⟨b, 0, none⟩ = some v := by rw [HB.out.cell (by exact hblt)]; exact hc
      clear hHE HE
      go_wp2_with (first | (refine wpl_appendL _ rfl (.tmp 28) (.tmp 31) rfl N v (l ++ l') rfl HOB.out (some ⟨wr.heap.size, 0, none⟩) 1 1 [BitVec.ofNat 8 m] rfl rfl HSL.out (fun h => by cases h) (by have := HLEN.out; omega) hNs ?_; rintro v3 w3 hO3 hg3 ho3
                            obtain ⟨⟨z3, f3⟩, hP3⟩ := wr_put k1 hblt HB.out hc hf HV.out.1 HV.out.2 hO3 hg3 ho3
                            have HP3 := Lib.hid (WrPost.trans HG.out HK.out hP3)
                            obtain ⟨p3, n3, c3, rfl⟩ := hO3.shape3
                            clear hO3 hg3 ho3 hP3))
      go_ret
      exact ⟨rfl, by rw [HE2.out, ← List.append_assoc]; exact HP3.out⟩
set_option maxHeartbeats 1000000 in
theorem wrP_truth (N : Nat) (w : World) (a : Addr) (g : Option Nat) (l : List (BitVec 8)) (b : Bool) (h : WrP N w a g l) (hl : l.length < 1000000000) : Calls Tryz.prog 153 #[.pointer (some a), .bool b] w fun e w' => e = .returned (.tuple #[]) ∧ WrPost WrP N w a g (l ++ [if b then 1#8 else 0#8]) w' := by
  cases b with
  | true =>
    have HN := Lib.hid (wrP_number N w a g l 1 h (by omega) (by decide))
    clear h
    go_enter Tryz.func153, Tryz.ntmps153
    go_wp2_with fail
    refine HN.out.mono ?_
    rintro e w' ⟨rfl, hP⟩
    rw [enc7_lo (by decide)] at hP
    have HP := Lib.hid hP
    clear hP HN
    go_wp2
    go_end0
    exact ⟨rfl, HP.out⟩
  | false =>
    have HN := Lib.hid (wrP_number N w a g l 0 h (by omega) (by decide))
    clear h
    go_enter Tryz.func153, Tryz.ntmps153
    go_wp2_with fail
    refine HN.out.mono ?_
    rintro e w' ⟨rfl, hP⟩
    rw [enc7_lo (by decide)] at hP
    have HP := Lib.hid hP
    clear hP HN
    go_wp2
    go_end0
    exact ⟨rfl, HP.out⟩
set_option maxHeartbeats 1000000 in
theorem wrP_done (N : Nat) (w : World) (a : Addr) (g : Option Nat) (l : List (BitVec 8)) (h : WrP N w a g l) (hl : l.length < 1000000000) : Calls Tryz.prog 58 #[.pointer (some a)] w fun e w' => GivesB w l e w' := by
  obtain ⟨b, v, rfl, k1, hc, hf, hO, hv, hgb⟩ := h
  obtain ⟨p, cap, rfl, hs, hp, hle⟩ := hO.shape
  have HC := Lib.hid (clone_any l p l.length cap w rfl hs hp hle (by omega))
  clear hO hv hgb hs hp hle
  generalize l.length = n at *
  go_enter Tryz.func58, Tryz.ntmps58
  go_wp2_with fail
  refine HC.out.mono ?_
  rintro e w' ⟨v, rfl, hO, hB⟩
  have HO := Lib.hid (And.intro hO hB)
  clear hO hB HC
  go_wp2
  go_ret
  exact ⟨_, rfl, HO.out.1, HO.out.2⟩
end Go.Proofs.YtkajeepbelfpiaaGreatDoor
/- The program's Writer: bytes, texts, digests. -/
set_option maxRecDepth 100000
namespace Go.Proofs.YtkajeepbelfpiaaGreatDoor
open Go Go.RowKit
attribute [-go_sem] Sha.exec_store

theorem strOf_cells (l : List (BitVec 8)) : Lib.strCells (strOf l) = l.map B := by
  show ((l.map UInt8.ofBitVec).toArray.toList.map fun b => Value.int .u8 b.toNat) = _
  simp only [List.map_map]
  apply List.map_congr_left
  intro x _
  show Value.int .u8 ((UInt8.ofBitVec x).toNat : Int) = B x
  rw [B_eq']
  rfl
/-- A text appended to a slice of the call's own: the block afterwards is the old one or a new one. -/
theorem append_strL (w : World) (base : Nat) (ty : TypeId) (v : Value) (l : List (BitVec 8)) (hown : OwnB w base v l) (bs : List (BitVec 8)) (hn : l.length + bs.length < 1000000000000) (hb : base ≤ w.heap.size) :
    ∃ v' w', (Builtin.append_ #[56, 9] ty #[v, .string (strOf bs)]).run Tryz.prog w = .ok v' w' ∧ OwnB w' base v' (l ++ bs) ∧ w.grownBy w' v.ownBlock ∧ (v'.ownBlock = v.ownBlock ∨ v'.ownBlock = some w.heap.size) := by
  obtain ⟨i0, hi, hz0, hz1, hz2⟩ := info_parts info5
  have hst : Tryz.prog.underlying 9 = some .string := by kernel_rfl
  have hsz := strOf_size bs
  obtain ⟨v', w', h1, h2, h3, h4⟩ := Lib.run_append_own_string (P := Tryz.prog) w base 56 9 ty 5 i0 und35 hst hi hz0 hz1 hz2 v l.length (l.map B) hown (strOf bs) (by rw [hsz]; simp only [maxLen]; omega) (by rw [hsz]; omega) hb
  refine ⟨v', w', h1, by unfold OwnB; rw [List.length_append, List.map_append, ← strOf_cells bs, ← hsz]; exact h2, h3, ?_⟩
  rcases hown.2 with ⟨rfl, hl0⟩ | ⟨g, cap, cur, rfl, hbg, hg, hnc, hcm, hcs, htake⟩
  · by_cases h0 : (strOf bs).size = 0
    · left; rw [h4.2 ⟨rfl, h0⟩]
    · right
      have hr := run_append_nil_string (P := Tryz.prog) w 56 9 ty 5 i0 (.int .u8 0) und35 hst hi hz0 (strOf bs) (by omega) (by rw [hsz]; omega) (by rw [hz2, hsz]; omega)
      rw [hr] at h1
      injection h1 with h1 _
      rw [← h1]; rfl
  · by_cases hroom : l.length + (strOf bs).size ≤ cap
    · left
      have hr := Lib.run_append_room_string (P := Tryz.prog) w 56 9 ty 5 i0 und35 hst hi hz1 g l.length cap cur hg (strOf bs) hroom (by rw [hcs, Nat.mul_one]; exact hroom)
      rw [hr] at h1
      injection h1 with h1 _
      rw [← h1]; rfl
    · right
      have holds : ∀ j u, (l.map B)[j]? = some u → w.cell? ((⟨g, 0, none⟩ : Addr).add j) = some u := World.ownsRow.cells (g := g) hown rfl
      have hr := Lib.run_append_grow_string (P := Tryz.prog) w 56 9 ty 5 i0 (.int .u8 0) und35 hst hi hz0 ⟨g, 0, none⟩ l.length cap (l.map B) (by rw [hz1]; simp) holds (strOf bs) (by omega) (by rw [hsz]; omega) (by rw [hz2]; exact growslice_fits (by omega) (by rw [hsz]; omega))
      rw [hr] at h1
      injection h1 with h1 _
      rw [← h1]; rfl
theorem wpl_appendS {ops : Array Oper} {rest : List Oper} {o : Oper} {a : Act} {Q : Exit → Act → World → Prop} (w : World) (hgd : o.guard = none) (s x : Operand)
    (ho : o.op = .call { callee := .builtin .append, args := #[s, x], argTypes := #[56, 9] })
    (base : Nat) (v : Value) (l : List (BitVec 8)) (hs : a.eval s = v) (hown : OwnB w base v l) (bs : List (BitVec 8)) (S : ByteArray) (hS : strOf bs = S) (hx : a.eval x = .string S)
    (hn : l.length + bs.length < 1000000000000) (hb : base ≤ w.heap.size)
    (h : ∀ v' w', OwnB w' base v' (l ++ bs) → w.grownBy w' v.ownBlock → (v'.ownBlock = v.ownBlock ∨ v'.ownBlock = some w.heap.size) → wpList Tryz.prog ops Q rest (a.put o.dst v') w') : wpList Tryz.prog ops Q (o :: rest) a w := by
  subst hS
  refine wpList_plain hgd fun K hK => ?_
  obtain ⟨v', w', hr, h2, h3, h4⟩ := append_strL w base o.type v l hown bs hn hb
  unfold Oper.wp execOp
  simp only [ho, resolve, invoke, builtin, Sem.run_bind, Sem.run_pure, Result.andThen_ok, List.map_toArray, List.map_cons, List.map_nil, hs, hx, hr]
  exact hK _ _ (h v' w' h2 h3 h4)
set_option maxHeartbeats 1000000 in
theorem wrP_text (N : Nat) (w : World) (a : Addr) (g : Option Nat) (l : List (BitVec 8)) (bs : List (BitVec 8)) (h : WrP N w a g l) (hl : l.length < 1000000000) (hn : bs.length < 1000000) :
    Calls Tryz.prog 151 #[.pointer (some a), .string (strOf bs)] w fun e w' => e = .returned (.tuple #[]) ∧ WrPost WrP N w a g (l ++ (enc7 bs.length ++ bs)) w' := by
  obtain ⟨S, hS⟩ : ∃ S, strOf bs = S := ⟨_, rfl⟩
  have hsz : bs.length = S.size := by rw [← hS, strOf_size]
  have HS := Lib.hid hS
  rw [hS, hsz]
  rw [hsz] at hn
  have hL := wrP_lie _ _ _ _ _ h
  have HN := Lib.hid (wrP_number N w a g l S.size h (by omega) (by omega))
  have HX := Lib.hid (And.intro hL (And.intro hsz hl))
  have HE9 := Lib.hid (show (enc7 S.size).length ≤ 9 from enc7_len 8 _ (by rw [show (128 : Nat) ^ 9 = 9223372036854775808 by decide]; omega))
  clear h hL hl hS hsz
  go_enter Tryz.func151, Tryz.ntmps151
  go_wp2_with fail
  refine HN.out.mono ?_
  rintro e w1 ⟨rfl, g1, ⟨b, v, rfl, k1, hc, hf, hO, hv, hgb⟩, hg1, hK1⟩
  obtain ⟨hL, hsz, hl⟩ := HX.out
  have hblt : b < w1.heap.size := World.block_lt_of_cell? w1 _ hc
  have HO := Lib.hid hO
  have HV := Lib.hid (And.intro hv hgb)
  have HG := Lib.hid hg1
  have HK := Lib.hid hK1
  have hNs : N ≤ w1.heap.size := by omega
  have hlen : (l ++ enc7 S.size).length + bs.length < 1000000000000 := by have := HE9.out; rw [List.length_append]; omega
  have HLEN := Lib.hid hlen
  clear hL hsz hl hO hv hgb hg1 hK1 hlen HN
  go_wp2_with (first | (refine wpl_appendS _ rfl (.tmp 12) (.tmp 13) rfl N v (l ++ enc7 S.size) rfl HO.out bs S HS.out rfl HLEN.out hNs ?_; rintro v3 w3 hO3 hg3 ho3
                        obtain ⟨⟨z3, f3⟩, hP3⟩ := wr_put k1 hblt (Below.refl _ _) hc hf HV.out.1 HV.out.2 hO3 hg3 ho3
                        have HP3 := Lib.hid (WrPost.trans HG.out HK.out hP3)
                        obtain ⟨p3, n3, c3, rfl⟩ := hO3.shape3
                        clear hO3 hg3 ho3 hP3))
  go_end0
  exact ⟨rfl, by rw [← List.append_assoc]; exact HP3.out⟩
theorem exec_box32 (r : Operand → Value) (dst : Option Tmp) (x : Operand) (ty : TypeId) (pos : String) (after : Array Edge) (guard : Option (Nat × Bool)) :
    execOp r ⟨dst, .box 41 x, ty, pos, after, guard⟩ = bxT 41 (r x) := rfl
theorem bx_dig (w : World) (l : List (BitVec 8)) : (bxT 41 (digV l)).run Tryz.prog w = .ok (.value (.pointer (some ⟨w.heap.size, 0, none⟩))) (w.alloc (.cells (tab 32 (dgF l)) 41)) := by
  have hs := size32
  cases hq : Tryz.prog.info? 41 with
  | none => rw [hq] at hs; cases hs
  | some i =>
    rw [hq] at hs
    simp at hs
    unfold digV
    simp [bxT, Instr.box, newVar, newRow, Value.cells]
theorem dgF_sl {w : World} {E : Nat} {T : TypeId} {l : List (BitVec 8)} (h : Row w E T 32 (dgF l)) (hl : l.length = 32) : Sl w (some ⟨E, 0, none⟩) l :=
  Sl.row h (by omega) fun j hj => rfl
attribute [local go_sem] sl_arr bx_dig
attribute [local go_sem ↓] exec_slice exec_box32
set_option maxHeartbeats 1000000 in
theorem wrP_digest (N : Nat) (w : World) (a : Addr) (g : Option Nat) (l : List (BitVec 8)) (bs : List (BitVec 8)) (h : WrP N w a g l) (hl : l.length < 1000000000) (hn : bs.length = 32) :
    Calls Tryz.prog 56 #[.pointer (some a), digV bs] w fun e w' => e = .returned (.tuple #[]) ∧ WrPost WrP N w a g (l ++ bs) w' := by
  obtain ⟨b, v, rfl, k1, hc, hf, hO, hv, hgb⟩ := h
  have hblt : b < w.heap.size := World.block_lt_of_cell? w _ hc
  have hB : Below w.heap.size w (w.alloc (.cells (tab 32 (dgF bs)) 41)).drew := ((Below.refl _ _).alloc (Nat.le_refl _) _).drew
  have HB := Lib.hid hB
  have HO := Lib.hid (hO.of_below hB)
  have HSL := Lib.hid (dgF_sl (Row.new w 41 32 (dgF bs)).drew hn)
  have HV := Lib.hid (And.intro hv hgb)
  have hNs : N ≤ (w.alloc (.cells (tab 32 (dgF bs)) 41)).drew.heap.size := by have := hB.size; omega
  have hc1 : (w.alloc (.cells (tab 32 (dgF bs)) 41)).drew.cell? ⟨b, 0, none⟩ = some v := by rw [hB.cell (by exact hblt)]; exact hc
  have HC := Lib.hid (And.intro hc hf)
  have HNS := Lib.hid hNs
  have HL := Lib.hid (And.intro hl hn)
  clear hB hO hv hgb hc hf hNs hl hn
  obtain ⟨p0, n0, c0, rfl⟩ := HO.out.shape3
  go_enter Tryz.func56, Tryz.ntmps56
  go_wp2
  go_region_law (first
    | (refine step_appendL _ rfl (.tmp 8) (.tmp 9) rfl N (.slice p0 n0 c0) l rfl HO.out (some ⟨w.heap.size, 0, none⟩) 32 32 bs HL.out.2 rfl HSL.out (fun h => by cases h) (by have := HL.out.1; omega) HNS.out ?_; rintro v3 w3 hO3 hg3 ho3
       obtain ⟨⟨z3, f3⟩, hP3⟩ := wr_put k1 hblt HB.out HC.out.1 HC.out.2 HV.out.1 HV.out.2 hO3 hg3 ho3
       have HP3 := Lib.hid hP3
       obtain ⟨p3, n3, c3, rfl⟩ := hO3.shape3
       clear hO3 hg3 ho3 hP3))
  all_goals
    go_wp2
    go_end0
    exact ⟨rfl, HP3.out⟩
end Go.Proofs.YtkajeepbelfpiaaGreatDoor
/- The iterator over a vector's numbers that are not 0. -/
set_option maxRecDepth 100000
namespace Go.Proofs.YtkajeepbelfpiaaGreatDoor
open Go Go.RowKit Go.Shelf
attribute [-go_sem] Sha.exec_store

/-- The replicas below i whose numbers are not 0. -/
def nzV (f : Nat → Int) : Nat → List Nat
  | 0 => []
  | i + 1 => if f i = 0 then nzV f i else nzV f i ++ [i]
theorem nzV_zero {f : Nat → Int} {i : Nat} (h : f i = 0) : nzV f (i + 1) = nzV f i := by rw [nzV, if_pos h]
theorem nzV_one {f : Nat → Int} {i : Nat} (h : f i ≠ 0) : nzV f (i + 1) = nzV f i ++ [i] := by rw [nzV, if_neg h]
theorem nzV_len (f : Nat → Int) : ∀ i, (nzV f i).length = cntV f i
  | 0 => rfl
  | i + 1 => by
    have := nzV_len f i
    by_cases h : f i = 0
    · rw [nzV_zero h, cntV_zero h, this]
    · rw [nzV_one h, cntV_one h, List.length_append, this]; rfl
theorem nzV_mem {f : Nat → Int} {j : Nat} : ∀ {i : Nat}, j ∈ nzV f i → j < i ∧ f j ≠ 0
  | 0, h => by cases h
  | i + 1, h => by
    by_cases h0 : f i = 0
    · rw [nzV_zero h0] at h; have := nzV_mem h; exact ⟨by omega, this.2⟩
    · rw [nzV_one h0] at h
      rcases List.mem_append.1 h with h | h
      · have := nzV_mem h; exact ⟨by omega, this.2⟩
      · rw [List.mem_singleton] at h; subst h; exact ⟨by omega, h0⟩
theorem nzV_pre {f : Nat → Int} : ∀ (d i : Nat), nzV f i <+: nzV f (i + d)
  | 0, i => List.prefix_refl _
  | d + 1, i => by
    have h := nzV_pre (f := f) d i
    rw [show i + (d + 1) = (i + d) + 1 by omega]
    by_cases h0 : f (i + d) = 0
    · rw [nzV_zero h0]; exact h
    · rw [nzV_one h0]; exact h.trans (List.prefix_append _ _)
/-- What is written of the replicas listed. -/
def bodyL (f : Nat → Int) : List Nat → List (BitVec 8)
  | [] => []
  | i :: r => enc7 i ++ enc7 (f i).toNat ++ bodyL f r
theorem bodyL_append (f : Nat → Int) : ∀ l m, bodyL f (l ++ m) = bodyL f l ++ bodyL f m
  | [], _ => rfl
  | i :: r, m => by
    show enc7 i ++ enc7 (f i).toNat ++ bodyL f (r ++ m) = enc7 i ++ enc7 (f i).toNat ++ bodyL f r ++ bodyL f m
    rw [bodyL_append f r m]
    simp only [List.append_assoc]
theorem bodyL_nz (f : Nat → Int) : ∀ i, bodyL f (nzV f i) = bodyV f i
  | 0 => rfl
  | i + 1 => by
    have := bodyL_nz f i
    by_cases h : f i = 0
    · rw [nzV_zero h, bodyV_zero h, this]
    · rw [nzV_one h, bodyV_one h, bodyL_append, this]
      show bodyV f i ++ (enc7 i ++ enc7 (f i).toNat ++ []) = _
      rw [List.append_nil, List.append_assoc]
attribute [local go_sem] Oper.semAt_some
attribute [local go_sem ↓] exec_boxV exec_loadV exec_indexV exec_storeV
attribute [local go_sem] boxV indexV
set_option maxRecDepth 100000 in
set_option maxHeartbeats 2000000 in
theorem nonzero_seq (m : Nat) (hm : 3 ≤ m) (bb : Nat) (f : Nat → Int) (w : World) (hb : Row w bb 40 16 (vf f)) :
    SeqP m 215 #[.pointer (some ⟨bb, 0, none⟩)] (fun i : Nat => #[.int .i64 (i : Int), .int .i64 (f i)]) bb (nzV f 16) w := by
  intro L J Jx A hA hJd hY h0
  have hm1 : 1 ≤ m := by omega
  have hbA := hb.of_below hA
  have l1 := loadVT vtV (VecAt.of_row hbA (Nat.le_refl _))
  refine callsIn_of_wp Tryz.func215 rfl trivial ?_ rfl
  simp only [Tryz.ntmps215, List.size_toArray, List.length_cons, List.length_nil, Nat.reduceAdd, Nat.reduceSub, Array.replicate_succ, Array.replicate_zero, List.push_toArray, List.append_toArray, List.nil_append, List.cons_append]
  clear hb hbA
  gi_wp2
  clear l1
  gi_loopw [6] (fun v6 wr => ∃ i : Nat, v6 = .int .i64 (i : Int) ∧ i ≤ 16 ∧ J (nzV f i) wr) (fun v6 wr => 16 - (intOf v6).toNat)
  case atStart => exact ⟨0, rfl, Nat.zero_le _, h0⟩
  case round =>
    obtain ⟨i, rfl, hik, hJ0⟩ := hrel
    have HJ0 := Lib.hid hJ0
    by_cases hlt : i < 16
    · have z1 : (i : Int) < 16 := by omega
      have z2 : decide ((i : Int) < 16) = true := decide_eq_true z1
      have w3 := i64v i hlt
      by_cases hz : f i = 0
      · have HN := Lib.hid (show J (nzV f (i + 1)) wr from by rw [nzV_zero hz]; exact hJ0)
        clear hJ0
        gi_wp2
        refine ⟨(fun f hf => by cases hf), ?_⟩
        gi_wp2
        go_roundw
        case rel => exact ⟨i + 1, by go_num, by omega, HN.out⟩
        case measure => simp [intOf]; omega
      · have hpre : nzV f i ++ [i] <+: nzV f 16 := by
          rw [← nzV_one hz]
          have := nzV_pre (f := f) (15 - i) (i + 1)
          rw [show i + 1 + (15 - i) = 16 by omega] at this
          exact this
        have HPRE := Lib.hid hpre
        have d1 : ((f i) == 0) = false := by rw [beq_eq_false_iff_ne]; exact hz
        have HZ := Lib.hid (nzV_one hz)
        obtain ⟨fn, tmps, assign, body, hy, hR⟩ := hY (nzV f i) i wr hpre hJ0
        dsimp only at hy
        clear hJ0 hpre
        gi_wp2
        refine hR.mono ?_
        rintro e W3 (⟨rfl, hJ3, hB3⟩ | ⟨rfl, hJx3⟩)
        · have HJ3 := Lib.hid (show J (nzV f (i + 1)) W3 from by rw [HZ.out]; exact hJ3)
          clear hJ3 hB3
          gi_wp2
          go_roundw
          case rel => exact ⟨i + 1, by go_num, by omega, HJ3.out⟩
          case measure => simp [intOf]; omega
        · have HJX := Lib.hid (show ∃ pre, pre <+: nzV f 16 ∧ Jx pre W3 from ⟨nzV f i ++ [i], HPRE.out, hJx3⟩)
          clear hJx3
          gi_wp2
          refine bodyPost_ret (results_none rfl _ _ _) rfl ?_
          exact ⟨⟨_, rfl⟩, .inr HJX.out⟩
    · have z1 : ¬ (i : Int) < 16 := by omega
      have z2 : decide ((i : Int) < 16) = false := decide_eq_false z1
      obtain rfl : i = 16 := by omega
      gi_wp2
      go_end0
      exact ⟨⟨_, rfl⟩, .inl HJ0.out⟩
theorem mkFnZ : ∀ (fn : Fn) (first cap : Array Value) (w : World), (Instr.makeFunc fn first cap).run Tryz.prog w = .ok (.func fn first cap) w := fun _ _ _ _ => rfl
attribute [local go_sem] mkFnZ
theorem nonzero_any (f : Nat → Int) (u : World) : Calls Tryz.prog 188 #[vcV f] u fun e w' => e = .returned (.func (.func 215) #[] #[.pointer (some ⟨u.heap.size, 0, none⟩)]) ∧ w' = u.alloc (.cells (tab 16 (vf f)) 40) := by
  go_enter Tryz.func188, Tryz.ntmps188
  go_wp2
  go_ret
  exact ⟨rfl, rfl⟩
end Go.Proofs.YtkajeepbelfpiaaGreatDoor
/- Put of the program: the encoding of a good vector is written. -/
set_option maxRecDepth 100000
namespace Go.Proofs.YtkajeepbelfpiaaGreatDoor
open Go Go.RowKit Go.Shelf
attribute [-go_sem] Sha.exec_store

attribute [local go_sem] Oper.semAt_some
theorem below_newZ (w : World) (o : Obj) : Below w.heap.size w (w.alloc o) := (Below.refl _ _).alloc (Nat.le_refl _) _
theorem new_cZ (w : World) (v : Value) (T : TypeId) : (w.alloc (.cells #[v] T)).cell? ⟨w.heap.size, 0, none⟩ = some v ∧ (w.alloc (.cells #[v] T)).frozen? ⟨w.heap.size, 0, none⟩ = false := ⟨World.cell?_alloc_new _ _ _ _, by go_simp⟩
theorem cells_of_cell {w : World} {a : Addr} {v : Value} {o : Obj} (h : w.cell? a = some v) (ho : w.heap[a.block]? = some o) : o.isCells = true := by
  unfold World.cell? at h
  rw [ho] at h
  cases o <;> first | rfl | simp at h
theorem Kq.others {w w' : World} {g : Option Nat} {N : Nat} {l : List (BitVec 8)} {a : Addr} (h : Kq a.block g w w') (hW : WrP N w a g l) : KeepsOthers w w' := ⟨h.size, fun k o hk hc => by
  obtain ⟨b, v, rfl, h1, h2, h3, h4, h5, h6⟩ := hW
  have hlt := (Array.getElem?_eq_some_iff.1 hk).1
  by_cases e : k = b
  · subst e
    rw [cells_of_cell h2 hk] at hc; cases hc
  · by_cases e2 : g = some k
    · rcases h4.2 with ⟨hv, _⟩ | ⟨g2, cap, cur, hv, _, hg2, _⟩
      · rw [← h5, hv] at e2; cases e2
      · have : g2 = k := by rw [← h5, hv] at e2; injection e2
        subst this
        rw [hg2] at hk
        injection hk with hk
        subst hk
        cases hc
    · rw [h.block k hlt e e2]; exact hk⟩
/-- The boxes of Put. -/
structure PBx (w : World) (n : Nat) (f : Nat → Int) (a : Addr) (A : World) : Prop where
  row : Row A n 40 16 (vf f)
  ptr : A.cell? ⟨n + 1, 0, none⟩ = some (.pointer (some a))
theorem PBx.keep {w : World} {n : Nat} {f : Nat → Int} {a : Addr} {A A' : World} (h : PBx w n f a A) (h1 : A'.heap[n]? = A.heap[n]?) (h2 : A'.heap[n + 1]? = A.heap[n + 1]?) : PBx w n f a A' := ⟨h.row.of_block h1, by rw [World.cell?_of_block (w := A) h2]; exact h.ptr⟩
/-- What the first loop carries: so many are counted. -/
def InvP1 (w : World) (n : Nat) (f : Nat → Int) (a : Addr) (pre : List Nat) (A : World) : Prop :=
  A.cell? ⟨n + 1 + 1, 0, none⟩ = some (.int .i64 (pre.length : Int)) ∧ A.frozen? ⟨n + 1 + 1, 0, none⟩ = false ∧ PBx w n f a A ∧ Below n w A
theorem InvP1.of_below {w : World} {n N : Nat} {f : Nat → Int} {a : Addr} {pre : List Nat} {A A' : World} (h : InvP1 w n f a pre A) (hN : n + 1 + 1 < N) (hB : Below N A A') : InvP1 w n f a pre A' :=
  ⟨by rw [hB.cell (by exact hN)]; exact h.1, by rw [hB.frozen (by exact hN)]; exact h.2.1, h.2.2.1.keep (hB.block _ (by omega)) (hB.block _ (by omega)), h.2.2.2.trans (hB.mono (by omega))⟩
theorem InvP1.lt {w : World} {n : Nat} {f : Nat → Int} {a : Addr} {pre : List Nat} {A : World} (h : InvP1 w n f a pre A) : n + 1 + 1 < A.heap.size := World.block_lt_of_cell? A _ h.1
theorem InvP1.bears (w : World) (n M : Nat) (f : Nat → Int) (a : Addr) (hM : n + 1 + 1 < M) : BearsP M (InvP1 w n f a) :=
  ⟨fun pre A o h => h.of_below h.lt (below_newZ A o), fun pre A o hlt h => h.of_below (N := M + 1) (by omega) (below_putP o (Nat.le_refl _) hlt), fun pre A k h => h.of_below h.lt ((show Dr A (A.drewN k) from ⟨k, rfl⟩).below _)⟩
/-- What the second loop carries: what was written. -/
def InvP2 (w : World) (n M : Nat) (f : Nat → Int) (a : Addr) (N : Nat) (g : Option Nat) (l : List (BitVec 8)) (D1 : Nat) (pre : List Nat) (A : World) : Prop :=
  PBx w n f a A ∧ (n + 1 < M ∧ D1 < M ∧ A.heap[D1]? = some (.deferred (some []))) ∧ M ≤ A.heap.size ∧ ∃ g', WrP N A a g' (l ++ bodyL f pre) ∧ (∀ k, g' = some k → (g = some k ∨ n + 1 < k) ∧ (k + 1 < M ∨ M + 2 ≤ k)) ∧ Kq a.block g w A
theorem InvP2.step {w : World} {n M : Nat} {f : Nat → Int} {a : Addr} {N : Nat} {g : Option Nat} {l : List (BitVec 8)} {D1 : Nat} {pre : List Nat} {A A' : World} (h : InvP2 w n M f a N g l D1 pre A) (hw : w.heap.size ≤ n) (ha : a.block < w.heap.size)
    (hos : A'.os = A.os ∧ A'.tape = A.tape ∧ A'.output = A.output ∧ A.heap.size ≤ A'.heap.size) (hb : ∀ k, k < A.heap.size → (k < M ∨ M + 2 ≤ k) → A'.heap[k]? = A.heap[k]?) (hg : ∀ k, g = some k → k < w.heap.size) : InvP2 w n M f a N g l D1 pre A' := by
  obtain ⟨h1, ⟨h2, h2b, h2c⟩, h3, g', h4, h5, h6⟩ := h
  refine ⟨h1.keep (hb _ (by omega) (by omega)) (hb _ (by omega) (by omega)), ⟨h2, h2b, (hb _ (by omega) (by omega)).trans h2c⟩, Nat.le_trans h3 hos.2.2.2, g', wrP_stay _ _ _ _ _ _ h4 hos.2.2.2 (hb _ (by omega) (by omega)) (fun k hk => hb k ((wrP_lie _ _ _ _ _ h4).2.2 k hk).2.1 (by have := (h5 k hk).2; omega)), h5,
    ⟨hos.1.trans h6.os, hos.2.1.trans h6.tape, hos.2.2.1.trans h6.output, Nat.le_trans h6.size hos.2.2.2, fun k k1 k2 k3 => (hb k (Nat.lt_of_lt_of_le k1 h6.size) (by omega)).trans (h6.block k k1 k2 k3)⟩⟩
theorem InvP2.bears (w : World) (n M : Nat) (f : Nat → Int) (a : Addr) (N : Nat) (g : Option Nat) (l : List (BitVec 8)) (D1 : Nat) (hw : w.heap.size ≤ n) (ha : a.block < w.heap.size) (hg : ∀ k, g = some k → k < w.heap.size) : BearsP M (InvP2 w n M f a N g l D1) :=
  ⟨fun pre A o h => h.step hw ha ⟨rfl, rfl, rfl, (below_newZ A o).size⟩ (fun k hk _ => (below_newZ A o).block k hk) hg,
   fun pre A o hlt h => h.step hw ha ⟨(below_putP (N := 0) o (Nat.zero_le _) hlt).os, (below_putP (N := 0) o (Nat.zero_le _) hlt).tape, (below_putP (N := 0) o (Nat.zero_le _) hlt).output, (below_putP (N := 0) o (Nat.zero_le _) hlt).size⟩ (fun k hk hM => World.putObj_heap_other (by omega)) hg,
   fun pre A k h => h.step hw ha ⟨rfl, rfl, rfl, Nat.le_refl _⟩ (fun _ _ _ => rfl) hg⟩
attribute [local go_sem ↓] exec_boxV exec_loadV exec_indexV exec_storeV
attribute [local go_sem] boxV indexV
set_option maxRecDepth 100000 in
set_option maxHeartbeats 4000000 in
theorem put9_any (f : Nat → Int) (hf : ∀ i, i < 16 → 0 ≤ f i ∧ f i ≤ 1099511627776) (N : Nat) (w : World) (a : Addr) (g : Option Nat) (l : List (BitVec 8)) (h : WrP N w a g l) (hll : l.length < 1000000) :
    Calls Tryz.prog 152 #[vcV f, .pointer (some a)] w fun e w' => e = .returned (.tuple #[]) ∧ WrPost WrP N w a g (l ++ encV f) w' := by
  refine (callsIn_wide (n := 7)).1 ?_
  refine callsIn_of_wp_marks Tryz.func152 rfl trivial ?_ rfl
  simp only [Tryz.ntmps152, List.size_toArray, List.length_cons, List.length_nil, Nat.reduceAdd, Nat.reduceSub, Array.replicate_succ, Array.replicate_zero, List.push_toArray, List.append_toArray, List.nil_append, List.cons_append]
  have hlie := wrP_lie _ _ _ _ _ h
  obtain ⟨n, hn⟩ : ∃ n, w.heap.size = n := ⟨_, rfl⟩
  obtain ⟨W1, hW1⟩ : ∃ W1, w.alloc (.cells (tab 16 (vf f)) 40) = W1 := ⟨_, rfl⟩
  obtain ⟨W2, hW2⟩ : ∃ W2, W1.alloc (.cells #[.pointer (some a)] 174) = W2 := ⟨_, rfl⟩
  obtain ⟨W3, hW3⟩ : ∃ W3, W2.alloc (.cells #[.int .i64 0] 3) = W3 := ⟨_, rfl⟩
  obtain ⟨W4, hW4⟩ : ∃ W4, W3.alloc (.cells (tab 16 (vf f)) 40) = W4 := ⟨_, rfl⟩
  have s1 : W1.heap.size = n + 1 := by rw [← hW1]; simp [hn]
  have s2 : W2.heap.size = n + 1 + 1 := by rw [← hW2]; simp [s1]
  have s3 : W3.heap.size = n + 1 + 1 + 1 := by rw [← hW3]; simp [s2]
  have s4 : W4.heap.size = n + 1 + 1 + 1 + 1 := by rw [← hW4]; simp [s3]
  have b1 : Below w.heap.size w W1 := by rw [← hW1]; exact below_newZ _ _
  have b2 : Below W1.heap.size W1 W2 := by rw [← hW2]; exact below_newZ _ _
  have b3 : Below W2.heap.size W2 W3 := by rw [← hW3]; exact below_newZ _ _
  have b4 : Below W3.heap.size W3 W4 := by rw [← hW4]; exact below_newZ _ _
  have r1 : Row W1 n 40 16 (vf f) := by rw [← hW1, ← hn]; exact Row.new _ _ _ _
  have r3 : Row W3 n 40 16 (vf f) := (r1.of_below b2).of_below b3
  have p2 : W2.cell? ⟨n + 1, 0, none⟩ = some (.pointer (some a)) := by rw [← hW2, ← s1]; exact World.cell?_alloc_new _ _ _ _
  have p3 : W3.cell? ⟨n + 1, 0, none⟩ = some (.pointer (some a)) := by rw [b3.cell (by show n + 1 < _; omega)]; exact p2
  obtain ⟨c3, f3⟩ := new_cZ W2 (.int .i64 0) 3
  rw [hW3, s2] at c3 f3
  have b34 := b4
  rw [s3] at b34
  have hInv0 : InvP1 w n f a [] W4 := (show InvP1 w n f a [] W3 from ⟨c3, f3, ⟨r3, p3⟩, by rw [← hn]; exact (b1.trans (b2.mono b1.size)).trans (b3.mono (b1.trans (b2.mono b1.size)).size)⟩).of_below (by omega) b34
  have r4 : Row W4 (n + 1 + 1 + 1) 40 16 (vf f) := by rw [← hW4, ← s3]; exact Row.new _ _ _ _
  have HSQ1 := Lib.hid (nonzero_seq 6 (by decide) (n + 1 + 1 + 1) f W4 r4)
  have HI0 := Lib.hid hInv0
  have l1 : (ldT 40 (.pointer (some ⟨w.heap.size, 0, none⟩))).run Tryz.prog (((w.alloc (.cells (tab 16 (vf f)) 40)).alloc (.cells #[.pointer (some a)] 174)).alloc (.cells #[.int .i64 0] 3)) = .ok (.value (vcV f)) (((w.alloc (.cells (tab 16 (vf f)) 40)).alloc (.cells #[.pointer (some a)] 174)).alloc (.cells #[.int .i64 0] 3)) := by
    rw [hW1, hW2, hW3, hn]
    exact loadVT vtV (VecAt.of_row r3 (Nat.le_refl _))
  have HW := Lib.hid (show WrP N w a g l from h)
  have HLIE := Lib.hid hlie
  have HF := Lib.hid hf
  clear h hlie hf r1 r3 p2 p3 c3 f3 b34 hInv0 r4 b1 b2 b3 b4
  have HEQ := Lib.hid (And.intro hW1 (And.intro hW2 (And.intro hW3 hW4)))
  have HS := Lib.hid (And.intro s1 (And.intro s2 (And.intro s3 s4)))
  have HN := Lib.hid hn
  clear hW1 hW2 hW3 hW4 s1 s2 s3 s4 hn
  gi_wp2_with (refine ⟨trivial, ?_⟩; gi_at_call 188; refine (callsIn_wide.2 (nonzero_any f _)).mono ?_; rintro e w' ⟨rfl, rfl⟩)
  clear l1
  rw [HEQ.out.1, HEQ.out.2.1, HEQ.out.2.2.1, HEQ.out.2.2.2]
  try rw [HS.out.2.2.1]
  try rw [HS.out.1]
  try rw [HS.out.2.1]
  try rw [HN.out]
  have s4 := HS.out.2.2.2
  refine range_pure (m := 7) (by decide) (gf := 215) (lb := #[.pointer (some ⟨n + 1 + 1 + 1, 0, none⟩)]) (by rfl) (enters_of Tryz.func215 (by kernel_rfl) rfl)
    (encs := fun i : Nat => #[.int .i64 (i : Int), .int .i64 (f i)]) (fun _ => rfl) (b := n + 1 + 1 + 1) (by omega) HSQ1.out
    (InvP1 w n f a) (fun _ _ => False) (InvP1.bears w n _ f a (by omega)) (fun _ _ _ _ h => h) HI0.out
    (fun i => { tmps := #[vcV f, .pointer (some a), .pointer (some ⟨n, 0, none⟩), .pointer (some ⟨n + 1, 0, none⟩), .pointer (some ⟨n + 1 + 1, 0, none⟩), undef, undef, vcV f, .func (.func 215) #[] #[.pointer (some ⟨n + 1 + 1 + 1, 0, none⟩)], .int .i64 (i : Int), .int .i64 (f i), undef, undef, undef, undef, undef, undef, undef, undef, undef, undef, undef, undef, undef, undef, undef], defers := [] }) ?assign ?body ?done ?stop
  case assign =>
    intro L x A K hK
    go_simp
    gi_wp2
    exact hK
  case body =>
    rintro L pre i A hpx hNA ⟨hc, hfz, hbx, hB⟩
    have hlen : pre.length < 16 := by
      obtain ⟨t, e⟩ := hpx
      have h1 := congrArg List.length e
      rw [nzV_len] at h1
      have h2 := cntV_le f 16
      simp only [List.length_append, List.length_cons, List.length_nil] at h1
      omega
    have hw1 := i64v pre.length hlen
    have HBX := Lib.hid hbx
    have HB := Lib.hid hB
    have HC := Lib.hid (And.intro hc hfz)
    clear hbx hB hpx
    gi_wp2
    refine ⟨KeepsOthers.setCell _ _ _, Below.heap_setCell _ _ _ _ (show n + 1 + 1 + 1 ≠ n + 1 + 1 by omega), ?_, by rw [World.frozen?_setCell]; exact HC.out.2, HBX.out.keep (Below.heap_setCell _ _ _ _ (show n ≠ n + 1 + 1 by omega)) (Below.heap_setCell _ _ _ _ (show n + 1 ≠ n + 1 + 1 by omega)), HB.out.setCell (show n ≤ (⟨n + 1 + 1, 0, none⟩ : Addr).block by show n ≤ n + 1 + 1; omega) _⟩
    rw [World.cell?_setCell_same _ _ _ HC.out.1]
    rw [List.length_append]
    simp
  case done =>
    rintro D A hD ⟨hc, hfz, hbx, hB⟩ hK
    rw [s4] at hD
    subst hD
    have l2 := loadVT vtV (VecAt.of_row hbx.row (Nat.le_refl _))
    have x1 := hbx.ptr
    rw [nzV_len] at hc
    obtain ⟨C, hC⟩ : ∃ C, cntV f 16 = C := ⟨_, rfl⟩
    rw [hC] at hc
    have hC16 : C ≤ 16 := by rw [← hC]; exact cntV_le f 16
    have HCE := Lib.hid hC
    have hab : a.block < n := by rw [← HN.out]; exact HLIE.out.2.1
    have hgb : ∀ k, g = some k → k < n := fun k hk => by rw [← HN.out]; exact (HLIE.out.2.2 k hk).2.1
    have hB' : Below w.heap.size w A := by rw [HN.out]; exact hB
    have hWA : WrP N A a g l := wrP_stay _ _ _ _ _ _ HW.out hB'.size (hB'.block _ HLIE.out.2.1) (fun k hk => hB'.block _ (HLIE.out.2.2 k hk).2.1)
    have HNC := Lib.hid (wrP_number N A a g l C hWA (by omega) (by omega))
    have hDlt := (Array.getElem?_eq_some_iff.1 hK).1
    have hA4 : n + 1 + 1 + 1 + 1 < A.heap.size := by omega
    have HBX := Lib.hid hbx
    have HB := Lib.hid hB
    have HKD := Lib.hid hK
    have HWA := Lib.hid hWA
    clear hbx hB hB' hK hWA hC
    gi_wp2_with (first | (refine ⟨trivial, ?_⟩; gi_at_call 53; refine (callsIn_wide.2 HNC.out).mono ?_; rintro e w5 ⟨rfl, hP5⟩
                          obtain ⟨g5, hW5, hg5, hK5⟩ := hP5
                          have hkn : w5.heap[n]? = A.heap[n]? := hK5.block n (by omega) (by omega) (fun e => by have := hgb n e; omega)
                          have hkn1 : w5.heap[n + 1]? = A.heap[n + 1]? := hK5.block (n + 1) (by omega) (by omega) (fun e => by have := hgb (n + 1) e; omega)
                          have HD5 := Lib.hid (show w5.heap[n + 1 + 1 + 1 + 1]? = some (.deferred (some [])) from (hK5.block (n + 1 + 1 + 1 + 1) hDlt (by omega) (fun e => by have := hgb (n + 1 + 1 + 1 + 1) e; omega)).trans HKD.out)
                          have HBX5 := Lib.hid (HBX.out.keep hkn hkn1)
                          have l3 := loadVT vtV (VecAt.of_row HBX5.out.row (Nat.le_refl _))
                          have x3 := HBX5.out.ptr
                          have HP5 := Lib.hid (And.intro hW5 (And.intro hg5 hK5))
                          clear hW5 hg5 hK5 hkn hkn1)
                       | (refine ⟨trivial, ?_⟩; gi_at_call 188; refine (callsIn_wide.2 (nonzero_any f _)).mono ?_; rintro e w' ⟨rfl, rfl⟩))
    clear l2 l3 x1 x3
    have hw5 : n + 1 + 1 + 1 + 1 < w5.heap.size := Nat.lt_of_lt_of_le hA4 HP5.out.2.2.size
    have hB6 : Below w5.heap.size w5 (w5.alloc (.cells (tab 16 (vf f)) 40)) := below_newZ _ _
    have hz6 : (w5.alloc (.cells (tab 16 (vf f)) 40)).heap.size = w5.heap.size + 1 := World.size_alloc _ _
    have HSQ2 := Lib.hid (nonzero_seq 6 (by decide) w5.heap.size f _ (Row.new w5 40 16 (vf f)))
    generalize hW6 : w5.alloc (.cells (tab 16 (vf f)) 40) = W6 at *
    clear hW6
    obtain ⟨B2, hB2⟩ : ∃ B2, w5.heap.size = B2 := ⟨_, rfl⟩
    rw [hB2] at HSQ2 hz6 ⊢
    have hKA : Kq a.block g w A := ⟨HB.out.os, HB.out.tape, HB.out.output, by have := HB.out.size; omega, fun k k1 k2 k3 => HB.out.block k (by rw [HN.out] at k1; exact k1)⟩
    have hInv2 : InvP2 w n W6.heap.size f a N g (l ++ enc7 C) (n + 1 + 1 + 1 + 1) [] W6 := by
      obtain ⟨hW5, hg5, hK5⟩ := HP5.out
      refine ⟨HBX5.out.keep (hB6.block _ (by omega)) (hB6.block _ (by omega)), ⟨by omega, by omega, (hB6.block _ (by omega)).trans HD5.out⟩, Nat.le_refl _, g5, ?_, fun k hk => ?_, ?_⟩
      · show WrP N W6 a g5 (l ++ enc7 C ++ [])
        rw [List.append_nil]
        exact wrP_stay _ _ _ _ _ _ hW5 hB6.size (hB6.block _ (wrP_lie _ _ _ _ _ hW5).2.1) (fun k hk => hB6.block _ ((wrP_lie _ _ _ _ _ hW5).2.2 k hk).2.1)
      · have := ((wrP_lie _ _ _ _ _ hW5).2.2 k hk).2.1
        refine ⟨(hg5 k hk).imp id (fun h => by omega), by omega⟩
      · exact (hKA.trans hK5 (fun i e => .inl e)).trans (Kq.ofBelow hB6 (g := g)) (fun i e => .inl e)
    have HI2 := Lib.hid hInv2
    clear hInv2 hB6 hKA
    refine range_pure (m := 7) (by decide) (gf := 215) (lb := #[.pointer (some ⟨B2, 0, none⟩)]) (by rfl) (enters_of Tryz.func215 (by kernel_rfl) rfl)
      (encs := fun i : Nat => #[.int .i64 (i : Int), .int .i64 (f i)]) (fun _ => rfl) (b := B2) (by omega) HSQ2.out
      (InvP2 w n W6.heap.size f a N g (l ++ enc7 C) (n + 1 + 1 + 1 + 1)) (fun _ _ => False) (InvP2.bears w n _ f a N g _ (n + 1 + 1 + 1 + 1) (by rw [HN.out]; exact Nat.le_refl _) HLIE.out.2.1 (fun k hk => (HLIE.out.2.2 k hk).2.1)) (fun _ _ _ _ h => h) HI2.out
      (fun i => { tmps := #[vcV f, .pointer (some a), .pointer (some ⟨n, 0, none⟩), .pointer (some ⟨n + 1, 0, none⟩), .pointer (some ⟨n + 1 + 1, 0, none⟩), .int .i64 (i : Int), .int .i64 (f i), vcV f, .func (.func 215) #[] #[.pointer (some ⟨n + 1 + 1 + 1, 0, none⟩)], undef, undef, undef, undef, .pointer (some a), .int .i64 (C : Int), .bool true, vcV f, .func (.func 215) #[] #[.pointer (some ⟨B2, 0, none⟩)], .int .i64 (i : Int), .int .i64 (f i), undef, undef, undef, undef, undef, undef], defers := [] }) ?assign2 ?body2 ?done2 ?stop2
    case assign2 =>
      intro L x A K hK
      gi_wp2
      exact hK
    case body2 =>
      rintro L pre i A2 hpx hNA ⟨hbx, ⟨-, hDM, hAD⟩, hMA, g', hW, hg', hKA⟩
      have hmem : i ∈ nzV f 16 := hpx.subset (List.mem_append_right _ (List.mem_singleton.2 rfl))
      obtain ⟨hi16, hfi⟩ := nzV_mem hmem
      have hfb := HF.out i hi16
      have hbl : (bodyL f pre).length ≤ 112 := by
        obtain ⟨t, e⟩ := hpx
        have h1 := congrArg (fun q => (bodyL f q).length) e
        simp only [bodyL_append, List.length_append] at h1
        rw [bodyL_nz] at h1
        have h2 := bodyV_len HF.out 16 (Nat.le_refl _)
        omega
      obtain ⟨m, hm⟩ : ∃ m : Nat, f i = (m : Int) := ⟨(f i).toNat, by omega⟩
      have hm40 : m ≤ 1099511627776 := by omega
      have hel := enc7_len40 hm40
      have hec := enc7_len 0 C (by show C < 128; omega)
      have hei := enc7_len 0 i (by show i < 128; omega)
      have HBO := Lib.hid (show bodyL f (pre ++ [i]) = bodyL f pre ++ (enc7 i ++ enc7 m) from by
        rw [bodyL_append]
        show bodyL f pre ++ (enc7 i ++ enc7 (f i).toNat ++ []) = _
        rw [hm, Int.toNat_natCast, List.append_nil])
      have HN1 := Lib.hid (wrP_number N A2 a g' (l ++ enc7 C ++ bodyL f pre) i hW (by simp only [List.length_append]; omega) (by omega))
      have x1 := hbx.ptr
      have hgn : ∀ k, g' = some k → k ≠ n ∧ k ≠ n + 1 ∧ k ≠ B2 := fun k hk => by
        have h1 := hg' k hk
        refine ⟨?_, ?_, by omega⟩
        · rintro rfl
          rcases h1.1 with h2 | h2
          · have := hgb _ h2; omega
          · omega
        · rintro rfl
          rcases h1.1 with h2 | h2
          · have := hgb _ h2; omega
          · omega
      have HBX2 := Lib.hid hbx
      have HW2 := Lib.hid hW
      have HG2 := Lib.hid (And.intro hg' (And.intro hgn hKA))
      have HAD := Lib.hid hAD
      have hmz : ((m : Nat) : Int) = f i := hm.symm
      clear hbx hW hg' hgn hKA hAD hpx hmem hfi hfb
      rw [hm]
      clear hm hmz
      gi_wp2_with fail
      refine ⟨trivial, (CallsIn.inRound L (callsIn_wide.2 HN1.out)).mono ?_⟩
      rintro e w7 ⟨rfl, hP7⟩
      obtain ⟨g7, hW7, hg7, hK7⟩ := hP7
      have x2 : w7.cell? ⟨n + 1, 0, none⟩ = some (.pointer (some a)) := by
        rw [World.cell?_of_block (w := A2) (hK7.block (n + 1) (by omega) (by omega) (fun e => (HG2.out.2.1 _ e).2.1 rfl))]; exact x1
      have HN2 := Lib.hid (wrP_number N w7 a g7 (l ++ enc7 C ++ bodyL f pre ++ enc7 i) m hW7 (by simp only [List.length_append]; omega) (by omega))
      have HP7 := Lib.hid (And.intro hg7 hK7)
      clear hW7 hg7 hK7 x1
      gi_wp2_with fail
      refine ⟨trivial, (CallsIn.inRound L (callsIn_wide.2 HN2.out)).mono ?_⟩
      rintro e w8 ⟨rfl, hP8⟩
      have hP9 := WrPost.trans (g := g') HP7.out.1 HP7.out.2 hP8
      have HP9 := Lib.hid hP9
      clear hP8 hP9 x2
      gi_wp2
      obtain ⟨g8, hW8, hg8, hK8⟩ := HP9.out
      have hko := hK8.others HW2.out
      refine ⟨hko, hK8.block B2 (by omega) (by omega) (fun e => (HG2.out.2.1 _ e).2.2 rfl), HBX2.out.keep (hK8.block n (by omega) (by omega) (fun e => (HG2.out.2.1 _ e).1 rfl)) (hK8.block (n + 1) (by omega) (by omega) (fun e => (HG2.out.2.1 _ e).2.1 rfl)), ⟨by omega, hDM, hko.same _ _ HAD.out rfl⟩, Nat.le_trans hMA hK8.size, g8, ?_, fun k hk => ?_, ?_⟩
      · rw [HBO.out]
        have e : l ++ enc7 C ++ (bodyL f pre ++ (enc7 i ++ enc7 m)) = l ++ enc7 C ++ bodyL f pre ++ enc7 i ++ enc7 m := by simp only [List.append_assoc]
        rw [e]
        exact hW8
      · rcases hg8 k hk with h1 | h1
        · exact HG2.out.1 k h1
        · exact ⟨.inr (by omega), by omega⟩
      · exact HG2.out.2.2.trans hK8 (fun k hk => (HG2.out.1 k hk).1.imp id (fun h => by rw [HN.out]; omega))
    case done2 =>
      rintro D2 A2 hD2 ⟨hbx, ⟨-, hDM, hAD⟩, hMA, g', hW, hg', hKA⟩ hK2
      have HW2 := Lib.hid hW
      have HG2 := Lib.hid (And.intro hg' hKA)
      rw [bodyL_nz] at HW2
      clear hW hg' hKA hbx
      gi_wp2
      refine ⟨by simp, .inl ⟨_, _, rfl, run_takeDeferred hK2, ?_⟩⟩
      have hD2l := (Array.getElem?_eq_some_iff.1 hK2).1
      have hAD2 : (A2.putObj D2 (.deferred none)).heap[n + 1 + 1 + 1 + 1]? = some (.deferred (some [])) := (World.putObj_heap_other (by omega)).trans hAD
      refine ⟨by simp, .inl ⟨_, _, rfl, run_takeDeferred hAD2, ?_⟩⟩
      have hDl := (Array.getElem?_eq_some_iff.1 hAD2).1
      have hkeep : ∀ k, k ≠ D2 → k ≠ n + 1 + 1 + 1 + 1 → ((A2.putObj D2 (.deferred none)).putObj (n + 1 + 1 + 1 + 1) (.deferred none)).heap[k]? = A2.heap[k]? := fun k k1 k2 => (World.putObj_heap_other (by omega)).trans (World.putObj_heap_other (by omega))
      have hbp := (below_putP (N := 0) (.deferred none) (Nat.zero_le _) hD2l).trans (below_putP (N := 0) (.deferred none) (Nat.zero_le _) hDl)
      have hgk : ∀ k, g' = some k → k ≠ n + 1 + 1 + 1 + 1 := fun k hk e => by
        obtain ⟨b, v, hb, h1, h2, h3, h4, h5, h6⟩ := HW2.out
        rcases h4.2 with ⟨hv, _⟩ | ⟨g2, cap, cur, hv, _, hg2, _⟩
        · rw [← h5, hv] at hk; cases hk
        · have : g2 = k := by rw [← h5, hv] at hk; injection hk
          subst this
          rw [e, hAD] at hg2
          cases hg2
      refine ⟨.tuple #[], ?_, rfl, g', ?_, fun k hk => (HG2.out.1 k hk).1.imp id (fun h => by rw [HN.out]; omega), ?_⟩
      · simp [results, Tryz.f152, go_sem]
      · have e : l ++ encV f = l ++ enc7 C ++ bodyV f 16 := by unfold encV; rw [HCE.out, List.append_assoc]
        rw [e]
        exact wrP_stay _ _ _ _ _ _ HW2.out hbp.size (hkeep _ (by omega) (by omega)) (fun k hk => hkeep k (by have := (HG2.out.1 k hk).2; omega) (hgk k hk))
      · exact ⟨hbp.os.trans HG2.out.2.os, hbp.tape.trans HG2.out.2.tape, hbp.output.trans HG2.out.2.output, Nat.le_trans HG2.out.2.size hbp.size, fun k k1 k2 k3 => (hkeep k (by rw [HN.out] at k1; omega) (by rw [HN.out] at k1; omega)).trans (HG2.out.2.block k k1 k2 k3)⟩
    case stop2 =>
      rintro D pre A hD hpre hF hK
      exact hF.elim
  case stop =>
    rintro D pre A hD hpre hF hK
    exact hF.elim
end Go.Proofs.YtkajeepbelfpiaaGreatDoor
/- record.put. -/
set_option maxRecDepth 100000
namespace Go.Proofs.YtkajeepbelfpiaaGreatDoor
open Go Go.RowKit

attribute [-go_sem] Sha.exec_store
attribute [local go_sem ↓] exec_boxA exec_loadA exec_indexA exec_allocA exec_storeA exec_buildA exec_eqlA exec_neqA exec_boxV exec_loadV exec_indexV exec_allocV exec_storeV exec_buildV exec_eqlV exec_neqV
attribute [local go_sem] boxA indexA storeNewA buildA eqlA neqA boxV indexV storeNewV buildV eqlV neqV

attribute [local go_sem ↓] exec_loadS exec_boxS exec_boxP exec_load32 exec_alloc32 exec_store32F
attribute [local go_sem] boxP st_dig
set_option maxRecDepth 100000 in
set_option maxHeartbeats 16000000 in
theorem put10_any (p : S8) (s t c : Nat) (f : Nat → Int) (d : Bool) (wh : By) (q : Option Addr) (n cap : Nat) (ds : List By) (N : Nat) (w : World) (a : Addr) (g : Option Nat) (l : By) (h : WrP N w a g l) (hD : DgAt w ⟨p, (s : Int), (t : Int), (c : Int), f, d, wh, q, n, cap⟩ ds)
    (hqN : 0 < ds.length → ∀ c o, q = some ⟨c, o, none⟩ → c < N) (hp : p.length ≤ 1000) (hs : s < 9223372036854775808) (ht : t < 9223372036854775808) (hc : c < 9223372036854775808) (hf : ∀ i, i < 16 → 0 ≤ f i ∧ f i ≤ 1099511627776) (hds : ds.length ≤ 1000) (hl : l.length < 1000) :
    Calls Tryz.prog 105 #[rcV ⟨p, (s : Int), (t : Int), (c : Int), f, d, wh, q, n, cap⟩, .pointer (some a)] w fun e w' => e = .returned (.tuple #[]) ∧ WrPost WrP N w a g (l ++ bodyRc ⟨pB p, s, t, c, f, d, wh, ds⟩) w' := by
  have hlie := wrP_lie _ _ _ _ _ h
  obtain ⟨b0, hb0⟩ : ∃ b, w.heap.size = b := ⟨_, rfl⟩
  obtain ⟨W1, hW1⟩ : ∃ W, w.alloc (.cells (tab 54 (rcF ⟨p, (s : Int), (t : Int), (c : Int), f, d, wh, q, n, cap⟩)) 44) = W := ⟨_, rfl⟩
  have hB1 : Below w.heap.size w W1 := by rw [← hW1]; exact below_newD _ _
  have hR1 : Row W1 b0 44 54 (rcF ⟨p, (s : Int), (t : Int), (c : Int), f, d, wh, q, n, cap⟩) := by rw [← hb0, ← hW1]; exact Row.new _ _ _ _
  obtain ⟨V, hV⟩ : ∃ V, rcV ⟨p, (s : Int), (t : Int), (c : Int), f, d, wh, q, n, cap⟩ = V := ⟨_, rfl⟩
  have x1 : (bxT 44 V).run Tryz.prog w = .ok (.value (.pointer (some ⟨w.heap.size, 0, none⟩))) W1 := by rw [← hV, ← hW1]; exact boxP w _
  rw [hV]
  have hD1 := hD.of_below hB1
  have HBW := Lib.hid hB1
  have HA := Lib.hid hlie
  have HP := Lib.hid (show WrPost WrP N W1 a g l W1 from ⟨g, wrP_stay _ _ _ _ _ _ h hB1.size (hB1.block _ hlie.2.1) (fun k hk => hB1.block k (hlie.2.2 k hk).2.1), fun k hk => .inl hk, Kq.refl _ _ _⟩)
  have HR := Lib.hid (fun (u : World) (hu : Kq a.block g W1 u) => (show Row u b0 44 54 (rcF ⟨p, (s : Int), (t : Int), (c : Int), f, d, wh, q, n, cap⟩) from hR1.of_block (hu.block b0 hR1.lt (by have := hlie.2.1; omega) (fun e => by have := hlie.2.2 b0 e; omega))))
  have HD := Lib.hid (fun (u : World) (hu : Kq a.block g W1 u) => (show DgAt u ⟨p, (s : Int), (t : Int), (c : Int), f, d, wh, q, n, cap⟩ ds from by
    by_cases e0 : 0 < ds.length
    · exact hD1.keep (u := u) (fun c o e hlt => hu.block c hlt (by have := hqN e0 c o e; omega) (fun e2 => by have := hqN e0 c o e; have := (hlie.2.2 c e2).1; omega))
    · have e1 : ds = [] := List.length_eq_zero_iff.1 (by omega)
      subst e1
      exact ⟨hD1.n, fun j hj => absurd hj (by simp), hD1.each, hD1.nil, hD1.le, hD1.whole⟩))
  have HX := Lib.hid (And.intro hp (And.intro hds (And.intro hl hD.n)))
  have HN := Lib.hid (And.intro hs (And.intro ht hc))
  have HF := Lib.hid hf
  have HXL := Lib.hid hD.whole
  have HPL := Lib.hid (pB_len p)
  have p9 : (128 : Nat) ^ 9 = 9223372036854775808 := by decide
  have HLEN := Lib.hid (show (enc7 (pB p).length).length ≤ 9 ∧ (pB p).length ≤ 1000 ∧ (enc7 s).length ≤ 9 ∧ (enc7 t).length ≤ 9 ∧ (enc7 c).length ≤ 9 ∧ (encV f).length ≤ 113 ∧ wh.length = 32 ∧ (enc7 n).length ≤ 9 from ⟨enc7_len 8 _ (by rw [p9, pB_len]; omega), by rw [pB_len]; exact hp, enc7_len 8 _ (by rw [p9]; exact hs), enc7_len 8 _ (by rw [p9]; exact ht), enc7_len 8 _ (by rw [p9]; exact hc), encV_len hf, hD.whole, enc7_len 8 _ (by have := hD.n; dsimp only at this; rw [p9]; omega)⟩)
  have HB0 := Lib.hid (show l.length ≤ 1000 by omega)
  clear hD hD1 hR1 hB1 hV h hp hs ht hc hf hds hl hqN hlie
  go_enter Tryz.func105, Tryz.ntmps105
  try rw [hb0]
  rw [hb0] at x1
  obtain ⟨g0, hW0, hg0, hK0⟩ := HP.out
  have hlb := HB0.out
  have af := rc_path (HR.out _ hK0)
  try dsimp only at af
  have hTX := wrP_text N W1 a g0 l (pB p) hW0 (by omega) (by have := HLEN.out; omega)
  rw [strOf_pB] at hTX
  have HTX := Lib.hid hTX
  clear hTX
  go_wp2_with fail
  clear x1 hW1
  refine (HTX.out).mono ?_
  rintro e y1 ⟨rfl, hP0⟩
  have HP := Lib.hid (WrPost.trans hg0 hK0 hP0)
  obtain ⟨L1, hL1⟩ : ∃ L, l ++ (enc7 (pB p).length ++ pB p) = L := ⟨_, rfl⟩
  have HB1 := Lib.hid (show L1.length ≤ 2009 from by rw [← hL1]; have := HLEN.out; simp only [List.length_append, List.length_cons, List.length_nil]; omega)
  have HL1 := Lib.hid hL1
  rw [hL1] at HP
  clear hW0 hg0 hK0 hP0 hL1 hlb af
  obtain ⟨g1, hW1, hg1, hK1⟩ := HP.out
  have hlb := HB1.out
  have af := rc_size (HR.out _ hK1)
  try dsimp only at af
  go_wp2_with fail

  refine (wrP_number N y1 a g1 L1 s hW1 (by omega) HN.out.1).mono ?_
  rintro e y2 ⟨rfl, hP1⟩
  have HP := Lib.hid (WrPost.trans hg1 hK1 hP1)
  obtain ⟨L2, hL2⟩ : ∃ L, L1 ++ enc7 s = L := ⟨_, rfl⟩
  have HB2 := Lib.hid (show L2.length ≤ 2018 from by rw [← hL2]; have := HLEN.out; simp only [List.length_append, List.length_cons, List.length_nil]; omega)
  have HL2 := Lib.hid hL2
  rw [hL2] at HP
  clear hW1 hg1 hK1 hP1 hL2 hlb af
  obtain ⟨g2, hW2, hg2, hK2⟩ := HP.out
  have hlb := HB2.out
  have af := rc_time (HR.out _ hK2)
  try dsimp only at af
  go_wp2_with fail

  refine (wrP_number N y2 a g2 L2 t hW2 (by omega) HN.out.2.1).mono ?_
  rintro e y3 ⟨rfl, hP2⟩
  have HP := Lib.hid (WrPost.trans hg2 hK2 hP2)
  obtain ⟨L3, hL3⟩ : ∃ L, L2 ++ enc7 t = L := ⟨_, rfl⟩
  have HB3 := Lib.hid (show L3.length ≤ 2027 from by rw [← hL3]; have := HLEN.out; simp only [List.length_append, List.length_cons, List.length_nil]; omega)
  have HL3 := Lib.hid hL3
  rw [hL3] at HP
  clear hW2 hg2 hK2 hP2 hL3 hlb af
  obtain ⟨g3, hW3, hg3, hK3⟩ := HP.out
  have hlb := HB3.out
  have af := rc_chg (HR.out _ hK3)
  try dsimp only at af
  go_wp2_with fail

  refine (wrP_number N y3 a g3 L3 c hW3 (by omega) HN.out.2.2).mono ?_
  rintro e y4 ⟨rfl, hP3⟩
  have HP := Lib.hid (WrPost.trans hg3 hK3 hP3)
  obtain ⟨L4, hL4⟩ : ∃ L, L3 ++ enc7 c = L := ⟨_, rfl⟩
  have HB4 := Lib.hid (show L4.length ≤ 2036 from by rw [← hL4]; have := HLEN.out; simp only [List.length_append, List.length_cons, List.length_nil]; omega)
  have HL4 := Lib.hid hL4
  rw [hL4] at HP
  clear hW3 hg3 hK3 hP3 hL4 hlb af
  obtain ⟨g4, hW4, hg4, hK4⟩ := HP.out
  have hlb := HB4.out
  have af := loadVT vtV <| rc_ver (HR.out _ hK4)
  try dsimp only at af
  go_wp2_with fail

  refine (put9_any f HF.out N y4 a g4 L4 hW4 (by omega)).mono ?_
  rintro e y5 ⟨rfl, hP4⟩
  have HP := Lib.hid (WrPost.trans hg4 hK4 hP4)
  obtain ⟨L5, hL5⟩ : ∃ L, L4 ++ encV f = L := ⟨_, rfl⟩
  have HB5 := Lib.hid (show L5.length ≤ 2149 from by rw [← hL5]; have := HLEN.out; simp only [List.length_append, List.length_cons, List.length_nil]; omega)
  have HL5 := Lib.hid hL5
  rw [hL5] at HP
  clear hW4 hg4 hK4 hP4 hL5 hlb af
  obtain ⟨g5, hW5, hg5, hK5⟩ := HP.out
  have hlb := HB5.out
  have af := rc_dead (HR.out _ hK5)
  try dsimp only at af
  go_wp2_with fail

  refine (wrP_truth N y5 a g5 L5 d hW5 (by omega)).mono ?_
  rintro e y6 ⟨rfl, hP5⟩
  have HP := Lib.hid (WrPost.trans hg5 hK5 hP5)
  obtain ⟨L6, hL6⟩ : ∃ L, L5 ++ [if d then 1#8 else 0#8] = L := ⟨_, rfl⟩
  have HB6 := Lib.hid (show L6.length ≤ 2150 from by rw [← hL6]; have := HLEN.out; simp only [List.length_append, List.length_cons, List.length_nil]; omega)
  have HL6 := Lib.hid hL6
  rw [hL6] at HP
  clear hW5 hg5 hK5 hP5 hL6 hlb af
  obtain ⟨g6, hW6, hg6, hK6⟩ := HP.out
  have af := rc_dead (HR.out _ hK6)
  dsimp only at af
  cases d with
  | true =>
    have hbd : l ++ bodyRc ⟨pB p, s, t, c, f, true, wh, ds⟩ = L6 := by
      unfold bodyRc
      dsimp only
      rw [← HL6.out, ← HL5.out, ← HL4.out, ← HL3.out, ← HL2.out, ← HL1.out, if_pos rfl]
      simp only [List.append_assoc, if_true]
    have HBD := Lib.hid hbd
    clear hbd hW6 hg6
    go_wp2
    ((try simp only [Exit.inBlock, Exit.then]); first | (refine bodyPost_ret (results_none rfl _ _ _) rfl ?_) | (refine bodyPost_end (results_none rfl _ _ _) rfl ?_))
    exact ⟨rfl, by rw [HBD.out]; exact WrPost.trans (fun k hk => .inl hk) (Kq.ofBelow HBW.out) HP.out⟩
  | false =>
    clear hW6 hg6 hK6
    obtain ⟨g6, hW6, hg6, hK6⟩ := HP.out
    have hlb := HB6.out
    have af := (fun h => ld_dig (rc_whole h HXL.out) HXL.out) (HR.out _ hK6)
    try dsimp only at af
    go_wp2_with fail
    refine (wrP_digest N y6 a g6 L6 wh hW6 (by omega) HXL.out).mono ?_
    rintro e y7 ⟨rfl, hP6⟩
    have HP := Lib.hid (WrPost.trans hg6 hK6 hP6)
    obtain ⟨L7, hL7⟩ : ∃ L, L6 ++ wh = L := ⟨_, rfl⟩
    have HB7 := Lib.hid (show L7.length ≤ 2182 from by rw [← hL7]; have := HLEN.out; simp only [List.length_append, List.length_cons, List.length_nil]; omega)
    have HL7 := Lib.hid hL7
    rw [hL7] at HP
    clear hW6 hg6 hK6 hP6 hL7 hlb af
    obtain ⟨g7, hW7, hg7, hK7⟩ := HP.out
    have hlb := HB7.out
    have af := rc_blocks (HR.out _ hK7)
    try dsimp only at af
    go_wp2_with fail

    refine (wrP_number N y7 a g7 L7 n hW7 (by omega) (by have := HX.out.2.2.2; have := HX.out.2.1; omega)).mono ?_
    rintro e y8 ⟨rfl, hP7⟩
    have HP := Lib.hid (WrPost.trans hg7 hK7 hP7)
    obtain ⟨L8, hL8⟩ : ∃ L, L7 ++ enc7 n = L := ⟨_, rfl⟩
    have HB8 := Lib.hid (show L8.length ≤ 2191 from by rw [← hL8]; have := HLEN.out; simp only [List.length_append, List.length_cons, List.length_nil]; omega)
    have HL8 := Lib.hid hL8
    rw [hL8] at HP
    clear hW7 hg7 hK7 hP7 hL8 hlb af
    obtain ⟨g8, hW8, hg8, hK8⟩ := HP.out
    have af := rc_blocks (HR.out _ hK8)
    dsimp only at af
    clear hW8 hg8 hK8
    go_wp2_with fail
    go_loopw [5, 47] (fun s5 si wr => ∃ i : Nat, i ≤ n ∧ si = .int .i64 (i : Int) ∧ WrPost WrP N W1 a g (L8 ++ (ds.take i).flatten) wr) (fun _ si _ => n - (intOf si).toNat)
    case atStart => exact ⟨0, Nat.zero_le _, rfl, by rw [List.take_zero, List.flatten_nil, List.append_nil]; exact HP.out⟩
    case round =>
      obtain ⟨i, hi, rfl, hPr⟩ := hrel
      have HPr := Lib.hid hPr
      clear hPr af
      have hnd : n = ds.length := HX.out.2.2.2
      by_cases hlt : i < n
      · have z1 : (i : Int) < (n : Int) := by omega
        have z2 : decide ((i : Int) < (n : Int)) = true := decide_eq_true z1
        have hil : i < ds.length := by omega
        obtain ⟨gr, hWr, hgr, hKr⟩ := HPr.out
        obtain ⟨c1, o1, e1, -, -, h32⟩ := (HD.out _ hKr).at i hil
        have hldq := (HD.out _ hKr).ldq e1 i hil
        dsimp only at e1
        have a9 := rc_blocks (HR.out _ hKr)
        dsimp only at a9
        subst e1
        have hnc : n ≤ cap := (HD.out _ hKr).le
        obtain ⟨di, hdi⟩ : ∃ x, ds.getD i [] = x := ⟨_, rfl⟩
        rw [hdi] at h32 hldq
        have htk : (ds.take (i + 1)).flatten = (ds.take i).flatten ++ di := by
          rw [← hdi, List.take_add_one, List.flatten_append, List.getElem?_eq_getElem hil, List.getD_eq_getElem?_getD, List.getElem?_eq_getElem hil]
          simp
        have htl : (L8 ++ (ds.take i).flatten).length < 1000000 := by
          have h1 := HB8.out
          have h2 := HX.out.2.1
          rw [List.length_append, flat_len32 (fun d hd => (HD.out _ hKr).each d (List.mem_of_mem_take hd)), List.length_take]
          omega
        obtain ⟨Lr, hLr⟩ : ∃ L, L8 ++ (ds.take i).flatten = L := ⟨_, rfl⟩
        rw [hLr] at hWr htl
        have HTK := Lib.hid (show L8 ++ (ds.take (i + 1)).flatten = Lr ++ di by rw [htk, ← List.append_assoc, hLr])
        obtain ⟨X1, hX1⟩ : ∃ W, wr.alloc (.cells (tab 32 (dgF di)) 41) = W := ⟨_, rfl⟩
        have hst := st_dig wr wr.heap.size di rfl
        have hBx : Below wr.heap.size wr X1 := by rw [← hX1]; exact below_newR _ _
        have hlieR := wrP_lie _ _ _ _ _ hWr
        have hWx : WrP N X1 a gr Lr := wrP_stay _ _ _ _ _ _ hWr hBx.size (hBx.block _ hlieR.2.1) (fun k hk => hBx.block k (hlieR.2.2 k hk).2.1)
        obtain ⟨bx, hbx⟩ : ∃ b, wr.heap.size = b := ⟨_, rfl⟩
        have hsl : Sl X1 (some ⟨bx, 0, none⟩) di := by
          rw [← hX1, ← hbx]
          exact ((Row.new wr 41 32 (dgF di)).fresh (base := wr.heap.size) (Nat.le_refl _) h32).sl
        have ldx := ld_dig hsl h32
        have hKx : Kq a.block g W1 X1 := hKr.trans (Kq.ofBelow (g := gr) hBx) hgr
        have HC := Lib.hid (wrP_digest N X1 a gr Lr di hWx (by omega) h32)
        have HGR := Lib.hid (And.intro hgr hKx)
        rw [hX1, hbx] at hst
        have w3 : IntKind.i64.wrap ((i : Int) + 1) = (i : Int) + 1 := by have h2 := HX.out.2.1; rw [IntKind.wrap_i64]; omega
        clear hWr hgr hKr htk htl hdi hnd hBx hlieR hWx hsl hKx hLr hil h32
        go_wp2_with fail
        refine HC.out.mono ?_
        rintro e xr ⟨rfl, hPx⟩
        have HPx := Lib.hid (WrPost.trans HGR.out.1 HGR.out.2 hPx)
        clear hPx hst ldx hldq a9 hbx hX1
        go_wp2
        go_roundw
        case rel => exact ⟨i + 1, by omega, by go_num, by rw [HTK.out]; exact HPx.out⟩
        case measure => simp [intOf]; omega
      · have z1 : ¬ (i : Int) < (n : Int) := by omega
        have z2 : decide ((i : Int) < (n : Int)) = false := decide_eq_false z1
        have hin : i = ds.length := by omega
        have hbd : l ++ bodyRc ⟨pB p, s, t, c, f, false, wh, ds⟩ = L8 ++ (ds.take i).flatten := by
          unfold bodyRc
          dsimp only
          rw [hin, List.take_length, ← HL8.out, ← HL7.out, ← HL6.out, ← HL5.out, ← HL4.out, ← HL3.out, ← HL2.out, ← HL1.out, if_neg (by simp), hnd]
          simp only [List.append_assoc, Bool.false_eq_true, if_false]
        have HBD := Lib.hid hbd
        clear hbd hin hnd
        go_wp2
        ((try simp only [Exit.inBlock, Exit.then]); first | (refine bodyPost_ret (results_none rfl _ _ _) rfl ?_) | (refine bodyPost_end (results_none rfl _ _ _) rfl ?_))
        exact ⟨rfl, by rw [HBD.out]; exact WrPost.trans (fun k hk => .inl hk) (Kq.ofBelow HBW.out) HPr.out⟩
end Go.Proofs.YtkajeepbelfpiaaGreatDoor
/- record.Bytes. -/
set_option maxRecDepth 100000
namespace Go.Proofs.YtkajeepbelfpiaaGreatDoor
open Go Go.RowKit

attribute [-go_sem] Sha.exec_store
attribute [local go_sem ↓] exec_boxP exec_loadP2 exec_bs
attribute [local go_sem] boxP bsSl
set_option maxRecDepth 100000 in
set_option maxHeartbeats 16000000 in
theorem bytes10_good (p : S8) (s t c : Nat) (f : Nat → Int) (d : Bool) (wh : By) (q : Option Addr) (n cap : Nat) (ds : List By) (w : World) (hD : DgAt w ⟨p, (s : Int), (t : Int), (c : Int), f, d, wh, q, n, cap⟩ ds)
    (hp : p.length ≤ 1000) (hs : s < 9223372036854775808) (ht : t < 9223372036854775808) (hc : c < 9223372036854775808) (hf : ∀ i, i < 16 → 0 ≤ f i ∧ f i ≤ 1099511627776) (hds : ds.length ≤ 1000) (hT : Tb w)
    (hg : goodR ⟨p, (s : Int), (t : Int), (c : Int), f, d, wh, q, n, cap⟩ = true) (hbl : (bodyRc ⟨pB p, s, t, c, f, d, wh, ds⟩).length < 1000000) :
    Calls Tryz.prog 55 #[rcV ⟨p, (s : Int), (t : Int), (c : Int), f, d, wh, q, n, cap⟩] w (GivesB w (encRc ⟨pB p, s, t, c, f, d, wh, ds⟩)) := by
  obtain ⟨b0, hb0⟩ : ∃ b, w.heap.size = b := ⟨_, rfl⟩
  obtain ⟨r, hr⟩ : ∃ r : Rc, (⟨p, (s : Int), (t : Int), (c : Int), f, d, wh, q, n, cap⟩ : Rc) = r := ⟨_, rfl⟩
  have HPT := Lib.hid (fun (N : Nat) (u : World) (a : Addr) (g : Option Nat) (l : List (BitVec 8)) (h : WrP N u a g l) (h1 : DgAt u r ds) (h2 : 0 < ds.length → ∀ c o, q = some ⟨c, o, none⟩ → c < N) (h3 : l.length < 1000) => put10_any p s t c f d wh q n cap ds N u a g l h (by rw [hr]; exact h1) h2 hp hs ht hc hf hds h3)
  have hq0 : 0 < ds.length → ∀ c o, q = some ⟨c, o, none⟩ → c < w.heap.size := fun h0 c1 o1 e => by
    obtain ⟨c2, o2, e2, h2, -⟩ := hD.at 0 h0
    dsimp only at e2
    rw [e] at e2
    injection e2 with e2
    injection e2 with e3
    omega
  have HQ0 := Lib.hid hq0
  obtain ⟨body, hbody⟩ : ∃ b, bodyRc ⟨pB p, s, t, c, f, d, wh, ds⟩ = b := ⟨_, rfl⟩
  obtain ⟨enc, henc⟩ : ∃ b, encRc ⟨pB p, s, t, c, f, d, wh, ds⟩ = b := ⟨_, rfl⟩
  have HEN := Lib.hid (show enc = body ++ digL body from by rw [← henc, ← hbody]; rfl)
  rw [hr] at hD hg HPT ⊢
  rw [hbody] at HPT hbl
  rw [henc]
  have hrp : r.path.length < 100000 := by rw [← hr]; exact Nat.lt_of_le_of_lt hp (by decide)
  clear hbody henc hr hq0
  obtain ⟨W1, hW1⟩ : ∃ W, w.alloc (.cells (tab 54 (rcF r)) 44) = W := ⟨_, rfl⟩
  have hB1 : Below w.heap.size w W1 := by rw [← hW1]; exact below_newD _ _
  have hR1 : Row W1 b0 44 54 (rcF r) := by rw [← hb0, ← hW1]; exact Row.new _ _ _ _
  have HGD := Lib.hid (fun u => good10_any r hrp hD.whole u)
  rw [hg] at HGD
  obtain ⟨V, hV⟩ : ∃ V, rcV r = V := ⟨_, rfl⟩
  have x1 : (bxT 44 V).run Tryz.prog w = .ok (.value (.pointer (some ⟨w.heap.size, 0, none⟩))) W1 := by rw [← hV, ← hW1]; exact boxP w _
  have HL := Lib.hid (fun (u : World) (hu : Below W1.heap.size W1 u) => loadRT rtP (hR1.of_below hu))
  have HD := Lib.hid (fun (u : World) (hu : Below W1.heap.size W1 u) => (hD.of_below hB1).of_below hu)
  have HB1 := Lib.hid hB1
  have HT := Lib.hid hT
  have ld := HL.out W1 (Below.refl _ _)
  rw [hV] at HGD HPT HL ld ⊢
  clear hB1 hR1 hW1 hV hD hg hT
  go_enter Tryz.func55, Tryz.ntmps55
  try rw [hb0]
  rw [hb0] at x1
  go_wp2_with fail
  refine (HGD.out _).mono ?_
  rintro e w2 ⟨rfl, hB2⟩
  clear x1 ld
  obtain ⟨W3, hW3⟩ : ∃ W, w2.alloc (.cells #[.slice none 0 0] 117) = W := ⟨_, rfl⟩
  obtain ⟨N, hN⟩ : ∃ N, w2.heap.size = N := ⟨_, rfl⟩
  have hz := wrP_zero w2.heap.size w2 (Nat.le_refl _)
  unfold zW at hz
  rw [hW3, hN] at hz
  have hB3 : Below w2.heap.size w2 W3 := by rw [← hW3]; exact below_newR _ _
  have HX3 := Lib.hid (hB2.trans (hB3.mono hB2.size))
  have hN1 : W1.heap.size ≤ N := by rw [← hN]; exact hB2.size
  have ld := HL.out W3 HX3.out
  have HZ := Lib.hid hz
  have HN := Lib.hid hN1
  clear hz hB2 hB3 hN1
  go_wp2_with fail
  clear ld hW3
  refine (HPT.out N W3 ⟨N, 0, none⟩ none [] HZ.out (HD.out _ HX3.out) (fun h0 c1 o1 e => by have := HQ0.out h0 c1 o1 e; have := HN.out; have := HB1.out.size; omega) (by decide)).mono ?_
  rintro e w4 ⟨rfl, g4, hW4, hg4, hK4⟩
  rw [List.nil_append] at hW4
  have hX4 : Below W1.heap.size W1 w4 := HX3.out.trans ⟨hK4.os, hK4.tape, hK4.output, hK4.size, fun k hk => hK4.block k (by have := HX3.out.size; omega) (by show k ≠ N; have := HN.out; omega) (by simp)⟩
  have HX4 := Lib.hid hX4
  have HW4 := Lib.hid hW4
  have HLB := Lib.hid hbl
  have HDN := Lib.hid (wrP_done N w4 ⟨N, 0, none⟩ g4 body hW4 (by omega))
  clear hW4 hg4 hK4 hX4 HPT HQ0 hbl
  go_wp2_with fail
  refine HDN.out.mono ?_
  rintro e w5 ⟨v5, rfl, hO5, hB5⟩
  obtain ⟨p5, c5, rfl, hs5, hp5, -⟩ := hO5.shape
  obtain ⟨W6, hW6⟩ : ∃ W, w5.alloc (.cells #[.slice p5 body.length c5] 56) = W := ⟨_, rfl⟩
  have hB6 : Below w5.heap.size w5 W6 := by rw [← hW6]; exact below_newR _ _
  have hc6 : W6.cell? ⟨w5.heap.size, 0, none⟩ = some (.slice p5 body.length c5) := by rw [← hW6]; exact World.cell?_alloc_new _ _ _ _
  have HX6 := Lib.hid (HX4.out.trans ((hB5.trans (hB6.mono hB5.size)).mono HX4.out.size))
  have HB46 := Lib.hid (hB5.trans (hB6.mono hB5.size))
  have HSM := Lib.hid (sum1_any body w5.heap.size 0 p5 body.length c5 W6 rfl hc6 (hs5.of_below hB6) (HT.out.on (HB1.out.trans (HX6.out.mono HB1.out.size))) (by have := HLB.out; omega))
  clear hO5 hs5 hp5 hB6 hc6 hB5 HDN
  go_wp2_with fail
  clear hW6
  refine HSM.out.mono ?_
  rintro e w7 ⟨rfl, hB7⟩
  have hB47 := HB46.out.trans (hB7.mono HB46.out.size)
  have hlie := wrP_lie _ _ _ _ _ HW4.out
  have hW7 := wrP_stay _ _ w7 _ _ _ HW4.out hB47.size (hB47.block _ hlie.2.1) (fun k hk => hB47.block k (hlie.2.2 k hk).2.1)
  have HX7 := Lib.hid (HX4.out.trans (hB47.mono HX4.out.size))
  have HDG := Lib.hid (wrP_digest N w7 ⟨N, 0, none⟩ g4 body (digL body) hW7 (by have := HLB.out; omega) (digL_len _))
  rw [← HEN.out] at HDG
  have HLE := Lib.hid (show enc.length < 1000000000 from by rw [HEN.out, List.length_append, digL_len]; have := HLB.out; omega)
  have HG4 := Lib.hid (fun k hk => (hlie.2.2 k hk).1)
  clear hB7 hB47 hW7 hlie HSM
  go_wp2_with fail
  refine HDG.out.mono ?_
  rintro e w8 ⟨rfl, g8, hW8, hg8, hK8⟩
  have hX8 : Below W1.heap.size W1 w8 := HX7.out.trans (hK8.below (show W1.heap.size ≤ N from HN.out) (fun k hk => Nat.le_trans HN.out (HG4.out k hk)) HX7.out.size)
  have HX8 := Lib.hid hX8
  have HDN := Lib.hid (wrP_done N w8 ⟨N, 0, none⟩ g8 enc hW8 HLE.out)
  clear hW8 hg8 hK8 hX8 HDG
  go_wp2_with fail
  refine HDN.out.mono ?_
  rintro e w9 ⟨v9, rfl, hO9, hB9⟩
  have HO9 := Lib.hid (show OwnB w9 w.heap.size v9 enc from hO9.lower (Nat.le_trans HB1.out.size HX8.out.size))
  have HB9 := Lib.hid (show Below w.heap.size w w9 from HB1.out.trans ((HX8.out.trans (hB9.mono HX8.out.size)).mono HB1.out.size))
  clear hO9 hB9
  go_wp2
  go_ret
  exact ⟨_, rfl, by first | exact HO9.out | (rw [← hb0]; exact HO9.out), by first | exact HB9.out | (rw [← hb0]; exact HB9.out)⟩
end Go.Proofs.YtkajeepbelfpiaaGreatDoor
/- A record's bytes, by the program and by the reference, of a record that is in order. -/
set_option maxRecDepth 100000
namespace Go.Proofs.YtkajeepbelfpiaaGreatDoor
open Go Go.RowKit
attribute [-go_sem] Sha.exec_store

theorem good_W {w : World} {r : Rc} {ds : List By} (hD : DgAt w r ds) (hg : goodR r = true) (ht : r.time < 9223372036854775808) (hc : r.chg < 9223372036854775808) : RcW (r.text ds) := by
  obtain ⟨k1, k2, k3, k4, k5, k6, -⟩ := goodR_facts hg
  exact text_W hD k1 (goodR_n hg) ⟨k2.1, by omega⟩ ⟨k3, ht⟩ ⟨k4, hc⟩ (gdV_iff.1 k5)
theorem bytes10_ok (r : Rc) (ds : List By) (w : World) (hD : DgAt w r ds) (hg : goodR r = true) (ht : r.time < 9223372036854775808) (hc : r.chg < 9223372036854775808) (hT : Tb w) :
    Calls Tryz.prog 55 #[rcV r] w (GivesB w (encRc (r.text ds))) := by
  have hW := good_W hD hg ht hc
  have hle := (encRc_len hW).1
  have hn := goodR_n hg
  have hds := hD.n
  obtain ⟨k1, k2, k3, k4, k5, k6, -⟩ := goodR_facts hg
  obtain ⟨p, s, t, c, f, d, wh, q, n, cap⟩ := r
  dsimp only at k1 k2 k3 k4 k5 hn hds ht hc
  obtain ⟨s', rfl⟩ := Int.eq_ofNat_of_zero_le k2.1
  obtain ⟨t', rfl⟩ := Int.eq_ofNat_of_zero_le k3
  obtain ⟨c', rfl⟩ := Int.eq_ofNat_of_zero_le k4
  refine bytes10_good p s' t' c' f d wh q n cap ds w hD (by omega) (by omega) (by omega) (by omega) (gdV_iff.1 k5) (by omega) hT hg ?_
  have e : encRc (Rc.text ⟨p, (s' : Int), (t' : Int), (c' : Int), f, d, wh, q, n, cap⟩ ds) = bodyRc ⟨pB p, s', t', c', f, d, wh, ds⟩ ++ digL (bodyRc ⟨pB p, s', t', c', f, d, wh, ds⟩) := rfl
  rw [e, List.length_append] at hle
  omega
end Go.Proofs.YtkajeepbelfpiaaGreatDoor
/- The program's Writer: bytes that lie in new memory; an archive's encoding, plain. -/
set_option maxRecDepth 100000
namespace Go.Proofs.YtkajeepbelfpiaaGreatDoor
open Go Go.RowKit

attribute [-go_sem] Sha.exec_store

set_option maxHeartbeats 1000000 in
theorem wrP_bytesQ (N : Nat) (w : World) (a : Addr) (g : Option Nat) (l : List (BitVec 8)) (p : Option Addr) (n cap : Nat) (bs : List (BitVec 8)) (h : WrP N w a g l) (hl : l.length < 1000000000) (hbn : bs.length = n) (hs : Sl w p bs) (hp : p = none → cap = 0) (hn : n < 1000000) (hpb : ∀ c o, p = some ⟨c, o, none⟩ → c ≠ a.block ∧ g ≠ some c) :
    Calls Tryz.prog 54 #[.pointer (some a), .slice p n cap] w fun e w' => e = .returned (.tuple #[]) ∧ WrPost WrP N w a g (l ++ (enc7 n ++ bs)) w' := by
  have hL := wrP_lie _ _ _ _ _ h
  have HN := Lib.hid (wrP_number N w a g l n h (by omega) (by omega))
  have HX := Lib.hid (And.intro hs (And.intro hp (And.intro hpb (And.intro hL (And.intro hbn hl)))))
  have HE9 := Lib.hid (show (enc7 n).length ≤ 9 from enc7_len 8 n (by rw [show (128 : Nat) ^ 9 = 9223372036854775808 by decide]; omega))
  clear h hs hp hpb hL hbn hl
  go_enter Tryz.func54, Tryz.ntmps54
  go_wp2_with fail
  refine HN.out.mono ?_
  rintro e w1 ⟨rfl, g1, ⟨b, v, rfl, k1, hc, hf, hO, hv, hgb⟩, hg1, hK1⟩
  obtain ⟨hs, hp, hpb, hL, hbn, hl⟩ := HX.out
  have hblt : b < w1.heap.size := World.block_lt_of_cell? w1 _ hc
  have HS1 := Lib.hid (show Sl w1 p bs from fun j hj => by
    obtain ⟨c, o, e, hx⟩ := hs j hj
    have hne := hpb c o e
    exact ⟨c, o, e, by rw [World.cell?_of_block (w := w) (hK1.block c (by exact World.block_lt_of_cell? w _ hx) hne.1 hne.2)]; exact hx⟩)
  have HO := Lib.hid hO
  have HV := Lib.hid (And.intro hv hgb)
  have HG := Lib.hid hg1
  have HK := Lib.hid hK1
  have hNs : N ≤ w1.heap.size := by omega
  have hlen : (l ++ enc7 n).length + n < 1000000000000 := by have := HE9.out; rw [List.length_append]; omega
  have HLEN := Lib.hid hlen
  have HP := Lib.hid (And.intro hp hbn)
  clear hs hp hpb hL hbn hl hO hv hgb hg1 hK1 hlen HN
  go_wp2_with (first | (refine wpl_appendL _ rfl (.tmp 12) (.tmp 13) rfl N v (l ++ enc7 n) rfl HO.out p n cap bs HP.out.2 rfl HS1.out HP.out.1 HLEN.out hNs ?_; rintro v3 w3 hO3 hg3 ho3
                        obtain ⟨⟨z3, f3⟩, hP3⟩ := wr_put k1 hblt (Below.refl _ _) hc hf HV.out.1 HV.out.2 hO3 hg3 ho3
                        have HP3 := Lib.hid (WrPost.trans HG.out HK.out hP3)
                        obtain ⟨p3, n3, c3, rfl⟩ := hO3.shape3
                        clear hO3 hg3 ho3 hP3))
  go_end0
  exact ⟨rfl, by rw [← List.append_assoc]; exact HP3.out⟩
/-- A record's bytes; an archive's. -/
def recB (e : Ent) : By := encRc (e.1.text e.2)
def itA (e : Ent) : By := enc7 (recB e).length ++ recB e
def itsA (L : List Ent) : By := (L.map itA).flatten
def bodyA (g : Nat) (L : List Ent) : By := (enc7 g ++ enc7 L.length) ++ itsA L
def encAr (g : Nat) (L : List Ent) : By := bodyA g L ++ digL (bodyA g L)
theorem enc7_9 {n : Nat} (h : n < 9223372036854775808) : (enc7 n).length ≤ 9 := enc7_len 8 n (by rw [show (128 : Nat) ^ 9 = 9223372036854775808 by decide]; exact h)
theorem itsA_take (L : List Ent) (s : Nat) (h : s < L.length) : itsA (L.take (s + 1)) = itsA (L.take s) ++ itA (L.getD s ent0) := by
  unfold itsA
  rw [List.take_add_one, List.map_append, List.flatten_append, List.getD_eq_getElem?_getD, List.getElem?_eq_getElem h]
  simp
theorem recB_len {e : Ent} (h : RcW (e.1.text e.2)) : (recB e).length ≤ 9000 ∧ 32 ≤ (recB e).length := encRc_len h
theorem itA_len {e : Ent} (h : RcW (e.1.text e.2)) : (itA e).length ≤ 9009 := by
  have h1 := recB_len h
  have h2 := enc7_9 (n := (recB e).length) (by omega)
  unfold itA
  rw [List.length_append]
  omega
theorem itsA_len {L : List Ent} (h : ∀ e ∈ L, RcW (e.1.text e.2)) : (itsA L).length ≤ 9009 * L.length := by
  unfold itsA
  induction L with
  | nil => simp
  | cons e l ih =>
    have h1 := itA_len (h e (List.mem_cons_self ..))
    have h2 := ih fun x hx => h x (List.mem_cons_of_mem _ hx)
    rw [List.map_cons, List.flatten_cons, List.length_append, List.length_cons]
    omega
theorem bodyA_len {g : Nat} {L : List Ent} (hg : g < 9223372036854775808) (hL : L.length ≤ 128) (h : ∀ e ∈ L, RcW (e.1.text e.2)) : (bodyA g L).length ≤ 1200000 := by
  have h1 := itsA_len h
  have h2 := enc7_9 hg
  have h3 := enc7_9 (n := L.length) (by omega)
  unfold bodyA
  rw [List.length_append, List.length_append]
  omega
end Go.Proofs.YtkajeepbelfpiaaGreatDoor
/- (*archive.Archive).Bytes. -/
set_option maxRecDepth 100000
namespace Go.Proofs.YtkajeepbelfpiaaGreatDoor
open Go Go.RowKit

attribute [-go_sem] Sha.exec_store
/-- The writer while the records are written: its buffer lies before the range, or behind what the range was given. -/
def WrI (w : World) (N NR hi : Nat) (l : By) (B : World) : Prop := N < NR ∧ NR ≤ B.heap.size ∧ Below N w B ∧ ∃ g, WrP N B ⟨N, 0, none⟩ g l ∧ ∀ k, g = some k → k < NR ∨ hi ≤ k
theorem WrI.of_below {w B B' : World} {N NR hi : Nat} {l : By} (h : WrI w N NR hi l B) (hB : Below B.heap.size B B') : WrI w N NR hi l B' := by
  obtain ⟨h1, h2, h3, g, h4, h5⟩ := h
  have hl := wrP_lie _ _ _ _ _ h4
  exact ⟨h1, Nat.le_trans h2 hB.size, h3.trans (hB.mono (by omega)), g, wrP_stay _ _ _ _ _ _ h4 hB.size (hB.block _ hl.2.1) (fun k hk => hB.block k (hl.2.2 k hk).2.1), h5⟩
theorem WrI.put {w B : World} {N NR hi k : Nat} {l : By} {o : Obj} (h : WrI w N NR hi l B) (hk : NR ≤ k) (hk2 : k < hi) (hlt : k < B.heap.size) : WrI w N NR hi l (B.putObj k o) := by
  obtain ⟨h1, h2, h3, g, h4, h5⟩ := h
  have hl := wrP_lie _ _ _ _ _ h4
  have hs : (B.putObj k o).heap.size = B.heap.size := by simp [World.putObj]
  exact ⟨h1, by rw [hs]; exact h2, h3.trans (below_putP _ (by omega) hlt), g, wrP_stay _ _ _ _ _ _ h4 (Nat.le_of_eq hs.symm) (World.putObj_heap_other (by show N ≠ k; omega)) (fun j hj => World.putObj_heap_other (by have := h5 j hj; omega)), h5⟩
/-- A step of the writer. -/
theorem WrI.step {w B B' : World} {N NR hi : Nat} {g : Option Nat} {l l' : By} (hN : N < NR) (hR : NR ≤ B.heap.size) (hhi : hi ≤ B.heap.size) (hB : Below N w B) (h4 : WrP N B ⟨N, 0, none⟩ g l) (h5 : ∀ k, g = some k → k < NR ∨ hi ≤ k) (h : WrPost WrP N B ⟨N, 0, none⟩ g l' B') :
    WrI w N NR hi l' B' ∧ KeepsOthers B B' ∧ (∀ A lo, NR ≤ lo → Fr12 A B lo hi → Fr12 A B' lo hi) := by
  obtain ⟨g', k1, k2, k3⟩ := h
  have hl := wrP_lie _ _ _ _ _ h4
  have hk5 : ∀ k, g' = some k → k < NR ∨ hi ≤ k := fun k hk => by
    rcases k2 k hk with h | h
    · exact h5 k h
    · right; omega
  refine ⟨⟨hN, Nat.le_trans hR k3.size, hB.trans (k3.below (Nat.le_refl _) (fun k hk => (hl.2.2 k hk).1) (by omega)), g', k1, hk5⟩, k3.others h4, fun A lo hlo hf => ⟨Nat.le_trans hf.1 k3.size, fun k h1 h2 => ?_⟩⟩
  rw [k3.block k (by have := hf.1; omega) (by show k ≠ N; omega) (fun e => by have := h5 k e; omega)]
  exact hf.2 k h1 h2
theorem ent_W {w : World} {b mb : Nat} {gen : Int} {es : List Ent} (hA : ArAt w b mb gen es) : ∀ e ∈ es, RcW (e.1.text e.2) ∧ e.2.length < 100000 := fun e he => by
  have hD := hA.dg e he
  have hn := goodR_n (hA.good e he)
  have := hD.n
  exact ⟨good_W hD (hA.good e he) (hA.inn e he).1 (hA.inn e he).2, by omega⟩
theorem lit_rc11 : (#[.string ⟨#[]⟩, .int .i64 0, .int .i64 0, .int .i64 0, .int .i64 0, .int .i64 0, .int .i64 0, .int .i64 0, .int .i64 0, .int .i64 0, .int .i64 0, .int .i64 0, .int .i64 0, .int .i64 0, .int .i64 0, .int .i64 0, .int .i64 0, .int .i64 0, .int .i64 0, .int .i64 0, .bool false, .int .u8 0, .int .u8 0, .int .u8 0, .int .u8 0, .int .u8 0, .int .u8 0, .int .u8 0, .int .u8 0, .int .u8 0, .int .u8 0, .int .u8 0, .int .u8 0, .int .u8 0, .int .u8 0, .int .u8 0, .int .u8 0, .int .u8 0, .int .u8 0, .int .u8 0, .int .u8 0, .int .u8 0, .int .u8 0, .int .u8 0, .int .u8 0, .int .u8 0, .int .u8 0, .int .u8 0, .int .u8 0, .int .u8 0, .int .u8 0, .int .u8 0, .int .u8 0, .slice none 0 0] : Array Value) = tab 54 (rcF rc0) := Eq.trans (by kernel_rfl) rz
theorem st_lit11 (w : World) (r : Rc) : (stT 44 (.pointer (some ⟨w.heap.size, 0, none⟩)) (rcV r)).run Tryz.prog (w.alloc (.cells #[.string ⟨#[]⟩, .int .i64 0, .int .i64 0, .int .i64 0, .int .i64 0, .int .i64 0, .int .i64 0, .int .i64 0, .int .i64 0, .int .i64 0, .int .i64 0, .int .i64 0, .int .i64 0, .int .i64 0, .int .i64 0, .int .i64 0, .int .i64 0, .int .i64 0, .int .i64 0, .int .i64 0, .bool false, .int .u8 0, .int .u8 0, .int .u8 0, .int .u8 0, .int .u8 0, .int .u8 0, .int .u8 0, .int .u8 0, .int .u8 0, .int .u8 0, .int .u8 0, .int .u8 0, .int .u8 0, .int .u8 0, .int .u8 0, .int .u8 0, .int .u8 0, .int .u8 0, .int .u8 0, .int .u8 0, .int .u8 0, .int .u8 0, .int .u8 0, .int .u8 0, .int .u8 0, .int .u8 0, .int .u8 0, .int .u8 0, .int .u8 0, .int .u8 0, .int .u8 0, .int .u8 0, .slice none 0 0] 44)) = .ok .skip (w.alloc (.cells (tab 54 (rcF r)) 44)) := by
  rw [lit_rc11]
  exact storeNewRT rtP w w.heap.size 44 (rcF rc0) r rfl
attribute [local go_sem] Oper.semAt_some st_lit11 bsSl
attribute [local go_sem ↓] exec_boxP exec_allocP exec_storeP exec_loadP exec_bs
set_option maxRecDepth 100000 in
set_option maxHeartbeats 8000000 in
theorem bytesA_any {w : World} {b mb : Nat} {es : List Ent} (g : Nat) (hA : ArAt w b mb (g : Int) es) (hg : g < 9223372036854775808) (hT : Tb w) :
    Calls Tryz.prog 22 #[.pointer (some ⟨b, 0, none⟩)] w (GivesB w (encAr g (sortA es))) := by
  refine (callsIn_wide (n := 9)).1 ?_
  refine callsIn_of_wp_marks Tryz.func22 rfl trivial ?_ rfl
  simp only [Tryz.ntmps22, List.size_toArray, List.length_cons, List.length_nil, Nat.reduceAdd, Nat.reduceSub, Array.replicate_succ, Array.replicate_zero, List.push_toArray, List.append_toArray, List.nil_append, List.cons_append]
  have hW := ent_W hA
  obtain ⟨N, hN⟩ : ∃ N, w.heap.size = N := ⟨_, rfl⟩
  obtain ⟨W1, hW1⟩ : ∃ W, w.alloc (.cells #[.slice none 0 0] 117) = W := ⟨_, rfl⟩
  have hz := wrP_zero w.heap.size w (Nat.le_refl _)
  unfold zW at hz
  rw [hW1, hN] at hz
  have hB1 : Below w.heap.size w W1 := by rw [← hW1]; exact below_newR _ _
  have hA1 := hA.of_below hB1
  have c0 := hA1.cell0
  have c1 := hA1.cell1
  have hs1 : W1.heap.size = N + 1 := by rw [← hW1, World.size_alloc, hN]
  have hlen := fun u (hu : MpB u mb (es.map entA)) ty => run_lenA (ty := ty) hu
  obtain ⟨n, hn⟩ : ∃ n, es.length = n := ⟨_, rfl⟩
  have hn128 : n ≤ 128 := by rw [← hn]; exact hA.few
  simp only [List.length_map, hn] at hlen
  have HN1 := Lib.hid (wrP_number N W1 ⟨N, 0, none⟩ none [] g hz (by decide) hg)
  rw [List.nil_append] at HN1
  have HA := Lib.hid hA
  have HA1 := Lib.hid hA1
  have HB1 := Lib.hid hB1
  have HZ := Lib.hid hz
  have HT := Lib.hid hT
  have HLEN := Lib.hid hlen
  have HW := Lib.hid hW
  have HNN := Lib.hid (And.intro hN (And.intro hs1 (And.intro hn hn128)))
  have HG := Lib.hid hg
  clear hA hA1 hB1 hz hT hW hs1 hlen hg
  gi_wp2_with (first
    | (refine ⟨trivial, ?_⟩; gi_at_call 53; refine (callsIn_wide.2 HN1.out).mono ?_
       rintro e w1 ⟨rfl, g1, hV1, hg1, hK1⟩
       have hX1 : Below N w w1 := by
         have h1 := HNN.out.1 ▸ HB1.out
         exact h1.trans (hK1.below (Nat.le_refl _) (fun k hk => by cases hk) (by have := HNN.out; omega))
       have HX1 := Lib.hid hX1
       have hA1 := HA.out.of_below (by rw [HNN.out.1]; exact hX1)
       have c2 := hA1.cell1
       have hl := HLEN.out w1 hA1.map
       have HN2 := Lib.hid (wrP_number N w1 ⟨N, 0, none⟩ g1 (enc7 g) n hV1 (by have := enc7_9 HG.out; omega) (by have := HNN.out; omega))
       have HG1 := Lib.hid (fun k hk => (wrP_lie _ _ _ _ _ hV1).2.2 k hk)
       clear hX1 hV1 hg1 hK1 hA1 HN1 c0 c1 hW1)
    | (refine ⟨trivial, ?_⟩; gi_at_call 53; refine (callsIn_wide.2 HN2.out).mono ?_
       rintro e w2 ⟨rfl, g2, hV2, hg2, hK2⟩
       have HX2 := Lib.hid (show Below N w w2 from HX1.out.trans (hK2.below (Nat.le_refl _) (fun k hk => (HG1.out k hk).1) (by have := HX1.out.size; have := HNN.out; omega)))
       have HV2 := Lib.hid hV2
       clear hV2 hg2 hK2 c2 hl)
    | (refine ⟨trivial, ?_⟩; gi_at_call 43; refine (callsIn_wide.2 (all_any _ rfl rfl _)).mono ?_; rintro e w3 ⟨rfl, rfl⟩))
  obtain ⟨hd, hhd⟩ : ∃ x, enc7 g ++ enc7 n = x := ⟨_, rfl⟩
  rw [hhd] at HV2
  have HHD := Lib.hid hhd
  obtain ⟨w3, hw3⟩ : ∃ x, w2.alloc (.cells #[.pointer (some ⟨b, 0, none⟩)] 26) = x := ⟨_, rfl⟩
  have hb3 := below_newR w2 (.cells #[.pointer (some ⟨b, 0, none⟩)] 26)
  obtain ⟨c3, -⟩ := new_cZ w2 (.pointer (some ⟨b, 0, none⟩)) 26
  obtain ⟨B2, hB2⟩ : ∃ x, w2.heap.size = x := ⟨_, rfl⟩
  have hs3 : w3.heap.size = B2 + 1 := by rw [← hw3, World.size_alloc, hB2]
  rw [hw3] at hb3 c3
  rw [hB2] at c3
  have hNB : N < B2 := by have := (wrP_lie _ _ _ _ _ HV2.out).2.1; rw [← hB2]; exact this
  obtain ⟨NR, hNR⟩ : ∃ x, w3.heap.size = x := ⟨_, rfl⟩
  have hX3 : Below N w w3 := HX2.out.trans (hb3.mono (by omega))
  have hA3 := HA.out.of_below (show Below w.heap.size w w3 by rw [HNN.out.1]; exact hX3)
  have hseq : ArSeq 8 B2 (sortA es) w3 := all_seq 8 (by decide) B2 b mb (g : Int) es w3 c3 hA3 (fun e he => (HW.out e he).2)
  have hI3 : ∀ hi, WrI w N NR hi hd w3 := fun hi => by
    have hl := wrP_lie _ _ _ _ _ HV2.out
    exact ⟨by omega, Nat.le_of_eq hNR.symm, hX3, g2, wrP_stay _ _ _ _ _ _ HV2.out hb3.size (hb3.block _ hl.2.1) (fun k hk => hb3.block k (hl.2.2 k hk).2.1), fun k hk => .inl (by have := (hl.2.2 k hk).2.1; omega)⟩
  have HHN := Lib.hid (show hd.length ≤ 18 from by rw [← hhd, List.length_append]; have := enc7_9 HG.out; have := enc7_9 (n := n) (by omega); omega)
  have HNB := Lib.hid (And.intro hNB (And.intro hs3 (And.intro hB2 hNR)))
  have HWS := Lib.hid (fun e (he : e ∈ sortA es) => HW.out e (sortA_mem.1 he))
  have HLS := Lib.hid (show (sortA es).length = n by rw [sortA_len, HNN.out.2.2.1])
  have HDG := Lib.hid (fun (B : World) (hB : Below N w B) e (he : e ∈ sortA es) => (HA.out.dg e (sortA_mem.1 he)).of_below (show Below w.heap.size w B by rw [HNN.out.1]; exact hB))
  have HGO := Lib.hid (fun e (he : e ∈ sortA es) => And.intro (HA.out.good e (sortA_mem.1 he)) (HA.out.inn e (sortA_mem.1 he)))
  rw [hw3, hB2]
  clear hb3 hs3 hX3 hA3 HX1 HX2 HV2 HG1 c3 hw3 HN2 hhd hNB
  refine range_arch (m := 9) (by decide) (bb := B2) rfl rfl hseq (fun A => ∀ hi, WrI w N NR hi hd A)
    (fun lo hi s A => (lo ≤ hi ∧ NR + 2 ≤ lo ∧ hi ≤ A.heap.size) ∧ WrI w N NR hi (hd ++ itsA ((sortA es).take s)) A)
    (fun B B' h k hi => (h hi).of_below k)
    (fun lo hi s B B' h hh k => ⟨⟨h.1.1, h.1.2.1, Nat.le_trans hh k.size⟩, h.2.of_below k⟩)
    (fun lo hi s B h => HDG.out B h.2.2.2.1)
    (fun A B hA hAB h1 h2 => ⟨⟨hAB.size, by rw [← hNR]; exact hA, Nat.le_refl _⟩, by have := h2 B.heap.size; simpa [itsA] using this⟩)
    (fun lo hi s A o h1 h2 h => ⟨⟨h.1.1, h.1.2.1, Nat.le_trans h.1.2.2 (below_putP (N := 0) o (Nat.zero_le _) h2).size⟩, h.2.put (by rw [hNR]; omega) (by rw [hNR]; have := h.1; omega) h2⟩)
    hI3
    (fun v A a' A' => a' = { tmps := #[.pointer (some ⟨b, 0, none⟩), undef, .slice none 0 0, .pointer (some ⟨N, 0, none⟩), .pointer (some ⟨A.heap.size, 0, none⟩), .pointer (some ⟨b, 0, none⟩), .pointer (some ⟨b, 0, none⟩), .pointer (some ⟨b, 0, none⟩), .int .i64 (g : Int), .bool true, .pointer (some ⟨b, 0, none⟩), .pointer (some ⟨b, 0, none⟩), .pointer (some ⟨b, 1, none⟩), .map (some mb), .int .i64 (n : Int), .bool true, .pointer (some ⟨b, 0, none⟩), .func (.func 95) #[] #[.pointer (some ⟨B2, 0, none⟩)], v, undef, undef, undef, undef, undef, undef, undef, undef], defers := [] } ∧ ∃ r, v = rcV r ∧ A' = A.alloc (.cells (tab 54 (rcF r)) 44))
    ?asg0 ?assign ?body ?done
  case asg0 =>
    rintro v A a' A' ⟨-, r, -, rfl⟩
    exact below_newR _ _
  case assign =>
    intro Lp r W K hK
    have hK := Lib.hid hK
    have st := st_lit11 W r
    gi_wp2
    exact ⟨r, rfl, rfl⟩
  case body =>
    rintro Lp lo hi s q c A0 A1 o a' hs hlo hhi hNA ⟨⟨hlh, hlo2, hhi2⟩, hI⟩ hD ⟨rfl, r0, hr0, hA1⟩
    obtain ⟨et, het⟩ : ∃ e, (sortA es).getD s ent0 = e := ⟨_, rfl⟩
    have hmem : et ∈ sortA es := by
      rw [← het, List.getD_eq_getElem?_getD, List.getElem?_eq_getElem hs]
      exact List.getElem_mem _
    have hIT := itsA_take (sortA es) s hs
    rw [het] at hD hr0 hIT ⊢
    have hA1' : A1 = A0.alloc (.cells (tab 54 (rcF (et.1.mov q c))) 44) := by
      rw [hA1]
      have h1 := congrArg (fun v => match v with | .agg a => a | _ => #[]) (show Value.agg (tab 54 (rcF (et.1.mov q c))) = Value.agg (tab 54 (rcF r0)) from by unfold rcV at hr0; exact hr0)
      rw [show tab 54 (rcF (et.1.mov q c)) = tab 54 (rcF r0) from h1]
    obtain ⟨C, hC⟩ : ∃ x, A1.putObj (w3.heap.size + 1) o = x := ⟨_, rfl⟩
    have hRow : Row C A0.heap.size 44 54 (rcF (et.1.mov q c)) := by
      rw [← hC]
      refine Row.of_block ?_ (World.putObj_heap_other (by omega))
      rw [hA1']
      exact Row.new _ _ _ _
    rw [hC] at hI hD hhi2 ⊢
    have ld := loadRT rtP hRow
    have hfr := HGO.out et hmem
    have hTC : Tb C := HT.out.on (show Below w.heap.size w C by rw [HNN.out.1]; exact hI.2.2.1)
    have HB := Lib.hid (bytes10_ok (et.1.mov q c) et.2 C hD hfr.1 hfr.2.1 hfr.2.2 hTC)
    have HRL := Lib.hid (recB_len (HWS.out et hmem).1)
    have HI := Lib.hid hI
    have HITT := Lib.hid hIT
    have HRG := Lib.hid (And.intro hlh (And.intro hlo2 hhi2))
    have HSL := Lib.hid (show s < n from by rw [← HLS.out]; exact hs)
    obtain ⟨V, hV⟩ : ∃ x, rcV (et.1.mov q c) = x := ⟨_, rfl⟩
    rw [hV] at ld HB ⊢
    clear hD hr0 hA1 hA1' hC hRow hfr hTC hI hIT hV hs
    gi_wp2_with (first
      | (refine ⟨trivial, ?_⟩; gi_at_call 55; refine (CallsIn.inRound Lp (callsIn_wide.2 HB.out)).mono ?_
         rintro e C1 ⟨v, rfl, hO, hB⟩
         obtain ⟨pv, cv, rfl, hsv, hpv, -⟩ := hO.shape
         obtain ⟨bs, hbs⟩ : ∃ x, recB et = x := ⟨_, rfl⟩
         have hbs' : encRc ((et.1.mov q c).text et.2) = bs := hbs
         rw [hbs'] at hsv hO ⊢
         obtain ⟨i1, i2, i3, gw, i4, i5⟩ := HI.out
         have hlie := wrP_lie _ _ _ _ _ i4
         have i4 := wrP_stay _ _ C1 _ _ _ i4 hB.size (hB.block _ hlie.2.1) (fun k hk => hB.block k (hlie.2.2 k hk).2.1)
         have hs1 : C.heap.size ≤ C1.heap.size := hB.size
         have HLB := Lib.hid (show bs.length ≤ 9000 from by rw [← hbs]; exact HRL.out.1)
         have hL1 : (hd ++ itsA ((sortA es).take s)).length < 1000000000 := by
           rw [List.length_append]
           have h1 := itsA_len (L := (sortA es).take s) (fun e he => (HWS.out e (List.mem_of_mem_take he)).1)
           have h2 := HHN.out
           have h3 := HSL.out
           have h4 : ((sortA es).take s).length ≤ s := by rw [List.length_take]; omega
           omega
         have HWB := Lib.hid (wrP_bytesQ N C1 ⟨N, 0, none⟩ gw (hd ++ itsA ((sortA es).take s)) pv bs.length cv bs i4 hL1 rfl hsv hpv (by have := HLB.out; omega) (fun cc oo e => by
           have hcc : C.heap.size ≤ cc := (hO.lt cc (by rw [e]; rfl)).1
           exact ⟨by show cc ≠ N; have := hlie.2.1; dsimp only at this; omega, fun e2 => by have := (hlie.2.2 cc e2).2.1; omega⟩))
         have HST := Lib.hid (fun (C2 : World) (hP : WrPost WrP N C1 ⟨N, 0, none⟩ gw ((hd ++ itsA ((sortA es).take s)) ++ (enc7 bs.length ++ bs)) C2) => WrI.step i1 (Nat.le_trans i2 hs1) (Nat.le_trans HRG.out.2.2 hs1) (i3.trans (hB.mono (by have := hlie.2.1; dsimp only at this; omega))) i4 i5 hP)
         have HKC := Lib.hid (And.intro (others_belowP hB) (show Fr12 C C1 lo hi from ⟨Nat.le_trans HRG.out.2.2 hs1, fun k h1 h2 => hB.block k (by have := HRG.out; omega)⟩))
         have HEQ := Lib.hid (show (hd ++ itsA ((sortA es).take s)) ++ (enc7 bs.length ++ bs) = hd ++ itsA ((sortA es).take (s + 1)) from by rw [HITT.out, List.append_assoc]; unfold itA; rw [hbs])
         clear hO hB hsv hpv hbs hbs' i1 i2 i3 i4 i5 hlie hs1 hL1)
      | (refine ⟨trivial, ?_⟩; gi_at_call 54; refine (CallsIn.inRound Lp (callsIn_wide.2 HWB.out)).mono ?_
         rintro e C2 ⟨rfl, hP⟩
         have HP := Lib.hid (HST.out C2 hP)
         clear hP))
    obtain ⟨p1, p2, p3⟩ := HP.out
    rw [HEQ.out] at p1
    have hsz := (p3 C lo (by have := HRG.out; omega) HKC.out.2)
    exact ⟨HKC.out.1.trans p2, hsz, ⟨HRG.out.1, HRG.out.2.1, hsz.1⟩, p1⟩
  case done =>
    rintro D lo hi A hD ⟨⟨hlh, hlo, hhi⟩, hI⟩ hK
    obtain ⟨bd, hbd⟩ : ∃ x, bodyA g (sortA es) = x := ⟨_, rfl⟩
    obtain ⟨enc, henc⟩ : ∃ x, encAr g (sortA es) = x := ⟨_, rfl⟩
    have hEN : enc = bd ++ digL bd := by rw [← henc, ← hbd]; rfl
    have hfin : hd ++ itsA ((sortA es).take (sortA es).length) = bd := by rw [List.take_length, ← hbd, ← HHD.out]; unfold bodyA; rw [HLS.out]
    have hbl : bd.length ≤ 1200000 := by rw [← hbd]; exact bodyA_len HG.out (by rw [HLS.out]; exact hn128) (fun e he => (HWS.out e he).1)
    rw [hfin] at hI
    have HENC := Lib.hid henc
    obtain ⟨i1, i2, i3, gw, i4, -⟩ := hI
    have hlie := wrP_lie _ _ _ _ _ i4
    have hDA := (Array.getElem?_eq_some_iff.1 hK).1
    have HDN := Lib.hid (wrP_done N A ⟨N, 0, none⟩ gw bd i4 (by omega))
    have HK := Lib.hid hK
    have HI := Lib.hid (And.intro i3 (And.intro i4 hlie))
    have HEN := Lib.hid hEN
    have HBL := Lib.hid hbl
    rw [hNR] at hD
    have HDD := Lib.hid (And.intro hD (And.intro i1 (And.intro hDA hlie.2.1)))
    clear hK i1 i2 i3 i4 hlie hfin hEN hbd henc hbl hD hDA hhi hlh hlo
    gi_wp2_with (first
      | (refine ⟨trivial, ?_⟩; gi_at_call 58; refine (callsIn_wide.2 HDN.out).mono ?_
         rintro e w5 ⟨v5, rfl, hO5, hB5⟩
         obtain ⟨p5, c5, rfl, hs5, hp5, -⟩ := hO5.shape
         obtain ⟨W6, hW6⟩ : ∃ W, w5.alloc (.cells #[.slice p5 bd.length c5] 56) = W := ⟨_, rfl⟩
         have hB6 : Below w5.heap.size w5 W6 := by rw [← hW6]; exact below_newR _ _
         have hc6 : W6.cell? ⟨w5.heap.size, 0, none⟩ = some (.slice p5 bd.length c5) := by rw [← hW6]; exact World.cell?_alloc_new _ _ _ _
         have hB46 := hB5.trans (hB6.mono hB5.size)
         have HB46 := Lib.hid hB46
         have HSM := Lib.hid (sum1_any bd w5.heap.size 0 p5 bd.length c5 W6 rfl hc6 (hs5.of_below hB6) (HT.out.on (show Below w.heap.size w W6 by rw [HNN.out.1]; exact HI.out.1.trans (hB46.mono (by have := HDD.out; omega)))) (by have := HBL.out; omega))
         clear hO5 hs5 hp5 hB6 hc6 hB5 HDN hB46)
      | (refine ⟨trivial, ?_⟩; gi_at_call 57; refine (callsIn_wide.2 HSM.out).mono ?_
         rintro e w7 ⟨rfl, hB7⟩
         have hB47 := HB46.out.trans (hB7.mono HB46.out.size)
         have hlie := HI.out.2.2
         have hW7 := wrP_stay _ _ w7 _ _ _ HI.out.2.1 hB47.size (hB47.block _ hlie.2.1) (fun k hk => hB47.block k (hlie.2.2 k hk).2.1)
         have HX7 := Lib.hid (show Below N w w7 from HI.out.1.trans (hB47.mono (by have := HDD.out; omega)))
         have HK7 := Lib.hid (show w7.heap[D]? = some (.deferred (some [])) from (hB47.block D HDD.out.2.2.1).trans HK.out)
         have HDG := Lib.hid (wrP_digest N w7 ⟨N, 0, none⟩ gw bd (digL bd) hW7 (by have := HBL.out; omega) (digL_len _))
         rw [← HEN.out] at HDG
         have HW7 := Lib.hid hW7
         clear hB7 hB47 hW7 hlie HSM HB46)
      | (refine ⟨trivial, ?_⟩; gi_at_call 56; refine (callsIn_wide.2 HDG.out).mono ?_
         rintro e w8 ⟨rfl, g8, hW8, hg8, hK8⟩
         have hlie := wrP_lie _ _ _ _ _ HW7.out
         have hl8 := wrP_lie _ _ _ _ _ hW8
         have HX8 := Lib.hid (show Below N w w8 from HX7.out.trans (hK8.below (Nat.le_refl _) (fun k hk => (hlie.2.2 k hk).1) (by have := hlie.2.1; dsimp only at this; omega)))
         have HK8 := Lib.hid ((hK8.others HW7.out).same D _ HK7.out rfl)
         have HLE := Lib.hid (show enc.length < 1000000000 from by rw [HEN.out, List.length_append, digL_len]; have := HBL.out; omega)
         have HDN := Lib.hid (wrP_done N w8 ⟨N, 0, none⟩ g8 enc hW8 HLE.out)
         have HL8 := Lib.hid hl8
         clear hW8 hg8 hK8 hlie hl8 HDG HW7)
      | (refine ⟨trivial, ?_⟩; gi_at_call 58; refine (callsIn_wide.2 HDN.out).mono ?_
         rintro e w9 ⟨v9, rfl, hO9, hB9⟩
         obtain ⟨p9, c9, rfl, -, -, -⟩ := hO9.shape
         have HO9 := Lib.hid hO9
         have HB9 := Lib.hid hB9
         have HK9 := Lib.hid (show w9.heap[D]? = some (.deferred (some [])) from (hB9.block D (Array.getElem?_eq_some_iff.1 HK8.out).1).trans HK8.out)
         clear hO9 hB9 HDN))
    refine ⟨by simp, .inl ⟨_, _, rfl, run_takeDeferred HK9.out, ?_⟩⟩
    have hDl := (Array.getElem?_eq_some_iff.1 HK9.out).1
    have hd8 := HX8.out.size
    have hd1 := HDD.out
    have hd2 := HL8.out.2.1
    have hd3 := (Array.getElem?_eq_some_iff.1 HK8.out).1
    refine ⟨.slice p9 enc.length c9, ?_, .slice p9 enc.length c9, rfl, ?_, ?_⟩
    · simp [results, Tryz.f22, go_sem]
    · rw [HNN.out.1, HENC.out]
      exact (HO9.out.lower (show N ≤ w8.heap.size by omega)).keep (fun k hk => World.putObj_heap_other (by have := (HO9.out.lt k hk).1; omega))
    · rw [HNN.out.1]
      exact (HX8.out.trans (HB9.out.mono (by omega))).trans (below_putP _ (by omega) hDl)
end Go.Proofs.YtkajeepbelfpiaaGreatDoor
