/- Merged texts: Mak12, Mni12, Mnd12, Stm10, Ref7, RefH7, RefL7, RefW7, LibP7, PtaP7, RngC7, Hd7, LibI7, SplP7, IdxF7, RunP7. -/
import Derived.LoopIn
import Derived.Test.YtnmopjefjpifoaaGreatDoorKR6
import Derived.Test.YtnmopjefjpifoaaGreatDoorKR4
import Derived.Test.YtnmopjefjpifoaaGreatDoorKR3
import Derived.Deep.RegionHeld3
import Derived.OwnWalk
import Derived.Lib.Hide
import Derived.Lib.MinMax
import Derived.Test.YtnmopjefjpifoaaGreatDoorStr7
import Derived.Deep.RegionLaw
import Derived.BigRegion
import Derived.Test.YtnmopjefjpifoaaGreatDoorBytes
import Derived.Laws.Externs
import Derived.Deep.QuietTactic
import Derived.Lib.OthersKept
import Derived.RangeFuncNested
import Derived.RangeFuncBound
import Derived.RangeFuncCalls
import Derived.RangeFuncLeaves
import Derived.Shelf.Abstract
import Derived.Shelf.RegionOpen
import Derived.WalkKit
import Derived.OwnWalkIn
import Derived.TacticsInMore
import Derived.LoopNIn
import Derived.Lib.Bytealg
import Derived.Laws.RangeAny
import Derived.Laws.Runes
set_option linter.unusedSimpArgs false
set_option linter.unusedVariables false
/- sidecar.Make. -/
set_option maxRecDepth 100000
namespace Go.Proofs.YtnmopjefjpifoaaGreatDoor
open Go Go.RowKit Go.Shelf

attribute [-go_sem] Sha.exec_store
theorem wplIn_appendL {F : Fence} {m : Nat} {ops : Array Oper} {rest : List Oper} {o : Oper} {a : Act} {Q : Exit → Act → World → Prop} (w : World) (hgd : o.guard = none) (s x : Operand)
    (ho : o.op = .call { callee := .builtin .append, args := #[s, x], argTypes := #[53, 53] })
    (base : Nat) (v : Value) (l : List (BitVec 8)) (hs : a.eval s = v) (hown : OwnB w base v l) (p : Option Addr) (n cap : Nat) (bs : List (BitVec 8)) (hbl : bs.length = n) (hx : a.eval x = .slice p n cap) (hsl : Sl w p bs) (hc : p = none → cap = 0)
    (hn : l.length + n < 1000000000000) (hb : base ≤ w.heap.size)
    (h : ∀ v' w', OwnB w' base v' (l ++ bs) → w.grownBy w' v.ownBlock → (v'.ownBlock = v.ownBlock ∨ v'.ownBlock = some w.heap.size) → wpListIn F m Tryz.prog ops Q rest (a.put o.dst v') w') : wpListIn F m Tryz.prog ops Q (o :: rest) a w := by
  refine wpListIn_plain hgd fun K hK => ?_
  obtain ⟨v', w', hr, h2, h3, h4⟩ := append_ownL w base o.type v l hown p n cap bs hbl hsl hc hn hb
  have hsem : o.semAt F.round a.eval = execOp a.eval o := Oper.semAt_eq _ _ _ (fun c e => by rw [ho] at e; cases e)
  unfold Oper.wpIn
  refine ⟨fun f hf => ?_, ?_⟩
  · exfalso
    unfold Oper.about at hf
    simp only [ho, resolve, Sem.run_bind, Sem.run_pure, Result.andThen_ok, Target.leads] at hf
    cases hf
  · rw [hsem]
    unfold execOp
    simp only [ho, resolve, invoke, builtin, Sem.run_bind, Sem.run_pure, Result.andThen_ok, List.map_toArray, List.map_cons, List.map_nil, hs, hx, hr]
    exact hK _ _ (h v' w' h2 h3 h4)
theorem mk0_12 (M : Nat) (w : World) (hM : M < 4294967296) : (mkT 53 (.int .i64 0) (.int .i64 (M : Int))).run Tryz.prog w = .ok (.value (.slice (some ⟨w.heap.size, 0, none⟩) 0 M)) (w.alloc (.cells (zb M) 5)) := by
  have hi : (Tryz.prog.info? 5).map (fun i => (i.zero, i.size, i.bytes)) = some (some (.int .u8 0), 1, 1) := by kernel_rfl
  cases hq : Tryz.prog.info? 5 with
  | none => simp [hq] at hi
  | some i =>
    rw [hq] at hi
    simp only [Option.map_some, Option.some.injEq, Prod.mk.injEq] at hi
    obtain ⟨h1, h2, h3⟩ := hi
    have := run_make (P := Tryz.prog) w 53 5 i (.int .u8 0) (by kernel_rfl) hq h1 .i64 .i64 0 (M : Int) (by omega) (by omega) (by rw [h3]; omega) (by omega)
    rw [h2] at this
    simp only [Int.toNat_natCast, Nat.mul_one, Int.toNat_zero] at this
    simp only [mkT, Sem.run_bind, this, Result.andThen_ok, Sem.run_pure]
    congr 2
    rw [zb_eq]
    congr 1
    apply Array.ext_getElem?
    intro j
    by_cases hj : j < M <;> simp [madeCells, Value.cells, hj, Nat.mod_one]
theorem own_made12 (w : World) (M base : Nat) (hb : base ≤ w.heap.size) (hM : M ≤ 1000000) : OwnB (w.alloc (.cells (zb M) 5)) base (.slice (some ⟨w.heap.size, 0, none⟩) 0 M) [] :=
  ⟨rfl, .inr ⟨w.heap.size, M, zb M, rfl, hb, World.alloc_heap_new _ _, Nat.zero_le _, by simp only [maxLen]; omega, by simp [zb, tab_size], rfl⟩⟩
/-- What the walk of Make carries: the bytes so far, whose block lies outside of what others rely on. -/
def MkI (w : World) (N0 G4 N1 hi MP hP : Nat) (L : List (BitVec 8)) (A : World) : Prop :=
  ∃ v, A.cell? ⟨G4, 0, none⟩ = some v ∧ A.frozen? ⟨G4, 0, none⟩ = false ∧ OwnB A N0 v L ∧ Below N0 w A ∧ ∀ g, v.ownBlock = some g → g ≠ G4 ∧ (g < N1 ∨ hi ≤ g) ∧ (g < MP ∨ hP ≤ g)
def MkJ (w : World) (N0 G4 N1 : Nat) (d l : List (BitVec 8)) (lo hi s : Nat) (A : World) : Prop := (lo ≤ hi ∧ N1 + 2 ≤ lo) ∧ hi ≤ A.heap.size ∧ MkI w N0 G4 N1 hi 0 0 (d ++ ((List.range s).map (strE l)).flatten) A
theorem MkI.of_below {w A A' : World} {N0 G4 N1 hi MP hP : Nat} {L : List (BitVec 8)} (h : MkI w N0 G4 N1 hi MP hP L A) (hN : N0 ≤ A.heap.size) (k : Below A.heap.size A A') : MkI w N0 G4 N1 hi MP hP L A' := by
  obtain ⟨v, h1, h2, h3, h4, h5⟩ := h
  have hlt := World.block_lt_of_cell? A _ h1
  exact ⟨v, by rw [k.cell (by exact hlt)]; exact h1, by rw [k.frozen (by exact hlt)]; exact h2, h3.of_below k, h4.trans (k.mono hN), h5⟩
theorem MkI.drewN {w A : World} {N0 G4 N1 hi MP hP : Nat} {L : List (BitVec 8)} (h : MkI w N0 G4 N1 hi MP hP L A) (hN : N0 ≤ A.heap.size) (k : Nat) : MkI w N0 G4 N1 hi MP hP L (A.drewN k) :=
  h.of_below hN ((show Dr A (A.drewN k) from ⟨k, rfl⟩).below _)
theorem MkI.put {w A : World} {N0 G4 N1 hi MP hP k : Nat} {L : List (BitVec 8)} {o : Obj} (h : MkI w N0 G4 N1 hi MP hP L A) (hG : G4 < N1) (hN : N0 ≤ k) (hk : N1 ≤ k) (hk2 : k < hi) (hlt : k < A.heap.size) : MkI w N0 G4 N1 hi MP hP L (A.putObj k o) := by
  obtain ⟨v, h1, h2, h3, h4, h5⟩ := h
  have hne : (A.putObj k o).heap[G4]? = A.heap[G4]? := World.putObj_heap_other (by omega)
  exact ⟨v, by rw [World.cell?_of_block (w := A) (a := ⟨G4, 0, none⟩) hne]; exact h1, by rw [World.frozen?_of_block (w := A) (a := ⟨G4, 0, none⟩) hne]; exact h2, h3.keep (fun g hg => World.putObj_heap_other (by have := h5 g hg; omega)), h4.trans (below_putP o hN hlt), h5⟩
theorem MkI.re {w A : World} {N0 G4 N1 hi MP hP MP' hP' : Nat} {L : List (BitVec 8)} (h : MkI w N0 G4 N1 hi MP hP L A) (h' : ∀ g, g < A.heap.size → g < MP' ∨ hP' ≤ g) : MkI w N0 G4 N1 hi MP' hP' L A := by
  obtain ⟨v, h1, h2, h3, h4, h5⟩ := h
  exact ⟨v, h1, h2, h3, h4, fun g hg => ⟨(h5 g hg).1, (h5 g hg).2.1, h' g (h3.lt g hg).2⟩⟩
theorem MkI.step {w A A2 : World} {N0 G4 N1 hi MP hP : Nat} {L L' : List (BitVec 8)} {v v' : Value} (hc : A.cell? ⟨G4, 0, none⟩ = some v) (hf : A.frozen? ⟨G4, 0, none⟩ = false) (hO : OwnB A N0 v L) (hB : Below N0 w A)
    (hown : ∀ g, v.ownBlock = some g → g ≠ G4 ∧ (g < N1 ∨ hi ≤ g) ∧ (g < MP ∨ hP ≤ g)) (hO2 : OwnB A2 N0 v' L') (hg : A.grownBy A2 v.ownBlock) (hor : v'.ownBlock = v.ownBlock ∨ ∃ g, v'.ownBlock = some g ∧ A.heap.size ≤ g) (hN : N0 ≤ G4) (h1 : hi ≤ A.heap.size) (h2 : hP ≤ A.heap.size) :
    A2.cell? ⟨G4, 0, none⟩ = some v ∧ A2.frozen? ⟨G4, 0, none⟩ = false ∧ (A2.setCell ⟨G4, 0, none⟩ v').cell? ⟨G4, 0, none⟩ = some v' ∧ (A2.setCell ⟨G4, 0, none⟩ v').frozen? ⟨G4, 0, none⟩ = false ∧ OwnB (A2.setCell ⟨G4, 0, none⟩ v') N0 v' L' ∧ Below N0 w (A2.setCell ⟨G4, 0, none⟩ v') ∧
      (∀ g, v'.ownBlock = some g → g ≠ G4 ∧ (g < N1 ∨ hi ≤ g) ∧ (g < MP ∨ hP ≤ g)) ∧ KeepsOthers A (A2.setCell ⟨G4, 0, none⟩ v') ∧ A.heap.size ≤ (A2.setCell ⟨G4, 0, none⟩ v').heap.size ∧
      (∀ W a b, Fr12 W A a b → (∀ g, v.ownBlock = some g → g < a ∨ b ≤ g) → (G4 < a ∨ b ≤ G4) → Fr12 W (A2.setCell ⟨G4, 0, none⟩ v') a b) := by
  have hlt := World.block_lt_of_cell? A _ hc
  have hlt : G4 < A.heap.size := hlt
  have hne : some G4 ≠ v.ownBlock := fun e => (hown G4 e.symm).1 rfl
  have hblk := hg.block G4 hlt hne
  have hc2 : A2.cell? ⟨G4, 0, none⟩ = some v := by rw [World.cell?_of_block (w := A) (a := ⟨G4, 0, none⟩) hblk]; exact hc
  have hf2 : A2.frozen? ⟨G4, 0, none⟩ = false := by rw [World.frozen?_of_block (w := A) (a := ⟨G4, 0, none⟩) hblk]; exact hf
  have hown2 : ∀ g, v'.ownBlock = some g → g ≠ G4 ∧ (g < N1 ∨ hi ≤ g) ∧ (g < MP ∨ hP ≤ g) := fun g e => by
    rcases hor with h | ⟨g', e', h'⟩
    · rw [h] at e; exact hown g e
    · rw [e'] at e; injection e with e; omega
  have hB2 : Below N0 w A2 := hB.grown hg (by have := hB.size; omega) (fun k hk => (hO.lt k hk).1)
  refine ⟨hc2, hf2, World.cell?_setCell_same _ _ _ hc2, by rw [World.frozen?_setCell]; exact hf2, hO2.keep (fun g hg' => Below.heap_setCell _ _ _ _ (show g ≠ G4 from (hown2 g hg').1)), hB2.setCell (show N0 ≤ (⟨G4, 0, none⟩ : Addr).block from hN) _, hown2,
    (KeepsOthers.grown_own hO hg).trans (KeepsOthers.setCell _ _ _), by simp; exact hg.size, fun W a b hF ho hgg => ?_⟩
  have h3 := hF.grown hg ho
  exact ⟨by simp; exact h3.1, fun g h4 h5 => (Below.heap_setCell _ _ _ _ (show g ≠ G4 by omega)).trans (h3.2 g h4 h5)⟩
attribute [local go_sem ↓] exec_make
attribute [local go_sem] mk0_12
attribute [local go_sem] Oper.semAt_some
set_option maxRecDepth 100000 in
set_option maxHeartbeats 8000000 in
theorem make12_ok (l : List (BitVec 8)) (q : Option Addr) (n cap : Nat) (w : World) (hl : l.length = n) (hs : Sl w q l) (hq : q = none → cap = 0) (hc : n ≤ cap) (hn : n ≤ 16384) (hT : Tb w) :
    Calls Tryz.prog 82 #[.slice q n cap] w fun e w' => ∃ v, e = .returned (.tuple #[v, .int .i64 0]) ∧ OwnB w' w.heap.size v (mkSd l) ∧ Below w.heap.size w w' := by
  refine (callsIn_wide (n := 9)).1 ?_
  refine callsIn_of_wp_marks Tryz.func82 rfl trivial ?_ rfl
  simp only [Tryz.ntmps82, List.size_toArray, List.length_cons, List.length_nil, Nat.reduceAdd, Nat.reduceSub, Array.replicate_succ, Array.replicate_zero, List.push_toArray, List.append_toArray, List.nil_append, List.cons_append]
  have HSL := Lib.hid hs
  have HLN := Lib.hid hl
  have HQ := Lib.hid hq
  have HC := Lib.hid hc
  have HT := Lib.hid hT
  obtain ⟨N0, hN⟩ : ∃ N, w.heap.size = N := ⟨_, rfl⟩
  have HN := Lib.hid hN
  have d0 : decide ((16384 : Int) < (n : Int)) = false := decide_eq_false (by omega)
  have d1 : ¬ (16384 : Int) < (n : Int) := by omega
  have HLN2 := Lib.hid (Len_any (n : Int) w (by omega) (by omega))
  rw [Int.toNat_natCast] at HLN2
  obtain ⟨M, hM⟩ : ∃ m, 32 + 576 * nstr n = m := ⟨_, rfl⟩
  have hM2 : M ≤ 10000 := by rw [← hM]; unfold nstr; omega
  rw [hM] at HLN2
  have mk := mk0_12 M w (by omega)
  obtain ⟨W1, hW1⟩ : ∃ W, w.alloc (.cells (zb M) 5) = W := ⟨_, rfl⟩
  have hO1 := own_made12 w M N0 (by omega) (by omega)
  have hb1 := below_newR w (.cells (zb M) 5)
  have hs1 : W1.heap.size = N0 + 1 := by rw [← hW1, World.size_alloc, hN]
  rw [hW1] at mk hO1 hb1
  rw [hN] at mk hO1 hb1
  obtain ⟨W2, hW2⟩ : ∃ W, W1.alloc (.cells #[.slice (some ⟨N0, 0, none⟩) 0 M] 53) = W := ⟨_, rfl⟩
  have hb2 := below_newR W1 (.cells #[.slice (some ⟨N0, 0, none⟩) 0 M] 53)
  obtain ⟨c2, f2⟩ := new_cP W1 (.slice (some ⟨N0, 0, none⟩) 0 M) 53
  rw [hW2] at hb2 c2 f2
  rw [hs1] at c2 f2
  have hs2 : W2.heap.size = N0 + 2 := by rw [← hW2, World.size_alloc, hs1]
  have hB2 : Below N0 w W2 := by rw [← hN]; rw [← hN] at hb1; exact hb1.trans (hb2.mono hb1.size)
  have hO2 : OwnB W2 N0 (.slice (some ⟨N0, 0, none⟩) 0 M) [] := hO1.of_below hb2
  have hB2w : Below w.heap.size w W2 := by rw [hN]; exact hB2
  have HAD := Lib.hid (appendDigest_any N0 (.slice (some ⟨N0, 0, none⟩) 0 M) [] l q n cap W2 hO2 (by simp) (by omega) hl (hs.of_below hB2w) (by omega) (hT.on hB2w))
  obtain ⟨d, hd⟩ : ∃ d, digL l = d := ⟨_, rfl⟩
  have HDL := Lib.hid (And.intro hd (show d.length = 32 from by rw [← hd]; exact digL_len _))
  rw [hd, List.nil_append] at HAD
  have HS2 := Lib.hid (fun (w3 : World) (v3 : Value) (hO3 : OwnB w3 N0 v3 d) (hg3 : W2.grownBy w3 (Value.slice (some ⟨N0, 0, none⟩) 0 M).ownBlock) (ho3 : v3.ownBlock = (Value.slice (some ⟨N0, 0, none⟩) 0 M).ownBlock ∨ ∃ g, v3.ownBlock = some g ∧ W2.heap.size ≤ g) =>
    (MkI.step (w := w) (N1 := 0) (hi := 0) (MP := 0) (hP := 0) c2 f2 hO2 hB2 (fun g e => by
      have e : some N0 = some g := e
      injection e with e
      omega) hO3 hg3 ho3 (show N0 ≤ N0 + 1 by omega) (Nat.zero_le _) (Nat.zero_le _)))
  have HSZ := Lib.hid hs2
  clear hs hl hq hc hT hM hB2 hO2 hB2w hd hO1 hs2
  gi_wp2_with (first
    | (refine ⟨trivial, ?_⟩; gi_at_call 83; refine (callsIn_wide.2 HLN2.out).mono ?_; rintro e w' ⟨rfl, rfl⟩)
    | (refine ⟨trivial, ?_⟩; gi_at_call 146; refine (callsIn_wide.2 HAD.out).mono ?_; rintro e w3 ⟨v3, rfl, hO3, hg3, ho3⟩
       have hst3 := HS2.out w3 v3 hO3 hg3 ho3
       obtain ⟨k1, k2, k3, k4, k5, k6, k7, -, k8, -⟩ := hst3
       have HO3 := Lib.hid (And.intro hO3 ho3)
       obtain ⟨pz, cz, hvz, -, -, -⟩ := hO3.shape
       subst hvz
       rw [HDL.out.2] at k3 k4 k5 k6 HO3 ⊢
       have HK := Lib.hid (And.intro k5 (And.intro k6 k4))
       clear hO3 hg3 ho3 c2 f2 k5 k6 k7 k8 k4)
    | (refine ⟨trivial, ?_⟩; gi_at_call 85; refine (callsIn_wide.2 (stripes_any q n cap _)).mono ?_; rintro e w' ⟨rfl, rfl⟩))
  obtain ⟨w4, hw4⟩ : ∃ x, w3.setCell ⟨N0 + 1, 0, none⟩ (.slice pz 32 cz) = x := ⟨_, rfl⟩
  rw [hw4] at k3 HK ⊢
  have hs4 : w4.heap.size = w3.heap.size := by rw [← hw4]; simp
  have hb5 := below_newR w4 (.cells #[.slice q n cap] 53)
  have c5 : (w4.alloc (.cells #[.slice q n cap] 53)).cell? ⟨w4.heap.size, 0, none⟩ = some (.slice q n cap) := World.cell?_alloc_new _ _ _ _
  have hs5 : (w4.alloc (.cells #[.slice q n cap] 53)).heap.size = w3.heap.size + 1 := by rw [World.size_alloc, hs4]
  obtain ⟨w5, hw5⟩ : ∃ x, w4.alloc (.cells #[.slice q n cap] 53) = x := ⟨_, rfl⟩
  rw [hw5] at hb5 c5 hs5 ⊢
  rw [hs4] at c5
  obtain ⟨N1, hN1⟩ : ∃ x, w5.heap.size = x := ⟨_, rfl⟩
  rw [hN1] at hs5
  have hk := HK.out
  have hG4lt : N0 + 1 < w3.heap.size := World.block_lt_of_cell? w3 _ k1
  have hG4 : N0 + 1 < N1 := by omega
  have hI5 : ∀ hi, MkI w N0 (N0 + 1) N1 hi 0 0 d w5 := fun hi =>
    MkI.of_below ⟨_, k3, hk.2.2, hk.1, hk.2.1, fun g e => by
      have h1 := (HO3.out.1.lt g e).2
      rcases HO3.out.2 with h | ⟨g', h, h'⟩
      · rw [h] at e
        have e : some N0 = some g := e
        injection e with e
        omega
      · rw [h] at e; injection e with e; have := HSZ.out; omega⟩ (by omega) hb5
  have hB5 : Below w.heap.size w w5 := by rw [HN.out]; exact hk.2.1.trans (hb5.mono (by omega))
  have HSEQ := Lib.hid (stripes_seq 8 (by decide) w3.heap.size l q n cap w5 c5 HLN.out (HSL.out.of_below hB5) HQ.out (by omega) HC.out)
  have HB5 := Lib.hid hB5
  have HI5 := Lib.hid hI5
  clear hk hI5 hB5 hb5 c5 hs4 hw4 hw5 k1 k2 k3 mk hW1 hW2 hb1 hb2 hs1 d0 d1 hs5
  refine range_made (m := 9) (by decide) (bb := w3.heap.size) rfl rfl HSEQ.out (fun A => N1 ≤ A.heap.size ∧ ∀ hi, MkI w N0 (N0 + 1) N1 hi 0 0 d A)
    (MkJ w N0 (N0 + 1) N1 d l)
    (fun B B' h k => ⟨Nat.le_trans h.1 k.size, fun hi => (h.2 hi).of_below (by have := h.1; omega) k⟩)
    (fun A B hA hAB h1 h2 => ⟨⟨hAB.size, by rw [← hN1]; exact hA⟩, Nat.le_refl _, by have := h2.2 B.heap.size; simpa using this⟩)
    (fun lo hi s A k h => ⟨h.1, h.2.1, h.2.2.drewN (by obtain ⟨v, -, -, -, h4, -⟩ := h.2.2; have := h4.size; omega) k⟩)
    (fun lo hi s A o h1 h2 h => ⟨h.1, Nat.le_trans h.2.1 (below_putP (N := 0) o (Nat.zero_le _) h2).size, h.2.2.put hG4 (by omega) (by omega) (by have := h.1.1; omega) h2⟩)
    ⟨by omega, HI5.out⟩
    (fun s v => { tmps := #[.slice q n cap, undef, .slice none 0 0, .int .i64 0, .pointer (some ⟨N0 + 1, 0, none⟩), undef, v, undef, undef, .slice q n cap, .int .i64 (n : Int), .bool false, .slice q n cap, .int .i64 (n : Int), .int .i64 (M : Int), .slice (some ⟨N0, 0, none⟩) 0 M, .slice (some ⟨N0, 0, none⟩) 0 M, .slice q n cap, .slice pz 32 cz, .slice q n cap, .func (.func 150) #[] #[.pointer (some ⟨w3.heap.size, 0, none⟩)], .int .i64 ((4 * s : Nat) : Int), v, undef, undef, undef, undef, undef, undef, undef, undef, undef, undef, undef, undef, undef, undef, undef], defers := [] }) ?assign ?body ?done
  case assign =>
    intro L s v W K hK
    gi_wp2
    exact hK
  case body =>
    rintro L lo hi s q2 c2 A hs hlo hhA ⟨⟨hlh, -⟩, hhA', hmk⟩ hLay hcc
    rw [hN1] at hlo
    obtain ⟨bs, hbs⟩ : ∃ x, strB l s = x := ⟨_, rfl⟩
    obtain ⟨k, hk⟩ : ∃ k, bs.length = k := ⟨_, rfl⟩
    have hk1 : 1 ≤ k ∧ k ≤ 4 := by
      have h1 := strB_len l s
      rw [hbs, hk] at h1
      have := (nstr_blk l.length s).1 hs
      omega
    have hLA := hLay A ⟨hhA, fun _ _ _ => rfl⟩
    rw [hbs] at hLA hcc ⊢
    rw [hk] at hcc ⊢
    obtain ⟨Ls, hLs⟩ : ∃ x, d ++ ((List.range s).map (strE l)).flatten = x := ⟨_, rfl⟩
    rw [hLs] at hmk
    have hLsl : Ls.length ≤ 100000 := by
      have := flat_str l s
      have h2 : s ≤ 16 := by have := HLN.out; unfold nstr at hs; omega
      rw [← hLs, List.length_append, HDL.out.2, this]
      omega
    have HPA := Lib.hid (parity12_any bs q2 k c2 A hLA hk hk1.1 hk1.2 (fun i _ => by rw [← hbs]; exact strB_row l s i))
    have HMK := Lib.hid hmk
    have HFA := Lib.hid (And.intro hhA (And.intro hlh hlo))
    have HBS := Lib.hid (And.intro hbs hk)
    have HLS := Lib.hid (And.intro hLs (And.intro hLsl hs))
    clear hmk hLay hLA hbs hk hk1 hLs hLsl hhA' hs hcc hlo hhA hlh
    gi_wp2_with (first
      | (refine ⟨trivial, ?_⟩; gi_at_call 147; refine (CallsIn.inRound L (callsIn_wide.2 HPA.out)).mono ?_; rintro e wP ⟨GP, D, rfl, hM, hBP⟩))
    obtain ⟨MP, hMP⟩ : ∃ x, A.heap.size = x := ⟨_, rfl⟩
    obtain ⟨hP, hhP⟩ : ∃ x, wP.heap.size = x := ⟨_, rfl⟩
    have hMPP : MP ≤ hP := by rw [← hMP, ← hhP]; exact hBP.size
    have hN1A : N1 ≤ A.heap.size := by have := HFA.out; omega
    have hmkP : MkI w N0 (N0 + 1) N1 hi MP hP Ls wP := (HMK.out.re (MP' := MP) (hP' := hP) (fun g hg => .inl (by omega))).of_below (by omega) hBP
    have HMP := Lib.hid hmkP
    have HM := Lib.hid hM
    have HKA := Lib.hid (others_belowP hBP)
    have HFA0 := Lib.hid (show Fr12 A wP lo hi from ⟨Nat.le_trans HFA.out.1 hBP.size, fun g h1 h2 => hBP.block g (by have := HFA.out.1; omega)⟩)
    have HSZP := Lib.hid (And.intro hMP (And.intro hhP (And.intro hMPP hN1A)))
    clear hmkP hM hBP HMK HPA hMP hhP hMPP hN1A
    gi_loopw [26] (fun f wr => ∃ j : Nat, j ≤ 2 ∧ f = .int .i64 (j : Int) ∧ MkI w N0 (N0 + 1) N1 hi MP hP (Ls ++ (((parB bs).take j).map entL).flatten) wr ∧ KeepsOthers A wr ∧ Fr12 A wr lo hi ∧ Fr12 wP wr MP hP) (fun f _ => 2 - (intOf f).toNat)
    case atStart => exact ⟨0, Nat.zero_le _, rfl, by simpa using HMP.out, HKA.out, HFA0.out, ⟨Nat.le_of_eq HSZP.out.2.1.symm, fun _ _ _ => rfl⟩⟩
    case round =>
      obtain ⟨j, hj, rfl, ⟨v, e1, e2, e3, e4, e5⟩, hKO, hFr, hFP⟩ := hrel
      obtain ⟨Lr, hLr⟩ : ∃ x, Ls ++ (((parB bs).take j).map entL).flatten = x := ⟨_, rfl⟩
      rw [hLr] at e3
      have HLR := Lib.hid (And.intro hLr (show Lr.length ≤ 200000 from by rw [← hLr, List.length_append]; have := ent_len (bs := bs) j; have := HLS.out.2.1; omega))
      obtain ⟨pv, cv, hv, -⟩ := e3.shape
      subst hv
      have HFP := Lib.hid hFP
      have HFR := Lib.hid hFr
      have HKO := Lib.hid hKO
      have hhi : hi ≤ wr.heap.size := hFr.1
      have hhP : hP ≤ wr.heap.size := hFP.1
      by_cases hj2 : j < 2
      · have z1 : (j : Int) < (2 : Int) := by omega
        have z2 : decide ((j : Int) < (2 : Int)) = true := decide_eq_true z1
        have HMR := Lib.hid (fun u (hu : Fr12 wP u MP hP) => HM.out.fr12 (show Fr12 wP u A.heap.size wP.heap.size from by rw [HSZP.out.1, HSZP.out.2.1]; exact hu))
        have hx := (HMR.out wr hFP).cellH j hj2 hj2
        obtain ⟨row, hrow⟩ : ∃ x, (parB bs).getD j [] = x := ⟨_, rfl⟩
        have HROW := Lib.hid (show row.length = 256 from by rw [← hrow]; exact parB_row bs j hj2)
        have HSR := Lib.hid (fun u (hu : Fr12 wP u MP hP) => (show Sl u (some ⟨D j, 0, none⟩) row from by rw [← hrow, ← parX_row bs j hj2]; exact (HMR.out u hu).sl j hj2))
        have HEN := Lib.hid (show Ls ++ (((parB bs).take (j + 1)).map entL).flatten = (Lr ++ row) ++ digL row from by rw [ent_take _ _ (by rw [parB_len]; exact hj2), hrow, ← List.append_assoc, hLr, List.append_assoc]; rfl)
        have HO := Lib.hid e3
        have HB := Lib.hid e4
        have HOWN := Lib.hid e5
        have HC1 := Lib.hid e1
        have HC2 := Lib.hid e2
        have HHI := Lib.hid (And.intro hhi hhP)
        have HNR := Lib.hid (show N0 ≤ wr.heap.size from by have := e4.size; omega)
        clear hKO hFr hFP e3 e4 e5 hLr hrow hhi hhP HMP HKA HFA0
        gi_wp2_with (first
          | (refine wplIn_appendL wr rfl (.tmp 30) (.tmp 31) rfl N0 (.slice pv Lr.length cv) Lr rfl HO.out (some ⟨D j, 0, none⟩) 256 256 row HROW.out rfl (HSR.out wr HFP.out) (fun e => by cases e) (by have := HLR.out.2; omega) HNR.out ?_
             rintro v1 A1 hO1 hg1 ho1
             obtain ⟨L1, hL1, hO1⟩ : ∃ x, Lr ++ row = x ∧ OwnB A1 N0 v1 x := ⟨_, rfl, hO1⟩
             have HL1 := Lib.hid (And.intro hL1 (show L1.length ≤ 200256 from by rw [← hL1, List.length_append, HROW.out]; have := HLR.out.2; omega))
             have hst := MkI.step HC1.out HC2.out HO.out HB.out HOWN.out hO1 hg1 (ho1.imp id fun h => ⟨_, h, Nat.le_refl _⟩) (show N0 ≤ N0 + 1 by omega) HHI.out.1 HHI.out.2
             obtain ⟨k1, k2, k3, k4, k5, k6, k7, k8, k9, k10⟩ := hst
             obtain ⟨p1, c1, hv1, -⟩ := hO1.shape
             subst hv1
             obtain ⟨s1, hs1⟩ : ∃ x, A1.setCell ⟨N0 + 1, 0, none⟩ (.slice p1 L1.length c1) = x := ⟨_, rfl⟩
             rw [hs1] at k3 k4 k5 k6 k8 k9 k10
             have HFR1 := Lib.hid (k10 A lo hi HFR.out (fun g e => by have := HOWN.out g e; have := HFA.out; omega) (by have := HFA.out; omega))
             have HFP1 := Lib.hid (k10 wP MP hP HFP.out (fun g e => (HOWN.out g e).2.2) (by have := HSZP.out; omega))
             have HK1 := Lib.hid (HKO.out.trans k8)
             have HO1 := Lib.hid k5
             have HB1 := Lib.hid k6
             have HOW1 := Lib.hid k7
             have HC31 := Lib.hid k3
             have HC41 := Lib.hid k4
             have HZ1 := Lib.hid k9
             have HNS := Lib.hid (show N0 ≤ s1.heap.size from by have := HNR.out; omega)
             have HAD := Lib.hid (appendDigest_any N0 (.slice p1 L1.length c1) L1 row (some ⟨D j, 0, none⟩) 256 256 s1 k5 (by have := HL1.out.2; omega) HNS.out HROW.out (HSR.out s1 HFP1.out) (by decide) (HT.out.on (by rw [HN.out]; exact k6)))
             clear hO1 hg1 ho1 k5 k6 k7 k8 k9 k10 hL1)
          | (refine ⟨trivial, ?_⟩; gi_at_call 146; refine (CallsIn.inRound L (callsIn_wide.2 HAD.out)).mono ?_; rintro e A2 ⟨v2, rfl, hO2, hg2, ho2⟩
             obtain ⟨L2, hL2, hO2⟩ : ∃ x, L1 ++ digL row = x ∧ OwnB A2 N0 v2 x := ⟨_, rfl, hO2⟩
             have HL2 := Lib.hid hL2
             have hst := MkI.step HC31.out HC41.out HO1.out HB1.out HOW1.out hO2 hg2 ho2 (show N0 ≤ N0 + 1 by omega) HFR1.out.1 HFP1.out.1
             obtain ⟨m1, m2, m3, m4, m5, m6, m7, m8, m9, m10⟩ := hst
             obtain ⟨p2, c2', hv2, -⟩ := hO2.shape
             subst hv2
             have HFR2 := Lib.hid (m10 A lo hi HFR1.out (fun g e => by have := HOW1.out g e; have := HFA.out; omega) (by have := HFA.out; omega))
             have HFP2 := Lib.hid (m10 wP MP hP HFP1.out (fun g e => (HOW1.out g e).2.2) (by have := HSZP.out; omega))
             have HK2 := Lib.hid (HK1.out.trans m8)
             have HI2 := Lib.hid (show MkI w N0 (N0 + 1) N1 hi MP hP L2 _ from ⟨_, m3, m4, m5, m6, m7⟩)
             clear hO2 hg2 ho2 m3 m4 m5 m6 m7 m8 m9 m10 hL2))
        go_roundw
        case rel => exact ⟨j + 1, by omega, by go_num, by rw [HEN.out, HL1.out.1, HL2.out]; exact HI2.out, HK2.out, HFR2.out, HFP2.out⟩
        case measure => simp [intOf]; omega
      · have z1 : ¬ (j : Int) < (2 : Int) := by omega
        have z2 : decide ((j : Int) < (2 : Int)) = false := decide_eq_false z1
        have hj2' : j = 2 := by omega
        have hfin : Lr = d ++ ((List.range (s + 1)).map (strE l)).flatten := by
          have h1 : (parB bs).take j = parB bs := by rw [hj2', List.take_of_length_le (by rw [parB_len]; exact Nat.le_refl _)]
          rw [← hLr, h1, ← HLS.out.1, flat_snoc, List.append_assoc]
          unfold strE
          rw [HBS.out.1]
        have HI := Lib.hid (show MkI w N0 (N0 + 1) N1 hi 0 0 (d ++ ((List.range (s + 1)).map (strE l)).flatten) wr from by rw [← hfin]; exact MkI.re ⟨_, e1, e2, e3, e4, e5⟩ (fun g _ => .inr (Nat.zero_le _)))
        have HJF := Lib.hid (show MkJ w N0 (N0 + 1) N1 d l lo hi (s + 1) wr from ⟨⟨HFA.out.2.1, HFA.out.2.2⟩, hhi, HI.out⟩)
        clear e1 e2 e3 e4 e5 hLr hfin hFr hFP hKO hhi hhP
        gi_wp2
        exact ⟨HKO.out, HFR.out, HJF.out⟩
  case done =>
    rintro D lo hi A hD ⟨⟨hlh, hlo2⟩, hhA, v, e1, e2, e3, e4, e5⟩ hK
    have hfin : d ++ ((List.range (nstr l.length)).map (strE l)).flatten = mkSd l := by unfold mkSd; rw [HDL.out.1]
    rw [hfin] at e3
    obtain ⟨pv, cv, hv, -⟩ := e3.shape
    subst hv
    have HO := Lib.hid e3
    have HB := Lib.hid e4
    have HOW := Lib.hid e5
    rw [hN1] at hD
    have HDD := Lib.hid (And.intro hD (And.intro hlh hlo2))
    clear e3 e4 hfin e2 e5 hD
    gi_wp2
    refine ⟨by simp, .inl ⟨_, _, rfl, run_takeDeferred hK, ?_⟩⟩
    have hDl := (Array.getElem?_eq_some_iff.1 hK).1
    refine ⟨.tuple #[.slice pv (mkSd l).length cv, .int .i64 0], ?_, .slice pv (mkSd l).length cv, rfl, ?_, ?_⟩
    · simp [results, Tryz.f82, go_sem]
    · rw [HN.out]; exact HO.out.keep (fun g hg => World.putObj_heap_other (by have := HOW.out g hg; have := HDD.out; omega))
    · rw [HN.out]; exact HB.out.trans (below_putP _ (by have := HDD.out; omega) hDl)
end Go.Proofs.YtnmopjefjpifoaaGreatDoor
/- What the walk of Mend carries. -/
set_option maxRecDepth 100000
namespace Go.Proofs.YtnmopjefjpifoaaGreatDoor
open Go Go.RowKit
attribute [-go_sem] Sha.exec_store

section
variable {w0 w u : World} {b : Nat} {r : Rc} {ds : List (List (BitVec 8))} {C sz : Nat} {q2 : Option Addr} {n2 cap2 G ni : Nat} {sd : List (BitVec 8)} {iv : Nat → Bool} {ct : Nat → BitVec 8}
theorem MenIn.keep (h : MenIn w0 w b r ds C sz q2 n2 cap2 G ni sd iv ct) (k1 : u.heap[b]? = w.heap[b]?) (k2 : u.heap[C]? = w.heap[C]?) (k3 : u.heap[G]? = w.heap[G]?) (k : Below w0.heap.size w0 u) : MenIn w0 u b r ds C sz q2 n2 cap2 G ni sd iv ct :=
  { h with bel := k, mdr := Row.of_block h.mdr k1, flg := h.flg.of_block k3, row := h.row.of_block k2 }
end
/-- The mender, what is repaired (R, in the box by), of s stripes; lo .. hi: the iterator's memory. -/
structure MnI (w0 : World) (b : Nat) (r : Rc) (ds : List (List (BitVec 8))) (C : Nat) (q2 : Option Addr) (n2 cap2 G ni : Nat) (sd : List (BitVec 8)) (iv : Nat → Bool) (l : List (BitVec 8)) (N0 bx yx N1 hi s : Nat) (ct : Nat → BitVec 8) (R : List Nat) (v : Value) (A : World) : Prop where
  men : MenIn w0 A b r ds C l.length q2 n2 cap2 G ni sd iv ct
  all : MdAll s l ds ct R
  box : A.cell? ⟨bx, 0, none⟩ = some (.pointer (some ⟨b, 0, none⟩))
  rep : A.cell? ⟨yx, 0, none⟩ = some v
  frz : A.frozen? ⟨yx, 0, none⟩ = false
  slc : ∃ q n c, v = .slice q n c
  own : OwnIV A N0 v R
  far : ∀ g, v.ownBlock = some g → g < N1 ∨ hi ≤ g
  lts : b < N0 ∧ C < N0 ∧ G < N0 ∧ bx < N0 ∧ yx < N0 ∧ w0.heap.size ≤ N0
section
variable {w0 : World} {b : Nat} {r : Rc} {ds : List (List (BitVec 8))} {C : Nat} {q2 : Option Addr} {n2 cap2 G ni : Nat} {sd : List (BitVec 8)} {iv : Nat → Bool} {l : List (BitVec 8)} {N0 bx yx N1 hi s : Nat} {ct : Nat → BitVec 8} {R : List Nat} {v : Value} {A A' : World}
theorem MnI.of_below (h : MnI w0 b r ds C q2 n2 cap2 G ni sd iv l N0 bx yx N1 hi s ct R v A) (k : Below A.heap.size A A') : MnI w0 b r ds C q2 n2 cap2 G ni sd iv l N0 bx yx N1 hi s ct R v A' :=
  { h with men := h.men.of_below k, box := by rw [k.cell (by exact World.block_lt_of_cell? A _ h.box)]; exact h.box, rep := by rw [k.cell (by exact World.block_lt_of_cell? A _ h.rep)]; exact h.rep, frz := by rw [k.frozen (by exact World.block_lt_of_cell? A _ h.rep)]; exact h.frz, own := h.own.of_below k }
theorem MnI.drewN (h : MnI w0 b r ds C q2 n2 cap2 G ni sd iv l N0 bx yx N1 hi s ct R v A) (k : Nat) : MnI w0 b r ds C q2 n2 cap2 G ni sd iv l N0 bx yx N1 hi s ct R v (A.drewN k) := h.of_below ((show Dr A (A.drewN k) from ⟨k, rfl⟩).below _)
theorem MnI.put (h : MnI w0 b r ds C q2 n2 cap2 G ni sd iv l N0 bx yx N1 hi s ct R v A) {k : Nat} (o : Obj) (hk : N1 ≤ k) (hk2 : k < hi) (hN : N0 ≤ N1) (hlt : k < A.heap.size) : MnI w0 b r ds C q2 n2 cap2 G ni sd iv l N0 bx yx N1 hi s ct R v (A.putObj k o) := by
  have hB := below_putP (N := N0) (A := A) o (show N0 ≤ k by omega) hlt
  have hg := grownBy_putObj' A k o
  obtain ⟨l1, l2, l3, l4, l5, l6⟩ := h.lts
  exact { h with men := h.men.keep (hB.block _ l1) (hB.block _ l2) (hB.block _ l3) (h.men.bel.trans (hB.mono l6)), box := by rw [hB.cell (by exact l4)]; exact h.box, rep := by rw [hB.cell (by exact l5)]; exact h.rep, frz := by rw [hB.frozen (by exact l5)]; exact h.frz, own := h.own.keep (fun g e => hg.block g (h.own.lt g e).2 (fun e2 => by have := h.far g e; injection e2 with e2; omega)) }
/-- The iterator's memory may be told anew. -/
theorem MnI.re (h : MnI w0 b r ds C q2 n2 cap2 G ni sd iv l N0 bx yx N1 hi s ct R v A) {hi' N2 : Nat} (k : ∀ g, g < A.heap.size → g < N2 ∨ hi' ≤ g) : MnI w0 b r ds C q2 n2 cap2 G ni sd iv l N0 bx yx N2 hi' s ct R v A :=
  { h with far := fun g e => k g (h.own.lt g e).2 }
end
end Go.Proofs.YtnmopjefjpifoaaGreatDoor
/- (*sidecar.mender).mend. -/
set_option maxRecDepth 100000
namespace Go.Proofs.YtnmopjefjpifoaaGreatDoor
open Go Go.RowKit
attribute [-go_sem] Sha.exec_store

attribute [local go_sem ↓] exec_bs exec_slice
attribute [local go_sem] bsR bs1I
theorem badL_get (k : Nat) (hb : Nat → Bool) (t : Nat) (h : t < (badL k hb).length) : (badL k hb).getD t 0 < k := by
  have hm : (badL k hb).getD t 0 ∈ badL k hb := by
    rw [List.getD_eq_getElem?_getD, List.getElem?_eq_getElem h]
    exact List.getElem_mem h
  have := (List.mem_filter.1 hm).1
  simpa using this
theorem badL_nodup (k : Nat) (hb : Nat → Bool) : (badL k hb).Nodup := List.Pairwise.filter _ List.nodup_range
theorem take_succ_getD (l : List Nat) (t : Nat) (h : t < l.length) : l.take (t + 1) = l.take t ++ [l.getD t 0] := by
  rw [List.take_add_one, List.getElem?_eq_getElem h, List.getD_eq_getElem?_getD, List.getElem?_eq_getElem h]
  rfl
theorem not_mem_take {l : List Nat} (hn : l.Nodup) (t : Nat) (h : t < l.length) : l.getD t 0 ∉ l.take t := by
  have h1 : (l.take (t + 1)).Nodup := hn.sublist (List.take_sublist _ _)
  rw [take_succ_getD l t h, List.nodup_append] at h1
  exact fun hm => h1.2.2 _ hm _ (by simp) rfl
theorem Mp.of_kp12 {w u : World} {C N G n k m : Nat} {D : Nat → Nat} {a : Mx} (h : Mp w N G n k m D a) (g : Kp C w u) (hC : C < N) : Mp u N G n k m D a :=
  ⟨h.hds.of_kp g (by have := h.loG; omega), fun i hi => (h.row i hi).of_kp g (by have := h.lo i hi; omega), h.inj, h.ne, h.lo, h.loG⟩
theorem Kp.grown12 {x y z : World} {b : Nat} {own : Option Nat} (h : Kp b x y) (g : y.grownBy z own) (ho : ∀ k, own = some k → x.heap.size ≤ k) : Kp b x z :=
  ⟨g.os.trans h.os, g.tape.trans h.tape, g.output.trans h.output, Nat.le_trans h.size g.size, fun k hk hb => (g.block k (Nat.lt_of_lt_of_le hk h.size) (fun e => by have := ho k e.symm; omega)).trans (h.block k hk hb)⟩
/-- What mend returns. -/
def MndR (w0 w : World) (b : Nat) (r : Rc) (ds : List (List (BitVec 8))) (C sz : Nat) (q2 : Option Addr) (n2 cap2 G ni : Nat) (sd : List (BitVec 8)) (iv : Nat → Bool) (ct : Nat → BitVec 8) (ff k : Nat) (hb : Nat → Bool) (len : Nat → Nat) (e : Ending) (w' : World) : Prop :=
  ∃ v R ct' bl, e = .returned v ∧ OwnIV w' w.heap.size v R ∧ Kp C w w' ∧ MenIn w0 w' b r ds C sz q2 n2 cap2 G ni sd iv ct' ∧ MdOk ff len ds ct ct' bl R ∧ (bl = [] ∨ bl = badL k hb)
set_option maxRecDepth 100000 in
set_option maxHeartbeats 8000000 in
theorem mend12_any (w0 w : World) (b : Nat) (r : Rc) (ds : List (List (BitVec 8))) (C sz : Nat) (q2 : Option Addr) (n2 cap2 G ni : Nat) (sd : List (BitVec 8)) (iv : Nat → Bool) (ct : Nat → BitVec 8) (ff k cap : Nat) (bs : List (List (BitVec 8))) (p : Option Addr)
    (hM : MenIn w0 w b r ds C sz q2 n2 cap2 G ni sd iv ct) (hL : ∀ u, Kp C w u → Lay u p bs) (hk : bs.length = k) (hk1 : 1 ≤ k) (hk4 : k ≤ 4) (hbl : ∀ i, i < bs.length → 1 ≤ (bs.getD i []).length ∧ (bs.getD i []).length ≤ 256 ∧ 256 * (ff + i) + (bs.getD i []).length ≤ sz)
    (hff : ff + k ≤ ds.length) (hni : ff / 4 * 2 + 2 ≤ ni) :
    Calls Tryz.prog 86 #[.pointer (some ⟨b, 0, none⟩), .int .i64 (ff : Int), .slice p k cap] w (MndR w0 w b r ds C sz q2 n2 cap2 G ni sd iv ct ff k (fun i => deq (digL (bs.getD i [])) (ds.getD (ff + i) [])) (fun i => (bs.getD i []).length)) := by
  have HDE := Lib.hid (decode12_any b r ds _ q2 n2 cap2 G ni ff k cap sd iv bs p w hM.mdr hM.dgw hM.side hM.few (hL w (Kp.refl _ _)) hk hk1 hk4 (fun i hi => (hbl i hi).2.1) hff hni hM.ni2 hM.tbw)
  obtain ⟨hb, hhb⟩ : ∃ h : Nat → Bool, (fun i => deq (digL (bs.getD i [])) (ds.getD (ff + i) [])) = h := ⟨_, rfl⟩
  obtain ⟨len, hlen⟩ : ∃ h : Nat → Nat, (fun i => (bs.getD i []).length) = h := ⟨_, rfl⟩
  rw [hhb] at HDE ⊢
  rw [hlen]
  have HLN := Lib.hid (show (∀ i, len i ≤ 256) ∧ ∀ i, i < k → 1 ≤ len i ∧ 256 * (ff + i) + len i ≤ sz from ⟨fun i => by
    rw [← congrFun hlen i]
    by_cases hi : i < bs.length
    · exact (hbl i hi).2.1
    · simp [List.getD_eq_getElem?_getD, List.getElem?_eq_none (show bs.length ≤ i by omega)], fun i hi => by
    rw [← congrFun hlen i]
    have := hbl i (by omega)
    exact ⟨this.1, this.2.2⟩⟩)
  have HHD := Lib.hid (show ∀ i, i < k → ∃ c o, p = some ⟨c, o, none⟩ ∧ ∀ u, Kp C w u → ∃ q d, u.cell? ⟨c, o + i, none⟩ = some (.slice q (len i) d) from fun i hi => by
    obtain ⟨c, o, q, d, e, -⟩ := hL w (Kp.refl _ _) i (by omega)
    refine ⟨c, o, e, fun u hu => ?_⟩
    obtain ⟨c', o', q', d', e', hc', -⟩ := hL u hu i (by omega)
    rw [e] at e'
    injection e' with e'
    injection e' with e1 e2
    subst e1 e2
    rw [← congrFun hlen i]
    exact ⟨q', d', hc'⟩)
  have HM := Lib.hid hM
  have HFF := Lib.hid (And.intro hff hM.few)
  have HCW := Lib.hid (show C < w.heap.size from hM.row.lt)
  clear hM hL hbl hff hni hhb hlen hk
  go_enter Tryz.func86, Tryz.ntmps86
  go_wp2_with fail
  refine HDE.out.mono ?_
  rintro e w1 ⟨dv, bv, bl, rfl, hO, hB, hcase⟩
  obtain ⟨qb, cb, rfl, hcell⟩ := hO.cells
  have HK1 := Lib.hid (show Kp C w w1 from ⟨hB.os, hB.tape, hB.output, hB.size, fun g hg _ => hB.block g hg⟩)
  have HM1 := Lib.hid (HM.out.of_below hB)
  have HB1 := Lib.hid hB
  have HCA := Lib.hid hcase
  have HMD := Lib.hid (show MdOk ff len ds ct ct (bl.take 0) [] from MdOk.start _ _ _ _)
  have HCL := Lib.hid (show ∀ j, j < bl.length → ∃ g, qb = some ⟨g, 0, none⟩ ∧ ∀ u, Kp C w1 u → u.cell? ⟨g, j, none⟩ = some (.int .i64 ((bl.getD j 0 : Nat) : Int)) from fun j hj => by
    obtain ⟨g, e, hc⟩ := hcell j hj
    refine ⟨g, e, fun u hu => ?_⟩
    have := (hO.lt g (by rw [e]; rfl)).1
    have := HCW.out
    rw [hu.cell (by exact World.block_lt_of_cell? _ _ hc) (by show g ≠ C; omega)]
    exact hc)
  have HS1 := Lib.hid (show C < w1.heap.size ∧ w.heap.size ≤ w1.heap.size from ⟨Nat.lt_of_lt_of_le HCW.out hB.size, hB.size⟩)
  obtain ⟨nb, hnb⟩ : ∃ x, bl.length = x := ⟨_, rfl⟩
  rw [hnb]
  have HNB := Lib.hid hnb
  have HNL := Lib.hid (show nb ≤ k from by rw [← hnb]; rcases hcase with h | ⟨h, -⟩ <;> rw [h]; exact Nat.zero_le _; exact badL_len _ _)
  have hnb4 : nb ≤ 4 := Nat.le_trans HNL.out hk4
  clear hO hB hcell HDE hcase hnb
  go_wp2
  go_loopw [22, 9] (fun fi fr wr => ∃ (t nr : Nat) (R : List Nat) (ct' : Nat → BitVec 8) (qr : Option Addr) (cr : Nat), t ≤ nb ∧ fi = .int .i64 (t : Int) ∧ fr = .slice qr nr cr ∧ nr = R.length ∧ nr ≤ t ∧ OwnIV wr w1.heap.size (.slice qr nr cr) R ∧ Kp C w1 wr ∧ Row wr C 5 sz (fun j => B (ct' j)) ∧ MdOk ff len ds ct ct' (bl.take t) R) (fun fi _ _ => nb - (intOf fi).toNat)
  case atStart => exact ⟨0, 0, [], ct, none, 0, Nat.zero_le _, rfl, rfl, rfl, Nat.le_refl _, OwnIV.nil _ _, Kp.refl _ _, HM1.out.row, HMD.out⟩
  case round =>
    obtain ⟨t, nr, R, ct', qr, cr, ht, rfl, rfl, hnr, hnt, hO, hK, hR, hMd⟩ := hrel
    have HO := Lib.hid hO
    have HK := Lib.hid hK
    have HR := Lib.hid hR
    have HMd := Lib.hid hMd
    have HNR := Lib.hid (And.intro hnr hnt)
    clear hO hK hR hMd hnr hnt
    by_cases htn : t < nb
    · rcases HCA.out with h0 | ⟨hbe, G5, N5, D, Y, rfl, hM5, hN5⟩
      · exfalso
        have := HNB.out
        rw [h0] at this
        simp at this
        omega
      · have z3 : (t : Int) < (nb : Int) := by omega
        have z4 : decide ((t : Int) < (nb : Int)) = true := decide_eq_true z3
        have z5 : (0 : Int) ≤ (t : Int) := by omega
        have htl : t < bl.length := by rw [HNB.out]; exact htn
        obtain ⟨gb, rfl, hgb⟩ := HCL.out t htl
        have c1 := hgb _ HK.out
        have hik : bl.getD t 0 < k := by rw [hbe] at htl ⊢; exact badL_get k hb t htl
        have hnm : bl.getD t 0 ∉ bl.take t := not_mem_take (by rw [hbe]; exact badL_nodup k hb) t htl
        have htk := take_succ_getD bl t htl
        obtain ⟨i, hi⟩ : ∃ i, bl.getD t 0 = i := ⟨_, rfl⟩
        rw [hi] at c1 hik hnm htk
        obtain ⟨cp, op, rfl, hcp⟩ := HHD.out i hik
        obtain ⟨qh, dh, c3⟩ := hcp wr (HK1.out.trans HK.out)
        have hMw := hM5.of_kp12 HK.out (by have := HCW.out; omega)
        have c2 := hMw.cellH i (by omega) (by omega)
        have hsl := hMw.sl i (by omega)
        obtain ⟨hl1, hl2⟩ := HLN.out.2 i hik
        have hl3 := HLN.out.1 i
        have HLE := Lib.hid HLN.out.1
        obtain ⟨li, hli⟩ : ∃ x, len i = x := ⟨_, rfl⟩
        rw [hli] at c3 hl1 hl2 hl3
        obtain ⟨di, hdi⟩ : ∃ x, D i = x := ⟨_, rfl⟩
        rw [hdi] at c2 hsl
        obtain ⟨bk, hbk⟩ : ∃ y, (rowL 256 Y i).take li = y := ⟨_, rfl⟩
        have hbkl : bk.length = li := by rw [← hbk, List.length_take, rowL_length]; omega
        have hsb := hsl.take li
        rw [hbk] at hsb
        obtain ⟨x, hx⟩ : ∃ x, ff + i = x := ⟨_, rfl⟩
        have hdr : Below wr.heap.size wr wr.drew := (Below.refl _ _).drew
        have hMI := (HM1.out.of_kp HK.out HR.out).of_below hdr
        have hsb := hsb.of_below hdr
        have HHA := Lib.hid (has12_any b r ds _ _ _ x bk (some ⟨di, 0, none⟩) li 256 wr.drew hMI.mdr hMI.dgw (by have := HFF.out; omega) hMI.few hbkl hsb (by omega) hMI.tbw)
        have HMI := Lib.hid hMI
        have HSB := Lib.hid hsb
        have HBK := Lib.hid hbkl
        have HX := Lib.hid hx
        have HLI := Lib.hid (And.intro hli (And.intro hl1 (And.intro hl2 hl3)))
        have HNM := Lib.hid (And.intro hnm htk)
        have z6 : (i : Int) < (k : Int) + 2 := by omega
        have z7 : (i : Int) < (k : Int) := by omega
        have z8 : (0 : Int) ≤ (i : Int) := by omega
        have z9 : (li : Int) ≤ 256 := by omega
        have z10 : li ≤ 256 := hl3
        have hw : IntKind.i64.wrap ((ff : Int) + (i : Int)) = (x : Int) := by rw [IntKind.wrap_i64]; have := HFF.out; omega
        clear hgb hik hnm htk hi hcp hMw hsl hl1 hl2 hl3 hli hdi hbk hbkl hsb hx hMI htl hbe
        have s0 : ∀ u, (slT 53 (.slice (some ⟨di, 0, none⟩) 256 256) none (some (.int .i64 (li : Int))) none).run Tryz.prog u = .ok (.value (.slice (some ⟨di, 0, none⟩) li 256)) u := fun u => sl_hi (some ⟨di, 0, none⟩) 256 256 li u z10
        go_wp2
        refine wp_region_noPanic ?_
        refine wp_region_held_drew (S := (fun u : World => u.cell? ⟨G5, i, none⟩ = some (.slice (some ⟨di, 0, none⟩) 256 256) ∧ u.cell? ⟨cp, op + i, none⟩ = some (.slice qh li dh))) (by kernel_rfl) (⟨c2, c3⟩) (fun hHeld => ?_)
        refine wpAnyH_take (i := 0) (v := ?_) (by simp only [List.getElem?_toArray, List.getElem?_cons_succ, List.getElem?_cons_zero]; exact rfl) (by kernel_rfl) (by kernel_rfl) (by kernel_rfl) (fun _ _ _ h => h) (Or.inl ⟨by rfl, ?_⟩) (by assumption) ?_
        rotate_left 1
        · (intro w hSw; (try dsimp only at hSw); go_simp; try with_reducible rfl)
        try simp only [Act.put, List.setIfInBounds_toArray, List.set_cons_zero, List.set_cons_succ]
        refine wpAnyH_take (i := 1) (v := ?_) (by simp only [List.getElem?_toArray, List.getElem?_cons_succ, List.getElem?_cons_zero]; exact rfl) (by kernel_rfl) (by kernel_rfl) (by kernel_rfl) (fun _ _ _ h => h) (Or.inl ⟨by rfl, ?_⟩) (by assumption) ?_
        rotate_left 1
        · (intro w hSw; (try dsimp only at hSw); go_simp; try with_reducible rfl)
        try simp only [Act.put, List.setIfInBounds_toArray, List.set_cons_zero, List.set_cons_succ]
        refine wpAnyH_take (i := 2) (v := ?_) (by simp only [List.getElem?_toArray, List.getElem?_cons_succ, List.getElem?_cons_zero]; exact rfl) (by kernel_rfl) (by kernel_rfl) (by kernel_rfl) (fun _ _ _ h => h) (Or.inl ⟨by rfl, ?_⟩) (by assumption) ?_
        rotate_left 1
        · (intro w hSw; (try dsimp only at hSw); go_simp; try with_reducible rfl)
        try simp only [Act.put, List.setIfInBounds_toArray, List.set_cons_zero, List.set_cons_succ]
        refine wpAnyH_take (i := 3) (v := ?_) (by simp only [List.getElem?_toArray, List.getElem?_cons_succ, List.getElem?_cons_zero]; exact rfl) (by kernel_rfl) (by kernel_rfl) (by kernel_rfl) (fun _ _ _ h => h) (Or.inl ⟨by rfl, ?_⟩) (by assumption) ?_
        rotate_left 1
        · (intro w hSw; (try dsimp only at hSw); go_simp; try with_reducible rfl)
        try simp only [Act.put, List.setIfInBounds_toArray, List.set_cons_zero, List.set_cons_succ]
        refine wpAnyH_take (i := 4) (v := ?_) (by simp only [List.getElem?_toArray, List.getElem?_cons_succ, List.getElem?_cons_zero]; exact rfl) (by kernel_rfl) (by kernel_rfl) (by kernel_rfl) (fun _ _ _ h => h) (Or.inl ⟨by rfl, ?_⟩) (by assumption) ?_
        rotate_left 1
        · (intro w hSw; (try dsimp only at hSw); go_simp; try with_reducible rfl)
        try simp only [Act.put, List.setIfInBounds_toArray, List.set_cons_zero, List.set_cons_succ]
        refine wpAnyH_take (i := 5) (v := ?_) (by simp only [List.getElem?_toArray, List.getElem?_cons_succ, List.getElem?_cons_zero]; exact rfl) (by kernel_rfl) (by kernel_rfl) (by kernel_rfl) (fun _ _ _ h => h) (Or.inl ⟨by rfl, ?_⟩) (by assumption) ?_
        rotate_left 1
        · (intro w hSw; (try dsimp only at hSw); go_simp; try with_reducible rfl)
        try simp only [Act.put, List.setIfInBounds_toArray, List.set_cons_zero, List.set_cons_succ]
        refine wpAnyH_take (i := 6) (v := ?_) (by simp only [List.getElem?_toArray, List.getElem?_cons_succ, List.getElem?_cons_zero]; exact rfl) (by kernel_rfl) (by kernel_rfl) (by kernel_rfl) (fun _ _ _ h => h) (Or.inl ⟨by rfl, ?_⟩) (by assumption) ?_
        rotate_left 1
        · (intro w hSw; (try dsimp only at hSw); go_simp; try with_reducible rfl)
        try simp only [Act.put, List.setIfInBounds_toArray, List.set_cons_zero, List.set_cons_succ]
        refine wpAnyH_take (i := 7) (v := ?_) (by simp only [List.getElem?_toArray, List.getElem?_cons_succ, List.getElem?_cons_zero]; exact rfl) (by kernel_rfl) (by kernel_rfl) (by kernel_rfl) (fun _ _ _ h => h) (Or.inl ⟨by rfl, ?_⟩) (by assumption) ?_
        rotate_left 1
        · (intro w hSw; (try dsimp only at hSw); go_simp; try with_reducible rfl)
        try simp only [Act.put, List.setIfInBounds_toArray, List.set_cons_zero, List.set_cons_succ]
        refine wpAnyH_take (i := 8) (v := ?_) (by simp only [List.getElem?_toArray, List.getElem?_cons_succ, List.getElem?_cons_zero]; exact rfl) (by kernel_rfl) (by kernel_rfl) (by kernel_rfl) (fun _ _ _ h => h) (Or.inl ⟨by rfl, ?_⟩) (by assumption) ?_
        rotate_left 1
        · (intro w hSw; (try dsimp only at hSw); go_simp; try with_reducible rfl)
        try simp only [Act.put, List.setIfInBounds_toArray, List.set_cons_zero, List.set_cons_succ]
        refine wpAnyH_take (i := 9) (v := ?_) (by simp only [List.getElem?_toArray, List.getElem?_cons_succ, List.getElem?_cons_zero]; exact rfl) (by kernel_rfl) (by kernel_rfl) (by kernel_rfl) (fun _ _ _ h => h) (Or.inl ⟨by rfl, ?_⟩) (by assumption) ?_
        rotate_left 1
        · (intro w hSw; (try dsimp only at hSw); go_simp; try with_reducible rfl)
        try simp only [Act.put, List.setIfInBounds_toArray, List.set_cons_zero, List.set_cons_succ]
        refine wpAnyH_take (i := 10) (v := ?_) (by simp only [List.getElem?_toArray, List.getElem?_cons_succ, List.getElem?_cons_zero]; exact rfl) (by kernel_rfl) (by kernel_rfl) (by kernel_rfl) (fun _ _ _ h => h) (Or.inl ⟨by rfl, ?_⟩) (by assumption) ?_
        rotate_left 1
        · (intro w hSw; (try dsimp only at hSw); go_simp; try with_reducible rfl)
        try simp only [Act.put, List.setIfInBounds_toArray, List.set_cons_zero, List.set_cons_succ]
        refine wpAnyH_done (by kernel_rfl) ?_ _
        refine NoPanic.normal ?_
        clear hHeld
        go_wp2_with fail
        refine HHA.out.mono ?_
        rintro e w5 ⟨rfl, hB5⟩
        have hB5' : Below wr.heap.size wr w5 := (show Below wr.heap.size wr wr.drew from (Below.refl _ _).drew).trans hB5
        have HK5 := Lib.hid (HK.out.of_below hB5')
        have HR5 := Lib.hid (HR.out.of_below hB5')
        have HO5 := Lib.hid (HO.out.of_below hB5')
        have HSB5 := Lib.hid (HSB.out.of_below hB5)
        have HMI5 := Lib.hid (HMI.out.of_below hB5)
        have HTN := Lib.hid htn
        clear hB5 hB5' HHA c1 c2 c3 s0
        rcases hdq : deq (digL bk) (ds.getD x []) with _ | _
        · clear hdq
          go_wp2
          go_roundw
          case rel => exact ⟨t + 1, nr, R, ct', qr, cr, by have := HTN.out; omega, by go_num, rfl, HNR.out.1, by have := HNR.out.2; omega, HO5.out, HK5.out, HR5.out, by rw [HNM.out.2]; exact HMd.out.skip i⟩
          case measure => have := HTN.out; simp [intOf]; omega
        · have HDQ := Lib.hid hdq
          have h54 := HMI5.out.mdr.content
          obtain ⟨y, hy⟩ : ∃ y, 256 * x = y := ⟨_, rfl⟩
          have hw2 : IntKind.i64.wrap ((x : Int) * 256) = (y : Int) := by rw [IntKind.wrap_i64]; have := HX.out; have := HFF.out; omega
          have hys : y + li ≤ sz := by have := HLI.out; have := HX.out; omega
          have hli1 : 1 ≤ li := HLI.out.2.1
          have s1 : ∀ u, (slT 53 (.slice (some ⟨C, 0, none⟩) sz sz) (some (.int .i64 (y : Int))) none none).run Tryz.prog u = .ok (.value (.slice (some ⟨C, y, none⟩) (sz - y) (sz - y))) u := fun u => by
            have h := slb_lo (some ⟨C, 0, none⟩) sz sz y u (by omega)
            have e : cutA (some ⟨C, 0, none⟩) sz y = some ⟨C, y, none⟩ := by
              unfold cutA
              rw [if_neg (by omega)]
              show some (Addr.add _ y) = _
              rw [Addr.add_mid, Nat.zero_add]
            rw [e] at h
            exact h
          have HY := Lib.hid hy
          have HYS := Lib.hid (And.intro hys hli1)
          clear hdq hy hys hli1
          go_wp2_with (first | (refine wpl_copyO12 w5 rfl (.tmp 50) (.tmp 51) rfl C sz y (sz - y) (sz - y) ct' (some ⟨di, 0, none⟩) li 256 bk rfl rfl HR5.out HBK.out HSB5.out HYS.out.2 (by have := HYS.out.1; omega) (by have := HYS.out.1; omega) ?_; rintro w6 hR6 hK6; have HR6 := Lib.hid hR6; have HK6 := Lib.hid (HK5.out.trans hK6); have HO6 := Lib.hid (HO5.out.keep (fun g hg => hK6.block g (HO5.out.lt g hg).2 (by have := (HO5.out.lt g hg).1; have := HS1.out.1; omega))); have hb7 := below_newR w6 (.cells #[.int .i64 (x : Int)] 3); have hc7 : (w6.alloc (.cells #[.int .i64 (x : Int)] 3)).cell? ⟨w6.heap.size, 0, none⟩ = some (.int .i64 (x : Int)) := World.cell?_alloc_new _ _ _ _; have HO7 := Lib.hid (HO6.out.of_below hb7); have HK7 := Lib.hid (HK6.out.of_below hb7); have HR7 := Lib.hid (HR6.out.of_below hb7); clear hR6 hK6 hb7) | (refine wpl_pushI _ rfl (.tmp 53) (.tmp 57) rfl w1.heap.size (.slice qr nr cr) R rfl HO7.out ⟨w6.heap.size, 0, none⟩ rfl x hc7 nr HNR.out.1.symm (by have := HNR.out.2; have := HTN.out; have := HNL.out; omega) (Nat.le_trans HK6.out.size (by rw [World.size_alloc]; omega)) ?_; rintro g8 c8 w8 hO8 hg8 ho8; have HO8 := Lib.hid hO8; have HK8 := Lib.hid (HK7.out.grown12 hg8 (fun g hg => (HO7.out.lt g hg).1)); have HR8 := Lib.hid (HR7.out.of_block (hg8.block C HR7.out.lt (fun e => by have := (HO7.out.lt C e.symm).1; have := HS1.out.1; omega))); clear hO8 hg8 ho8))
          go_roundw
          case rel => exact ⟨t + 1, nr + 1, R ++ [x], put12 y bk ct', _, c8, by have := HTN.out; omega, by go_num, rfl, by rw [List.length_append, ← HNR.out.1]; rfl, by have := HNR.out.2; omega, HO8.out, HK8.out, HR8.out, by rw [HNM.out.2, ← HY.out, ← HX.out]; exact HMd.out.push i bk HNM.out.1 (by rw [HBK.out, HLI.out.1]) HLE.out (by rw [HX.out]; exact HDQ.out)⟩
          case measure => have := HTN.out; simp [intOf]; omega
    · have z3 : ¬ (t : Int) < (nb : Int) := by omega
      have z4 : decide ((t : Int) < (nb : Int)) = false := decide_eq_false z3
      have HTB := Lib.hid (show bl.take t = bl from List.take_of_length_le (by have := HNB.out; omega))
      go_wp2
      go_ret
      refine ⟨_, R, ct', bl, rfl, HO.out.lower HS1.out.2, HK1.out.trans HK.out, HM1.out.of_kp HK.out HR.out, by have h := HMd.out; rw [HTB.out] at h; exact h, HCA.out.imp id (fun h => h.1)⟩
end Go.Proofs.YtnmopjefjpifoaaGreatDoor
/- What stamps and versions records may have. -/
set_option maxRecDepth 100000
namespace Go.Proofs.YtnmopjefjpifoaaGreatDoor
open Go Go.RowKit
attribute [-go_sem] Sha.exec_store

attribute [local go_sem ↓] exec_boxA exec_loadA exec_indexA exec_allocA exec_storeA exec_buildA exec_eqlA exec_neqA exec_boxV exec_loadV exec_indexV exec_allocV exec_storeV exec_buildV exec_eqlV exec_neqV
attribute [local go_sem] boxA indexA storeNewA buildA eqlA neqA boxV indexV storeNewV buildV eqlV neqV

/-- A stamp. -/
def stV (s t c : Int) : Value := .agg #[.int .i64 s, .int .i64 t, .int .i64 c]
def okS (s t c : Int) : Bool := decide (0 ≤ s) && (decide (s ≤ 16384) && (decide (0 ≤ t) && decide (0 ≤ c)))
def okV (f : Nat → Int) : Bool := gdV f && !(veq f fun _ => 0)
set_option maxRecDepth 100000 in
set_option maxHeartbeats 2000000 in
theorem stamp_any (s t c : Int) (w : World) : Calls Tryz.prog 192 #[stV s t c] w fun e w' => e = .returned (.bool (okS s t c)) ∧ Below w.heap.size w w' := by
  unfold stV okS
  have HB := Lib.hid (show Below w.heap.size w (w.alloc (.cells #[.int .i64 s, .int .i64 t, .int .i64 c] 38)) from (Below.refl _ _).alloc (Nat.le_refl _) _)
  go_enter Tryz.func192, Tryz.ntmps192
  by_cases h1 : 0 ≤ s
  · have d1 : decide (0 ≤ s) = true := decide_eq_true h1
    by_cases h2 : s ≤ 16384
    · have d2 : decide (s ≤ 16384) = true := decide_eq_true h2
      by_cases h3 : 0 ≤ t
      · have d3 : decide (0 ≤ t) = true := decide_eq_true h3
        by_cases h4 : 0 ≤ c
        · have d4 : decide (0 ≤ c) = true := decide_eq_true h4
          go_wp2
          go_ret
          exact ⟨by simp [h1, h2, h3, h4], HB.out⟩
        · have d4 : decide (0 ≤ c) = false := decide_eq_false h4
          go_wp2
          go_ret
          exact ⟨by simp [h1, h2, h3, h4], HB.out⟩
      · have d3 : decide (0 ≤ t) = false := decide_eq_false h3
        go_wp2
        go_ret
        exact ⟨by simp [h1, h2, h3], HB.out⟩
    · have d2 : decide (s ≤ 16384) = false := decide_eq_false h2
      go_wp2
      go_ret
      exact ⟨by simp [h1, h2], HB.out⟩
  · have d1 : decide (0 ≤ s) = false := decide_eq_false h1
    go_wp2
    go_ret
    exact ⟨by simp [h1], HB.out⟩
set_option maxRecDepth 100000 in
set_option maxHeartbeats 2000000 in
theorem version_any (f : Nat → Int) (w : World) : Calls Tryz.prog 193 #[vcV f] w fun e w' => e = .returned (.bool (okV f)) ∧ Below w.heap.size w w' := by
  have HG := Lib.hid (fun u => good9_any f u)
  obtain ⟨W, hW⟩ : ∃ W, w.alloc (.cells (tab 16 (vf f)) 40) = W := ⟨_, rfl⟩
  have HR := Lib.hid (show Row W w.heap.size 40 16 (vf f) from by rw [← hW]; exact Row.new w 40 16 (vf f))
  have HB := Lib.hid (show Below w.heap.size w W from by rw [← hW]; exact (Below.refl _ _).alloc (Nat.le_refl _) _)
  have HS := Lib.hid (fun (u : World) (hu : Below W.heap.size W u) => (⟨loadVT vtV (VecAt.of_row (HR.out.of_below hu) (Nat.le_refl _)), hu⟩ : (ldT 40 (.pointer (some ⟨w.heap.size, 0, none⟩))).run Tryz.prog u = .ok (.value (vcV f)) u ∧ Below W.heap.size W u))
  obtain ⟨g, hg⟩ : ∃ g, gdV f = g := ⟨_, rfl⟩
  have HOK := Lib.hid (show okV f = (g && !(veq f fun _ => 0)) from by unfold okV; rw [hg])
  rw [hg] at HG
  clear hg
  have l1 := (HS.out W (Below.refl _ _)).1
  go_enter Tryz.func193, Tryz.ntmps193
  go_wp2_with fail
  clear l1 hW
  refine (HG.out _).mono ?_
  rintro e u ⟨rfl, hB⟩
  have l2 := (HS.out u hB).1
  have HB2 := Lib.hid (HB.out.trans (hB.mono HB.out.size))
  clear hB
  cases g with
  | false =>
    go_wp2
    go_ret
    exact ⟨by rw [HOK.out]; rfl, HB2.out⟩
  | true =>
    go_wp2
    go_ret
    exact ⟨by rw [HOK.out]; rfl, HB2.out⟩
attribute [irreducible] stV
end Go.Proofs.YtnmopjefjpifoaaGreatDoor
/- The reference of layer 7: signs, paths, slashes, beginnings. -/
set_option maxRecDepth 100000
namespace Go.Proofs.YtnmopjefjpifoaaGreatDoor
open Go Go.RowKit
attribute [-go_sem] Sha.exec_store

def signN (c : Nat) : Bool := allS.any fun x => x.toNat == c
theorem signB_eq (c : UInt8) : signB c = signN c.toNat := by
  unfold signB signN
  rw [List.contains_eq_any_beq]
  congr 1
  funext x
  by_cases h : c = x
  · subst h; simp
  · have : ¬ x.toNat = c.toNat := fun e => h (UInt8.toNat_inj.1 e.symm)
    rw [beq_eq_false_iff_ne.2 h]
    simp [this]
theorem i64s (x : Nat) (h : x < 9000000000000000000) : IntKind.i64.wrap ((x : Int) + 1) = (x : Int) + 1 := by rw [IntKind.wrap_i64]; omega
set_option maxRecDepth 100000 in
set_option maxHeartbeats 1000000 in
theorem refSign_any (c : Nat) (hc : c < 256) (w : World) : Calls Tryz.prog 191 #[.int .u8 (c : Int)] w fun e w' => e = .returned (.bool (signN c)) ∧ w = w' := by
  obtain ⟨A, hA⟩ : ∃ A, A = allS := ⟨_, rfl⟩
  have hlen : A.length = 67 := by rw [hA]; rfl
  have HA := Lib.hid hA
  have hlit : (⟨(List.append [97, 98, 99, 100, 101, 102, 103, 104, 105, 106, 107, 108, 109, 110, 111, 112, 113, 114, 115, 116, 117, 118, 119, 120, 121, 122, 65, 66, 67, 68, 69, 70, 71] [72, 73, 74, 75, 76, 77, 78, 79, 80, 81, 82, 83, 84, 85, 86, 87, 88, 89, 90, 48, 49, 50, 51, 52, 53, 54, 55, 56, 57, 45, 95, 46, 126, 43]).toArray⟩ : ByteArray) = mkS A := by rw [hA]; exact mkS_lit allS
  clear hA
  go_enter Tryz.func191, Tryz.ntmps191
  rw [hlit]
  clear hlit
  go_wp2
  go_loopw [4] (fun vi wr => ∃ i : Nat, i ≤ 67 ∧ vi = .int .i64 i ∧ (∀ j, j < i → chr A j ≠ c) ∧ w = wr) (fun vi _ => 67 - (intOf vi).toNat)
  case atStart => exact ⟨0, by decide, rfl, fun j h => absurd h (by omega), rfl⟩
  case round =>
    obtain ⟨i, hi, rfl, hn, rfl⟩ := hrel
    by_cases hlt : i < 67
    · have hl : i < A.length := by omega
      have z1 : (i : Int) < 67 := by omega
      have z2 : decide ((i : Int) < 67) = true := decide_eq_true z1
      have hw := i64s i (by omega)
      obtain ⟨x, hx⟩ : ∃ x, chr A i = x := ⟨_, rfl⟩
      by_cases hxc : x = c
      · subst hxc
        have hz : ((x : Int) == (x : Int)) = true := by simp
        have HS := Lib.hid (show signN x = true from by
          unfold signN
          rw [← HA.out, List.any_eq_true]
          exact ⟨A[i], List.getElem_mem hl, by rw [← chr_eq hl, hx]; simp⟩)
        clear hn
        go_wp2
        go_ret
        exact ⟨by rw [HS.out]; rfl, rfl⟩
      · have hz : ((x : Int) == (c : Int)) = false := by simp; omega
        have HN := Lib.hid (show ∀ j, j < i + 1 → chr A j ≠ c from fun j h => by
          rcases Nat.lt_succ_iff_lt_or_eq.1 h with h | h
          · exact hn j h
          · rw [h, hx]; exact hxc)
        clear hn
        go_wp2
        exact ⟨⟨i + 1, by omega, by go_num, HN.out, trivial⟩, by simp [intOf]; omega⟩
    · obtain rfl : i = 67 := by omega
      have HS := Lib.hid (show signN c = false from by
        unfold signN
        rw [← HA.out, List.any_eq_false]
        intro x hx
        obtain ⟨j, hj, rfl⟩ := List.getElem_of_mem hx
        have := hn j (by omega)
        rw [chr_eq hj] at this
        simpa using this)
      clear hn
      go_wp2
      go_ret
      exact ⟨by rw [HS.out]; rfl, rfl⟩
end Go.Proofs.YtnmopjefjpifoaaGreatDoor
/- The reference's Good. -/
set_option maxRecDepth 100000
namespace Go.Proofs.YtnmopjefjpifoaaGreatDoor
open Go Go.RowKit
attribute [-go_sem] Sha.exec_store

/-- What is known of a path when the bytes from place f to place i have been looked at, and all names ahead of f. -/
structure Gd7 (l : S8) (i f : Nat) : Prop where
  fi : f ≤ i
  il : i ≤ l.length
  all : allN l = allN (l.drop f)
  seg : ∀ j, f ≤ j → j < i → chr l j ≠ 47 ∧ signN (chr l j) = true
theorem Gd7.zero (l : S8) : Gd7 l 0 0 := ⟨Nat.le_refl _, Nat.zero_le _, by rw [List.drop_zero], fun j _ h => absurd h (by omega)⟩
section
variable {l : S8} {i f : Nat}
theorem mem_seg {x : UInt8} (hx : x ∈ (l.drop f).take (i - f)) (hi : i ≤ l.length) : ∃ j, f ≤ j ∧ j < i ∧ chr l j = x.toNat := by
  obtain ⟨k, hk, rfl⟩ := List.getElem_of_mem hx
  rw [List.length_take, List.length_drop] at hk
  refine ⟨f + k, by omega, by omega, ?_⟩
  rw [chr_eq (by omega)]
  simp [List.getElem_take, List.getElem_drop]
theorem Gd7.noSlash (h : Gd7 l i f) : ∀ c ∈ (l.drop f).take (i - f), c ≠ 47 := fun c hc e => by
  obtain ⟨j, h1, h2, h3⟩ := mem_seg hc h.il
  exact (h.seg j h1 h2).1 (by rw [h3, e]; rfl)
theorem Gd7.signs (h : Gd7 l i f) : ((l.drop f).take (i - f)).all signB = true := by
  rw [List.all_eq_true]
  intro c hc
  obtain ⟨j, h1, h2, h3⟩ := mem_seg hc h.il
  rw [signB_eq, ← h3]
  exact (h.seg j h1 h2).2
/-- A name of signs is told by its looks. -/
theorem okN_signs {n : S8} (h : n.all signB = true) : okN n = (n != [] && n != [46] && n != [46, 46]) := by unfold okN; rw [h, Bool.and_true]
theorem Gd7.step (h : Gd7 l i f) (hi : i < l.length) (h47 : chr l i ≠ 47) (hs : signN (chr l i) = true) : Gd7 l (i + 1) f :=
  ⟨Nat.le_succ_of_le h.fi, hi, h.all, fun j h1 h2 => by
    rcases Nat.lt_succ_iff_lt_or_eq.1 h2 with h3 | h3
    · exact h.seg j h1 h3
    · rw [h3]; exact ⟨h47, hs⟩⟩
theorem take_snoc (hi : i < l.length) (hf : f ≤ i) : (l.drop f).take (i + 1 - f) = (l.drop f).take (i - f) ++ [l[i]] := by
  rw [show i + 1 - f = (i - f) + 1 by omega, List.take_add_one]
  congr 1
  rw [List.getElem?_drop, show f + (i - f) = i by omega, List.getElem?_eq_getElem hi]
  rfl
theorem Gd7.bad (h : Gd7 l i f) (hi : i < l.length) (h47 : chr l i ≠ 47) (hs : signN (chr l i) = false) : allN l = false := by
  rw [h.all, ← List.take_append_drop (i + 1 - f) (l.drop f)]
  rw [take_snoc hi h.fi]
  refine allN_odd _ (fun c hc => ?_) l[i] (by simp) (by rw [signB_eq, ← chr_eq hi]; exact hs)
  rw [List.mem_append] at hc
  rcases hc with hc | hc
  · exact h.noSlash c hc
  · rw [List.mem_singleton] at hc
    subst hc
    intro e
    exact h47 (by rw [chr_eq hi, e]; rfl)
theorem Gd7.last (h : Gd7 l i f) (hi : i = l.length) : allN l = okN ((l.drop f).take (i - f)) := by
  have e : (l.drop f).take (i - f) = l.drop f := List.take_of_length_le (by rw [List.length_drop]; omega)
  have hn := h.noSlash
  rw [e] at hn ⊢
  rw [h.all, allN_end hn]
theorem Gd7.slash (h : Gd7 l i f) (hi : i < l.length) (h47 : chr l i = 47) : allN l = (okN ((l.drop f).take (i - f)) && allN (l.drop (i + 1))) := by
  have e : l.drop f = (l.drop f).take (i - f) ++ 47 :: l.drop (i + 1) := by
    have h1 := List.take_append_drop (i - f) (l.drop f)
    rw [List.drop_drop, show f + (i - f) = i by have := h.fi; omega, List.drop_eq_getElem_cons hi] at h1
    have h2 : l[i] = 47 := by
      rw [chr_eq hi] at h47
      exact UInt8.toNat_inj.1 h47
    rw [h2] at h1
    exact h1.symm
  rw [h.all, e, allN_more _ h.noSlash]
  rw [← e]
theorem Gd7.more (h : Gd7 l i f) (hi : i < l.length) (h47 : chr l i = 47) (ho : okN ((l.drop f).take (i - f)) = true) : Gd7 l (i + 1) (i + 1) :=
  ⟨Nat.le_refl _, hi, by rw [h.slash hi h47, ho, Bool.true_and], fun j h1 h2 => absurd h1 (by omega)⟩
end
set_option maxRecDepth 100000 in
set_option maxHeartbeats 2000000 in
theorem refGood_any (l : S8) (hl : l.length < 1000000) (w : World) : Calls Tryz.prog 139 #[.string (mkS l)] w fun e w' => e = .returned (.bool (goodL l)) ∧ w = w' := by
  by_cases h100 : 100 < l.length
  · have h1 : (100 : Int) < (l.length : Int) := by omega
    have h2 : decide ((100 : Int) < (l.length : Int)) = true := decide_eq_true h1
    have HS := Lib.hid (show goodL l = false from by unfold goodL; rw [decide_eq_false (by omega)]; rfl)
    go_enter Tryz.func139, Tryz.ntmps139
    go_wp2
    go_ret
    exact ⟨by rw [HS.out]; rfl, rfl⟩
  · have h1 : ¬ (100 : Int) < (l.length : Int) := by omega
    have h2 : decide ((100 : Int) < (l.length : Int)) = false := decide_eq_false h1
    have HG := Lib.hid (show goodL l = allN l from by unfold goodL; rw [decide_eq_true (by omega), Bool.true_and])
    have H100 := Lib.hid h100
    clear h100
    go_enter Tryz.func139, Tryz.ntmps139
    go_wp2
    go_loopw [3, 4, 5] (fun vf vi vo wr => ∃ i f : Nat, vi = .int .i64 i ∧ vf = .int .i64 f ∧ (Gd7 l i f ∨ (i = l.length + 1 ∧ allN l = true)) ∧ w = wr) (fun vf vi vo _ => l.length + 2 - (intOf vi).toNat)
    case atStart => exact ⟨0, 0, rfl, rfl, .inl (Gd7.zero l), rfl⟩
    case round =>
      obtain ⟨i, f, rfl, rfl, hD, rfl⟩ := hrel
      rcases hD with hD | ⟨hi, hT⟩
      · have hle : (i : Int) ≤ (l.length : Int) := by have := hD.il; omega
        have hld : decide ((i : Int) ≤ (l.length : Int)) = true := decide_eq_true hle
        have hw := i64s i (by omega)
        have hfi : (f : Int) ≤ (i : Int) := by have := hD.fi; omega
        have hfn := hD.fi
        have hin := hD.il
        have HD := Lib.hid hD
        obtain ⟨O, hO⟩ : ∃ O, (l.drop f).take (i - f) = O := ⟨_, rfl⟩
        have HSG := Lib.hid (okN_signs hD.signs)
        have hsl := fun w => sl_S l f i w hfn hin
        rw [hO] at HSG hsl
        clear hD
        by_cases hlt : i < l.length
        · have z1 : (i : Int) < (l.length : Int) := by omega
          have z2 : decide ((i : Int) < (l.length : Int)) = true := decide_eq_true z1
          obtain ⟨c, hc⟩ : ∃ c, chr l i = c := ⟨_, rfl⟩
          have hcl : c < 256 := by rw [← hc]; exact chr_lt l i
          by_cases h47 : c = 47
          · subst h47
            have HSL := Lib.hid (HD.out.slash hlt hc)
            have HMO := Lib.hid (HD.out.more hlt hc)
            rw [hO] at HSL HMO
            rcases (show O = [] ∨ O = [46] ∨ O = [46, 46] ∨ (O ≠ [] ∧ O ≠ [46] ∧ O ≠ [46, 46]) from by
              by_cases a : O = []
              · exact .inl a
              · by_cases b : O = [46]
                · exact .inr (.inl b)
                · by_cases d : O = [46, 46]
                  · exact .inr (.inr (.inl d))
                  · exact .inr (.inr (.inr ⟨a, b, d⟩))) with h | h | h | ⟨a, b, d⟩
            · subst h
              have HFA := Lib.hid (show allN l = false from by rw [HSL.out]; rfl)
              clear hO
              go_wp2
              go_ret
              exact ⟨by rw [HG.out, HFA.out]; rfl, rfl⟩
            · subst h
              have HFA := Lib.hid (show allN l = false from by rw [HSL.out]; rfl)
              clear hO
              go_wp2
              go_ret
              exact ⟨by rw [HG.out, HFA.out]; rfl, rfl⟩
            · subst h
              have HFA := Lib.hid (show allN l = false from by rw [HSL.out]; rfl)
              clear hO
              go_wp2
              go_ret
              exact ⟨by rw [HG.out, HFA.out]; rfl, rfl⟩
            · have a1 : (O == []) = false := beq_eq_false_iff_ne.2 a
              have b1 : (O == [46]) = false := beq_eq_false_iff_ne.2 b
              have d1 : (O == [46, 46]) = false := beq_eq_false_iff_ne.2 d
              have a2 : O.isEmpty = false := by cases O with | nil => exact absurd rfl a | cons _ _ => rfl
              have hok : okN O = true := by rw [HSG.out]; simp [a, b, d]
              have HM2 := Lib.hid (HMO.out hok)
              clear hO hok
              go_wp2
              exact ⟨⟨i + 1, i + 1, by go_num, by go_num, .inl HM2.out, trivial⟩, by simp [intOf]; omega⟩
          · have hz : ((c : Int) == 47) = false := by simp; omega
            have hz2 : ((c : Int) != 47) = true := by simp; omega
            have HSI := Lib.hid (refSign_any c hcl w)
            by_cases hs : signN c = true
            · have HST := Lib.hid (HD.out.step hlt (by rw [hc]; exact h47) (by rw [hc]; exact hs))
              rw [hs] at HSI
              clear hO hsl
              go_wp2_with fail
              refine HSI.out.mono ?_
              rintro e w' ⟨rfl, rfl⟩
              go_wp2
              exact ⟨⟨i + 1, f, by go_num, rfl, .inl HST.out, trivial⟩, by simp [intOf]; omega⟩
            · have hsf : signN c = false := by simpa using hs
              have HBA := Lib.hid (HD.out.bad hlt (by rw [hc]; exact h47) (by rw [hc]; exact hsf))
              rw [hsf] at HSI
              clear hO hsl
              go_wp2_with fail
              refine HSI.out.mono ?_
              rintro e w' ⟨rfl, rfl⟩
              go_wp2
              go_ret
              exact ⟨by rw [HG.out, HBA.out]; rfl, rfl⟩
        · obtain hie : i = l.length := by omega
          have z1 : ¬ (i : Int) < (l.length : Int) := by omega
          have z2 : decide ((i : Int) < (l.length : Int)) = false := decide_eq_false z1
          have HSL := Lib.hid (HD.out.last hie)
          rw [hO] at HSL
          have HIE := Lib.hid hie
          clear hie
          rcases (show O = [] ∨ O = [46] ∨ O = [46, 46] ∨ (O ≠ [] ∧ O ≠ [46] ∧ O ≠ [46, 46]) from by
            by_cases a : O = []
            · exact .inl a
            · by_cases b : O = [46]
              · exact .inr (.inl b)
              · by_cases d : O = [46, 46]
                · exact .inr (.inr (.inl d))
                · exact .inr (.inr (.inr ⟨a, b, d⟩))) with h | h | h | ⟨a, b, d⟩
          · subst h
            have HFA := Lib.hid (show allN l = false from by rw [HSL.out]; rfl)
            clear hO
            go_wp2
            go_ret
            exact ⟨by rw [HG.out, HFA.out]; rfl, rfl⟩
          · subst h
            have HFA := Lib.hid (show allN l = false from by rw [HSL.out]; rfl)
            clear hO
            go_wp2
            go_ret
            exact ⟨by rw [HG.out, HFA.out]; rfl, rfl⟩
          · subst h
            have HFA := Lib.hid (show allN l = false from by rw [HSL.out]; rfl)
            clear hO
            go_wp2
            go_ret
            exact ⟨by rw [HG.out, HFA.out]; rfl, rfl⟩
          · have a1 : (O == []) = false := beq_eq_false_iff_ne.2 a
            have b1 : (O == [46]) = false := beq_eq_false_iff_ne.2 b
            have d1 : (O == [46, 46]) = false := beq_eq_false_iff_ne.2 d
            have a2 : O.isEmpty = false := by cases O with | nil => exact absurd rfl a | cons _ _ => rfl
            have hok : okN O = true := by rw [HSG.out]; simp [a, b, d]
            have HT := Lib.hid (show allN l = true from by rw [HSL.out]; exact hok)
            clear hO hok
            go_wp2
            exact ⟨⟨i + 1, i + 1, by go_num, by go_num, .inr ⟨by rw [HIE.out], HT.out⟩, trivial⟩, by simp [intOf]; omega⟩
      · subst hi
        have z1 : ¬ ((l.length + 1 : Nat) : Int) ≤ (l.length : Int) := by omega
        have z2 : decide (((l.length + 1 : Nat) : Int) ≤ (l.length : Int)) = false := decide_eq_false z1
        have z3 : ¬ ((l.length : Int) + 1) ≤ (l.length : Int) := by omega
        have z4 : decide (((l.length : Int) + 1) ≤ (l.length : Int)) = false := decide_eq_false z3
        have HT := Lib.hid hT
        clear hT
        go_wp2
        go_ret
        exact ⟨by rw [HG.out, HT.out]; rfl, rfl⟩
end Go.Proofs.YtnmopjefjpifoaaGreatDoor
/- The reference's last slash. -/
set_option maxRecDepth 100000
namespace Go.Proofs.YtnmopjefjpifoaaGreatDoor
open Go Go.RowKit
attribute [-go_sem] Sha.exec_store

set_option maxHeartbeats 1000000 in
theorem refSlash_any (l : S8) (hl : l.length < 1000000) (w : World) : Calls Tryz.prog 140 #[.string (mkS l)] w fun e w' => e = .returned (.int .i64 ((kL l : Int) - 1)) ∧ w = w' := by
  obtain ⟨n, hn⟩ : ∃ n, l.length = n := ⟨_, rfl⟩
  rw [hn] at hl
  have HN := Lib.hid hn
  go_enter Tryz.func140, Tryz.ntmps140
  go_wp2
  go_loopw [3, 4] (fun vo vi wr => ∃ i m : Nat, i ≤ n ∧ vi = .int .i64 i ∧ vo = .int .i64 ((m : Int) - 1) ∧ kTo l i = m ∧ w = wr) (fun vo vi _ => n - (intOf vi).toNat)
  case atStart => exact ⟨0, 0, Nat.zero_le _, rfl, rfl, rfl, rfl⟩
  case round =>
    obtain ⟨i, m, hi, rfl, rfl, hm, rfl⟩ := hrel
    by_cases hlt : i < n
    · have hli : i < l.length := by omega
      have z1 : (i : Int) < (n : Int) := by omega
      have z2 : decide ((i : Int) < (n : Int)) = true := decide_eq_true z1
      have hw := i64s i (by omega)
      have hk : kTo l (i + 1) = if chr l i = 47 then i + 1 else kTo l i := rfl
      rw [hm] at hk
      have HK := Lib.hid hk
      obtain ⟨c, hc⟩ : ∃ c, chr l i = c := ⟨_, rfl⟩
      rw [hc] at HK
      clear hm hk
      by_cases h47 : c = 47
      · subst h47
        go_wp2
        exact ⟨⟨i + 1, i + 1, by omega, by go_num, by go_num, by rw [HK.out, if_pos rfl], trivial⟩, by simp [intOf]; omega⟩
      · have hz : ((c : Int) == 47) = false := by simp; omega
        go_wp2
        exact ⟨⟨i + 1, m, by omega, by go_num, rfl, by rw [HK.out, if_neg h47], trivial⟩, by simp [intOf]; omega⟩
    · obtain rfl : i = n := by omega
      have z1 : ¬ (i : Int) < (i : Int) := by omega
      have z2 : decide ((i : Int) < (i : Int)) = false := decide_eq_false z1
      have HM := Lib.hid (show kL l = m from by unfold kL; rw [HN.out]; exact hm)
      clear hm
      go_wp2
      go_ret
      exact ⟨by rw [HM.out]; rfl, rfl⟩
end Go.Proofs.YtnmopjefjpifoaaGreatDoor
/- The reference of layer 7: decimals, what is put ahead of a name, homes, copies, kinds. -/
set_option maxRecDepth 100000
namespace Go.Proofs.YtnmopjefjpifoaaGreatDoor
open Go Go.RowKit
attribute [-go_sem] Sha.exec_store

/-- A string of one byte that was just made. -/
theorem conv1 (w : World) (b c : Nat) (h : w.cell? ⟨b, 0, none⟩ = some (.int .u8 (c : Int))) (hc : c < 256) : (convert 53 9 (.slice (some ⟨b, 0, none⟩) 1 1)).run Tryz.prog w = .ok (.string (mkS [UInt8.ofNat c])) w := by
  have hs : Sl w (some ⟨b, 0, none⟩) [BitVec.ofNat 8 c] := fun j hj => by
    have : j = 0 := by simp at hj; omega
    subst this
    refine ⟨b, 0, rfl, ?_⟩
    show w.cell? ⟨b, 0, none⟩ = some (B (BitVec.ofNat 8 c))
    rw [h, B_eq', BitVec.toNat_ofNat, Nat.mod_eq_of_lt (by simpa using hc)]
  have := conv_str w _ _ 1 1 hs rfl (fun h => by cases h)
  rw [this]
  congr 2
  unfold mkS
  rfl
attribute [local go_sem high] conv1
end Go.Proofs.YtnmopjefjpifoaaGreatDoor
/- strings.LastIndexByte at "/"; HasPrefix, CutPrefix. -/
set_option maxRecDepth 100000
namespace Go.Proofs.YtnmopjefjpifoaaGreatDoor
open Go Go.RowKit
attribute [-go_sem] Sha.exec_store

set_option maxHeartbeats 1000000 in
theorem lastByte_in (l : S8) (w : World) (hl : l.length < 1000000) : Calls Tryz.prog 290 #[.string (mkS l), .int .u8 47] w fun e w' => e = .returned (.int .i64 ((kL l : Int) - 1)) ∧ w = w' := by
  obtain ⟨n, hn⟩ : ∃ n, l.length = n := ⟨_, rfl⟩
  have HK := Lib.hid (show kL l = kTo l n from by unfold kL; rw [hn])
  have HN := Lib.hid hn
  rw [hn] at hl
  have hs : IntKind.i64.wrap ((n : Int) - 1) = (n : Int) - 1 := by rw [IntKind.wrap_i64]; omega
  have hs2 : wrap64 ((n : Int) - 1) = (n : Int) - 1 := by unfold wrap64; omega
  go_enter Tryz.func290, Tryz.ntmps290
  go_wp2
  go_loopw [5] (fun vi wr => ∃ k : Nat, k ≤ n ∧ vi = .int .i64 ((k : Int) - 1) ∧ kTo l k = kL l ∧ w = wr) (fun vi _ => (intOf vi + 1).toNat)
  case atStart => exact ⟨n, Nat.le_refl _, rfl, HK.out.symm, rfl⟩
  case round =>
    obtain ⟨k, hk, rfl, hkt, rfl⟩ := hrel
    cases k with
    | zero =>
      have HZ := Lib.hid (show kL l = 0 from hkt.symm)
      clear hkt
      go_wp2
      go_ret
      exact ⟨by rw [HZ.out]; rfl, rfl⟩
    | succ j =>
      have e1 : ((j + 1 : Nat) : Int) - 1 = (j : Int) := by omega
      have e2 : (j : Int) + 1 - 1 = (j : Int) := by omega
      have hjn : j < n := by omega
      have hjl : j < l.length := by rw [HN.out]; omega
      obtain ⟨c, hc⟩ : ∃ c, chr l j = c := ⟨_, rfl⟩
      have hw : IntKind.i64.wrap ((j : Int) - 1) = (j : Int) - 1 := by rw [IntKind.wrap_i64]; omega
      have hkk : kTo l (j + 1) = if chr l j = 47 then j + 1 else kTo l j := rfl
      rw [hc] at hkk
      rw [hkk] at hkt
      by_cases h47 : c = 47
      · subst h47
        have HZ := Lib.hid (show kL l = j + 1 from by rw [← hkt, if_pos rfl])
        clear hkt hkk
        go_wp2
        go_ret
        exact ⟨by rw [HZ.out]; simp, rfl⟩
      · have hz : ((c : Int) == 47) = false := by simp; omega
        have HZ := Lib.hid (show kTo l j = kL l from by rw [← hkt, if_neg h47])
        clear hkt hkk
        go_wp2
        exact ⟨⟨j, by omega, by go_num, HZ.out, trivial⟩, by simp [intOf] <;> omega⟩
set_option maxHeartbeats 1000000 in
theorem lastByte (l : S8) (w : World) (hl : l.length < 1000000) : Calls Tryz.prog 255 #[.string (mkS l), .int .u8 47] w fun e w' => e = .returned (.int .i64 ((kL l : Int) - 1)) ∧ w = w' := by
  have HI := Lib.hid (lastByte_in l w hl)
  generalize kL l = k at *
  go_enter Tryz.func255, Tryz.ntmps255
  go_wp2_with fail
  refine HI.out.mono ?_
  rintro e w' ⟨rfl, rfl⟩
  go_wp2
  go_ret
  exact ⟨rfl, rfl⟩
set_option maxHeartbeats 1000000 in
theorem prefix_in (s t : S8) (w : World) : Calls Tryz.prog 256 #[.string (mkS s), .string (mkS t)] w fun e w' => e = .returned (.bool (startsL s t)) ∧ w = w' := by
  by_cases h : t.length ≤ s.length
  · have h1 : (t.length : Int) ≤ (s.length : Int) := by omega
    have h2 : decide ((t.length : Int) ≤ (s.length : Int)) = true := decide_eq_true h1
    have HS := Lib.hid (show startsL s t = (s.take t.length == t) from by unfold startsL; rw [decide_eq_true h]; rfl)
    go_enter Tryz.func256, Tryz.ntmps256
    go_wp2
    go_ret
    exact ⟨by rw [HS.out]; rfl, rfl⟩
  · have h1 : ¬ (t.length : Int) ≤ (s.length : Int) := by omega
    have h2 : decide ((t.length : Int) ≤ (s.length : Int)) = false := decide_eq_false h1
    have HS := Lib.hid (show startsL s t = false from by unfold startsL; rw [decide_eq_false h]; rfl)
    go_enter Tryz.func256, Tryz.ntmps256
    go_wp2
    go_ret
    exact ⟨by rw [HS.out]; rfl, rfl⟩
set_option maxHeartbeats 1000000 in
theorem hasPrefix_any (s t : S8) (w : World) : Calls Tryz.prog 216 #[.string (mkS s), .string (mkS t)] w fun e w' => e = .returned (.bool (startsL s t)) ∧ w = w' := by
  have HC := Lib.hid (prefix_in s t w)
  generalize startsL s t = b at *
  go_enter Tryz.func216, Tryz.ntmps216
  go_wp2_with fail
  refine HC.out.mono ?_
  rintro e w' ⟨rfl, rfl⟩
  go_wp2
  go_ret
  exact ⟨rfl, rfl⟩
end Go.Proofs.YtnmopjefjpifoaaGreatDoor
/- Dir, Base, In, Clash. -/
set_option maxRecDepth 100000
namespace Go.Proofs.YtnmopjefjpifoaaGreatDoor
open Go Go.RowKit
attribute [-go_sem] Sha.exec_store

set_option maxHeartbeats 1000000 in
theorem base_any (l : S8) (w : World) (hl : l.length < 100000) : Calls Tryz.prog 215 #[.string (mkS l)] w fun e w' => Gives (.string (mkS (baseL l))) w e w' := by
  have HC := Lib.hid (lastByte l w (by omega))
  have hk := kL_le l
  have HD := Lib.hid (show baseL l = l.drop (kL l) from rfl)
  generalize kL l = k at *
  have hs := fun u => sl_from l k u (by omega)
  have x1 : ((k : Int) - 1) + 1 = (k : Int) := by omega
  have hw : IntKind.i64.wrap (k : Int) = (k : Int) := by rw [IntKind.wrap_i64]; omega
  go_enter Tryz.func215, Tryz.ntmps215
  go_wp2_with fail
  refine HC.out.mono ?_
  rintro e w' ⟨rfl, rfl⟩
  go_wp2
  go_ret
  exact ⟨by rw [HD.out]; rfl, Below.refl _ _⟩
end Go.Proofs.YtnmopjefjpifoaaGreatDoor
/- A range over an iterator that keeps a state of its own in a box: the law, and what such an iterator owes. -/
set_option maxRecDepth 100000
namespace Go.Proofs.YtnmopjefjpifoaaGreatDoor
open Go Go.RowKit Go.Shelf
attribute [-go_sem] Sha.exec_store

/-- A call of yield: it goes on, all below N as it was; or it says that there is to be no more. -/
def Yields {α : Type} (m l : Nat) (encs : α → Array Value) (N : Nat) (J Jx : List α → World → Prop) : Prop :=
  ∀ pre x A, J pre A → YieldAt Fence.wide m Tryz.prog l (encs x) A fun e A' =>
    (e = .returned (.bool true) ∧ J (pre ++ [x]) A' ∧ Below N A A') ∨ (e = .returned (.bool false) ∧ Jx (pre ++ [x]) A')
/-- The iterator hands out xs; of what was there it writes box b alone. -/
def Seq {α : Type} (m g : Nat) (lb : Array Value) (encs : α → Array Value) (b : Nat) (xs : List α) (w : World) : Prop :=
  ∀ (l : Nat) (J Jx : List α → World → Prop) (A : World), Below w.heap.size w A → (∀ pre B k, J pre B → J pre (B.drewN k)) → (∀ pre B v, J pre B → J pre (B.setCell ⟨b, 0, none⟩ v)) →
    Yields (m - 1) l encs w.heap.size J Jx → J [] A →
    CallsIn Fence.wide m Tryz.prog g (#[.func (.yield l) #[] #[]] ++ lb) A fun e A' => (∃ v, e = .returned v) ∧ (J xs A' ∨ ∃ pre, pre <+: xs ∧ Jx pre A')
/-- How the body may be left: it goes on, or returns. -/
def bodyOut {α : Type} (N : Nat) (I Ix : List α → World → Prop) (xs : List α) (A : World) : Exit → Act → World → Prop
  | .normal, _, A' => KeepsOthers A A' ∧ Below N A A' ∧ I xs A'
  | .ret, _, A' => KeepsOthers A A' ∧ Ix xs A'
  | _, _, _ => False
/-- What a caller's invariant must bear: new blocks, the loop's own blocks, draws, the iterator's box. -/
structure Bears {α : Type} (N b : Nat) (I : List α → World → Prop) : Prop where
  new : ∀ pre A o, I pre A → I pre (A.alloc o)
  put : ∀ pre A k o, N ≤ k → k < A.heap.size → I pre A → I pre (A.putObj k o)
  drew : ∀ pre A k, I pre A → I pre (A.drewN k)
  box : ∀ pre A v, I pre A → I pre (A.setCell ⟨b, 0, none⟩ v)
theorem below_put {N k : Nat} {A : World} (o : Obj) (hk : N ≤ k) (hlt : k < A.heap.size) : Below N A (A.putObj k o) :=
  (Below.refl N A).grown (grownBy_putObj' A k o) (by omega) (fun j e => by cases e; exact hk)
theorem range_box {α : Type} {g : Operand} {ps : Array Tmp} {assign body : Code} {Q : Exit → Act → World → Prop} {a : Act} {w : World} {m : Nat} (hm : 1 ≤ m)
    {gf : Nat} {lb : Array Value} (hg : a.eval g = .func (.func gf) #[] lb) (eg : ∀ args w, (callFunc gf args).run Tryz.prog w = .ok (.enter gf args) w)
    {encs : α → Array Value} (hps : ∀ x, (encs x).size = ps.size) {b : Nat} (hb : b < w.heap.size) {xs : List α} (hseq : Seq (m - 1) gf lb encs b xs w)
    (I Ix : List α → World → Prop) (hI : Bears w.heap.size b I) (hIx : ∀ pre A k o, w.heap.size ≤ k → k < A.heap.size → Ix pre A → Ix pre (A.putObj k o)) (h0 : I [] w) (a₁ : α → Act)
    (hassign : ∀ (l : Nat) (x : α) (W : World) (K : Act → World → Prop), K (a₁ x) W →
      assign.wpIn (Fence.wide.inRound l) (m - 1 - 1) Tryz.prog (Exit.then K (fun _ _ _ => False)) { tmps := (ps.zip (encs x)).foldl (fun t (p, v) => t.setIfInBounds p v) a.tmps, defers := [] } W)
    (hbody : ∀ (l : Nat) (pre : List α) (x : α) (A : World), I pre A → body.wpIn (Fence.wide.inRound l) (m - 1 - 1) Tryz.prog (bodyOut w.heap.size I Ix (pre ++ [x]) A) (a₁ x) A)
    (hdone : ∀ (D : Nat) (A : World), w.heap.size ≤ D → I xs A → A.heap[D]? = some (.deferred (some [])) → Q .normal { a with defers := { target := .collected D, args := #[] } :: a.defers } A)
    (hstop : ∀ (D : Nat) (pre : List α) (A : World), w.heap.size ≤ D → pre <+: xs → Ix pre A → A.heap[D]? = some (.deferred (some [])) → Code.ret.wpIn Fence.wide m Tryz.prog Q { a with defers := { target := .collected D, args := #[] } :: a.defers } A) :
    (Code.rangeFunc g ps assign body).wpIn Fence.wide m Tryz.prog Q a w := by
  refine wpIn_rangeFunc fun fn hfn => ?_
  -- the loop's record (block n + 1) and the block of its deferred calls (block n)
  obtain ⟨n, hn⟩ : ∃ n, w.heap.size = n := ⟨_, rfl⟩
  obtain ⟨R, hR⟩ : ∃ R : LoopState → Option Code → Loop, R = fun st pe => { state := st, pending := pe, fn, tmps := a.tmps, params := ps, assign, body, defers := n } := ⟨_, rfl⟩
  obtain ⟨W, hW⟩ : ∃ W, (w.alloc (.deferred (some []))).alloc (.loop (R .ready none)) = W := ⟨_, rfl⟩
  have two : ∀ {A : World}, A.heap[n + 1]? = some (.loop (R .busy none)) ∨ A.heap[n + 1]? = some (.loop (R .ready none)) → n + 1 < A.heap.size := fun h => by
    rcases h with h | h <;> exact (Array.getElem?_eq_some_iff.1 h).1
  let At : LoopState → Option Code → World → Prop := fun st pe A => A.heap[n + 1]? = some (.loop (R st pe)) ∧ A.heap[n]? = some (.deferred (some []))
  have at0 : At .ready none W := by
    constructor
    · rw [← hW]
      have := World.alloc_heap_new (w.alloc (.deferred (some []))) (.loop (R .ready none))
      rwa [World.size_alloc, hn] at this
    · rw [← hW]
      have h1 := World.alloc_heap_new w (.deferred (some []))
      rw [hn] at h1
      exact (Below.heap_alloc _ _ _ (by simp; omega)).trans h1
  have putAt : ∀ {st st' : LoopState} {pe pe' : Option Code} {A : World}, At st pe A → At st' pe' (A.putObj (n + 1) (.loop (R st' pe'))) := fun h =>
    ⟨World.putObj_heap_same (Array.getElem?_eq_some_iff.1 h.1).1, (World.putObj_heap_other (by omega)).trans h.2⟩
  refine ⟨n + 1, [{ target := .collected n, args := #[] }], W, { target := .fn (.func gf) lb, args := #[.func (.yield (n + 1)) #[] #[]] }, W, gf, #[.func (.yield (n + 1)) #[] #[]] ++ lb, W, ?_, ?_, ?_, ?_, fun _ => hm, ?_⟩
  · rw [← hW, hR, ← hn]; exact run_enterLoop_outer _ _ _ _ _
  · simp only [resolve, hg]
    simp [go_sem]
  · intro f' hf'
    simp [Target.leads] at hf'
    subst hf'
    trivial
  · simp [invoke, go_sem, eg]
  · have hbel : Below w.heap.size w W := by rw [← hW]; exact ((Below.refl _ w).alloc (Nat.le_refl _) _).alloc (by simp) _
    refine (hseq (n + 1) (fun pre A => I pre A ∧ At .ready none A) (fun pre A => Ix pre A ∧ At .done (some .ret) A) W hbel
      (fun pre B k h => ⟨hI.drew pre B k h.1, h.2⟩)
      (fun pre B v h => ⟨hI.box pre B v h.1, (Below.heap_setCell B _ v _ (by show n + 1 ≠ b; omega)).trans h.2.1, (Below.heap_setCell B _ v _ (by show n ≠ b; omega)).trans h.2.2⟩)
      ?_ ⟨by rw [← hW]; exact hI.new _ _ _ (hI.new _ _ _ h0), at0⟩).mono ?_
    · rintro pre x A ⟨hi, hat⟩
      have hlt := two (.inr hat.1)
      have hy := run_yield (P := Tryz.prog) (args := encs x) hat.1 (by rw [hR]; exact hps x)
      rw [hR] at hy
      refine ⟨fn, _, assign, body, hy, roundIn_of_wpIn hfn (hassign _ x A _ ⟨_, run_beginRound hat.1 (by rw [hR]), ?_⟩)⟩
      have hbusy : ({ R .ready none with state := .busy } : Loop) = R .busy none := by rw [hR]
      rw [hbusy]
      have hat2 : At .busy none (A.putObj (n + 1) (.loop (R .busy none))) := putAt hat
      refine wpIn_mono (hbody _ pre x _ (hI.put _ _ _ _ (by omega) hlt hi)) ?_
      have fin : ∀ (st : LoopState) (jump : Option Code) (A3 : World), st = (if jump.isNone then .ready else .done) → KeepsOthers (A.putObj (n + 1) (.loop (R .busy none))) A3 →
          n + 1 < A3.heap.size ∧ (Instr.endRound (n + 1) jump).run Tryz.prog A3 = .ok (.bool jump.isNone) (A3.putObj (n + 1) (.loop (R st jump))) ∧ At st jump (A3.putObj (n + 1) (.loop (R st jump))) := fun st jump A3 hst hk => by
        have h3 : At .busy none A3 := ⟨hk.same _ _ hat2.1 rfl, hk.same _ _ hat2.2 rfl⟩
        have he := run_endRound (P := Tryz.prog) jump h3.1
        have e : ({ R .busy none with state := (if jump.isNone then .ready else .done), pending := jump } : Loop) = R st jump := by rw [hR, hst]
        rw [e] at he
        exact ⟨two (.inl h3.1), he, putAt h3⟩
      rintro e a3 A3 hp
      cases e with
      | normal =>
        obtain ⟨hk, hB, hi3⟩ := hp
        obtain ⟨hl3, he, h4⟩ := fin .ready none A3 rfl hk
        exact ⟨_, _, he, .inl ⟨rfl, ⟨hI.put _ _ _ _ (by omega) hl3 hi3, h4⟩, ((below_put _ (by omega) hlt).trans hB).trans (below_put _ (by omega) hl3)⟩⟩
      | ret =>
        obtain ⟨hk, hi3⟩ := hp
        obtain ⟨hl3, he, h4⟩ := fin .done (some .ret) A3 rfl hk
        exact ⟨_, _, he, .inr ⟨rfl, hIx _ _ _ _ (by omega) hl3 hi3, h4⟩⟩
      | exit id => exact hp.elim
      | goto t => exact hp.elim
      | panic ch => exact hp.elim
      | outgrown => exact hp.elim
    · rintro e A2 ⟨⟨v, rfl⟩, ⟨hi, hat⟩ | ⟨pre, hpre, hi, hat⟩⟩
      · have hlt := two (.inr hat.1)
        have he := run_endLoop (P := Tryz.prog) hat.1 (by rw [hR]; simp)
        refine ⟨none, _, by rw [he, hR], ?_⟩
        exact hdone n _ (by omega) (hI.put _ _ _ _ (by omega) hlt hi) ((World.putObj_heap_other (by omega)).trans hat.2)
      · have hlt := (Array.getElem?_eq_some_iff.1 hat.1).1
        have he := run_endLoop (P := Tryz.prog) hat.1 (by rw [hR]; simp)
        refine ⟨some .ret, _, by rw [he, hR], ?_⟩
        exact hstop n pre _ (by omega) hpre (hIx _ _ _ _ (by omega) hlt hi) ((World.putObj_heap_other (by omega)).trans hat.2)
end Go.Proofs.YtnmopjefjpifoaaGreatDoor
/- What lies ahead of the first "/", and behind it. -/
set_option maxRecDepth 100000
namespace Go.Proofs.YtnmopjefjpifoaaGreatDoor
open Go Go.RowKit
attribute [-go_sem] Sha.exec_store

def headS (l : S8) : S8 := l.takeWhile (fun c => c != 47)
def hasS (l : S8) : Bool := l.any (fun c => c == 47)
def tailS (l : S8) : S8 := l.drop ((headS l).length + 1)
def restS (l : S8) : S8 := if hasS l then tailS l else []
theorem head_clean (l : S8) : ∀ c ∈ headS l, c ≠ 47 := fun c hc => by
  unfold headS at hc
  have : ∀ m : S8, ∀ c ∈ m.takeWhile (fun c => c != 47), c ≠ 47 := by
    intro m
    induction m with
    | nil => intro c h; cases h
    | cons x r ih =>
      intro c h
      rw [List.takeWhile_cons] at h
      by_cases hx : (x != 47) = true
      · rw [if_pos hx] at h
        rcases List.mem_cons.1 h with e | e
        · subst e; simpa using hx
        · exact ih c e
      · rw [if_neg hx] at h; cases h
  exact this l c hc
theorem head_tail : ∀ l : S8, hasS l = true → l = headS l ++ 47 :: tailS l := by
  intro l
  induction l with
  | nil => intro h; cases h
  | cons c r ih =>
    intro h
    by_cases hc : c = 47
    · subst hc
      simp [headS, tailS]
    · have hr : hasS r = true := by unfold hasS at h ⊢; simpa [hc] using h
      have e : headS (c :: r) = c :: headS r := by unfold headS; rw [List.takeWhile_cons, if_pos (by simpa using hc)]
      have t : tailS (c :: r) = tailS r := by unfold tailS; rw [e]; simp
      rw [e, t, List.cons_append, ← ih hr]
theorem head_all (l : S8) (h : hasS l = false) : headS l = l := by
  unfold headS hasS at *
  rw [List.any_eq_false] at h
  have key : ∀ m : S8, (∀ c ∈ m, (c != 47) = true) → m.takeWhile (fun c => c != 47) = m := by
    intro m
    induction m with
    | nil => intro _; rfl
    | cons x r ih =>
      intro hm
      rw [List.takeWhile_cons, if_pos (hm x (by simp)), ih (fun c hc => hm c (by simp [hc]))]
  exact key l fun c hc => by
    have := h c hc
    simpa using this
theorem nm_cut (l : S8) : nm l = headS l :: (if hasS l then nm (restS l) else []) := by
  by_cases h : hasS l = true
  · unfold restS
    rw [if_pos h, if_pos h]
    conv => lhs; rw [head_tail l h]
    exact nm_more _ (head_clean l)
  · have h2 : hasS l = false := by simpa using h
    rw [if_neg h]
    have := head_clean l
    rw [head_all l h2] at this ⊢
    exact nm_end this
theorem rest_len (l : S8) (h : hasS l = true) : (restS l).length < l.length := by
  have := congrArg List.length (head_tail l h)
  unfold restS
  rw [if_pos h]
  rw [List.length_append, List.length_cons] at this
  omega
theorem idx47 : ∀ l : S8, Lib.indexByte l 47 = if hasS l then ((headS l).length : Int) else -1 := by
  intro l
  induction l with
  | nil => rfl
  | cons c r ih =>
    by_cases hc : c = 47
    · subst hc; simp [Lib.indexByte, hasS, headS]
    · have e : headS (c :: r) = c :: headS r := by unfold headS; rw [List.takeWhile_cons, if_pos (by simpa using hc)]
      have h : hasS (c :: r) = hasS r := by unfold hasS; simp [hc]
      have hb : (c == 47) = false := beq_eq_false_iff_ne.2 hc
      rw [e, h]
      unfold Lib.indexByte
      rw [hb, ih]
      by_cases hr : hasS r = true
      · rw [if_pos hr]
        have : (((headS r).length : Int) == -1) = false := beq_eq_false_iff_ne.2 (by omega)
        simp [this, hr]
      · have hr2 : hasS r = false := by simpa using hr
        simp [hr2]
theorem all_pre {l : S8} {pre : List S8} (h : pre <+: nm l) (hb : pre.all okN = false) : allN l = false := by
  obtain ⟨t, e⟩ := h
  unfold allN
  rw [← e, List.all_append, hb, Bool.false_and]
end Go.Proofs.YtnmopjefjpifoaaGreatDoor
/- strings.Index at "/". -/
set_option maxRecDepth 100000
namespace Go.Proofs.YtnmopjefjpifoaaGreatDoor
open Go Go.RowKit
attribute [-go_sem] Sha.exec_store

theorem ixb (l : S8) (w : World) : (callFunc 318 #[.string (mkS l), .int .u8 47]).run Tryz.prog w = .ok (.value (.int .i64 (Lib.indexByte l 47))) w := by
  have h := run_callFunc_extern (P := Tryz.prog) (f := 318) (e := Extern.BytealgIndexByte.indexByte) Tryz.func318 (by kernel_rfl) (by kernel_rfl) (by kernel_rfl) (by kernel_rfl) #[.string (mkS l), .int .u8 47] w
  rw [h, Lib.run_indexByteString (P := Tryz.prog)]
  have e : (mkS l).data.toList = l := by rw [← ByteArray.toList_eq, mkS_toList]
  rw [e]
  rfl
set_option maxRecDepth 100000 in
theorem ix47 (w : World) : (Instr.index 9 (.string ⟨#[47]⟩) (.int .i64 0)).run Tryz.prog w = .ok (.int .u8 47) w := by
  have e : (⟨#[47]⟩ : ByteArray) = mkS [47] := mkS_lit [47]
  have h := ix_S [47] 0 w (by decide)
  rw [e]
  have c : chr [47] 0 = 47 := by rw [chr_eq (by decide)]; rfl
  rw [c] at h
  exact h
attribute [local go_sem] ixb
attribute [local go_sem high] ix47
set_option maxRecDepth 100000 in
set_option maxHeartbeats 1000000 in
theorem index47 (l : S8) (w : World) (hl : l.length < 1000000) : Calls Tryz.prog 292 #[.string (mkS l), .string ⟨#[47]⟩] w fun e w' => e = .returned (.int .i64 (Lib.indexByte l 47)) ∧ w = w' := by
  by_cases h : l = [47]
  · subst h
    have hi : Lib.indexByte [47] 47 = 0 := by rw [idx47]; rfl
    rw [hi]
    go_enter Tryz.func292, Tryz.ntmps292
    go_wp2
    go_ret
    exact ⟨rfl, rfl⟩
  · have hb : ([47] == l) = false := beq_eq_false_iff_ne.2 (fun e => h e.symm)
    clear h
    go_enter Tryz.func292, Tryz.ntmps292
    go_wp2
    go_ret
    exact ⟨rfl, rfl⟩
set_option maxHeartbeats 1000000 in
theorem sindex47 (l : S8) (w : World) (hl : l.length < 1000000) : Calls Tryz.prog 259 #[.string (mkS l), .string ⟨#[47]⟩] w fun e w' => e = .returned (.int .i64 (Lib.indexByte l 47)) ∧ w = w' := by
  have HC := Lib.hid (index47 l w hl)
  generalize Lib.indexByte l 47 = x at *
  go_enter Tryz.func259, Tryz.ntmps259
  go_wp2_with fail
  refine HC.out.mono ?_
  rintro e w' ⟨rfl, rfl⟩
  go_wp2
  go_ret
  exact ⟨rfl, rfl⟩
end Go.Proofs.YtnmopjefjpifoaaGreatDoor
/- strings.SplitSeq at "/": what it hands out. -/
set_option maxRecDepth 100000
namespace Go.Proofs.YtnmopjefjpifoaaGreatDoor
open Go Go.RowKit Go.Shelf
attribute [-go_sem] Sha.exec_store

attribute [local go_sem] Oper.semAt_some
/-- The iterator's three boxes: the separator, what is left, how much of the separator is kept. -/
structure Boxes (b1 b2 b3 : Nat) (r : S8) (A : World) : Prop where
  sep : A.cell? ⟨b1, 0, none⟩ = some (.string ⟨#[47]⟩)
  rest : A.cell? ⟨b2, 0, none⟩ = some (.string (mkS r))
  free : A.frozen? ⟨b2, 0, none⟩ = false
  save : A.cell? ⟨b3, 0, none⟩ = some (.int .i64 0)
theorem Boxes.below {b1 b2 b3 N : Nat} {r : S8} {A A' : World} (h : Boxes b1 b2 b3 r A) (hB : Below N A A') (h1 : b1 < N) (h2 : b2 < N) (h3 : b3 < N) : Boxes b1 b2 b3 r A' :=
  ⟨by rw [hB.cell (p := ⟨b1, 0, none⟩) h1]; exact h.sep, by rw [hB.cell (p := ⟨b2, 0, none⟩) h2]; exact h.rest, by rw [hB.frozen (p := ⟨b2, 0, none⟩) h2]; exact h.free, by rw [hB.cell (p := ⟨b3, 0, none⟩) h3]; exact h.save⟩
theorem Boxes.set {b1 b2 b3 : Nat} {r : S8} {A : World} (h : Boxes b1 b2 b3 r A) (h12 : b1 ≠ b2) (h32 : b3 ≠ b2) (t : S8) : Boxes b1 b2 b3 t (A.setCell ⟨b2, 0, none⟩ (.string (mkS t))) :=
  ⟨by rw [World.cell?_setCell_other _ _ _ _ (by simp [h12])]; exact h.sep, World.cell?_setCell_same' _ _ _ (by rw [h.rest]; rfl), by rw [World.frozen?_setCell]; exact h.free, by rw [World.cell?_setCell_other _ _ _ _ (by simp [h32])]; exact h.save⟩
/-- How much is left. -/
def leftB (b : Nat) (A : World) : Nat := match A.cell? ⟨b, 0, none⟩ with
  | some (.string s) => s.size
  | _ => 0
theorem leftB_eq {b1 b2 b3 : Nat} {r : S8} {A : World} (h : Boxes b1 b2 b3 r A) : leftB b2 A = r.length := by unfold leftB; rw [h.rest]; exact mkS_size r
set_option maxRecDepth 100000 in
set_option maxHeartbeats 2000000 in
theorem split_seq (m : Nat) (hm : 3 ≤ m) (b1 b2 b3 : Nat) (l : S8) (w : World) (h1 : b1 < w.heap.size) (h2 : b2 < w.heap.size) (h3 : b3 < w.heap.size) (h12 : b1 ≠ b2) (h32 : b3 ≠ b2) (hbx : Boxes b1 b2 b3 l w) (hl : l.length < 1000000) :
    Seq m 257 #[.pointer (some ⟨b1, 0, none⟩), .pointer (some ⟨b2, 0, none⟩), .pointer (some ⟨b3, 0, none⟩)] (fun x : S8 => #[.string (mkS x)]) b2 (nm l) w := by
  intro L J Jx A hA hJd hJs hY h0
  have hm1 : 1 ≤ m := by omega
  have hbA := hbx.below hA h1 h2 h3
  have c1 := hbA.sep
  refine callsIn_of_wp Tryz.func257 rfl trivial ?_ rfl
  simp only [Tryz.ntmps257, List.size_toArray, List.length_cons, List.length_nil, Nat.reduceAdd, Nat.reduceSub, Array.replicate_succ, Array.replicate_zero, List.push_toArray, List.append_toArray, List.nil_append, List.cons_append]
  gi_wp2
  gi_loopw [7, 8] (fun v7 v8 wr => ∃ (pre : List S8) (r : S8), nm l = pre ++ nm r ∧ r.length ≤ l.length ∧ Boxes b1 b2 b3 r wr ∧ J pre wr) (fun v7 v8 wr => leftB b2 wr)
  case atStart => exact ⟨[], l, rfl, Nat.le_refl _, hbA, h0⟩
  case round =>
    obtain ⟨pre, r, hn, hr, hbr, hJ0⟩ := hrel
    have d1 := hbr.sep
    have d2 := hbr.rest
    have d3 := hbr.save
    have d4 := hbr.free
    have HBR := Lib.hid hbr
    have HJ0 := Lib.hid hJ0
    have HI := Lib.hid (sindex47 r wr (by omega))
    rw [idx47] at HI
    have hcut := nm_cut r
    have hrest : restS r = if hasS r then r.drop ((headS r).length + 1) else [] := rfl
    have hlen := fun h => congrArg List.length (head_tail r h)
    have htake := fun h => (congrArg (List.take (headS r).length) (head_tail r h)).trans List.take_left
    have hall := head_all r
    by_cases hh : hasS r = true
    · rw [if_pos hh] at HI hcut
      rw [if_pos hh] at hrest
      have hlr : (headS r).length < r.length := by have := hlen hh; rw [List.length_append, List.length_cons] at this; omega
      have HT := Lib.hid (htake hh)
      have hdl : (restS r).length < r.length := rest_len r hh
      obtain ⟨fn, tmps, assign, body, hy, hR⟩ := hY pre (headS r) wr hJ0
      have HN := Lib.hid (show nm l = (pre ++ [headS r]) ++ nm (restS r) from by rw [hn, hcut]; simp)
      have HS := Lib.hid (hrest)
      generalize restS r = t at *
      generalize headS r = x at *
      obtain ⟨k, hk⟩ : ∃ k, x.length = k := ⟨_, rfl⟩
      rw [hk] at HI hlr HT HS
      have z1 : (0 : Int) ≤ (k : Int) := by omega
      have z2 : decide ((k : Int) < 0) = false := decide_eq_false (by omega)
      have hw0 : IntKind.i64.wrap (k : Int) = (k : Int) := by rw [IntKind.wrap_i64]; omega
      have hw : IntKind.i64.wrap ((k : Int) + 1) = (k : Int) + 1 := by rw [IntKind.wrap_i64]; omega
      have hs1 : ∀ u : World, (Instr.slice 9 (.string (mkS r)) none (some (.int .i64 (k : Int))) none).run Tryz.prog u = .ok (.string (mkS x)) u := fun u => by
        rw [sl_to r k u (by omega), HT.out]
      have hs2 : ∀ u : World, (Instr.slice 9 (.string (mkS r)) (some (.int .i64 ((k : Int) + 1))) none none).run Tryz.prog u = .ok (.string (mkS t)) u := fun u => by
        have := sl_from r (k + 1) u (by omega)
        rw [HS.out]
        simpa using this
      have HL := Lib.hid (And.intro hdl hr)
      clear hn hr hbr hJ0 hcut hrest hlen htake hall hh hk hdl
      dsimp only at hy
      gi_wp2_with (refine ⟨trivial, ?_⟩; gi_at_call 259; refine (callsIn_wide.2 HI.out).mono ?_; rintro e w' ⟨rfl, rfl⟩)
      refine hR.mono ?_
      rintro e W3 (⟨rfl, hJ3, hB3⟩ | ⟨rfl, hJx3⟩)
      · have hb3 := HBR.out.below hB3 h1 h2 h3
        have d1 := hb3.sep
        have d2 := hb3.rest
        have d3 := hb3.save
        have d4 := hb3.free
        have HB3 := Lib.hid hb3
        have HJ3 := Lib.hid hJ3
        clear hb3 hJ3 hB3
        gi_wp2
        go_roundw
        case rel => exact ⟨pre ++ [x], t, HN.out, Nat.le_of_lt (Nat.lt_of_lt_of_le HL.out.1 HL.out.2), HB3.out.set h12 h32 t, hJs _ _ _ HJ3.out⟩
        case measure => rw [leftB_eq (HB3.out.set h12 h32 t), leftB_eq HBR.out]; exact HL.out.1
      · gi_wp2
        refine bodyPost_ret (results_none rfl _ _ _) rfl ?_
        exact ⟨⟨_, rfl⟩, .inr ⟨pre ++ [x], ⟨nm t, HN.out.symm⟩, hJx3⟩⟩
    · have hh2 : hasS r = false := by simpa using hh
      rw [if_neg hh] at HI hcut
      have hx := hall hh2
      obtain ⟨fn, tmps, assign, body, hy, hR⟩ := hY pre r wr hJ0
      have HN := Lib.hid (show nm l = pre ++ [r] from by rw [hn, hcut, hx])
      clear hn hr hbr hJ0 hcut hrest hlen htake hall hh hh2 hx
      dsimp only at hy
      gi_wp2_with (refine ⟨trivial, ?_⟩; gi_at_call 259; refine (callsIn_wide.2 HI.out).mono ?_; rintro e w' ⟨rfl, rfl⟩)
      refine hR.mono ?_
      rintro e W3 (⟨rfl, hJ3, hB3⟩ | ⟨rfl, hJx3⟩)
      · gi_wp2
        go_end0
        exact ⟨⟨_, rfl⟩, .inl (by rw [HN.out]; exact hJ3)⟩
      · gi_wp2
        go_end0
        exact ⟨⟨_, rfl⟩, .inr ⟨pre ++ [r], ⟨[], by rw [List.append_nil, HN.out]⟩, hJx3⟩⟩
/-- strings.SplitSeq at "/": three boxes are laid. -/
theorem splitSeq_any (l : S8) (u : World) : Calls Tryz.prog 179 #[.string (mkS l), .string ⟨#[47]⟩] u fun e w' => e = .returned (.func (.func 257) #[] #[.pointer (some ⟨u.heap.size + 1, 0, none⟩), .pointer (some ⟨u.heap.size, 0, none⟩), .pointer (some ⟨u.heap.size + 2, 0, none⟩)]) ∧ w' = ((u.alloc (.cells #[.string (mkS l)] 9)).alloc (.cells #[.string ⟨#[47]⟩] 9)).alloc (.cells #[.int .i64 0] 3) := by
  have hmf : ∀ (fn : Fn) (first cap : Array Value) (w : World), (Instr.makeFunc fn first cap).run Tryz.prog w = .ok (.func fn first cap) w := fun _ _ _ _ => rfl
  have key : Calls Tryz.prog 218 #[.string (mkS l), .string ⟨#[47]⟩, .int .i64 0] u fun e w' => e = .returned (.func (.func 257) #[] #[.pointer (some ⟨u.heap.size + 1, 0, none⟩), .pointer (some ⟨u.heap.size, 0, none⟩), .pointer (some ⟨u.heap.size + 2, 0, none⟩)]) ∧ w' = ((u.alloc (.cells #[.string (mkS l)] 9)).alloc (.cells #[.string ⟨#[47]⟩] 9)).alloc (.cells #[.int .i64 0] 3) := by
    go_enter Tryz.func218, Tryz.ntmps218
    go_wp2
    go_ret
    exact ⟨rfl, rfl⟩
  have HC := Lib.hid key
  clear key
  go_enter Tryz.func179, Tryz.ntmps179
  go_wp2_with fail
  refine HC.out.mono ?_
  rintro e w' ⟨rfl, rfl⟩
  go_wp2
  go_ret
  exact ⟨rfl, rfl⟩
end Go.Proofs.YtnmopjefjpifoaaGreatDoor
/- strings.IndexFunc and strings.ContainsFunc at any function that holds of all runes from 128 on. -/
set_option maxRecDepth 100000
namespace Go.Proofs.YtnmopjefjpifoaaGreatDoor
open Go Go.RowKit
attribute [-go_sem] Sha.exec_store

/-- The function value answers whether P holds, at every rune, as long as what lay below N stands as in w0. -/
def Tells (N : Nat) (w0 : World) (g : Nat) (caps : Array Value) (P : Nat → Bool) : Prop := ∀ (r : Nat) (u : World), r ≤ 2147483647 → Below N w0 u → Calls Tryz.prog g (#[.int .i32 (r : Int)] ++ caps) u fun e w' => e = .returned (.bool (P r)) ∧ Below u.heap.size u w'
theorem below_iter {N k : Nat} {w x : World} {s : ByteArray} {pos : Nat} (h : Below N w x) (hk : N ≤ k) (hlt : k < x.heap.size) : Below N w (x.iterAt k s pos) :=
  ⟨h.os, h.tape, h.output, by rw [Lib.iterAt_size]; exact h.size, fun j hj => by rw [Lib.iterAt_other _ _ _ _ _ (by omega)]; exact h.block j hj⟩
set_option maxRecDepth 100000 in
set_option maxHeartbeats 1000000 in
theorem indexFunc_any (N : Nat) (w0 : World) (g : Nat) (caps : Array Value) (P : Nat → Bool) (hent : ∀ args w, (callFunc g args).run Tryz.prog w = .ok (.enter g args) w) (hT : Tells N w0 g caps P) (hP : ∀ r, 128 ≤ r → P r = true) (l : S8) (u : World) (hN : N ≤ u.heap.size) (hB0 : Below N w0 u) :
    Calls Tryz.prog 312 #[.string (mkS l), .func (.func g) #[] caps, .bool true] u fun e w' => (∃ i : Int, e = .returned (.int .i64 i) ∧ -1 ≤ i ∧ (0 ≤ i ↔ l.any (fun c => P c.toNat) = true)) ∧ Below u.heap.size u w' := by
  obtain ⟨s, hs⟩ : ∃ s, mkS l = s := ⟨_, rfl⟩
  have hsz : s.size = l.length := by rw [← hs, mkS_size]
  have hget : ∀ i (h : i < s.size), (s[i]).toNat = chr l i := by subst hs; exact fun i h => mkS_get l i h
  rw [hs]
  have HSZ := Lib.hid hsz
  have HGET := Lib.hid hget
  have HT := Lib.hid (fun (r : Nat) (x : World) (hr : r ≤ 2147483647) (hx : Below u.heap.size u x) => hT r x hr (hB0.trans (hx.mono hN)))
  have HP := Lib.hid hP
  clear hs hsz hget hT hP hB0 hN
  go_enter Tryz.func312, Tryz.ntmps312
  go_wp2
  go_loopw [7, 8] (fun va vb wr => ∃ pos : Nat, wr.heap[u.heap.size]? = some (.stringIter s pos) ∧ pos ≤ l.length ∧ (∀ j, j < pos → P (chr l j) = false) ∧ Below u.heap.size u wr) (fun va vb wr => l.length - wr.iterPos u.heap.size)
  case atStart => exact ⟨0, World.iter_heap _ _ _, Nat.zero_le _, fun j h => absurd h (by omega), (Below.refl _ _).alloc (Nat.le_refl _) _⟩
  case round =>
    obtain ⟨pos, hk, hle, hno, hB⟩ := hrel
    have HK := Lib.hid hk
    have HNO := Lib.hid hno
    have HB := Lib.hid hB
    have hlt := (Array.getElem?_eq_some_iff.1 hk).1
    by_cases hp : pos < s.size
    · have hpl : pos < l.length := by rw [← HSZ.out]; exact hp
      have hch := HGET.out pos hp
      obtain ⟨c, hc⟩ : ∃ c, chr l pos = c := ⟨_, rfl⟩
      rw [hc] at hch
      have hci : (l[pos]).toNat = c := by rw [← chr_eq hpl]; exact hc
      have hin : P c = true → l.any (fun c => P c.toNat) = true := fun h => by rw [List.any_eq_true]; exact ⟨l[pos], List.getElem_mem hpl, by rw [hci]; exact h⟩
      have HIN := Lib.hid hin
      by_cases ha : c < 128
      · have hnx : ∀ ty, (Instr.next (.pointer (some ⟨u.heap.size, 0, none⟩)) true ty).run Tryz.prog wr = .ok (.tuple #[.bool true, .int .i64 pos, .int .i32 (c : Int)]) (wr.iterAt u.heap.size s (pos + 1)) := fun ty => by
          rw [Lib.run_next_ascii_at wr u.heap.size s pos ty hk hp (by rw [hch]; exact ha), hch]
        have hB2 := below_iter (s := s) (pos := pos + 1) hB (Nat.le_refl _) hlt
        have hk2 := Lib.iterAt_heap wr u.heap.size s pos (pos + 1) hk
        generalize wr.iterAt u.heap.size s (pos + 1) = x at *
        have HB2 := Lib.hid hB2
        have HK2 := Lib.hid hk2
        have HC := Lib.hid (HT.out c x (by omega) HB2.out)
        have HIP := Lib.hid (iterPos_of hk)
        have HPL := Lib.hid hpl
        cases hPc : P c with
        | true =>
          rw [hPc] at HC
          have HI := Lib.hid (HIN.out hPc)
          clear hPc hin hno hB hk hB2 hk2 hci hch hc
          go_wp2_with (refine HC.out.mono ?_; rintro e x2 ⟨rfl, hB3⟩; have HB3 := Lib.hid (HB2.out.trans (hB3.mono HB2.out.size)); clear hB3)
          go_ret
          exact ⟨⟨_, rfl, by omega, fun _ => HI.out, fun _ => by omega⟩, HB3.out⟩
        | false =>
          rw [hPc] at HC
          have HNN := Lib.hid (show ∀ j, j < pos + 1 → P (chr l j) = false from fun j h => by
            rcases Nat.lt_succ_iff_lt_or_eq.1 h with h | h
            · exact HNO.out j h
            · rw [h, hc]; exact hPc)
          clear hPc hin hno hB hk hB2 hk2 hci hch hc
          go_wp2_with (refine HC.out.mono ?_; rintro e x2 ⟨rfl, hB3⟩; have HB3 := Lib.hid (HB2.out.trans (hB3.mono HB2.out.size)); have HK3 := Lib.hid (show x2.heap[u.heap.size]? = some (.stringIter s (pos + 1)) from by rw [hB3.block _ (Array.getElem?_eq_some_iff.1 HK2.out).1]; exact HK2.out); clear hB3)
          exact ⟨⟨pos + 1, HK3.out, by have := HPL.out; omega, HNN.out, HB3.out⟩, by rw [iterPos_of HK3.out, HIP.out]; have := HPL.out; omega⟩
      · have ha2 : 128 ≤ (s[pos]).toNat := by rw [hch]; omega
        have hd := (decode_high s pos hp ha2).1
        have hdl := decode_le s pos
        obtain ⟨r, hr⟩ : ∃ r, (Utf8.decode s pos).1 = r := ⟨_, rfl⟩
        obtain ⟨d, hdd⟩ : ∃ d, pos + (Utf8.decode s pos).2 = d := ⟨_, rfl⟩
        rw [hr] at hd hdl
        have hnx : ∀ ty, (Instr.next (.pointer (some ⟨u.heap.size, 0, none⟩)) true ty).run Tryz.prog wr = .ok (.tuple #[.bool true, .int .i64 pos, .int .i32 (r : Int)]) (wr.iterAt u.heap.size s d) := fun ty => by
          rw [Lib.run_next_any_at wr u.heap.size s pos ty hk hp, hr, hdd]
        have hB2 := below_iter (s := s) (pos := d) hB (Nat.le_refl _) hlt
        generalize wr.iterAt u.heap.size s d = x at *
        have HB2 := Lib.hid hB2
        have HC := Lib.hid (HT.out r x hdl HB2.out)
        rw [HP.out r hd] at HC
        have HI := Lib.hid (HIN.out (HP.out c (by omega)))
        clear hin hno hB hk hB2 hci hch hc hr hdd ha2 hdl
        go_wp2_with (refine HC.out.mono ?_; rintro e x2 ⟨rfl, hB3⟩; have HB3 := Lib.hid (HB2.out.trans (hB3.mono HB2.out.size)); clear hB3)
        go_ret
        exact ⟨⟨_, rfl, by omega, fun _ => HI.out, fun _ => by omega⟩, HB3.out⟩
    · have hnx : ∀ ty, (Instr.next (.pointer (some ⟨u.heap.size, 0, none⟩)) true ty).run Tryz.prog wr = .ok (.tuple #[.bool false]) wr := fun ty => Lib.run_next_end_at wr u.heap.size s pos ty hk hp
      have HI := Lib.hid (show l.any (fun c => P c.toNat) = false from by
        rw [List.any_eq_false]
        intro c hc
        obtain ⟨j, hj, rfl⟩ := List.getElem_of_mem hc
        have := hno j (by rw [HSZ.out] at hp; omega)
        rw [chr_eq hj] at this
        simp [this])
      clear hno hB hk
      go_wp2
      go_ret
      exact ⟨⟨_, rfl, by decide, fun h => absurd h (by decide), fun h => by rw [HI.out] at h; cases h⟩, HB.out⟩
set_option maxHeartbeats 1000000 in
theorem IndexFunc_any (N : Nat) (w0 : World) (g : Nat) (caps : Array Value) (P : Nat → Bool) (hent : ∀ args w, (callFunc g args).run Tryz.prog w = .ok (.enter g args) w) (hT : Tells N w0 g caps P) (hP : ∀ r, 128 ≤ r → P r = true) (l : S8) (u : World) (hN : N ≤ u.heap.size) (hB0 : Below N w0 u) :
    Calls Tryz.prog 293 #[.string (mkS l), .func (.func g) #[] caps] u fun e w' => (∃ i : Int, e = .returned (.int .i64 i) ∧ -1 ≤ i ∧ (0 ≤ i ↔ l.any (fun c => P c.toNat) = true)) ∧ Below u.heap.size u w' := by
  have HC := Lib.hid (indexFunc_any N w0 g caps P hent hT hP l u hN hB0)
  clear hent hT hP hB0 hN
  go_enter Tryz.func293, Tryz.ntmps293
  go_wp2_with fail
  refine HC.out.mono ?_
  rintro e w2 ⟨⟨i, rfl, h1, h2⟩, hB⟩
  have HX := Lib.hid (And.intro h1 (And.intro h2 hB))
  clear h1 h2 hB HC
  go_wp2
  go_ret
  exact ⟨⟨i, rfl, HX.out.1, HX.out.2.1⟩, HX.out.2.2⟩
set_option maxHeartbeats 1000000 in
theorem ContainsFunc_any (N : Nat) (w0 : World) (g : Nat) (caps : Array Value) (P : Nat → Bool) (hent : ∀ args w, (callFunc g args).run Tryz.prog w = .ok (.enter g args) w) (hT : Tells N w0 g caps P) (hP : ∀ r, 128 ≤ r → P r = true) (l : S8) (u : World) (hN : N ≤ u.heap.size) (hB0 : Below N w0 u) :
    Calls Tryz.prog 260 #[.string (mkS l), .func (.func g) #[] caps] u fun e w' => e = .returned (.bool (l.any (fun c => P c.toNat))) ∧ Below u.heap.size u w' := by
  have HC := Lib.hid (IndexFunc_any N w0 g caps P hent hT hP l u hN hB0)
  clear hent hT hP hB0 hN
  go_enter Tryz.func260, Tryz.ntmps260
  go_wp2_with fail
  refine HC.out.mono ?_
  rintro e w2 ⟨⟨i, rfl, h1, h2⟩, hB⟩
  have HB := Lib.hid hB
  clear hB HC
  by_cases h : 0 ≤ i
  · have HA := Lib.hid (h2.1 h)
    have hd : decide (0 ≤ i) = true := decide_eq_true h
    clear h2
    go_wp2
    go_ret
    exact ⟨by rw [HA.out]; rfl, HB.out⟩
  · have HA := Lib.hid (show l.any (fun c => P c.toNat) = false from by
      cases hh : l.any (fun c => P c.toNat) with
      | true => exact absurd (h2.2 hh) h
      | false => rfl)
    have hd : decide (0 ≤ i) = false := decide_eq_false h
    clear h2
    go_wp2
    go_ret
    exact ⟨by rw [HA.out]; rfl, HB.out⟩
end Go.Proofs.YtnmopjefjpifoaaGreatDoor
/- strings.IndexRune and strings.ContainsRune at whatever rune, over a string of five ASCII bytes; what a name may have, what a digest's text may have. -/
set_option maxRecDepth 100000
namespace Go.Proofs.YtnmopjefjpifoaaGreatDoor
open Go Go.RowKit
attribute [-go_sem] Sha.exec_store

theorem bytesL (l : S8) : (mkS l).data.toList = l := by rw [← ByteArray.toList_eq, mkS_toList]
/-- The library's search for one byte, in the model. -/
theorem ixc (l : S8) (c : Int) (w : World) : (callFunc 318 #[.string (mkS l), .int .u8 c]).run Tryz.prog w = .ok (.value (.int .i64 (Lib.indexByte l c.toNat.toUInt8))) w := by
  have h := run_callFunc_extern (P := Tryz.prog) (f := 318) (e := Extern.BytealgIndexByte.indexByte) Tryz.func318 (by kernel_rfl) (by kernel_rfl) (by kernel_rfl) (by kernel_rfl) #[.string (mkS l), .int .u8 c] w
  rw [h, Lib.run_indexByteString (P := Tryz.prog), bytesL]
  rfl
attribute [local go_sem] ixc
theorem indexByte_lite (l : S8) (c : Int) (w : World) : Calls Tryz.prog 308 #[.string (mkS l), .int .u8 c] w fun e w' => e = .returned (.int .i64 (Lib.indexByte l c.toNat.toUInt8)) ∧ w = w' := by
  go_enter Tryz.func308, Tryz.ntmps308
  go_wp2
  go_ret
  exact ⟨rfl, rfl⟩
theorem indexByte_any (l : S8) (c : Int) (w : World) : Calls Tryz.prog 313 #[.string (mkS l), .int .u8 c] w fun e w' => e = .returned (.int .i64 (Lib.indexByte l c.toNat.toUInt8)) ∧ w = w' := by
  have HC := Lib.hid (indexByte_lite l c w)
  generalize Lib.indexByte l c.toNat.toUInt8 = x at *
  go_enter Tryz.func313, Tryz.ntmps313
  go_wp2_with fail
  refine HC.out.mono ?_
  rintro e w' ⟨rfl, rfl⟩
  go_wp2
  go_ret
  exact ⟨rfl, rfl⟩
theorem indexByte_has (l : S8) (c : UInt8) : (0 ≤ Lib.indexByte l c) = (l.contains c = true) ∧ -1 ≤ Lib.indexByte l c := by
  induction l with
  | nil => exact ⟨by simp [Lib.indexByte], by simp [Lib.indexByte]⟩
  | cons b r ih =>
    obtain ⟨i1, i2⟩ := ih
    unfold Lib.indexByte
    by_cases h : b = c
    · subst h; simp
    · have hb : (b == c) = false := beq_eq_false_iff_ne.2 h
      have hcb : (c == b) = false := beq_eq_false_iff_ne.2 (fun e => h e.symm)
      rw [List.contains_cons, hcb, Bool.false_or, ← i1, hb]
      by_cases h1 : Lib.indexByte r c = -1
      · have e1 : (Lib.indexByte r c == -1) = true := by rw [h1]; rfl
        simp [e1, h1]
      · have e1 : (Lib.indexByte r c == -1) = false := beq_eq_false_iff_ne.2 h1
        rw [e1]
        simp only [Bool.false_eq_true, if_false]
        exact ⟨propext (by omega), by omega⟩
theorem indexByte_none {l : S8} {c : UInt8} (h : ∀ b ∈ l, b ≠ c) : Lib.indexByte l c = -1 := by
  obtain ⟨h1, h2⟩ := indexByte_has l c
  have : ¬ l.contains c = true := by simpa using fun hc => h c hc rfl
  rw [← h1] at this
  omega
set_option maxRecDepth 1000000 in
set_option maxHeartbeats 2000000 in
/-- A rune of ASCII. -/
theorem indexRune_lo (l : S8) (r : Nat) (w : World) (hr : r < 128) : Calls Tryz.prog 294 #[.string (mkS l), .int .i32 (r : Int)] w fun e w' => e = .returned (.int .i64 (Lib.indexByte l (UInt8.ofNat r))) ∧ w = w' := by
  have HC := Lib.hid (show Calls Tryz.prog 313 #[.string (mkS l), .int .u8 (r : Int)] w _ from indexByte_any l (r : Int) w)
  have e : ((r : Int).toNat.toUInt8) = UInt8.ofNat r := by simp [Nat.toUInt8]
  rw [e] at HC
  generalize Lib.indexByte l (UInt8.ofNat r) = x at *
  have z1 : (r : Int) < 128 := by omega
  have z2 : decide ((r : Int) < 128) = true := decide_eq_true z1
  have z3 : IntKind.u8.wrap (r : Int) = (r : Int) := by unfold IntKind.wrap; simp [IntKind.bits, IntKind.signed]; omega
  go_enter Tryz.func294, Tryz.ntmps294
  go_wp2_with fail
  refine HC.out.mono ?_
  rintro e w' ⟨rfl, rfl⟩
  go_wp2
  go_ret
  exact ⟨rfl, rfl⟩
theorem valid_any (r : Int) (w : World) : Calls Tryz.prog 314 #[.int .i32 r] w fun e w' => e = .returned (.bool (Utf8.valid r)) ∧ w = w' := by
  rw [validRune_eq]
  obtain ⟨v, hv⟩ : ∃ v, validRune r = v := ⟨_, rfl⟩
  rw [hv]
  unfold validRune at hv
  by_cases h1 : 0 ≤ r ∧ r < 55296
  · obtain rfl : v = true := hv.symm.trans (decide_eq_true (Or.inl h1))
    obtain ⟨a1, a2⟩ := h1
    clear hv
    go_enter Tryz.func314, Tryz.ntmps314
    go_wp2
    go_ret
    exact ⟨rfl, rfl⟩
  · by_cases h2 : 57343 < r ∧ r ≤ 1114111
    · obtain rfl : v = true := hv.symm.trans (decide_eq_true (Or.inr h2))
      obtain ⟨a1, a2⟩ := h2
      have a3 : ¬ r < 55296 := by omega
      have a4 : 0 ≤ r := by omega
      clear h1 hv
      go_enter Tryz.func314, Tryz.ntmps314
      go_wp2
      go_ret
      exact ⟨rfl, rfl⟩
    · obtain rfl : v = false := hv.symm.trans (decide_eq_false (fun h => h.elim h1 h2))
      clear hv
      by_cases b1 : 0 ≤ r
      · have b2 : ¬ r < 55296 := fun h => h1 ⟨b1, h⟩
        by_cases b3 : 57343 < r
        · have b4 : ¬ r ≤ 1114111 := fun h => h2 ⟨b3, h⟩
          clear h1 h2
          go_enter Tryz.func314, Tryz.ntmps314
          go_wp2
          go_ret
          exact ⟨rfl, rfl⟩
        · clear h1 h2
          go_enter Tryz.func314, Tryz.ntmps314
          go_wp2
          go_ret
          exact ⟨rfl, rfl⟩
      · have b3 : ¬ 57343 < r := by omega
        clear h1 h2
        go_enter Tryz.func314, Tryz.ntmps314
        go_wp2
        go_ret
        exact ⟨rfl, rfl⟩
/-- Bytes of ASCII, five of them. -/
def Low5 (l : S8) : Prop := l.length = 5 ∧ ∀ c ∈ l, c.toNat < 128
theorem Low5.get {l : S8} (h : Low5 l) (i : Nat) (hi : i < l.length) : chr l i < 128 := by
  rw [chr_eq hi]
  exact h.2 _ (List.getElem_mem hi)
set_option maxRecDepth 1000000 in
set_option maxHeartbeats 2000000 in
/-- A rune that is no rune. -/
theorem indexRune_no (l : S8) (r : Nat) (w : World) (hr : 128 ≤ r) (hf : r ≠ 65533) (hv : Utf8.valid (r : Int) = false) : Calls Tryz.prog 294 #[.string (mkS l), .int .i32 (r : Int)] w fun e w' => e = .returned (.int .i64 (-1)) ∧ w = w' := by
  have HV := Lib.hid (valid_any (r : Int) w)
  rw [hv] at HV
  have z0 : (0 : Int) ≤ (r : Int) := by omega
  have z1 : ¬ (r : Int) < 128 := by omega
  have z2 : decide ((r : Int) < 128) = false := decide_eq_false z1
  have z3 : ((r : Int) == 65533) = false := by simp; omega
  clear hv hr hf
  go_enter Tryz.func294, Tryz.ntmps294
  go_wp2_with fail
  refine HV.out.mono ?_
  rintro e w' ⟨rfl, rfl⟩
  go_wp2
  go_ret
  exact ⟨rfl, rfl⟩
end Go.Proofs.YtnmopjefjpifoaaGreatDoor
