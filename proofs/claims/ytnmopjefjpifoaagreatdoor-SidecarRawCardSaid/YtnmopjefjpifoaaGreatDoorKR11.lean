/- Merged texts: Bda12, Mee12, Meu12, Szd12, Knd12, Mkr12, Awk12, Awq12, Rea10, RefS7, RefK7, Gdm10. -/
import Derived.Test.YtnmopjefjpifoaaGreatDoorKR10
import Derived.ChangeBookTie2
import Derived.Test.YtnmopjefjpifoaaGreatDoorKR7
import Derived.Test.YtnmopjefjpifoaaGreatDoorKR9
import Derived.Test.YtnmopjefjpifoaaGreatDoorKR6
import Derived.Test.YtnmopjefjpifoaaGreatDoorKR4
import Derived.Deep.RegionHeld3
set_option linter.unusedSimpArgs false
set_option linter.unusedVariables false
/- record.Bad of any bytes of the record's size. -/
set_option maxRecDepth 100000
namespace Go.Proofs.YtnmopjefjpifoaaGreatDoor
open Go Go.RowKit Go.Shelf

attribute [-go_sem] Sha.exec_store
theorem elI12 : ElK 70 3 (.int .i64 0) 1 8 := ⟨by kernel_rfl, by kernel_rfl, rfl, by decide, by decide⟩
theorem push_I12 (w : World) (ty : TypeId) (base : Nat) (v : Value) (l : List Nat) (hown : OwnIV w base v l) (g o : Nat) (u : Nat) (hc : w.cell? ⟨g, o, none⟩ = some (.int .i64 (u : Int))) (hlen : l.length < 10000000) (hb : base ≤ w.heap.size) :
    ∃ q cap w', (Builtin.append_ #[70, 70] ty #[v, .slice (some ⟨g, o, none⟩) 1 1]).run Tryz.prog w = .ok (.slice q (l.length + 1) cap) w' ∧ OwnIV w' base (.slice q (l.length + 1) cap) (l ++ [u]) ∧ w.grownBy w' v.ownBlock := by
  obtain ⟨v', w', hr, h2, h3, -⟩ := append_ownK elI12 w base ty hown (some ⟨g, o, none⟩) 1 1 [vI u] rfl (fun j hj => by
    have : j = 0 := by simp at hj; omega
    subst this
    exact ⟨g, o, rfl, by rw [Nat.add_zero, hc]; rfl⟩) (fun e => by cases e) (fun y hy => by simp at hy; subst hy; rfl) (by omega) hb
  have h5 : OwnIV w' base v' (l ++ [u]) := by
    unfold OwnIV
    rw [List.length_append, List.map_append]
    exact h2
  obtain ⟨q, cap, e, -⟩ := h5.cells
  have e' : v' = .slice q (l.length + 1) cap := by rw [e, List.length_append]; rfl
  subst e'
  exact ⟨q, cap, w', hr, h5, h3⟩
theorem wplIn_pushI12 {F : Fence} {m : Nat} {ops : Array Oper} {rest : List Oper} {o : Oper} {a : Act} {Q : Exit → Act → World → Prop} (w : World) (hgd : o.guard = none) (s x : Operand)
    (ho : o.op = .call { callee := .builtin .append, args := #[s, x], argTypes := #[70, 70] })
    (base : Nat) (v : Value) (l : List Nat) (hs : a.eval s = v) (hown : OwnIV w base v l) (g o' : Nat) (hx : a.eval x = .slice (some ⟨g, o', none⟩) 1 1) (u : Nat) (hc : w.cell? ⟨g, o', none⟩ = some (.int .i64 (u : Int)))
    (n0 : Nat) (hn0 : l.length = n0) (hlen : n0 < 10000000) (hb : base ≤ w.heap.size)
    (h : ∀ q cap w', OwnIV w' base (.slice q (n0 + 1) cap) (l ++ [u]) → w.grownBy w' v.ownBlock → wpListIn F m Tryz.prog ops Q rest (a.put o.dst (.slice q (n0 + 1) cap)) w') : wpListIn F m Tryz.prog ops Q (o :: rest) a w := by
  subst hn0
  refine wpListIn_plain hgd fun K hK => ?_
  obtain ⟨q, cap, w', hr, h2, h3⟩ := push_I12 w o.type base v l hown g o' u hc hlen hb
  have hsem : o.semAt F.round a.eval = execOp a.eval o := Oper.semAt_eq _ _ _ (fun c e => by rw [ho] at e; cases e)
  unfold Oper.wpIn
  refine ⟨fun f hf => ?_, ?_⟩
  · exfalso
    unfold Oper.about at hf
    simp only [ho, resolve, Sem.run_bind, Sem.run_pure, Result.andThen_ok, Target.leads] at hf
    cases hf
  · rw [hsem]
    unfold execOp
    simp only [ho, resolve, invoke, builtin, Sem.run_bind, Sem.run_pure, Result.andThen_ok, List.map_toArray, List.map_cons, List.map_nil, hs, hx, hr]
    exact hK _ _ (h q cap w' h2 h3)
/-- What the walk of Bad carries: the bad ones so far. -/
def InvBg (w : World) (N : Nat) (r : Rc) (hb : Nat → Bool) (pre : List Nat) (A : World) : Prop :=
  ∃ v, A.cell? ⟨N + 1, 0, none⟩ = some v ∧ A.frozen? ⟨N + 1, 0, none⟩ = false ∧ OwnIV A (N + 5) v (badL pre.length hb) ∧ (∃ q n c, v = .slice q n c) ∧ Row A N 44 54 (rcF r) ∧ Below w.heap.size w A ∧ N + 3 ≤ A.heap.size
theorem InvBg.of_below {w : World} {N : Nat} {r : Rc} {hb : Nat → Bool} {pre : List Nat} {A A' : World} (h : InvBg w N r hb pre A) (hB : Below A.heap.size A A') : InvBg w N r hb pre A' := by
  obtain ⟨v, h1, h2, h3, h4, h5, h6, h7⟩ := h
  have hlt := World.block_lt_of_cell? A _ h1
  exact ⟨v, by rw [hB.cell (by exact hlt)]; exact h1, by rw [hB.frozen (by exact hlt)]; exact h2, h3.of_below hB, h4, h5.of_below hB, h6.trans (hB.mono h6.size), Nat.le_trans h7 hB.size⟩
theorem InvBg.put {w : World} {N : Nat} {r : Rc} {hb : Nat → Bool} {pre : List Nat} {A : World} {o : Obj} (h : InvBg w N r hb pre A) (hw : w.heap.size = N) (hlt : N + 4 < A.heap.size) : InvBg w N r hb pre (A.putObj (N + 4) o) := by
  obtain ⟨v, h1, h2, h3, h4, h5, h6, h7⟩ := h
  have hB := below_putP (N := N + 3) (A := A) o (show N + 3 ≤ N + 4 by omega) hlt
  have hg := grownBy_putObj' A (N + 4) o
  exact ⟨v, by rw [hB.cell (by show N + 1 < _; omega)]; exact h1, by rw [hB.frozen (by show N + 1 < _; omega)]; exact h2, h3.keep (fun g e => hg.block g (h3.lt g e).2 (fun e2 => by have := (h3.lt g e).1; injection e2 with e2; omega)), h4, h5.of_block (hB.block N (by omega)), h6.trans (hB.mono (by omega)), Nat.le_trans h7 hB.size⟩
theorem InvBg.bears (w : World) (N : Nat) (r : Rc) (hb : Nat → Bool) (hw : w.heap.size = N) : BearsP (N + 3) (InvBg w N r hb) :=
  ⟨fun pre A o h => h.of_below (below_newD _ _), fun pre A o hlt h => h.put hw hlt, fun pre A k h => h.of_below ((show Dr A (A.drewN k) from ⟨k, rfl⟩).below _)⟩
theorem bs1I12 (x : Int) (w : World) : (bsT 70 1 #[(0, .int .i64 x)]).run Tryz.prog w = .ok (.value (.slice (some ⟨w.heap.size, 0, none⟩) 1 1)) (w.alloc (.cells #[.int .i64 x] 3)) := by kernel_rfl
attribute [local go_sem ↓] exec_boxA exec_loadA exec_indexA exec_allocA exec_storeA exec_buildA exec_eqlA exec_neqA exec_boxV exec_loadV exec_indexV exec_allocV exec_storeV exec_buildV exec_eqlV exec_neqV
attribute [local go_sem] boxA indexA storeNewA buildA eqlA neqA boxV indexV storeNewV buildV eqlV neqV
attribute [local go_sem ↓] exec_loadS exec_boxS exec_boxP exec_boxM exec_loadP exec_load32 exec_build32 exec_eqlD exec_neqD exec_bs
attribute [local go_sem] box_stamp boxP boxM bd32 eqlD neqD deq_self bsSl

attribute [local go_sem] Oper.semAt_some bs1I12
set_option maxRecDepth 100000 in
set_option maxHeartbeats 8000000 in
/-- Which blocks are bad. -/
theorem bad12_any (r : Rc) (ds : List By) (l : By) (q : Option Addr) (n cap : Nat) (w : World) (h : DgAt w r ds) (hdn : ds.length = nblk n) (hsz : r.size = (n : Int)) (hl : l.length = n) (hs : Sl w q l) (hc : n ≤ cap) (hn : n < 1000000) (hT : Tb w) :
    Calls Tryz.prog 87 #[rcV r, .slice q n cap] w fun e w' => ∃ v, e = .returned v ∧ OwnIV w' w.heap.size v (badL (nblk n) (fun i => deq (digL (blkL l i)) (ds.getD i []))) ∧ Below w.heap.size w w' := by
  obtain ⟨hb, hhb⟩ : ∃ h : Nat → Bool, (fun i => deq (digL (blkL l i)) (ds.getD i [])) = h := ⟨_, rfl⟩
  rw [hhb]
  refine (callsIn_wide (n := 7)).1 ?_
  refine callsIn_of_wp_marks Tryz.func87 rfl trivial ?_ rfl
  simp only [Tryz.ntmps87, List.size_toArray, List.length_cons, List.length_nil, Nat.reduceAdd, Nat.reduceSub, Array.replicate_succ, Array.replicate_zero, List.push_toArray, List.append_toArray, List.nil_append, List.cons_append]
  obtain ⟨N, hN⟩ : ∃ N, w.heap.size = N := ⟨_, rfl⟩
  obtain ⟨W0, hW0⟩ : ∃ W, w.alloc (.cells (tab 54 (rcF r)) 44) = W := ⟨_, rfl⟩
  obtain ⟨V, hV⟩ : ∃ V, rcV r = V := ⟨_, rfl⟩
  have x1 : (bxT 44 V).run Tryz.prog w = .ok (.value (.pointer (some ⟨w.heap.size, 0, none⟩))) W0 := by rw [← hV, ← hW0]; exact boxP w r
  have hB0 : Below w.heap.size w W0 := by rw [← hW0]; exact below_newD _ _
  have hR0 : Row W0 N 44 54 (rcF r) := by rw [← hN, ← hW0]; exact Row.new w _ 54 _
  have s0 : W0.heap.size = N + 1 := by rw [← hW0]; simp [hN]
  obtain ⟨W1, hW1⟩ : ∃ W1, W0.alloc (.cells #[.slice none 0 0] 70) = W1 := ⟨_, rfl⟩
  obtain ⟨W2, hW2⟩ : ∃ W2, W1.alloc (.cells #[.slice q n cap] 53) = W2 := ⟨_, rfl⟩
  have s1 : W1.heap.size = N + 2 := by rw [← hW1]; simp [s0]
  have s2 : W2.heap.size = N + 3 := by rw [← hW2]; simp [s1]
  have hB1 : Below W0.heap.size W0 W1 := by rw [← hW1]; exact below_newD _ _
  have hB2 : Below W1.heap.size W1 W2 := by rw [← hW2]; exact below_newD _ _
  have hB12 : Below W0.heap.size W0 W2 := hB1.trans (hB2.mono hB1.size)
  have c1 : W2.cell? ⟨N + 2, 0, none⟩ = some (.slice q n cap) := by rw [← hW2, ← s1]; exact World.cell?_alloc_new _ _ _ _
  have c0 : W2.cell? ⟨N + 1, 0, none⟩ = some (.slice none 0 0) := by rw [hB2.cell (by show N + 1 < _; omega), ← hW1, ← s0]; exact World.cell?_alloc_new _ _ _ _
  have f0 : W2.frozen? ⟨N + 1, 0, none⟩ = false := by rw [hB2.frozen (by show N + 1 < _; omega), ← hW1, ← s0]; exact (new_cP W0 (.slice none 0 0) 70).2
  have inv0 : InvBg w N r hb [] W2 := ⟨_, c0, f0, OwnIV.nil _ _, ⟨_, _, _, rfl⟩, hR0.of_below hB12, hB0.trans (hB12.mono hB0.size), by omega⟩
  have HSEQ := Lib.hid (blocks_seq 6 (by decide) (N + 2) q n cap W2 c1 hn hc)
  have HHAS := Lib.hid (show ∀ (i : Nat), i < nblk n → ∀ (u : World), Below w.heap.size w u → Calls Tryz.prog 155 #[rcV r, .int .i64 (i : Int), .slice (q.map (·.add (256 * i))) (blen n i) (blen n i)] u fun e w' => e = .returned (.bool (hb i)) ∧ Below u.heap.size u w' from fun i hi u hu => by
    have hi2 : i < 100000 := by unfold nblk at hi; omega
    have hi3 : i < ds.length := by omega
    have hz : ((256 * i + blen n i : Nat) : Int) ≤ r.size := by rw [hsz]; have := nblk_lt hi; unfold blen; omega
    have hm : (blkL l i).length = blen n i := by rw [blkL_len, hl]
    have hg := hasG12 r ds (blkL l i) i (q.map (·.add (256 * i))) (blen n i) (blen n i) u (h.of_below hu) hi3 hm (blkL_sl (hs.of_below hu) i) hz hi2 (blen_le n i) (hT.on hu)
    have e : deq (digL (blkL l i)) (ds.getD i []) = hb i := congrFun hhb i
    rw [e] at hg
    exact hg)
  rw [hV] at HHAS
  have hrn : r.n = nblk n := by rw [h.n, hdn]
  have HRN := Lib.hid hrn
  have HV := Lib.hid hV
  have HN := Lib.hid hN
  have hnb : nblk n < 100000 := by unfold nblk; omega
  have HCT := Lib.hid (fun u => count_any n u (by omega))
  clear hrn h hsz hl hs hT hB0 hR0 hB1 hB2 hB12 c0 f0 c1 hhb
  rw [hV]
  rw [hN] at x1
  gi_wp2_with (refine ⟨trivial, ?_⟩; gi_at_call 154; refine (callsIn_wide.2 (blocks_any q n cap _)).mono ?_; rintro e w' ⟨rfl, rfl⟩)
  try rw [hW1]
  try rw [hW2]
  try rw [s0]
  try rw [s1]
  clear hW0 hW1 hW2 hV x1
  refine range_pure (m := 7) (by decide) (gf := 204) (lb := #[.pointer (some ⟨N + 2, 0, none⟩)]) (by rfl) (enters_of Tryz.func204 (by kernel_rfl) rfl)
    (encs := fun i : Nat => #[.int .i64 (i : Int), blkS q n i]) (fun _ => rfl) (b := N + 2) (by omega) HSEQ.out
    (InvBg w N r hb) (fun _ _ => False) (by have := InvBg.bears w N r hb hN; rw [← s2] at this; exact this) (fun _ _ _ _ h => h) inv0
    (fun i => { tmps := #[V, .slice q n cap, .pointer (some ⟨N, 0, none⟩), undef, .slice none 0 0, .pointer (some ⟨N + 1, 0, none⟩), .int .i64 (i : Int), blkS q n i, undef, .slice q n cap, .func (.func 204) #[] #[.pointer (some ⟨N + 2, 0, none⟩)], .int .i64 (i : Int), blkS q n i, undef, undef, undef, undef, undef, undef, undef, undef, undef, undef, undef, undef, undef, undef, undef, undef, undef, undef, undef, undef, undef, undef, undef, undef], defers := [] }) ?assign ?body ?done ?stop
  case assign =>
    intro L x A K hK
    gi_wp2
    exact hK
  case body =>
    rintro L pre i A hpx hNA hinv
    rw [s2] at hNA
    obtain ⟨hik, -, hpl⟩ := pre_range hpx
    have HI := Lib.hid hinv
    obtain ⟨v, hc0, hf0, hO, ⟨qv, nv, cv, rfl⟩, hRA, hBA, hN3⟩ := hinv
    have l1 := loadP_at hRA
    rw [HV.out] at l1
    have HX := Lib.hid (HHAS.out i hik A hBA)
    have hbS : blkS q n i = .slice (q.map (·.add (256 * i))) (blen n i) (blen n i) := rfl
    have HPL := Lib.hid hpl
    have HO := Lib.hid hO
    have HRA := Lib.hid hRA
    have HBA := Lib.hid hBA
    have HNA := Lib.hid hNA
    have hi5 : i < 100000 := by omega
    clear hpx hik hpl hO hRA hBA hN3 hNA
    have HSU := Lib.hid (badL_succ pre.length hb)
    rcases hbi : hb i with _ | _
    · rw [hbi] at HX
      have HBI := Lib.hid hbi
      have HNV := Lib.hid (show (badL pre.length hb).length = nv ∧ nv < 100000 from by
        obtain ⟨p', c', e', -⟩ := HO.out.cells
        injection e' with _ e2 _
        have := badL_len pre.length hb
        have := HPL.out
        exact ⟨e2.symm, by omega⟩)
      clear hbi
      gi_wp2_with (first | (refine ⟨trivial, ?_⟩; gi_at_call 155; refine (CallsIn.inRound L (callsIn_wide.2 HX.out)).mono ?_; rintro e A2 ⟨rfl, hB⟩; have hc2 : A2.cell? ⟨N + 1, 0, none⟩ = some (.slice qv nv cv) := (by rw [hB.cell (by exact World.block_lt_of_cell? A _ hc0)]; exact hc0); have hf2 : A2.frozen? ⟨N + 1, 0, none⟩ = false := (by rw [hB.frozen (by exact World.block_lt_of_cell? A _ hc0)]; exact hf0); have HB2 := Lib.hid hB; have hb3 := below_newR A2 (.cells #[.int .i64 (i : Int)] 3); have hc3 : (A2.alloc (.cells #[.int .i64 (i : Int)] 3)).cell? ⟨A2.heap.size, 0, none⟩ = some (.int .i64 (i : Int)) := World.cell?_alloc_new _ _ _ _; have HB3 := Lib.hid (hB.trans (hb3.mono hB.size)); have HC2 := Lib.hid (And.intro hc2 hf2); have HO3 := Lib.hid (HO.out.of_below HB3.out); clear hB hb3) | (refine wplIn_pushI12 _ rfl (.tmp 18) (.tmp 20) rfl (N + 5) (.slice qv nv cv) (badL pre.length hb) rfl HO3.out A2.heap.size 0 rfl i hc3 nv HNV.out.1 (by have := HNV.out.2; omega) (by have := HB3.out.size; have := HNA.out; omega) ?_; rintro q4 c4 w4 hO4 hg4; have hne : some (N + 1) ≠ (Value.slice qv nv cv).ownBlock := (fun e => by have := (HO3.out.lt (N + 1) e.symm).1; omega); have hlt3 : N + 1 < (A2.alloc (.cells #[.int .i64 (i : Int)] 3)).heap.size := (by have := HB3.out.size; have := HNA.out; omega); have hbk : w4.heap[N + 1]? = A2.heap[N + 1]? := (by rw [hg4.block (N + 1) hlt3 hne]; exact (below_newR A2 _).block _ (World.block_lt_of_cell? A2 _ HC2.out.1)); have hc4 : w4.cell? ⟨N + 1, 0, none⟩ = some (.slice qv nv cv) := (by rw [World.cell?_of_block (w := A2) hbk]; exact HC2.out.1); have hf4 : w4.frozen? ⟨N + 1, 0, none⟩ = false := (by rw [World.frozen?_of_block (w := A2) hbk]; exact HC2.out.2); have HO4 := Lib.hid hO4; have HG4 := Lib.hid hg4; clear hO4 hg4 hne hlt3 hbk))
      have hnc : ∀ g, (Value.slice qv nv cv).ownBlock = some g → N + 5 ≤ g := fun g e => (HO3.out.lt g e).1
      have hz3 : N + 4 < (A2.alloc (.cells #[.int .i64 (i : Int)] 3)).heap.size := Nat.lt_of_lt_of_le HNA.out HB3.out.size
      have hB4 : Below (N + 5) A w4 := (HB3.out.mono (show N + 5 ≤ A.heap.size from HNA.out)).grown HG4.out (by omega) (fun k hk => hnc k hk)
      have h5 : ¬ hb pre.length = true := by rw [← HPL.out, HBI.out]; simp
      have hpl2 : (pre ++ [i]).length = pre.length + 1 := by simp
      have eb : badL (pre ++ [i]).length hb = badL pre.length hb ++ [i] := by rw [hpl2, HSU.out, if_neg h5, HPL.out]
      have hw5 : w.heap.size ≤ N + 5 := by rw [HN.out]; omega
      refine ⟨((others_belowP HB3.out).trans (KeepsOthers.grown_own HO3.out HG4.out)).trans (KeepsOthers.setCell _ _ _), (Below.heap_setCell _ _ _ _ (show N + 2 ≠ N + 1 by omega)).trans (hB4.block (N + 2) (by omega)), ?_⟩
      unfold InvBg
      rw [eb]
      exact ⟨_, World.cell?_setCell_same _ _ _ hc4, by rw [World.frozen?_setCell]; exact hf4, HO4.out.keep (fun g e => Below.heap_setCell _ _ _ _ (show g ≠ N + 1 by have := (HO4.out.lt g e).1; omega)), ⟨_, _, _, rfl⟩, HRA.out.of_block ((Below.heap_setCell _ _ _ _ (show N ≠ N + 1 by omega)).trans (hB4.block N (by omega))), (HBA.out.trans (hB4.mono hw5)).setCell (show w.heap.size ≤ (⟨N + 1, 0, none⟩ : Addr).block by rw [HN.out]; show N ≤ N + 1; omega) _, by have := hB4.size; have := HNA.out; simp; omega⟩
    · rw [hbi] at HX
      have HBI := Lib.hid hbi
      clear hbi
      gi_wp2_with (first | (refine ⟨trivial, ?_⟩; gi_at_call 155; refine (CallsIn.inRound L (callsIn_wide.2 HX.out)).mono ?_; rintro e A2 ⟨rfl, hB⟩; have hc2 : A2.cell? ⟨N + 1, 0, none⟩ = some (.slice qv nv cv) := (by rw [hB.cell (by exact World.block_lt_of_cell? A _ hc0)]; exact hc0); have HB2 := Lib.hid hB; clear hB))
      have hpl2 : (pre ++ [i]).length = pre.length + 1 := by simp
      refine ⟨others_belowP HB2.out, HB2.out.block _ (by have := HNA.out; omega), ?_⟩
      have h := HI.out.of_below HB2.out
      have h5 : hb pre.length = true := by rw [← HPL.out]; exact HBI.out
      have eb : badL (pre ++ [i]).length hb = badL pre.length hb := by rw [hpl2, HSU.out, if_pos h5]
      unfold InvBg at h ⊢
      rw [eb]
      exact h
  case done =>
    rintro D A hD hinv hK
    rw [s2] at hD
    subst hD
    have hDl := (Array.getElem?_eq_some_iff.1 hK).1
    have hpu := hinv.of_below (Below.refl _ _)
    obtain ⟨v, hc0, hf0, hO, ⟨qv, nv, cv, rfl⟩, hRA, hBA, hN3⟩ := hinv
    have c1 := rc_blocks hRA
    rw [HRN.out] at c1
    have HO := Lib.hid hO
    have HBA := Lib.hid hBA
    have z2 : decide ((nblk n : Int) < (nblk n : Int)) = false := decide_eq_false (by omega)
    have z1 : ¬ (nblk n : Int) < (nblk n : Int) := by omega
    clear hO hRA hBA hf0 hpu inv0
    gi_wp2_with (first | (refine ⟨trivial, ?_⟩; gi_at_call 143; refine (callsIn_wide.2 (HCT.out _)).mono ?_; rintro e A2 ⟨rfl, rfl⟩))
    gi_loopw [8] (fun v8 wr => v8 = .int .i64 (nblk n : Int) ∧ wr = A) (fun _ _ => 0)
    case atStart => exact ⟨rfl, rfl⟩
    case round =>
      obtain ⟨rfl, rfl⟩ := hrel
      gi_wp2
      refine ⟨by simp, .inl ⟨_, _, rfl, run_takeDeferred hK, ?_⟩⟩
      have hO5 := HO.out
      rw [List.length_range] at hO5
      have hg := grownBy_putObj' wr (N + 3) (.deferred none)
      refine ⟨.slice qv nv cv, ?_, _, rfl, ?_, HBA.out.trans (below_putP _ (by omega) hDl)⟩
      · simp [results, Tryz.f87, go_sem]
      · exact (hO5.keep (fun g e => hg.block g (hO5.lt g e).2 (fun e2 => by have := (hO5.lt g e).1; injection e2 with e2; omega))).lower (by rw [HN.out]; omega)
  case stop =>
    rintro D pre A hD hpre hF hK
    exact hF.elim
end Go.Proofs.YtnmopjefjpifoaaGreatDoor
/- sidecar.Mend of a valid record. -/
set_option maxRecDepth 100000
namespace Go.Proofs.YtnmopjefjpifoaaGreatDoor
open Go Go.RowKit Go.Shelf

attribute [-go_sem] Sha.exec_store
theorem others_kp12 {x y : World} {b : Nat} {T : TypeId} {n : Nat} {g : Nat → Value} (h : Kp b x y) (hr : Row x b T n g) : KeepsOthers x y := ⟨h.size, fun k o hk hc => by
  by_cases e : k = b
  · subst e
    rw [hr] at hk
    injection hk with hk
    subst hk
    cases hc
  · rw [h.block k (Array.getElem?_eq_some_iff.1 hk).1 e]; exact hk⟩
section
attribute [local go_sem ↓] exec_boxP exec_loadP
attribute [local go_sem] boxP Oper.semAt_some
set_option maxRecDepth 100000 in
set_option maxHeartbeats 16000000 in
theorem mendOk12 (p : S8) (t c : Int) (f : Nat → Int) (wh : List (BitVec 8)) (q : Option Addr) (n cap : Nat) (ds : List (List (BitVec 8))) (sz : Nat) (lb sd : List (BitVec 8)) (qb : Option Addr) (nb cb : Nat) (q2 : Option Addr) (n2 cap2 : Nat) (w : World)
    (hp : p.length < 100000) (hgd : goodR ⟨p, (sz : Int), t, c, f, false, wh, q, n, cap⟩ = true) (hD : DgAt w ⟨p, (sz : Int), t, c, f, false, wh, q, n, cap⟩ ds) (hs1 : sz ≤ 16384) (hdn : ds.length = nblk sz) (hlb : lb.length = nb) (hsb : Sl w qb lb) (hnb : nb < 1000000) (hl2 : sd.length = n2) (hsd : Sl w q2 sd) (hq2 : q2 = none → cap2 = 0) (hc2 : n2 ≤ cap2) (hn2 : n2 < 1000000) (hT : Tb w) :
    Calls Tryz.prog 32 #[rcV ⟨p, (sz : Int), t, c, f, false, wh, q, n, cap⟩, .slice qb nb cb, .slice q2 n2 cap2] w (fun e w' => ∃ C v1 v2 ct R, e = .returned (.tuple #[.slice (some ⟨C, 0, none⟩) sz sz, v1, v2, .int .i64 0]) ∧ w.heap.size ≤ C ∧ Row w' C 5 sz (fun j => B (ct j)) ∧ OwnIV w' w.heap.size v1 R ∧ OwnIV w' w.heap.size v2 (badL (nblk sz) (fun i => deq (digL (blkL (rowC ct sz) i)) (ds.getD i []))) ∧ MdAll (nstr sz) (rowC (szF lb) sz) ds ct R ∧ Below w.heap.size w w') := by
  refine (callsIn_wide (n := 9)).1 ?_
  refine callsIn_of_wp_marks Tryz.func32 rfl trivial ?_ rfl
  simp only [Tryz.ntmps32, List.size_toArray, List.length_cons, List.length_nil, Nat.reduceAdd, Nat.reduceSub, Array.replicate_succ, Array.replicate_zero, List.push_toArray, List.append_toArray, List.nil_append, List.cons_append]
  obtain ⟨W1, hW1⟩ : ∃ W, w.alloc (.cells (tab 54 (rcF ⟨p, (sz : Int), t, c, f, false, wh, q, n, cap⟩)) 44) = W := ⟨_, rfl⟩
  have hb1 : Below w.heap.size w W1 := by rw [← hW1]; exact below_newR _ _
  have hr1 : Row W1 w.heap.size 44 54 (rcF ⟨p, (sz : Int), t, c, f, false, wh, q, n, cap⟩) := by rw [← hW1]; exact Row.new _ _ _ _
  have x1 := boxRT rtP w ⟨p, (sz : Int), t, c, f, false, wh, q, n, cap⟩
  rw [hW1] at x1
  have HG := Lib.hid (good10_any ⟨p, (sz : Int), t, c, f, false, wh, q, n, cap⟩ hp hD.whole W1)
  rw [hgd] at HG
  have HNM := Lib.hid (fun (u : World) (hu : Below w.heap.size w u) => newMender12_any p (sz : Int) t c f false wh q n cap ds lb sd qb nb cb q2 n2 cap2 u (hD.of_below hu) (by omega) (by omega) hlb (hsb.of_below hu) hnb hl2 (hsd.of_below hu) hq2 hc2 hn2 (by rw [hdn]; unfold nblk; omega) (hT.on hu))
  have HRL := Lib.hid (fun (u : World) (hu : Below W1.heap.size W1 u) => (show _ ∧ u.cell? ⟨w.heap.size, 20, none⟩ = some (.bool false) from ⟨loadRT rtP (hr1.of_below hu), (hr1.of_below hu).cell 20 (by decide)⟩))
  obtain ⟨V, hV⟩ : ∃ V, rcV ⟨p, (sz : Int), t, c, f, false, wh, q, n, cap⟩ = V := ⟨_, rfl⟩
  have x2 := (HRL.out W1 (Below.refl _ _)).1
  rw [hV] at x1 x2 HG HNM HRL ⊢
  have HB1 := Lib.hid hb1
  have HDN := Lib.hid (And.intro hdn hs1)
  clear hW1 hb1 hr1 hV hgd hD hlb hsb hnb hl2 hsd hq2 hc2 hn2 hT hdn hs1
  gi_wp2_with (first
    | (refine ⟨trivial, ?_⟩; gi_at_call 75; refine (callsIn_wide.2 HG.out).mono ?_; rintro e w2 ⟨rfl, hB⟩
       have x3 := (HRL.out w2 hB).1
       have x4 := (HRL.out w2 hB).2
       have HB2 := Lib.hid (HB1.out.trans (hB.mono HB1.out.size))
       have HN2 := Lib.hid (HNM.out w2 HB2.out)
       clear hB)
    | (refine ⟨trivial, ?_⟩; gi_at_call 84; refine (callsIn_wide.2 HN2.out).mono ?_; rintro e w3 ⟨b, C, G, rfl, hM⟩
       have hb4 := below_newR w3 (.cells #[.pointer (some ⟨b, 0, none⟩)] 160)
       have hb5 := below_newR (w3.alloc (.cells #[.pointer (some ⟨b, 0, none⟩)] 160)) (.cells #[.slice none 0 0] 70)
       have hM5 := hM.of_below (hb4.trans (hb5.mono hb4.size))
       have h54 := hM5.mdr.content
       have HM := Lib.hid hM
       have HM5 := Lib.hid hM5
       clear hM hM5 x3 x4 hb4 hb5)
    | (refine ⟨trivial, ?_⟩; gi_at_call 85; refine (callsIn_wide.2 (stripes_any (some ⟨C, 0, none⟩) sz sz _)).mono ?_; rintro e w' ⟨rfl, rfl⟩))
  obtain ⟨N0, hN0⟩ : ∃ x, w3.heap.size + 1 + 1 = x := ⟨_, rfl⟩
  obtain ⟨w4, hw4⟩ : ∃ y, (w3.alloc (.cells #[.pointer (some ⟨b, 0, none⟩)] 160)).alloc (.cells #[.slice none 0 0] 70) = y := ⟨_, rfl⟩
  have hM4 := HM5.out
  rw [hw4] at hM4 ⊢
  have hs4 : w4.heap.size = N0 := by rw [← hw4, World.size_alloc, World.size_alloc]; omega
  have hbx : w4.cell? ⟨w3.heap.size, 0, none⟩ = some (.pointer (some ⟨b, 0, none⟩)) := by rw [← hw4, World.cell?_alloc_lt _ _ _ (by rw [World.size_alloc]; show w3.heap.size < _; omega)]; exact World.cell?_alloc_new _ _ _ _
  have hyx : w4.cell? ⟨w3.heap.size + 1, 0, none⟩ = some (.slice none 0 0) ∧ w4.frozen? ⟨w3.heap.size + 1, 0, none⟩ = false := by
    have h := new_cP (w3.alloc (.cells #[.pointer (some ⟨b, 0, none⟩)] 160)) (.slice none 0 0) 70
    rw [World.size_alloc, hw4] at h
    exact h
  have hb5 := below_newR w4 (.cells #[.slice (some ⟨C, 0, none⟩) sz sz] 53)
  have c5 : (w4.alloc (.cells #[.slice (some ⟨C, 0, none⟩) sz sz] 53)).cell? ⟨w4.heap.size, 0, none⟩ = some (.slice (some ⟨C, 0, none⟩) sz sz) := World.cell?_alloc_new _ _ _ _
  have hs5 : (w4.alloc (.cells #[.slice (some ⟨C, 0, none⟩) sz sz] 53)).heap.size = N0 + 1 := by rw [World.size_alloc, hs4]
  obtain ⟨w5, hw5⟩ : ∃ x, w4.alloc (.cells #[.slice (some ⟨C, 0, none⟩) sz sz] 53) = x := ⟨_, rfl⟩
  rw [hw5] at hb5 c5 hs5 ⊢
  rw [hs4] at c5
  try rw [hs4]
  try rw [hN0]
  obtain ⟨l, hl⟩ : ∃ l, rowC (szF lb) sz = l := ⟨_, rfl⟩
  have hll : l.length = sz := by rw [← hl, rowC_len]
  have hlg : ∀ j, j < sz → szF lb j = l.getD j 0#8 := fun j hj => by rw [← hl]; simp [rowC, List.getD_eq_getElem?_getD, hj]
  have hM5 : MenIn w2 w5 b ⟨p, (sz : Int), t, c, f, false, wh, q, n, cap⟩ ds C l.length q2 n2 cap2 G (2 * nstr sz) sd (stB sd (nstr sz) wh) (fun j => l.getD j 0#8) := by
    have h := hM4.of_below hb5
    rw [hll]
    exact { h with row := h.row.congr (fun j hj => by rw [hlg j hj]) }
  have hsl5 : Sl w5 (some ⟨C, 0, none⟩) l := fun j hj => ⟨C, 0, rfl, by rw [Nat.zero_add]; exact hM5.row.cell j hj⟩
  have hmi : ∀ hi, MnI w2 b ⟨p, (sz : Int), t, c, f, false, wh, q, n, cap⟩ ds C q2 n2 cap2 G (2 * nstr sz) sd (stB sd (nstr sz) wh) l N0 w3.heap.size (w3.heap.size + 1) (N0 + 1) hi 0 (fun j => l.getD j 0#8) [] (.slice none 0 0) w5 := fun hi =>
    { men := hM5, all := MdAll.start l ds, box := by rw [hb5.cell (by exact World.block_lt_of_cell? w4 _ hbx)]; exact hbx, rep := by rw [hb5.cell (by exact World.block_lt_of_cell? w4 _ hyx.1)]; exact hyx.1, frz := by rw [hb5.frozen (by exact World.block_lt_of_cell? w4 _ hyx.1)]; exact hyx.2, slc := ⟨_, _, _, rfl⟩, own := OwnIV.nil _ _, far := (fun g e => (by cases e)),
      lts := by
        have h1 := HM.out.mdr.lt
        have h2 := HM.out.row.lt
        have h3 := HM.out.flg.lt
        have h4 := HM.out.bel.size
        omega }
  have HSEQ := Lib.hid (stripes_seq 8 (by decide) N0 l (some ⟨C, 0, none⟩) sz sz w5 c5 hll hsl5 (fun e => by cases e) (by have := HDN.out.2; omega) (Nat.le_refl _))
  have HMI := Lib.hid hmi
  have HLL := Lib.hid (And.intro hl hll)
  have HN0 := Lib.hid hN0
  have HC3 := Lib.hid HM.out.row.lt
  clear hmi hsl5 hM5 hlg hll hl hw5 c5 hb5 hyx hbx hw4 hM4 h54 hs4 x1 x2
  refine range_made (m := 9) (by decide) (bb := N0) rfl rfl HSEQ.out (fun A => N0 + 1 ≤ A.heap.size ∧ ∀ hi, MnI w2 b ⟨p, (sz : Int), t, c, f, false, wh, q, n, cap⟩ ds C q2 n2 cap2 G (2 * nstr sz) sd (stB sd (nstr sz) wh) l N0 w3.heap.size (w3.heap.size + 1) (N0 + 1) hi 0 (fun j => l.getD j 0#8) [] (.slice none 0 0) A)
    (fun lo hi s A => (lo ≤ hi ∧ N0 + 1 + 2 ≤ lo) ∧ hi ≤ A.heap.size ∧ ∃ ct R v, MnI w2 b ⟨p, (sz : Int), t, c, f, false, wh, q, n, cap⟩ ds C q2 n2 cap2 G (2 * nstr sz) sd (stB sd (nstr sz) wh) l N0 w3.heap.size (w3.heap.size + 1) (N0 + 1) hi s ct R v A)
    (fun B B' h k => ⟨Nat.le_trans h.1 k.size, fun hi => (h.2 hi).of_below k⟩)
    (fun A B hA hAB h1 h2 => ⟨⟨hAB.size, by rw [← hs5]; exact hA⟩, Nat.le_refl _, _, _, _, h2.2 B.heap.size⟩)
    (fun lo hi s A k h => ⟨h.1, h.2.1, by obtain ⟨ct, R, v, h3⟩ := h.2.2; exact ⟨ct, R, v, h3.drewN k⟩⟩)
    (fun lo hi s A o h1 h2 h => ⟨h.1, Nat.le_trans h.2.1 (below_putP (N := 0) o (Nat.zero_le _) h2).size, by obtain ⟨ct, R, v, h3⟩ := h.2.2; exact ⟨ct, R, v, h3.put o (by omega) (by omega) (by omega) h2⟩⟩)
    ⟨by omega, HMI.out⟩
    (fun s v => { tmps := #[V, .slice qb nb cb, .slice q2 n2 cap2, .pointer (some ⟨w.heap.size, 0, none⟩), undef, undef, .slice none 0 0, .slice none 0 0, .slice none 0 0, .int .i64 0, .pointer (some ⟨w3.heap.size, 0, none⟩), .pointer (some ⟨w3.heap.size + 1, 0, none⟩), .int .i64 ((4 * s : Nat) : Int), v, V, .bool true, .bool false, .bool false, .pointer (some ⟨w.heap.size, 20, none⟩), .bool false, .bool false, V, .slice qb nb cb, .slice q2 n2 cap2, .pointer (some ⟨b, 0, none⟩), .pointer (some ⟨b, 0, none⟩), .pointer (some ⟨b, 0, none⟩), .pointer (some ⟨b, 54, none⟩), .slice (some ⟨C, 0, none⟩) sz sz, .func (.func 150) #[] #[.pointer (some ⟨N0, 0, none⟩)], .int .i64 ((4 * s : Nat) : Int), v, undef, undef, undef, undef, undef, undef, undef, undef, undef, undef, undef, undef, undef, undef, undef, undef, undef, undef, undef, undef], defers := [] }) ?assign ?body ?done
  case assign =>
    intro L s v W K hK
    gi_wp2
    exact hK
  case body =>
    rintro L lo hi s qx cx A hs hlo hhA ⟨⟨hlh, hlo2⟩, hhA', ct, R, v, hI⟩ hLay hcc
    obtain ⟨k, hk⟩ : ∃ k, (strB l s).length = k := ⟨_, rfl⟩
    have hsk := strB_len l s
    rw [hk, HLL.out.2] at hsk
    have hsn := (nstr_blk l.length s).1 hs
    rw [HLL.out.2] at hsn
    obtain ⟨b1, b2, b3, b4, b5, b6⟩ := hI.lts
    have hmn : ∀ u, Below A.heap.size A u → Calls Tryz.prog 86 #[.pointer (some ⟨b, 0, none⟩), .int .i64 ((4 * s : Nat) : Int), .slice qx k cx] u (MndR w2 u b ⟨p, (sz : Int), t, c, f, false, wh, q, n, cap⟩ ds C l.length q2 n2 cap2 G (2 * nstr sz) sd (stB sd (nstr sz) wh) ct (4 * s) k (fun i => deq (digL ((strB l s).getD i [])) (ds.getD (4 * s + i) [])) (fun i => ((strB l s).getD i []).length)) := fun u hu =>
      mend12_any w2 u b _ ds C l.length q2 n2 cap2 G (2 * nstr sz) sd _ ct (4 * s) k cx (strB l s) qx (hI.men.of_below hu) (fun u' hu' => hLay u' ⟨Nat.le_trans hhA (Nat.le_trans hu.size hu'.size), fun g h1 h2 => (hu'.block g (Nat.lt_of_lt_of_le (Nat.lt_of_lt_of_le h2 hhA) hu.size) (by omega)).trans (hu.block g (Nat.lt_of_lt_of_le h2 hhA))⟩) hk (by omega) (by omega)
        (fun i hi => by
          have e := strB_get l s i hi
          rw [e, blkL_len, HLL.out.2]
          rw [hk] at hi
          have := HDN.out.2
          unfold blen
          unfold nblk at hsk hsn
          omega) (by rw [HDN.out.1]; omega) (by unfold nblk at hsn; unfold nstr; omega)
    have HMN := Lib.hid hmn
    have HI := Lib.hid hI
    have HLay := Lib.hid hLay
    have hrep := hI.rep
    have hbox := hI.box
    have hfrz := hI.frz
    obtain ⟨qv, nv, cv, hv⟩ := hI.slc
    subst hv
    have HRB := Lib.hid (And.intro hlo2 (And.intro hhA (And.intro hlh hs)))
    have HLT := Lib.hid (And.intro b1 (And.intro b2 (And.intro b3 (And.intro b4 (And.intro b5 b6)))))
    have HKL := Lib.hid hk
    have HBL := Lib.hid (show nblk sz ≤ 64 from by have := HDN.out.2; unfold nblk; omega)
    rw [hk]
    have HX := Lib.hid (show Below A.heap.size A A.drew from (Below.refl _ _).drew)
    have hrep : A.drew.cell? ⟨w3.heap.size + 1, 0, none⟩ = some (.slice qv nv cv) := hrep
    have hbox : A.drew.cell? ⟨w3.heap.size, 0, none⟩ = some (.pointer (some ⟨b, 0, none⟩)) := hbox
    have hfrz : A.drew.frozen? ⟨w3.heap.size + 1, 0, none⟩ = false := hfrz
    clear hmn hI hLay hsk hsn hk b1 b2 b3 b4 b5 b6 hs hlo hhA hhA' hlh hlo2 hcc
    gi_wp2
    refine wpIn_region_round (by kernel_rfl) (by kernel_rfl) ?_
    refine wpAnyIn_take (i := 2) (v := ?_) rfl (by simp only [List.getElem?_toArray, List.getElem?_cons_succ, List.getElem?_cons_zero]; exact rfl) (by kernel_rfl) (by kernel_rfl) (by kernel_rfl) (fun _ _ _ h => h) ⟨Or.inl ⟨by rfl, ?_⟩, fun _ => rfl⟩ ?_
    rotate_left 1
    · (intro w; go_simp; try with_reducible rfl)
    try simp only [Act.put, List.setIfInBounds_toArray, List.set_cons_zero, List.set_cons_succ]
    refine wpAnyIn_take (i := 3) (v := ?_) rfl (by simp only [List.getElem?_toArray, List.getElem?_cons_succ, List.getElem?_cons_zero]; exact rfl) (by kernel_rfl) (by kernel_rfl) (by kernel_rfl) (fun _ _ _ h => h) ⟨Or.inl ⟨by rfl, ?_⟩, fun _ => rfl⟩ ?_
    rotate_left 1
    · (intro w; go_simp; try with_reducible rfl)
    try simp only [Act.put, List.setIfInBounds_toArray, List.set_cons_zero, List.set_cons_succ]
    refine wpAnyIn_ready (rs := [0, 1]) (by kernel_rfl) (by simp) ?_
    refine (AllReadyIn.cons (by simp only [List.getElem?_toArray, List.getElem?_cons_succ, List.getElem?_cons_zero]; exact rfl) (fun K hK => ?_) (AllReadyIn.cons (by simp only [List.getElem?_toArray, List.getElem?_cons_succ, List.getElem?_cons_zero]; exact rfl) (fun K hK => ?_) AllReadyIn.nil))
    · go_simp
      refine hK _ _ ?_
      clear hK K
      try simp only [Act.put, List.setIfInBounds_toArray, List.set_cons_zero, List.set_cons_succ]
      refine wpAnyIn_ready (rs := [1]) (by kernel_rfl) (by simp) ?_
      refine (AllReadyIn.cons (by simp only [List.getElem?_toArray, List.getElem?_cons_succ, List.getElem?_cons_zero]; exact rfl) (fun K hK => ?_) AllReadyIn.nil)
      go_simp
      refine hK _ _ ?_
      clear hK K
      try simp only [Act.put, List.setIfInBounds_toArray, List.set_cons_zero, List.set_cons_succ]
      refine wpAnyIn_ready (rs := [4]) (by kernel_rfl) (by simp) ?_
      refine (AllReadyIn.cons (by simp only [List.getElem?_toArray, List.getElem?_cons_succ, List.getElem?_cons_zero]; exact rfl) (fun K hK => ?_) AllReadyIn.nil)
      go_simp
      refine ⟨trivial, (callsIn_wide.2 (HMN.out _ HX.out)).mono ?_⟩
      rintro e xm ⟨vr, Rn, ct2, bl, rfl, hOn, hKp, hMen, hMd, hbl⟩
      have hyC : w3.heap.size + 1 ≠ C := by have := HC3.out; omega
      have hrep0 := hrep
      have hrep := (show xm.cell? ⟨w3.heap.size + 1, 0, none⟩ = some (.slice qv nv cv) from by rw [hKp.cell (by exact World.block_lt_of_cell? _ _ hrep0) hyC]; exact hrep0)
      have hfrz := (show xm.frozen? ⟨w3.heap.size + 1, 0, none⟩ = false from by rw [hKp.frozen (by exact World.block_lt_of_cell? _ _ hrep0) hyC]; exact hfrz)
      have hO : OwnIV xm N0 (.slice qv nv cv) R := (HI.out.own.of_below HX.out).keep (fun g e => hKp.block g (Nat.lt_of_lt_of_le (HI.out.own.lt g e).2 HX.out.size) (by have := (HI.out.own.lt g e).1; have := HLT.out; omega))
      obtain ⟨qn, cn, rfl, hLs, hpn, hcn, -⟩ := own_shape hOn
      have HKP := Lib.hid hKp
      have HME := Lib.hid hMen
      have HST := Lib.hid (HI.out.all.step hMd (by rw [HKL.out]; exact hbl))
      have HOX := Lib.hid hO
      have HLS := Lib.hid hLs
      have HPN := Lib.hid (show qn = none → cn = 0 ∧ Rn.length = 0 from fun e => by have := hpn e; omega)
      have HLR := Lib.hid (show R.length ≤ 64 ∧ Rn.length ≤ 64 from by
        have h1 := nodup_lt_length (nblk l.length) (R ++ Rn) HST.out.1 (fun x hx => (HST.out.2.1 x hx).2.1)
        rw [List.length_append, HLL.out.2] at h1
        have := HBL.out
        omega)
      clear hKp hMen hMd hbl hOn hO hLs hpn hcn hrep0 hyC
      refine hK _ _ ?_
      clear hK K
      try simp only [Act.put, List.setIfInBounds_toArray, List.set_cons_zero, List.set_cons_succ]
      refine wpAnyIn_ready (rs := [5]) (by kernel_rfl) (by simp) ?_
      refine (AllReadyIn.cons (by simp only [List.getElem?_toArray, List.getElem?_cons_succ, List.getElem?_cons_zero]; exact rfl) (fun K hK => ?_) AllReadyIn.nil)
      refine stepIn_appendK elI12 xm rfl (.tmp 32) (.tmp 36) rfl N0 rfl HOX.out qn Rn.length cn (Rn.map vI) (by rw [List.length_map, Nat.mul_one]) rfl HLS.out HPN.out (fun u hu => by obtain ⟨z, -, rfl⟩ := List.mem_map.1 hu; rfl) (by have := HLR.out; omega) (by have h9 : w3.heap.size + 1 < xm.heap.size := World.block_lt_of_cell? _ _ hrep; have := HN0.out; show N0 ≤ xm.heap.size; omega) ?_
      rintro v5 x5 hO5 hg5 hor5
      have hlt5 : w3.heap.size + 1 < xm.heap.size := World.block_lt_of_cell? _ _ hrep
      have hnow : ∀ g, g < N0 → some g ≠ (Value.slice qv nv cv).ownBlock := fun g hg e => by have := (HOX.out.lt g e.symm).1; omega
      have hys : w3.heap.size + 1 < N0 := by have := HN0.out; omega
      have hbk5 := hg5.block (w3.heap.size + 1) hlt5 (hnow _ hys)
      have hrep5 : x5.cell? ⟨w3.heap.size + 1, 0, none⟩ = some (.slice qv nv cv) := by rw [World.cell?_of_block (w := xm) hbk5]; exact hrep
      have hfrz5 : x5.frozen? ⟨w3.heap.size + 1, 0, none⟩ = false := by rw [World.frozen?_of_block (w := xm) hbk5]; exact hfrz
      have hO5' : OwnIV x5 N0 v5 (R ++ Rn) := by unfold OwnIV; rw [List.length_append, List.map_append]; exact hO5
      obtain ⟨q5, c5', e5, -⟩ := hO5'.cells
      rw [List.length_append] at e5
      subst e5
      have HO5 := Lib.hid hO5'
      have HG5 := Lib.hid hg5
      have HOR := Lib.hid hor5
      have HNW := Lib.hid hnow
      have HR5 := Lib.hid (And.intro hrep5 hfrz5)
      clear hO5 hO5' hg5 hor5 hnow hbk5 hrep hfrz
      refine hK _ _ ?_
      clear hK K
      try simp only [Act.put, List.setIfInBounds_toArray, List.set_cons_zero, List.set_cons_succ]
      refine wpAnyIn_ready (rs := [6]) (by kernel_rfl) (by simp) ?_
      refine (AllReadyIn.cons (by simp only [List.getElem?_toArray, List.getElem?_cons_succ, List.getElem?_cons_zero]; exact rfl) (fun K hK => ?_) AllReadyIn.nil)
      go_simp
      refine hK _ _ ?_
      clear hK K
      try simp only [Act.put, List.setIfInBounds_toArray, List.set_cons_zero, List.set_cons_succ]
      refine wpAnyIn_done (by kernel_rfl) ?_ _
      have hl := HLT.out
      have hn0 := HN0.out
      have hrb := HRB.out
      have hxs : A.heap.size ≤ xm.heap.size := Nat.le_trans HX.out.size HKP.out.size
      have hN0x : N0 ≤ xm.heap.size := by omega
      have hsame : ∀ g, g < N0 → g ≠ w3.heap.size + 1 → (x5.setCell ⟨w3.heap.size + 1, 0, none⟩ (.slice q5 (R.length + Rn.length) c5')).heap[g]? = xm.heap[g]? := fun g h1 h2 => (Below.heap_setCell _ _ _ _ h2).trans (HG5.out.block g (by omega) (HNW.out g h1))
      have hbC : b ≠ w3.heap.size + 1 ∧ C ≠ w3.heap.size + 1 ∧ G ≠ w3.heap.size + 1 := by have := HC3.out; have h8 := HM.out.mdr.lt; have h9 := HM.out.flg.lt; omega
      have hbel : Below w2.heap.size w2 (x5.setCell ⟨w3.heap.size + 1, 0, none⟩ (.slice q5 (R.length + Rn.length) c5')) := by
        refine (HME.out.bel.grown HG5.out HME.out.bel.size (fun g e => ?_)).setCell (show w2.heap.size ≤ w3.heap.size + 1 by have := HM.out.bel.size; omega) _
        have := (HOX.out.lt g e).1
        omega
      refine ⟨(((others_belowP HX.out).trans (others_kp12 HKP.out (HI.out.men.of_below HX.out).row)).trans (KeepsOthers.grown_own HOX.out HG5.out)).trans (KeepsOthers.setCell _ _ _), ⟨?_, fun g h1 h2 => ?_⟩, ⟨hrb.2.2.1, hrb.1⟩, ?_, ct2, R ++ Rn, .slice q5 (R.length + Rn.length) c5', ?_⟩
      · have := HG5.out.size; simp; omega
      · rw [Below.heap_setCell _ _ _ _ (show g ≠ w3.heap.size + 1 by omega), HG5.out.block g (by omega) (fun e => by have := HI.out.far g e.symm; omega), HKP.out.block g (by have := HX.out.size; omega) (by omega)]
        exact HX.out.block g (by omega)
      · have := HG5.out.size; simp; omega
      · have hbx0 : xm.heap[w3.heap.size]? = A.heap[w3.heap.size]? := (HKP.out.block _ (by have := HX.out.size; omega) (by have := HC3.out; omega)).trans (HX.out.block _ (by omega))
        exact { men := HME.out.keep (hsame b hl.1 hbC.1) (hsame C hl.2.1 hbC.2.1) (hsame G hl.2.2.1 hbC.2.2) hbel, all := HST.out, box := by rw [World.cell?_of_block (w := A) ((hsame _ hl.2.2.2.1 (by omega)).trans hbx0)]; exact HI.out.box, rep := World.cell?_setCell_same _ _ _ HR5.out.1, frz := by rw [World.frozen?_setCell]; exact HR5.out.2, slc := ⟨_, _, _, rfl⟩, own := HO5.out.keep (fun g e => Below.heap_setCell _ _ _ _ (show g ≠ w3.heap.size + 1 by have := (HO5.out.lt g e).1; omega)), far := (fun g e => by
          rcases HOR.out with h | h
          · exact HI.out.far g (h ▸ e)
          · rw [h] at e; injection e with e; omega), lts := hl }
    · go_simp
      refine hK _ _ ?_
      clear hK K
      try simp only [Act.put, List.setIfInBounds_toArray, List.set_cons_zero, List.set_cons_succ]
      refine wpAnyIn_ready (rs := [0, 4]) (by kernel_rfl) (by simp) ?_
      refine (AllReadyIn.cons (by simp only [List.getElem?_toArray, List.getElem?_cons_succ, List.getElem?_cons_zero]; exact rfl) (fun K hK => ?_) (AllReadyIn.cons (by simp only [List.getElem?_toArray, List.getElem?_cons_succ, List.getElem?_cons_zero]; exact rfl) (fun K hK => ?_) AllReadyIn.nil))
      · go_simp
        refine hK _ _ ?_
        clear hK K
        try simp only [Act.put, List.setIfInBounds_toArray, List.set_cons_zero, List.set_cons_succ]
        refine wpAnyIn_ready (rs := [4]) (by kernel_rfl) (by simp) ?_
        refine (AllReadyIn.cons (by simp only [List.getElem?_toArray, List.getElem?_cons_succ, List.getElem?_cons_zero]; exact rfl) (fun K hK => ?_) AllReadyIn.nil)
        go_simp
        refine ⟨trivial, (callsIn_wide.2 (HMN.out _ HX.out)).mono ?_⟩
        rintro e xm ⟨vr, Rn, ct2, bl, rfl, hOn, hKp, hMen, hMd, hbl⟩
        have hyC : w3.heap.size + 1 ≠ C := by have := HC3.out; omega
        have hrep0 := hrep
        have hrep := (show xm.cell? ⟨w3.heap.size + 1, 0, none⟩ = some (.slice qv nv cv) from by rw [hKp.cell (by exact World.block_lt_of_cell? _ _ hrep0) hyC]; exact hrep0)
        have hfrz := (show xm.frozen? ⟨w3.heap.size + 1, 0, none⟩ = false from by rw [hKp.frozen (by exact World.block_lt_of_cell? _ _ hrep0) hyC]; exact hfrz)
        have hO : OwnIV xm N0 (.slice qv nv cv) R := (HI.out.own.of_below HX.out).keep (fun g e => hKp.block g (Nat.lt_of_lt_of_le (HI.out.own.lt g e).2 HX.out.size) (by have := (HI.out.own.lt g e).1; have := HLT.out; omega))
        obtain ⟨qn, cn, rfl, hLs, hpn, hcn, -⟩ := own_shape hOn
        have HKP := Lib.hid hKp
        have HME := Lib.hid hMen
        have HST := Lib.hid (HI.out.all.step hMd (by rw [HKL.out]; exact hbl))
        have HOX := Lib.hid hO
        have HLS := Lib.hid hLs
        have HPN := Lib.hid (show qn = none → cn = 0 ∧ Rn.length = 0 from fun e => by have := hpn e; omega)
        have HLR := Lib.hid (show R.length ≤ 64 ∧ Rn.length ≤ 64 from by
          have h1 := nodup_lt_length (nblk l.length) (R ++ Rn) HST.out.1 (fun x hx => (HST.out.2.1 x hx).2.1)
          rw [List.length_append, HLL.out.2] at h1
          have := HBL.out
          omega)
        clear hKp hMen hMd hbl hOn hO hLs hpn hcn hrep0 hyC
        refine hK _ _ ?_
        clear hK K
        try simp only [Act.put, List.setIfInBounds_toArray, List.set_cons_zero, List.set_cons_succ]
        refine wpAnyIn_ready (rs := [5]) (by kernel_rfl) (by simp) ?_
        refine (AllReadyIn.cons (by simp only [List.getElem?_toArray, List.getElem?_cons_succ, List.getElem?_cons_zero]; exact rfl) (fun K hK => ?_) AllReadyIn.nil)
        refine stepIn_appendK elI12 xm rfl (.tmp 32) (.tmp 36) rfl N0 rfl HOX.out qn Rn.length cn (Rn.map vI) (by rw [List.length_map, Nat.mul_one]) rfl HLS.out HPN.out (fun u hu => by obtain ⟨z, -, rfl⟩ := List.mem_map.1 hu; rfl) (by have := HLR.out; omega) (by have h9 : w3.heap.size + 1 < xm.heap.size := World.block_lt_of_cell? _ _ hrep; have := HN0.out; show N0 ≤ xm.heap.size; omega) ?_
        rintro v5 x5 hO5 hg5 hor5
        have hlt5 : w3.heap.size + 1 < xm.heap.size := World.block_lt_of_cell? _ _ hrep
        have hnow : ∀ g, g < N0 → some g ≠ (Value.slice qv nv cv).ownBlock := fun g hg e => by have := (HOX.out.lt g e.symm).1; omega
        have hys : w3.heap.size + 1 < N0 := by have := HN0.out; omega
        have hbk5 := hg5.block (w3.heap.size + 1) hlt5 (hnow _ hys)
        have hrep5 : x5.cell? ⟨w3.heap.size + 1, 0, none⟩ = some (.slice qv nv cv) := by rw [World.cell?_of_block (w := xm) hbk5]; exact hrep
        have hfrz5 : x5.frozen? ⟨w3.heap.size + 1, 0, none⟩ = false := by rw [World.frozen?_of_block (w := xm) hbk5]; exact hfrz
        have hO5' : OwnIV x5 N0 v5 (R ++ Rn) := by unfold OwnIV; rw [List.length_append, List.map_append]; exact hO5
        obtain ⟨q5, c5', e5, -⟩ := hO5'.cells
        rw [List.length_append] at e5
        subst e5
        have HO5 := Lib.hid hO5'
        have HG5 := Lib.hid hg5
        have HOR := Lib.hid hor5
        have HNW := Lib.hid hnow
        have HR5 := Lib.hid (And.intro hrep5 hfrz5)
        clear hO5 hO5' hg5 hor5 hnow hbk5 hrep hfrz
        refine hK _ _ ?_
        clear hK K
        try simp only [Act.put, List.setIfInBounds_toArray, List.set_cons_zero, List.set_cons_succ]
        refine wpAnyIn_ready (rs := [6]) (by kernel_rfl) (by simp) ?_
        refine (AllReadyIn.cons (by simp only [List.getElem?_toArray, List.getElem?_cons_succ, List.getElem?_cons_zero]; exact rfl) (fun K hK => ?_) AllReadyIn.nil)
        go_simp
        refine hK _ _ ?_
        clear hK K
        try simp only [Act.put, List.setIfInBounds_toArray, List.set_cons_zero, List.set_cons_succ]
        refine wpAnyIn_done (by kernel_rfl) ?_ _
        have hl := HLT.out
        have hn0 := HN0.out
        have hrb := HRB.out
        have hxs : A.heap.size ≤ xm.heap.size := Nat.le_trans HX.out.size HKP.out.size
        have hN0x : N0 ≤ xm.heap.size := by omega
        have hsame : ∀ g, g < N0 → g ≠ w3.heap.size + 1 → (x5.setCell ⟨w3.heap.size + 1, 0, none⟩ (.slice q5 (R.length + Rn.length) c5')).heap[g]? = xm.heap[g]? := fun g h1 h2 => (Below.heap_setCell _ _ _ _ h2).trans (HG5.out.block g (by omega) (HNW.out g h1))
        have hbC : b ≠ w3.heap.size + 1 ∧ C ≠ w3.heap.size + 1 ∧ G ≠ w3.heap.size + 1 := by have := HC3.out; have h8 := HM.out.mdr.lt; have h9 := HM.out.flg.lt; omega
        have hbel : Below w2.heap.size w2 (x5.setCell ⟨w3.heap.size + 1, 0, none⟩ (.slice q5 (R.length + Rn.length) c5')) := by
          refine (HME.out.bel.grown HG5.out HME.out.bel.size (fun g e => ?_)).setCell (show w2.heap.size ≤ w3.heap.size + 1 by have := HM.out.bel.size; omega) _
          have := (HOX.out.lt g e).1
          omega
        refine ⟨(((others_belowP HX.out).trans (others_kp12 HKP.out (HI.out.men.of_below HX.out).row)).trans (KeepsOthers.grown_own HOX.out HG5.out)).trans (KeepsOthers.setCell _ _ _), ⟨?_, fun g h1 h2 => ?_⟩, ⟨hrb.2.2.1, hrb.1⟩, ?_, ct2, R ++ Rn, .slice q5 (R.length + Rn.length) c5', ?_⟩
        · have := HG5.out.size; simp; omega
        · rw [Below.heap_setCell _ _ _ _ (show g ≠ w3.heap.size + 1 by omega), HG5.out.block g (by omega) (fun e => by have := HI.out.far g e.symm; omega), HKP.out.block g (by have := HX.out.size; omega) (by omega)]
          exact HX.out.block g (by omega)
        · have := HG5.out.size; simp; omega
        · have hbx0 : xm.heap[w3.heap.size]? = A.heap[w3.heap.size]? := (HKP.out.block _ (by have := HX.out.size; omega) (by have := HC3.out; omega)).trans (HX.out.block _ (by omega))
          exact { men := HME.out.keep (hsame b hl.1 hbC.1) (hsame C hl.2.1 hbC.2.1) (hsame G hl.2.2.1 hbC.2.2) hbel, all := HST.out, box := by rw [World.cell?_of_block (w := A) ((hsame _ hl.2.2.2.1 (by omega)).trans hbx0)]; exact HI.out.box, rep := World.cell?_setCell_same _ _ _ HR5.out.1, frz := by rw [World.frozen?_setCell]; exact HR5.out.2, slc := ⟨_, _, _, rfl⟩, own := HO5.out.keep (fun g e => Below.heap_setCell _ _ _ _ (show g ≠ w3.heap.size + 1 by have := (HO5.out.lt g e).1; omega)), far := (fun g e => by
            rcases HOR.out with h | h
            · exact HI.out.far g (h ▸ e)
            · rw [h] at e; injection e with e; omega), lts := hl }
      · go_simp
        refine ⟨trivial, (callsIn_wide.2 (HMN.out _ HX.out)).mono ?_⟩
        rintro e xm ⟨vr, Rn, ct2, bl, rfl, hOn, hKp, hMen, hMd, hbl⟩
        have hyC : w3.heap.size + 1 ≠ C := by have := HC3.out; omega
        have hrep0 := hrep
        have hrep := (show xm.cell? ⟨w3.heap.size + 1, 0, none⟩ = some (.slice qv nv cv) from by rw [hKp.cell (by exact World.block_lt_of_cell? _ _ hrep0) hyC]; exact hrep0)
        have hfrz := (show xm.frozen? ⟨w3.heap.size + 1, 0, none⟩ = false from by rw [hKp.frozen (by exact World.block_lt_of_cell? _ _ hrep0) hyC]; exact hfrz)
        have hO : OwnIV xm N0 (.slice qv nv cv) R := (HI.out.own.of_below HX.out).keep (fun g e => hKp.block g (Nat.lt_of_lt_of_le (HI.out.own.lt g e).2 HX.out.size) (by have := (HI.out.own.lt g e).1; have := HLT.out; omega))
        obtain ⟨qn, cn, rfl, hLs, hpn, hcn, -⟩ := own_shape hOn
        have HKP := Lib.hid hKp
        have HME := Lib.hid hMen
        have HST := Lib.hid (HI.out.all.step hMd (by rw [HKL.out]; exact hbl))
        have HOX := Lib.hid hO
        have HLS := Lib.hid hLs
        have HPN := Lib.hid (show qn = none → cn = 0 ∧ Rn.length = 0 from fun e => by have := hpn e; omega)
        have HLR := Lib.hid (show R.length ≤ 64 ∧ Rn.length ≤ 64 from by
          have h1 := nodup_lt_length (nblk l.length) (R ++ Rn) HST.out.1 (fun x hx => (HST.out.2.1 x hx).2.1)
          rw [List.length_append, HLL.out.2] at h1
          have := HBL.out
          omega)
        clear hKp hMen hMd hbl hOn hO hLs hpn hcn hrep0 hyC
        refine hK _ _ ?_
        clear hK K
        try simp only [Act.put, List.setIfInBounds_toArray, List.set_cons_zero, List.set_cons_succ]
        refine wpAnyIn_ready (rs := [0]) (by kernel_rfl) (by simp) ?_
        refine (AllReadyIn.cons (by simp only [List.getElem?_toArray, List.getElem?_cons_succ, List.getElem?_cons_zero]; exact rfl) (fun K hK => ?_) AllReadyIn.nil)
        go_simp
        refine hK _ _ ?_
        clear hK K
        try simp only [Act.put, List.setIfInBounds_toArray, List.set_cons_zero, List.set_cons_succ]
        refine wpAnyIn_ready (rs := [5]) (by kernel_rfl) (by simp) ?_
        refine (AllReadyIn.cons (by simp only [List.getElem?_toArray, List.getElem?_cons_succ, List.getElem?_cons_zero]; exact rfl) (fun K hK => ?_) AllReadyIn.nil)
        refine stepIn_appendK elI12 xm rfl (.tmp 32) (.tmp 36) rfl N0 rfl HOX.out qn Rn.length cn (Rn.map vI) (by rw [List.length_map, Nat.mul_one]) rfl HLS.out HPN.out (fun u hu => by obtain ⟨z, -, rfl⟩ := List.mem_map.1 hu; rfl) (by have := HLR.out; omega) (by have h9 : w3.heap.size + 1 < xm.heap.size := World.block_lt_of_cell? _ _ hrep; have := HN0.out; show N0 ≤ xm.heap.size; omega) ?_
        rintro v5 x5 hO5 hg5 hor5
        have hlt5 : w3.heap.size + 1 < xm.heap.size := World.block_lt_of_cell? _ _ hrep
        have hnow : ∀ g, g < N0 → some g ≠ (Value.slice qv nv cv).ownBlock := fun g hg e => by have := (HOX.out.lt g e.symm).1; omega
        have hys : w3.heap.size + 1 < N0 := by have := HN0.out; omega
        have hbk5 := hg5.block (w3.heap.size + 1) hlt5 (hnow _ hys)
        have hrep5 : x5.cell? ⟨w3.heap.size + 1, 0, none⟩ = some (.slice qv nv cv) := by rw [World.cell?_of_block (w := xm) hbk5]; exact hrep
        have hfrz5 : x5.frozen? ⟨w3.heap.size + 1, 0, none⟩ = false := by rw [World.frozen?_of_block (w := xm) hbk5]; exact hfrz
        have hO5' : OwnIV x5 N0 v5 (R ++ Rn) := by unfold OwnIV; rw [List.length_append, List.map_append]; exact hO5
        obtain ⟨q5, c5', e5, -⟩ := hO5'.cells
        rw [List.length_append] at e5
        subst e5
        have HO5 := Lib.hid hO5'
        have HG5 := Lib.hid hg5
        have HOR := Lib.hid hor5
        have HNW := Lib.hid hnow
        have HR5 := Lib.hid (And.intro hrep5 hfrz5)
        clear hO5 hO5' hg5 hor5 hnow hbk5 hrep hfrz
        refine hK _ _ ?_
        clear hK K
        try simp only [Act.put, List.setIfInBounds_toArray, List.set_cons_zero, List.set_cons_succ]
        refine wpAnyIn_ready (rs := [6]) (by kernel_rfl) (by simp) ?_
        refine (AllReadyIn.cons (by simp only [List.getElem?_toArray, List.getElem?_cons_succ, List.getElem?_cons_zero]; exact rfl) (fun K hK => ?_) AllReadyIn.nil)
        go_simp
        refine hK _ _ ?_
        clear hK K
        try simp only [Act.put, List.setIfInBounds_toArray, List.set_cons_zero, List.set_cons_succ]
        refine wpAnyIn_done (by kernel_rfl) ?_ _
        have hl := HLT.out
        have hn0 := HN0.out
        have hrb := HRB.out
        have hxs : A.heap.size ≤ xm.heap.size := Nat.le_trans HX.out.size HKP.out.size
        have hN0x : N0 ≤ xm.heap.size := by omega
        have hsame : ∀ g, g < N0 → g ≠ w3.heap.size + 1 → (x5.setCell ⟨w3.heap.size + 1, 0, none⟩ (.slice q5 (R.length + Rn.length) c5')).heap[g]? = xm.heap[g]? := fun g h1 h2 => (Below.heap_setCell _ _ _ _ h2).trans (HG5.out.block g (by omega) (HNW.out g h1))
        have hbC : b ≠ w3.heap.size + 1 ∧ C ≠ w3.heap.size + 1 ∧ G ≠ w3.heap.size + 1 := by have := HC3.out; have h8 := HM.out.mdr.lt; have h9 := HM.out.flg.lt; omega
        have hbel : Below w2.heap.size w2 (x5.setCell ⟨w3.heap.size + 1, 0, none⟩ (.slice q5 (R.length + Rn.length) c5')) := by
          refine (HME.out.bel.grown HG5.out HME.out.bel.size (fun g e => ?_)).setCell (show w2.heap.size ≤ w3.heap.size + 1 by have := HM.out.bel.size; omega) _
          have := (HOX.out.lt g e).1
          omega
        refine ⟨(((others_belowP HX.out).trans (others_kp12 HKP.out (HI.out.men.of_below HX.out).row)).trans (KeepsOthers.grown_own HOX.out HG5.out)).trans (KeepsOthers.setCell _ _ _), ⟨?_, fun g h1 h2 => ?_⟩, ⟨hrb.2.2.1, hrb.1⟩, ?_, ct2, R ++ Rn, .slice q5 (R.length + Rn.length) c5', ?_⟩
        · have := HG5.out.size; simp; omega
        · rw [Below.heap_setCell _ _ _ _ (show g ≠ w3.heap.size + 1 by omega), HG5.out.block g (by omega) (fun e => by have := HI.out.far g e.symm; omega), HKP.out.block g (by have := HX.out.size; omega) (by omega)]
          exact HX.out.block g (by omega)
        · have := HG5.out.size; simp; omega
        · have hbx0 : xm.heap[w3.heap.size]? = A.heap[w3.heap.size]? := (HKP.out.block _ (by have := HX.out.size; omega) (by have := HC3.out; omega)).trans (HX.out.block _ (by omega))
          exact { men := HME.out.keep (hsame b hl.1 hbC.1) (hsame C hl.2.1 hbC.2.1) (hsame G hl.2.2.1 hbC.2.2) hbel, all := HST.out, box := by rw [World.cell?_of_block (w := A) ((hsame _ hl.2.2.2.1 (by omega)).trans hbx0)]; exact HI.out.box, rep := World.cell?_setCell_same _ _ _ HR5.out.1, frz := by rw [World.frozen?_setCell]; exact HR5.out.2, slc := ⟨_, _, _, rfl⟩, own := HO5.out.keep (fun g e => Below.heap_setCell _ _ _ _ (show g ≠ w3.heap.size + 1 by have := (HO5.out.lt g e).1; omega)), far := (fun g e => by
            rcases HOR.out with h | h
            · exact HI.out.far g (h ▸ e)
            · rw [h] at e; injection e with e; omega), lts := hl }
  case done =>
    rintro D lo hi A hA ⟨⟨hlh, hlo2⟩, hhA, ct, R, v, hI⟩ hK9
    have hD1 : D = N0 + 1 := by rw [hA]; exact hs5
    subst hD1
    have HK9 := Lib.hid hK9
    have HRB := Lib.hid (And.intro hlh (And.intro hlo2 (And.intro hhA hI.lts)))
    obtain ⟨qv, nv, cv, hv⟩ := hI.slc
    subst hv
    obtain ⟨V2, hV2⟩ : ∃ V, rcV ⟨p, (sz : Int), t, c, f, false, wh, q, n, cap⟩ = V := ⟨_, rfl⟩
    have hll := HLL.out.2
    have hbd : ∀ u, Below A.heap.size A u → Calls Tryz.prog 87 #[V2, .slice (some ⟨C, 0, none⟩) sz sz] u (fun e w' => ∃ v, e = .returned v ∧ OwnIV w' u.heap.size v (badL (nblk sz) (fun i => deq (digL (blkL (rowC ct sz) i)) (ds.getD i []))) ∧ Below u.heap.size u w') := fun u hu => by
      have hm := hI.men.of_below hu
      have hr := hm.row
      rw [hll] at hr
      rw [← hV2]
      exact bad12_any ⟨p, (sz : Int), t, c, f, false, wh, q, n, cap⟩ ds (rowC ct sz) (some ⟨C, 0, none⟩) sz sz u hm.dgw HDN.out.1 rfl (rowC_len ct sz) (fun j hj => by
        rw [rowC_len] at hj
        refine ⟨C, 0, rfl, ?_⟩
        rw [Nat.zero_add, hr.cell j hj]
        unfold rowC
        simp [List.getD_eq_getElem?_getD, hj]) (Nat.le_refl _) (by have := HDN.out.2; omega) hm.tbw
    have HBAD := Lib.hid hbd
    have HS := Lib.hid (show ∀ u, Below A.heap.size A u → (u.cell? ⟨w3.heap.size, 0, none⟩ = some (.pointer (some ⟨b, 0, none⟩)) ∧ u.cell? ⟨b, 54, none⟩ = some (.slice (some ⟨C, 0, none⟩) sz sz) ∧ u.cell? ⟨w3.heap.size + 1, 0, none⟩ = some (.slice qv nv cv) ∧ (ldT 44 (.pointer (some ⟨b, 0, none⟩))).run Tryz.prog u = .ok (.value V2) u ∧ Below A.heap.size A u) from fun u hu => by
      have h := hI.of_below hu
      have h54 := h.men.mdr.content
      rw [hll] at h54
      exact ⟨h.box, h54, h.rep, by rw [← hV2]; exact h.men.mdr.load, hu⟩)
    have HI := Lib.hid hI
    clear hI hK9 hlh hlo2 hhA hbd hV2 hll hA
    gi_wp2
    refine wpIn_wide.2 ?_
    refine wp_region_noPanic ?_
    refine wp_region_held_drew (S := (fun u : World => u.cell? ⟨w3.heap.size, 0, none⟩ = some (.pointer (some ⟨b, 0, none⟩)) ∧ u.cell? ⟨b, 54, none⟩ = some (.slice (some ⟨C, 0, none⟩) sz sz) ∧ u.cell? ⟨w3.heap.size + 1, 0, none⟩ = some (.slice qv nv cv) ∧ (ldT 44 (.pointer (some ⟨b, 0, none⟩))).run Tryz.prog u = .ok (.value V2) u ∧ Below A.heap.size A u)) (by kernel_rfl) (HS.out _ (Below.refl _ _).drew) (fun hHeld => ?_)
    refine wpAnyH_take (i := 0) (v := ?_) (by simp only [List.getElem?_toArray, List.getElem?_cons_succ, List.getElem?_cons_zero]; exact rfl) (by kernel_rfl) (by kernel_rfl) (by kernel_rfl) (fun _ _ _ h => h) (Or.inl ⟨by rfl, ?_⟩) (by assumption) ?_
    rotate_left 1
    · (intro w hSw; (try dsimp only at hSw); go_simp; try with_reducible rfl)
    try simp only [Act.put, List.setIfInBounds_toArray, List.set_cons_zero, List.set_cons_succ]
    refine wpAnyH_take (i := 1) (v := ?_) (by simp only [List.getElem?_toArray, List.getElem?_cons_succ, List.getElem?_cons_zero]; exact rfl) (by kernel_rfl) (by kernel_rfl) (by kernel_rfl) (fun _ _ _ h => h) (Or.inl ⟨by rfl, ?_⟩) (by assumption) ?_
    rotate_left 1
    · (intro w hSw; (try dsimp only at hSw); go_simp; try with_reducible rfl)
    try simp only [Act.put, List.setIfInBounds_toArray, List.set_cons_zero, List.set_cons_succ]
    refine wpAnyH_take (i := 2) (v := ?_) (by simp only [List.getElem?_toArray, List.getElem?_cons_succ, List.getElem?_cons_zero]; exact rfl) (by kernel_rfl) (by kernel_rfl) (by kernel_rfl) (fun _ _ _ h => h) (Or.inl ⟨by rfl, ?_⟩) (by assumption) ?_
    rotate_left 1
    · (intro w hSw; (try dsimp only at hSw); go_simp; try with_reducible rfl)
    try simp only [Act.put, List.setIfInBounds_toArray, List.set_cons_zero, List.set_cons_succ]
    refine wpAnyH_take (i := 3) (v := ?_) (by simp only [List.getElem?_toArray, List.getElem?_cons_succ, List.getElem?_cons_zero]; exact rfl) (by kernel_rfl) (by kernel_rfl) (by kernel_rfl) (fun _ _ _ h => h) (Or.inl ⟨by rfl, ?_⟩) (by assumption) ?_
    rotate_left 1
    · (intro w hSw; (try dsimp only at hSw); go_simp; try with_reducible rfl)
    try simp only [Act.put, List.setIfInBounds_toArray, List.set_cons_zero, List.set_cons_succ]
    refine wpAnyH_take (i := 4) (v := ?_) (by simp only [List.getElem?_toArray, List.getElem?_cons_succ, List.getElem?_cons_zero]; exact rfl) (by kernel_rfl) (by kernel_rfl) (by kernel_rfl) (fun _ _ _ h => h) (Or.inl ⟨by rfl, ?_⟩) (by assumption) ?_
    rotate_left 1
    · (intro w hSw; (try dsimp only at hSw); go_simp; try with_reducible rfl)
    try simp only [Act.put, List.setIfInBounds_toArray, List.set_cons_zero, List.set_cons_succ]
    refine wpAnyH_take (i := 5) (v := ?_) (by simp only [List.getElem?_toArray, List.getElem?_cons_succ, List.getElem?_cons_zero]; exact rfl) (by kernel_rfl) (by kernel_rfl) (by kernel_rfl) (fun _ _ _ h => h) (Or.inl ⟨by rfl, ?_⟩) (by assumption) ?_
    rotate_left 1
    · (intro w hSw; (try dsimp only at hSw); go_simp; try with_reducible rfl)
    try simp only [Act.put, List.setIfInBounds_toArray, List.set_cons_zero, List.set_cons_succ]
    refine wpAnyH_take (i := 6) (v := ?_) (by simp only [List.getElem?_toArray, List.getElem?_cons_succ, List.getElem?_cons_zero]; exact rfl) (by kernel_rfl) (by kernel_rfl) (by kernel_rfl) (fun _ _ _ h => h) (Or.inl ⟨by rfl, ?_⟩) (by assumption) ?_
    rotate_left 1
    · (intro w hSw; (try dsimp only at hSw); go_simp; try with_reducible rfl)
    try simp only [Act.put, List.setIfInBounds_toArray, List.set_cons_zero, List.set_cons_succ]
    refine wpAnyH_take (i := 7) (v := ?_) (by simp only [List.getElem?_toArray, List.getElem?_cons_succ, List.getElem?_cons_zero]; exact rfl) (by kernel_rfl) (by kernel_rfl) (by kernel_rfl) (fun _ _ _ h => h) (Or.inl ⟨by rfl, ?_⟩) (by assumption) ?_
    rotate_left 1
    · (intro w hSw; (try dsimp only at hSw); go_simp; try with_reducible rfl)
    try simp only [Act.put, List.setIfInBounds_toArray, List.set_cons_zero, List.set_cons_succ]
    refine wpAnyH_take (i := 8) (v := ?_) (by simp only [List.getElem?_toArray, List.getElem?_cons_succ, List.getElem?_cons_zero]; exact rfl) (by kernel_rfl) (by kernel_rfl) (by kernel_rfl) (fun _ _ _ h => h) (Or.inl ⟨by rfl, ?_⟩) (by assumption) ?_
    rotate_left 1
    · (intro w hSw; (try dsimp only at hSw); go_simp; try with_reducible rfl)
    try simp only [Act.put, List.setIfInBounds_toArray, List.set_cons_zero, List.set_cons_succ]
    refine wpAnyH_take (i := 9) (v := ?_) (by simp only [List.getElem?_toArray, List.getElem?_cons_succ, List.getElem?_cons_zero]; exact rfl) (by kernel_rfl) (by kernel_rfl) (by kernel_rfl) (fun _ _ _ h => h) (Or.inl ⟨by rfl, ?_⟩) (by assumption) ?_
    rotate_left 1
    · (intro w hSw; (try dsimp only at hSw); go_simp; try with_reducible rfl)
    try simp only [Act.put, List.setIfInBounds_toArray, List.set_cons_zero, List.set_cons_succ]
    refine wpAnyH_take (i := 10) (v := ?_) (by simp only [List.getElem?_toArray, List.getElem?_cons_succ, List.getElem?_cons_zero]; exact rfl) (by kernel_rfl) (by kernel_rfl) (by kernel_rfl) (fun _ _ _ h => h) (Or.inl ⟨by rfl, ?_⟩) (by assumption) ?_
    rotate_left 1
    · (intro w hSw; (try dsimp only at hSw); go_simp; try with_reducible rfl)
    try simp only [Act.put, List.setIfInBounds_toArray, List.set_cons_zero, List.set_cons_succ]
    refine wpAnyH_take (i := 11) (v := ?_) (by simp only [List.getElem?_toArray, List.getElem?_cons_succ, List.getElem?_cons_zero]; exact rfl) (by kernel_rfl) (by kernel_rfl) (by kernel_rfl) (fun _ _ _ h => h) (Or.inl ⟨by rfl, ?_⟩) (by assumption) ?_
    rotate_left 1
    · (intro w hSw; (try dsimp only at hSw); go_simp; try with_reducible rfl)
    try simp only [Act.put, List.setIfInBounds_toArray, List.set_cons_zero, List.set_cons_succ]
    refine wpAnyH_take (i := 12) (v := ?_) (by simp only [List.getElem?_toArray, List.getElem?_cons_succ, List.getElem?_cons_zero]; exact rfl) (by kernel_rfl) (by kernel_rfl) (by kernel_rfl) (fun _ _ _ h => h) (Or.inl ⟨by rfl, ?_⟩) (by assumption) ?_
    rotate_left 1
    · (intro w hSw; (try dsimp only at hSw); go_simp; try with_reducible rfl)
    try simp only [Act.put, List.setIfInBounds_toArray, List.set_cons_zero, List.set_cons_succ]
    refine wpAnyH_ready (rs := [13]) (by kernel_rfl) (by simp) ?_
    refine (AllReadyH.cons (by simp only [List.getElem?_toArray, List.getElem?_cons_succ, List.getElem?_cons_zero]; exact rfl) (fun K hK => ?_) AllReadyH.nil)
    go_simp
    refine (HBAD.out _ hHeld.2.2.2.2).mono ?_
    rintro e u9 ⟨v9, rfl, hO9, hB9⟩
    have HO9 := Lib.hid hO9
    have HB9 := Lib.hid (hHeld.2.2.2.2.trans (hB9.mono hHeld.2.2.2.2.size))
    have HH9 := Lib.hid (show A.heap.size ≤ _ from hHeld.2.2.2.2.size)
    clear hO9 hB9
    refine hK.out _ _ (HS.out _ HB9.out) (fun hHeld => ?_)
    clear hK K
    try simp only [Act.put, List.setIfInBounds_toArray, List.set_cons_zero, List.set_cons_succ]
    refine wpAnyH_take (i := 14) (v := ?_) (by simp only [List.getElem?_toArray, List.getElem?_cons_succ, List.getElem?_cons_zero]; exact rfl) (by kernel_rfl) (by kernel_rfl) (by kernel_rfl) (fun _ _ _ h => h) (Or.inl ⟨by rfl, ?_⟩) (by assumption) ?_
    rotate_left 1
    · (intro w hSw; (try dsimp only at hSw); go_simp; try with_reducible rfl)
    try simp only [Act.put, List.setIfInBounds_toArray, List.set_cons_zero, List.set_cons_succ]
    refine wpAnyH_take (i := 15) (v := ?_) (by simp only [List.getElem?_toArray, List.getElem?_cons_succ, List.getElem?_cons_zero]; exact rfl) (by kernel_rfl) (by kernel_rfl) (by kernel_rfl) (fun _ _ _ h => h) (Or.inl ⟨by rfl, ?_⟩) (by assumption) ?_
    rotate_left 1
    · (intro w hSw; (try dsimp only at hSw); go_simp; try with_reducible rfl)
    try simp only [Act.put, List.setIfInBounds_toArray, List.set_cons_zero, List.set_cons_succ]
    refine wpAnyH_take (i := 16) (v := ?_) (by simp only [List.getElem?_toArray, List.getElem?_cons_succ, List.getElem?_cons_zero]; exact rfl) (by kernel_rfl) (by kernel_rfl) (by kernel_rfl) (fun _ _ _ h => h) (Or.inl ⟨by rfl, ?_⟩) (by assumption) ?_
    rotate_left 1
    · (intro w hSw; (try dsimp only at hSw); go_simp; try with_reducible rfl)
    try simp only [Act.put, List.setIfInBounds_toArray, List.set_cons_zero, List.set_cons_succ]
    refine wpAnyH_take (i := 17) (v := ?_) (by simp only [List.getElem?_toArray, List.getElem?_cons_succ, List.getElem?_cons_zero]; exact rfl) (by kernel_rfl) (by kernel_rfl) (by kernel_rfl) (fun _ _ _ h => h) (Or.inl ⟨by rfl, ?_⟩) (by assumption) ?_
    rotate_left 1
    · (intro w hSw; (try dsimp only at hSw); go_simp; try with_reducible rfl)
    try simp only [Act.put, List.setIfInBounds_toArray, List.set_cons_zero, List.set_cons_succ]
    refine wpAnyH_done (by kernel_rfl) ?_ _
    refine NoPanic.normal ?_
    have hlt9 : N0 + 1 < A.heap.size := (Array.getElem?_eq_some_iff.1 HK9.out).1
    have hk9 : u9.heap[N0 + 1]? = some (Obj.deferred (some [])) := (HB9.out.block _ hlt9).trans HK9.out
    gi_wp2
    refine ⟨by simp, .inl ⟨_, _, rfl, run_takeDeferred hk9, ?_⟩⟩
    have hlt9u : N0 + 1 < u9.heap.size := Nat.lt_of_lt_of_le hlt9 HB9.out.size
    obtain ⟨h1, h2, h3, l1, l2, l3, l4, l5, l6⟩ := HRB.out
    have hF := (HI.out.of_below HB9.out).put (.deferred none) (k := N0 + 1) (Nat.le_refl _) (by omega) (by omega) hlt9u
    have hg := grownBy_putObj' u9 (N0 + 1) (.deferred none)
    have hrow := hF.men.row
    have hall := hF.all
    rw [HLL.out.2] at hrow hall
    have hbf := hF.men.bel
    have hw2 := HB2.out.size
    have hC := hF.men.hC
    refine ⟨.tuple #[.slice (some ⟨C, 0, none⟩) sz sz, .slice qv nv cv, v9, .int .i64 0], ?_, C, _, _, ct, R, rfl, by omega, hrow, hF.own.lower (by omega), ?_, ?_, HB2.out.trans (hbf.mono hw2)⟩
    · simp [results, Tryz.f32, go_sem]
    · exact (HO9.out.keep (fun g e => hg.block g (HO9.out.lt g e).2 (fun e2 => by have h7 := (HO9.out.lt g e).1; have h8 := HH9.out; injection e2 with e2; omega))).lower (by have := HH9.out; omega)
    · rw [HLL.out.1]
      exact hall
end
end Go.Proofs.YtnmopjefjpifoaaGreatDoor
/- sidecar.Mend of a record that is not valid, or of a deleted file. -/
set_option maxRecDepth 100000
namespace Go.Proofs.YtnmopjefjpifoaaGreatDoor
open Go Go.RowKit Go.Shelf

attribute [-go_sem] Sha.exec_store
attribute [local go_sem ↓] exec_boxP exec_loadP
attribute [local go_sem] boxP
set_option maxRecDepth 100000 in
set_option maxHeartbeats 4000000 in
theorem mendNo12 (r : Rc) (hp : r.path.length < 100000) (hwl : r.whole.length = 32) (hno : goodR r = false ∨ r.dead = true) (v1 v2 : Value) (w : World) :
    Calls Tryz.prog 32 #[rcV r, v1, v2] w (fun e w' => e = .returned (.tuple #[.slice none 0 0, .slice none 0 0, .slice none 0 0, .int .i64 1]) ∧ Below w.heap.size w w') := by
  obtain ⟨W1, hW1⟩ : ∃ W, w.alloc (.cells (tab 54 (rcF r)) 44) = W := ⟨_, rfl⟩
  have hb1 : Below w.heap.size w W1 := by rw [← hW1]; exact below_newR _ _
  have hr1 : Row W1 w.heap.size 44 54 (rcF r) := by rw [← hW1]; exact Row.new _ _ _ _
  have x1 := boxRT rtP w r
  rw [hW1] at x1
  have x2 := loadRT rtP hr1
  have HG := Lib.hid (good10_any r hp hwl W1)
  have HR := Lib.hid hr1
  have HB := Lib.hid hb1
  obtain ⟨V, hV⟩ : ∃ V, rcV r = V := ⟨_, rfl⟩
  rw [hV] at x1 x2 HG ⊢
  have hd : ∀ u, Below W1.heap.size W1 u → u.cell? ⟨w.heap.size, 20, none⟩ = some (.bool r.dead) := fun u hu => (hr1.of_below hu).cell 20 (by decide)
  have HDD := Lib.hid hd
  clear hW1 hb1 hr1 hV hd
  obtain ⟨g, hg⟩ : ∃ g, goodR r = g := ⟨_, rfl⟩
  obtain ⟨dd, hdd⟩ : ∃ g, r.dead = g := ⟨_, rfl⟩
  rw [hg] at HG hno
  rw [hdd] at HDD hno
  clear hg hdd
  go_enter Tryz.func32, Tryz.ntmps32
  go_wp2_with fail
  refine HG.out.mono ?_
  rintro e w2 ⟨rfl, hB⟩
  have HB2 := Lib.hid (HB.out.trans (hB.mono HB.out.size))
  have hc := HDD.out w2 hB
  clear hB x1 x2
  rcases g with _ | _
  · clear hno
    go_wp2
    refine ⟨rfl, .tuple #[.slice none 0 0, .slice none 0 0, .slice none 0 0, .int .i64 1], ?_, ⟨rfl, HB2.out⟩⟩
    simp [results, Tryz.f32, go_sem]
  · obtain rfl : dd = true := by rcases hno with h | h; cases h; exact h
    clear hno
    go_wp2
    refine ⟨rfl, .tuple #[.slice none 0 0, .slice none 0 0, .slice none 0 0, .int .i64 1], ?_, ⟨rfl, HB2.out⟩⟩
    simp [results, Tryz.f32, go_sem]
end Go.Proofs.YtnmopjefjpifoaaGreatDoor
/- darnerref12.Sized. -/
set_option maxRecDepth 100000
namespace Go.Proofs.YtnmopjefjpifoaaGreatDoor
open Go Go.RowKit

attribute [-go_sem] Sha.exec_store
attribute [local go_sem ↓] exec_make exec_store
attribute [local go_sem] mkB
set_option maxRecDepth 100000 in
set_option maxHeartbeats 4000000 in
theorem sized12_any (l : List (BitVec 8)) (q : Option Addr) (n cap sz : Nat) (w : World) (hl : l.length = n) (hs : Sl w q l) (hn : n < 1000000) (hsz : sz ≤ 100000) :
    Calls Tryz.prog 34 #[.slice q n cap, .int .i64 (sz : Int)] w (fun e w' => e = .returned (.slice (some ⟨w.heap.size, 0, none⟩) sz sz) ∧ Row w' w.heap.size 5 sz (fun j => B (szF l j)) ∧ Below w.heap.size w w') := by
  obtain ⟨N, hN⟩ : ∃ N, w.heap.size = N := ⟨_, rfl⟩
  have hmk := mkB sz w (by omega)
  obtain ⟨W, hW⟩ : ∃ W, w.alloc (.cells (zb sz) 5) = W := ⟨_, rfl⟩
  have hb : Below w.heap.size w W := by rw [← hW]; exact below_newR _ _
  have hr : Row W N 5 sz (fun _ => B 0#8) := by rw [← hW, ← hN]; exact Row.new _ _ _ _
  rw [hW, hN] at hmk
  have HB0 := Lib.hid hb
  have HR0 := Lib.hid hr
  have HS := Lib.hid hs
  have HL := Lib.hid hl
  have HN := Lib.hid hN
  rw [hN]
  clear hb hr hs hl hW hN
  go_enter Tryz.func34, Tryz.ntmps34
  go_wp2
  go_loopw [6] (fun fi wr => ∃ i : Nat, i ≤ sz ∧ fi = .int .i64 (i : Int) ∧ Row wr N 5 sz (fun j => if j < i then B (szF l j) else B 0#8) ∧ Below w.heap.size w wr) (fun fi _ => sz - (intOf fi).toNat)
  case atStart => exact ⟨0, Nat.zero_le _, rfl, HR0.out.congr (fun j _ => by rw [if_neg (by omega)]), HB0.out⟩
  case round =>
    obtain ⟨i, hi, rfl, hR, hB⟩ := hrel
    have HR := Lib.hid hR
    have HB := Lib.hid hB
    have HBN := Lib.hid (show Below N w wr from by have h := hB; rw [HN.out] at h; exact h)
    clear hR hB
    by_cases h1 : i < sz
    · have z1 : (i : Int) < (sz : Int) := by omega
      have z2 : decide ((i : Int) < (sz : Int)) = true := decide_eq_true z1
      by_cases h2 : i < n
      · have z3 : (i : Int) < (n : Int) := by omega
        have z4 : decide ((i : Int) < (n : Int)) = true := decide_eq_true z3
        have z5 : (0 : Int) ≤ (i : Int) := by omega
        obtain ⟨c, o, rfl, hcell⟩ := (HS.out.of_below HB.out) i (by rw [HL.out]; exact h2)
        obtain ⟨x, hx⟩ : ∃ x, l.getD i 0#8 = x := ⟨_, rfl⟩
        rw [hx] at hcell
        have HX := Lib.hid hx
        have H12 := Lib.hid (And.intro h1 h2)
        have hgs : (wr.cell? ⟨N, i, none⟩).isSome = true := by rw [HR.out.cell i h1]; rfl
        have hst := st_B ⟨N, i, none⟩ x wr hgs (HR.out.free i)
        clear hx hgs
        go_wp2
        go_roundw
        case rel => exact ⟨i + 1, by have := H12.out; omega, by go_num, (HR.out.set i (B x)).congr (fun j hj => by
          by_cases hji : j = i
          · subst hji
            rw [if_pos rfl, if_pos (by omega)]
            unfold szF
            rw [HX.out]
          · rw [if_neg hji]
            by_cases h : j < i
            · rw [if_pos h, if_pos (by omega)]
            · rw [if_neg h, if_neg (by omega)]), HB.out.setCell (show w.heap.size ≤ (⟨N, i, none⟩ : Addr).block by rw [HN.out]; exact Nat.le_refl _) _⟩
        case measure => have := H12.out; simp [intOf]; omega
      · have z3 : ¬ (i : Int) < (n : Int) := by omega
        have z4 : decide ((i : Int) < (n : Int)) = false := decide_eq_false z3
        have H2 := Lib.hid h2
        go_wp2
        go_ret
        exact ⟨rfl, HR.out.congr (fun j hj => by
          by_cases h : j < i
          · rw [if_pos h]
          · rw [if_neg h]
            unfold szF
            rw [List.getD_eq_getElem?_getD, List.getElem?_eq_none (by have := H2.out; have := HL.out; omega)]
            rfl), HBN.out⟩
    · have z1 : ¬ (i : Int) < (sz : Int) := by omega
      have z2 : decide ((i : Int) < (sz : Int)) = false := decide_eq_false z1
      have H1 := Lib.hid h1
      go_wp2
      go_ret
      exact ⟨rfl, HR.out.congr (fun j hj => by rw [if_pos (by have := H1.out; omega)]), HBN.out⟩
end Go.Proofs.YtnmopjefjpifoaaGreatDoor
/- What SidecarRaw counts of each block: plain facts. -/
set_option maxRecDepth 100000
namespace Go.Proofs.YtnmopjefjpifoaaGreatDoor
open Go Go.RowKit
attribute [-go_sem] Sha.exec_store

/-- How often block k stands in R, and twice how often in L. -/
def kdF (R L : List Nat) (k : Nat) : Int := (R.count k : Int) + 2 * (L.count k : Int)
theorem kdF_nil (k : Nat) : kdF [] [] k = 0 := by unfold kdF; simp
theorem kdF_put1 (R : List Nat) (i : Nat) (h : i < R.length) (j : Nat) : (if j = R.getD i 0 then Value.int .i64 (kdF (R.take i) [] (R.getD i 0) + 1) else Value.int .i64 (kdF (R.take i) [] j)) = Value.int .i64 (kdF (R.take (i + 1)) [] j) := by
  have e : R.take (i + 1) = R.take i ++ [R.getD i 0] := take_getD R 0 i h
  unfold kdF
  rw [e, List.count_append]
  by_cases hj : j = R.getD i 0
  · rw [if_pos hj, hj]; simp
  · rw [if_neg hj]
    have : List.count j [R.getD i 0] = 0 := List.count_eq_zero.2 (by simpa using hj)
    rw [this]; simp
theorem kdF_put2 (R L : List Nat) (i : Nat) (h : i < L.length) (j : Nat) : (if j = L.getD i 0 then Value.int .i64 (kdF R (L.take i) (L.getD i 0) + 2) else Value.int .i64 (kdF R (L.take i) j)) = Value.int .i64 (kdF R (L.take (i + 1)) j) := by
  have e : L.take (i + 1) = L.take i ++ [L.getD i 0] := take_getD L 0 i h
  unfold kdF
  rw [e, List.count_append]
  by_cases hj : j = L.getD i 0
  · rw [if_pos hj, hj]
    congr 1
    have : List.count (L.getD i 0) [L.getD i 0] = 1 := by simp
    rw [this]; omega
  · rw [if_neg hj]
    have : List.count j [L.getD i 0] = 0 := List.count_eq_zero.2 (by simpa using hj)
    rw [this]; simp
theorem count_le (R : List Nat) (i k : Nat) : (R.take i).count k ≤ i := Nat.le_trans List.count_le_length (List.length_take_le _ _)
theorem kdF_bd (R L : List Nat) (i j k : Nat) : 0 ≤ kdF (R.take i) (L.take j) k ∧ kdF (R.take i) (L.take j) k ≤ i + 2 * j := by
  have h1 := count_le R i k
  have h2 := count_le L j k
  unfold kdF
  omega
theorem badL_mem {n : Nat} {hb : Nat → Bool} {k : Nat} : k ∈ badL n hb ↔ k < n ∧ hb k = false := by
  unfold badL
  simp
/-- The four outcomes: which switch arm is taken, and what holds there. -/
theorem kd_cases {s : Nat} {l : List (BitVec 8)} {ds : List (List (BitVec 8))} {ct : Nat → BitVec 8} {R : List Nat} (h : MdAll s l ds ct R) (k : Nat) (hk : k < nblk l.length) :
    (kdF R (badL (nblk l.length) (fun i => deq (digL (blkL (rowC ct l.length) i)) (ds.getD i []))) k = 0 ∧ blkL (rowC ct l.length) k = blkL l k ∧ deq (digL (blkL l k)) (ds.getD k []) = true) ∨
    (kdF R (badL (nblk l.length) (fun i => deq (digL (blkL (rowC ct l.length) i)) (ds.getD i []))) k = 1 ∧ deq (digL (blkL l k)) (ds.getD k []) = false ∧ deq (digL (blkL (rowC ct l.length) k)) (ds.getD k []) = true) ∨
    (kdF R (badL (nblk l.length) (fun i => deq (digL (blkL (rowC ct l.length) i)) (ds.getD i []))) k = 2 ∧ blkL (rowC ct l.length) k = blkL l k ∧ deq (digL (blkL l k)) (ds.getD k []) = false) := by
  have hc : ∀ (L : List Nat), L.Nodup → L.count k = if k ∈ L then 1 else 0 := fun L hL => by
    by_cases hm : k ∈ L
    · rw [if_pos hm]; exact List.Nodup.count hL ▸ (by rw [if_pos hm])
    · rw [if_neg hm]; exact List.count_eq_zero.2 hm
  unfold kdF
  rw [hc R h.1, hc _ (badL_nodup _ _)]
  by_cases hR : k ∈ R
  · obtain ⟨h1, h2, h3, h4⟩ := h.2.1 k hR
    rw [if_pos hR, if_neg (fun e => by have := (badL_mem.1 e).2; rw [h4] at this; cases this)]
    exact .inr (.inl ⟨by omega, h3, h4⟩)
  · have hs := h.same k hR
    rw [if_neg hR]
    by_cases hB : deq (digL (blkL l k)) (ds.getD k []) = true
    · rw [if_neg (fun e => by have := (badL_mem.1 e).2; rw [hs, hB] at this; cases this)]
      exact .inl ⟨by omega, hs, hB⟩
    · have hB : deq (digL (blkL l k)) (ds.getD k []) = false := by simpa using hB
      rw [if_pos (badL_mem.2 ⟨hk, by rw [hs]; exact hB⟩)]
      exact .inr (.inr ⟨by omega, hs, hB⟩)
end Go.Proofs.YtnmopjefjpifoaaGreatDoor
/- The reference's sidecar. -/
set_option maxRecDepth 100000
namespace Go.Proofs.YtnmopjefjpifoaaGreatDoor
open Go Go.RowKit

attribute [-go_sem] Sha.exec_store
theorem exec_storeR12 (r : Operand → Value) (dst : Option Tmp) (p v : Operand) (ty : TypeId) (pos : String) (after : Array Edge) (guard : Option (Nat × Bool)) :
    execOp r ⟨dst, .store 41 p v, ty, pos, after, guard⟩ = stT 41 (r p) (r v) := rfl
attribute [local go_sem ↓] exec_alloc32 exec_storeR12 exec_slice exec_bs
attribute [local go_sem] sl_arr st_dig bs0 bsR
end Go.Proofs.YtnmopjefjpifoaaGreatDoor
/- The fixed fact of layer 12; the entries of a sidecar, plain. -/
set_option maxRecDepth 100000
namespace Go.Proofs.YtnmopjefjpifoaaGreatDoor
open Go Go.RowKit

attribute [-go_sem] Sha.exec_store
theorem mkSd_nil : mkSd [] = digL [] := by unfold mkSd; show digL [] ++ _ = _; rw [show nstr ([] : List (BitVec 8)).length = 0 from rfl]; simp
end Go.Proofs.YtnmopjefjpifoaaGreatDoor
/- The fixed fact of layer 12. -/
set_option maxRecDepth 100000
namespace Go.Proofs.YtnmopjefjpifoaaGreatDoor
open Go Go.RowKit

attribute [-go_sem] Sha.exec_store
attribute [local go_sem ↓] exec_alloc32 exec_store exec_slice
attribute [local go_sem] st_dig sl_arr
set_option maxRecDepth 100000 in
set_option maxHeartbeats 8000000 in
theorem awake12 (w : World) (hT : Tb w) : Calls Tryz.prog 31 #[] w fun e w' => e = .returned (.bool true) ∧ Below w.heap.size w w' := by
  have HM := Lib.hid (make12_ok [] none 0 0 w rfl (fun j hj => absurd hj (by simp)) (fun _ => rfl) (Nat.le_refl _) (by decide) hT)
  have HT := Lib.hid hT
  have HLE := Lib.hid (fun u => Len_any 1 u (by decide) (by decide))
  rw [show (32 + 576 * nstr (Int.toNat 1) : Nat) = 608 from rfl] at HLE
  rw [mkSd_nil] at HM
  clear hT
  go_enter Tryz.func31, Tryz.ntmps31
  go_wp2_with fail
  refine HM.out.mono ?_
  rintro e w1 ⟨v1, rfl, hO1, hB1⟩
  have HO1 := Lib.hid hO1
  have HB1 := Lib.hid hB1
  obtain ⟨p1, c1, hv, -⟩ := hO1.shape
  subst hv
  have HD := Lib.hid (refSum1_any [] none 0 0 w1 rfl (fun j hj => absurd hj (by simp)) (fun _ => rfl) (HT.out.on hB1) (by decide))
  obtain ⟨d, hd⟩ : ∃ d, digL [] = d := ⟨_, rfl⟩
  have hdl : d.length = 32 := by rw [← hd]; exact digL_len _
  rw [hd] at HO1 HD ⊢
  rw [hdl] at HO1 ⊢
  have HDL := Lib.hid hdl
  clear hO1 hB1 hd hdl HM
  go_wp2_with fail
  refine HD.out.mono ?_
  rintro e w2 ⟨rfl, hB2⟩
  have st := st_dig w2 w2.heap.size d rfl
  obtain ⟨y, hy⟩ : ∃ y, w2.alloc (.cells (tab 32 (dgF d)) 41) = y := ⟨_, rfl⟩
  have hby := below_newR w2 (.cells (tab 32 (dgF d)) 41)
  have hrd := Row.new w2 41 32 (dgF d)
  rw [hy] at st hby hrd
  have hb := hB2.trans (hby.mono hB2.size)
  have HBF := Lib.hid (show Below w.heap.size w y.drew from (HB1.out.trans (hb.mono HB1.out.size)).drew)
  obtain ⟨sA, hsA⟩ : ∃ s, strOf d = s := ⟨_, rfl⟩
  have ho := HO1.out.of_below hb.drew
  obtain ⟨p1', c1', hv', hs1, hp1, -⟩ := ho.shape
  rw [HDL.out] at hv'
  injection hv' with hv1 hv2 hv3
  subst hv1 hv3
  have HCV := Lib.hid (show (convert 53 9 (.slice p1 32 c1)).run Tryz.prog y.drew = .ok (.string sA) y.drew ∧ (convert 53 9 (.slice (some ⟨w2.heap.size, 0, none⟩) 32 32)).run Tryz.prog y.drew = .ok (.string sA) y.drew from ⟨by rw [← hsA]; exact conv_str _ _ _ _ _ hs1 HDL.out hp1, by rw [← hsA]; exact conv_str y.drew _ _ _ _ (dgF_sl12 hrd HDL.out) HDL.out (fun e => by cases e)⟩)
  clear hy hby hrd hb hB2 hsA ho hs1 hp1 hv2 HO1
  go_wp2
  clear st
  refine wp_region_noPanic ?_
  refine wp_region_held_drew (S := (fun u : World => (convert 53 9 (.slice p1 32 c1)).run Tryz.prog u = .ok (.string sA) u ∧ (convert 53 9 (.slice (some ⟨w2.heap.size, 0, none⟩) 32 32)).run Tryz.prog u = .ok (.string sA) u)) (by kernel_rfl) (HCV.out) (fun hHeld => ?_)
  refine wpAnyH_take (i := 0) (v := ?_) (by simp only [List.getElem?_toArray, List.getElem?_cons_succ, List.getElem?_cons_zero]; exact rfl) (by kernel_rfl) (by kernel_rfl) (by kernel_rfl) (fun _ _ _ h => h) (Or.inl ⟨by rfl, ?_⟩) (by assumption) ?_
  rotate_left 1
  · (intro w hSw; (try dsimp only at hSw); go_simp; try with_reducible rfl)
  try simp only [Act.put, List.setIfInBounds_toArray, List.set_cons_zero, List.set_cons_succ]
  refine wpAnyH_take (i := 1) (v := ?_) (by simp only [List.getElem?_toArray, List.getElem?_cons_succ, List.getElem?_cons_zero]; exact rfl) (by kernel_rfl) (by kernel_rfl) (by kernel_rfl) (fun _ _ _ h => h) (Or.inl ⟨by rfl, ?_⟩) (by assumption) ?_
  rotate_left 1
  · (intro w hSw; (try dsimp only at hSw); go_simp; try with_reducible rfl)
  try simp only [Act.put, List.setIfInBounds_toArray, List.set_cons_zero, List.set_cons_succ]
  refine wpAnyH_take (i := 2) (v := ?_) (by simp only [List.getElem?_toArray, List.getElem?_cons_succ, List.getElem?_cons_zero]; exact rfl) (by kernel_rfl) (by kernel_rfl) (by kernel_rfl) (fun _ _ _ h => h) (Or.inl ⟨by rfl, ?_⟩) (by assumption) ?_
  rotate_left 1
  · (intro w hSw; (try dsimp only at hSw); go_simp; try with_reducible rfl)
  try simp only [Act.put, List.setIfInBounds_toArray, List.set_cons_zero, List.set_cons_succ]
  refine wpAnyH_take (i := 3) (v := ?_) (by simp only [List.getElem?_toArray, List.getElem?_cons_succ, List.getElem?_cons_zero]; exact rfl) (by kernel_rfl) (by kernel_rfl) (by kernel_rfl) (fun _ _ _ h => h) (Or.inl ⟨by rfl, ?_⟩) (by assumption) ?_
  rotate_left 1
  · (intro w hSw; (try dsimp only at hSw); go_simp; try with_reducible rfl)
  try simp only [Act.put, List.setIfInBounds_toArray, List.set_cons_zero, List.set_cons_succ]
  refine wpAnyH_take (i := 4) (v := ?_) (by simp only [List.getElem?_toArray, List.getElem?_cons_succ, List.getElem?_cons_zero]; exact rfl) (by kernel_rfl) (by kernel_rfl) (by kernel_rfl) (fun _ _ _ h => h) (Or.inl ⟨by rfl, ?_⟩) (by assumption) ?_
  rotate_left 1
  · (intro w hSw; (try dsimp only at hSw); go_simp; try with_reducible rfl)
  try simp only [Act.put, List.setIfInBounds_toArray, List.set_cons_zero, List.set_cons_succ]
  refine wpAnyH_take (i := 5) (v := ?_) (by simp only [List.getElem?_toArray, List.getElem?_cons_succ, List.getElem?_cons_zero]; exact rfl) (by kernel_rfl) (by kernel_rfl) (by kernel_rfl) (fun _ _ _ h => h) (Or.inl ⟨by rfl, ?_⟩) (by assumption) ?_
  rotate_left 1
  · (intro w hSw; (try dsimp only at hSw); go_simp; try with_reducible rfl)
  try simp only [Act.put, List.setIfInBounds_toArray, List.set_cons_zero, List.set_cons_succ]
  refine wpAnyH_take (i := 6) (v := ?_) (by simp only [List.getElem?_toArray, List.getElem?_cons_succ, List.getElem?_cons_zero]; exact rfl) (by kernel_rfl) (by kernel_rfl) (by kernel_rfl) (fun _ _ _ h => h) (Or.inl ⟨by rfl, ?_⟩) (by assumption) ?_
  rotate_left 1
  · (intro w hSw; (try dsimp only at hSw); go_simp; try with_reducible rfl)
  try simp only [Act.put, List.setIfInBounds_toArray, List.set_cons_zero, List.set_cons_succ]
  refine wpAnyH_take (i := 7) (v := ?_) (by simp only [List.getElem?_toArray, List.getElem?_cons_succ, List.getElem?_cons_zero]; exact rfl) (by kernel_rfl) (by kernel_rfl) (by kernel_rfl) (fun _ _ _ h => h) (Or.inl ⟨by rfl, ?_⟩) (by assumption) ?_
  rotate_left 1
  · (intro w hSw; (try dsimp only at hSw); go_simp; try with_reducible rfl)
  try simp only [Act.put, List.setIfInBounds_toArray, List.set_cons_zero, List.set_cons_succ]
  refine wpAnyH_take (i := 8) (v := ?_) (by simp only [List.getElem?_toArray, List.getElem?_cons_succ, List.getElem?_cons_zero]; exact rfl) (by kernel_rfl) (by kernel_rfl) (by kernel_rfl) (fun _ _ _ h => h) (Or.inl ⟨by rfl, ?_⟩) (by assumption) ?_
  rotate_left 1
  · (intro w hSw; (try dsimp only at hSw); go_simp; try with_reducible rfl)
  try simp only [Act.put, List.setIfInBounds_toArray, List.set_cons_zero, List.set_cons_succ]
  refine wpAnyH_take (i := 9) (v := ?_) (by simp only [List.getElem?_toArray, List.getElem?_cons_succ, List.getElem?_cons_zero]; exact rfl) (by kernel_rfl) (by kernel_rfl) (by kernel_rfl) (fun _ _ _ h => h) (Or.inl ⟨by rfl, ?_⟩) (by assumption) ?_
  rotate_left 1
  · (intro w hSw; (try dsimp only at hSw); go_simp; try with_reducible rfl)
  try simp only [Act.put, List.setIfInBounds_toArray, List.set_cons_zero, List.set_cons_succ]
  refine wpAnyH_ready (rs := [10]) (by kernel_rfl) (by simp) ?_
  refine (AllReadyH.cons (by simp only [List.getElem?_toArray, List.getElem?_cons_succ, List.getElem?_cons_zero]; exact rfl) (fun K hK => ?_) AllReadyH.nil)
  go_simp
  refine (HLE.out _).mono ?_
  rintro e vW ⟨rfl, rfl⟩
  go_wp2_with fail
  refine hK.out _ _ hHeld (fun hHeld => ?_)
  clear hK K
  try simp only [Act.put, List.setIfInBounds_toArray, List.set_cons_zero, List.set_cons_succ]
  refine wpAnyH_take (i := 11) (v := ?_) (by simp only [List.getElem?_toArray, List.getElem?_cons_succ, List.getElem?_cons_zero]; exact rfl) (by kernel_rfl) (by kernel_rfl) (by kernel_rfl) (fun _ _ _ h => h) (Or.inl ⟨by rfl, ?_⟩) (by assumption) ?_
  rotate_left 1
  · (intro w hSw; (try dsimp only at hSw); go_simp; try with_reducible rfl)
  try simp only [Act.put, List.setIfInBounds_toArray, List.set_cons_zero, List.set_cons_succ]
  refine wpAnyH_take (i := 12) (v := ?_) (by simp only [List.getElem?_toArray, List.getElem?_cons_succ, List.getElem?_cons_zero]; exact rfl) (by kernel_rfl) (by kernel_rfl) (by kernel_rfl) (fun _ _ _ h => h) (Or.inl ⟨by rfl, ?_⟩) (by assumption) ?_
  rotate_left 1
  · (intro w hSw; (try dsimp only at hSw); go_simp; try with_reducible rfl)
  try simp only [Act.put, List.setIfInBounds_toArray, List.set_cons_zero, List.set_cons_succ]
  refine wpAnyH_take (i := 13) (v := ?_) (by simp only [List.getElem?_toArray, List.getElem?_cons_succ, List.getElem?_cons_zero]; exact rfl) (by kernel_rfl) (by kernel_rfl) (by kernel_rfl) (fun _ _ _ h => h) (Or.inl ⟨by rfl, ?_⟩) (by assumption) ?_
  rotate_left 1
  · (intro w hSw; (try dsimp only at hSw); go_simp; try with_reducible rfl)
  try simp only [Act.put, List.setIfInBounds_toArray, List.set_cons_zero, List.set_cons_succ]
  refine wpAnyH_done (by kernel_rfl) ?_ _
  refine NoPanic.normal ?_
  clear hHeld
  go_wp2
  go_ret
  exact ⟨rfl, HBF.out⟩
end Go.Proofs.YtnmopjefjpifoaaGreatDoor
/- A record in the words of the program; records compared. -/
set_option maxRecDepth 100000
namespace Go.Proofs.YtnmopjefjpifoaaGreatDoor
open Go Go.RowKit

attribute [-go_sem] Sha.exec_store
theorem below_gf {x y z : World} (h : Below x.heap.size x y) (hg : y.grownBy z (Value.slice (some ⟨x.heap.size, 0, none⟩) 0 0).ownBlock) (hs : x.heap.size ≤ y.heap.size) : Below x.heap.size x z :=
  h.grown hg hs (fun k hk => by have : x.heap.size = k := (by simpa [Value.ownBlock] using hk); omega)
attribute [local go_sem ↓] exec_boxA exec_loadA exec_indexA exec_allocA exec_storeA exec_buildA exec_eqlA exec_neqA exec_boxV exec_loadV exec_indexV exec_allocV exec_storeV exec_buildV exec_eqlV exec_neqV
attribute [local go_sem] boxA indexA storeNewA buildA eqlA neqA boxV indexV storeNewV buildV eqlV neqV

attribute [local go_sem ↓] exec_loadS exec_boxS exec_boxP exec_boxM exec_allocP exec_allocM exec_storeP exec_storeM exec_buildP exec_buildM exec_buildS exec_load32 exec_build32 exec_eqlD exec_neqD exec_bs
attribute [local go_sem] box_stamp boxP boxM bd32 eqlD neqD bdS3 deq_self veq_self10
theorem bsD0 (w : World) : (bsT 42 0 #[]).run Tryz.prog w = .ok (.value (.slice (some ⟨w.heap.size, 0, none⟩) 0 0)) (w.alloc (.cells #[] 41)) := by kernel_rfl
attribute [local go_sem] bsD0
set_option maxRecDepth 100000 in
set_option maxHeartbeats 4000000 in
theorem real_any (r : Rc) (ds : List By) (w : World) (h : DgAt w r ds) (hn : ds.length < 100000) :
    Calls Tryz.prog 28 #[rcV r] w fun e w' => ∃ q' cap', e = .returned (rcV (r.mov q' cap')) ∧ Below w.heap.size w w' ∧ DgAt w' (r.mov q' cap') ds := by
  obtain ⟨W1, hW1⟩ : ∃ W, w.alloc (.cells (tab 54 (rcF r)) 49) = W := ⟨_, rfl⟩
  obtain ⟨W2, hW2⟩ : ∃ W, W1.alloc (.cells (tab 54 (rcF rc0)) 44) = W := ⟨_, rfl⟩
  have hB1 : Below w.heap.size w W1 := by rw [← hW1]; exact below_newD _ _
  have hB2 : Below W1.heap.size W1 W2 := by rw [← hW2]; exact below_newD _ _
  have hB := hB1.trans (hB2.mono hB1.size)
  have z1 : W1.heap.size = w.heap.size + 1 := by rw [← hW1]; simp
  have z2 : W2.heap.size = w.heap.size + 2 := by rw [← hW2]; simp [z1]
  have hR1 : Row W2 w.heap.size 49 54 (rcF r) := (by rw [← hW1]; exact Row.new w _ 54 _ : Row W1 w.heap.size 49 54 (rcF r)).of_below hB2
  have hR2 : Row W2 W1.heap.size 44 54 (rcF rc0) := by rw [← hW2]; exact Row.new W1 _ 54 _
  have hwl := h.whole
  obtain ⟨V, hV⟩ : ∃ V, rcV r = V := ⟨_, rfl⟩
  have x1 : (bxT 49 V).run Tryz.prog w = .ok (.value (.pointer (some ⟨w.heap.size, 0, none⟩))) W1 := by rw [← hV, ← hW1]; exact boxM w r
  rw [hV]
  have HD := Lib.hid (fun (u : World) (hu : Below W2.heap.size W2 u) => h.of_below (hB.trans (hu.mono hB.size)))
  have HDL := Lib.hid (show (ds.flatMap digC).length = r.n * 32 by rw [flat_digC, List.length_map, flat_len32 h.each, h.n])
  have HQN := Lib.hid (show r.q = none → r.cap = 0 ∧ r.n = 0 from fun e => ⟨h.nil e, by have := h.nil e; have := h.le; omega⟩)
  have HONE := Lib.hid (show ∀ u ∈ ds.flatMap digC, u.oneCell' = true from by rw [flat_digC]; exact one_map _)
  have HN8 := Lib.hid (show 0 + r.n < 100000000 by rw [h.n]; omega)
  have HNL := Lib.hid h.n
  have HWL := Lib.hid hwl
  have HW12 := Lib.hid (show W1.heap.size < W2.heap.size by omega)
  have HF := Lib.hid (fun (u : World) (hr : Row u w.heap.size 49 54 (rcF r)) (hu : Below w.heap.size w u) => (show _ ∧ _ ∧ _ ∧ _ ∧ _ ∧ _ ∧ _ ∧ _ ∧ _ ∧ _ from ⟨rc_path hr, rc_size hr, rc_time hr, rc_chg hr, loadVT vtA (rc_ver hr), rc_dead hr, ld_dig (rc_whole hr hwl) hwl, rc_blocks hr, hr, hu⟩))
  have HS := Lib.hid (fun (u : World) (hu : Below W2.heap.size W2 u) => HF.out u (hR1.of_below hu) (hB.trans (hu.mono hB.size)))
  have HR := Lib.hid (fun (u : World) (hu : Below W2.heap.size W2 u) (r2 : Rc) => (show ∃ u', (stT 44 (.pointer (some ⟨W1.heap.size, 0, none⟩)) (rcV r2)).run Tryz.prog u = .ok .skip u' ∧ Row u' W1.heap.size 44 54 (rcF r2) ∧ _ ∧ Kp W1.heap.size u u' from by
    obtain ⟨u', h1, h2, h3⟩ := storeRT rtP (hR2.of_below hu) r2
    exact ⟨u', h1, h2, HF.out u' ((hR1.of_below hu).of_kp h3 (by omega)) ((hB.trans (hu.mono hB.size)).trans (h3.below (by omega) (by have := hu.size; omega))), h3⟩))
  clear hB1 hB2 hB z1 z2 hR1 hR2 hwl hV h
  obtain ⟨p, s, t, c, f, d, wh, q, n, cap⟩ := r
  dsimp only [Rc.mov] at *
  go_enter Tryz.func28, Tryz.ntmps28
  go_wp2
  clear x1 hW1 hW2
  refine wp_region_noPanic ?_
  refine wp_region_held_drew (S := (fun u : World => u.cell? ⟨w.heap.size, 0, none⟩ = some (.string (mkS p)) ∧ u.cell? ⟨w.heap.size, 1, none⟩ = some (.int .i64 s) ∧ u.cell? ⟨w.heap.size, 2, none⟩ = some (.int .i64 t) ∧ u.cell? ⟨w.heap.size, 3, none⟩ = some (.int .i64 c) ∧ (ldT 39 (.pointer (some ⟨w.heap.size, 4, none⟩))).run Tryz.prog u = .ok (.value (vcV f)) u ∧ u.cell? ⟨w.heap.size, 20, none⟩ = some (.bool d) ∧ (ldT 41 (.pointer (some ⟨w.heap.size, 21, none⟩))).run Tryz.prog u = .ok (.value (digV wh)) u ∧ u.cell? ⟨w.heap.size, 53, none⟩ = some (.slice q n cap) ∧ Row u w.heap.size 49 54 (rcF ⟨p, s, t, c, f, d, wh, q, n, cap⟩) ∧ Below w.heap.size w u)) (by kernel_rfl) (HS.out W2.drew (Below.refl _ _).drew) (fun hHeld => ?_)
  have HX := Lib.hid (show Below W2.heap.size W2 W2.drew from (Below.refl _ _).drew)
  have HX0 := Lib.hid (show Below W2.heap.size W2 W2.drew from (Below.refl _ _).drew)
  generalize W2.drew = x at hHeld HX HX0 ⊢
  have HXB := Lib.hid (show W1.heap.size < x.heap.size from Nat.lt_of_lt_of_le HW12.out HX0.out.size)
  refine wpAnyH_take (i := 0) (v := ?_) (by simp only [List.getElem?_toArray, List.getElem?_cons_succ, List.getElem?_cons_zero]; exact rfl) (by kernel_rfl) (by kernel_rfl) (by kernel_rfl) (fun _ _ _ h => h) (Or.inl ⟨by rfl, ?_⟩) (by assumption) ?_
  rotate_left 1
  · (intro w hSw; (try dsimp only at hSw); go_simp; try with_reducible rfl)
  try simp only [Act.put, List.setIfInBounds_toArray, List.set_cons_zero, List.set_cons_succ]
  refine wpAnyH_take (i := 1) (v := ?_) (by simp only [List.getElem?_toArray, List.getElem?_cons_succ, List.getElem?_cons_zero]; exact rfl) (by kernel_rfl) (by kernel_rfl) (by kernel_rfl) (fun _ _ _ h => h) (Or.inl ⟨by rfl, ?_⟩) (by assumption) ?_
  rotate_left 1
  · (intro w hSw; (try dsimp only at hSw); go_simp; try with_reducible rfl)
  try simp only [Act.put, List.setIfInBounds_toArray, List.set_cons_zero, List.set_cons_succ]
  refine wpAnyH_take (i := 2) (v := ?_) (by simp only [List.getElem?_toArray, List.getElem?_cons_succ, List.getElem?_cons_zero]; exact rfl) (by kernel_rfl) (by kernel_rfl) (by kernel_rfl) (fun _ _ _ h => h) (Or.inl ⟨by rfl, ?_⟩) (by assumption) ?_
  rotate_left 1
  · (intro w hSw; (try dsimp only at hSw); go_simp; try with_reducible rfl)
  try simp only [Act.put, List.setIfInBounds_toArray, List.set_cons_zero, List.set_cons_succ]
  refine wpAnyH_take (i := 3) (v := ?_) (by simp only [List.getElem?_toArray, List.getElem?_cons_succ, List.getElem?_cons_zero]; exact rfl) (by kernel_rfl) (by kernel_rfl) (by kernel_rfl) (fun _ _ _ h => h) (Or.inl ⟨by rfl, ?_⟩) (by assumption) ?_
  rotate_left 1
  · (intro w hSw; (try dsimp only at hSw); go_simp; try with_reducible rfl)
  try simp only [Act.put, List.setIfInBounds_toArray, List.set_cons_zero, List.set_cons_succ]
  refine wpAnyH_take (i := 4) (v := ?_) (by simp only [List.getElem?_toArray, List.getElem?_cons_succ, List.getElem?_cons_zero]; exact rfl) (by kernel_rfl) (by kernel_rfl) (by kernel_rfl) (fun _ _ _ h => h) (Or.inl ⟨by rfl, ?_⟩) (by assumption) ?_
  rotate_left 1
  · (intro w hSw; (try dsimp only at hSw); go_simp; try with_reducible rfl)
  try simp only [Act.put, List.setIfInBounds_toArray, List.set_cons_zero, List.set_cons_succ]
  refine wpAnyH_take (i := 5) (v := ?_) (by simp only [List.getElem?_toArray, List.getElem?_cons_succ, List.getElem?_cons_zero]; exact rfl) (by kernel_rfl) (by kernel_rfl) (by kernel_rfl) (fun _ _ _ h => h) (Or.inl ⟨by rfl, ?_⟩) (by assumption) ?_
  rotate_left 1
  · (intro w hSw; (try dsimp only at hSw); go_simp; try with_reducible rfl)
  try simp only [Act.put, List.setIfInBounds_toArray, List.set_cons_zero, List.set_cons_succ]
  refine wpAnyH_take (i := 6) (v := ?_) (by simp only [List.getElem?_toArray, List.getElem?_cons_succ, List.getElem?_cons_zero]; exact rfl) (by kernel_rfl) (by kernel_rfl) (by kernel_rfl) (fun _ _ _ h => h) (Or.inl ⟨by rfl, ?_⟩) (by assumption) ?_
  rotate_left 1
  · (intro w hSw; (try dsimp only at hSw); go_simp; try with_reducible rfl)
  try simp only [Act.put, List.setIfInBounds_toArray, List.set_cons_zero, List.set_cons_succ]
  refine wpAnyH_take (i := 7) (v := ?_) (by simp only [List.getElem?_toArray, List.getElem?_cons_succ, List.getElem?_cons_zero]; exact rfl) (by kernel_rfl) (by kernel_rfl) (by kernel_rfl) (fun _ _ _ h => h) (Or.inl ⟨by rfl, ?_⟩) (by assumption) ?_
  rotate_left 1
  · (intro w hSw; (try dsimp only at hSw); go_simp; try with_reducible rfl)
  try simp only [Act.put, List.setIfInBounds_toArray, List.set_cons_zero, List.set_cons_succ]
  refine wpAnyH_take (i := 8) (v := ?_) (by simp only [List.getElem?_toArray, List.getElem?_cons_succ, List.getElem?_cons_zero]; exact rfl) (by kernel_rfl) (by kernel_rfl) (by kernel_rfl) (fun _ _ _ h => h) (Or.inl ⟨by rfl, ?_⟩) (by assumption) ?_
  rotate_left 1
  · (intro w hSw; (try dsimp only at hSw); go_simp; try with_reducible rfl)
  try simp only [Act.put, List.setIfInBounds_toArray, List.set_cons_zero, List.set_cons_succ]
  refine wpAnyH_take (i := 9) (v := ?_) (by simp only [List.getElem?_toArray, List.getElem?_cons_succ, List.getElem?_cons_zero]; exact rfl) (by kernel_rfl) (by kernel_rfl) (by kernel_rfl) (fun _ _ _ h => h) (Or.inl ⟨by rfl, ?_⟩) (by assumption) ?_
  rotate_left 1
  · (intro w hSw; (try dsimp only at hSw); go_simp; try with_reducible rfl)
  try simp only [Act.put, List.setIfInBounds_toArray, List.set_cons_zero, List.set_cons_succ]
  refine wpAnyH_take (i := 10) (v := ?_) (by simp only [List.getElem?_toArray, List.getElem?_cons_succ, List.getElem?_cons_zero]; exact rfl) (by kernel_rfl) (by kernel_rfl) (by kernel_rfl) (fun _ _ _ h => h) (Or.inl ⟨by rfl, ?_⟩) (by assumption) ?_
  rotate_left 1
  · (intro w hSw; (try dsimp only at hSw); go_simp; try with_reducible rfl)
  try simp only [Act.put, List.setIfInBounds_toArray, List.set_cons_zero, List.set_cons_succ]
  refine wpAnyH_take (i := 11) (v := ?_) (by simp only [List.getElem?_toArray, List.getElem?_cons_succ, List.getElem?_cons_zero]; exact rfl) (by kernel_rfl) (by kernel_rfl) (by kernel_rfl) (fun _ _ _ h => h) (Or.inl ⟨by rfl, ?_⟩) (by assumption) ?_
  rotate_left 1
  · (intro w hSw; (try dsimp only at hSw); go_simp; try with_reducible rfl)
  try simp only [Act.put, List.setIfInBounds_toArray, List.set_cons_zero, List.set_cons_succ]
  refine wpAnyH_take (i := 12) (v := ?_) (by simp only [List.getElem?_toArray, List.getElem?_cons_succ, List.getElem?_cons_zero]; exact rfl) (by kernel_rfl) (by kernel_rfl) (by kernel_rfl) (fun _ _ _ h => h) (Or.inl ⟨by rfl, ?_⟩) (by assumption) ?_
  rotate_left 1
  · (intro w hSw; (try dsimp only at hSw); go_simp; try with_reducible rfl)
  try simp only [Act.put, List.setIfInBounds_toArray, List.set_cons_zero, List.set_cons_succ]
  refine wpAnyH_take (i := 13) (v := ?_) (by simp only [List.getElem?_toArray, List.getElem?_cons_succ, List.getElem?_cons_zero]; exact rfl) (by kernel_rfl) (by kernel_rfl) (by kernel_rfl) (fun _ _ _ h => h) (Or.inl ⟨by rfl, ?_⟩) (by assumption) ?_
  rotate_left 1
  · (intro w hSw; (try dsimp only at hSw); go_simp; try with_reducible rfl)
  try simp only [Act.put, List.setIfInBounds_toArray, List.set_cons_zero, List.set_cons_succ]
  refine wpAnyH_take (i := 14) (v := ?_) (by simp only [List.getElem?_toArray, List.getElem?_cons_succ, List.getElem?_cons_zero]; exact rfl) (by kernel_rfl) (by kernel_rfl) (by kernel_rfl) (fun _ _ _ h => h) (Or.inl ⟨by rfl, ?_⟩) (by assumption) ?_
  rotate_left 1
  · (intro w hSw; (try dsimp only at hSw); go_simp; try with_reducible rfl)
  try simp only [Act.put, List.setIfInBounds_toArray, List.set_cons_zero, List.set_cons_succ]
  refine wpAnyH_take (i := 16) (v := ?_) (by simp only [List.getElem?_toArray, List.getElem?_cons_succ, List.getElem?_cons_zero]; exact rfl) (by kernel_rfl) (by kernel_rfl) (by kernel_rfl) (fun _ _ _ h => h) (Or.inl ⟨by rfl, ?_⟩) (by assumption) ?_
  rotate_left 1
  · (intro w hSw; (try dsimp only at hSw); go_simp; try with_reducible rfl)
  try simp only [Act.put, List.setIfInBounds_toArray, List.set_cons_zero, List.set_cons_succ]
  refine wpAnyH_take (i := 17) (v := ?_) (by simp only [List.getElem?_toArray, List.getElem?_cons_succ, List.getElem?_cons_zero]; exact rfl) (by kernel_rfl) (by kernel_rfl) (by kernel_rfl) (fun _ _ _ h => h) (Or.inl ⟨by rfl, ?_⟩) (by assumption) ?_
  rotate_left 1
  · (intro w hSw; (try dsimp only at hSw); go_simp; try with_reducible rfl)
  try simp only [Act.put, List.setIfInBounds_toArray, List.set_cons_zero, List.set_cons_succ]
  refine wpAnyH_ready (rs := [15]) (by kernel_rfl) (by simp) ?_
  refine (AllReadyH.cons (by simp only [List.getElem?_toArray, List.getElem?_cons_succ, List.getElem?_cons_zero]; exact rfl) (fun K hK => ?_) AllReadyH.nil)
  go_simp
  obtain ⟨y, hy⟩ : ∃ y, (x.alloc (.cells #[] 41)) = y := ⟨_, rfl⟩
  have hBa : Below x.heap.size x y := by rw [← hy]; exact below_newD _ _
  have hO := (own_empty (E := 41) (k := 32) x x.heap.size (Nat.le_refl _))
  rw [hy] at hO ⊢
  have hXY := HX.out.trans (hBa.mono HX.out.size)
  have HX := Lib.hid hXY
  have HO := Lib.hid hO
  have hsx : x.heap.size ≤ y.heap.size := hBa.size
  have HBA := Lib.hid hBa
  clear hy hO hXY hBa
  refine hK.out _ _ (HS.out _ HX.out) (fun hHeld => ?_)
  clear hK K
  try simp only [Act.put, List.setIfInBounds_toArray, List.set_cons_zero, List.set_cons_succ]
  refine wpAnyH_ready (rs := [18]) (by kernel_rfl) (by simp) ?_
  refine (AllReadyH.cons (by simp only [List.getElem?_toArray, List.getElem?_cons_succ, List.getElem?_cons_zero]; exact rfl) (fun K hK => ?_) AllReadyH.nil)
  refine step_appendK elD y rfl (.tmp 18) (.tmp 20) rfl x.heap.size rfl HO.out q n cap (ds.flatMap digC) HDL.out rfl (HD.out y HX.out).lie HQN.out (HONE.out) HN8.out hsx ?_
  rintro v7 z hO7 hg7 ho7
  rw [Nat.zero_add, List.nil_append] at hO7
  obtain ⟨q7, c7, rfl, hlt7, hdg7⟩ := dg_own hO7 HNL.out (HD.out y HX.out).each
  have hXZ : Below W2.heap.size W2 z := HX0.out.trans ((below_gf HBA.out hg7 hsx).mono (HX0.out.size))
  have HX := Lib.hid hXZ
  have HDG := Lib.hid hdg7
  have HLT := Lib.hid hlt7
  have hbd := fun u => bdP6 p s t c f d wh q7 n c7 u
  rw [HNL.out.symm]
  obtain ⟨RV, hRV⟩ : ∃ RV : Rc, ⟨p, s, t, c, f, d, wh, q7, n, c7⟩ = RV := ⟨_, rfl⟩
  rw [hRV] at hbd
  have HRV := Lib.hid hRV
  clear hRV hO7 hg7 ho7 hdg7 hlt7 hXZ
  refine hK.out _ _ (HS.out _ HX.out) (fun hHeld => ?_)
  clear hK K
  try simp only [Act.put, List.setIfInBounds_toArray, List.set_cons_zero, List.set_cons_succ]
  refine wpAnyH_take (i := 19) (v := ?_) (by simp only [List.getElem?_toArray, List.getElem?_cons_succ, List.getElem?_cons_zero]; exact rfl) (by kernel_rfl) (by kernel_rfl) (by kernel_rfl) (fun _ _ _ h => h) (Or.inl ⟨by rfl, ?_⟩) (by assumption) ?_
  rotate_left 1
  · (intro w hSw; (try dsimp only at hSw); go_simp; try with_reducible rfl)
  try simp only [Act.put, List.setIfInBounds_toArray, List.set_cons_zero, List.set_cons_succ]
  refine wpAnyH_ready (rs := [20]) (by kernel_rfl) (by simp) ?_
  refine (AllReadyH.cons (by simp only [List.getElem?_toArray, List.getElem?_cons_succ, List.getElem?_cons_zero]; exact rfl) (fun K hK => ?_) AllReadyH.nil)
  obtain ⟨u', hs, hRow, hSu, hKp⟩ := HR.out z HX.out RV
  have HRow := Lib.hid hRow
  have HKp := Lib.hid hKp
  clear hRow hKp
  go_simp
  refine hK.out _ _ hSu (fun hHeld => ?_)
  clear hK K
  try simp only [Act.put, List.setIfInBounds_toArray, List.set_cons_zero, List.set_cons_succ]
  refine wpAnyH_done (by kernel_rfl) ?_ _
  refine NoPanic.normal ?_
  go_wp2
  refine bodyPost_ret (resR rtP rfl _ u' W1.heap.size 44 RV rfl HRow.out) rfl ?_
  have hd : DgAt z RV ds := HDG.out RV (by rw [← HRV.out]) (by rw [← HRV.out]; exact HNL.out) (by rw [← HRV.out]) (by rw [← HRV.out]; exact HWL.out)
  refine ⟨q7, c7, by rw [← HRV.out], hHeld.2.2.2.2.2.2.2.2.2, ?_⟩
  have hd2 : DgAt u' RV ds := hd.keep fun cc oo e hlt => HKp.out.block cc hlt (by
    have h1 := HLT.out cc oo (by rw [← HRV.out] at e; exact e)
    have h2 := HXB.out
    omega)
  rw [← HRV.out] at hd2
  exact hd2
theorem eqlS (x y : Operand) (s t c : Int) (w : World) : (eqX .eql 38 x y (stV s t c) (stV s t c)).run Tryz.prog w = .ok (.value (.bool true)) w := by
  have h : (binOp .eql 38 (stV s t c) (stV s t c)).run Tryz.prog w = .ok (.bool true) w := by
    unfold stV
    go_simp
  have hg : (eqGuard .eql 38 x y (stV s t c) (stV s t c)).run Tryz.prog w = .ok () w := by unfold stV; exact run_eqGuard_agg (P := Tryz.prog) w .eql 38 x y _ _ (by kernel_rfl)
  simp only [eqX, Sem.run_bind, hg, h, Result.andThen_ok, Sem.run_pure]
theorem exec_eqlS (r : Operand → Value) (dst : Option Tmp) (x y : Operand) (z : TypeId) (ty : TypeId) (pos : String) (after : Array Edge) (guard : Option (Nat × Bool)) :
    execOp r ⟨dst, .binOp .eql 38 x y z, ty, pos, after, guard⟩ = eqX .eql 38 x y (r x) (r y) := rfl
attribute [local go_sem ↓] exec_eqlS
attribute [local go_sem] eqlS
end Go.Proofs.YtnmopjefjpifoaaGreatDoor
/- The reference of layer 7: beginnings. -/
set_option maxRecDepth 100000
namespace Go.Proofs.YtnmopjefjpifoaaGreatDoor
open Go Go.RowKit
attribute [-go_sem] Sha.exec_store

set_option maxHeartbeats 1000000 in
theorem refStarts_any (s t : S8) (hs : s.length < 1000000) (ht : t.length < 1000000) (w : World) : Calls Tryz.prog 141 #[.string (mkS s), .string (mkS t)] w fun e w' => e = .returned (.bool (startsL s t)) ∧ w = w' := by
  by_cases h : t.length ≤ s.length
  · have h1 : (t.length : Int) ≤ (s.length : Int) := by omega
    have h2 : decide ((t.length : Int) ≤ (s.length : Int)) = true := decide_eq_true h1
    have HS := Lib.hid (show startsL s t = (s.take t.length == t) from by unfold startsL; rw [decide_eq_true h]; rfl)
    go_enter Tryz.func141, Tryz.ntmps141
    go_wp2
    go_ret
    exact ⟨by rw [HS.out]; rfl, rfl⟩
  · have h1 : ¬ (t.length : Int) ≤ (s.length : Int) := by omega
    have h2 : decide ((t.length : Int) ≤ (s.length : Int)) = false := decide_eq_false h1
    have HS := Lib.hid (show startsL s t = false from by unfold startsL; rw [decide_eq_false h]; rfl)
    go_enter Tryz.func141, Tryz.ntmps141
    go_wp2
    go_ret
    exact ⟨by rw [HS.out]; rfl, rfl⟩
end Go.Proofs.YtnmopjefjpifoaaGreatDoor
/- The reference's kinds. -/
set_option maxRecDepth 100000
namespace Go.Proofs.YtnmopjefjpifoaaGreatDoor
open Go Go.RowKit
attribute [-go_sem] Sha.exec_store

set_option maxHeartbeats 1000000 in
theorem refKind_any (l : S8) (hl : l.length < 100000) (w : World) : Calls Tryz.prog 73 #[.string (mkS l)] w fun e w' => Gives (.int .i64 (kindL l : Int)) w e w' := by
  obtain ⟨X, hX⟩ : ∃ X, kindL l = X := ⟨_, rfl⟩
  rw [hX]
  have HX := Lib.hid (hX.symm.trans (show kindL l = if goodL l then (if startsL (baseL l) tmpS then 1 else if startsL (baseL l) parS then 2 else 3) else 0 from rfl))
  clear hX
  have HG := Lib.hid (fun u => refGood_any l (by omega) u)
  have HS := Lib.hid (fun u => refSlash_any l (by omega) u)
  have hkl := kL_le l
  have hbl : (l.drop (kL l)).length < 1000000 := by rw [List.length_drop]; omega
  have HT := Lib.hid (fun u => refStarts_any (l.drop (kL l)) tmpS hbl (by decide) u)
  have HP := Lib.hid (fun u => refStarts_any (l.drop (kL l)) parS hbl (by decide) u)
  rw [show mkS tmpS = ⟨#[46, 116, 109, 112, 126]⟩ from (mkS_lit tmpS).symm] at HT
  rw [show mkS parS = ⟨#[46, 112, 97, 114, 126]⟩ from (mkS_lit parS).symm] at HP
  have HX2 := Lib.hid (HX.out.trans (show _ = if goodL l then (if startsL (l.drop (kL l)) tmpS then 1 else if startsL (l.drop (kL l)) parS then 2 else 3) else 0 from rfl))
  clear HX hbl
  generalize goodL l = g at *
  generalize startsL (l.drop (kL l)) tmpS = b1 at *
  generalize startsL (l.drop (kL l)) parS = b2 at *
  generalize kL l = k at *
  have k1 : IntKind.i64.wrap (k : Int) = (k : Int) := by rw [IntKind.wrap_i64]; omega
  have k2 : wrap64 (k : Int) = (k : Int) := by unfold wrap64; omega
  have k3 : (k : Int) - 1 + 1 = (k : Int) := by omega
  go_enter Tryz.func73, Tryz.ntmps73
  go_wp2_with fail
  refine (HG.out _).mono ?_
  rintro e w' ⟨rfl, rfl⟩
  cases g with
  | false =>
    obtain rfl : X = 0 := by rw [HX2.out]; rfl
    go_wp2
    go_ret
    exact ⟨rfl, Below.refl _ _⟩
  | true =>
    go_wp2_with fail
    refine (HS.out _).mono ?_
    rintro e w' ⟨rfl, rfl⟩
    go_wp2_with fail
    refine (HT.out _).mono ?_
    rintro e w' ⟨rfl, rfl⟩
    cases b1 with
    | true =>
      obtain rfl : X = 1 := by rw [HX2.out]; rfl
      go_wp2
      go_ret
      exact ⟨rfl, Below.refl _ _⟩
    | false =>
      go_wp2_with fail
      refine (HP.out _).mono ?_
      rintro e w' ⟨rfl, rfl⟩
      cases b2 with
      | true =>
        obtain rfl : X = 2 := by rw [HX2.out]; rfl
        go_wp2
        go_ret
        exact ⟨rfl, Below.refl _ _⟩
      | false =>
        obtain rfl : X = 3 := by rw [HX2.out]; rfl
        go_wp2
        go_ret
        exact ⟨rfl, Below.refl _ _⟩
end Go.Proofs.YtnmopjefjpifoaaGreatDoor
/- Which records are good: the reference. -/
set_option maxRecDepth 100000
namespace Go.Proofs.YtnmopjefjpifoaaGreatDoor
open Go Go.RowKit

attribute [-go_sem] Sha.exec_store
attribute [local go_sem ↓] exec_boxA exec_loadA exec_indexA exec_allocA exec_storeA exec_buildA exec_eqlA exec_neqA exec_boxV exec_loadV exec_indexV exec_allocV exec_storeV exec_buildV exec_eqlV exec_neqV
attribute [local go_sem] boxA indexA storeNewA buildA eqlA neqA boxV indexV storeNewV buildV eqlV neqV

attribute [local go_sem ↓] exec_boxM exec_load32 exec_build32 exec_eqlD exec_neqD
attribute [local go_sem] boxM bd32 eqlD neqD
theorem goodR_true {r : Rc} (h : kindL r.path = 3 ∧ gdV r.ver = true ∧ veq r.ver (fun _ => 0) = false ∧ 0 ≤ r.size ∧ r.size ≤ 16384 ∧ 0 ≤ r.time ∧ 0 ≤ r.chg ∧ r.n = nblk r.size.toNat) :
    goodR r = (!r.dead || (decide (r.size = 0) && deq r.whole z32)) := by
  obtain ⟨h1, h2, h3, h4, h5, h6, h7, h8⟩ := h
  unfold goodR rfE okV
  rw [if_pos h1, okS_iff.2 ⟨h4, h5, h6, h7⟩, h2, h3, decide_eq_true h8]
  simp
theorem goodR_false {r : Rc} (h : ¬ (kindL r.path = 3 ∧ gdV r.ver = true ∧ veq r.ver (fun _ => 0) = false ∧ 0 ≤ r.size ∧ r.size ≤ 16384 ∧ 0 ≤ r.time ∧ 0 ≤ r.chg ∧ r.n = nblk r.size.toNat)) : goodR r = false := by
  cases e : goodR r with
  | false => rfl
  | true =>
    exfalso
    apply h
    unfold goodR at e
    rw [Bool.and_eq_true, Bool.and_eq_true, decide_eq_true_eq, decide_eq_true_eq] at e
    obtain ⟨h1, h2, h3⟩ := rfE_zero e.1
    obtain ⟨h4, h5, h6, h7⟩ := okS_iff.1 h2
    unfold okV at h3
    rw [Bool.and_eq_true, Bool.not_eq_true'] at h3
    exact ⟨h1, h3.1, h3.2, h4, h5, h6, h7, e.2.1⟩
set_option maxRecDepth 100000 in
set_option maxHeartbeats 4000000 in
theorem refGood10_any (r : Rc) (hp : r.path.length < 100000) (hw : r.whole.length = 32) (w : World) :
    Calls Tryz.prog 25 #[rcV r] w fun e w' => e = .returned (.bool (goodR r)) ∧ Below w.heap.size w w' := by
  have HK := Lib.hid (fun u => refKind_any r.path hp u)
  have HG := Lib.hid (fun u => refGood9_any r.ver u)
  obtain ⟨W, hW⟩ : ∃ W, w.alloc (.cells (tab 54 (rcF r)) 49) = W := ⟨_, rfl⟩
  have hR : Row W w.heap.size 49 54 (rcF r) := by rw [← hW]; exact Row.new w _ 54 (rcF r)
  have HB := Lib.hid (show Below w.heap.size w W from by rw [← hW]; exact (Below.refl _ _).alloc (Nat.le_refl _) _)
  have HS := Lib.hid (fun (u : World) (hu : Below W.heap.size W u) => (show _ ∧ _ ∧ _ ∧ _ ∧ _ ∧ _ ∧ _ ∧ _ from ⟨loadVT vtA (rc_ver (hR.of_below hu)), ld_dig (rc_whole (hR.of_below hu) hw) hw, rc_path (hR.of_below hu), rc_size (hR.of_below hu), rc_time (hR.of_below hu), rc_chg (hR.of_below hu), rc_dead (hR.of_below hu), rc_blocks (hR.of_below hu)⟩))
  have HE := Lib.hid hW
  clear hW hR
  have HN := Lib.hid (@goodR_false r)
  have HY := Lib.hid (@goodR_true r)
  obtain ⟨Y, hY⟩ : ∃ Y, goodR r = Y := ⟨_, rfl⟩
  rw [hY] at HN HY ⊢
  clear hY
  obtain ⟨V, hV⟩ : ∃ V, rcV r = V := ⟨_, rfl⟩
  have HV := Lib.hid (show ∀ u : World, (bxT 49 V).run Tryz.prog u = .ok (.value (.pointer (some ⟨u.heap.size, 0, none⟩))) (u.alloc (.cells (tab 54 (rcF r)) 49)) from fun u => by rw [← hV]; exact boxM u r)
  rw [hV]
  have hV2 := HV.out w
  rw [HE.out] at hV2
  clear hV HV
  obtain ⟨p, s, t, c, f, d, wh, q, n, cap⟩ := r
  dsimp only at *
  obtain ⟨k, hk⟩ : ∃ k, kindL p = k := ⟨_, rfl⟩
  obtain ⟨g, hg⟩ : ∃ g, gdV f = g := ⟨_, rfl⟩
  obtain ⟨m, hm⟩ : ∃ m, nblk s.toNat = m := ⟨_, rfl⟩
  have HM := Lib.hid (fun (h1 : 0 ≤ s) (h2 : s ≤ 16384) => (show ((s + 255).tdiv 256 = (m : Int) ∧ (s + 255) / 256 = (m : Int)) ∧ IntKind.i64.wrap (s + 255) = s + 255 ∧ IntKind.i64.wrap (m : Int) = (m : Int) from by
    unfold nblk at hm
    have : (s + 255) / 256 = (m : Int) := by omega
    refine ⟨⟨by rw [Int.tdiv_eq_ediv_of_nonneg (by omega)]; exact this, this⟩, by rw [IntKind.wrap_i64]; omega, by rw [IntKind.wrap_i64]; omega⟩))
  rw [hk] at HK HN HY
  rw [hg] at HG HN HY
  rw [hm] at HN HY
  clear hk hg hm
  have l0 := (HS.out W (Below.refl _ _)).2.2.1
  go_enter Tryz.func25, Tryz.ntmps25
  go_wp2_with fail
  clear hV2 l0
  refine (HK.out _).mono ?_
  rintro e u ⟨rfl, hB⟩
  have HBu := Lib.hid hB
  clear hB
  by_cases h3 : k = 3
  · subst h3
    have l1 := (HS.out u HBu.out).1
    go_wp2_with fail
    clear l1
    refine (HG.out _).mono ?_
    rintro e u2 ⟨rfl, hB2⟩
    obtain ⟨l1, l2, -, l4, l5, l6, l7, l8⟩ := HS.out u2 (HBu.out.trans (hB2.mono HBu.out.size))
    have HBB := Lib.hid (HB.out.trans ((HBu.out.trans (hB2.mono HBu.out.size)).mono HB.out.size))
    clear hB2
    cases g with
    | false =>
      clear l2 l4 l5 l6 l7 l8
      go_wp2
      go_ret
      exact ⟨by rw [HN.out (fun h => by cases h.2.1)]; rfl, HBB.out⟩
    | true =>
      cases hz : veq f fun _ => 0 with
      | true =>
        rw [hz] at HN
        clear l2 l4 l5 l6 l7 l8
        go_wp2
        go_ret
        exact ⟨by rw [HN.out (fun h => by cases h.2.2.1)]; rfl, HBB.out⟩
      | false =>
        rw [hz] at HN HY
        by_cases h1 : s < 0
        · have d1 : decide (s < 0) = true := decide_eq_true h1
          have H1 := Lib.hid h1
          clear l2 l5 l6 l7 l8 h1
          go_wp2
          go_ret
          exact ⟨by rw [HN.out (fun h => by have := h.2.2.2.1; have := H1.out; omega)]; rfl, HBB.out⟩
        · have d1 : decide (s < 0) = false := decide_eq_false h1
          by_cases h2 : 16384 < s
          · have d2 : decide (16384 < s) = true := decide_eq_true h2
            have H2 := Lib.hid h2
            clear l2 l5 l6 l7 l8
            go_wp2
            go_ret
            exact ⟨by rw [HN.out (fun h => by have := h.2.2.2.2.1; have := H2.out; omega)]; rfl, HBB.out⟩
          · have d2 : decide (16384 < s) = false := decide_eq_false h2
            by_cases h4 : t < 0
            · have d4 : decide (t < 0) = true := decide_eq_true h4
              have H4 := Lib.hid h4
              clear l2 l6 l7 l8
              go_wp2
              go_ret
              exact ⟨by rw [HN.out (fun h => by have := h.2.2.2.2.2.1; have := H4.out; omega)]; rfl, HBB.out⟩
            · have d4 : decide (t < 0) = false := decide_eq_false h4
              by_cases h5 : c < 0
              · have d5 : decide (c < 0) = true := decide_eq_true h5
                have H5 := Lib.hid h5
                clear l2 l7 l8
                go_wp2
                go_ret
                exact ⟨by rw [HN.out (fun h => by have := h.2.2.2.2.2.2.1; have := H5.out; omega)]; rfl, HBB.out⟩
              · have d5 : decide (c < 0) = false := decide_eq_false h5
                obtain ⟨⟨x1, x2⟩, x3, x4⟩ := HM.out (by omega) (by omega)
                by_cases h6 : n = m
                · have d6 : decide ((n : Int) = (m : Int)) = true := decide_eq_true (by omega)
                  have HYY := Lib.hid (HY.out ⟨by trivial, by trivial, by trivial, by omega, by omega, by omega, by omega, by first | trivial | exact h6⟩)
                  subst h6
                  cases d with
                  | false =>
                    clear l2
                    go_wp2
                    go_ret
                    exact ⟨by rw [HYY.out]; rfl, HBB.out⟩
                  | true =>
                    by_cases h0 : s = 0
                    · have d0 : decide (s = 0) = true := decide_eq_true h0
                      have H0 := Lib.hid h0
                      clear h0
                      go_wp2
                      · go_ret
                        exact ⟨by rw [HYY.out, d0]; rfl, HBB.out⟩
                      all_goals exact absurd H0.out (by assumption)
                    · have d0 : decide (s = 0) = false := decide_eq_false h0
                      clear l2
                      go_wp2
                      go_ret
                      exact ⟨by rw [HYY.out, d0]; rfl, HBB.out⟩
                · have d6 : decide ((n : Int) = (m : Int)) = false := decide_eq_false (by omega)
                  have H6 := Lib.hid h6
                  have d7 : ((n : Int) != (m : Int)) = true := by rw [bne_iff_ne]; omega
                  clear l2 l7 h6
                  go_wp2
                  go_ret
                  exact ⟨by rw [HN.out (fun h => H6.out h.2.2.2.2.2.2.2)]; rfl, HBB.out⟩
  · have hk1 : ¬ (k : Int) = 3 := by omega
    have hk2 : decide ((k : Int) = 3) = false := decide_eq_false hk1
    have H3 := Lib.hid h3
    have HBB := Lib.hid (HB.out.trans (HBu.out.mono HB.out.size))
    clear h3
    go_wp2
    go_ret
    exact ⟨by rw [HN.out (fun h => H3.out h.1)]; rfl, HBB.out⟩
end Go.Proofs.YtnmopjefjpifoaaGreatDoor
