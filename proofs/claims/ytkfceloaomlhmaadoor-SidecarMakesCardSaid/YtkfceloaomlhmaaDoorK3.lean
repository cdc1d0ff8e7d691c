/- Merged texts: Rct10, LdT, Its6, Dig6, Psh12, ShEq, Vec9, Deq10, Ent12, RngM12, Str12, MulA, InvOf, CdA. -/
import Derived.Test.YtkfceloaomlhmaaDoorK2
import Derived.Test.YtkfceloaomlhmaaDoorSha10
import Derived.Test.YtkfceloaomlhmaaDoorOwnK8
import Derived.Test.YtkfceloaomlhmaaDoorBase
import Derived.Deep.AppendLies
import Derived.Lib.MinMax
import Derived.Test.YtkfceloaomlhmaaDoorCode6
import Derived.Laws.Tables
import Derived.Laws.NewDeep
import Derived.Test.YtkfceloaomlhmaaDoorK1
import Derived.Test.YtkfceloaomlhmaaDoorCuts
import Derived.Deep.RegionHeld3
import Derived.Test.YtkfceloaomlhmaaDoorShPad
import Derived.Test.YtkfceloaomlhmaaDoorShRefS
import Derived.Test.YtkfceloaomlhmaaDoorChecked
import Derived.StillTailTactics
set_option linter.unusedSimpArgs false
set_option linter.unusedVariables false
/- The reference's blocks and their digests. -/
set_option maxRecDepth 100000
namespace Go.Proofs.YtkfceloaomlhmaaDoor
open Go Go.RowKit Go.Shelf
abbrev By := List (BitVec 8)

attribute [-go_sem] Sha.exec_store
theorem blk_cut2 (q : Option Addr) (n cap i A : Nat) (w : World) (hA : A = 256 * i) (hi : 256 * i < n) (hc : n ≤ cap) : (Instr.slice 22 (.slice q n cap) (some (.int .i64 (A : Int))) (some (.int .i64 (min ((A : Int) + 256) (n : Int)))) none).run Tryd.prog w = .ok (.slice (q.map (·.add (256 * i))) (blen n i) (cap - 256 * i)) w := by
  have hm : min ((A : Int) + 256) (n : Int) = ((min (256 * i + 256) n : Nat) : Int) := by omega
  rw [hm, run_slice_lh (P := Tryd.prog) w 22 q n cap und35 .i64 .i64 _ _ (by omega) (by omega) (by omega), sizeB]
  have h1 : (A : Int).toNat = 256 * i := by omega
  have h2 : (((min (256 * i + 256) n : Nat) : Int)).toNat = min (256 * i + 256) n := by omega
  simp only [Sem.run_bind, Result.andThen_ok, Sem.run_pure, sliced, h1, h2]
  unfold blen
  rw [if_neg (by omega), Nat.mul_one]
theorem below_newR (w : World) (o : Obj) : Below w.heap.size w (w.alloc o) := (Below.refl _ _).alloc (Nat.le_refl _) _
theorem own_sliceR {w : World} {base : Nat} {E : TypeId} {k n : Nat} {v : Value} {cs : List Value} (h : w.ownsRow base E k v n cs) : ∃ q c, v = .slice q n c := by
  obtain ⟨p, cap, e, _⟩ := own_shape h
  exact ⟨p, cap, e⟩
theorem own_emptyB (w : World) : OwnB (w.alloc (.cells #[] 5)) w.heap.size (.slice (some ⟨w.heap.size, 0, none⟩) 0 0) [] := own_empty (E := 5) (k := 1) w w.heap.size (Nat.le_refl _)
set_option maxRecDepth 100000 in
set_option maxHeartbeats 4000000 in
theorem refCut10_any (l : By) (q : Option Addr) (n cap : Nat) (w : World) (hl : l.length = n) (hs : Sl w q l) (hq : q = none → cap = 0) (hc : n ≤ cap) (hn : n < 1000000) :
    Calls Tryd.prog 16 #[.slice q n cap] w fun e w' => ∃ v, e = .returned v ∧ Hds w' w.heap.size v ((List.range (nblk n)).map (blkL l)) ∧ Below w.heap.size w w' := by
  have HSL := Lib.hid hs
  have HLN := Lib.hid hl
  have HQ := Lib.hid hq
  clear hs hl hq
  go_enter Tryd.func16, Tryd.ntmps16
  go_wp2
  go_loopw [3, 4] (fun sv sa wr => ∃ i A : Nat, i ≤ nblk n ∧ A = 256 * i ∧ sa = .int .i64 (A : Int) ∧ Hds wr w.heap.size sv ((List.range i).map (blkL l)) ∧ Below w.heap.size w wr) (fun _ sa _ => nblk n + 1 - ((intOf sa).toNat + 255) / 256)
  case atStart => exact ⟨0, 0, Nat.zero_le _, rfl, rfl, Hds.nil _ _, Below.refl _ _⟩
  case round =>
    obtain ⟨i, A, hi, hA, rfl, hH, hB⟩ := hrel
    have HA := Lib.hid hA
    by_cases hlt : A < n
    · have z1 : (A : Int) < (n : Int) := by omega
      have z2 : decide ((A : Int) < (n : Int)) = true := decide_eq_true z1
      have hi256 : 256 * i < n := by omega
      have hik : i < nblk n := by unfold nblk; omega
      have hil : ((List.range i).map (blkL l)).length + 1 < 100000000 := by rw [List.length_map, List.length_range]; unfold nblk at hik; omega
      have hcut := fun u => blk_cut2 q n cap i A u hA hi256 hc
      have w2 : IntKind.i64.wrap ((A : Int) + 256) = (A : Int) + 256 := by rw [IntKind.wrap_i64]; omega
      have HB := Lib.hid hB
      obtain ⟨hds, hOW, hrows⟩ := hH
      obtain ⟨pv, cv, hve⟩ := own_sliceR hOW
      subst hve
      have hvlt : ∀ g, (Value.slice pv ((List.range i).map (blkL l)).length cv).ownBlock = some g → w.heap.size ≤ g ∧ g < wr.heap.size := fun g hg => hOW.lt g hg
      have HOW := Lib.hid hOW
      have hB1 := below_newR wr (.cells #[] 5)
      have HB1 := Lib.hid hB1
      have HSR := Lib.hid (show Sl (wr.alloc (.cells #[] 5)) (q.map (·.add (256 * i))) (blkL l i) from blkL_sl (HSL.out.of_below (hB.trans (hB1.mono hB.size))) i)
      have hbl : (blkL l i).length = blen n i := by rw [blkL_len, HLN.out]
      have hb256 := blen_le n i
      have hqn : q.map (·.add (256 * i)) = none → cap - 256 * i = 0 := fun e => by
        cases q with
        | none => have := HQ.out rfl; omega
        | some a => cases e
      have HBL := Lib.hid hbl
      have HQN := Lib.hid hqn
      have HHD := Lib.hid (fun (x y : World) (v' : Value) (p : Option Addr) (c : Nat) (hX : Below wr.heap.size wr x) (h1 : Sl x p (blkL l i)) (h2 : p = none → c = 0) (h3 : ∀ c o, p = some ⟨c, o, none⟩ → wr.heap.size ≤ c ∧ c < x.heap.size)
        (h4 : y.ownsRow w.heap.size 22 1 v' (((List.range i).map (blkL l)).length + 1) (hds ++ [.slice p (blkL l i).length c])) (h5 : x.grownBy y (Value.slice pv ((List.range i).map (blkL l)).length cv).ownBlock) (h6 : v'.ownBlock = (Value.slice pv ((List.range i).map (blkL l)).length cv).ownBlock ∨ v'.ownBlock = some x.heap.size) => (Hds.push (own_below hOW hX) (fun j hj => by
          obtain ⟨p', cap', e1, e2, e3, e4⟩ := hrows j hj
          exact ⟨p', cap', e1, e2.of_below hX, e3, fun c o e => ⟨(e4 c o e).1, Nat.lt_of_lt_of_le (e4 c o e).2.1 hX.size, (e4 c o e).2.2⟩⟩) h1 h2 (fun c o e => ⟨Nat.le_trans hB.size (h3 c o e).1, (h3 c o e).2, fun e2 => by have := (hvlt c e2).2; have := (h3 c o e).1; omega⟩) h4 h5 h6 : Hds y w.heap.size v' ((List.range i).map (blkL l) ++ [blkL l i])))
      have hsz1 : wr.heap.size ≤ (wr.alloc (.cells #[] 5)).heap.size := by rw [World.size_alloc]; omega
      obtain ⟨kk, hkk⟩ : ∃ kk, ((List.range i).map (blkL l)).length = kk := ⟨_, rfl⟩
      have HKK := Lib.hid hkk
      obtain ⟨mb, hmb⟩ : ∃ mb, blen n i = mb := ⟨_, rfl⟩
      rw [hmb] at hbl hb256 HBL hcut
      rw [hkk] at hil HOW ⊢
      rw [hkk] at HHD
      rw [hbl] at HHD
      clear hOW hrows hB hB1 hbl hvlt hqn hmb hkk hA
      go_wp2_with (first
        | (refine wpl_appendL (wr.alloc (.cells #[] 5)) rfl (.tmp 12) (.tmp 20) rfl wr.heap.size (.slice (some ⟨wr.heap.size, 0, none⟩) 0 0) [] rfl (own_emptyB wr) _ mb _ (blkL l i) HBL.out rfl HSR.out HQN.out (by simp; omega) hsz1 ?_
           rintro v3 w3 hO3 hg3 ho3
           rw [List.nil_append] at hO3
           obtain ⟨p3, c3, rfl, hs3, hp3, hc3⟩ := hO3.shape
           have hlt3 : ∀ c o, p3 = some ⟨c, o, none⟩ → wr.heap.size ≤ c ∧ c < w3.heap.size := fun c o e => hO3.lt c (by rw [e]; rfl)
           have hB3 : Below wr.heap.size wr w3 := HB1.out.grown hg3 hsz1 (fun k hk => by have : wr.heap.size = k := (by simpa [Value.ownBlock] using hk); omega)
           rw [HBL.out]
           have hB4 := below_newR w3 (.cells #[.slice p3 mb c3] 22)
           have HX := Lib.hid (hB3.trans (hB4.mono hB3.size))
           have HS3 := Lib.hid (And.intro (hs3.of_below hB4) (And.intro hp3 (fun c o e => (⟨(hlt3 c o e).1, Nat.lt_of_lt_of_le (hlt3 c o e).2 hB4.size⟩ : _ ∧ _))))
           have HLS := Lib.hid (show LsC (w3.alloc (.cells #[.slice p3 mb c3] 22)) (some ⟨w3.heap.size, 0, none⟩) [.slice p3 mb c3] from LsC.made _ [Value.slice p3 mb c3] _)
           have hsz4 : w.heap.size ≤ (w3.alloc (.cells #[.slice p3 mb c3] 22)).heap.size := Nat.le_trans HB.out.size HX.out.size
           clear hO3 hg3 ho3 hs3 hp3 hc3 hlt3 hB3 hB4)
        | (refine wpl_appendK elR _ rfl (.tmp 11) (.tmp 22) rfl w.heap.size rfl (own_below HOW.out HX.out) _ 1 1 [.slice p3 mb c3] rfl rfl HLS.out (fun h => by cases h) (fun u hu => by rw [List.mem_singleton] at hu; subst hu; rfl) hil hsz4 ?_
           rintro v5 w5 hO5 hg5 ho5
           have hBB := HB.out.trans ((HX.out.mono HB.out.size).grown hg5 hsz4 (fun k hk => ((own_below HOW.out HX.out).lt k hk).1))
           have HD5 := Lib.hid (And.intro (HHD.out _ _ _ _ _ HX.out HS3.out.1 HS3.out.2.1 HS3.out.2.2 hO5 hg5 ho5) hBB)
           clear hO5 hg5 ho5 hBB))
      go_roundw
      case rel => exact ⟨i + 1, A + 256, by omega, by have := HA.out; omega, by go_num, by rw [List.range_succ, List.map_append]; exact HD5.out.1, HD5.out.2⟩
      case measure => have := HA.out; simp [intOf]; omega
    · have z1 : ¬ (A : Int) < (n : Int) := by omega
      have z2 : decide ((A : Int) < (n : Int)) = false := decide_eq_false z1
      obtain rfl : i = nblk n := by unfold nblk at hi ⊢; omega
      have HB := Lib.hid hB
      have HH := Lib.hid hH
      obtain ⟨hds, hOW, -⟩ := hH
      obtain ⟨pv, cv, hve⟩ := own_sliceR hOW
      rw [show ((List.range (nblk n)).map (blkL l)).length = nblk n from by simp] at hve
      subst hve
      clear hB hOW
      go_wp2
      go_ret
      exact ⟨_, rfl, HH.out, HB.out⟩
end Go.Proofs.YtkfceloaomlhmaaDoor
/- A load of a whole array or struct, its operand reckoned first. -/
set_option maxRecDepth 100000
namespace Go.Proofs.YtkfceloaomlhmaaDoor
open Go Go.RowKit
attribute [-go_sem] Sha.exec_store

/-- A load of a whole array, its operand reckoned first. -/
def ldT (t : TypeId) (p : Value) : Sem Next := do pure (.value (← Instr.loadAt t p))
end Go.Proofs.YtkfceloaomlhmaaDoor
/- Lists of items in memory. -/
set_option maxRecDepth 100000
namespace Go.Proofs.YtkfceloaomlhmaaDoor
open Go Go.RowKit
attribute [-go_sem] Sha.exec_store

theorem Sl.blk' {w : World} {p : Option Addr} {l : List (BitVec 8)} (h : Sl w p l) (hl : 0 < l.length) : ∀ c o, p = some ⟨c, o, none⟩ → c < w.heap.size := fun c o e => by
  obtain ⟨c', o', e', hc⟩ := h 0 hl
  rw [e] at e'
  injection e' with e'
  injection e' with e1 e2
  subst e1
  exact World.block_lt_of_cell? w _ hc
/-- An item as it comes in. -/
structure Rw where
  k : Int
  n : Int
  b : List (BitVec 8)
def It.raw (x : It) : Rw := ⟨x.k, x.n, x.b⟩
def rw0 : Rw := ⟨0, 0, []⟩
/-- The item's bytes lie at q. -/
structure Bt (w : World) (x : Rw) (q : Option Addr) (c : Nat) : Prop where
  sl : Sl w q x.b
  nil : q = none → c = 0
  le : x.b.length ≤ c
def ItAt (w : World) (c o : Nat) (x : Rw) : Prop := ∃ q cap, w.cell? ⟨c, o, none⟩ = some (.int .i64 x.k) ∧ w.cell? ⟨c, o + 1, none⟩ = some (.int .i64 x.n) ∧ w.cell? ⟨c, o + 2, none⟩ = some (.slice q x.b.length cap) ∧ Bt w x q cap
/-- Items lie where a slice of their number begins. -/
def Its (w : World) (p : Option Addr) (xs : List Rw) : Prop := ∀ i, i < xs.length → ∃ c o, p = some ⟨c, o, none⟩ ∧ c < w.heap.size ∧ ItAt w c (o + i * 3) (xs.getD i rw0)
section
variable {w w' : World} {p q : Option Addr} {xs : List Rw} {x : Rw} {c o : Nat}
theorem Bt.of_below (h : Bt w x q c) (k : Below w.heap.size w w') : Bt w' x q c := ⟨h.sl.of_below k, h.nil, h.le⟩
theorem ItAt.of_below (h : ItAt w c o x) (hc : c < w.heap.size) (k : Below w.heap.size w w') : ItAt w' c o x := by
  obtain ⟨q, cap, h1, h2, h3, h4⟩ := h
  exact ⟨q, cap, by rw [k.cell (by exact hc)]; exact h1, by rw [k.cell (by exact hc)]; exact h2, by rw [k.cell (by exact hc)]; exact h3, h4.of_below k⟩
theorem Its.of_below (h : Its w p xs) (k : Below w.heap.size w w') : Its w' p xs := fun i hi => by
  obtain ⟨c, o, e, hc, ha⟩ := h i hi
  exact ⟨c, o, e, Nat.lt_of_lt_of_le hc k.size, ha.of_below hc k⟩
theorem Its.nil (w : World) (p : Option Addr) : Its w p [] := fun i hi => absurd hi (by simp)
theorem Its.take (h : Its w p xs) (k : Nat) : Its w p (xs.take k) := fun i hi => by
  have hi' : i < k ∧ i < xs.length := by simp [List.length_take] at hi; omega
  obtain ⟨c, o, e, hc, ha⟩ := h i hi'.2
  exact ⟨c, o, e, hc, by simpa [List.getD_eq_getElem?_getD, hi'.1] using ha⟩
end
section
variable {w w' : World} {base : Nat} {v : Value} {xs : List Rw}
theorem ownsRow_keep {e : TypeId} {size n : Nat} {cs : List Value} (h : w.ownsRow base e size v n cs) (hb : ∀ k, v.ownBlock = some k → w'.heap[k]? = w.heap[k]?) : w'.ownsRow base e size v n cs := by
  refine ⟨h.1, ?_⟩
  rcases h.2 with h' | ⟨g, cap, cur, hv, h1, hg, r⟩
  · exact .inl h'
  · exact .inr ⟨g, cap, cur, hv, h1, by rw [hb g (by rw [hv]; rfl)]; exact hg, r⟩
end
end Go.Proofs.YtkfceloaomlhmaaDoor
/- Arrays of 32 bytes: filled by copy, cut whole, read by value. -/
set_option maxRecDepth 100000
namespace Go.Proofs.YtkfceloaomlhmaaDoor
open Go Go.RowKit
attribute [-go_sem] Sha.exec_store

/-- What the copy leaves. -/
def copiedT (l : List (BitVec 8)) (t : Nat) (g : Nat → Value) : Nat → Value := fun j => if j < t then B (l.getD j 0#8) else g j
theorem run_copyT (w : World) (ty T : TypeId) (E m c : Nat) (g : Nat → Value) (q : Option Addr) (n c' : Nat) (l : List (BitVec 8)) (hR : Row w E T m g) (hl : l.length = n) (hsl : Sl w q l) (t : Nat) (ht : t = min m n) :
    ∃ w', (Builtin.copy_ #[22, 22] ty #[.slice (some ⟨E, 0, none⟩) m c, .slice q n c']).run Tryd.prog w = .ok (.int .i64 (t : Int)) w' ∧ Row w' E T m (copiedT l t g) ∧ Kp E w w' := by
  by_cases h0 : t = 0
  · subst h0
    have hn : Nat.min n m = 0 := by show min n m = 0; omega
    refine ⟨w, ?_, hR.congr fun j _ => by rw [copiedT, if_neg (by omega)], Kp.refl _ _⟩
    have := run_copy_none (P := Tryd.prog) w 22 22 ty 5 (some ⟨E, 0, none⟩) q m c n c' und35 (by kernel_rfl) hn
    rw [this]
    rfl
  · obtain ⟨c0, o0, rfl, hc⟩ := hsl 0 (by omega)
    have hlen : ((l.take t).map B).length = t := by rw [List.length_map, List.length_take]; omega
    have key := run_copy_row (P := Tryd.prog) w 22 22 ty 5 E 0 m c ⟨c0, o0, none⟩ n c' (tab m g) T ((l.take t).map B) und35 (by kernel_rfl) hR (by rw [hlen, ht]; exact Nat.min_comm _ _)
      (fun j v hv => by
        have hj : j < t := by
          have := (List.getElem?_eq_some_iff.1 hv).1
          rw [hlen] at this; exact this
        refine hsl.news j v ?_
        rw [List.getElem?_map] at hv ⊢
        rw [List.getElem?_take, if_pos hj] at hv
        exact hv) (by rw [tab_size, hlen]; omega) (one_map _)
    have e : ((tab m g).toList.take 0 ++ (l.take t).map B ++ (tab m g).toList.drop (0 + ((l.take t).map B).length)).toArray = tab m (copiedT l t g) := by
      have := tab_splice m t g (l.take t) (by rw [List.length_take]; omega) (by omega)
      rw [List.append_assoc, this]
      refine tab_congr fun j _ => ?_
      unfold copiedT
      by_cases hj : j < t
      · rw [if_pos hj, if_pos hj]; congr 1; simp [List.getD_eq_getElem?_getD, hj]
      · rw [if_neg hj, if_neg hj]
    rw [e, hlen] at key
    exact ⟨_, key, setRow_heap w E _ _ T _ hR, ⟨rfl, rfl, rfl, by simp [World.setRow], fun k _ hk => setRow_other w E k _ hk⟩⟩
theorem wpl_copyT {ops : Array Oper} {rest : List Oper} {o : Oper} {a : Act} {Q : Exit → Act → World → Prop} (w : World) (hgd : o.guard = none) (d s : Operand)
    (ho : o.op = .call { callee := .builtin .copy, args := #[d, s], argTypes := #[22, 22] }) (T : TypeId) (E m c : Nat) (g : Nat → Value) (q : Option Addr) (n c' : Nat) (l : List (BitVec 8))
    (hd : a.eval d = .slice (some ⟨E, 0, none⟩) m c) (hs : a.eval s = .slice q n c') (hR : Row w E T m g) (hl : l.length = n) (hsl : Sl w q l) (t : Nat) (ht : t = min m n)
    (h : ∀ w', Row w' E T m (copiedT l t g) → Kp E w w' → wpList Tryd.prog ops Q rest (a.put o.dst (.int .i64 (t : Int))) w') : wpList Tryd.prog ops Q (o :: rest) a w := by
  refine wpList_plain hgd fun K hK => ?_
  obtain ⟨w', hr, h2, h3⟩ := run_copyT w o.type T E m c g q n c' l hR hl hsl t ht
  unfold Oper.wp execOp
  simp only [ho, resolve, invoke, builtin, Sem.run_bind, Sem.run_pure, Result.andThen_ok, List.map_toArray, List.map_cons, List.map_nil, hd, hs, hr]
  exact hK _ _ (h w' h2 h3)
theorem sl_arr (E : Nat) (w : World) : (slT 31 (.pointer (some ⟨E, 0, none⟩)) none none none).run Tryd.prog w = .ok (.value (.slice (some ⟨E, 0, none⟩) 32 32)) w := by
  first
  | kernel_rfl
  | (unfold slT; simp [go_sem, Instr.sliceAt])
/-- The first 32 bytes, noughts behind. -/
def pad32 (b : List (BitVec 8)) : List (BitVec 8) := (List.range 32).map fun i => b.getD i 0#8
theorem pad32_len (b : List (BitVec 8)) : (pad32 b).length = 32 := by simp [pad32]
theorem pad32_get (b : List (BitVec 8)) (j : Nat) (h : j < 32) : (pad32 b).getD j 0#8 = b.getD j 0#8 := by simp [pad32, List.getD_eq_getElem?_getD, h]
theorem pad32_same {b : List (BitVec 8)} (h : b.length = 32) : pad32 b = b := by
  apply List.ext_getElem?
  intro j
  by_cases hj : j < 32
  · simp [pad32, hj, List.getD_eq_getElem?_getD, show j < b.length by omega]
  · rw [List.getElem?_eq_none (by rw [pad32_len]; omega), List.getElem?_eq_none (by omega)]
/-- The row that a copy into noughts leaves. -/
theorem Sl.padded {w : World} {E : Nat} {T : TypeId} {b : List (BitVec 8)} {n t : Nat} (h : Row w E T 32 (copiedT b t (fun _ => B 0#8))) (hn : b.length = n) (ht : t = min 32 n) : Sl w (some ⟨E, 0, none⟩) (pad32 b) :=
  Sl.row h (by rw [pad32_len]; exact Nat.le_refl _) fun j hj => by
    rw [pad32_len] at hj
    rw [pad32_get b j hj]
    unfold copiedT
    split
    · rfl
    · rw [List.getD_eq_getElem?_getD, List.getElem?_eq_none (by omega)]; rfl
theorem info32 : (Tryd.prog.info? 31).map (fun i => (i.zero, i.size)) = some (some (.agg (Array.replicate 32 (Value.int .u8 0))), 32) := by kernel_rfl
theorem und32 : Tryd.prog.underlying 31 = some (.array 32 5) := by kernel_rfl
theorem size32 : (Tryd.prog.info? 31).map (·.size) = some 32 := by kernel_rfl
section
variable (r : Operand → Value) (dst : Option Tmp) (ty : TypeId) (pos : String) (after : Array Edge) (guard : Option (Nat × Bool))
theorem exec_alloc32 (w : World) :
    (execOp r ⟨dst, .alloc 31, ty, pos, after, guard⟩).run Tryd.prog w = .ok (.value (.pointer (some ⟨w.heap.size, 0, none⟩))) (w.alloc (.cells (zb 32) 31)) := by
  have h := (zero_of_info info32).1 w
  rw [← zb_eq] at h
  simp [execOp, Instr.alloc, h, newVar, newRow, Value.cells]
theorem exec_build32 (parts : Array (Nat × Operand)) : execOp r ⟨dst, .build 31 parts, ty, pos, after, guard⟩ = bdT 31 (parts.map fun x => (x.1, r x.2)) := rfl
theorem exec_store32 (p v : Operand) : execOp r ⟨dst, .store 31 p v, ty, pos, after, guard⟩ = stT 31 (r p) (r v) := rfl
theorem exec_load32 (p : Operand) : execOp r ⟨dst, .load 31 p, ty, pos, after, guard⟩ = ldT 31 (r p) := rfl
end
/-- 32 noughts. -/
def z32 : List (BitVec 8) := List.replicate 32 0#8
theorem z32_get (j : Nat) (h : j < 32) : z32.getD j 0#8 = 0#8 := by unfold z32; rw [List.getD_eq_getElem?_getD, List.getElem?_replicate, if_pos h]; rfl
theorem bd32 (w : World) : (bdT 31 #[]).run Tryd.prog w = .ok (.value (digV z32)) w := by
  have e : (tab 32 (dgF z32)) = Array.replicate 32 (Value.int .u8 0) := by
    rw [← zb_eq, zb]
    exact tab_congr fun j hj => by unfold dgF; rw [z32_get j hj]
  unfold digV
  rw [e]
  show (bdT 31 #[]).run Tryd.prog w = .ok (.value (.agg (Array.replicate 32 (Value.int .u8 0)))) w
  kernel_rfl
theorem run_storeAt_new' {P : Program} (w : World) (t e : TypeId) (c c' : Array Value) (hi : (P.info? t).map (·.size) = some c'.size) (ho : c.size = c'.size) (h1 : c'.all (·.oneCell') = true) :
    (Instr.storeAt t (.pointer (some ⟨w.heap.size, 0, none⟩)) (.agg c')).run P (w.alloc (.cells c e)) = .ok () (w.alloc (.cells c' e)) := by
  simp only [Instr.storeAt, Instr.sureAddr, Sem.run_bind, Sem.run_pure, Result.andThen]
  rw [run_storeVar_row _ _ e t c c' (heap_alloc_last w _) hi ho h1, World.setRow_alloc_new]
theorem st_dig (w : World) (N : Nat) (l : List (BitVec 8)) (hN : N = w.heap.size) : (stT 31 (.pointer (some ⟨N, 0, none⟩)) (digV l)).run Tryd.prog (w.alloc (.cells (zb 32) 31)) = .ok .skip (w.alloc (.cells (tab 32 (dgF l)) 31)) := by
  subst hN
  have h := run_storeAt_new' (P := Tryd.prog) w 31 31 (zb 32) (tab 32 (dgF l)) (by rw [size32, tab_size]) (by rw [zb, tab_size, tab_size]) (by simp [tab, dgF, one_B])
  unfold digV
  simp only [stT, Sem.run_bind, h, Result.andThen, Sem.run_pure]
theorem ld_dig {w : World} {b o : Nat} {l : List (BitVec 8)} (h : Sl w (some ⟨b, o, none⟩) l) (hl : l.length = 32) : (ldT 31 (.pointer (some ⟨b, o, none⟩))).run Tryd.prog w = .ok (.value (digV l)) w := by
  have hr : w.rangeAt b o (tab 32 (dgF l)).toList := by
    intro j v hv
    have hj : j < 32 := by
      have := (List.getElem?_eq_some_iff.1 hv).1
      simpa [tab] using this
    obtain ⟨c, o', e, hx⟩ := h j (by omega)
    injection e with e
    injection e with e1 e2
    subst e1 e2
    rw [hx]
    have h2 : (tab 32 (dgF l)).toList[j]? = some (B (l.getD j 0#8)) := by simp [tab, dgF, hj]
    rw [h2] at hv
    exact hv
  have := run_loadAt_mid (P := Tryd.prog) w b o 31 _ _ hr und32 rfl (by rw [size32]; simp [tab])
  unfold digV
  simp only [ldT, Sem.run_bind, this, Result.andThen, Sem.run_pure, Array.toArray_toList]
end Go.Proofs.YtkfceloaomlhmaaDoor
/- A row appended to rows of the call's own inside a region that draws; headers that lie. -/
set_option maxRecDepth 100000
namespace Go.Proofs.YtkfceloaomlhmaaDoor
open Go Go.RowKit
attribute [-go_sem] Sha.exec_store

/-- Headers of the bytes bs lie where p says. -/
def Lay (w : World) (p : Option Addr) (bs : List (List (BitVec 8))) : Prop :=
  ∀ i, i < bs.length → ∃ c o q d, p = some ⟨c, o, none⟩ ∧ w.cell? ⟨c, o + i, none⟩ = some (.slice q (bs.getD i []).length d) ∧ Sl w q (bs.getD i []) ∧ (q = none → d = 0)
theorem Lay.of_below {w w' : World} {p : Option Addr} {bs : List (List (BitVec 8))} (h : Lay w p bs) (k : Below w.heap.size w w') : Lay w' p bs := fun i hi => by
  obtain ⟨c, o, q, d, e, hc, hs, hq⟩ := h i hi
  exact ⟨c, o, q, d, e, by rw [k.cell (by exact World.block_lt_of_cell? w _ hc)]; exact hc, hs.of_below k, hq⟩
theorem Hds.lay {w : World} {N : Nat} {v : Value} {bs : List (List (BitVec 8))} (h : Hds w N v bs) : ∃ p cap, v = .slice p bs.length cap ∧ (p = none → cap = 0) ∧ bs.length ≤ cap ∧ Lay w p bs := by
  obtain ⟨p, cap, e, h1, h2, -, h3⟩ := h.shape
  exact ⟨p, cap, e, h1, h2, h3⟩
theorem Prt.lay {w : World} {p : Option Addr} {bs : List (List (BitVec 8))} (h : Prt w p bs) : Lay w p bs := fun i hi => by
  obtain ⟨c, o, q, d, e, hc, hs, hq, -⟩ := h i hi
  exact ⟨c, o, q, d, e, hc, hs, hq⟩
theorem step_pushM {ops : Array Oper} {o : Oper} {a : Act} {Q : Exit → Act → World → Prop} {K : Act → World → Prop} {Z : Prop} (w : World) (hgd : o.guard = none) (s x : Operand)
    (ho : o.op = .call { callee := .builtin .append, args := #[s, x], argTypes := #[42, 42] })
    (base : Nat) (v : Value) (ls : List (List (BitVec 8))) (hs : a.eval s = v) (hown : OwnM w base v ls) (ad : Addr) (hx : a.eval x = .slice (some ad) 1 1) (q : Option Addr) (l : List (BitVec 8)) (n cap : Nat)
    (hc : w.cell? ad = some (.slice q n cap)) (hn : l.length = n) (hsl : Sl w q l) (hq : q = none → cap = 0) (hle : n ≤ cap) (hqb : ∀ b, q = some b → base ≤ b.block ∧ b.block < w.heap.size ∧ v.ownBlock ≠ some b.block)
    (n0 : Nat) (hn0 : ls.length = n0) (hlen : n0 < 100000000) (hb : base ≤ w.heap.size)
    (h : ∀ g cap' w', OwnM w' base (.slice (some ⟨g, 0, none⟩) (n0 + 1) cap') (ls ++ [l]) → w.grownBy w' v.ownBlock → (v.ownBlock = some g ∨ g = w.heap.size) → (∀ k, v.ownBlock = some k → base ≤ k ∧ k < w.heap.size) →
      K (a.put o.dst (.slice (some ⟨g, 0, none⟩) (n0 + 1) cap')) w') : if Region.wanted o (yielded ops a.tmps) = true then Oper.wp Tryd.prog o a w K Q else Z := by
  subst hn0
  have hw : Region.wanted o (yielded ops a.tmps) = true := by simp [Region.wanted, hgd]
  rw [if_pos hw]
  obtain ⟨g, cap', w', hr, h2, h3, h4, h5⟩ := hown.push o.type ad q l n cap hc hn hsl hq hle hqb hlen hb
  unfold Oper.wp execOp
  simp only [ho, resolve, invoke, builtin, Sem.run_bind, Sem.run_pure, Result.andThen_ok, List.map_toArray, List.map_cons, List.map_nil, hs, hx, hr]
  exact h g cap' w' h2 h3 h4 h5
theorem take_map_pad (bs : List (List (BitVec 8))) (i : Nat) (h : i < bs.length) : (bs.take (i + 1)).map padL = (bs.take i).map padL ++ [padL (bs.getD i [])] := by
  rw [List.take_add_one, List.map_append, List.getElem?_eq_getElem h, List.getD_eq_getElem?_getD, List.getElem?_eq_getElem h]
  rfl
theorem pad_rows (bs : List (List (BitVec 8))) (hb : ∀ i, i < bs.length → (bs.getD i []).length ≤ 256) (i : Nat) (h : i < bs.length) : ((bs.map padL).getD i []).length = 256 := by
  rw [List.getD_eq_getElem?_getD, List.getElem?_map, List.getElem?_eq_getElem h]
  have := hb i h
  rw [List.getD_eq_getElem?_getD, List.getElem?_eq_getElem h] at this
  exact padL_len this
/-- What lies from lo to hi is as it was. -/
def Fr12 (W u : World) (lo hi : Nat) : Prop := hi ≤ u.heap.size ∧ ∀ g, lo ≤ g → g < hi → u.heap[g]? = W.heap[g]?
theorem Fr12.of_below {W u u' : World} {lo hi : Nat} (h : Fr12 W u lo hi) (k : Below u.heap.size u u') : Fr12 W u' lo hi :=
  ⟨Nat.le_trans h.1 k.size, fun g h1 h2 => by rw [k.block g (Nat.lt_of_lt_of_le h2 h.1)]; exact h.2 g h1 h2⟩
theorem Fr12.grown {W u u' : World} {lo hi : Nat} {own : Option Nat} (h : Fr12 W u lo hi) (k : u.grownBy u' own) (ho : ∀ g, own = some g → g < lo ∨ hi ≤ g) : Fr12 W u' lo hi :=
  ⟨Nat.le_trans h.1 k.size, fun g h1 h2 => by rw [k.block g (Nat.lt_of_lt_of_le h2 h.1) (fun e => by have := ho g e.symm; omega)]; exact h.2 g h1 h2⟩
theorem Fr12.rows {W u : World} {lo : Nat} {v : Value} {ls : List (List (BitVec 8))} (h : Fr12 W u lo W.heap.size) (hO : OwnM W lo v ls) : OwnM u lo v ls := hO.keep h.1 fun g h1 h2 => h.2 g h1 h2
theorem own_step {lo hi sz : Nat} {v v' : Value} (h : ∀ g, v.ownBlock = some g → g < lo ∨ hi ≤ g) (hs : hi ≤ sz) (ho : v'.ownBlock = v.ownBlock ∨ v'.ownBlock = some sz) : ∀ g, v'.ownBlock = some g → g < lo ∨ hi ≤ g := fun g e => by
  rcases ho with ho | ho
  · rw [ho] at e; exact h g e
  · rw [ho] at e; injection e with e; omega
theorem ent_take (ls : List (List (BitVec 8))) (i : Nat) (h : i < ls.length) : ((ls.take (i + 1)).map entL).flatten = ((ls.take i).map entL).flatten ++ entL (ls.getD i []) := by
  rw [List.take_add_one, List.map_append, List.flatten_append, List.getElem?_eq_getElem h, List.getD_eq_getElem?_getD, List.getElem?_eq_getElem h]
  simp
theorem OwnM.row12 {W : World} {lo n c : Nat} {p : Option Addr} {ls : List (List (BitVec 8))} (hO : OwnM W lo (.slice p n c) ls) (j : Nat) (hj : j < ls.length) :
    ∃ gc qr cr, p = some ⟨gc, 0, none⟩ ∧ (qr = none → cr = 0) ∧ (ls.getD j []).length ≤ cr ∧ ∀ u, Fr12 W u lo W.heap.size → u.cell? ⟨gc, j, none⟩ = some (.slice qr (ls.getD j []).length cr) ∧ Sl u qr (ls.getD j []) := by
  obtain ⟨vs, h1, h2, h3⟩ := hO
  have hlt := World.ownsRow.lt h2
  rcases h2.2 with ⟨hv, hl⟩ | ⟨g, cap, cur, hv, hb, hg, hle, _, hsz, ht⟩
  · exact absurd hj (by omega)
  · injection hv with hv1 hv2 hv3
    subst hv1
    obtain ⟨q, cap', a1, a2, a3, a4, a5⟩ := h3 j hj
    have hg2 := hlt g (by rfl)
    refine ⟨g, q, cap', rfl, a3, a4, fun u hu => ⟨?_, a2.of_block (fun a e => hu.2 a.block (a5 a e).1 (a5 a e).2.1)⟩⟩
    rw [World.cell?_of_block (w := W) (w' := u) (a := ⟨g, j, none⟩) (hu.2 g hg2.1 hg2.2), cell_of_row W g j cur 22 (0, 0) hg]
    have e : (cur.toList.take (ls.length * 1))[j]? = vs[j]? := by rw [ht]
    rw [List.getElem?_take, if_pos (by omega), a1] at e
    simpa using e
theorem flat_le {ls : List (List (BitVec 8))} {k : Nat} (h : ∀ r ∈ ls, r.length ≤ k) : ls.flatten.length ≤ k * ls.length := by
  induction ls with
  | nil => simp
  | cons a t ih =>
    have h1 := h a (by simp)
    have h2 := ih fun r hr => h r (by simp [hr])
    rw [List.flatten_cons, List.length_append, List.length_cons, Nat.mul_succ]
    omega
theorem ent_len {bs : List (List (BitVec 8))} (j : Nat) : (((parB bs).take j).map entL).flatten.length ≤ 576 := by
  have h : ∀ r ∈ ((parB bs).take j).map entL, r.length ≤ 288 := fun r hr => by
    obtain ⟨x, hx, rfl⟩ := List.mem_map.1 hr
    have hx := List.mem_of_mem_take hx
    obtain ⟨i, hi, e⟩ := List.getElem_of_mem hx
    have h2 := parB_row bs i (by rw [parB_len] at hi; exact hi)
    rw [List.getD_eq_getElem?_getD, List.getElem?_eq_getElem hi] at h2
    have h3 : ((parB bs)[i]).length = 256 := h2
    rw [e] at h3
    rw [entL_len h3]
    exact Nat.le_refl _
  have h2 := flat_le h
  have h3 : (((parB bs).take j).map entL).length ≤ 2 := by rw [List.length_map, List.length_take, parB_len]; omega
  have h4 : 288 * (((parB bs).take j).map entL).length ≤ 288 * 2 := Nat.mul_le_mul_left _ h3
  omega
end Go.Proofs.YtkfceloaomlhmaaDoor
/- Two digests compared. -/
set_option maxRecDepth 100000
namespace Go.Proofs.YtkfceloaomlhmaaDoor.Sha
open Go Go.RowKit

theorem sizeOf5 (w : World) : (sizeOf 5).run Tryd.prog w = .ok 1 w := by
  have h := size5
  cases hq : Tryd.prog.info? 5 with
  | none => simp [hq] at h
  | some i =>
    have hi : i.size = 1 := by simpa [hq] using h
    simp [sizeOf, typeInfo, hq, hi]
theorem isAgg5 (w : World) : (isAgg 5).run Tryd.prog w = .ok false w := by
  simp only [isAgg, Sem.run_bind, run_underlying Tryd.underlying5, Result.andThen, Sem.run_pure]
theorem part5 (cs : Array Value) (i : Nat) (v : Value) (h : cs[i]? = some v) (w : World) : (part 5 cs (i * 1)).run Tryd.prog w = .ok v w := by
  simp only [part, Sem.run_bind, isAgg5, Result.andThen, Bool.false_eq_true, if_false, Nat.mul_one, h, Sem.run_pure]
theorem eqB (d : Nat) (x y : BitVec 8) (w : World) : (Op.equalIn (d + 1) 5 (B x) (B y)).run Tryd.prog w = .ok (x == y) w := by
  have h : ((x.toNat : Int) == (y.toNat : Int)) = (x == y) := by
    rw [Bool.eq_iff_iff]; simp only [beq_iff_eq]
    constructor
    · intro h; exact BitVec.eq_of_toNat_eq (by omega)
    · rintro rfl; rfl
  rw [B_eq', B_eq', run_equalIn_int (P := Tryd.prog) w d 5 .u8 .u8 _ _ Tryd.underlying5, h]
theorem eq_loop (d : Nat) (f g : Nat → BitVec 8) : ∀ (l : List Nat), (∀ i ∈ l, i < 32) → ∀ w, (forIn (m := Sem) l ((none, ()) : Option Bool × Unit) fun i _ => do
      if (!(← Op.equalIn (d + 1) 5 (← part 5 (tab 32 fun i => B (f i)) (i * 1)) (← part 5 (tab 32 fun i => B (g i)) (i * 1)))) = true then pure (ForInStep.done (some false, ())) else pure (ForInStep.yield (none, ()))).run Tryd.prog w =
      .ok (if l.all fun i => f i == g i then (none, ()) else (some false, ())) w
  | [], _, w => by simp
  | i :: l, hl, w => by
    have hi : i < 32 := hl i (by simp)
    simp only [List.forIn_cons, Sem.run_bind, part5 _ i _ (tab_get _ _ _ hi), Result.andThen_ok, eqB, Sem.run_ite]
    by_cases e : (f i == g i) = true
    · simp only [e, Bool.not_true, Bool.false_eq_true, if_false, Sem.run_pure, Result.andThen_ok]
      rw [eq_loop d f g l (fun j hj => hl j (by simp [hj])) w]
      simp only [List.all_cons, e, Bool.true_and]
    · have e' : (f i == g i) = false := by simpa using e
      simp only [e', Bool.not_false, if_true, Sem.run_pure, Result.andThen_ok, List.all_cons, Bool.false_and, Bool.false_eq_true, if_false]
theorem eq_digest (d : Nat) (f g : Nat → BitVec 8) (w : World) : (Op.equalIn (d + 2) 31 (dgV f) (dgV g)).run Tryd.prog w = .ok ((List.range 32).all fun i => f i == g i) w := by
  rw [dgV, dgV, Op.equalIn]
  simp only [Sem.run_bind, run_underlying und24, Result.andThen_ok, sizeOf5, Std.Legacy.Range.forIn_eq_forIn_range', Std.Legacy.Range.size, Nat.sub_zero, Nat.add_one_sub_one, Nat.div_one, ← List.range_eq_range']
  rw [eq_loop d f g _ (by simp) w]
  simp only [Result.andThen_ok]
  cases h : (List.range 32).all fun i => f i == g i
  · simp only [Bool.false_eq_true, if_false, Sem.run_pure]
  · simp only [if_true, Sem.run_pure]
theorem all_same (f : Nat → BitVec 8) : ((List.range 32).all fun i => f i == f i) = true := by simp
/-- A comparison of two digests, its operands reckoned first. -/
def cmpT (op : BinOp) (x y : Value) : Sem Next := do pure (.value (← binOp op 31 x y))
theorem exec_eql24 (r : Operand → Value) (dst : Option Tmp) (x y : Operand) (z : TypeId) (ty : TypeId) (pos : String) (after : Array Edge) (guard : Option (Nat × Bool)) (f g : Nat → BitVec 8) (hx : r x = dgV f) (hy : r y = dgV g) (w : World) :
    (execOp r ⟨dst, .binOp .eql 31 x y z, ty, pos, after, guard⟩).run Tryd.prog w = .ok (.value (.bool ((List.range 32).all fun i => f i == g i))) w := by
  have hg : (eqGuard .eql 31 x y (dgV f) (dgV g)).run Tryd.prog w = .ok () w := run_eqGuard_agg (P := Tryd.prog) w .eql 31 x y _ _ (by kernel_rfl)
  have hb : (binOp .eql 31 (dgV f) (dgV g)).run Tryd.prog w = .ok (.bool ((List.range 32).all fun i => f i == g i)) w := by
    have := run_eql_struct (P := Tryd.prog) w 31 (tab 32 fun i => B (f i)) (tab 32 fun i => B (g i))
    rw [show Value.agg (tab 32 fun i => B (f i)) = dgV f from rfl, show Value.agg (tab 32 fun i => B (g i)) = dgV g from rfl, eq_digest 9998 f g w] at this
    exact this
  simp only [execOp, hx, hy, Sem.run_bind, hg, hb, Result.andThen_ok, Sem.run_pure]
theorem exec_neq24 (r : Operand → Value) (dst : Option Tmp) (x y : Operand) (z : TypeId) (ty : TypeId) (pos : String) (after : Array Edge) (guard : Option (Nat × Bool)) (f g : Nat → BitVec 8) (hx : r x = dgV f) (hy : r y = dgV g) (w : World) :
    (execOp r ⟨dst, .binOp .neq 31 x y z, ty, pos, after, guard⟩).run Tryd.prog w = .ok (.value (.bool (!((List.range 32).all fun i => f i == g i)))) w := by
  have hg : (eqGuard .neq 31 x y (dgV f) (dgV g)).run Tryd.prog w = .ok () w := run_eqGuard_agg (P := Tryd.prog) w .neq 31 x y _ _ (by kernel_rfl)
  have hb : (binOp .neq 31 (dgV f) (dgV g)).run Tryd.prog w = .ok (.bool (!((List.range 32).all fun i => f i == g i))) w := by
    have := run_neq_struct (P := Tryd.prog) w 31 (tab 32 fun i => B (f i)) (tab 32 fun i => B (g i))
    rw [show Value.agg (tab 32 fun i => B (f i)) = dgV f from rfl, show Value.agg (tab 32 fun i => B (g i)) = dgV g from rfl, eq_digest 9998 f g w] at this
    exact this
  simp only [execOp, hx, hy, Sem.run_bind, hg, hb, Result.andThen_ok, Sem.run_pure]
end Go.Proofs.YtkfceloaomlhmaaDoor.Sha
/- Arrays of 16 ints by value: made, boxed, stored, loaded, indexed, compared. -/
set_option maxRecDepth 100000
namespace Go.Proofs.YtkfceloaomlhmaaDoor
open Go Go.RowKit
attribute [-go_sem] Sha.exec_store

def vf (f : Nat → Int) : Nat → Value := fun i => .int .i64 (f i)
/-- A vector as a value. -/
def vcV (f : Nat → Int) : Value := .agg (tab 16 (vf f))
def veq (f g : Nat → Int) : Bool := (List.range 16).all fun i => f i == g i
theorem vf_one (f : Nat → Int) (n : Nat) : (tab n (vf f)).all (·.oneCell') = true := by
  rw [Array.all_eq_true']
  intro x hx
  unfold tab at hx
  simp only [List.mem_toArray, List.mem_map, List.mem_range] at hx
  obtain ⟨i, _, rfl⟩ := hx
  rfl
theorem vcV_congr {f g : Nat → Int} (h : ∀ i, i < 16 → f i = g i) : vcV f = vcV g := by
  unfold vcV
  rw [tab_congr (f := vf f) (g := vf g) fun i hi => by show Value.int .i64 (f i) = Value.int .i64 (g i); rw [h i hi]]
theorem veq_iff {f g : Nat → Int} : veq f g = true ↔ ∀ i, i < 16 → f i = g i := by
  unfold veq
  simp [List.all_eq_true]
/-- An array of 16 ints, as the program has it. -/
structure VT (T : TypeId) : Prop where
  und : Tryd.prog.underlying T = some (.array 16 3)
  info : (Tryd.prog.info? T).map (fun i => (i.zero, i.size)) = some (some (.agg (Array.replicate 16 (Value.int .i64 0))), 16)
theorem VT.size {T : TypeId} (h : VT T) : (Tryd.prog.info? T).map (·.size) = some 16 := by
  have := h.info
  cases hq : Tryd.prog.info? T with
  | none => rw [hq] at this; cases this
  | some i => rw [hq] at this; simp at this; simp [this.2]
theorem vz : Array.replicate 16 (Value.int .i64 0) = tab 16 (vf fun _ => 0) := (tab_const 16 (.int .i64 0)).symm
theorem undInt : Tryd.prog.underlying 3 = some (.int .i64) := by kernel_rfl
theorem sizeInt : (Tryd.prog.info? 3).map (·.size) = some 1 := by kernel_rfl
theorem sizeOfInt (w : World) : (sizeOf 3).run Tryd.prog w = .ok 1 w := by
  have h := sizeInt
  cases hq : Tryd.prog.info? 3 with
  | none => simp [hq] at h
  | some i =>
    have hi : i.size = 1 := by simpa [hq] using h
    simp [sizeOf, typeInfo, hq, hi]
theorem isAggInt (w : World) : (isAgg 3).run Tryd.prog w = .ok false w := by
  simp only [isAgg, Sem.run_bind, run_underlying undInt, Result.andThen, Sem.run_pure]
theorem partInt (cs : Array Value) (i : Nat) (v : Value) (h : cs[i]? = some v) (w : World) : (part 3 cs (i * 1)).run Tryd.prog w = .ok v w := by
  simp only [part, Sem.run_bind, isAggInt, Result.andThen, Bool.false_eq_true, if_false, Nat.mul_one, h, Sem.run_pure]
theorem eqInt (d : Nat) (x y : Int) (w : World) : (Op.equalIn (d + 1) 3 (.int .i64 x) (.int .i64 y)).run Tryd.prog w = .ok (x == y) w := by
  rw [run_equalIn_int (P := Tryd.prog) w d 3 .i64 .i64 _ _ undInt]
theorem veq_loop (d : Nat) (f g : Nat → Int) : ∀ (l : List Nat), (∀ i ∈ l, i < 16) → ∀ w, (forIn (m := Sem) l ((none, ()) : Option Bool × Unit) fun i _ => do
      if (!(← Op.equalIn (d + 1) 3 (← part 3 (tab 16 (vf f)) (i * 1)) (← part 3 (tab 16 (vf g)) (i * 1)))) = true then pure (ForInStep.done (some false, ())) else pure (ForInStep.yield (none, ()))).run Tryd.prog w =
      .ok (if l.all fun i => f i == g i then (none, ()) else (some false, ())) w
  | [], _, w => by simp
  | i :: l, hl, w => by
    have hi : i < 16 := hl i (by simp)
    simp only [List.forIn_cons, Sem.run_bind, partInt _ i _ (tab_get _ _ _ hi), Result.andThen_ok, vf, eqInt, Sem.run_ite]
    by_cases e : (f i == g i) = true
    · simp only [e, Bool.not_true, Bool.false_eq_true, if_false, Sem.run_pure, Result.andThen_ok]
      rw [veq_loop d f g l (fun j hj => hl j (by simp [hj])) w]
      simp only [List.all_cons, e, Bool.true_and]
    · have e' : (f i == g i) = false := by simpa using e
      simp only [e', Bool.not_false, if_true, Sem.run_pure, Result.andThen_ok, List.all_cons, Bool.false_and, Bool.false_eq_true, if_false]
theorem veq_run {T : TypeId} (hT : VT T) (d : Nat) (f g : Nat → Int) (w : World) : (Op.equalIn (d + 2) T (vcV f) (vcV g)).run Tryd.prog w = .ok (veq f g) w := by
  rw [vcV, vcV, Op.equalIn]
  simp only [Sem.run_bind, run_underlying hT.und, Result.andThen_ok, sizeOfInt, Std.Legacy.Range.forIn_eq_forIn_range', Std.Legacy.Range.size, Nat.sub_zero, Nat.add_one_sub_one, Nat.div_one, ← List.range_eq_range']
  rw [veq_loop d f g _ (by simp) w]
  simp only [Result.andThen_ok]
  unfold veq
  cases h : (List.range 16).all fun i => f i == g i
  · simp only [Bool.false_eq_true, if_false, Sem.run_pure]
  · simp only [if_true, Sem.run_pure]
theorem eqlVT {T : TypeId} (hT : VT T) (f g : Nat → Int) (w : World) : (binOp .eql T (vcV f) (vcV g)).run Tryd.prog w = .ok (.bool (veq f g)) w := by
  have := run_eql_struct (P := Tryd.prog) w T (tab 16 (vf f)) (tab 16 (vf g))
  rw [show Value.agg (tab 16 (vf f)) = vcV f from rfl, show Value.agg (tab 16 (vf g)) = vcV g from rfl, veq_run hT 9998 f g w] at this
  exact this
theorem neqVT {T : TypeId} (hT : VT T) (f g : Nat → Int) (w : World) : (binOp .neq T (vcV f) (vcV g)).run Tryd.prog w = .ok (.bool (!(veq f g))) w := by
  have := run_neq_struct (P := Tryd.prog) w T (tab 16 (vf f)) (tab 16 (vf g))
  rw [show Value.agg (tab 16 (vf f)) = vcV f from rfl, show Value.agg (tab 16 (vf g)) = vcV g from rfl, veq_run hT 9998 f g w] at this
  exact this
theorem allocVT {T : TypeId} (hT : VT T) (r : Operand → Value) (dst : Option Tmp) (ty : TypeId) (pos : String) (after : Array Edge) (guard : Option (Nat × Bool)) (w : World) :
    (execOp r ⟨dst, .alloc T, ty, pos, after, guard⟩).run Tryd.prog w = .ok (.value (.pointer (some ⟨w.heap.size, 0, none⟩))) (w.alloc (.cells (tab 16 (vf fun _ => 0)) T)) := by
  have h := (zero_of_info hT.info).1 w
  rw [vz] at h
  simp [execOp, Instr.alloc, h, newVar, newRow, Value.cells]
theorem boxVT {T : TypeId} (hT : VT T) (w : World) (f : Nat → Int) : (bxT T (vcV f)).run Tryd.prog w = .ok (.value (.pointer (some ⟨w.heap.size, 0, none⟩))) (w.alloc (.cells (tab 16 (vf f)) T)) := by
  have hs := hT.size
  cases hq : Tryd.prog.info? T with
  | none => rw [hq] at hs; cases hs
  | some i =>
    rw [hq] at hs
    simp at hs
    unfold vcV
    simp [bxT, Instr.box, newVar, newRow, Value.cells]
/-- The vector f lies from cell o of block b on. -/
def VecAt (w : World) (b o : Nat) (f : Nat → Int) : Prop := ∀ i, i < 16 → w.cell? ⟨b, o + i, none⟩ = some (.int .i64 (f i))
theorem VecAt.of_row {w : World} {b n : Nat} {T : TypeId} {f : Nat → Int} (h : Row w b T n (vf f)) (hn : 16 ≤ n) : VecAt w b 0 f := fun i hi => by
  rw [Nat.zero_add]
  exact h.cell i (by omega)
theorem VecAt.of_block {w w' : World} {b o : Nat} {f : Nat → Int} (h : VecAt w b o f) (e : w'.heap[b]? = w.heap[b]?) : VecAt w' b o f := fun i hi => (World.cell?_of_block (w := w) (w' := w') (a := ⟨b, o + i, none⟩) e).trans (h i hi)
theorem VecAt.lt {w : World} {b o : Nat} {f : Nat → Int} (h : VecAt w b o f) : b < w.heap.size := World.block_lt_of_cell? w _ (h 0 (by decide))
theorem VecAt.of_below {w w' : World} {b o : Nat} {f : Nat → Int} (h : VecAt w b o f) (k : Below w.heap.size w w') : VecAt w' b o f := h.of_block (k.block b h.lt)
theorem loadVT {T : TypeId} (hT : VT T) {w : World} {b o : Nat} {f : Nat → Int} (h : VecAt w b o f) : (ldT T (.pointer (some ⟨b, o, none⟩))).run Tryd.prog w = .ok (.value (vcV f)) w := by
  have hr : w.rangeAt b o (tab 16 (vf f)).toList := by
    intro j v hv
    have hj : j < 16 := by
      have := (List.getElem?_eq_some_iff.1 hv).1
      simpa [tab] using this
    rw [h j hj]
    have h2 : (tab 16 (vf f)).toList[j]? = some (.int .i64 (f j)) := by simp [tab, vf, hj]
    rw [h2] at hv
    exact hv
  have := run_loadAt_mid (P := Tryd.prog) w b o T _ _ hr hT.und rfl (by rw [hT.size]; simp [tab])
  unfold vcV
  simp only [ldT, Sem.run_bind, this, Result.andThen, Sem.run_pure, Array.toArray_toList]
theorem storeVT {T T2 : TypeId} (hT : VT T) {w : World} {b : Nat} {g : Nat → Value} (hR : Row w b T2 16 g) (f : Nat → Int) :
    ∃ w', (stT T (.pointer (some ⟨b, 0, none⟩)) (vcV f)).run Tryd.prog w = .ok .skip w' ∧ Row w' b T2 16 (vf f) ∧ Kp b w w' := by
  have h := run_storeVar_row (P := Tryd.prog) w b T2 T (tab 16 g) (tab 16 (vf f)) hR (by rw [hT.size, tab_size]) (by rw [tab_size, tab_size]) (vf_one f 16)
  refine ⟨w.setRow b (tab 16 (vf f)), ?_, setRow_heap w b _ _ T2 _ hR, ⟨rfl, rfl, rfl, by simp [World.setRow], fun k _ hk => setRow_other w b k _ hk⟩⟩
  unfold vcV
  simp only [stT, Instr.storeAt, Instr.sureAddr, Sem.run_bind, Sem.run_pure, Result.andThen, h]
theorem run_storeAt_newV {P : Program} (w : World) (t e : TypeId) (c c' : Array Value) (hi : (P.info? t).map (·.size) = some c'.size) (ho : c.size = c'.size) (h1 : c'.all (·.oneCell') = true) :
    (Instr.storeAt t (.pointer (some ⟨w.heap.size, 0, none⟩)) (.agg c')).run P (w.alloc (.cells c e)) = .ok () (w.alloc (.cells c' e)) := by
  simp only [Instr.storeAt, Instr.sureAddr, Sem.run_bind, Sem.run_pure, Result.andThen]
  rw [run_storeVar_row _ _ e t c c' (heap_alloc_last w _) hi ho h1, World.setRow_alloc_new]
theorem storeNewVT {T : TypeId} (hT : VT T) (w : World) (T2 : TypeId) (g : Nat → Value) (f : Nat → Int) : (stT T (.pointer (some ⟨w.heap.size, 0, none⟩)) (vcV f)).run Tryd.prog (w.alloc (.cells (tab 16 g) T2)) = .ok .skip (w.alloc (.cells (tab 16 (vf f)) T2)) := by
  have h := run_storeAt_newV (P := Tryd.prog) w T T2 (tab 16 g) (tab 16 (vf f)) (by rw [hT.size, tab_size]) (by rw [tab_size, tab_size]) (vf_one f 16)
  unfold vcV
  simp only [stT, Sem.run_bind, h, Result.andThen, Sem.run_pure]
/-- An element of an array that is a value, its operands reckoned first. -/
def ixT (t : TypeId) (x i : Value) : Sem Next := do pure (.value (← Instr.index t x i))
theorem indexVT {T : TypeId} (hT : VT T) (w : World) (f : Nat → Int) (i : Nat) (h : i < 16) : (ixT T (vcV f) (.int .i64 (i : Int))).run Tryd.prog w = .ok (.value (.int .i64 (f i))) w := by
  have hin : 0 ≤ (i : Int) ∧ (i : Int) < (16 : Nat) := by omega
  unfold vcV
  simp only [ixT, Instr.index, asIntOf, Sem.run_bind, Sem.run_pure, Result.andThen_ok, run_underlying hT.und, hin, and_self, if_true, sizeOfInt, Int.toNat_natCast, partInt _ i _ (tab_get 16 (vf f) i h)]
  rfl
theorem buildVT {T : TypeId} (hT : VT T) (hb : ∀ w, (bdT T #[]).run Tryd.prog w = .ok (.value (.agg (Array.replicate 16 (Value.int .i64 0)))) w) (w : World) : (bdT T #[]).run Tryd.prog w = .ok (.value (vcV fun _ => 0)) w := by
  rw [hb w, vz]
  rfl
/-- A comparison, its operands reckoned first. -/
def eqX (op : BinOp) (t : TypeId) (x y : Operand) (u v : Value) : Sem Next := do
  let z ← (do eqGuard op t x y u v; binOp op t u v)
  pure (.value z)
attribute [irreducible] vcV
end Go.Proofs.YtkfceloaomlhmaaDoor
/- Digests by value compared. -/
set_option maxRecDepth 100000
namespace Go.Proofs.YtkfceloaomlhmaaDoor
open Go Go.RowKit
attribute [-go_sem] Sha.exec_store

/-- Are two digests the same? -/
def deq (a b : List (BitVec 8)) : Bool := (List.range 32).all fun i => a.getD i 0#8 == b.getD i 0#8
theorem deq_iff {a b : List (BitVec 8)} (ha : a.length = 32) (hb : b.length = 32) : deq a b = true ↔ a = b := by
  unfold deq
  simp only [List.all_eq_true, List.mem_range, beq_iff_eq]
  constructor
  · intro h
    apply List.ext_getElem (by omega)
    intro i h1 h2
    have := h i (by omega)
    rwa [List.getD_eq_getElem?_getD, List.getD_eq_getElem?_getD, List.getElem?_eq_getElem h1, List.getElem?_eq_getElem h2] at this
  · rintro rfl i _; rfl
theorem deq_self (a : List (BitVec 8)) : deq a a = true := by unfold deq; simp
theorem digV_sha (l : List (BitVec 8)) : digV l = Sha.dgV fun i => l.getD i 0#8 := by
  unfold Sha.dgV digV
  have : tab 32 (dgF l) = Sha.tab 32 (fun i => Sha.B (l.getD i 0#8)) := by
    apply Array.ext_getElem?
    intro i
    by_cases h : i < 32
    · rw [tab_get 32 _ i h, Sha.tab_get 32 _ i h]
      unfold dgF
      rw [shaB]
    · rw [Array.getElem?_eq_none (by rw [tab_size]; omega), Array.getElem?_eq_none (by rw [Sha.tab_size]; omega)]
  rw [this]
theorem digV_agg (l : List (BitVec 8)) : digV l = .agg (tab 32 (dgF l)) := by unfold digV; rfl
theorem eql_run (a b : List (BitVec 8)) (w : World) : (binOp .eql 31 (digV a) (digV b)).run Tryd.prog w = .ok (.bool (deq a b)) w := by
  have := run_eql_struct (P := Tryd.prog) w 31 (tab 32 (dgF a)) (tab 32 (dgF b))
  rw [← digV_agg, ← digV_agg] at this
  rw [digV_sha a, digV_sha b] at this ⊢
  rw [Sha.eq_digest 9998] at this
  exact this
theorem neq_run (a b : List (BitVec 8)) (w : World) : (binOp .neq 31 (digV a) (digV b)).run Tryd.prog w = .ok (.bool (!deq a b)) w := by
  have := run_neq_struct (P := Tryd.prog) w 31 (tab 32 (dgF a)) (tab 32 (dgF b))
  rw [← digV_agg, ← digV_agg] at this
  rw [digV_sha a, digV_sha b] at this ⊢
  rw [Sha.eq_digest 9998] at this
  exact this
theorem exec_eqlD (r : Operand → Value) (dst : Option Tmp) (x y : Operand) (z : TypeId) (ty : TypeId) (pos : String) (after : Array Edge) (guard : Option (Nat × Bool)) :
    execOp r ⟨dst, .binOp .eql 31 x y z, ty, pos, after, guard⟩ = eqX .eql 31 x y (r x) (r y) := rfl
theorem exec_neqD (r : Operand → Value) (dst : Option Tmp) (x y : Operand) (z : TypeId) (ty : TypeId) (pos : String) (after : Array Edge) (guard : Option (Nat × Bool)) :
    execOp r ⟨dst, .binOp .neq 31 x y z, ty, pos, after, guard⟩ = eqX .neq 31 x y (r x) (r y) := rfl
theorem eqlD (x y : Operand) (a b : List (BitVec 8)) (w : World) : (eqX .eql 31 x y (digV a) (digV b)).run Tryd.prog w = .ok (.value (.bool (deq a b))) w := by
  have hg : (eqGuard .eql 31 x y (digV a) (digV b)).run Tryd.prog w = .ok () w := by rw [digV_agg, digV_agg]; exact run_eqGuard_agg (P := Tryd.prog) w .eql 31 x y _ _ (by kernel_rfl)
  simp only [eqX, Sem.run_bind, hg, eql_run, Result.andThen_ok, Sem.run_pure]
theorem neqD (x y : Operand) (a b : List (BitVec 8)) (w : World) : (eqX .neq 31 x y (digV a) (digV b)).run Tryd.prog w = .ok (.value (.bool (!deq a b))) w := by
  have hg : (eqGuard .neq 31 x y (digV a) (digV b)).run Tryd.prog w = .ok () w := by rw [digV_agg, digV_agg]; exact run_eqGuard_agg (P := Tryd.prog) w .neq 31 x y _ _ (by kernel_rfl)
  simp only [eqX, Sem.run_bind, hg, neq_run, Result.andThen_ok, Sem.run_pure]
end Go.Proofs.YtkfceloaomlhmaaDoor
/- sidecar: the number of stripes, the length of a sidecar, one of its entries. -/
set_option maxRecDepth 100000
namespace Go.Proofs.YtkfceloaomlhmaaDoor
open Go Go.RowKit

attribute [-go_sem] Sha.exec_store
/-- Some of the bytes. -/
def seg12 (l : List (BitVec 8)) (a n : Nat) : List (BitVec 8) := (l.drop a).take n
theorem seg12_len {l : List (BitVec 8)} {a n : Nat} (h : a + n ≤ l.length) : (seg12 l a n).length = n := by unfold seg12; rw [List.length_take, List.length_drop]; omega
theorem seg12_sl {w : World} {c o : Nat} {l : List (BitVec 8)} (h : Sl w (some ⟨c, o, none⟩) l) (a n : Nat) : Sl w (some ⟨c, o + a, none⟩) (seg12 l a n) := fun j hj => by
  have hj' : j < n ∧ a + j < l.length := by unfold seg12 at hj; rw [List.length_take, List.length_drop] at hj; omega
  obtain ⟨c', o', e, hx⟩ := h (a + j) hj'.2
  injection e with e
  injection e with e1 e2
  subst e1 e2
  refine ⟨c, o + a, rfl, ?_⟩
  rw [Nat.add_assoc, hx]
  unfold seg12
  simp [List.getD_eq_getElem?_getD, List.getElem?_drop, hj'.1]
theorem sl_lh12 (c o n cap a b : Nat) (w : World) (h1 : a ≤ b) (h2 : b ≤ cap) (h3 : a < cap) :
    (slT 22 (.slice (some ⟨c, o, none⟩) n cap) (some (.int .i64 (a : Int))) (some (.int .i64 (b : Int))) none).run Tryd.prog w = .ok (.value (.slice (some ⟨c, o + a, none⟩) (b - a) (cap - a))) w := by
  have h := run_sliceAt_slice (P := Tryd.prog) w 22 (.slice (some ⟨c, o, none⟩) n cap) (some (.int .i64 (a : Int))) (some (.int .i64 (b : Int))) none und35
  rw [run_slice_lh (P := Tryd.prog) w 22 (some ⟨c, o, none⟩) n cap und35 .i64 .i64 (a : Int) (b : Int) (by omega) (by omega) (by omega), sizeB] at h
  simp only [slT, Sem.run_bind, h, Result.andThen_ok, Sem.run_pure]
  simp only [sliced, Int.toNat_natCast, Nat.mul_one]
  rw [if_neg (by omega)]
  show Result.ok (Next.value (.slice (some (Addr.add _ a)) _ _)) w = _
  rw [Addr.add_mid]
theorem sl_lhm12 (c o n cap a b : Nat) (w : World) (h1 : a < b) (h2 : b ≤ cap) :
    (slT 22 (.slice (some ⟨c, o, none⟩) n cap) (some (.int .i64 (a : Int))) (some (.int .i64 (b : Int))) (some (.int .i64 (b : Int)))).run Tryd.prog w = .ok (.value (.slice (some ⟨c, o + a, none⟩) (b - a) (b - a))) w := by
  have h := run_sliceAt_slice (P := Tryd.prog) w 22 (.slice (some ⟨c, o, none⟩) n cap) (some (.int .i64 (a : Int))) (some (.int .i64 (b : Int))) (some (.int .i64 (b : Int))) und35
  rw [run_slice_lhm (P := Tryd.prog) w 22 (some ⟨c, o, none⟩) n cap und35 .i64 .i64 .i64 (a : Int) (b : Int) (b : Int) (by omega) (by omega) (by omega) (by omega), sizeB] at h
  simp only [slT, Sem.run_bind, h, Result.andThen_ok, Sem.run_pure]
  simp only [sliced, Int.toNat_natCast, Nat.mul_one]
  rw [if_neg (by omega)]
  show Result.ok (Next.value (.slice (some (Addr.add _ a)) _ _)) w = _
  rw [Addr.add_mid]
/-- A slice seen as an array of 32 bytes. -/
def apT (t : TypeId) (x : Value) : Sem Next := do pure (.value (← Instr.arrayAt t x))
theorem exec_apT (r : Operand → Value) (dst : Option Tmp) (t : TypeId) (x : Operand) (ty : TypeId) (pos : String) (after : Array Edge) (guard : Option (Nat × Bool)) :
    execOp r ⟨dst, .sliceToArrayPointer t x, ty, pos, after, guard⟩ = apT t (r x) := rfl
theorem ap32 (a : Option Addr) (n cap : Nat) (w : World) (h : 32 ≤ n) : (apT 31 (.slice a n cap)).run Tryd.prog w = .ok (.value (.pointer a)) w := by
  unfold apT Instr.arrayAt
  simp [run_underlying und32, show ¬ n < 32 by omega]
theorem resT32 {fn : Func} {p q : Tmp} (h : fn.results = #[.tmp q, .cell p 31]) (tmps : Array Value) (w : World) (b : Nat) (d : List (BitVec 8)) (v : Value) (hp : tmps.getD p undef = .pointer (some ⟨b, 0, none⟩)) (hq : tmps.getD q undef = v)
    (hR : Row w b 31 32 (dgF d)) : (results fn tmps).run Tryd.prog w = .ok (.tuple #[v, digV d]) w := by
  have hl : (loadVar 31 ⟨b, 0, none⟩).run Tryd.prog w = .ok (.agg (tab 32 (dgF d))) w := run_loadVar_row (P := Tryd.prog) w b 31 31 (tab 32 (dgF d)) (0, 0) _ hR und32 rfl (by rw [size32, tab_size])
  have hp' : tmps[p]?.getD undef = .pointer (some ⟨b, 0, none⟩) := by simpa using hp
  have hq' : tmps[q]?.getD undef = v := by simpa using hq
  rw [digV_agg]
  simp [results, h, hp', hq', asAddr, hl]
theorem exec_store12 (r : Operand → Value) (dst : Option Tmp) (p v : Operand) (ty : TypeId) (pos : String) (after : Array Edge) (guard : Option (Nat × Bool)) :
    execOp r ⟨dst, .store 31 p v, ty, pos, after, guard⟩ = stT 31 (r p) (r v) := rfl
set_option maxHeartbeats 1000000 in
theorem stripeCount_any (z : Int) (w : World) (h1 : -9223372036854775808 ≤ z) (h2 : z ≤ 9223372036854775807) : Calls Tryd.prog 15 #[.int .i64 z] w fun e w' => e = .returned (.int .i64 ((nstr z.toNat : Nat) : Int)) ∧ w = w' := by
  go_enter Tryd.func15, Tryd.ntmps15
  by_cases h : z ≤ 0
  · have d : decide (z ≤ 0) = true := decide_eq_true h
    have e0 : z.toNat = 0 := by omega
    go_wp2
    go_ret
    exact ⟨by rw [e0]; rfl, rfl⟩
  · have d : decide (z ≤ 0) = false := decide_eq_false h
    have w1 : IntKind.i64.wrap (z - 1) = z - 1 := by rw [IntKind.wrap_i64]; omega
    obtain ⟨m, hm⟩ : ∃ m : Nat, z - 1 = (m : Int) := Int.eq_ofNat_of_zero_le (by omega)
    have hm2 : (m : Int) < 9223372036854775807 := by omega
    have q1 : (m : Int).tdiv 1024 = ((m / 1024 : Nat) : Int) := by rw [Int.tdiv_eq_ediv_of_nonneg (by omega)]; omega
    have w2 : IntKind.i64.wrap (((m / 1024 : Nat) : Int)) = ((m / 1024 : Nat) : Int) := by rw [IntKind.wrap_i64]; omega
    have w3 : IntKind.i64.wrap (((m / 1024 : Nat) : Int) + 1) = ((m / 1024 : Nat) : Int) + 1 := by rw [IntKind.wrap_i64]; omega
    have hr : ((nstr z.toNat : Nat) : Int) = ((m / 1024 : Nat) : Int) + 1 := by unfold nstr; omega
    rw [hr]
    rw [hm] at w1
    clear hr
    go_wp2
    go_ret
    exact ⟨rfl, rfl⟩
set_option maxHeartbeats 1000000 in
theorem Len_any (z : Int) (w : World) (h1 : -9223372036854775808 ≤ z) (h2 : z ≤ 4294967296) : Calls Tryd.prog 7 #[.int .i64 z] w fun e w' => e = .returned (.int .i64 ((32 + 576 * nstr z.toNat : Nat) : Int)) ∧ w = w' := by
  have HC := Lib.hid (stripeCount_any z w h1 (by omega))
  obtain ⟨k, hk⟩ : ∃ k, nstr z.toNat = k := ⟨_, rfl⟩
  have hk2 : k ≤ 4194305 := by rw [← hk]; unfold nstr; omega
  rw [hk] at HC ⊢
  have w1 : IntKind.i64.wrap ((k : Int) * 2) = (k : Int) * 2 := by rw [IntKind.wrap_i64]; omega
  have w2 : IntKind.i64.wrap ((k : Int) * 2 * 288) = (k : Int) * 2 * 288 := by rw [IntKind.wrap_i64]; omega
  have w3 : IntKind.i64.wrap (32 + (k : Int) * 2 * 288) = 32 + (k : Int) * 2 * 288 := by rw [IntKind.wrap_i64]; omega
  have HR := Lib.hid (show ((32 + 576 * k : Nat) : Int) = 32 + (k : Int) * 2 * 288 by omega)
  clear hk
  go_enter Tryd.func7, Tryd.ntmps7
  go_wp2_with fail
  refine HC.out.mono ?_
  rintro e w' ⟨rfl, rfl⟩
  go_wp2
  go_ret
  exact ⟨by rw [HR.out]; rfl, rfl⟩
attribute [local go_sem ↓] exec_alloc32 exec_store12 exec_slice exec_apT exec_load32
attribute [local go_sem] ap32
set_option maxRecDepth 100000 in
set_option maxHeartbeats 4000000 in
theorem entry_any (l : List (BitVec 8)) (c o n cap i : Nat) (w : World) (hl : l.length = n) (hs : Sl w (some ⟨c, o, none⟩) l) (hc : n ≤ cap) (hi : 288 * i + 320 ≤ n) (hn : n < 1000000) :
    Calls Tryd.prog 18 #[.slice (some ⟨c, o, none⟩) n cap, .int .i64 (i : Int)] w fun e w' => e = .returned (.tuple #[.slice (some ⟨c, o + (288 * i + 32), none⟩) 256 256, digV (seg12 l (288 * i + 288) 32)]) ∧ Below w.heap.size w w' := by
  obtain ⟨F, hF⟩ : ∃ F, 288 * i + 32 = F := ⟨_, rfl⟩
  obtain ⟨T, hT⟩ : ∃ T, 288 * i + 288 = T := ⟨_, rfl⟩
  obtain ⟨A, hA⟩ : ∃ A, 288 * i = A := ⟨_, rfl⟩
  obtain ⟨E, hE⟩ : ∃ E, T + 32 = E := ⟨_, rfl⟩
  rw [hF, hT]
  have w1 : IntKind.i64.wrap ((i : Int) * 288) = (A : Int) := by rw [IntKind.wrap_i64]; omega
  have w2 : IntKind.i64.wrap (32 + (A : Int)) = (F : Int) := by rw [IntKind.wrap_i64]; omega
  have w3 : IntKind.i64.wrap ((F : Int) + 256) = (T : Int) := by rw [IntKind.wrap_i64]; omega
  have w4 : IntKind.i64.wrap ((T : Int) + 32) = (E : Int) := by rw [IntKind.wrap_i64]; omega
  have s1 := fun u => sl_lhm12 c o n cap F T u (by omega) (by omega)
  have s2 := fun u => sl_lh12 c o n cap T E u (by omega) (by omega) (by omega)
  rw [show T - F = 256 by omega] at s1
  rw [show E - T = 32 by omega] at s2
  obtain ⟨d, hd⟩ : ∃ d, seg12 l T 32 = d := ⟨_, rfl⟩
  have hdl : d.length = 32 := by rw [← hd]; exact seg12_len (by omega)
  have hsd : Sl w (some ⟨c, o + T, none⟩) d := by rw [← hd]; exact seg12_sl hs T 32
  have hb := below_newR w (.cells (zb 32) 31)
  have hld := ld_dig (w := (w.alloc (.cells (zb 32) 31)).drew) (hsd.of_below hb.drew) hdl
  have st : (stT 31 (.pointer (some ⟨w.heap.size, 0, none⟩)) (digV d)).run Tryd.prog (w.alloc (.cells (zb 32) 31)).drew = .ok .skip (w.drew.alloc (.cells (tab 32 (dgF d)) 31)) := st_dig w.drew w.heap.size d rfl
  obtain ⟨y, hy⟩ : ∃ y, w.drew.alloc (.cells (tab 32 (dgF d)) 31) = y := ⟨_, rfl⟩
  have HR := Lib.hid (show Row (w.drew.alloc (.cells (tab 32 (dgF d)) 31)) w.heap.size 31 32 (dgF d) from Row.new w.drew _ 32 _)
  have HB := Lib.hid (show Below w.heap.size w (w.drew.alloc (.cells (tab 32 (dgF d)) 31)) from (Below.refl _ _).drew.alloc (Nat.le_refl _) _)
  rw [hd]
  rw [hy] at st HR HB
  clear hd hsd hb hdl hs hF hT hA hE hl hi hc hy
  go_enter Tryd.func18, Tryd.ntmps18
  go_wp2
  refine wp_region_still_tail 13 (by kernel_rfl) (by kernel_rfl) ?_
  simp only [List.take_succ_cons, List.take_zero, List.drop_succ_cons, List.drop_zero, World.drew_eq]
  repeat (refine wpStill_step (fun K hK => ?_); go_simp; (try go_bits); refine hK _ ?_; clear hK K)
  refine wpStill_nil ?_
  go_wp2
  refine bodyPost_ret (resT32 rfl _ y w.heap.size d _ rfl rfl HR.out) rfl ?_
  exact ⟨rfl, HB.out⟩
theorem st_T12 (a : Addr) (x : Bool) (w : World) (hcell : (w.cell? a).isSome = true) (hf : w.frozen? a = false) : (stT 4 (.pointer (some a)) (.bool x)).run Tryd.prog w = .ok .skip (w.setCell a (.bool x)) :=
  stT_one 4 a _ w rfl rfl (by kernel_rfl) hcell hf
theorem mkT12 (n : Nat) (w : World) (hn : n < 100000000) : (mkT 29 (.int .i64 (n : Int)) (.int .i64 (n : Int))).run Tryd.prog w = .ok (.value (.slice (some ⟨w.heap.size, 0, none⟩) n n)) (w.alloc (.cells (tab n (fun _ => .bool false)) 4)) := by
  have hi : (Tryd.prog.info? 4).map (fun i => (i.zero, i.size, i.bytes)) = some (some (.bool false), 1, 1) := by kernel_rfl
  cases hq : Tryd.prog.info? 4 with
  | none => simp [hq] at hi
  | some i =>
    rw [hq] at hi
    simp only [Option.map_some, Option.some.injEq, Prod.mk.injEq] at hi
    obtain ⟨h1, h2, h3⟩ := hi
    have := run_make (P := Tryd.prog) w 29 4 i (.bool false) (by kernel_rfl) hq h1 .i64 .i64 n n (by omega) (Int.le_refl _) (by rw [h3]; omega) (by omega)
    rw [h2] at this
    simp only [Int.toNat_natCast, Nat.mul_one] at this
    simp only [mkT, Sem.run_bind, this, Result.andThen_ok, Sem.run_pure]
    congr 2
    rw [tab_const]
    congr 1
    apply Array.ext_getElem?
    intro j
    by_cases hj : j < n <;> simp [madeCells, Value.cells, hj, Nat.mod_one]
theorem exec_box12 (r : Operand → Value) (dst : Option Tmp) (x : Operand) (ty : TypeId) (pos : String) (after : Array Edge) (guard : Option (Nat × Bool)) :
    execOp r ⟨dst, .box 31 x, ty, pos, after, guard⟩ = bxT 31 (r x) := rfl
theorem bx_dig12 (w : World) (l : List (BitVec 8)) : (bxT 31 (digV l)).run Tryd.prog w = .ok (.value (.pointer (some ⟨w.heap.size, 0, none⟩))) (w.alloc (.cells (tab 32 (dgF l)) 31)) := by
  have hs := size32
  cases hq : Tryd.prog.info? 31 with
  | none => rw [hq] at hs; cases hs
  | some i =>
    rw [hq] at hs
    simp at hs
    unfold digV
    simp [bxT, Instr.box, newVar, newRow, Value.cells]
theorem dgF_sl12 {w : World} {E : Nat} {T : TypeId} {l : List (BitVec 8)} (h : Row w E T 32 (dgF l)) (hl : l.length = 32) : Sl w (some ⟨E, 0, none⟩) l :=
  Sl.row h (by omega) fun j hj => rfl
theorem deq_dec {a b : List (BitVec 8)} (ha : a.length = 32) (hb : b.length = 32) : deq a b = decide (a = b) := by
  rw [Bool.eq_iff_iff, deq_iff ha hb, decide_eq_true_iff]
/-- Does a sidecar have the right length, and the digest of all at its head? -/
def okS (l : List (BitVec 8)) (k : Nat) (wh : List (BitVec 8)) : Bool := decide (l.length = 32 + 576 * k ∧ l.take 32 = wh)
/-- Is an entry's digest that of its block? -/
def entB (l : List (BitVec 8)) (i : Nat) : Bool := decide (digL (seg12 l (288 * i + 32) 256) = seg12 l (288 * i + 288) 32)
def stB (l : List (BitVec 8)) (k : Nat) (wh : List (BitVec 8)) (i : Nat) : Bool := okS l k wh && entB l i
end Go.Proofs.YtkfceloaomlhmaaDoor
/- A range over an iterator that first makes memory of its own, then hands out stripes of it: sidecar.stripes. -/
set_option maxRecDepth 100000
namespace Go.Proofs.YtkfceloaomlhmaaDoor
open Go Go.RowKit Go.Shelf
attribute [-go_sem] Sha.exec_store

theorem Fr12.refl (W : World) (lo : Nat) : Fr12 W W lo W.heap.size := ⟨Nat.le_refl _, fun _ _ _ => rfl⟩
theorem Fr12.trans {W u v : World} {lo hi : Nat} (h : Fr12 W u lo hi) (k : Fr12 u v lo hi) : Fr12 W v lo hi := ⟨k.1, fun g h1 h2 => (k.2 g h1 h2).trans (h.2 g h1 h2)⟩
theorem fr_put {A : World} {lo hi k : Nat} {o : Obj} (hk : k < lo) (hs : hi ≤ A.heap.size) (hlt : k < A.heap.size) : Fr12 A (A.putObj k o) lo hi :=
  ⟨Nat.le_trans hs (below_putP (N := 0) o (Nat.zero_le _) hlt).size, fun g h1 _ => World.putObj_heap_other (by omega)⟩
/-- What the iterator of a sidecar's stripes does with the loop's body. -/
def StripSeq (m bb : Nat) (l : List (BitVec 8)) (w : World) : Prop :=
  ∀ (lp : Nat) (J0 : World → Prop) (J : Nat → Nat → Nat → World → Prop) (A : World), Below w.heap.size w A →
    (∀ B B', J0 B → Below B.heap.size B B' → J0 B') → (∀ lo hi s B k, J lo hi s B → J lo hi s (B.drewN k)) →
    (∀ B, Below A.heap.size A B → J0 B → J A.heap.size B.heap.size 0 B) →
    (∀ lo hi s B q c, s < nstr l.length → J lo hi s B → hi ≤ B.heap.size → (∀ u, Fr12 B u lo hi → Lay u q (strB l s)) → (strB l s).length ≤ c →
      YieldAt Fence.wide (m - 1) Tryd.prog lp #[.int .i64 ((4 * s : Nat) : Int), .slice q (strB l s).length c] B fun e B' => e = .returned (.bool true) ∧ J lo hi (s + 1) B' ∧ Fr12 B B' lo hi) →
    J0 A → CallsIn Fence.wide m Tryd.prog 22 (#[.func (.yield lp) #[] #[]] ++ #[.pointer (some ⟨bb, 0, none⟩)]) A fun e A' => (∃ v, e = .returned v) ∧ ∃ lo hi, J lo hi (nstr l.length) A'
def bodyOutM (lo hi : Nat) (I : Nat → World → Prop) (A : World) (s : Nat) : Exit → Act → World → Prop
  | .normal, _, A' => KeepsOthers A A' ∧ Fr12 A A' lo hi ∧ I (s + 1) A'
  | _, _, _ => False
theorem range_made {l : List (BitVec 8)} {g : Operand} {ps : Array Tmp} {assign body : Code} {Q : Exit → Act → World → Prop} {a : Act} {w : World} {m : Nat} (hm : 1 ≤ m)
    {bb : Nat} (hg : a.eval g = .func (.func 22) #[] #[.pointer (some ⟨bb, 0, none⟩)]) (hps : ps.size = 2) (hseq : StripSeq (m - 1) bb l w)
    (I0 : World → Prop) (I : Nat → Nat → Nat → World → Prop) (hI0 : ∀ B B', I0 B → Below B.heap.size B B' → I0 B') (hst : ∀ A B, w.heap.size + 2 ≤ A.heap.size → Below A.heap.size A B → I0 A → I0 B → I A.heap.size B.heap.size 0 B)
    (hId : ∀ lo hi s A k, I lo hi s A → I lo hi s (A.drewN k)) (hIp : ∀ lo hi s A o, w.heap.size + 2 ≤ lo → w.heap.size + 1 < A.heap.size → I lo hi s A → I lo hi s (A.putObj (w.heap.size + 1) o)) (h0 : I0 w) (a₁ : Nat → Value → Act)
    (hassign : ∀ (L s : Nat) (v : Value) (W : World) (K : Act → World → Prop), K (a₁ s v) W →
      assign.wpIn (Fence.wide.inRound L) (m - 1 - 1) Tryd.prog (Exit.then K (fun _ _ _ => False)) { tmps := (ps.zip #[.int .i64 ((4 * s : Nat) : Int), v]).foldl (fun t (p, v) => t.setIfInBounds p v) a.tmps, defers := [] } W)
    (hbody : ∀ (L lo hi s : Nat) (q : Option Addr) (c : Nat) (A : World), s < nstr l.length → w.heap.size + 2 ≤ lo → hi ≤ A.heap.size → I lo hi s A → (∀ u, Fr12 A u lo hi → Lay u q (strB l s)) → (strB l s).length ≤ c →
      body.wpIn (Fence.wide.inRound L) (m - 1 - 1) Tryd.prog (bodyOutM lo hi (I lo hi) A s) (a₁ s (.slice q (strB l s).length c)) A)
    (hdone : ∀ (D lo hi : Nat) (A : World), D = w.heap.size → I lo hi (nstr l.length) A → A.heap[D]? = some (.deferred (some [])) → Q .normal { a with defers := { target := .collected D, args := #[] } :: a.defers } A) :
    (Code.rangeFunc g ps assign body).wpIn Fence.wide m Tryd.prog Q a w := by
  refine wpIn_rangeFunc fun fn hfn => ?_
  obtain ⟨n, hn⟩ : ∃ n, w.heap.size = n := ⟨_, rfl⟩
  obtain ⟨gf, hgf⟩ : ∃ gf, gf = 22 := ⟨_, rfl⟩
  obtain ⟨lb, hlb⟩ : ∃ lb : Array Value, lb = #[.pointer (some ⟨bb, 0, none⟩)] := ⟨_, rfl⟩
  have eg : ∀ args w, (callFunc gf args).run Tryd.prog w = .ok (.enter gf args) w := by rw [hgf]; exact enters_of Tryd.func22 (by kernel_rfl) rfl
  rw [← hgf, ← hlb] at hg
  obtain ⟨R, hR⟩ : ∃ R : LoopState → Option Code → Loop, R = fun st pe => { state := st, pending := pe, fn, tmps := a.tmps, params := ps, assign, body, defers := n } := ⟨_, rfl⟩
  obtain ⟨W, hW⟩ : ∃ W, (w.alloc (.deferred (some []))).alloc (.loop (R .ready none)) = W := ⟨_, rfl⟩
  have two : ∀ {A : World}, A.heap[n + 1]? = some (.loop (R .busy none)) ∨ A.heap[n + 1]? = some (.loop (R .ready none)) → n + 1 < A.heap.size := fun h => by
    rcases h with h | h <;> exact (Array.getElem?_eq_some_iff.1 h).1
  let At : LoopState → Option Code → World → Prop := fun st pe A => A.heap[n + 1]? = some (.loop (R st pe)) ∧ A.heap[n]? = some (.deferred (some []))
  have at0 : At .ready none W := by
    constructor
    · rw [← hW]
      have := World.alloc_heap_new (w.alloc (.deferred (some []))) (.loop (R .ready none))
      rwa [World.size_alloc, hn] at this
    · rw [← hW]
      have h1 := World.alloc_heap_new w (.deferred (some []))
      rw [hn] at h1
      exact (Below.heap_alloc _ _ _ (by simp; omega)).trans h1
  have hWs : W.heap.size = n + 2 := by rw [← hW, World.size_alloc, World.size_alloc, hn]
  have putAt : ∀ {st st' : LoopState} {pe pe' : Option Code} {A : World}, At st pe A → At st' pe' (A.putObj (n + 1) (.loop (R st' pe'))) := fun h =>
    ⟨World.putObj_heap_same (Array.getElem?_eq_some_iff.1 h.1).1, (World.putObj_heap_other (by omega)).trans h.2⟩
  have growAt : ∀ {st : LoopState} {pe : Option Code} {A A' : World}, At st pe A → Below A.heap.size A A' → At st pe A' := fun h k =>
    ⟨(k.block _ (Array.getElem?_eq_some_iff.1 h.1).1).trans h.1, (k.block _ (Array.getElem?_eq_some_iff.1 h.2).1).trans h.2⟩
  refine ⟨n + 1, [{ target := .collected n, args := #[] }], W, { target := .fn (.func gf) lb, args := #[.func (.yield (n + 1)) #[] #[]] }, W, gf, #[.func (.yield (n + 1)) #[] #[]] ++ lb, W, ?_, ?_, ?_, ?_, fun _ => hm, ?_⟩
  · rw [← hW, hR, ← hn]; exact run_enterLoop_outer _ _ _ _ _
  · simp only [resolve, hg]
    simp [go_sem]
  · intro f' hf'
    simp [Target.leads] at hf'
    subst hf'
    trivial
  · simp [invoke, go_sem, eg]
  · have hbel : Below w.heap.size w W := by rw [← hW]; exact ((Below.refl _ w).alloc (Nat.le_refl _) _).alloc (by simp) _
    rw [hgf, hlb]
    refine (hseq (n + 1) (fun A => I0 A ∧ At .ready none A) (fun lo hi s A => (I lo hi s A ∧ n + 2 ≤ lo) ∧ At .ready none A) W hbel
      (fun B B' h k => ⟨hI0 B B' h.1 k, growAt h.2 k⟩) (fun lo hi s B k h => ⟨⟨hId lo hi s B k h.1.1, h.1.2⟩, h.2⟩)
      (fun B hB h => ⟨⟨hst W B (by rw [hWs, hn]; exact Nat.le_refl _) hB (hI0 w W h0 hbel) h.1, by rw [hWs]; exact Nat.le_refl _⟩, h.2⟩) ?_ ⟨hI0 w W h0 hbel, at0⟩).mono ?_
    · rintro lo hi s A q c hs ⟨⟨hi', hlo⟩, hat⟩ hhi hlay hc
      have hlt := two (.inr hat.1)
      have hy := run_yield (P := Tryd.prog) (args := #[.int .i64 ((4 * s : Nat) : Int), .slice q (strB l s).length c]) hat.1 (by rw [hR]; exact hps.symm)
      rw [hR] at hy
      refine ⟨fn, _, assign, body, hy, roundIn_of_wpIn hfn (hassign _ s (.slice q (strB l s).length c) A _ ⟨_, run_beginRound hat.1 (by rw [hR]), ?_⟩)⟩
      have hbusy : ({ R .ready none with state := .busy } : Loop) = R .busy none := by rw [hR]
      rw [hbusy]
      have hat2 : At .busy none (A.putObj (n + 1) (.loop (R .busy none))) := putAt hat
      have hfr0 : Fr12 A (A.putObj (n + 1) (.loop (R .busy none))) lo hi := fr_put (by omega) hhi hlt
      refine wpIn_mono (hbody _ lo hi s q c _ hs (by rw [hn]; exact hlo) hfr0.1 (by have := hIp lo hi s A (.loop (R .busy none)) (by rw [hn]; exact hlo) (by rw [hn]; exact hlt) hi'; rw [hn] at this; exact this) (fun u hu => hlay u (hfr0.trans hu)) hc) ?_
      have fin : ∀ (A3 : World), KeepsOthers (A.putObj (n + 1) (.loop (R .busy none))) A3 →
          n + 1 < A3.heap.size ∧ (Instr.endRound (n + 1) none).run Tryd.prog A3 = .ok (.bool true) (A3.putObj (n + 1) (.loop (R .ready none))) ∧ At .ready none (A3.putObj (n + 1) (.loop (R .ready none))) := fun A3 hk => by
        have h3 : At .busy none A3 := ⟨hk.same _ _ hat2.1 rfl, hk.same _ _ hat2.2 rfl⟩
        have he := run_endRound (P := Tryd.prog) none h3.1
        have e : ({ R .busy none with state := (if (none : Option Code).isNone then .ready else .done), pending := none } : Loop) = R .ready none := by rw [hR]; rfl
        rw [e] at he
        exact ⟨two (.inl h3.1), he, putAt h3⟩
      rintro e a3 A3 hp
      cases e with
      | normal =>
        obtain ⟨hk, hfr, hi3⟩ := hp
        obtain ⟨hl3, he, h4⟩ := fin A3 hk
        refine ⟨_, _, he, rfl, ⟨⟨?_, hlo⟩, h4⟩, (hfr0.trans hfr).trans (fr_put (by omega) hfr.1 hl3)⟩
        have := hIp lo hi (s + 1) A3 (.loop (R .ready none)) (by rw [hn]; exact hlo) (by rw [hn]; exact hl3) hi3
        rw [hn] at this
        exact this
      | ret => exact hp.elim
      | exit id => exact hp.elim
      | goto t => exact hp.elim
      | panic ch => exact hp.elim
      | outgrown => exact hp.elim
    · rintro e A2 ⟨⟨v, rfl⟩, lo, hi, ⟨hi2, hlo⟩, hat⟩
      have hlt := two (.inr hat.1)
      have he := run_endLoop (P := Tryd.prog) hat.1 (by rw [hR]; simp)
      refine ⟨none, _, by rw [he, hR], ?_⟩
      refine hdone n lo hi _ (by omega) ?_ ((World.putObj_heap_other (by omega)).trans hat.2)
      have := fun o => hIp lo hi _ A2 o (by rw [hn]; exact hlo) (by rw [hn]; exact hlt) hi2
      rw [hn] at this
      exact this _
end Go.Proofs.YtkfceloaomlhmaaDoor
/- sidecar.stripes and its iterator. -/
set_option maxRecDepth 100000
namespace Go.Proofs.YtkfceloaomlhmaaDoor
open Go Go.RowKit Go.Shelf
attribute [-go_sem] Sha.exec_store

theorem sizeR12 (w : World) : (sizeOf (Tryd.prog.elem 42)).run Tryd.prog w = .ok 1 w := by kernel_rfl
theorem sl_rows12 (c o n cap a b : Nat) (w : World) (h1 : a < b) (h2 : b ≤ cap) :
    (Instr.slice 42 (.slice (some ⟨c, o, none⟩) n cap) (some (.int .i64 (a : Int))) (some (.int .i64 (b : Int))) (some (.int .i64 (b : Int)))).run Tryd.prog w = .ok (.slice (some ⟨c, o + a, none⟩) (b - a) (b - a)) w := by
  rw [run_slice_lhm (P := Tryd.prog) w 42 (some ⟨c, o, none⟩) n cap undRows .i64 .i64 .i64 (a : Int) (b : Int) (b : Int) (by omega) (by omega) (by omega) (by omega), sizeR12]
  simp only [Result.andThen_ok, sliced, Int.toNat_natCast, Nat.mul_one]
  rw [if_neg (by omega)]
  show Result.ok (Value.slice (some (Addr.add _ a)) _ _) w = _
  rw [Addr.add_mid]
theorem lay_cut {u : World} {c o : Nat} {l : List (BitVec 8)} (h : Lay u (some ⟨c, o, none⟩) (allB l)) (s : Nat) : Lay u (some ⟨c, o + 4 * s, none⟩) (strB l s) := fun i hi => by
  have h1 := strB_len l s
  obtain ⟨c', o', q, d, e, hc, hs, hq⟩ := h (4 * s + i) (by rw [allB_len]; omega)
  injection e with e
  injection e with e1 e2
  subst e1 e2
  rw [allB_get l _ (by omega)] at hc hs
  rw [strB_get l s i hi]
  exact ⟨c, o + 4 * s, q, d, rfl, by rw [Nat.add_assoc]; exact hc, hs, hq⟩
attribute [local go_sem] mkFnB
theorem stripes_any (q : Option Addr) (n cap : Nat) (u : World) : Calls Tryd.prog 13 #[.slice q n cap] u fun e w' => e = .returned (.func (.func 22) #[] #[.pointer (some ⟨u.heap.size, 0, none⟩)]) ∧ w' = u.alloc (.cells #[.slice q n cap] 22) := by
  go_enter Tryd.func13, Tryd.ntmps13
  go_wp2
  go_ret
  exact ⟨rfl, rfl⟩
attribute [local go_sem] Oper.semAt_some
set_option maxRecDepth 100000 in
set_option maxHeartbeats 4000000 in
theorem stripes_seq (m : Nat) (hm : 3 ≤ m) (bb : Nat) (l : List (BitVec 8)) (q : Option Addr) (n cap : Nat) (w : World) (hb : w.cell? ⟨bb, 0, none⟩ = some (.slice q n cap)) (hl : l.length = n) (hs : Sl w q l) (hq : q = none → cap = 0) (hn : n < 1000000) (hc : n ≤ cap) :
    StripSeq m bb l w := by
  intro lp J0 J A hA hst hJd hstart hY h0
  have hm1 : 1 ≤ m := by omega
  have hbw := World.block_lt_of_cell? w _ hb
  have hbA : A.cell? ⟨bb, 0, none⟩ = some (.slice q n cap) := by rw [hA.cell (by exact hbw)]; exact hb
  have HC := Lib.hid (cut_any10 l q n cap A hl (hs.of_below hA) hq hc hn)
  obtain ⟨lo, hlo⟩ : ∃ lo, A.heap.size = lo := ⟨_, rfl⟩
  have HLO := Lib.hid hlo
  have HST := Lib.hid (fun B hB => hstart B hB (hst A B h0 hB))
  have HLN := Lib.hid hl
  have HY := Lib.hid hY
  obtain ⟨nb, hnb⟩ : ∃ k, nblk n = k := ⟨_, rfl⟩
  have HNB := Lib.hid hnb
  have hnb2 : nb ≤ 10000 := by rw [← hnb]; unfold nblk; omega
  refine callsIn_of_wp Tryd.func22 rfl trivial ?_ rfl
  simp only [Tryd.ntmps22, List.size_toArray, List.length_cons, List.length_nil, Nat.reduceAdd, Nat.reduceSub, Array.replicate_succ, Array.replicate_zero, List.push_toArray, List.append_toArray, List.nil_append, List.cons_append]
  have hl4 : ((List.range (nblk n)).map (blkL l)) = allB l := by unfold allB; rw [HLN.out]
  have hab : (allB l).length = nb := by rw [allB_len, HLN.out, HNB.out]
  have HL4 := Lib.hid hl4
  have HAB := Lib.hid hab
  clear hb hs hl hst hJd hstart hY h0 hlo hnb hq hbw hA hl4 hab
  gi_wp2_with (refine ⟨trivial, ?_⟩; gi_at_call 23; refine (callsIn_wide.2 HC.out).mono ?_; rintro e w1 ⟨v, rfl, hH, hB⟩; rw [HL4.out] at hH; obtain ⟨pl, cl, rfl, hpl, hcl, -⟩ := hH.lay; rw [HAB.out] at hH hcl ⊢)
  rw [HLO.out] at hH hB
  obtain ⟨hi, hhi⟩ : ∃ h, w1.heap.size = h := ⟨_, rfl⟩
  have HHI := Lib.hid hhi
  have hlohi : lo ≤ hi := by rw [← hhi, ← HLO.out]; exact hB.size
  have HJ := Lib.hid (show J lo hi 0 w1 from by rw [← HLO.out, ← hhi]; exact HST.out w1 (by rw [HLO.out]; exact hB))
  have HH := Lib.hid hH
  have HLH := Lib.hid hlohi
  clear hH hB hhi hlohi hpl HST
  gi_loopw [4] (fun f wr => ∃ s ff : Nat, ff = 4 * s ∧ f = .int .i64 (ff : Int) ∧ s ≤ nstr n ∧ J lo hi s wr ∧ Fr12 w1 wr lo hi) (fun f wr => nb + 4 - (intOf f).toNat)
  case atStart => exact ⟨0, 0, rfl, rfl, Nat.zero_le _, HJ.out, ⟨Nat.le_of_eq HHI.out.symm, fun _ _ _ => rfl⟩⟩
  case round =>
    obtain ⟨s, ff, hff, rfl, hsn, hJ, hFr⟩ := hrel
    have HFF := Lib.hid hff
    have HJs := Lib.hid hJ
    have HFR := Lib.hid hFr
    have HSN := Lib.hid hsn
    clear hff hJ hFr hsn HJ
    by_cases hlt : ff < nb
    · have z1 : (ff : Int) < (nb : Int) := by omega
      have z2 : decide ((ff : Int) < (nb : Int)) = true := decide_eq_true z1
      have hsl : s < nstr n := (nstr_blk n s).2 (by rw [HNB.out, ← HFF.out]; exact hlt)
      obtain ⟨E, hE⟩ : ∃ e, min (ff + 4) nb = e := ⟨_, rfl⟩
      have w1' : IntKind.i64.wrap ((ff : Int) + 4) = (ff : Int) + 4 := by rw [IntKind.wrap_i64]; omega
      have hmin : min ((ff : Int) + 4) (nb : Int) = (E : Int) := by omega
      have hsk : E - ff = (strB l s).length := by rw [strB_len, HLN.out, HNB.out, ← HFF.out]; omega
      obtain ⟨cp, op, e0⟩ : ∃ c o, pl = some ⟨c, o, none⟩ := by
        have hH1 := HH.out
        obtain ⟨pl', cl', e1, -, -, h3⟩ := hH1.lay
        rw [allB_len, HLN.out, HNB.out] at e1
        injection e1 with e1
        obtain ⟨c, o, q', d, e, -⟩ := h3 0 (by rw [allB_len, HLN.out, HNB.out]; omega)
        exact ⟨c, o, e1.trans e⟩
      subst e0
      have hcut := fun u => sl_rows12 cp op nb cl ff E u (by omega) (by omega)
      rw [hsk] at hcut
      have hlay : ∀ u, Fr12 wr u lo hi → Lay u (some ⟨cp, op + ff, none⟩) (strB l s) := fun u hu => by
        have h2 := HFR.out.trans hu
        have hk := HH.out.keep (by rw [HHI.out]; exact h2.1) (fun c h3 h4 => h2.2 c h3 (by rw [← HHI.out]; exact h4))
        obtain ⟨pl', cl', e1, -, -, h3⟩ := hk.lay
        rw [allB_len, HLN.out, HNB.out] at e1
        injection e1 with e1
        rw [← e1] at h3
        rw [HFF.out]
        exact lay_cut h3 s
      obtain ⟨fn, tmps, assign, body, hy, hR⟩ := HY.out lo hi s wr (some ⟨cp, op + ff, none⟩) (strB l s).length (by rw [HLN.out]; exact hsl) HJs.out HFR.out.1 hlay (Nat.le_refl _)
      obtain ⟨sk, hskk⟩ : ∃ x, (strB l s).length = x := ⟨_, rfl⟩
      rw [← HFF.out, hskk] at hy
      rw [hskk] at hcut
      try dsimp only at hy
      have HNX := Lib.hid (And.intro hsl (show ff + 4 = 4 * (s + 1) from by have := HFF.out; omega))
      clear hlay hsk hsl hskk hE
      gi_wp2
      refine hR.mono ?_
      rintro e W3 ⟨rfl, hJ3, hF3⟩
      have HJ3 := Lib.hid hJ3
      have HF3 := Lib.hid (HFR.out.trans hF3)
      clear hJ3 hF3
      gi_wp2
      go_roundw
      case rel => exact ⟨s + 1, ff + 4, HNX.out.2, by go_num, HNX.out.1, HJ3.out, HF3.out⟩
      case measure => simp [intOf]; omega
    · have z1 : ¬ (ff : Int) < (nb : Int) := by omega
      have z2 : decide ((ff : Int) < (nb : Int)) = false := decide_eq_false z1
      have hse : s = nstr l.length := by
        have h1 := HFF.out
        have h2 := nstr_blk n s
        rw [HNB.out] at h2
        have h4 := HSN.out
        rw [HLN.out]
        rcases Nat.lt_or_ge s (nstr n) with h3 | h3
        · have := h2.1 h3; omega
        · omega
      have HSE := Lib.hid hse
      clear hse
      gi_wp2
      go_end0
      exact ⟨⟨_, rfl⟩, lo, hi, by rw [← HSE.out]; exact HJs.out⟩
end Go.Proofs.YtkfceloaomlhmaaDoor
/- The program's Apply. -/
set_option maxRecDepth 100000
namespace Go.Proofs.YtkfceloaomlhmaaDoor
open Go Go.RowKit
attribute [-go_sem] Sha.exec_store

section
variable (b : Nat) (la lb : List (List (BitVec 8))) (p q : Option Addr) (n k m k' cap cap' : Nat) (w : World)
set_option maxHeartbeats 2000000 in
/-- Rows of any common length, as many as the matrix has columns. -/
theorem apply_ok (hF : Fld w b) (ha : Prt w p la) (hb : Prt w q lb) (ga : Good la n k) (hlb : lb.length = k) (hrb : ∀ i, i < k → (lb.getD i []).length = m) (hm : m < 4294967296) :
    Calls Tryd.prog 38 #[.pointer (some ⟨b, 0, none⟩), .slice p n cap, .slice q k cap'] w (RetOk w.heap.size w n m (mm k (mx la) (mx lb))) := by
  have g1 := ga.lo
  have g2 := ga.hi
  have g3 := ga.mlo
  have g4 := ga.mhi
  have HF := Lib.hid hF
  have HA := Lib.hid ha
  have HB := Lib.hid hb
  have GA := Lib.hid ga
  have HLB := Lib.hid hlb
  have HRB := Lib.hid hrb
  obtain ⟨c, o, q0, cap0, rfl, hc0, hc⟩ := ha.head (by rw [ga.len]; omega)
  rw [ga.head] at hc
  have ta := ga.true_
  have te : eqB lb = true := decide_eq_true fun i hi => by rw [hrb i (by omega), hrb 0 (by omega)]
  have hn0 : (0 : Int) < (n : Int) := by omega
  clear hF ha hb ga hlb hrb
  go_enter Tryd.func38, Tryd.ntmps38
  go_wp2_with fail
  refine (good_any la _ n cap w HA.out GA.out.len (by omega)).mono ?_
  rintro e w1 ⟨rfl, hB1⟩
  have hx : w1.cell? ⟨c, o, none⟩ = some (.slice q0 k cap0) := by rw [hB1.cell (by exact hc0)]; exact hc
  have HB1 := Lib.hid hB1
  have hk : ((k : Int) != (k : Int)) = false := by simp
  clear hB1
  go_wp2_with fail
  refine (eq_long_any lb q k cap' w1 (HB.out.of_below HB1.out) HLB.out (by omega)).mono ?_
  rintro e w2 ⟨rfl, hB2⟩
  have HB2 := Lib.hid (HB1.out.trans (hB2.mono HB1.out.size))
  clear hB2 HB1
  go_wp2_with fail
  refine (product_any b la lb _ q n k m cap cap' w2 (HF.out.of_below HB2.out) (HA.out.of_below HB2.out) (HB.out.of_below HB2.out) GA.out.len HLB.out GA.out.rows HRB.out (by omega) (by omega) (by omega) hm).mono ?_
  rintro e w3 ⟨G, D, rfl, hM, hB3⟩
  have hN := HB2.out.size
  have HM := Lib.hid hM
  have HB3 := Lib.hid (HB2.out.trans (hB3.mono HB2.out.size))
  clear hM hB3
  go_wp2
  go_ret2
  exact ⟨G, D, rfl, ⟨HM.out.hds, HM.out.row, HM.out.inj, HM.out.ne, fun i hi => Nat.le_trans hN (HM.out.lo i hi), Nat.le_trans hN HM.out.loG⟩, HB3.out⟩
set_option maxHeartbeats 2000000 in
theorem apply_len (f : Value) (ha : Prt w p la) (ga : Good la n k') (hk : k < 9223372036854775808) (hne : k' ≠ k) :
    Calls Tryd.prog 38 #[f, .slice p n cap, .slice q k cap'] w (RetNo w.heap.size w 2) := by
  have g1 := ga.lo
  have g2 := ga.hi
  have g3 := ga.mlo
  have g4 := ga.mhi
  have HA := Lib.hid ha
  have GA := Lib.hid ga
  obtain ⟨c, o, q0, cap0, rfl, hc0, hc⟩ := ha.head (by rw [ga.len]; omega)
  rw [ga.head] at hc
  have ta := ga.true_
  have hn0 : (0 : Int) < (n : Int) := by omega
  have hd1 : ((k' : Int) != (k : Int)) = true := by simp; omega
  have hd2 : ((k' : Int) == (k : Int)) = false := by simp; omega
  have hd3 : decide (k' = k) = false := by simp; omega
  clear ha ga hne
  go_enter Tryd.func38, Tryd.ntmps38
  go_wp2_with fail
  refine (good_any la _ n cap w HA.out GA.out.len (by omega)).mono ?_
  rintro e w1 ⟨rfl, hB1⟩
  have hx : w1.cell? ⟨c, o, none⟩ = some (.slice q0 k' cap0) := by rw [hB1.cell (by exact hc0)]; exact hc
  have HB1 := Lib.hid hB1
  clear hB1
  go_wp2
  go_ret2
  exact ⟨rfl, HB1.out⟩
set_option maxHeartbeats 2000000 in
theorem apply_odd (f : Value) (ha : Prt w p la) (hb : Prt w q lb) (ga : Good la n k) (hlb : lb.length = k) (te : eqB lb = false) :
    Calls Tryd.prog 38 #[f, .slice p n cap, .slice q k cap'] w (RetNo w.heap.size w 2) := by
  have g1 := ga.lo
  have g2 := ga.hi
  have g3 := ga.mlo
  have g4 := ga.mhi
  have HA := Lib.hid ha
  have HB := Lib.hid hb
  have GA := Lib.hid ga
  have HLB := Lib.hid hlb
  obtain ⟨c, o, q0, cap0, rfl, hc0, hc⟩ := ha.head (by rw [ga.len]; omega)
  rw [ga.head] at hc
  have ta := ga.true_
  have hn0 : (0 : Int) < (n : Int) := by omega
  clear ha hb ga hlb
  go_enter Tryd.func38, Tryd.ntmps38
  go_wp2_with fail
  refine (good_any la _ n cap w HA.out GA.out.len (by omega)).mono ?_
  rintro e w1 ⟨rfl, hB1⟩
  have hx : w1.cell? ⟨c, o, none⟩ = some (.slice q0 k cap0) := by rw [hB1.cell (by exact hc0)]; exact hc
  have HB1 := Lib.hid hB1
  have hk : ((k : Int) != (k : Int)) = false := by simp
  clear hB1
  go_wp2_with fail
  refine (eq_long_any lb q k cap' w1 (HB.out.of_below HB1.out) HLB.out (by omega)).mono ?_
  rintro e w2 ⟨rfl, hB2⟩
  have HB2 := Lib.hid (HB1.out.trans (hB2.mono HB1.out.size))
  clear hB2 HB1
  go_wp2
  go_ret2
  exact ⟨rfl, HB2.out⟩
end
end Go.Proofs.YtkfceloaomlhmaaDoor
/- Inverses: of what is not stuck; of inverses; of products. -/
set_option maxRecDepth 100000
namespace Go.Proofs.YtkfceloaomlhmaaDoor
open Go Go.RowKit
attribute [-go_sem] Sha.exec_store

theorem IsInv.symm {n : Nat} {a v : Mx} (h : IsInv n a v) : IsInv n v a := ⟨h.2, h.1⟩
theorem prod_inv {n : Nat} {a b u v : Mx} (ha : IsInv n a u) (hb : IsInv n b v) (i k : Nat) (hi : i < n) (hk : k < n) : mm n (mm n v u) (mm n a b) i k = id1 i k := by
  rw [mm_assoc]
  rw [mm_congr (a' := v) (b' := b) (fun _ _ => rfl) (fun j hj => ?_)]
  · exact hb.1 i k hi hk
  · rw [← mm_assoc, mm_congr (a' := id1) (b' := b) (fun l hl => ha.1 j l hj hl) (fun _ _ => rfl), mm_id_l n b j k hj]
theorem mx_rows (n m : Nat) (a : Mx) (k : Nat) (b : Mx) (i j : Nat) (hi : i < n) (hk : k ≤ m) : mm k (mx (rowsL n m a)) b i j = mm k a b i j := mm_congr (fun l hl => rowsL_mx n m a i l hi (by omega)) (fun _ _ => rfl)
theorem back_is {la : List (List (BitVec 8))} {n : Nat} (ga : Good la n n) {v u : Mx} (hv : IsInv n (mx la) v) (hu : IsInv n (mx (rowsL n n v)) u) : rowsL n n u = la := by
  refine rows_ext (by rw [rowsL_length, ga.len]) fun i hi => ?_
  rw [rowsL_length] at hi
  rw [rowsL_get _ _ _ _ hi]
  have hl := ga.rows i hi
  refine List.ext_getElem (by rw [rowL_length, hl]) fun j h1 h2 => ?_
  rw [rowL_length] at h1
  have e1 : u i j = mx la i j := hu.uniq (v := mx la) (fun i k hi hk => by rw [mx_rows n n v n (mx la) i k hi (Nat.le_refl _)]; exact hv.1 i k hi hk) i j hi h1
  have e2 : (rowL n u i)[j] = u i j := by simp [rowL]
  rw [e2, e1]
  show (la.getD i []).getD j 0#8 = _
  generalize la.getD i [] = r at *
  simp [List.getD_eq_getElem?_getD, h2]
theorem back_not {n : Nat} {a v : Mx} (hv : IsInv n a v) : ¬ NoInv n (mx (rowsL n n v)) := fun h => h.not (u := a) fun i k hi hk => by
  rw [← hv.2 i k hi hk]; exact mm_congr (fun _ _ => rfl) fun l hl => rowsL_mx n n v l k hl hk
theorem prod_not {n : Nat} {a b u v : Mx} (ha : IsInv n a u) (hb : IsInv n b v) : ¬ NoInv n (mx (rowsL n n (mm n a b))) := fun h => h.not (u := mm n v u) fun i k hi hk => by
  rw [← prod_inv ha hb i k hi hk]; exact mm_congr (fun _ _ => rfl) fun l hl => rowsL_mx n n (mm n a b) l k hl hk
theorem prod_is {n : Nat} {a b u v q : Mx} (ha : IsInv n a u) (hb : IsInv n b v) (hq : IsInv n (mx (rowsL n n (mm n a b))) q) : rowsL n n q = rowsL n n (mm n (mx (rowsL n n v)) (mx (rowsL n n u))) := rowsL_congr fun i j hi hj => by
  rw [mx_rows n n v n _ i j hi (Nat.le_refl _), mm_congr (a' := v) (b' := u) (fun _ _ => rfl) (fun l hl => rowsL_mx n n u l j hl hj)]
  refine hq.uniq (v := mm n v u) (fun i k hi hk => ?_) i j hi hj
  rw [mx_rows n n (mm n a b) n _ i k hi (Nat.le_refl _)]
  exact prod_inv hb.symm ha.symm i k hi hk
end Go.Proofs.YtkfceloaomlhmaaDoor
/- The program's codes in memory; New, Data, Parity, count, Encode. -/
set_option maxRecDepth 100000
namespace Go.Proofs.YtkfceloaomlhmaaDoor
open Go Go.RowKit
attribute [-go_sem] Sha.exec_store

/-- Block b is a code of k and m: its field and its Cauchy matrix. -/
structure Cd (w : World) (b k m : Nat) : Prop where
  k1 : 1 ≤ k
  m1 : 1 ≤ m
  hi : k + m ≤ 32
  mem : ∃ f G D, w.cell? ⟨b, 0, none⟩ = some (.pointer (some ⟨f, 0, none⟩)) ∧ w.cell? ⟨b, 1, none⟩ = some (.slice (some ⟨G, 0, none⟩) m m) ∧ Fld w f ∧ Mp w 0 G m m k D (cau k)
theorem Cd.keep {w w' : World} {b k m : Nat} (h : Cd w b k m) (g : Below w.heap.size w w') : Cd w' b k m := by
  obtain ⟨h1, h2, h3, f, G, D, c1, c2, hF, hM⟩ := h
  exact ⟨h1, h2, h3, f, G, D, by rw [g.cell (World.block_lt_of_cell? w _ c1)]; exact c1, by rw [g.cell (World.block_lt_of_cell? w _ c2)]; exact c2, hF.of_below g, hM.of_below g⟩
theorem Cd.dr {w w' : World} {b k m : Nat} (h : Cd w b k m) (g : Dr w w') : Cd w' b k m := h.keep (g.below _)
theorem Mp.low {w : World} {N N' G n k m : Nat} {D : Nat → Nat} {a : Mx} (h : Mp w N G n k m D a) (g : N' ≤ N) : Mp w N' G n k m D a :=
  ⟨h.hds, h.row, h.inj, h.ne, fun i hi => Nat.le_trans g (h.lo i hi), Nat.le_trans g h.loG⟩
theorem new_no (x y : Int) (w : World) (b1 : -9223372036854775808 ≤ x) (b2 : x ≤ 9223372036854775807) (b3 : -9223372036854775808 ≤ y) (b4 : y ≤ 9223372036854775807) (hno : ¬ (1 ≤ x ∧ 1 ≤ y ∧ x + y ≤ 32)) :
    Calls Tryd.prog 24 #[.int .i64 x, .int .i64 y] w fun e w' => e = .returned (.tuple #[.pointer none, .int .i64 1]) ∧ Below w.heap.size w w' := by
  by_cases t0 : x < 1
  · have e0 : decide (x < 1) = true := decide_eq_true t0
    clear hno t0
    go_enter Tryd.func24, Tryd.ntmps24
    go_wp2
    go_ret2
    exact ⟨rfl, Below.refl _ _⟩
  have e0 : decide (x < 1) = false := decide_eq_false t0
  by_cases t1 : y < 1
  · have e1 : decide (y < 1) = true := decide_eq_true t1
    clear hno t0 t1
    go_enter Tryd.func24, Tryd.ntmps24
    go_wp2
    go_ret2
    exact ⟨rfl, Below.refl _ _⟩
  have e1 : decide (y < 1) = false := decide_eq_false t1
  have hw : IntKind.i64.wrap (32 - y) = 32 - y := IntWalk.i64_in _ (by omega)
  have e2 : decide (32 - y < x) = true := decide_eq_true (by omega)
  clear hno t0 t1
  go_enter Tryd.func24, Tryd.ntmps24
  go_wp2
  go_ret2
  exact ⟨rfl, Below.refl _ _⟩
set_option maxHeartbeats 2000000 in
theorem new_ok (k m : Nat) (w : World) (hk : 1 ≤ k) (hm : 1 ≤ m) (hkm : k + m ≤ 32) :
    Calls Tryd.prog 24 #[.int .i64 (k : Int), .int .i64 (m : Int)] w fun e w' => ∃ b, e = .returned (.tuple #[.pointer (some ⟨b, 0, none⟩), .int .i64 0]) ∧ Cd w' b k m ∧ Below w.heap.size w w' := by
  have e0 : decide ((k : Int) < 1) = false := decide_eq_false (by omega)
  have e1 : decide ((m : Int) < 1) = false := decide_eq_false (by omega)
  have hw : IntKind.i64.wrap (32 - (m : Int)) = 32 - (m : Int) := IntWalk.i64_in _ (by omega)
  have e2 : decide (32 - (m : Int) < (k : Int)) = false := decide_eq_false (by omega)
  have HK := Lib.hid hkm
  go_enter Tryd.func24, Tryd.ntmps24
  go_wp2_with fail
  refine (cauchy_ok k m w hk (by omega) hm (by omega)).mono ?_
  rintro e w1 ⟨G, D, rfl, hM1, hB1⟩
  have HM1 := Lib.hid (hM1.low (Nat.zero_le _))
  have HB1 := Lib.hid hB1
  clear hM1 hB1
  go_wp2_with fail
  refine (new_any w1).mono ?_
  rintro e w2 ⟨rfl, hF2, hB2⟩
  have HF2 := Lib.hid hF2
  have HM2 := Lib.hid (HM1.out.of_below hB2)
  have HB2 := Lib.hid (bel_step HB1.out hB2)
  clear hF2 hB2
  go_wp2
  go_ret2
  have hb : Below w2.heap.size w2 (w2.alloc (.cells #[.pointer (some ⟨w1.heap.size, 0, none⟩), .slice (some ⟨G, 0, none⟩) m m] 76)) := (Below.refl _ _).alloc (Nat.le_refl _) _
  exact ⟨w2.heap.size, rfl, ⟨hk, hm, HK.out, w1.heap.size, G, D, World.cell?_alloc_new _ _ _ _, World.cell?_alloc_new _ _ _ _, HF2.out.of_below hb, HM2.out.of_below hb⟩, bel_step HB2.out hb⟩
theorem cau_good {k m : Nat} (h1 : 1 ≤ k) (h2 : 1 ≤ m) (h3 : k + m ≤ 32) : Good (rowsL m k (cau k)) m k := Good.mats _ h2 (by omega) h1 (by omega)
section
variable (b k m : Nat) (ls : List (List (BitVec 8))) (p : Option Addr) (n cap : Nat) (w : World)
set_option maxHeartbeats 2000000 in
/-- The parity of data that fits. -/
theorem encode_ok (L : Nat) (hC : Cd w b k m) (hs : Prt w p ls) (hl : ls.length = k) (hrow : ∀ i, i < k → (ls.getD i []).length = L) (hL : L < 100000) :
    Calls Tryd.prog 25 #[.pointer (some ⟨b, 0, none⟩), .slice p k cap] w (RetOk w.heap.size w m L (mm k (cau k) (mx ls))) := by
  obtain ⟨h1, h2, h3, f, G, D, c1, c2, hF, hM⟩ := hC
  have HF := Lib.hid hF
  have HM := Lib.hid hM
  have HS := Lib.hid hs
  have HL := Lib.hid hl
  have HR := Lib.hid hrow
  clear hF hM hs hl hrow
  go_enter Tryd.func25, Tryd.ntmps25
  go_wp2_with fail
  go_region_held3 (fun w' : World => w'.cell? ⟨b, 0, none⟩ = some (.pointer (some ⟨f, 0, none⟩)) ∧ w'.cell? ⟨b, 1, none⟩ = some (.slice (some ⟨G, 0, none⟩) m m)) (first | exact ⟨c1, c2⟩ | exact ⟨x1, x2⟩) ((go_at_call 38; refine (apply_ok f _ ls _ p m k L m cap _ (HF.out.dr (Dr.refl _).drew) (HM.out.drewN 1).prt (HS.out.dr (Dr.refl _).drew) (cau_good h1 h2 h3) HL.out HR.out (by omega)).mono ?_; rintro e w2 ⟨G2, D2, rfl, hM2, hB2⟩; have hb2 : Below w.heap.size w w2 := (Below.refl _ _).drew.trans (by exact hB2); have x1 : w2.cell? ⟨b, 0, none⟩ = some (.pointer (some ⟨f, 0, none⟩)) := (by rw [hb2.cell (World.block_lt_of_cell? w _ c1)]; exact c1); have x2 : w2.cell? ⟨b, 1, none⟩ = some (.slice (some ⟨G, 0, none⟩) m m) := (by rw [hb2.cell (World.block_lt_of_cell? w _ c2)]; exact c2); have HM2 := Lib.hid hM2; have HB2 := Lib.hid hb2; clear hM2 hB2 hb2))
  go_wp2
  go_ret2
  exact ⟨G2, D2, rfl, HM2.out.congr (fun i j hi hj => mx_rows m k (cau k) k _ i j hi (Nat.le_refl _)), HB2.out⟩
set_option maxHeartbeats 2000000 in
theorem encode_no (hC : Cd w b k m) (hA : ∀ f G D w1, Fld w1 f → Mp w1 0 G m m k D (cau k) → Dr w w1 → Calls Tryd.prog 38 #[.pointer (some ⟨f, 0, none⟩), .slice (some ⟨G, 0, none⟩) m m, .slice p n cap] w1 (RetNo w1.heap.size w1 2)) :
    Calls Tryd.prog 25 #[.pointer (some ⟨b, 0, none⟩), .slice p n cap] w (RetNo w.heap.size w 2) := by
  obtain ⟨h1, h2, h3, f, G, D, c1, c2, hF, hM⟩ := hC
  have HA := Lib.hid (hA f G D w.drew (hF.dr (Dr.refl _).drew) (hM.drewN 1) (Dr.refl _).drew)
  clear hF hM hA
  go_enter Tryd.func25, Tryd.ntmps25
  go_wp2_with fail
  go_region_held3 (fun w' : World => w'.cell? ⟨b, 0, none⟩ = some (.pointer (some ⟨f, 0, none⟩)) ∧ w'.cell? ⟨b, 1, none⟩ = some (.slice (some ⟨G, 0, none⟩) m m)) (first | exact ⟨c1, c2⟩ | exact ⟨x1, x2⟩) ((go_at_call 38; refine HA.out.mono ?_; rintro e w2 ⟨rfl, hB2⟩; have hb2 : Below w.heap.size w w2 := (Below.refl _ _).drew.trans (by exact hB2); have x1 : w2.cell? ⟨b, 0, none⟩ = some (.pointer (some ⟨f, 0, none⟩)) := (by rw [hb2.cell (World.block_lt_of_cell? w _ c1)]; exact c1); have x2 : w2.cell? ⟨b, 1, none⟩ = some (.slice (some ⟨G, 0, none⟩) m m) := (by rw [hb2.cell (World.block_lt_of_cell? w _ c2)]; exact c2); have HB2 := Lib.hid hb2; clear hB2 hb2))
  go_wp2
  go_ret2
  exact ⟨rfl, HB2.out⟩
/-- What Encode returns. -/
theorem enc_any (hC : Cd w b k m) (hs : Prt w p ls) (hl : ls.length = n) (hn : n < 1000) (hlen : ∀ i, i < n → (ls.getD i []).length < 100000) :
    Calls Tryd.prog 25 #[.pointer (some ⟨b, 0, none⟩), .slice p n cap] w (RetR w (EncR k m ls)) := by
  have h1 := hC.k1
  have h2 := hC.m1
  have h3 := hC.hi
  have bad : evB ls k = false → ∀ e w', RetNo w.heap.size w 2 e w' → RetR w (EncR k m ls) e w' := fun he e w' ⟨h, hB⟩ => ⟨_, _, h, .inl ⟨he, rfl, rfl⟩, hB⟩
  by_cases hk : n = k
  · subst hk
    cases he : eqB ls with
    | true =>
      have hq := of_decide_eq_true he
      have hrow : ∀ i, i < n → (ls.getD i []).length = (ls.getD 0 []).length := fun i hi => hq i (by omega)
      refine (encode_ok b n m ls p cap w _ hC hs hl hrow (hlen 0 (by omega))).mono ?_
      rintro e w' ⟨G, D, rfl, hM, hB⟩
      refine ⟨_, _, rfl, .inr ⟨decide_eq_true ⟨hl, hq⟩, rfl, some ⟨G, 0, none⟩, m, rfl, ?_⟩, hB⟩
      exact hM.prt
    | false =>
      refine (encode_no b n m p n cap w hC fun f G D w1 hF hM hD => apply_odd (rowsL m n (cau n)) ls _ p m n m cap w1 (.pointer (some ⟨f, 0, none⟩)) hM.prt (hs.dr hD) (cau_good h1 h2 h3) hl he).mono (bad ?_)
      exact decide_eq_false fun g => by
        have := of_decide_eq_false he
        exact this g.2
  · refine (encode_no b k m p n cap w hC fun f G D w1 hF hM hD => apply_len (rowsL m k (cau k)) _ p m n k m cap w1 (.pointer (some ⟨f, 0, none⟩)) hM.prt (cau_good h1 h2 h3) (by omega) (Ne.symm hk)).mono (bad ?_)
    exact decide_eq_false fun g => hk (by omega)
end
end Go.Proofs.YtkfceloaomlhmaaDoor
