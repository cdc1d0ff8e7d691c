/- Merged texts: AnyK, Code4, RngP, Blk10, AppL6, Zer12, Sid12, CloneP, Hds10, Cut10, Cuts10. -/
import Derived.Test.YtkfceloaomlhmaaDoorK1
import Derived.RangeFuncNested
import Derived.RangeFuncBound
import Derived.RangeFuncCalls
import Derived.RangeFuncLeaves
import Derived.Shelf.Abstract
import Derived.Shelf.RegionOpen
import Derived.WalkKit
import Derived.OwnWalkIn
import Derived.TacticsInMore
import Derived.LoopNIn
import Derived.LoopIn
import Derived.Test.YtkfceloaomlhmaaDoorBytes
import Derived.Lib.Hide
import Derived.Lib.MinMax
import Derived.Test.YtkfceloaomlhmaaDoorCuts
import Derived.OwnWalk
import Derived.RegionTactic
import Derived.Maps.AppendAt
import Derived.Lib.AppendStr
import Derived.Test.YtkfceloaomlhmaaDoorSha10
import Derived.Test.YtkfceloaomlhmaaDoorRef6
import Derived.Test.YtkfceloaomlhmaaDoorOwnK8
set_option linter.unusedSimpArgs false
set_option linter.unusedVariables false
/- Any k rows of the unit above a Cauchy matrix have an inverse; nothing of the program. -/
set_option maxRecDepth 100000
namespace Go.Proofs.YtkfceloaomlhmaaDoor

/-- The unit above the Cauchy matrix: row i of all shards. -/
def ext (k : Nat) : Mx := fun i j => if i < k then id1 i j else cau k (i - k) j
/-- Numbers of l that p holds of, in order; their number. -/
theorem filter_getD_mem (l : List Nat) (i : Nat) (h : i < l.length) : l.getD i 0 ∈ l := by
  rw [List.getD_eq_getElem?_getD, List.getElem?_eq_getElem h]
  exact List.getElem_mem h
theorem nodup_ne {l : List Nat} (h : l.Nodup) (i j : Nat) (hi : i < l.length) (hj : j < l.length) (hij : i ≠ j) : l.getD i 0 ≠ l.getD j 0 := by
  have e : ∀ n, n < l.length → l.getD n 0 = l[n]! := fun n hn => by simp [List.getD_eq_getElem?_getD, hn]
  rw [List.getD_eq_getElem?_getD, List.getD_eq_getElem?_getD, List.getElem?_eq_getElem hi, List.getElem?_eq_getElem hj]
  simp only [Option.getD_some]
  exact fun e => hij ((List.getElem_inj h).1 e)
/-- A sum over all numbers below n is the sum over those of which p holds, if nothing is added elsewhere. -/
theorem xs_filter (n : Nat) (p : Nat → Bool) (f : Nat → BitVec 8) (h : ∀ i, i < n → p i = false → f i = 0#8) : xs n f = xs ((List.range n).filter p).length (fun t => f (((List.range n).filter p).getD t 0)) := by
  induction n with
  | zero => rfl
  | succ n ih =>
    show xs n f ^^^ f n = _
    rw [ih fun i hi => h i (by omega)]
    rw [List.range_succ, List.filter_append]
    cases hp : p n with
    | true =>
      have e1 : List.filter p [n] = [n] := by simp [hp]
      rw [e1, List.length_append]
      show _ = xs (((List.range n).filter p).length + 1) _
      show _ = xs ((List.range n).filter p).length _ ^^^ _
      have e2 : (((List.range n).filter p) ++ [n]).getD ((List.range n).filter p).length 0 = n := by simp [List.getD_eq_getElem?_getD]
      have e3 : (fun t => f ((((List.range n).filter p) ++ [n]).getD t 0)) ((List.range n).filter p).length = f n := by
        show f _ = f n
        rw [e2]
      rw [e3]
      congr 1
      exact xs_congr fun t ht => by simp [List.getD_eq_getElem?_getD, List.getElem?_append_left ht]
    | false =>
      have e1 : List.filter p [n] = [] := by simp [hp]
      rw [e1, List.append_nil, h n (by omega) hp, BitVec.xor_zero]
/-- Rows that are picked: rs i is the number of the i-th of k different rows among k + m. -/
theorem ext_not (k m : Nat) (rl : List Nat) (hk1 : 1 ≤ k) (hkm : k + m ≤ 64) (hr : Picks (k + m) rl) (hl : rl.length = k) (a : Mx) (ha : ∀ i j, i < k → j < k → a i j = ext k (rl.getD i 0) j) : ¬ NoInv k a := fun hno => by
  obtain ⟨v, l, hlk, hv, h3⟩ := hno.kernel
  have hlt : ∀ i, i < k → rl.getD i 0 < k + m := fun i hi => (hr i (by omega)).1
  have hne : ∀ i j, i < k → j < k → i ≠ j → rl.getD i 0 ≠ rl.getD j 0 := fun i j hi hj hij => picks_ne hr i j (by omega) (by omega) hij
  have row : ∀ i, i < k → xs k (fun j => gm (ext k (rl.getD i 0) j) (v j)) = 0#8 := fun i hi => by
    rw [← h3 i hi]; exact xs_congr fun j hj => by rw [ha i j hi hj]
  -- the unit's rows that are picked
  have unit0 : ∀ i, i < k → rl.getD i 0 < k → v (rl.getD i 0) = 0#8 := fun i hi hu => by
    have h4 := row i hi
    rw [xs_one k (rl.getD i 0) hu _ (fun j _ hj => by
      show gm (if rl.getD i 0 < k then id1 (rl.getD i 0) j else _) (v j) = 0#8
      rw [if_pos hu, id1, if_neg (Ne.symm hj), gm_zl])] at h4
    have h5 : gm (if rl.getD i 0 < k then id1 (rl.getD i 0) (rl.getD i 0) else cau k (rl.getD i 0 - k) (rl.getD i 0)) (v (rl.getD i 0)) = 0#8 := h4
    rwa [if_pos hu, id1, if_pos rfl, gm_one] at h5
  -- the columns that no picked row of the unit names, the picked rows of the Cauchy matrix
  let pc : Nat → Bool := fun j => decide (∀ i, i < k → rl.getD i 0 ≠ j)
  let pr : Nat → Bool := fun i => decide (k ≤ rl.getD i 0)
  let cs := (List.range k).filter pc
  let rs := (List.range k).filter pr
  have hcs : ∀ t, t < cs.length → cs.getD t 0 < k ∧ pc (cs.getD t 0) = true := fun t ht => by
    have := filter_getD_mem cs t ht
    have := List.mem_filter.1 this
    exact ⟨by simpa using this.1, this.2⟩
  have hrs : ∀ t, t < rs.length → rs.getD t 0 < k ∧ k ≤ rl.getD (rs.getD t 0) 0 := fun t ht => by
    have := filter_getD_mem rs t ht
    have := List.mem_filter.1 this
    exact ⟨by simpa using this.1, of_decide_eq_true this.2⟩
  have ndc : cs.Nodup := List.nodup_range.filter _
  have ndr : rs.Nodup := List.nodup_range.filter _
  have vz : ∀ j, j < k → pc j = false → v j = 0#8 := fun j hj hp => by
    have h1 : ¬ ∀ i, i < k → rl.getD i 0 ≠ j := of_decide_eq_false hp
    obtain ⟨i, h2⟩ := Classical.not_forall.1 h1
    obtain ⟨hi, h4⟩ := Classical.not_imp.1 h2
    have h5 : rl.getD i 0 = j := Decidable.byContradiction h4
    have := unit0 i hi (by omega)
    rwa [h5] at this
  -- as many of the ones as of the others
  have hlen : rs.length = cs.length := by
    have e1 : rs.length + ((List.range k).filter fun i => !pr i).length = k := by
      have := List.length_eq_countP_add_countP pr (l := List.range k)
      rw [List.length_range] at this
      rw [show rs.length = List.countP pr (List.range k) from List.countP_eq_length_filter.symm, ← List.countP_eq_length_filter]
      simpa using this.symm
    have e2 : cs.length + ((List.range k).filter fun j => !pc j).length = k := by
      have := List.length_eq_countP_add_countP pc (l := List.range k)
      rw [List.length_range] at this
      rw [show cs.length = List.countP pc (List.range k) from List.countP_eq_length_filter.symm, ← List.countP_eq_length_filter]
      simpa using this.symm
    have e3 : ((List.range k).filter fun i => !pr i).length = ((List.range k).filter fun j => !pc j).length := by
      have n1 : (((List.range k).filter fun i => !pr i).map fun i => rl.getD i 0).Nodup := by
        refine List.Pairwise.map _ (R := fun i j => i ≠ j ∧ i < k ∧ j < k) (fun i j h => hne i j h.2.1 h.2.2 h.1) ?_
        have nd : ((List.range k).filter fun i => !pr i).Nodup := List.nodup_range.filter _
        refine List.Pairwise.imp_of_mem (fun {x y} hx hy hxy => ⟨hxy, by simpa using (List.mem_filter.1 hx).1, by simpa using (List.mem_filter.1 hy).1⟩) nd
      have n2 : ((List.range k).filter fun j => !pc j).Nodup := List.nodup_range.filter _
      have hperm : (((List.range k).filter fun i => !pr i).map fun i => rl.getD i 0).Perm ((List.range k).filter fun j => !pc j) := by
        refine (List.perm_ext_iff_of_nodup n1 n2).2 fun j => ?_
        constructor
        · intro h
          obtain ⟨i, hi, rfl⟩ := List.mem_map.1 h
          obtain ⟨hi1, hi2⟩ := List.mem_filter.1 hi
          have hi1 : i < k := by simpa using hi1
          have hi3 : ¬ k ≤ rl.getD i 0 := by simpa [pr] using hi2
          refine List.mem_filter.2 ⟨by simpa using (by omega : rl.getD i 0 < k), ?_⟩
          have : pc (rl.getD i 0) = false := decide_eq_false fun g => g i hi1 rfl
          show (!pc (rl.getD i 0)) = true
          rw [this]; rfl
        · intro h
          obtain ⟨hj1, hj2⟩ := List.mem_filter.1 h
          have hj1 : j < k := by simpa using hj1
          have hj3 : pc j = false := by simpa using hj2
          have h1 : ¬ ∀ i, i < k → rl.getD i 0 ≠ j := of_decide_eq_false hj3
          obtain ⟨i, h2⟩ := Classical.not_forall.1 h1
          obtain ⟨hi, h4⟩ := Classical.not_imp.1 h2
          have h5 : rl.getD i 0 = j := Decidable.byContradiction h4
          refine List.mem_map.2 ⟨i, List.mem_filter.2 ⟨by simpa using hi, ?_⟩, h5⟩
          have : pr i = false := decide_eq_false (by omega)
          show (!pr i) = true
          rw [this]; rfl
      have := hperm.length_eq
      rwa [List.length_map] at this
    omega
  have h0 := cauchy_kernel cs.length (fun t => BitVec.ofNat 8 (k + (rl.getD (rs.getD t 0) 0 - k))) (fun t => BitVec.ofNat 8 (cs.getD t 0))
    (fun i j hi hj hij => ofNat8_ne _ _ (by have := hlt _ (hrs i (by omega)).1; omega) (by have := hlt _ (hrs j (by omega)).1; omega) (fun e => by
      have a1 := hrs i (by omega)
      have a2 := hrs j (by omega)
      exact hne _ _ a1.1 a2.1 (nodup_ne ndr i j (by omega) (by omega) hij) (by omega)))
    (fun i j hi hj hij => ofNat8_ne _ _ (by have := (hcs i hi).1; omega) (by have := (hcs j hj).1; omega) (nodup_ne ndc i j hi hj hij))
    (fun i j hi hj => ofNat8_ne _ _ (by have := hlt _ (hrs i (by omega)).1; omega) (by have := (hcs j hj).1; omega) (by have := (hcs j hj).1; omega))
    (fun t => v (cs.getD t 0)) (fun t ht => by
      have a1 := hrs t (by omega)
      have a2 := row _ a1.1
      rw [xs_filter k pc _ (fun j hj hp => by rw [vz j hj hp, gm_zr])] at a2
      rw [← a2]
      refine xs_congr fun j hj => ?_
      show gm (gi _) (v (cs.getD j 0)) = gm (if rl.getD (rs.getD t 0) 0 < k then _ else cau k (rl.getD (rs.getD t 0) 0 - k) (cs.getD j 0)) (v (cs.getD j 0))
      rw [if_neg (by omega)]
      rfl)
  -- so all of v is nothing
  cases hp : pc l with
  | false =>
    have := vz l hlk hp
    rw [hv] at this
    exact absurd this (by decide)
  | true =>
    have hm : l ∈ cs := List.mem_filter.2 ⟨by simpa using hlk, hp⟩
    obtain ⟨t, ht, e⟩ := List.getElem_of_mem hm
    have := h0 t ht
    have e2 : cs.getD t 0 = l := by rw [List.getD_eq_getElem?_getD, List.getElem?_eq_getElem ht]; simpa using e
    rw [e2, hv] at this
    exact absurd this (by decide)
end Go.Proofs.YtkfceloaomlhmaaDoor
/- What the program's codes are asked to do, whatever they look like in memory: the premises of layer 4's walks. -/
set_option maxRecDepth 100000
namespace Go.Proofs.YtkfceloaomlhmaaDoor
open Go Go.RowKit
attribute [-go_sem] Sha.exec_store

/-- A result and an error's number are returned, of which R holds; nothing that was there has changed. -/
def RetR (w : World) (R : Value → Int → World → Prop) (e : Ending) (w' : World) : Prop := ∃ r t, e = .returned (.tuple #[r, .int .i64 t]) ∧ R r t w' ∧ Below w.heap.size w w'
/-- The parity of k data shards. -/
def parL (k m : Nat) (ls : List (List (BitVec 8))) : List (List (BitVec 8)) := rowsL m (ls.getD 0 []).length (mm k (cau k) (mx ls))
/-- What Encode returns. -/
def EncR (k m : Nat) (ls : List (List (BitVec 8))) (r : Value) (t : Int) (w' : World) : Prop :=
  (evB ls k = false ∧ r = .slice none 0 0 ∧ t = 2) ∨ (evB ls k = true ∧ t = 0 ∧ ∃ q c, r = .slice q m c ∧ Prt w' q (parL k m ls))
/-- The bools that lie where a slice of their number begins. -/
def Bl (w : World) (q : Option Addr) (th : List Bool) : Prop := ∀ j, j < th.length → ∃ c o, q = some ⟨c, o, none⟩ ∧ w.cell? ⟨c, o + j, none⟩ = some (.bool (th.getD j false))
/-- The shards that are there. -/
def thereL (ls : List (List (BitVec 8))) (th : List Bool) : List (List (BitVec 8)) := ((List.range ls.length).filter fun i => th.getD i false).map fun i => ls.getD i []
/-- All shards, told from those that are there. -/
def DecOk (k m : Nat) (ls : List (List (BitVec 8))) (th : List Bool) (out : List (List (BitVec 8))) : Prop :=
  ∃ L, out.length = k + m ∧ (∀ i, i < k + m → (out.getD i []).length = L) ∧ (∀ i, i < k + m → th.getD i false = true → (ls.getD i []).length = L) ∧
    ∃ (D : Mx) (rl : List Nat), Picks (k + m) rl ∧ rl.length = k ∧ (∀ t, t < k → th.getD (rl.getD t 0) false = true ∧ ∀ x, x < L → mm k (ext k) D (rl.getD t 0) x = mx ls (rl.getD t 0) x) ∧
      ∀ i x, i < k + m → x < L → mx out i x = if th.getD i false = true then mx ls i x else mm k (ext k) D i x
/-- What Decode returns. -/
def DecR (k m : Nat) (ls : List (List (BitVec 8))) (th : List Bool) (r : Value) (t : Int) (w' : World) : Prop :=
  (¬ (ls.length = k + m ∧ th.length = k + m ∧ eqB (thereL ls th) = true) ∧ r = .slice none 0 0 ∧ t = 2) ∨
  ((ls.length = k + m ∧ th.length = k + m ∧ eqB (thereL ls th) = true) ∧
    (((thereL ls th).length < k ∧ r = .slice none 0 0 ∧ t = 5) ∨ (k ≤ (thereL ls th).length ∧ t = 0 ∧ ∃ q c out, r = .slice q (k + m) c ∧ k + m ≤ c ∧ Prt w' q out ∧ DecOk k m ls th out)))
/-- What Check returns. -/
def chkI (k m : Nat) (ls : List (List (BitVec 8))) : Int := if evB ls (k + m) = true then (if ls.drop k = parL k m (ls.take k) then 0 else 11) else 2
/-- Bytes, cut. -/
def cutEach (k n : Nat) : Nat := (n + k - 1) / k
def cutL (k : Nat) (l : List (BitVec 8)) : List (List (BitVec 8)) := rowsL k (cutEach k l.length) fun i j => l.getD (i * cutEach k l.length + j) 0#8
theorem bs00 (w : World) : (bsT 22 2 #[(0, .int .u8 0), (1, .int .u8 0)]).run Tryd.prog w = .ok (.value (.slice (some ⟨w.heap.size, 0, none⟩) 2 2)) (w.alloc (.cells #[B 0#8, B 0#8] 5)) := by
  rw [B_0]; kernel_rfl
theorem par_zero : parL 1 2 [[0#8, 0#8]] = [[0#8, 0#8], [0#8, 0#8]] := by
  have e : parL 1 2 [[0#8, 0#8]] = rowsL 2 2 (fun _ _ => 0#8) := rowsL_congr fun i j _ hj => by
    show 0#8 ^^^ gm (cau 1 i 0) (mx [[0#8, 0#8]] 0 j) = 0#8
    have hz : mx [[0#8, 0#8]] 0 j = 0#8 := by
      match j, hj with
      | 0, _ => rfl
      | 1, _ => rfl
    rw [hz, gm_zr, BitVec.xor_zero]
  rw [e]; rfl
attribute [local go_sem ↓] exec_bs
attribute [local go_sem] bs00 bsR
end Go.Proofs.YtkfceloaomlhmaaDoor
/- A range over an iterator that writes nothing: the law, and what such an iterator owes. -/
set_option maxRecDepth 100000
namespace Go.Proofs.YtkfceloaomlhmaaDoor
open Go Go.RowKit Go.Shelf
attribute [-go_sem] Sha.exec_store

/-- A call of yield: it goes on, block b as it was; or it says that there is to be no more. -/
def YieldsP {α : Type} (m l : Nat) (encs : α → Array Value) (b : Nat) (xs : List α) (J Jx : List α → World → Prop) : Prop :=
  ∀ pre x A, pre ++ [x] <+: xs → J pre A → YieldAt Fence.wide m Tryd.prog l (encs x) A fun e A' =>
    (e = .returned (.bool true) ∧ J (pre ++ [x]) A' ∧ A'.heap[b]? = A.heap[b]?) ∨ (e = .returned (.bool false) ∧ Jx (pre ++ [x]) A')
/-- The iterator hands out xs; it writes nothing, and reads block b. -/
def SeqP {α : Type} (m g : Nat) (lb : Array Value) (encs : α → Array Value) (b : Nat) (xs : List α) (w : World) : Prop :=
  ∀ (l : Nat) (J Jx : List α → World → Prop) (A : World), Below w.heap.size w A → (∀ pre B k, J pre B → J pre (B.drewN k)) →
    YieldsP (m - 1) l encs b xs J Jx → J [] A →
    CallsIn Fence.wide m Tryd.prog g (#[.func (.yield l) #[] #[]] ++ lb) A fun e A' => (∃ v, e = .returned v) ∧ (J xs A' ∨ ∃ pre, pre <+: xs ∧ Jx pre A')
/-- How the body may be left: it goes on, or returns. -/
def bodyOutP {α : Type} (b : Nat) (I Ix : List α → World → Prop) (xs : List α) (A : World) : Exit → Act → World → Prop
  | .normal, _, A' => KeepsOthers A A' ∧ A'.heap[b]? = A.heap[b]? ∧ I xs A'
  | .ret, _, A' => KeepsOthers A A' ∧ Ix xs A'
  | _, _, _ => False
/-- What a caller's invariant must bear: new blocks, the loop's own blocks, draws. -/
structure BearsP {α : Type} (N : Nat) (I : List α → World → Prop) : Prop where
  new : ∀ pre A o, I pre A → I pre (A.alloc o)
  put : ∀ pre A o, N + 1 < A.heap.size → I pre A → I pre (A.putObj (N + 1) o)
  drew : ∀ pre A k, I pre A → I pre (A.drewN k)
theorem below_putP {N k : Nat} {A : World} (o : Obj) (hk : N ≤ k) (hlt : k < A.heap.size) : Below N A (A.putObj k o) :=
  (Below.refl N A).grown (grownBy_putObj' A k o) (by omega) (fun j e => by cases e; exact hk)
theorem BearsP.put' {α : Type} {N n : Nat} {I : List α → World → Prop} (hI : BearsP N I) (hn : N = n) {pre : List α} {A : World} {o : Obj} (hlt : n + 1 < A.heap.size) (h : I pre A) : I pre (A.putObj (n + 1) o) := by
  subst hn
  exact hI.put pre A o hlt h
theorem range_pure {α : Type} {g : Operand} {ps : Array Tmp} {assign body : Code} {Q : Exit → Act → World → Prop} {a : Act} {w : World} {m : Nat} (hm : 1 ≤ m)
    {gf : Nat} {lb : Array Value} (hg : a.eval g = .func (.func gf) #[] lb) (eg : ∀ args w, (callFunc gf args).run Tryd.prog w = .ok (.enter gf args) w)
    {encs : α → Array Value} (hps : ∀ x, (encs x).size = ps.size) {b : Nat} (hb : b < w.heap.size) {xs : List α} (hseq : SeqP (m - 1) gf lb encs b xs w)
    (I Ix : List α → World → Prop) (hI : BearsP w.heap.size I) (hIx : ∀ pre A o, w.heap.size + 1 < A.heap.size → Ix pre A → Ix pre (A.putObj (w.heap.size + 1) o)) (h0 : I [] w) (a₁ : α → Act)
    (hassign : ∀ (l : Nat) (x : α) (W : World) (K : Act → World → Prop), K (a₁ x) W →
      assign.wpIn (Fence.wide.inRound l) (m - 1 - 1) Tryd.prog (Exit.then K (fun _ _ _ => False)) { tmps := (ps.zip (encs x)).foldl (fun t (p, v) => t.setIfInBounds p v) a.tmps, defers := [] } W)
    (hbody : ∀ (l : Nat) (pre : List α) (x : α) (A : World), pre ++ [x] <+: xs → w.heap.size + 1 < A.heap.size → I pre A → body.wpIn (Fence.wide.inRound l) (m - 1 - 1) Tryd.prog (bodyOutP b I Ix (pre ++ [x]) A) (a₁ x) A)
    (hdone : ∀ (D : Nat) (A : World), D = w.heap.size → I xs A → A.heap[D]? = some (.deferred (some [])) → Q .normal { a with defers := { target := .collected D, args := #[] } :: a.defers } A)
    (hstop : ∀ (D : Nat) (pre : List α) (A : World), D = w.heap.size → pre <+: xs → Ix pre A → A.heap[D]? = some (.deferred (some [])) → Code.ret.wpIn Fence.wide m Tryd.prog Q { a with defers := { target := .collected D, args := #[] } :: a.defers } A) :
    (Code.rangeFunc g ps assign body).wpIn Fence.wide m Tryd.prog Q a w := by
  refine wpIn_rangeFunc fun fn hfn => ?_
  -- the loop's record (block n + 1) and the block of its deferred calls (block n)
  obtain ⟨n, hn⟩ : ∃ n, w.heap.size = n := ⟨_, rfl⟩
  have hIx' : ∀ {pre : List α} {A : World} {o : Obj}, n + 1 < A.heap.size → Ix pre A → Ix pre (A.putObj (n + 1) o) := fun {pre A o} h1 h2 => by rw [← hn] at h1 ⊢; exact hIx pre A o h1 h2
  have hbn : b < n := by omega
  obtain ⟨R, hR⟩ : ∃ R : LoopState → Option Code → Loop, R = fun st pe => { state := st, pending := pe, fn, tmps := a.tmps, params := ps, assign, body, defers := n } := ⟨_, rfl⟩
  obtain ⟨W, hW⟩ : ∃ W, (w.alloc (.deferred (some []))).alloc (.loop (R .ready none)) = W := ⟨_, rfl⟩
  have two : ∀ {A : World}, A.heap[n + 1]? = some (.loop (R .busy none)) ∨ A.heap[n + 1]? = some (.loop (R .ready none)) → n + 1 < A.heap.size := fun h => by
    rcases h with h | h <;> exact (Array.getElem?_eq_some_iff.1 h).1
  let At : LoopState → Option Code → World → Prop := fun st pe A => A.heap[n + 1]? = some (.loop (R st pe)) ∧ A.heap[n]? = some (.deferred (some []))
  have at0 : At .ready none W := by
    constructor
    · rw [← hW]
      have := World.alloc_heap_new (w.alloc (.deferred (some []))) (.loop (R .ready none))
      rwa [World.size_alloc, hn] at this
    · rw [← hW]
      have h1 := World.alloc_heap_new w (.deferred (some []))
      rw [hn] at h1
      exact (Below.heap_alloc _ _ _ (by simp; omega)).trans h1
  have putAt : ∀ {st st' : LoopState} {pe pe' : Option Code} {A : World}, At st pe A → At st' pe' (A.putObj (n + 1) (.loop (R st' pe'))) := fun h =>
    ⟨World.putObj_heap_same (Array.getElem?_eq_some_iff.1 h.1).1, (World.putObj_heap_other (by omega)).trans h.2⟩
  refine ⟨n + 1, [{ target := .collected n, args := #[] }], W, { target := .fn (.func gf) lb, args := #[.func (.yield (n + 1)) #[] #[]] }, W, gf, #[.func (.yield (n + 1)) #[] #[]] ++ lb, W, ?_, ?_, ?_, ?_, fun _ => hm, ?_⟩
  · rw [← hW, hR, ← hn]; exact run_enterLoop_outer _ _ _ _ _
  · simp only [resolve, hg]
    simp [go_sem]
  · intro f' hf'
    simp [Target.leads] at hf'
    subst hf'
    trivial
  · simp [invoke, go_sem, eg]
  · have hbel : Below w.heap.size w W := by rw [← hW]; exact ((Below.refl _ w).alloc (Nat.le_refl _) _).alloc (by simp) _
    refine (hseq (n + 1) (fun pre A => I pre A ∧ At .ready none A) (fun pre A => Ix pre A ∧ At .done (some .ret) A) W hbel
      (fun pre B k h => ⟨hI.drew pre B k h.1, h.2⟩)
      ?_ ⟨by rw [← hW]; exact hI.new _ _ _ (hI.new _ _ _ h0), at0⟩).mono ?_
    · rintro pre x A hpx ⟨hi, hat⟩
      have hlt := two (.inr hat.1)
      have hy := run_yield (P := Tryd.prog) (args := encs x) hat.1 (by rw [hR]; exact hps x)
      rw [hR] at hy
      refine ⟨fn, _, assign, body, hy, roundIn_of_wpIn hfn (hassign _ x A _ ⟨_, run_beginRound hat.1 (by rw [hR]), ?_⟩)⟩
      have hbusy : ({ R .ready none with state := .busy } : Loop) = R .busy none := by rw [hR]
      rw [hbusy]
      have hat2 : At .busy none (A.putObj (n + 1) (.loop (R .busy none))) := putAt hat
      refine wpIn_mono (hbody _ pre x _ hpx (by rw [hn]; exact Nat.lt_of_lt_of_le hlt (below_putP (N := 0) _ (Nat.zero_le _) hlt).size) (hI.put' hn hlt hi)) ?_
      have fin : ∀ (st : LoopState) (jump : Option Code) (A3 : World), st = (if jump.isNone then .ready else .done) → KeepsOthers (A.putObj (n + 1) (.loop (R .busy none))) A3 →
          n + 1 < A3.heap.size ∧ (Instr.endRound (n + 1) jump).run Tryd.prog A3 = .ok (.bool jump.isNone) (A3.putObj (n + 1) (.loop (R st jump))) ∧ At st jump (A3.putObj (n + 1) (.loop (R st jump))) := fun st jump A3 hst hk => by
        have h3 : At .busy none A3 := ⟨hk.same _ _ hat2.1 rfl, hk.same _ _ hat2.2 rfl⟩
        have he := run_endRound (P := Tryd.prog) jump h3.1
        have e : ({ R .busy none with state := (if jump.isNone then .ready else .done), pending := jump } : Loop) = R st jump := by rw [hR, hst]
        rw [e] at he
        exact ⟨two (.inl h3.1), he, putAt h3⟩
      rintro e a3 A3 hp
      cases e with
      | normal =>
        obtain ⟨hk, hB, hi3⟩ := hp
        obtain ⟨hl3, he, h4⟩ := fin .ready none A3 rfl hk
        exact ⟨_, _, he, .inl ⟨rfl, ⟨hI.put' hn hl3 hi3, h4⟩, ((World.putObj_heap_other (by omega)).trans hB).trans (World.putObj_heap_other (by omega))⟩⟩
      | ret =>
        obtain ⟨hk, hi3⟩ := hp
        obtain ⟨hl3, he, h4⟩ := fin .done (some .ret) A3 rfl hk
        exact ⟨_, _, he, .inr ⟨rfl, hIx' hl3 hi3, h4⟩⟩
      | exit id => exact hp.elim
      | goto t => exact hp.elim
      | panic ch => exact hp.elim
      | outgrown => exact hp.elim
    · rintro e A2 ⟨⟨v, rfl⟩, ⟨hi, hat⟩ | ⟨pre, hpre, hi, hat⟩⟩
      · have hlt := two (.inr hat.1)
        have he := run_endLoop (P := Tryd.prog) hat.1 (by rw [hR]; simp)
        refine ⟨none, _, by rw [he, hR], ?_⟩
        exact hdone n _ (by omega) (hI.put' hn hlt hi) ((World.putObj_heap_other (by omega)).trans hat.2)
      · have hlt := (Array.getElem?_eq_some_iff.1 hat.1).1
        have he := run_endLoop (P := Tryd.prog) hat.1 (by rw [hR]; simp)
        refine ⟨some .ret, _, by rw [he, hR], ?_⟩
        exact hstop n pre _ (by omega) hpre (hIx' hlt hi) ((World.putObj_heap_other (by omega)).trans hat.2)
/-- Is an operation a defer statement? -/
def isDefer (o : Oper) : Bool := match o.op with
  | .defer _ => true
  | _ => false
theorem oper_round {F : Fence} {m l : Nat} {o : Oper} {a : Act} {w : World} {K : Act → World → Prop} {Q : Exit → Act → World → Prop} (hr : F.round = none) (hd : isDefer o = false) (h : o.wpIn F m Tryd.prog a w K Q) : o.wpIn (F.inRound l) m Tryd.prog a w K Q := by
  have hn : ∀ c, o.op ≠ .defer c := fun c e => by unfold isDefer at hd; rw [e] at hd; cases hd
  unfold Oper.wpIn at h ⊢
  refine ⟨h.1, ?_⟩
  have h2 := h.2
  rw [hr, Oper.semAt_none] at h2
  rw [Oper.semAt_eq _ _ _ hn]
  generalize (execOp a.eval o).run Tryd.prog w = r at *
  cases r with
  | ok x w' => cases x <;> exact h2
  | halt x w' => cases x <;> exact h2
theorem wpOpsIn_round {F : Fence} {m l : Nat} {ops : Array Oper} {Q : Exit → Act → World → Prop} (hr : F.round = none) (hd : ∀ (i : Nat) (o : Oper), ops[i]? = some o → isDefer o = false) : ∀ (is : List Nat) (a : Act) (w : World), wpOpsIn F m Tryd.prog ops Q is a w → wpOpsIn (F.inRound l) m Tryd.prog ops Q is a w
  | [], a, w, h => h
  | i :: rest, a, w, h => by
    have ih := fun a w => wpOpsIn_round (m := m) (l := l) (Q := Q) hr hd rest a w
    unfold wpOpsIn at h ⊢
    cases ho : ops[i]? with
    | none => rw [ho] at h; exact ih a w h
    | some o =>
      rw [ho] at h
      dsimp only at h ⊢
      split
      · rename_i hw
        rw [if_pos hw] at h
        exact oper_round hr (hd i o ho) (Oper.wpIn_mono ih h)
      · rename_i hw
        rw [if_neg hw] at h
        exact ⟨h.1, ih _ _ h.2⟩
theorem wpIn_region_round {L m id : Nat} {ops : Array Oper} {Q : Exit → Act → World → Prop} {a : Act} {w : World} (hm : Tryd.prog.follows .mixedOrders = true) (hd : ops.all (fun o => !isDefer o) = true)
    (h : wpAnyIn Fence.wide m Tryd.prog .any ops Q ops.size (Array.replicate ops.size false) a w.drew) : (Code.region id ops true).wpIn (Fence.wide.inRound L) m Tryd.prog Q a w :=
  wpIn_region_draw fun t => by
    simp only [Region.schedule, hm, Bool.true_or, if_true]
    exact wpOpsIn_round rfl (fun i o ho => by
      have := Array.all_eq_true_iff_forall_mem.1 hd o (Array.mem_of_getElem? ho)
      simpa using this) _ _ _ (wpAnyIn_sound ops.size t _ a _ h)
end Go.Proofs.YtkfceloaomlhmaaDoor
/- The iterator over the blocks of bytes. -/
set_option maxRecDepth 100000
namespace Go.Proofs.YtkfceloaomlhmaaDoor
open Go Go.RowKit Go.Shelf
attribute [-go_sem] Sha.exec_store

attribute [local go_sem] Oper.semAt_some
/-- How many blocks so many bytes have; how long a block is; a block. -/
def nblk (n : Nat) : Nat := (n + 255) / 256
def blen (n i : Nat) : Nat := min (256 * i + 256) n - 256 * i
def blkL (l : List (BitVec 8)) (i : Nat) : List (BitVec 8) := (l.drop (256 * i)).take 256
/-- A block as a slice. -/
def blkS (q : Option Addr) (n i : Nat) : Value := .slice (q.map (·.add (256 * i))) (blen n i) (blen n i)
theorem blkL_len (l : List (BitVec 8)) (i : Nat) : (blkL l i).length = blen l.length i := by
  unfold blkL blen
  rw [List.length_take, List.length_drop]
  omega
theorem blkL_sl {w : World} {q : Option Addr} {l : List (BitVec 8)} (h : Sl w q l) (i : Nat) : Sl w (q.map (·.add (256 * i))) (blkL l i) := fun j hj => by
  have hj' : j < 256 ∧ 256 * i + j < l.length := by
    unfold blkL at hj
    rw [List.length_take, List.length_drop] at hj
    omega
  obtain ⟨c, o, e, hc⟩ := h (256 * i + j) hj'.2
  refine ⟨c, o + 256 * i, by rw [e]; show some ((⟨c, o, none⟩ : Addr).add (256 * i)) = _; rw [Addr.add_mid], ?_⟩
  rw [show o + 256 * i + j = o + (256 * i + j) by omega, hc]
  unfold blkL
  simp [List.getD_eq_getElem?_getD, List.getElem?_take, List.getElem?_drop, hj'.1]
theorem nblk_lt {n i : Nat} (h : i < nblk n) : 256 * i < n := by unfold nblk at h; omega
theorem count_any (n : Nat) (w : World) (hn : n < 100000000) : Calls Tryd.prog 45 #[.int .i64 (n : Int)] w fun e w' => e = .returned (.int .i64 (nblk n : Int)) ∧ w = w' := by
  have h1 : IntKind.i64.wrap ((n : Int) + 256) = (n : Int) + 256 := by rw [IntKind.wrap_i64]; omega
  have h2 : IntKind.i64.wrap ((n : Int) + 256 - 1) = (n : Int) + 255 := by rw [IntKind.wrap_i64]; omega
  have h3 : ((n : Int) + 255).tdiv 256 = (nblk n : Int) := by rw [Int.tdiv_eq_ediv_of_nonneg (by omega)]; unfold nblk; omega
  have h4 : IntKind.i64.wrap (nblk n : Int) = (nblk n : Int) := by unfold nblk; rw [IntKind.wrap_i64]; omega
  have h5 : ((n : Int) + 255) / 256 = (nblk n : Int) := by unfold nblk; omega
  generalize nblk n = k at *
  go_enter Tryd.func45, Tryd.ntmps45
  go_wp2
  go_ret
  exact ⟨rfl, rfl⟩
theorem blk_cut (q : Option Addr) (n cap i : Nat) (w : World) (hi : 256 * i < n) (hc : n ≤ cap) : (Instr.slice 22 (.slice q n cap) (some (.int .i64 ((i : Int) * 256))) (some (.int .i64 (min ((i : Int) * 256 + 256) (n : Int)))) (some (.int .i64 (min ((i : Int) * 256 + 256) (n : Int))))).run Tryd.prog w = .ok (blkS q n i) w := by
  have hm : min ((i : Int) * 256 + 256) (n : Int) = ((min (256 * i + 256) n : Nat) : Int) := by omega
  rw [hm, run_slice_lhm (P := Tryd.prog) w 22 q n cap und35 .i64 .i64 .i64 _ _ _ (by omega) (by omega) (by omega) (by omega), sizeB]
  have h1 : ((i : Int) * 256).toNat = 256 * i := by omega
  have h2 : (((min (256 * i + 256) n : Nat) : Int)).toNat = min (256 * i + 256) n := by omega
  simp only [Sem.run_bind, Result.andThen_ok, Sem.run_pure, sliced, h1, h2]
  unfold blkS blen
  rw [if_neg (by omega), Nat.mul_one]
set_option maxRecDepth 100000 in
set_option maxHeartbeats 2000000 in
theorem blocks_seq (m : Nat) (hm : 3 ≤ m) (bb : Nat) (q : Option Addr) (n cap : Nat) (w : World) (hb : w.cell? ⟨bb, 0, none⟩ = some (.slice q n cap)) (hn : n < 1000000) (hc : n ≤ cap) :
    SeqP m 44 #[.pointer (some ⟨bb, 0, none⟩)] (fun i : Nat => #[.int .i64 (i : Int), blkS q n i]) bb (List.range (nblk n)) w := by
  intro L J Jx A hA hJd hY h0
  have hm1 : 1 ≤ m := by omega
  have hbw := World.block_lt_of_cell? w _ hb
  have hbA : A.cell? ⟨bb, 0, none⟩ = some (.slice q n cap) := by rw [hA.cell (by exact hbw)]; exact hb
  have HC := Lib.hid (count_any n A (by omega))
  obtain ⟨k, hk⟩ : ∃ k, nblk n = k := ⟨_, rfl⟩
  have HK := Lib.hid hk
  rw [hk] at HC hY ⊢
  have hk2 : k ≤ 10000 := by rw [← hk]; unfold nblk; omega
  refine callsIn_of_wp Tryd.func44 rfl trivial ?_ rfl
  simp only [Tryd.ntmps44, List.size_toArray, List.length_cons, List.length_nil, Nat.reduceAdd, Nat.reduceSub, Array.replicate_succ, Array.replicate_zero, List.push_toArray, List.append_toArray, List.nil_append, List.cons_append]
  clear hb hk
  have HBA := Lib.hid hbA
  gi_wp2_with (refine ⟨trivial, ?_⟩; gi_at_call 45; refine (callsIn_wide.2 HC.out).mono ?_; rintro e w' ⟨rfl, rfl⟩)
  gi_loopw [9] (fun v9 wr => ∃ i : Nat, v9 = .int .i64 (i : Int) ∧ i ≤ k ∧ wr.cell? ⟨bb, 0, none⟩ = some (.slice q n cap) ∧ J (List.range i) wr) (fun v9 wr => k - (intOf v9).toNat)
  case atStart => exact ⟨0, rfl, Nat.zero_le _, HBA.out, h0⟩
  case round =>
    obtain ⟨i, rfl, hik, hbr, hJ0⟩ := hrel
    have HJ0 := Lib.hid hJ0
    have HBR := Lib.hid hbr
    by_cases hlt : i < k
    · have z1 : (i : Int) < (k : Int) := by omega
      have z2 : decide ((i : Int) < (k : Int)) = true := decide_eq_true z1
      have hi256 : 256 * i < n := nblk_lt (by rw [HK.out]; exact hlt)
      have w1 : IntKind.i64.wrap ((i : Int) * 256) = (i : Int) * 256 := by rw [IntKind.wrap_i64]; omega
      have w2 : IntKind.i64.wrap ((i : Int) * 256 + 256) = (i : Int) * 256 + 256 := by rw [IntKind.wrap_i64]; omega
      have w3 : IntKind.i64.wrap ((i : Int) + 1) = (i : Int) + 1 := by rw [IntKind.wrap_i64]; omega
      have hcut := fun u => blk_cut q n cap i u hi256 hc
      have hpre : List.range i ++ [i] <+: List.range k := by
        rw [← List.range_succ]
        exact ⟨(List.range k).drop (i + 1), by
          have h := List.take_append_drop (i + 1) (List.range k)
          rw [List.take_range, Nat.min_eq_left (by omega)] at h
          exact h⟩
      have HPRE := Lib.hid hpre
      obtain ⟨fn, tmps, assign, body, hy, hR⟩ := hY (List.range i) i wr hpre hJ0
      clear hpre
      dsimp only at hy
      clear hJ0
      gi_wp2
      refine hR.mono ?_
      rintro e W3 (⟨rfl, hJ3, hB3⟩ | ⟨rfl, hJx3⟩)
      · have hb3 : W3.cell? ⟨bb, 0, none⟩ = some (.slice q n cap) := by rw [World.cell?_of_block (w := wr) hB3]; exact HBR.out
        have HJ3 := Lib.hid (show J (List.range (i + 1)) W3 from by rw [List.range_succ]; exact hJ3)
        have HB3 := Lib.hid hb3
        clear hJ3 hB3 hb3
        gi_wp2
        go_roundw
        case rel => exact ⟨i + 1, by go_num, by omega, HB3.out, HJ3.out⟩
        case measure => simp [intOf]; omega
      · have HJX := Lib.hid (show ∃ pre, pre <+: List.range k ∧ Jx pre W3 from ⟨List.range i ++ [i], HPRE.out, hJx3⟩)
        clear hJx3
        gi_wp2
        refine bodyPost_ret (results_none rfl _ _ _) rfl ?_
        exact ⟨⟨_, rfl⟩, .inr HJX.out⟩
    · have z1 : ¬ (i : Int) < (k : Int) := by omega
      have z2 : decide ((i : Int) < (k : Int)) = false := decide_eq_false z1
      obtain rfl : i = k := by omega
      gi_wp2
      go_end0
      exact ⟨⟨_, rfl⟩, .inl HJ0.out⟩
theorem mkFnB : ∀ (fn : Fn) (first cap : Array Value) (w : World), (Instr.makeFunc fn first cap).run Tryd.prog w = .ok (.func fn first cap) w := fun _ _ _ _ => rfl
attribute [local go_sem] mkFnB
theorem blocks_any (q : Option Addr) (n cap : Nat) (u : World) : Calls Tryd.prog 34 #[.slice q n cap] u fun e w' => e = .returned (.func (.func 44) #[] #[.pointer (some ⟨u.heap.size, 0, none⟩)]) ∧ w' = u.alloc (.cells #[.slice q n cap] 22) := by
  go_enter Tryd.func34, Tryd.ntmps34
  go_wp2
  go_ret
  exact ⟨rfl, rfl⟩
end Go.Proofs.YtkfceloaomlhmaaDoor
/- Bytes appended to a slice of the call's own: the block afterwards is the old one or a new one. -/
set_option maxRecDepth 100000
namespace Go.Proofs.YtkfceloaomlhmaaDoor
open Go Go.RowKit
attribute [-go_sem] Sha.exec_store

theorem append_ownL (w : World) (base : Nat) (ty : TypeId) (v : Value) (l : List (BitVec 8)) (hown : OwnB w base v l) (p : Option Addr) (n cap : Nat) (bs : List (BitVec 8)) (hbl : bs.length = n) (hs : Sl w p bs) (hc : p = none → cap = 0)
    (hn : l.length + n < 1000000000000) (hb : base ≤ w.heap.size) :
    ∃ v' w', (Builtin.append_ #[22, 22] ty #[v, .slice p n cap]).run Tryd.prog w = .ok v' w' ∧ OwnB w' base v' (l ++ bs) ∧ w.grownBy w' v.ownBlock ∧ (v'.ownBlock = v.ownBlock ∨ v'.ownBlock = some w.heap.size) := by
  subst hbl
  obtain ⟨i0, hi, hz0, hz1, hz2⟩ := info_parts info5
  cases p with
  | some a =>
    obtain ⟨v', w', h1, h2, h3, _, h5⟩ := run_append_own_at (P := Tryd.prog) w base 22 ty 5 i0 (.int .u8 0) 1 1 und35 hi hz0 hz1 hz2 rfl (by decide) v l.length (l.map B) hown a bs.length cap (bs.map B) (by simp) hs.news (one_map bs)
      (by simp only [maxLen]; omega) (by omega) hb
    exact ⟨v', w', h1, by unfold OwnB; rw [List.length_append, List.map_append]; exact h2, h3, h5⟩
  | none =>
    have : bs = [] := by
      cases bs with
      | nil => rfl
      | cons x r => obtain ⟨c, o, e, _⟩ := hs 0 (by simp); cases e
    subst this
    obtain rfl := hc rfl
    exact ⟨v, w, run_append_owned_none (P := Tryd.prog) w base 22 ty 5 i0 1 und35 hi v l.length (l.map B) hown, by rw [List.append_nil]; exact hown, World.grownBy.refl _ _, .inl rfl⟩
theorem wpl_appendL {ops : Array Oper} {rest : List Oper} {o : Oper} {a : Act} {Q : Exit → Act → World → Prop} (w : World) (hgd : o.guard = none) (s x : Operand)
    (ho : o.op = .call { callee := .builtin .append, args := #[s, x], argTypes := #[22, 22] })
    (base : Nat) (v : Value) (l : List (BitVec 8)) (hs : a.eval s = v) (hown : OwnB w base v l) (p : Option Addr) (n cap : Nat) (bs : List (BitVec 8)) (hbl : bs.length = n) (hx : a.eval x = .slice p n cap) (hsl : Sl w p bs) (hc : p = none → cap = 0)
    (hn : l.length + n < 1000000000000) (hb : base ≤ w.heap.size)
    (h : ∀ v' w', OwnB w' base v' (l ++ bs) → w.grownBy w' v.ownBlock → (v'.ownBlock = v.ownBlock ∨ v'.ownBlock = some w.heap.size) → wpList Tryd.prog ops Q rest (a.put o.dst v') w') : wpList Tryd.prog ops Q (o :: rest) a w := by
  refine wpList_plain hgd fun K hK => ?_
  obtain ⟨v', w', hr, h2, h3, h4⟩ := append_ownL w base o.type v l hown p n cap bs hbl hsl hc hn hb
  unfold Oper.wp execOp
  simp only [ho, resolve, invoke, builtin, Sem.run_bind, Sem.run_pure, Result.andThen_ok, List.map_toArray, List.map_cons, List.map_nil, hs, hx, hr]
  exact hK _ _ (h v' w' h2 h3 h4)
theorem step_appendL {ops : Array Oper} {o : Oper} {a : Act} {Q : Exit → Act → World → Prop} {K : Act → World → Prop} {Z : Prop} (w : World) (hgd : o.guard = none) (s x : Operand)
    (ho : o.op = .call { callee := .builtin .append, args := #[s, x], argTypes := #[22, 22] })
    (base : Nat) (v : Value) (l : List (BitVec 8)) (hs : a.eval s = v) (hown : OwnB w base v l) (p : Option Addr) (n cap : Nat) (bs : List (BitVec 8)) (hbl : bs.length = n) (hx : a.eval x = .slice p n cap) (hsl : Sl w p bs) (hc : p = none → cap = 0)
    (hn : l.length + n < 1000000000000) (hb : base ≤ w.heap.size)
    (h : ∀ v' w', OwnB w' base v' (l ++ bs) → w.grownBy w' v.ownBlock → (v'.ownBlock = v.ownBlock ∨ v'.ownBlock = some w.heap.size) → K (a.put o.dst v') w') : if Region.wanted o (yielded ops a.tmps) = true then Oper.wp Tryd.prog o a w K Q else Z := by
  have hw : Region.wanted o (yielded ops a.tmps) = true := by simp [Region.wanted, hgd]
  rw [if_pos hw]
  obtain ⟨v', w', hr, h2, h3, h4⟩ := append_ownL w base o.type v l hown p n cap bs hbl hsl hc hn hb
  unfold Oper.wp execOp
  simp only [ho, resolve, invoke, builtin, Sem.run_bind, Sem.run_pure, Result.andThen_ok, List.map_toArray, List.map_cons, List.map_nil, hs, hx, hr]
  exact h v' w' h2 h3 h4
end Go.Proofs.YtkfceloaomlhmaaDoor
/- append(bytes, make([]byte, n)...): as many noughts are appended. -/
set_option maxRecDepth 100000
namespace Go.Proofs.YtkfceloaomlhmaaDoor
open Go Go.RowKit
attribute [-go_sem] Sha.exec_store

/-- Noughts. -/
def zs12 (n : Nat) : List (BitVec 8) := List.replicate n 0#8
theorem undInt12 : Tryd.prog.underlying 3 = some (.int .i64) := by kernel_rfl
theorem undStr12 : Tryd.prog.underlying 9 = some .string := by kernel_rfl
theorem strOf_len12 (bs : List (BitVec 8)) : (strOf bs).size = bs.length := by unfold strOf; simp [ByteArray.size]
theorem zeros_cells (n : Nat) : Builtin.zeroCells (Value.int .u8 0).cells n = (Lib.strCells (strOf (zs12 n))).toArray := by
  apply Array.ext'
  simp [Builtin.zeroCells, Lib.strCells, strOf, zs12, Value.cells]
  apply List.ext_getElem?
  intro i
  simp [List.getElem?_map, List.getElem?_replicate]
  by_cases h : i < n
  · simp [h, Nat.mod_one]
  · simp [h]
theorem asInt12 (x : Int) : asInt (Value.int .i64 x) = pure x := rfl
theorem wrap0_12 : IntKind.i64.wrap 0 = 0 := by rw [IntKind.wrap_i64]; rfl
theorem asInt12z : asInt (Value.int .i64 0) = pure 0 := rfl
theorem run_appendZ (w : World) (ty : TypeId) (b : Option Addr) (sLen sCap n : Nat) (hs : sLen < 1000000000000) (hn : n < 1000000) :
    (Builtin.append_ #[22, 3] ty #[.slice b sLen sCap, .int .i64 (n : Int)]).run Tryd.prog w = (Builtin.append_ #[22, 9] ty #[.slice b sLen sCap, .string (strOf (zs12 n))]).run Tryd.prog w := by
  obtain ⟨i0, hi, hz0, hz1, hz2⟩ := info_parts info5
  have h1 : IntKind.i64.wrap (n : Int) = (n : Int) := by rw [IntKind.wrap_i64]; omega
  have h2 : ¬ ((n : Int) < 0) := by omega
  have h3 : ¬ (281474976710656 < (n : Int)) := by omega
  have h4 : ¬ (9223372036854775807 < (sLen : Int) + (n : Int)) := by omega
  have h5 : ∀ k, ¬ ((n : Int) ≤ 0) ∨ n = 0 := fun _ => by omega
  have hsz : (strOf (zs12 n)).size = n := by rw [strOf_len12]; unfold zs12; simp
  have hz := zeros_cells n
  have ha : (asInt (Value.int IntKind.i64 (n : Int))).run Tryd.prog w = .ok (n : Int) w := rfl
  have hfs : ∀ u, (Builtin.firstCells 1 n (.string (strOf (zs12 n)))).run Tryd.prog u = .ok (Lib.strCells (strOf (zs12 n))).toArray u := fun u => by
    have h := Lib.run_firstCells_string (P := Tryd.prog) u 1 (strOf (zs12 n))
    rw [hsz] at h
    exact h
  by_cases hroom : sLen + n ≤ sCap
  · rcases Nat.eq_zero_or_pos n with rfl | hp
    · have hc0 : Lib.strCells (strOf (zs12 0)) = [] := by rfl
      have h40 : ¬ (9223372036854775807 < (sLen : Int)) := by omega
      try rw [Nat.add_zero] at hroom
      try rw [Nat.add_zero] at hf
      simp [Builtin.append_, run_underlying und35, run_underlying undInt12, run_underlying undStr12, sizeOf, typeInfo, zeroValue, hi, hz0, hz1, hz2, Builtin.lenOf, asInt12, asInt12z, wrap0_12, h1, hsz, hroom, hfs, h40, hc0]
    · have h6 : ¬ ((n : Int) ≤ 0) := by omega
      simp [Builtin.append_, run_underlying und35, run_underlying undInt12, run_underlying undStr12, sizeOf, typeInfo, zeroValue, hi, hz0, hz1, hz2, Builtin.lenOf, asInt12, asInt12z, wrap0_12, h1, h2, h3, h6, hsz, hroom, hz, hfs, show n ≠ 0 by omega]
  · have hf : ¬ (281474976710656 < Builtin.nextslicecap (sLen + n) sCap) := by have := growslice_fits (bytes := 1) (need := sLen + n) (old := sCap) (by omega) (by omega); omega
    rcases Nat.eq_zero_or_pos n with rfl | hp
    · have hc0 : Lib.strCells (strOf (zs12 0)) = [] := by rfl
      have h40 : ¬ (9223372036854775807 < (sLen : Int)) := by omega
      try rw [Nat.add_zero] at hroom
      try rw [Nat.add_zero] at hf
      simp [Builtin.append_, run_underlying und35, run_underlying undInt12, run_underlying undStr12, sizeOf, typeInfo, zeroValue, hi, hz0, hz1, hz2, Builtin.lenOf, asInt12, asInt12z, wrap0_12, h1, h4, hf, hsz, hroom, hfs, h40, hc0]
    · have h6 : ¬ ((n : Int) ≤ 0) := by omega
      simp [Builtin.append_, run_underlying und35, run_underlying undInt12, run_underlying undStr12, sizeOf, typeInfo, zeroValue, hi, hz0, hz1, hz2, Builtin.lenOf, asInt12, asInt12z, wrap0_12, h1, h2, h3, h4, h6, hf, hsz, hroom, hz, hfs, show n ≠ 0 by omega]
theorem append_zeroL (w : World) (base : Nat) (ty : TypeId) (v : Value) (l : List (BitVec 8)) (hown : OwnB w base v l) (n : Nat) (hl : l.length < 1000000000) (hn : n < 1000000) (hb : base ≤ w.heap.size) :
    ∃ v' w', (Builtin.append_ #[22, 3] ty #[v, .int .i64 (n : Int)]).run Tryd.prog w = .ok v' w' ∧ OwnB w' base v' (l ++ zs12 n) ∧ w.grownBy w' v.ownBlock ∧ (v'.ownBlock = v.ownBlock ∨ v'.ownBlock = some w.heap.size) := by
  obtain ⟨i0, hi, hz0, hz1, hz2⟩ := info_parts info5
  have hsz : (strOf (zs12 n)).size = n := by rw [strOf_len12]; unfold zs12; simp
  have hcl : Lib.strCells (strOf (zs12 n)) = (zs12 n).map B := by
    show (((zs12 n).map UInt8.ofBitVec).toArray.toList.map fun b => Value.int .u8 b.toNat) = _
    simp only [List.map_map]
    apply List.map_congr_left
    intro x _
    show Value.int .u8 ((UInt8.ofBitVec x).toNat : Int) = B x
    rw [B_eq']
    rfl
  have hzl : (zs12 n).length = n := by unfold zs12; simp
  obtain ⟨p0, c0, hv0, -⟩ := hown.shape
  have hrun := run_appendZ w ty p0 l.length c0 n (by omega) hn
  rw [← hv0] at hrun
  rw [hrun]
  obtain ⟨v', w', h1, h2, h3, h4⟩ := Lib.run_append_own_string (P := Tryd.prog) w base 22 9 ty 5 i0 und35 undStr12 hi hz0 hz1 hz2 v l.length (l.map B) hown (strOf (zs12 n)) (by rw [hsz]; simp only [maxLen]; omega) (by rw [hsz]; omega) hb
  refine ⟨v', w', h1, by unfold OwnB; rw [List.length_append, List.map_append, ← hcl, hzl]; rw [hsz] at h2; exact h2, h3, ?_⟩
  rcases hown.2 with ⟨rfl, hl0⟩ | ⟨g, cap, cur, rfl, hbg, hg, hnc, hcm, hcs, htake⟩
  · by_cases h0 : (strOf (zs12 n)).size = 0
    · left; rw [h4.2 ⟨rfl, h0⟩]
    · right
      have hr := run_append_nil_string (P := Tryd.prog) w 22 9 ty 5 i0 (.int .u8 0) und35 undStr12 hi hz0 (strOf (zs12 n)) (by omega) (by rw [hsz]; omega) (by rw [hz2, hsz]; omega)
      rw [hr] at h1
      injection h1 with h1 _
      rw [← h1]; rfl
  · by_cases hroom : l.length + (strOf (zs12 n)).size ≤ cap
    · left
      have hr := Lib.run_append_room_string (P := Tryd.prog) w 22 9 ty 5 i0 und35 undStr12 hi hz1 g l.length cap cur hg (strOf (zs12 n)) hroom (by rw [hcs, Nat.mul_one]; exact hroom)
      rw [hr] at h1
      injection h1 with h1 _
      rw [← h1]; rfl
    · right
      have holds : ∀ j u, (l.map B)[j]? = some u → w.cell? ((⟨g, 0, none⟩ : Addr).add j) = some u := World.ownsRow.cells (g := g) hown rfl
      have hr := Lib.run_append_grow_string (P := Tryd.prog) w 22 9 ty 5 i0 (.int .u8 0) und35 undStr12 hi hz0 ⟨g, 0, none⟩ l.length cap (l.map B) (by rw [hz1]; simp) holds (strOf (zs12 n)) (by omega) (by rw [hsz]; omega) (by rw [hz2]; exact growslice_fits (by omega) (by rw [hsz]; omega))
      rw [hr] at h1
      injection h1 with h1 _
      rw [← h1]; rfl
theorem step_appendZ {ops : Array Oper} {o : Oper} {a : Act} {Q : Exit → Act → World → Prop} {K : Act → World → Prop} {Z : Prop} (w : World) (hgd : o.guard = none) (s x : Operand)
    (ho : o.op = .call { callee := .builtin .append, args := #[s, x], argTypes := #[22, 3] })
    (base : Nat) (v : Value) (l : List (BitVec 8)) (hs : a.eval s = v) (hown : OwnB w base v l) (n : Nat) (hx : a.eval x = .int .i64 (n : Int)) (hl : l.length < 1000000000) (hn : n < 1000000) (hb : base ≤ w.heap.size)
    (h : ∀ v' w', OwnB w' base v' (l ++ zs12 n) → w.grownBy w' v.ownBlock → (v'.ownBlock = v.ownBlock ∨ v'.ownBlock = some w.heap.size) → K (a.put o.dst v') w') : if Region.wanted o (yielded ops a.tmps) = true then Oper.wp Tryd.prog o a w K Q else Z := by
  have hw : Region.wanted o (yielded ops a.tmps) = true := by simp [Region.wanted, hgd]
  rw [if_pos hw]
  obtain ⟨v', w', hr, h2, h3, h4⟩ := append_zeroL w base o.type v l hown n hl hn hb
  unfold Oper.wp execOp
  simp only [ho, resolve, invoke, builtin, Sem.run_bind, Sem.run_pure, Result.andThen_ok, List.map_toArray, List.map_cons, List.map_nil, hs, hx, hr]
  exact h v' w' h2 h3 h4
end Go.Proofs.YtkfceloaomlhmaaDoor
/- The plain sidecar: the blocks of a stripe, their parity, what a sidecar holds. -/
set_option maxRecDepth 100000
namespace Go.Proofs.YtkfceloaomlhmaaDoor
open Go Go.RowKit
attribute [-go_sem] Sha.exec_store

/-- How many stripes. -/
def nstr (n : Nat) : Nat := (n + 1023) / 1024
/-- A block, complete. -/
def padL (b : List (BitVec 8)) : List (BitVec 8) := b ++ zs12 (256 - b.length)
/-- All blocks. -/
def allB (l : List (BitVec 8)) : List (List (BitVec 8)) := (List.range (nblk l.length)).map (blkL l)
/-- The blocks of a stripe. -/
def strB (l : List (BitVec 8)) (s : Nat) : List (List (BitVec 8)) := ((allB l).drop (4 * s)).take 4
/-- Their parity. -/
def parB (bs : List (List (BitVec 8))) : List (List (BitVec 8)) := rowsL 2 256 (mm bs.length (cau bs.length) (mx (bs.map padL)))
def entL (r : List (BitVec 8)) : List (BitVec 8) := r ++ digL r
def strE (l : List (BitVec 8)) (s : Nat) : List (BitVec 8) := ((parB (strB l s)).map entL).flatten
/-- A sidecar. -/
def mkS (l : List (BitVec 8)) : List (BitVec 8) := digL l ++ ((List.range (nstr l.length)).map (strE l)).flatten
theorem padL_len {b : List (BitVec 8)} (h : b.length ≤ 256) : (padL b).length = 256 := by unfold padL zs12; simp; omega
theorem allB_len (l : List (BitVec 8)) : (allB l).length = nblk l.length := by unfold allB; simp
theorem allB_get (l : List (BitVec 8)) (i : Nat) (h : i < nblk l.length) : (allB l).getD i [] = blkL l i := by unfold allB; simp [List.getD_eq_getElem?_getD, h]
theorem nstr_blk (n s : Nat) : s < nstr n ↔ 4 * s < nblk n := by unfold nstr nblk; omega
theorem strB_len (l : List (BitVec 8)) (s : Nat) : (strB l s).length = min 4 (nblk l.length - 4 * s) := by unfold strB; rw [List.length_take, List.length_drop, allB_len]
theorem strB_get (l : List (BitVec 8)) (s i : Nat) (h : i < (strB l s).length) : (strB l s).getD i [] = blkL l (4 * s + i) := by
  have h1 := strB_len l s
  unfold strB
  rw [List.getD_eq_getElem?_getD, List.getElem?_take, if_pos (by omega), List.getElem?_drop]
  have := allB_get l (4 * s + i) (by omega)
  rw [List.getD_eq_getElem?_getD] at this
  exact this
theorem blk_le (l : List (BitVec 8)) (i : Nat) : (blkL l i).length ≤ 256 := by rw [blkL_len]; unfold blen; omega
theorem strB_row (l : List (BitVec 8)) (s i : Nat) : ((strB l s).getD i []).length ≤ 256 := by
  by_cases h : i < (strB l s).length
  · rw [strB_get l s i h]; exact blk_le l _
  · rw [List.getD_eq_getElem?_getD, List.getElem?_eq_none (by omega)]; simp
theorem parB_len (bs : List (List (BitVec 8))) : (parB bs).length = 2 := by unfold parB; rw [rowsL_length]
theorem parB_row (bs : List (List (BitVec 8))) (i : Nat) (h : i < 2) : ((parB bs).getD i []).length = 256 := by unfold parB; rw [rowsL_get _ _ _ _ h, rowL_length]
theorem entL_len {r : List (BitVec 8)} (h : r.length = 256) : (entL r).length = 288 := by unfold entL; rw [List.length_append, digL_len, h]
theorem two_rows {ls : List (List (BitVec 8))} (h : ls.length = 2) : ls = [ls.getD 0 [], ls.getD 1 []] := by
  match ls, h with
  | [a, b], _ => rfl
theorem strE_eq (l : List (BitVec 8)) (s : Nat) : strE l s = entL ((parB (strB l s)).getD 0 []) ++ entL ((parB (strB l s)).getD 1 []) := by
  unfold strE
  rw [two_rows (parB_len (strB l s))]
  simp
theorem strE_len (l : List (BitVec 8)) (s : Nat) : (strE l s).length = 576 := by
  rw [strE_eq, List.length_append, entL_len (parB_row _ 0 (by decide)), entL_len (parB_row _ 1 (by decide))]
theorem flat_str (l : List (BitVec 8)) (k : Nat) : (((List.range k).map (strE l)).flatten).length = 576 * k := by
  induction k with
  | zero => rfl
  | succ k ih => rw [List.range_succ, List.map_append, List.flatten_append, List.length_append, ih]; simp [strE_len]; omega
theorem mkS_len (l : List (BitVec 8)) : (mkS l).length = 32 + 576 * nstr l.length := by unfold mkS; rw [List.length_append, digL_len, flat_str]
theorem flat_snoc (l : List (BitVec 8)) (k : Nat) : ((List.range (k + 1)).map (strE l)).flatten = ((List.range k).map (strE l)).flatten ++ strE l k := by
  rw [List.range_succ, List.map_append, List.flatten_append]; simp
end Go.Proofs.YtkfceloaomlhmaaDoor
/- bytes.Clone. -/
set_option maxRecDepth 100000
namespace Go.Proofs.YtkfceloaomlhmaaDoor
open Go Go.RowKit
attribute [-go_sem] Sha.exec_store

theorem nil_yes (w : World) : (binOp BinOp.eql 22 (.slice none 0 0) (.slice none 0 0)).run Tryd.prog w = .ok (.bool true) w := by kernel_rfl
theorem nil_no (a : Addr) (n cap : Nat) (w : World) : (binOp BinOp.eql 22 (.slice (some a) n cap) (.slice none 0 0)).run Tryd.prog w = .ok (.bool false) w := by kernel_rfl
attribute [local go_sem] nil_yes nil_no
set_option maxHeartbeats 1000000 in
theorem clone_any (l : List (BitVec 8)) (p : Option Addr) (n cap : Nat) (w : World) (hl : l.length = n) (hs : Sl w p l) (hp : p = none → cap = 0) (hnc : n ≤ cap) (hn : n < 2000000000) : Calls Tryd.prog 35 #[.slice p n cap] w (fun e w' => GivesB w l e w') := by
  cases p with
  | none =>
    obtain rfl := hp rfl
    obtain rfl : n = 0 := by omega
    have hl0 : l = [] := List.eq_nil_of_length_eq_zero hl
    subst hl0
    clear hs hp hnc hn hl
    go_enter Tryd.func35, Tryd.ntmps35
    go_wp2
    go_ret
    exact ⟨_, rfl, ⟨rfl, .inl ⟨rfl, rfl⟩⟩, Below.refl _ _⟩
  | some a =>
    have HSE := Lib.hid (hs.of_below (show Below w.heap.size w (w.alloc (.cells #[] 5)) from (Below.refl _ _).alloc (Nat.le_refl _) _))
    have HO := Lib.hid (OwnB.empty w w.heap.size (Nat.le_refl _))
    have HB := Lib.hid (show Below w.heap.size w (w.alloc (.cells #[] 5)) from (Below.refl _ _).alloc (Nat.le_refl _) _)
    have HL := Lib.hid hl
    have hsz : w.heap.size ≤ (w.alloc (.cells #[] 5)).heap.size := by rw [World.size_alloc]; omega
    clear hs hp hl
    go_enter Tryd.func35, Tryd.ntmps35
    go_wp2_with (first | (refine wpl_append _ rfl (.tmp 5) (.tmp 6) rfl w.heap.size (.slice (some ⟨w.heap.size, 0, none⟩) 0 0) [] rfl HO.out (some a) n cap l HL.out rfl HSE.out (fun h => by cases h) (by simp; omega) hsz ?_; rintro v3 w3 hO3 hg3; rw [List.nil_append] at hO3; have HO3 := Lib.hid hO3; have HG3 := Lib.hid hg3; clear hO3 hg3))
    go_wp2
    go_ret
    exact ⟨_, rfl, HO3.out, HB.out.grown HG3.out hsz (fun k hk => by have : w.heap.size = k := (by simpa [Value.ownBlock] using hk); omega)⟩
end Go.Proofs.YtkfceloaomlhmaaDoor
/- Slices of bytes of the call's own, whose headers are appended one by one. -/
set_option maxRecDepth 100000
namespace Go.Proofs.YtkfceloaomlhmaaDoor
open Go Go.RowKit Go.Shelf
attribute [-go_sem] Sha.exec_store

theorem elR : ElK 42 22 (.slice none 0 0) 1 24 := ⟨by kernel_rfl, by kernel_rfl, rfl, by decide, by decide⟩
/-- The slice v, among the blocks from N on, holds slices of the bytes bs, whose blocks are not v's. -/
def Hds (w : World) (N : Nat) (v : Value) (bs : List (List (BitVec 8))) : Prop :=
  ∃ hs : List Value, w.ownsRow N 22 1 v bs.length hs ∧ ∀ i, i < bs.length → ∃ p cap, hs[i]? = some (.slice p (bs.getD i []).length cap) ∧ Sl w p (bs.getD i []) ∧ (p = none → cap = 0) ∧ ∀ c o, p = some ⟨c, o, none⟩ → N ≤ c ∧ c < w.heap.size ∧ v.ownBlock ≠ some c
theorem Hds.nil (w : World) (N : Nat) : Hds w N (.slice none 0 0) [] := ⟨[], ⟨rfl, .inl ⟨rfl, rfl⟩⟩, fun i h => absurd h (by simp)⟩
theorem Sl.keepP {w w' : World} {p : Option Addr} {l : List (BitVec 8)} (h : Sl w p l) (hk : ∀ c o, p = some ⟨c, o, none⟩ → c < w.heap.size → w'.heap[c]? = w.heap[c]?) : Sl w' p l := fun j hj => by
  obtain ⟨c, o, e, hc⟩ := h j hj
  exact ⟨c, o, e, by rw [World.cell?_of_block (w := w) (hk c o e (World.block_lt_of_cell? w _ hc))]; exact hc⟩
theorem Hds.keep {w w' : World} {N : Nat} {v : Value} {bs : List (List (BitVec 8))} (h : Hds w N v bs) (hs : w.heap.size ≤ w'.heap.size) (hb : ∀ c, N ≤ c → c < w.heap.size → w'.heap[c]? = w.heap[c]?) : Hds w' N v bs := by
  obtain ⟨cs, h1, h2⟩ := h
  refine ⟨cs, own_keep h1 (fun g hg => hb g (h1.lt g hg).1 (h1.lt g hg).2), fun i hi => ?_⟩
  obtain ⟨p, cap, e1, e2, e3, e4⟩ := h2 i hi
  exact ⟨p, cap, e1, e2.keepP (fun c o e hlt => hb c (e4 c o e).1 hlt), e3, fun c o e => ⟨(e4 c o e).1, Nat.lt_of_lt_of_le (e4 c o e).2.1 hs, (e4 c o e).2.2⟩⟩
theorem Hds.of_below {w w' : World} {N : Nat} {v : Value} {bs : List (List (BitVec 8))} (h : Hds w N v bs) (k : Below w.heap.size w w') : Hds w' N v bs := h.keep k.size fun c _ hc => k.block c hc
theorem Hds.far {w : World} {N b : Nat} {v : Value} {bs : List (List (BitVec 8))} (h : Hds w N v bs) (hb : b < N) {o : Nat} {x : Value} : Hds (w.setCell ⟨b, o, none⟩ x) N v bs := h.keep (by simp) fun c hc _ => Below.heap_setCell _ _ _ _ (by show c ≠ b; omega)
theorem Hds.put {w : World} {N k : Nat} {o : Obj} {v : Value} {bs : List (List (BitVec 8))} (h : Hds w N v bs) (hlt : k < w.heap.size) (hk : k < N := by omega) : Hds (w.putObj k o) N v bs := h.keep (below_putP (N := k) o (Nat.le_refl _) hlt).size fun c hc _ => World.putObj_heap_other (by omega)
theorem Hds.lower {w : World} {N M : Nat} {v : Value} {bs : List (List (BitVec 8))} (h : Hds w N v bs) (hM : M ≤ N) : Hds w M v bs := by
  obtain ⟨cs, h1, h2⟩ := h
  refine ⟨cs, own_lower h1 hM, fun i hi => ?_⟩
  obtain ⟨p, cap, e1, e2, e3, e4⟩ := h2 i hi
  exact ⟨p, cap, e1, e2, e3, fun c o e => ⟨Nat.le_trans hM (e4 c o e).1, (e4 c o e).2⟩⟩
theorem Hds.push {w w' : World} {N : Nat} {v v' : Value} {bs : List (List (BitVec 8))} {cs : List Value} {p : Option Addr} {cap : Nat} {r : List (BitVec 8)} (h1 : w.ownsRow N 22 1 v bs.length cs)
    (h2 : ∀ i, i < bs.length → ∃ p cap, cs[i]? = some (.slice p (bs.getD i []).length cap) ∧ Sl w p (bs.getD i []) ∧ (p = none → cap = 0) ∧ ∀ c o, p = some ⟨c, o, none⟩ → N ≤ c ∧ c < w.heap.size ∧ v.ownBlock ≠ some c)
    (hs : Sl w p r) (hp : p = none → cap = 0) (hb : ∀ c o, p = some ⟨c, o, none⟩ → N ≤ c ∧ c < w.heap.size ∧ v.ownBlock ≠ some c)
    (hO : w'.ownsRow N 22 1 v' (bs.length + 1) (cs ++ [.slice p r.length cap])) (hg : w.grownBy w' v.ownBlock) (hor : v'.ownBlock = v.ownBlock ∨ v'.ownBlock = some w.heap.size) : Hds w' N v' (bs ++ [r]) := by
  have hcl : cs.length = bs.length := by have := h1.1; omega
  have key : ∀ c, c < w.heap.size → v.ownBlock ≠ some c → w'.heap[c]? = w.heap[c]? ∧ v'.ownBlock ≠ some c := fun c h3 h4 =>
    ⟨hg.block c h3 (fun e => h4 e.symm), fun e => by
      rcases hor with e2 | e2
      · exact h4 (by rw [← e2]; exact e)
      · rw [e2] at e; injection e with e; omega⟩
  refine ⟨cs ++ [.slice p r.length cap], by rw [List.length_append]; exact hO, fun i hi => ?_⟩
  by_cases h : i < bs.length
  · obtain ⟨p', cap', e1, e2, e3, e4⟩ := h2 i h
    have hgd : (bs ++ [r]).getD i [] = bs.getD i [] := by simp [List.getD_eq_getElem?_getD, List.getElem?_append_left h]
    rw [hgd]
    exact ⟨p', cap', by rw [List.getElem?_append_left (by omega)]; exact e1, e2.keepP (fun c o e hlt => (key c hlt (e4 c o e).2.2).1), e3, fun c o e => ⟨(e4 c o e).1, Nat.lt_of_lt_of_le (e4 c o e).2.1 hg.size, (key c (e4 c o e).2.1 (e4 c o e).2.2).2⟩⟩
  · have hi' : i = bs.length := by rw [List.length_append] at hi; simp at hi; omega
    subst hi'
    have hgd : (bs ++ [r]).getD bs.length [] = r := by simp [List.getD_eq_getElem?_getD]
    rw [hgd]
    exact ⟨p, cap, by rw [← hcl]; simp, hs.keepP (fun c o e hlt => (key c hlt (hb c o e).2.2).1), hp, fun c o e => ⟨(hb c o e).1, Nat.lt_of_lt_of_le (hb c o e).2.1 hg.size, (key c (hb c o e).2.1 (hb c o e).2.2).2⟩⟩
/-- Such a slice's shape. -/
theorem Hds.shape {w : World} {N : Nat} {v : Value} {bs : List (List (BitVec 8))} (h : Hds w N v bs) : ∃ p cap, v = .slice p bs.length cap ∧ (p = none → cap = 0) ∧ bs.length ≤ cap ∧ (∀ c o, p = some ⟨c, o, none⟩ → N ≤ c ∧ c < w.heap.size) ∧
    ∀ i, i < bs.length → ∃ c o q d, p = some ⟨c, o, none⟩ ∧ w.cell? ⟨c, o + i, none⟩ = some (.slice q (bs.getD i []).length d) ∧ Sl w q (bs.getD i []) ∧ (q = none → d = 0) := by
  obtain ⟨cs, h1, h2⟩ := h
  obtain ⟨p, cap, e, h3, h4, h5, h6⟩ := own_shape h1
  refine ⟨p, cap, e, h4, h5, h6, fun i hi => ?_⟩
  obtain ⟨q, d, e1, e2, e3, -⟩ := h2 i hi
  obtain ⟨c, o, ep, hlt, hc⟩ := h3.cell e1
  exact ⟨c, o, q, d, ep, hc, e2, e3⟩
theorem blen_le (n i : Nat) : blen n i ≤ 256 := by unfold blen; omega
theorem clone_blk (l : List (BitVec 8)) (q : Option Addr) (n cap i : Nat) (u : World) (hl : l.length = n) (hs : Sl u q l) (hq : q = none → cap = 0) (hc : n ≤ cap) (hi : 256 * i < n) : Calls Tryd.prog 35 #[blkS q n i] u (fun e w' => GivesB u (blkL l i) e w') := by
  have h1 : (blkL l i).length = blen n i := by rw [blkL_len, hl]
  have h2 := blkL_sl hs i
  have h3 := blen_le n i
  have h4 : q.map (·.add (256 * i)) = none → blen n i = 0 := fun e => by
    cases q with
    | none => have := hq rfl; omega
    | some a => cases e
  unfold blkS
  generalize blen n i = m at *
  generalize q.map (·.add (256 * i)) = q' at *
  exact clone_any (blkL l i) q' m m u h1 h2 h4 (Nat.le_refl _) (by omega)
theorem new_cP (w : World) (v : Value) (T : TypeId) : (w.alloc (.cells #[v] T)).cell? ⟨w.heap.size, 0, none⟩ = some v ∧ (w.alloc (.cells #[v] T)).frozen? ⟨w.heap.size, 0, none⟩ = false := ⟨World.cell?_alloc_new _ _ _ _, by go_simp⟩
theorem pre_range {k : Nat} {pre : List Nat} {x : Nat} (h : pre ++ [x] <+: List.range k) : x < k ∧ pre.length < k ∧ x = pre.length := by
  obtain ⟨t, e⟩ := h
  have h1 : (List.range k)[pre.length]? = some x := by rw [← e]; simp
  have hl : pre.length < k := by
    have := (List.getElem?_eq_some_iff.1 h1).1
    simpa using this
  rw [List.getElem?_range hl] at h1
  injection h1 with h1
  omega
theorem others_belowP {W W' : World} (h : Below W.heap.size W W') : KeepsOthers W W' := ⟨h.size, fun k o hk _ => by rw [h.block k (Array.getElem?_eq_some_iff.1 hk).1]; exact hk⟩
theorem KeepsOthers.grown_own {w w' : World} {base k n : Nat} {E : TypeId} {v : Value} {cs : List Value} (h : w.ownsRow base E k v n cs) (hg : w.grownBy w' v.ownBlock) : KeepsOthers w w' := ⟨hg.size, fun j o hj hc => by
  have hlt := (Array.getElem?_eq_some_iff.1 hj).1
  rcases h.2 with ⟨hv, _⟩ | ⟨g, cap, cur, hv, _, hgv, _⟩
  · rw [hg.block j hlt (by rw [hv]; exact fun e => by cases e)]; exact hj
  · by_cases e : j = g
    · subst e
      rw [hgv] at hj
      injection hj with hj
      subst hj
      cases hc
    · rw [hg.block j hlt (by rw [hv]; exact fun e2 => e (by injection e2))]; exact hj⟩
theorem stepIn_appendK {F : Fence} {m : Nat} {ops : Array Oper} {o : Oper} {a : Act} {Q : Exit → Act → World → Prop} {K' : Act → World → Prop} {Z : Prop} {T E : TypeId} {z : Value} {k b n : Nat} {v : Value} {cs : List Value} (K : ElK T E z k b) (w : World) (hgd : o.guard = none) (s x : Operand)
    (ho : o.op = .call { callee := .builtin .append, args := #[s, x], argTypes := #[T, T] })
    (base : Nat) (hs : a.eval s = v) (hown : w.ownsRow base E k v n cs) (p : Option Addr) (m' c : Nat) (news : List Value) (hnl : news.length = m' * k) (hx : a.eval x = .slice p m' c) (hl : LsC w p news) (hp : p = none → c = 0 ∧ m' = 0) (h1 : ∀ u ∈ news, u.oneCell' = true)
    (hn : n + m' < 100000000) (hb : base ≤ w.heap.size)
    (h : ∀ v' w', w'.ownsRow base E k v' (n + m') (cs ++ news) → w.grownBy w' v.ownBlock → (v'.ownBlock = v.ownBlock ∨ v'.ownBlock = some w.heap.size) → K' (a.put o.dst v') w') : if Region.wanted o (yielded ops a.tmps) = true then Oper.wpIn F m Tryd.prog o a w K' Q else Z := by
  have hw : Region.wanted o (yielded ops a.tmps) = true := by simp [Region.wanted, hgd]
  rw [if_pos hw]
  obtain ⟨v', w', hr, h2, h3, h4⟩ := append_ownK K w base o.type hown p m' c news hnl hl hp h1 hn hb
  have hsem : o.semAt F.round a.eval = execOp a.eval o := Oper.semAt_eq _ _ _ (fun c e => by rw [ho] at e; cases e)
  unfold Oper.wpIn
  refine ⟨fun f hf => ?_, ?_⟩
  · exfalso
    unfold Oper.about at hf
    simp only [ho, resolve, Sem.run_bind, Sem.run_pure, Result.andThen_ok, Target.leads] at hf
    cases hf
  · rw [hsem]
    unfold execOp
    simp only [ho, resolve, invoke, builtin, Sem.run_bind, Sem.run_pure, Result.andThen_ok, List.map_toArray, List.map_cons, List.map_nil, hs, hx, hr]
    exact h v' w' h2 h3 h4
end Go.Proofs.YtkfceloaomlhmaaDoor
/- record.Cut. -/
set_option maxRecDepth 100000
namespace Go.Proofs.YtkfceloaomlhmaaDoor
open Go Go.RowKit Go.Shelf
attribute [-go_sem] Sha.exec_store

attribute [local go_sem] Oper.semAt_some
/-- What the walk of Cut carries. -/
def InvC (w : World) (N : Nat) (l : List (BitVec 8)) (pre : List Nat) (A : World) : Prop :=
  ∃ v, A.cell? ⟨N, 0, none⟩ = some v ∧ A.frozen? ⟨N, 0, none⟩ = false ∧ Hds A (N + 4) v (pre.map (blkL l)) ∧ Below w.heap.size w A ∧ N + 2 ≤ A.heap.size
theorem InvC.of_below {w : World} {N : Nat} {l : List (BitVec 8)} {pre : List Nat} {A A' : World} (h : InvC w N l pre A) (hw : w.heap.size ≤ N) (hB : Below A.heap.size A A') : InvC w N l pre A' := by
  obtain ⟨v, h1, h2, h3, h4, h5⟩ := h
  have hlt := World.block_lt_of_cell? A _ h1
  exact ⟨v, by rw [hB.cell (by exact hlt)]; exact h1, by rw [hB.frozen (by exact hlt)]; exact h2, h3.of_below hB, h4.trans (hB.mono h4.size), Nat.le_trans h5 hB.size⟩
theorem InvC.bears (w : World) (N : Nat) (l : List (BitVec 8)) (hw : w.heap.size = N) : BearsP (N + 2) (InvC w N l) :=
  ⟨fun pre A o h => h.of_below (by omega) ((Below.refl _ _).alloc (Nat.le_refl _) _),
   fun pre A o hlt h => by
    obtain ⟨v, h1, h2, h3, h4, h5⟩ := h
    have hB := below_putP (N := N + 2 + 1) o (Nat.le_refl _) hlt
    exact ⟨v, by rw [hB.cell (by show N < _; omega)]; exact h1, by rw [hB.frozen (by show N < _; omega)]; exact h2, h3.put hlt, h4.trans (hB.mono (by omega)), Nat.le_trans h5 hB.size⟩,
   fun pre A k h => h.of_below (by omega) ((show Dr A (A.drewN k) from ⟨k, rfl⟩).below _)⟩
set_option maxRecDepth 100000 in
set_option maxHeartbeats 4000000 in
theorem cut_any10 (l : List (BitVec 8)) (q : Option Addr) (n cap : Nat) (w : World) (hl : l.length = n) (hs : Sl w q l) (hq : q = none → cap = 0) (hc : n ≤ cap) (hn : n < 1000000) :
    Calls Tryd.prog 23 #[.slice q n cap] w fun e w' => ∃ v, e = .returned v ∧ Hds w' w.heap.size v ((List.range (nblk n)).map (blkL l)) ∧ Below w.heap.size w w' := by
  refine (callsIn_wide (n := 7)).1 ?_
  refine callsIn_of_wp_marks Tryd.func23 rfl trivial ?_ rfl
  simp only [Tryd.ntmps23, List.size_toArray, List.length_cons, List.length_nil, Nat.reduceAdd, Nat.reduceSub, Array.replicate_succ, Array.replicate_zero, List.push_toArray, List.append_toArray, List.nil_append, List.cons_append]
  have HSL := Lib.hid hs
  have HLN := Lib.hid hl
  have HQ := Lib.hid hq
  clear hs hl hq
  gi_wp2_with (refine ⟨trivial, ?_⟩; gi_at_call 34; refine (callsIn_wide.2 (blocks_any q n cap _)).mono ?_; rintro e w' ⟨rfl, rfl⟩)
  obtain ⟨N, hN⟩ : ∃ N, w.heap.size = N := ⟨_, rfl⟩
  obtain ⟨W1, hW1⟩ : ∃ W1, w.alloc (.cells #[.slice none 0 0] 42) = W1 := ⟨_, rfl⟩
  obtain ⟨W2, hW2⟩ : ∃ W2, W1.alloc (.cells #[.slice q n cap] 22) = W2 := ⟨_, rfl⟩
  have s1 : W1.heap.size = N + 1 := by rw [← hW1]; simp [hN]
  have s2 : W2.heap.size = N + 2 := by rw [← hW2]; simp [s1]
  have hB1 : Below w.heap.size w W1 := by rw [← hW1]; exact (Below.refl _ _).alloc (Nat.le_refl _) _
  have hB2 : Below W1.heap.size W1 W2 := by rw [← hW2]; exact (Below.refl _ _).alloc (Nat.le_refl _) _
  obtain ⟨c0, f0⟩ := new_cP w (.slice none 0 0) 42
  rw [hW1, hN] at c0 f0
  have c1 : W2.cell? ⟨N + 1, 0, none⟩ = some (.slice q n cap) := by rw [← hW2, ← s1]; exact World.cell?_alloc_new _ _ _ _
  have c0' : W2.cell? ⟨N, 0, none⟩ = some (.slice none 0 0) := by rw [hB2.cell (by show N < _; omega)]; exact c0
  have f0' : W2.frozen? ⟨N, 0, none⟩ = false := by rw [hB2.frozen (by show N < _; omega)]; exact f0
  have inv0 : InvC w N l [] W2 := ⟨_, c0', f0', Hds.nil _ _, hB1.trans (hB2.mono hB1.size), by omega⟩
  have HSEQ := Lib.hid (blocks_seq 6 (by decide) (N + 1) q n cap W2 c1 hn hc)
  rw [hW1, hW2]
  try rw [hN]
  clear hW1 hW2 hB1 hB2 c0 f0 c1 c0' f0'
  refine range_pure (m := 7) (by decide) (gf := 44) (lb := #[.pointer (some ⟨N + 1, 0, none⟩)]) (by rfl) (enters_of Tryd.func44 (by kernel_rfl) rfl)
    (encs := fun i : Nat => #[.int .i64 (i : Int), blkS q n i]) (fun _ => rfl) (b := N + 1) (by omega) HSEQ.out
    (InvC w N l) (fun _ _ => False) (by have := InvC.bears w N l hN; rw [← s2] at this; exact this) (fun _ _ _ _ h => h) inv0
    (fun i => { tmps := #[.slice q n cap, undef, .slice none 0 0, .pointer (some ⟨N, 0, none⟩), undef, blkS q n i, .slice q n cap, .func (.func 44) #[] #[.pointer (some ⟨N + 1, 0, none⟩)], .int .i64 (i : Int), blkS q n i, undef, undef, undef, undef, undef, undef], defers := [] }) ?assign ?body ?done ?stop
  case assign =>
    intro L x A K hK
    gi_wp2
    exact hK
  case body =>
    rintro L pre i A hpx hNA hinv
    rw [s2] at hNA
    have hNA : N + 4 ≤ A.heap.size := hNA
    obtain ⟨v, hcx, hfx, hHd, hBE, -⟩ := hinv
    obtain ⟨hs, hOW, hrows⟩ := hHd
    have hik := pre_range hpx
    have hlen : pre.length + 1 < 100000000 := by have := hik.2.1; unfold nblk at this; omega
    have hvlt : ∀ g, v.ownBlock = some g → N + 4 ≤ g ∧ g < A.heap.size := fun g hg => hOW.lt g hg
    have HOW := Lib.hid hOW
    have HBE := Lib.hid hBE
    have hi256 : 256 * i < n := nblk_lt hik.1
    have HCL := Lib.hid (fun (u : World) (hu : Below A.heap.size A u) => clone_blk l q n cap i u HLN.out (HSL.out.of_below (hBE.trans (hu.mono hBE.size))) HQ.out hc hi256)
    have HHD := Lib.hid (fun (x y : World) (v' : Value) (p : Option Addr) (c : Nat) (hX : Below A.heap.size A x) (h1 : Sl x p (blkL l i)) (h2 : p = none → c = 0) (h3 : ∀ c o, p = some ⟨c, o, none⟩ → A.heap.size ≤ c ∧ c < x.heap.size)
        (h4 : y.ownsRow (N + 4) 22 1 v' ((pre.map (blkL l)).length + 1) (hs ++ [.slice p (blkL l i).length c])) (h5 : x.grownBy y v.ownBlock) (h6 : v'.ownBlock = v.ownBlock ∨ v'.ownBlock = some x.heap.size) => (Hds.push (own_below hOW hX) (fun j hj => by
          obtain ⟨p', cap', e1, e2, e3, e4⟩ := hrows j hj
          exact ⟨p', cap', e1, e2.of_below hX, e3, fun c o e => ⟨(e4 c o e).1, Nat.lt_of_lt_of_le (e4 c o e).2.1 hX.size, (e4 c o e).2.2⟩⟩) h1 h2 (fun c o e => ⟨by have := (h3 c o e).1; omega, (h3 c o e).2, fun e2 => by have := (hvlt c e2).2; have := (h3 c o e).1; omega⟩) h4 h5 h6 : Hds y (N + 4) v' (pre.map (blkL l) ++ [blkL l i])))
    have HX := Lib.hid (show Below A.heap.size A A.drew from (Below.refl _ _).drew)
    have hcx : A.drew.cell? ⟨N, 0, none⟩ = some v := hcx
    have hfx : A.drew.frozen? ⟨N, 0, none⟩ = false := hfx
    have hcy := hcx
    clear hOW hrows hBE hpx hvlt hik
    gi_wp2
    refine wpIn_region_any (by kernel_rfl) ?_
    try (change wpAnyIn _ _ _ _ _ _ _ _ _ (World.drew _))
    generalize A.drew = x at *
    refine wpAnyIn_ready (rs := [0, 1]) (by kernel_rfl) (by simp) ?_
    refine (AllReadyIn.cons (by simp only [List.getElem?_toArray, List.getElem?_cons_succ, List.getElem?_cons_zero]; exact rfl) (fun K hK => ?_) (AllReadyIn.cons (by simp only [List.getElem?_toArray, List.getElem?_cons_succ, List.getElem?_cons_zero]; exact rfl) (fun K hK => ?_) AllReadyIn.nil))
    · go_simp
      refine hK _ _ ?_
      clear hK K
      try simp only [Act.put, List.setIfInBounds_toArray, List.set_cons_zero, List.set_cons_succ]
      refine wpAnyIn_ready (rs := [1]) (by kernel_rfl) (by simp) ?_
      refine (AllReadyIn.cons (by simp only [List.getElem?_toArray, List.getElem?_cons_succ, List.getElem?_cons_zero]; exact rfl) (fun K hK => ?_) AllReadyIn.nil)
      go_simp
      refine hK _ _ ?_
      clear hK K
      try simp only [Act.put, List.setIfInBounds_toArray, List.set_cons_zero, List.set_cons_succ]
      refine wpAnyIn_ready (rs := [2]) (by kernel_rfl) (by simp) ?_
      refine (AllReadyIn.cons (by simp only [List.getElem?_toArray, List.getElem?_cons_succ, List.getElem?_cons_zero]; exact rfl) (fun K hK => ?_) AllReadyIn.nil)
      go_simp
      refine ⟨trivial, (CallsIn.inRound L (callsIn_wide.2 (HCL.out _ HX.out))).mono ?_⟩
      rintro e x2 ⟨v2, rfl, hO2, hB2⟩
      obtain ⟨p2, c2, rfl, hs2, hp2, hc2⟩ := hO2.shape
      have hcx := (show x2.cell? ⟨N, 0, none⟩ = some v from by rw [hB2.cell (by exact World.block_lt_of_cell? x _ hcx)]; exact hcx)
      have hfx := (show x2.frozen? ⟨N, 0, none⟩ = false from by rw [hB2.frozen (by exact World.block_lt_of_cell? x _ hcy)]; exact hfx)
      have hcy := hcx
      have hO2 := hO2.lower (b2 := A.heap.size) HX.out.size
      have HX := Lib.hid (HX.out.trans (hB2.mono HX.out.size))
      have H2 := Lib.hid (And.intro hO2 (And.intro hs2 hp2))
      have HZ2 := Lib.hid hB2.size
      clear hO2 hB2 hs2 hp2 hc2
      refine hK _ _ ?_
      clear hK K
      try simp only [Act.put, List.setIfInBounds_toArray, List.set_cons_zero, List.set_cons_succ]
      refine wpAnyIn_ready (rs := [3]) (by kernel_rfl) (by simp) ?_
      refine (AllReadyIn.cons (by simp only [List.getElem?_toArray, List.getElem?_cons_succ, List.getElem?_cons_zero]; exact rfl) (fun K hK => ?_) AllReadyIn.nil)
      go_simp
      obtain ⟨x23, hy⟩ : ∃ y, (x2.alloc (.cells #[.slice p2 (blkL l i).length c2] 22)) = y := ⟨_, rfl⟩
      have hBa : Below x2.heap.size x2 x23 := by rw [← hy]; exact (Below.refl _ _).alloc (Nat.le_refl _) _
      have hcx := (show x23.cell? ⟨N, 0, none⟩ = some v from by rw [hBa.cell (by exact World.block_lt_of_cell? x2 _ hcx)]; exact hcx)
      have hfx := (show x23.frozen? ⟨N, 0, none⟩ = false from by rw [hBa.frozen (by exact World.block_lt_of_cell? x2 _ hcy)]; exact hfx)
      have hcy := hcx
      have HX := Lib.hid (HX.out.trans (hBa.mono HX.out.size))
      have HH := Lib.hid (show LsC x23 (some ⟨x2.heap.size, 0, none⟩) [.slice p2 (blkL l i).length c2] from by rw [← hy]; exact LsC.made _ [Value.slice p2 (blkL l i).length c2] _)
      have H2 := Lib.hid (And.intro (H2.out.1.of_below hBa) (And.intro (H2.out.2.1.of_below hBa) H2.out.2.2))
      refine hK _ _ ?_
      clear hK K
      rw [hy]
      clear hy hBa
      try simp only [Act.put, List.setIfInBounds_toArray, List.set_cons_zero, List.set_cons_succ]
      refine wpAnyIn_ready (rs := [4]) (by kernel_rfl) (by simp) ?_
      refine (AllReadyIn.cons (by simp only [List.getElem?_toArray, List.getElem?_cons_succ, List.getElem?_cons_zero]; exact rfl) (fun K hK => ?_) AllReadyIn.nil)
      have hO := own_below HOW.out HX.out
      refine stepIn_appendK elR x23 rfl (.tmp 10) (.tmp 13) rfl (N + 4) rfl hO _ 1 1 [.slice p2 (blkL l i).length c2] rfl rfl HH.out (fun h => by cases h) (fun u hu => by rw [List.mem_singleton] at hu; subst hu; rfl) (by rw [List.length_map]; omega) (Nat.le_trans hNA HX.out.size) ?_
      rintro v' x234 hO' hg hor
      have hHd := HHD.out x23 x234 v' p2 c2 HX.out H2.out.2.1 H2.out.2.2 (fun c o e => H2.out.1.lt c (by rw [e]; rfl)) hO' hg hor
      have hne : some N ≠ v.ownBlock := fun e => by have := (World.ownsRow.lt hO N e.symm).1; omega
      have hcx := (show x234.cell? ⟨N, 0, none⟩ = some v from hg.cell hcx hne)
      have hfx := (show x234.frozen? ⟨N, 0, none⟩ = false from by rw [World.frozen?_of_block (w := x23) (hg.block N (by exact World.block_lt_of_cell? x23 _ hcy) hne)]; exact hfx)
      have HBB := Lib.hid (show x234.heap[N + 1]? = A.heap[N + 1]? from by
        rw [hg.block (N + 1) (by have := HX.out.size; omega) (fun e => by have := (World.ownsRow.lt hO (N + 1) e.symm).1; omega)]
        exact HX.out.block _ (by omega))
      have HBW := Lib.hid (HBE.out.trans ((HX.out.mono (by omega)).grown hg (by have := HX.out.size; omega) (fun k hk => by have := (World.ownsRow.lt hO k hk).1; omega)))
      have HKO := Lib.hid ((others_belowP HX.out).trans (KeepsOthers.grown_own hO hg))
      have HHD2 := Lib.hid hHd
      have hv4 : ∃ p n c, v' = .slice p n c := by obtain ⟨p', c', e', -⟩ := own_shape hO'; exact ⟨_, _, _, e'⟩
      obtain ⟨p4, n4, c4, rfl⟩ := hv4
      have HZ4 := Lib.hid (show N + 4 ≤ x234.heap.size from Nat.le_trans (Nat.le_trans hNA HX.out.size) hg.size)
      clear hO hO' hg hor hHd hne
      refine hK _ _ ?_
      clear hK K
      try simp only [Act.put, List.setIfInBounds_toArray, List.set_cons_zero, List.set_cons_succ]
      refine wpAnyIn_ready (rs := [5]) (by kernel_rfl) (by simp) ?_
      refine (AllReadyIn.cons (by simp only [List.getElem?_toArray, List.getElem?_cons_succ, List.getElem?_cons_zero]; exact rfl) (fun K hK => ?_) AllReadyIn.nil)
      go_simp
      refine hK _ _ ?_
      clear hK K
      try simp only [Act.put, List.setIfInBounds_toArray, List.set_cons_zero, List.set_cons_succ]
      refine wpAnyIn_done (by kernel_rfl) ?_ _
      refine ⟨HKO.out.trans (KeepsOthers.setCell _ _ _), (Below.heap_setCell _ _ _ _ (show N + 1 ≠ N by omega)).trans HBB.out, _, World.cell?_setCell_same _ _ _ hcx, by rw [World.frozen?_setCell]; exact hfx, ?_, HBW.out.setCell (show w.heap.size ≤ (⟨N, 0, none⟩ : Addr).block by rw [hN]; exact Nat.le_refl _) _, by have := HZ4.out; simp; omega⟩
      rw [List.map_append]
      exact HHD2.out.far (by omega)
    · go_simp
      refine hK _ _ ?_
      clear hK K
      try simp only [Act.put, List.setIfInBounds_toArray, List.set_cons_zero, List.set_cons_succ]
      refine wpAnyIn_ready (rs := [0, 2]) (by kernel_rfl) (by simp) ?_
      refine (AllReadyIn.cons (by simp only [List.getElem?_toArray, List.getElem?_cons_succ, List.getElem?_cons_zero]; exact rfl) (fun K hK => ?_) (AllReadyIn.cons (by simp only [List.getElem?_toArray, List.getElem?_cons_succ, List.getElem?_cons_zero]; exact rfl) (fun K hK => ?_) AllReadyIn.nil))
      · go_simp
        refine hK _ _ ?_
        clear hK K
        try simp only [Act.put, List.setIfInBounds_toArray, List.set_cons_zero, List.set_cons_succ]
        refine wpAnyIn_ready (rs := [2]) (by kernel_rfl) (by simp) ?_
        refine (AllReadyIn.cons (by simp only [List.getElem?_toArray, List.getElem?_cons_succ, List.getElem?_cons_zero]; exact rfl) (fun K hK => ?_) AllReadyIn.nil)
        go_simp
        refine ⟨trivial, (CallsIn.inRound L (callsIn_wide.2 (HCL.out _ HX.out))).mono ?_⟩
        rintro e x2 ⟨v2, rfl, hO2, hB2⟩
        obtain ⟨p2, c2, rfl, hs2, hp2, hc2⟩ := hO2.shape
        have hcx := (show x2.cell? ⟨N, 0, none⟩ = some v from by rw [hB2.cell (by exact World.block_lt_of_cell? x _ hcx)]; exact hcx)
        have hfx := (show x2.frozen? ⟨N, 0, none⟩ = false from by rw [hB2.frozen (by exact World.block_lt_of_cell? x _ hcy)]; exact hfx)
        have hcy := hcx
        have hO2 := hO2.lower (b2 := A.heap.size) HX.out.size
        have HX := Lib.hid (HX.out.trans (hB2.mono HX.out.size))
        have H2 := Lib.hid (And.intro hO2 (And.intro hs2 hp2))
        have HZ2 := Lib.hid hB2.size
        clear hO2 hB2 hs2 hp2 hc2
        refine hK _ _ ?_
        clear hK K
        try simp only [Act.put, List.setIfInBounds_toArray, List.set_cons_zero, List.set_cons_succ]
        refine wpAnyIn_ready (rs := [3]) (by kernel_rfl) (by simp) ?_
        refine (AllReadyIn.cons (by simp only [List.getElem?_toArray, List.getElem?_cons_succ, List.getElem?_cons_zero]; exact rfl) (fun K hK => ?_) AllReadyIn.nil)
        go_simp
        obtain ⟨x23, hy⟩ : ∃ y, (x2.alloc (.cells #[.slice p2 (blkL l i).length c2] 22)) = y := ⟨_, rfl⟩
        have hBa : Below x2.heap.size x2 x23 := by rw [← hy]; exact (Below.refl _ _).alloc (Nat.le_refl _) _
        have hcx := (show x23.cell? ⟨N, 0, none⟩ = some v from by rw [hBa.cell (by exact World.block_lt_of_cell? x2 _ hcx)]; exact hcx)
        have hfx := (show x23.frozen? ⟨N, 0, none⟩ = false from by rw [hBa.frozen (by exact World.block_lt_of_cell? x2 _ hcy)]; exact hfx)
        have hcy := hcx
        have HX := Lib.hid (HX.out.trans (hBa.mono HX.out.size))
        have HH := Lib.hid (show LsC x23 (some ⟨x2.heap.size, 0, none⟩) [.slice p2 (blkL l i).length c2] from by rw [← hy]; exact LsC.made _ [Value.slice p2 (blkL l i).length c2] _)
        have H2 := Lib.hid (And.intro (H2.out.1.of_below hBa) (And.intro (H2.out.2.1.of_below hBa) H2.out.2.2))
        refine hK _ _ ?_
        clear hK K
        rw [hy]
        clear hy hBa
        try simp only [Act.put, List.setIfInBounds_toArray, List.set_cons_zero, List.set_cons_succ]
        refine wpAnyIn_ready (rs := [4]) (by kernel_rfl) (by simp) ?_
        refine (AllReadyIn.cons (by simp only [List.getElem?_toArray, List.getElem?_cons_succ, List.getElem?_cons_zero]; exact rfl) (fun K hK => ?_) AllReadyIn.nil)
        have hO := own_below HOW.out HX.out
        refine stepIn_appendK elR x23 rfl (.tmp 10) (.tmp 13) rfl (N + 4) rfl hO _ 1 1 [.slice p2 (blkL l i).length c2] rfl rfl HH.out (fun h => by cases h) (fun u hu => by rw [List.mem_singleton] at hu; subst hu; rfl) (by rw [List.length_map]; omega) (Nat.le_trans hNA HX.out.size) ?_
        rintro v' x234 hO' hg hor
        have hHd := HHD.out x23 x234 v' p2 c2 HX.out H2.out.2.1 H2.out.2.2 (fun c o e => H2.out.1.lt c (by rw [e]; rfl)) hO' hg hor
        have hne : some N ≠ v.ownBlock := fun e => by have := (World.ownsRow.lt hO N e.symm).1; omega
        have hcx := (show x234.cell? ⟨N, 0, none⟩ = some v from hg.cell hcx hne)
        have hfx := (show x234.frozen? ⟨N, 0, none⟩ = false from by rw [World.frozen?_of_block (w := x23) (hg.block N (by exact World.block_lt_of_cell? x23 _ hcy) hne)]; exact hfx)
        have HBB := Lib.hid (show x234.heap[N + 1]? = A.heap[N + 1]? from by
          rw [hg.block (N + 1) (by have := HX.out.size; omega) (fun e => by have := (World.ownsRow.lt hO (N + 1) e.symm).1; omega)]
          exact HX.out.block _ (by omega))
        have HBW := Lib.hid (HBE.out.trans ((HX.out.mono (by omega)).grown hg (by have := HX.out.size; omega) (fun k hk => by have := (World.ownsRow.lt hO k hk).1; omega)))
        have HKO := Lib.hid ((others_belowP HX.out).trans (KeepsOthers.grown_own hO hg))
        have HHD2 := Lib.hid hHd
        have hv4 : ∃ p n c, v' = .slice p n c := by obtain ⟨p', c', e', -⟩ := own_shape hO'; exact ⟨_, _, _, e'⟩
        obtain ⟨p4, n4, c4, rfl⟩ := hv4
        have HZ4 := Lib.hid (show N + 4 ≤ x234.heap.size from Nat.le_trans (Nat.le_trans hNA HX.out.size) hg.size)
        clear hO hO' hg hor hHd hne
        refine hK _ _ ?_
        clear hK K
        try simp only [Act.put, List.setIfInBounds_toArray, List.set_cons_zero, List.set_cons_succ]
        refine wpAnyIn_ready (rs := [5]) (by kernel_rfl) (by simp) ?_
        refine (AllReadyIn.cons (by simp only [List.getElem?_toArray, List.getElem?_cons_succ, List.getElem?_cons_zero]; exact rfl) (fun K hK => ?_) AllReadyIn.nil)
        go_simp
        refine hK _ _ ?_
        clear hK K
        try simp only [Act.put, List.setIfInBounds_toArray, List.set_cons_zero, List.set_cons_succ]
        refine wpAnyIn_done (by kernel_rfl) ?_ _
        refine ⟨HKO.out.trans (KeepsOthers.setCell _ _ _), (Below.heap_setCell _ _ _ _ (show N + 1 ≠ N by omega)).trans HBB.out, _, World.cell?_setCell_same _ _ _ hcx, by rw [World.frozen?_setCell]; exact hfx, ?_, HBW.out.setCell (show w.heap.size ≤ (⟨N, 0, none⟩ : Addr).block by rw [hN]; exact Nat.le_refl _) _, by have := HZ4.out; simp; omega⟩
        rw [List.map_append]
        exact HHD2.out.far (by omega)
      · go_simp
        refine ⟨trivial, (CallsIn.inRound L (callsIn_wide.2 (HCL.out _ HX.out))).mono ?_⟩
        rintro e x2 ⟨v2, rfl, hO2, hB2⟩
        obtain ⟨p2, c2, rfl, hs2, hp2, hc2⟩ := hO2.shape
        have hcx := (show x2.cell? ⟨N, 0, none⟩ = some v from by rw [hB2.cell (by exact World.block_lt_of_cell? x _ hcx)]; exact hcx)
        have hfx := (show x2.frozen? ⟨N, 0, none⟩ = false from by rw [hB2.frozen (by exact World.block_lt_of_cell? x _ hcy)]; exact hfx)
        have hcy := hcx
        have hO2 := hO2.lower (b2 := A.heap.size) HX.out.size
        have HX := Lib.hid (HX.out.trans (hB2.mono HX.out.size))
        have H2 := Lib.hid (And.intro hO2 (And.intro hs2 hp2))
        have HZ2 := Lib.hid hB2.size
        clear hO2 hB2 hs2 hp2 hc2
        refine hK _ _ ?_
        clear hK K
        try simp only [Act.put, List.setIfInBounds_toArray, List.set_cons_zero, List.set_cons_succ]
        refine wpAnyIn_ready (rs := [0, 3]) (by kernel_rfl) (by simp) ?_
        refine (AllReadyIn.cons (by simp only [List.getElem?_toArray, List.getElem?_cons_succ, List.getElem?_cons_zero]; exact rfl) (fun K hK => ?_) (AllReadyIn.cons (by simp only [List.getElem?_toArray, List.getElem?_cons_succ, List.getElem?_cons_zero]; exact rfl) (fun K hK => ?_) AllReadyIn.nil))
        · go_simp
          refine hK _ _ ?_
          clear hK K
          try simp only [Act.put, List.setIfInBounds_toArray, List.set_cons_zero, List.set_cons_succ]
          refine wpAnyIn_ready (rs := [3]) (by kernel_rfl) (by simp) ?_
          refine (AllReadyIn.cons (by simp only [List.getElem?_toArray, List.getElem?_cons_succ, List.getElem?_cons_zero]; exact rfl) (fun K hK => ?_) AllReadyIn.nil)
          go_simp
          obtain ⟨x23, hy⟩ : ∃ y, (x2.alloc (.cells #[.slice p2 (blkL l i).length c2] 22)) = y := ⟨_, rfl⟩
          have hBa : Below x2.heap.size x2 x23 := by rw [← hy]; exact (Below.refl _ _).alloc (Nat.le_refl _) _
          have hcx := (show x23.cell? ⟨N, 0, none⟩ = some v from by rw [hBa.cell (by exact World.block_lt_of_cell? x2 _ hcx)]; exact hcx)
          have hfx := (show x23.frozen? ⟨N, 0, none⟩ = false from by rw [hBa.frozen (by exact World.block_lt_of_cell? x2 _ hcy)]; exact hfx)
          have hcy := hcx
          have HX := Lib.hid (HX.out.trans (hBa.mono HX.out.size))
          have HH := Lib.hid (show LsC x23 (some ⟨x2.heap.size, 0, none⟩) [.slice p2 (blkL l i).length c2] from by rw [← hy]; exact LsC.made _ [Value.slice p2 (blkL l i).length c2] _)
          have H2 := Lib.hid (And.intro (H2.out.1.of_below hBa) (And.intro (H2.out.2.1.of_below hBa) H2.out.2.2))
          refine hK _ _ ?_
          clear hK K
          rw [hy]
          clear hy hBa
          try simp only [Act.put, List.setIfInBounds_toArray, List.set_cons_zero, List.set_cons_succ]
          refine wpAnyIn_ready (rs := [4]) (by kernel_rfl) (by simp) ?_
          refine (AllReadyIn.cons (by simp only [List.getElem?_toArray, List.getElem?_cons_succ, List.getElem?_cons_zero]; exact rfl) (fun K hK => ?_) AllReadyIn.nil)
          have hO := own_below HOW.out HX.out
          refine stepIn_appendK elR x23 rfl (.tmp 10) (.tmp 13) rfl (N + 4) rfl hO _ 1 1 [.slice p2 (blkL l i).length c2] rfl rfl HH.out (fun h => by cases h) (fun u hu => by rw [List.mem_singleton] at hu; subst hu; rfl) (by rw [List.length_map]; omega) (Nat.le_trans hNA HX.out.size) ?_
          rintro v' x234 hO' hg hor
          have hHd := HHD.out x23 x234 v' p2 c2 HX.out H2.out.2.1 H2.out.2.2 (fun c o e => H2.out.1.lt c (by rw [e]; rfl)) hO' hg hor
          have hne : some N ≠ v.ownBlock := fun e => by have := (World.ownsRow.lt hO N e.symm).1; omega
          have hcx := (show x234.cell? ⟨N, 0, none⟩ = some v from hg.cell hcx hne)
          have hfx := (show x234.frozen? ⟨N, 0, none⟩ = false from by rw [World.frozen?_of_block (w := x23) (hg.block N (by exact World.block_lt_of_cell? x23 _ hcy) hne)]; exact hfx)
          have HBB := Lib.hid (show x234.heap[N + 1]? = A.heap[N + 1]? from by
            rw [hg.block (N + 1) (by have := HX.out.size; omega) (fun e => by have := (World.ownsRow.lt hO (N + 1) e.symm).1; omega)]
            exact HX.out.block _ (by omega))
          have HBW := Lib.hid (HBE.out.trans ((HX.out.mono (by omega)).grown hg (by have := HX.out.size; omega) (fun k hk => by have := (World.ownsRow.lt hO k hk).1; omega)))
          have HKO := Lib.hid ((others_belowP HX.out).trans (KeepsOthers.grown_own hO hg))
          have HHD2 := Lib.hid hHd
          have hv4 : ∃ p n c, v' = .slice p n c := by obtain ⟨p', c', e', -⟩ := own_shape hO'; exact ⟨_, _, _, e'⟩
          obtain ⟨p4, n4, c4, rfl⟩ := hv4
          have HZ4 := Lib.hid (show N + 4 ≤ x234.heap.size from Nat.le_trans (Nat.le_trans hNA HX.out.size) hg.size)
          clear hO hO' hg hor hHd hne
          refine hK _ _ ?_
          clear hK K
          try simp only [Act.put, List.setIfInBounds_toArray, List.set_cons_zero, List.set_cons_succ]
          refine wpAnyIn_ready (rs := [5]) (by kernel_rfl) (by simp) ?_
          refine (AllReadyIn.cons (by simp only [List.getElem?_toArray, List.getElem?_cons_succ, List.getElem?_cons_zero]; exact rfl) (fun K hK => ?_) AllReadyIn.nil)
          go_simp
          refine hK _ _ ?_
          clear hK K
          try simp only [Act.put, List.setIfInBounds_toArray, List.set_cons_zero, List.set_cons_succ]
          refine wpAnyIn_done (by kernel_rfl) ?_ _
          refine ⟨HKO.out.trans (KeepsOthers.setCell _ _ _), (Below.heap_setCell _ _ _ _ (show N + 1 ≠ N by omega)).trans HBB.out, _, World.cell?_setCell_same _ _ _ hcx, by rw [World.frozen?_setCell]; exact hfx, ?_, HBW.out.setCell (show w.heap.size ≤ (⟨N, 0, none⟩ : Addr).block by rw [hN]; exact Nat.le_refl _) _, by have := HZ4.out; simp; omega⟩
          rw [List.map_append]
          exact HHD2.out.far (by omega)
        · go_simp
          obtain ⟨x23, hy⟩ : ∃ y, (x2.alloc (.cells #[.slice p2 (blkL l i).length c2] 22)) = y := ⟨_, rfl⟩
          have hBa : Below x2.heap.size x2 x23 := by rw [← hy]; exact (Below.refl _ _).alloc (Nat.le_refl _) _
          have hcx := (show x23.cell? ⟨N, 0, none⟩ = some v from by rw [hBa.cell (by exact World.block_lt_of_cell? x2 _ hcx)]; exact hcx)
          have hfx := (show x23.frozen? ⟨N, 0, none⟩ = false from by rw [hBa.frozen (by exact World.block_lt_of_cell? x2 _ hcy)]; exact hfx)
          have hcy := hcx
          have HX := Lib.hid (HX.out.trans (hBa.mono HX.out.size))
          have HH := Lib.hid (show LsC x23 (some ⟨x2.heap.size, 0, none⟩) [.slice p2 (blkL l i).length c2] from by rw [← hy]; exact LsC.made _ [Value.slice p2 (blkL l i).length c2] _)
          have H2 := Lib.hid (And.intro (H2.out.1.of_below hBa) (And.intro (H2.out.2.1.of_below hBa) H2.out.2.2))
          refine hK _ _ ?_
          clear hK K
          rw [hy]
          clear hy hBa
          try simp only [Act.put, List.setIfInBounds_toArray, List.set_cons_zero, List.set_cons_succ]
          refine wpAnyIn_ready (rs := [0]) (by kernel_rfl) (by simp) ?_
          refine (AllReadyIn.cons (by simp only [List.getElem?_toArray, List.getElem?_cons_succ, List.getElem?_cons_zero]; exact rfl) (fun K hK => ?_) AllReadyIn.nil)
          go_simp
          refine hK _ _ ?_
          clear hK K
          try simp only [Act.put, List.setIfInBounds_toArray, List.set_cons_zero, List.set_cons_succ]
          refine wpAnyIn_ready (rs := [4]) (by kernel_rfl) (by simp) ?_
          refine (AllReadyIn.cons (by simp only [List.getElem?_toArray, List.getElem?_cons_succ, List.getElem?_cons_zero]; exact rfl) (fun K hK => ?_) AllReadyIn.nil)
          have hO := own_below HOW.out HX.out
          refine stepIn_appendK elR x23 rfl (.tmp 10) (.tmp 13) rfl (N + 4) rfl hO _ 1 1 [.slice p2 (blkL l i).length c2] rfl rfl HH.out (fun h => by cases h) (fun u hu => by rw [List.mem_singleton] at hu; subst hu; rfl) (by rw [List.length_map]; omega) (Nat.le_trans hNA HX.out.size) ?_
          rintro v' x234 hO' hg hor
          have hHd := HHD.out x23 x234 v' p2 c2 HX.out H2.out.2.1 H2.out.2.2 (fun c o e => H2.out.1.lt c (by rw [e]; rfl)) hO' hg hor
          have hne : some N ≠ v.ownBlock := fun e => by have := (World.ownsRow.lt hO N e.symm).1; omega
          have hcx := (show x234.cell? ⟨N, 0, none⟩ = some v from hg.cell hcx hne)
          have hfx := (show x234.frozen? ⟨N, 0, none⟩ = false from by rw [World.frozen?_of_block (w := x23) (hg.block N (by exact World.block_lt_of_cell? x23 _ hcy) hne)]; exact hfx)
          have HBB := Lib.hid (show x234.heap[N + 1]? = A.heap[N + 1]? from by
            rw [hg.block (N + 1) (by have := HX.out.size; omega) (fun e => by have := (World.ownsRow.lt hO (N + 1) e.symm).1; omega)]
            exact HX.out.block _ (by omega))
          have HBW := Lib.hid (HBE.out.trans ((HX.out.mono (by omega)).grown hg (by have := HX.out.size; omega) (fun k hk => by have := (World.ownsRow.lt hO k hk).1; omega)))
          have HKO := Lib.hid ((others_belowP HX.out).trans (KeepsOthers.grown_own hO hg))
          have HHD2 := Lib.hid hHd
          have hv4 : ∃ p n c, v' = .slice p n c := by obtain ⟨p', c', e', -⟩ := own_shape hO'; exact ⟨_, _, _, e'⟩
          obtain ⟨p4, n4, c4, rfl⟩ := hv4
          have HZ4 := Lib.hid (show N + 4 ≤ x234.heap.size from Nat.le_trans (Nat.le_trans hNA HX.out.size) hg.size)
          clear hO hO' hg hor hHd hne
          refine hK _ _ ?_
          clear hK K
          try simp only [Act.put, List.setIfInBounds_toArray, List.set_cons_zero, List.set_cons_succ]
          refine wpAnyIn_ready (rs := [5]) (by kernel_rfl) (by simp) ?_
          refine (AllReadyIn.cons (by simp only [List.getElem?_toArray, List.getElem?_cons_succ, List.getElem?_cons_zero]; exact rfl) (fun K hK => ?_) AllReadyIn.nil)
          go_simp
          refine hK _ _ ?_
          clear hK K
          try simp only [Act.put, List.setIfInBounds_toArray, List.set_cons_zero, List.set_cons_succ]
          refine wpAnyIn_done (by kernel_rfl) ?_ _
          refine ⟨HKO.out.trans (KeepsOthers.setCell _ _ _), (Below.heap_setCell _ _ _ _ (show N + 1 ≠ N by omega)).trans HBB.out, _, World.cell?_setCell_same _ _ _ hcx, by rw [World.frozen?_setCell]; exact hfx, ?_, HBW.out.setCell (show w.heap.size ≤ (⟨N, 0, none⟩ : Addr).block by rw [hN]; exact Nat.le_refl _) _, by have := HZ4.out; simp; omega⟩
          rw [List.map_append]
          exact HHD2.out.far (by omega)
  case done =>
    rintro D A hD hinv hK
    obtain ⟨v, hcx, hfx, hHd, hBE, -⟩ := hinv
    have HD := Lib.hid hHd
    have HBE := Lib.hid hBE
    clear hHd hBE hfx inv0
    gi_wp2
    refine ⟨by simp, .inl ⟨_, _, rfl, run_takeDeferred hK, ?_⟩⟩
    have hDl := (Array.getElem?_eq_some_iff.1 hK).1
    refine ⟨v, ?_, v, rfl, (HD.out.put hDl (by omega)).lower (by omega), HBE.out.trans (below_putP _ (by omega) hDl)⟩
    simp [results, Tryd.f23, go_sem]
  case stop =>
    rintro D pre A hD hpre hF hK
    exact hF.elim
end Go.Proofs.YtkfceloaomlhmaaDoor
/- Slices of slices of bytes, as they read; the blocks of bytes one behind the other. -/
set_option maxRecDepth 100000
namespace Go.Proofs.YtkfceloaomlhmaaDoor
open Go Go.RowKit
attribute [-go_sem] Sha.exec_store

def blks (l : List (BitVec 8)) : List (List (BitVec 8)) := (List.range (nblk l.length)).map (blkL l)
theorem blks_len (l : List (BitVec 8)) : (blks l).length = nblk l.length := by unfold blks; simp
theorem blks_append {l m : List (BitVec 8)} {k : Nat} (h : l.length = 256 * k) : blks (l ++ m) = blks l ++ blks m := by
  unfold blks
  have e1 : nblk l.length = k := by rw [h]; unfold nblk; omega
  have e2 : nblk (l ++ m).length = k + nblk m.length := by rw [List.length_append, h]; unfold nblk; omega
  rw [e1, e2, List.range_add, List.map_append, List.map_map]
  congr 1
  · refine List.map_congr_left fun i hi => ?_
    have hi' : i < k := List.mem_range.1 hi
    unfold blkL
    rw [List.drop_append_of_le_length (by omega), List.take_append_of_le_length (by rw [List.length_drop]; omega)]
  · refine List.map_congr_left fun i _ => ?_
    show blkL (l ++ m) (k + i) = blkL m i
    unfold blkL
    rw [List.drop_append, List.drop_eq_nil_of_le (by omega), List.nil_append, show 256 * (k + i) - l.length = 256 * i by omega]
/-- The headers hs are those of the bytes bs. -/
def Hrows (w : World) (hs : List Value) (bs : List (List (BitVec 8))) : Prop := ∀ i, i < bs.length → ∃ p cap, hs[i]? = some (.slice p (bs.getD i []).length cap) ∧ Sl w p (bs.getD i []) ∧ (p = none → cap = 0)
theorem Hrows.append {w : World} {hs hs' : List Value} {bs bs' : List (List (BitVec 8))} (h : Hrows w hs bs) (h' : Hrows w hs' bs') (hl : hs.length = bs.length) : Hrows w (hs ++ hs') (bs ++ bs') := fun i hi => by
  rw [List.length_append] at hi
  by_cases c : i < bs.length
  · obtain ⟨p, cap, e1, e2, e3⟩ := h i c
    have hg : (bs ++ bs').getD i [] = bs.getD i [] := by simp [List.getD_eq_getElem?_getD, List.getElem?_append_left c]
    rw [hg]
    exact ⟨p, cap, by rw [List.getElem?_append_left (by omega)]; exact e1, e2, e3⟩
  · obtain ⟨p, cap, e1, e2, e3⟩ := h' (i - bs.length) (by omega)
    have hg : (bs ++ bs').getD i [] = bs'.getD (i - bs.length) [] := by simp [List.getD_eq_getElem?_getD, List.getElem?_append_right (Nat.le_of_not_lt c)]
    rw [hg]
    exact ⟨p, cap, by rw [List.getElem?_append_right (by omega), hl]; exact e1, e2, e3⟩
theorem Hrows.of_below {w w' : World} {hs : List Value} {bs : List (List (BitVec 8))} (h : Hrows w hs bs) (k : Below w.heap.size w w') : Hrows w' hs bs := fun i hi => by
  obtain ⟨p, cap, e1, e2, e3⟩ := h i hi
  exact ⟨p, cap, e1, e2.of_below k, e3⟩
theorem Hds.open {w : World} {N : Nat} {v : Value} {bs : List (List (BitVec 8))} (h : Hds w N v bs) : ∃ hs p cap, v = .slice p bs.length cap ∧ hs.length = bs.length ∧ LsC w p hs ∧ (p = none → cap = 0 ∧ bs.length = 0) ∧ bs.length ≤ cap ∧ Hrows w hs bs ∧ (∀ u ∈ hs, u.oneCell' = true) := by
  obtain ⟨hs, h1, h2⟩ := h
  obtain ⟨p, cap, e, h3, h4, h5, -⟩ := own_shape h1
  have hl : hs.length = bs.length := by have := h1.1; omega
  refine ⟨hs, p, cap, e, hl, h3, fun e => ⟨h4 e, by have := h4 e; omega⟩, h5, fun i hi => ?_, fun u hu => ?_⟩
  · obtain ⟨q, d, e1, e2, e3, -⟩ := h2 i hi
    exact ⟨q, d, e1, e2, e3⟩
  · obtain ⟨i, hi, e⟩ := List.getElem_of_mem hu
    obtain ⟨q, d, e1, -⟩ := h2 i (by omega)
    rw [List.getElem?_eq_getElem hi, e] at e1
    injection e1 with e1
    rw [e1]
    rfl
/-- A header that is read. -/
theorem Hrows.cell {w : World} {hs : List Value} {bs : List (List (BitVec 8))} {p : Option Addr} (h : Hrows w hs bs) (hl : LsC w p hs) (i : Nat) (hi : i < bs.length) : ∃ c o q d, p = some ⟨c, o, none⟩ ∧ w.cell? ⟨c, o + i, none⟩ = some (.slice q (bs.getD i []).length d) ∧ Sl w q (bs.getD i []) ∧ (q = none → d = 0) := by
  obtain ⟨q, d, e1, e2, e3⟩ := h i hi
  obtain ⟨c, o, ep, -, hc⟩ := hl.cell e1
  exact ⟨c, o, q, d, ep, hc, e2, e3⟩
end Go.Proofs.YtkfceloaomlhmaaDoor
