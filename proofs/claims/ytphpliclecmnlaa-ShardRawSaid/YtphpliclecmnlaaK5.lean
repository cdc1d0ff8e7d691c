/- Merged texts: CutM, AnyK, Code4, MulA, InvOf, CdA, BEq, OwnX. -/
import Derived.Test.YtphpliclecmnlaaK4
import Derived.Test.YtphpliclecmnlaaK3
import Derived.Lib.Walk
import Derived.Test.YtphpliclecmnlaaK2
set_option linter.unusedSimpArgs false
set_option linter.unusedVariables false
/- Rows and columns cut out of a Cauchy matrix; nothing of the program. -/
namespace Go.Proofs.Ytphpliclecmnlaa

/-- Different numbers below m. -/
def Picks (m : Nat) (l : List Nat) : Prop := ∀ i, i < l.length → l.getD i 0 < m ∧ ∀ j, j < i → l.getD i 0 ≠ l.getD j 0
theorem Picks.nil (m : Nat) : Picks m [] := fun i hi => absurd hi (by simp)
theorem Picks.push {m : Nat} {l : List Nat} (h : Picks m l) (a : Nat) (ha : a < m) (hd : ∀ j, j < l.length → l.getD j 0 ≠ a) : Picks m (l ++ [a]) := by
  have e1 : ∀ i, i < l.length → (l ++ [a]).getD i 0 = l.getD i 0 := fun i hi => by simp [List.getD_eq_getElem?_getD, List.getElem?_append_left hi]
  have e2 : (l ++ [a]).getD l.length 0 = a := by simp [List.getD_eq_getElem?_getD]
  intro i hi
  rw [List.length_append] at hi
  have h1 : ([a] : List Nat).length = 1 := rfl
  by_cases h2 : i < l.length
  · rw [e1 i h2]
    exact ⟨(h i h2).1, fun j hj => by rw [e1 j (by omega)]; exact (h i h2).2 j hj⟩
  · obtain rfl : i = l.length := by omega
    rw [e2]
    exact ⟨ha, fun j hj => by rw [e1 j hj]; exact (hd j hj).symm⟩
/-- So far a and b are new. -/
def frB (rl sl : List Nat) (a b j : Nat) : Bool := decide (∀ n, n < j → rl.getD n 0 ≠ a ∧ sl.getD n 0 ≠ b)
theorem fr_zero (rl sl : List Nat) (a b : Nat) : frB rl sl a b 0 = true := decide_eq_true fun n hn => absurd hn (by omega)
theorem fr_next (rl sl : List Nat) (a b j : Nat) (h : frB rl sl a b j = true) (h1 : rl.getD j 0 ≠ a) (h2 : sl.getD j 0 ≠ b) : frB rl sl a b (j + 1) = true := decide_eq_true fun n hn => by
  rcases Nat.lt_or_ge n j with h3 | h3
  · exact of_decide_eq_true h n h3
  · obtain rfl : n = j := by omega
    exact ⟨h1, h2⟩
theorem fr_no1 (rl sl : List Nat) (a b j : Nat) (h1 : rl.getD j 0 = a) : frB rl sl a b (j + 1) = false := decide_eq_false fun g => (g j (by omega)).1 h1
theorem fr_no2 (rl sl : List Nat) (a b j : Nat) (h1 : sl.getD j 0 = b) : frB rl sl a b (j + 1) = false := decide_eq_false fun g => (g j (by omega)).2 h1
theorem fr_still (rl sl : List Nat) (a b j : Nat) (h : frB rl sl a b j = false) : frB rl sl a b (j + 1) = false := decide_eq_false fun g => of_decide_eq_false h fun n hn => g n (by omega)
/-- What is cut out. -/
def cutM (k : Nat) (rl sl : List Nat) : Mx := fun i j => cau k (rl.getD i 0) (sl.getD j 0)
theorem ofNat8_ne (a b : Nat) (ha : a < 256) (hb : b < 256) (h : a ≠ b) : BitVec.ofNat 8 a ≠ BitVec.ofNat 8 b := fun e => h (by
  have := congrArg BitVec.toNat e
  simp only [BitVec.toNat_ofNat] at this
  omega)
theorem picks_ne {m : Nat} {l : List Nat} (h : Picks m l) (i j : Nat) (hi : i < l.length) (hj : j < l.length) (hij : i ≠ j) : l.getD i 0 ≠ l.getD j 0 := by
  rcases Nat.lt_or_gt_of_ne hij with h1 | h1
  · exact ((h j hj).2 i h1).symm
  · exact (h i hi).2 j h1
theorem cut_not (k m t : Nat) (rl sl : List Nat) (hk : k ≤ 64) (hm : m ≤ 64) (hr : Picks m rl) (hs : Picks k sl) (h1 : rl.length = t) (h2 : sl.length = t) : ¬ NoInv t (mx (rowsL t t (cutM k rl sl))) := fun h => by
  obtain ⟨v, l, hl, hv, h3⟩ := h.kernel
  have hrm : ∀ i, i < t → rl.getD i 0 < m := fun i hi => (hr i (by omega)).1
  have hsk : ∀ j, j < t → sl.getD j 0 < k := fun j hj => (hs j (by omega)).1
  have h0 := cauchy_kernel t (fun i => BitVec.ofNat 8 (k + rl.getD i 0)) (fun j => BitVec.ofNat 8 (sl.getD j 0))
    (fun i j hi hj hij => ofNat8_ne _ _ (by have := hrm i hi; omega) (by have := hrm j hj; omega) (fun e => picks_ne hr i j (by omega) (by omega) hij (by omega)))
    (fun i j hi hj hij => ofNat8_ne _ _ (by have := hsk i hi; omega) (by have := hsk j hj; omega) (picks_ne hs i j (by omega) (by omega) hij))
    (fun i j hi hj => ofNat8_ne _ _ (by have := hrm i hi; omega) (by have := hsk j hj; omega) (by have := hsk j hj; omega))
    v (fun i hi => by
      rw [← h3 i hi]
      exact xs_congr fun j hj => by rw [rowsL_mx _ _ _ _ _ hi hj]; rfl) l hl
  rw [hv] at h0
  exact absurd h0 (by decide)
end Go.Proofs.Ytphpliclecmnlaa
/- Any k rows of the unit above a Cauchy matrix have an inverse; nothing of the program. -/
namespace Go.Proofs.Ytphpliclecmnlaa

/-- The unit above the Cauchy matrix: row i of all shards. -/
def ext (k : Nat) : Mx := fun i j => if i < k then id1 i j else cau k (i - k) j
/-- Numbers of l that p holds of, in order; their number. -/
theorem filter_getD_mem (l : List Nat) (i : Nat) (h : i < l.length) : l.getD i 0 ∈ l := by
  rw [List.getD_eq_getElem?_getD, List.getElem?_eq_getElem h]
  exact List.getElem_mem h
theorem nodup_ne {l : List Nat} (h : l.Nodup) (i j : Nat) (hi : i < l.length) (hj : j < l.length) (hij : i ≠ j) : l.getD i 0 ≠ l.getD j 0 := by
  have e : ∀ n, n < l.length → l.getD n 0 = l[n]! := fun n hn => by simp [List.getD_eq_getElem?_getD, hn]
  rw [List.getD_eq_getElem?_getD, List.getD_eq_getElem?_getD, List.getElem?_eq_getElem hi, List.getElem?_eq_getElem hj]
  simp only [Option.getD_some]
  exact fun e => hij ((List.getElem_inj h).1 e)
/-- A sum over all numbers below n is the sum over those of which p holds, if nothing is added elsewhere. -/
theorem xs_filter (n : Nat) (p : Nat → Bool) (f : Nat → BitVec 8) (h : ∀ i, i < n → p i = false → f i = 0#8) : xs n f = xs ((List.range n).filter p).length (fun t => f (((List.range n).filter p).getD t 0)) := by
  induction n with
  | zero => rfl
  | succ n ih =>
    show xs n f ^^^ f n = _
    rw [ih fun i hi => h i (by omega)]
    rw [List.range_succ, List.filter_append]
    cases hp : p n with
    | true =>
      have e1 : List.filter p [n] = [n] := by simp [hp]
      rw [e1, List.length_append]
      show _ = xs (((List.range n).filter p).length + 1) _
      show _ = xs ((List.range n).filter p).length _ ^^^ _
      have e2 : (((List.range n).filter p) ++ [n]).getD ((List.range n).filter p).length 0 = n := by simp [List.getD_eq_getElem?_getD]
      have e3 : (fun t => f ((((List.range n).filter p) ++ [n]).getD t 0)) ((List.range n).filter p).length = f n := by
        show f _ = f n
        rw [e2]
      rw [e3]
      congr 1
      exact xs_congr fun t ht => by simp [List.getD_eq_getElem?_getD, List.getElem?_append_left ht]
    | false =>
      have e1 : List.filter p [n] = [] := by simp [hp]
      rw [e1, List.append_nil, h n (by omega) hp, BitVec.xor_zero]
/-- Rows that are picked: rs i is the number of the i-th of k different rows among k + m. -/
theorem ext_not (k m : Nat) (rl : List Nat) (hk1 : 1 ≤ k) (hkm : k + m ≤ 64) (hr : Picks (k + m) rl) (hl : rl.length = k) (a : Mx) (ha : ∀ i j, i < k → j < k → a i j = ext k (rl.getD i 0) j) : ¬ NoInv k a := fun hno => by
  obtain ⟨v, l, hlk, hv, h3⟩ := hno.kernel
  have hlt : ∀ i, i < k → rl.getD i 0 < k + m := fun i hi => (hr i (by omega)).1
  have hne : ∀ i j, i < k → j < k → i ≠ j → rl.getD i 0 ≠ rl.getD j 0 := fun i j hi hj hij => picks_ne hr i j (by omega) (by omega) hij
  have row : ∀ i, i < k → xs k (fun j => gm (ext k (rl.getD i 0) j) (v j)) = 0#8 := fun i hi => by
    rw [← h3 i hi]; exact xs_congr fun j hj => by rw [ha i j hi hj]
  -- the unit's rows that are picked
  have unit0 : ∀ i, i < k → rl.getD i 0 < k → v (rl.getD i 0) = 0#8 := fun i hi hu => by
    have h4 := row i hi
    rw [xs_one k (rl.getD i 0) hu _ (fun j _ hj => by
      show gm (if rl.getD i 0 < k then id1 (rl.getD i 0) j else _) (v j) = 0#8
      rw [if_pos hu, id1, if_neg (Ne.symm hj), gm_zl])] at h4
    have h5 : gm (if rl.getD i 0 < k then id1 (rl.getD i 0) (rl.getD i 0) else cau k (rl.getD i 0 - k) (rl.getD i 0)) (v (rl.getD i 0)) = 0#8 := h4
    rwa [if_pos hu, id1, if_pos rfl, gm_one] at h5
  -- the columns that no picked row of the unit names, the picked rows of the Cauchy matrix
  let pc : Nat → Bool := fun j => decide (∀ i, i < k → rl.getD i 0 ≠ j)
  let pr : Nat → Bool := fun i => decide (k ≤ rl.getD i 0)
  let cs := (List.range k).filter pc
  let rs := (List.range k).filter pr
  have hcs : ∀ t, t < cs.length → cs.getD t 0 < k ∧ pc (cs.getD t 0) = true := fun t ht => by
    have := filter_getD_mem cs t ht
    have := List.mem_filter.1 this
    exact ⟨by simpa using this.1, this.2⟩
  have hrs : ∀ t, t < rs.length → rs.getD t 0 < k ∧ k ≤ rl.getD (rs.getD t 0) 0 := fun t ht => by
    have := filter_getD_mem rs t ht
    have := List.mem_filter.1 this
    exact ⟨by simpa using this.1, of_decide_eq_true this.2⟩
  have ndc : cs.Nodup := List.nodup_range.filter _
  have ndr : rs.Nodup := List.nodup_range.filter _
  have vz : ∀ j, j < k → pc j = false → v j = 0#8 := fun j hj hp => by
    have h1 : ¬ ∀ i, i < k → rl.getD i 0 ≠ j := of_decide_eq_false hp
    obtain ⟨i, h2⟩ := Classical.not_forall.1 h1
    obtain ⟨hi, h4⟩ := Classical.not_imp.1 h2
    have h5 : rl.getD i 0 = j := Decidable.byContradiction h4
    have := unit0 i hi (by omega)
    rwa [h5] at this
  -- as many of the ones as of the others
  have hlen : rs.length = cs.length := by
    have e1 : rs.length + ((List.range k).filter fun i => !pr i).length = k := by
      have := List.length_eq_countP_add_countP pr (l := List.range k)
      rw [List.length_range] at this
      rw [show rs.length = List.countP pr (List.range k) from List.countP_eq_length_filter.symm, ← List.countP_eq_length_filter]
      simpa using this.symm
    have e2 : cs.length + ((List.range k).filter fun j => !pc j).length = k := by
      have := List.length_eq_countP_add_countP pc (l := List.range k)
      rw [List.length_range] at this
      rw [show cs.length = List.countP pc (List.range k) from List.countP_eq_length_filter.symm, ← List.countP_eq_length_filter]
      simpa using this.symm
    have e3 : ((List.range k).filter fun i => !pr i).length = ((List.range k).filter fun j => !pc j).length := by
      have n1 : (((List.range k).filter fun i => !pr i).map fun i => rl.getD i 0).Nodup := by
        refine List.Pairwise.map _ (R := fun i j => i ≠ j ∧ i < k ∧ j < k) (fun i j h => hne i j h.2.1 h.2.2 h.1) ?_
        have nd : ((List.range k).filter fun i => !pr i).Nodup := List.nodup_range.filter _
        refine List.Pairwise.imp_of_mem (fun {x y} hx hy hxy => ⟨hxy, by simpa using (List.mem_filter.1 hx).1, by simpa using (List.mem_filter.1 hy).1⟩) nd
      have n2 : ((List.range k).filter fun j => !pc j).Nodup := List.nodup_range.filter _
      have hperm : (((List.range k).filter fun i => !pr i).map fun i => rl.getD i 0).Perm ((List.range k).filter fun j => !pc j) := by
        refine (List.perm_ext_iff_of_nodup n1 n2).2 fun j => ?_
        constructor
        · intro h
          obtain ⟨i, hi, rfl⟩ := List.mem_map.1 h
          obtain ⟨hi1, hi2⟩ := List.mem_filter.1 hi
          have hi1 : i < k := by simpa using hi1
          have hi3 : ¬ k ≤ rl.getD i 0 := by simpa [pr] using hi2
          refine List.mem_filter.2 ⟨by simpa using (by omega : rl.getD i 0 < k), ?_⟩
          have : pc (rl.getD i 0) = false := decide_eq_false fun g => g i hi1 rfl
          show (!pc (rl.getD i 0)) = true
          rw [this]; rfl
        · intro h
          obtain ⟨hj1, hj2⟩ := List.mem_filter.1 h
          have hj1 : j < k := by simpa using hj1
          have hj3 : pc j = false := by simpa using hj2
          have h1 : ¬ ∀ i, i < k → rl.getD i 0 ≠ j := of_decide_eq_false hj3
          obtain ⟨i, h2⟩ := Classical.not_forall.1 h1
          obtain ⟨hi, h4⟩ := Classical.not_imp.1 h2
          have h5 : rl.getD i 0 = j := Decidable.byContradiction h4
          refine List.mem_map.2 ⟨i, List.mem_filter.2 ⟨by simpa using hi, ?_⟩, h5⟩
          have : pr i = false := decide_eq_false (by omega)
          show (!pr i) = true
          rw [this]; rfl
      have := hperm.length_eq
      rwa [List.length_map] at this
    omega
  have h0 := cauchy_kernel cs.length (fun t => BitVec.ofNat 8 (k + (rl.getD (rs.getD t 0) 0 - k))) (fun t => BitVec.ofNat 8 (cs.getD t 0))
    (fun i j hi hj hij => ofNat8_ne _ _ (by have := hlt _ (hrs i (by omega)).1; omega) (by have := hlt _ (hrs j (by omega)).1; omega) (fun e => by
      have a1 := hrs i (by omega)
      have a2 := hrs j (by omega)
      exact hne _ _ a1.1 a2.1 (nodup_ne ndr i j (by omega) (by omega) hij) (by omega)))
    (fun i j hi hj hij => ofNat8_ne _ _ (by have := (hcs i hi).1; omega) (by have := (hcs j hj).1; omega) (nodup_ne ndc i j hi hj hij))
    (fun i j hi hj => ofNat8_ne _ _ (by have := hlt _ (hrs i (by omega)).1; omega) (by have := (hcs j hj).1; omega) (by have := (hcs j hj).1; omega))
    (fun t => v (cs.getD t 0)) (fun t ht => by
      have a1 := hrs t (by omega)
      have a2 := row _ a1.1
      rw [xs_filter k pc _ (fun j hj hp => by rw [vz j hj hp, gm_zr])] at a2
      rw [← a2]
      refine xs_congr fun j hj => ?_
      show gm (gi _) (v (cs.getD j 0)) = gm (if rl.getD (rs.getD t 0) 0 < k then _ else cau k (rl.getD (rs.getD t 0) 0 - k) (cs.getD j 0)) (v (cs.getD j 0))
      rw [if_neg (by omega)]
      rfl)
  -- so all of v is nothing
  cases hp : pc l with
  | false =>
    have := vz l hlk hp
    rw [hv] at this
    exact absurd this (by decide)
  | true =>
    have hm : l ∈ cs := List.mem_filter.2 ⟨by simpa using hlk, hp⟩
    obtain ⟨t, ht, e⟩ := List.getElem_of_mem hm
    have := h0 t ht
    have e2 : cs.getD t 0 = l := by rw [List.getD_eq_getElem?_getD, List.getElem?_eq_getElem ht]; simpa using e
    rw [e2, hv] at this
    exact absurd this (by decide)
end Go.Proofs.Ytphpliclecmnlaa
/- What the program's codes are asked to do, whatever they look like in memory: the premises of layer 4's walks. -/
namespace Go.Proofs.Ytphpliclecmnlaa
open Go Go.RowKit

/-- A result and an error's number are returned, of which R holds; nothing that was there has changed. -/
def RetR (w : World) (R : Value → Int → World → Prop) (e : Ending) (w' : World) : Prop := ∃ r t, e = .returned (.tuple #[r, .int .i64 t]) ∧ R r t w' ∧ Below w.heap.size w w'
/-- The parity of k data shards. -/
def parL (k m : Nat) (ls : List (List (BitVec 8))) : List (List (BitVec 8)) := rowsL m (ls.getD 0 []).length (mm k (cau k) (mx ls))
/-- What Encode returns. -/
def EncR (k m : Nat) (ls : List (List (BitVec 8))) (r : Value) (t : Int) (w' : World) : Prop :=
  (evB ls k = false ∧ r = .slice none 0 0 ∧ t = 2) ∨ (evB ls k = true ∧ t = 0 ∧ ∃ q c, r = .slice q m c ∧ Prt w' q (parL k m ls))
/-- The bools that lie where a slice of their number begins. -/
def Bl (w : World) (q : Option Addr) (th : List Bool) : Prop := ∀ j, j < th.length → ∃ c o, q = some ⟨c, o, none⟩ ∧ w.cell? ⟨c, o + j, none⟩ = some (.bool (th.getD j false))
/-- The shards that are there. -/
def thereL (ls : List (List (BitVec 8))) (th : List Bool) : List (List (BitVec 8)) := ((List.range ls.length).filter fun i => th.getD i false).map fun i => ls.getD i []
/-- All shards, told from those that are there. -/
def DecOk (k m : Nat) (ls : List (List (BitVec 8))) (th : List Bool) (out : List (List (BitVec 8))) : Prop :=
  ∃ L, out.length = k + m ∧ (∀ i, i < k + m → (out.getD i []).length = L) ∧ (∀ i, i < k + m → th.getD i false = true → (ls.getD i []).length = L) ∧
    ∃ (D : Mx) (rl : List Nat), Picks (k + m) rl ∧ rl.length = k ∧ (∀ t, t < k → th.getD (rl.getD t 0) false = true ∧ ∀ x, x < L → mm k (ext k) D (rl.getD t 0) x = mx ls (rl.getD t 0) x) ∧
      ∀ i x, i < k + m → x < L → mx out i x = if th.getD i false = true then mx ls i x else mm k (ext k) D i x
/-- What Decode returns. -/
def DecR (k m : Nat) (ls : List (List (BitVec 8))) (th : List Bool) (r : Value) (t : Int) (w' : World) : Prop :=
  (¬ (ls.length = k + m ∧ th.length = k + m ∧ eqB (thereL ls th) = true) ∧ r = .slice none 0 0 ∧ t = 2) ∨
  ((ls.length = k + m ∧ th.length = k + m ∧ eqB (thereL ls th) = true) ∧
    (((thereL ls th).length < k ∧ r = .slice none 0 0 ∧ t = 5) ∨ (k ≤ (thereL ls th).length ∧ t = 0 ∧ ∃ q c out, r = .slice q (k + m) c ∧ k + m ≤ c ∧ Prt w' q out ∧ DecOk k m ls th out)))
/-- What Check returns. -/
def chkI (k m : Nat) (ls : List (List (BitVec 8))) : Int := if evB ls (k + m) = true then (if ls.drop k = parL k m (ls.take k) then 0 else 11) else 2
/-- Bytes, cut. -/
def cutEach (k n : Nat) : Nat := (n + k - 1) / k
def cutL (k : Nat) (l : List (BitVec 8)) : List (List (BitVec 8)) := rowsL k (cutEach k l.length) fun i j => l.getD (i * cutEach k l.length + j) 0#8
/-- The premises: Cd w b k m: block b is a code of k and m. -/
structure CodeSpec (Cd : World → Nat → Nat → Nat → Prop) : Prop where
  keep : ∀ {w w' : World} {b k m : Nat}, Cd w b k m → Below w.heap.size w w' → Cd w' b k m
  new : ∀ (k m : Nat) (w : World), 1 ≤ k → 1 ≤ m → k + m ≤ 32 → Calls Try.prog 12 #[.int .i64 (k : Int), .int .i64 (m : Int)] w fun e w' => ∃ b, e = .returned (.tuple #[.pointer (some ⟨b, 0, none⟩), .int .i64 0]) ∧ Cd w' b k m ∧ Below w.heap.size w w'
  newNo : ∀ (x y : Int) (w : World), -9223372036854775808 ≤ x → x ≤ 9223372036854775807 → -9223372036854775808 ≤ y → y ≤ 9223372036854775807 → ¬ (1 ≤ x ∧ 1 ≤ y ∧ x + y ≤ 32) → Calls Try.prog 12 #[.int .i64 x, .int .i64 y] w fun e w' => e = .returned (.tuple #[.pointer none, .int .i64 1]) ∧ Below w.heap.size w w'
  data : ∀ (b k m : Nat) (w : World), Cd w b k m → Calls Try.prog 21 #[.pointer (some ⟨b, 0, none⟩)] w fun e w' => e = .returned (.int .i64 (k : Int)) ∧ w = w'
  parity : ∀ (b k m : Nat) (w : World), Cd w b k m → Calls Try.prog 22 #[.pointer (some ⟨b, 0, none⟩)] w fun e w' => e = .returned (.int .i64 (m : Int)) ∧ w = w'
  enc : ∀ (b k m : Nat) (ls : List (List (BitVec 8))) (p : Option Addr) (n cap : Nat) (w : World), Cd w b k m → Prt w p ls → ls.length = n → n < 1000 → (∀ i, i < n → (ls.getD i []).length < 100000) → Calls Try.prog 14 #[.pointer (some ⟨b, 0, none⟩), .slice p n cap] w (RetR w (EncR k m ls))
  dec : ∀ (b k m : Nat) (ls : List (List (BitVec 8))) (th : List Bool) (p q : Option Addr) (n l cap cap' : Nat) (w : World), Cd w b k m → Prt w p ls → Bl w q th → ls.length = n → th.length = l → n < 1000 → l < 1000 → (∀ i, i < n → (ls.getD i []).length < 100000) →
    Calls Try.prog 19 #[.pointer (some ⟨b, 0, none⟩), .slice p n cap, .slice q l cap'] w (RetR w (DecR k m ls th))
  chk : ∀ (b k m : Nat) (ls : List (List (BitVec 8))) (p : Option Addr) (n cap : Nat) (w : World), Cd w b k m → Prt w p ls → ls.length = n → n < 1000 → n ≤ cap → (∀ i, i < n → (ls.getD i []).length < 100000) → Calls Try.prog 18 #[.pointer (some ⟨b, 0, none⟩), .slice p n cap] w fun e w' => e = .returned (.int .i64 (chkI k m ls)) ∧ Below w.heap.size w w'
  cut : ∀ (b k m : Nat) (l : List (BitVec 8)) (p : Option Addr) (n cap : Nat) (w : World), Cd w b k m → Sl w p l → l.length = n → n < 100000 → n ≤ cap → Calls Try.prog 20 #[.pointer (some ⟨b, 0, none⟩), .slice p n cap] w fun e w' => ∃ q c, e = .returned (.tuple #[.slice q k c, .int .i64 ((cutEach k n : Nat) : Int)]) ∧ Prt w' q (cutL k l) ∧ Below w.heap.size w w'
theorem bs00 (w : World) : (bsT 38 2 #[(0, .int .u8 0), (1, .int .u8 0)]).run Try.prog w = .ok (.value (.slice (some ⟨w.heap.size, 0, none⟩) 2 2)) (w.alloc (.cells #[B 0#8, B 0#8] 5)) := by
  rw [B_0]; kernel_rfl
theorem par_zero : parL 1 2 [[0#8, 0#8]] = [[0#8, 0#8], [0#8, 0#8]] := by
  have e : parL 1 2 [[0#8, 0#8]] = rowsL 2 2 (fun _ _ => 0#8) := rowsL_congr fun i j _ hj => by
    show 0#8 ^^^ gm (cau 1 i 0) (mx [[0#8, 0#8]] 0 j) = 0#8
    have hz : mx [[0#8, 0#8]] 0 j = 0#8 := by
      match j, hj with
      | 0, _ => rfl
      | 1, _ => rfl
    rw [hz, gm_zr, BitVec.xor_zero]
  rw [e]; rfl
attribute [local go_sem ↓] exec_bs
attribute [local go_sem] bs00 bsR
set_option maxHeartbeats 2000000 in
theorem awake4 {Cd : World → Nat → Nat → Nat → Prop} (S : CodeSpec Cd) (w0 w : World) (h : Below w0.heap.size w0 w) : Calls Try.prog 10 #[] w fun e w' => e = .returned (.bool true) ∧ Below w0.heap.size w0 w' := by
  have HB := Lib.hid h
  have HS := Lib.hid S
  clear h S
  go_enter Try.func10, Try.ntmps10
  go_wp2_with fail
  refine (HS.out.new 1 2 w (by decide) (by decide) (by decide)).mono ?_
  rintro e w1 ⟨b, rfl, hC, hB1⟩
  have HC := Lib.hid hC
  have HB1 := Lib.hid (bel_step HB.out hB1)
  clear hC hB1 HB
  go_wp2_with fail
  refine (HS.out.data b 1 2 w1 HC.out).mono ?_
  rintro e w2 ⟨rfl, rfl⟩
  go_wp2_with fail
  refine (HS.out.parity b 1 2 w1 HC.out).mono ?_
  rintro e w2 ⟨rfl, rfl⟩
  have hA : Below w1.heap.size w1 ((w1.alloc (.cells #[B 0#8, B 0#8] 5)).alloc (.cells #[.slice (some ⟨w1.heap.size, 0, none⟩) 2 2] 38)) := ((Below.refl _ _).alloc (Nat.le_refl _) _).alloc (by rw [World.size_alloc]; omega) _
  have HC2 := Lib.hid (HS.out.keep HC.out hA)
  have HB2 := Lib.hid (bel_step HB1.out hA)
  have HP2 := Lib.hid (show Prt ((w1.alloc (.cells #[B 0#8, B 0#8] 5)).alloc (.cells #[.slice (some ⟨w1.heap.size, 0, none⟩) 2 2] 38)) (some ⟨(w1.alloc (.cells #[B 0#8, B 0#8] 5)).heap.size, 0, none⟩) [[0#8, 0#8]] from fun i hi => by
    obtain rfl : i = 0 := by simpa using hi
    refine ⟨_, 0, some ⟨w1.heap.size, 0, none⟩, 2, rfl, by rw [World.cell?_alloc_new]; rfl, fun j hj => ⟨w1.heap.size, 0, rfl, ?_⟩, (fun h => by cases h), Nat.le_refl _⟩
    have hlt : w1.heap.size < (w1.alloc (.cells #[B 0#8, B 0#8] 5)).heap.size := by rw [World.size_alloc]; omega
    rw [World.cell?_alloc_lt _ _ _ hlt, Nat.zero_add, World.cell?_alloc_new]
    match j, hj with
    | 0, _ => rfl
    | 1, _ => rfl)
  rw [show (w1.alloc (.cells #[B 0#8, B 0#8] 5)).heap.size = w1.heap.size + 1 from World.size_alloc ..] at HP2
  have HLN := Lib.hid (show ∀ i, i < 1 → (([[0#8, 0#8]] : List (List (BitVec 8))).getD i []).length < 100000 from fun i hi => by
    obtain rfl : i = 0 := by omega
    decide)
  clear hA
  go_wp2_with fail
  refine (HS.out.enc b 1 2 [[0#8, 0#8]] _ 1 1 _ HC2.out HP2.out rfl (by decide) HLN.out).mono ?_
  rintro e w3 ⟨r, t, rfl, hR, hB3⟩
  have HB3 := Lib.hid (bel_step HB2.out hB3)
  rcases hR with ⟨he, -, -⟩ | ⟨-, rfl, q, c, rfl, hp⟩
  · exact absurd he (by decide)
  rw [par_zero] at hp
  obtain ⟨c1, o1, q1, cap1, rfl, -, hc1, hs1, hq1, -⟩ := hp.at_ 1 (by decide)
  have hv := conv_str w3 q1 _ 2 cap1 hs1 rfl hq1
  have hst : ((strOf [0#8, 0#8]).toList == [0, 0]) = true := by rw [str_list]; rfl
  clear hB3 hp hs1 hq1
  go_wp2
  go_ret
  exact ⟨rfl, HB3.out⟩
end Go.Proofs.Ytphpliclecmnlaa
/- The program's Apply. -/
namespace Go.Proofs.Ytphpliclecmnlaa
open Go Go.RowKit

section
variable (b : Nat) (la lb : List (List (BitVec 8))) (p q : Option Addr) (n k m k' cap cap' : Nat) (w : World)
set_option maxHeartbeats 2000000 in
/-- Rows of any common length, as many as the matrix has columns. -/
theorem apply_ok (hF : Fld w b) (ha : Prt w p la) (hb : Prt w q lb) (ga : Good la n k) (hlb : lb.length = k) (hrb : ∀ i, i < k → (lb.getD i []).length = m) (hm : m < 4294967296) :
    Calls Try.prog 25 #[.pointer (some ⟨b, 0, none⟩), .slice p n cap, .slice q k cap'] w (RetOk w.heap.size w n m (mm k (mx la) (mx lb))) := by
  have g1 := ga.lo
  have g2 := ga.hi
  have g3 := ga.mlo
  have g4 := ga.mhi
  have HF := Lib.hid hF
  have HA := Lib.hid ha
  have HB := Lib.hid hb
  have GA := Lib.hid ga
  have HLB := Lib.hid hlb
  have HRB := Lib.hid hrb
  obtain ⟨c, o, q0, cap0, rfl, hc0, hc⟩ := ha.head (by rw [ga.len]; omega)
  rw [ga.head] at hc
  have ta := ga.true_
  have te : eqB lb = true := decide_eq_true fun i hi => by rw [hrb i (by omega), hrb 0 (by omega)]
  have hn0 : (0 : Int) < (n : Int) := by omega
  clear hF ha hb ga hlb hrb
  go_enter Try.func25, Try.ntmps25
  go_wp2_with fail
  refine (good_any la _ n cap w HA.out GA.out.len (by omega)).mono ?_
  rintro e w1 ⟨rfl, hB1⟩
  have hx : w1.cell? ⟨c, o, none⟩ = some (.slice q0 k cap0) := by rw [hB1.cell (by exact hc0)]; exact hc
  have HB1 := Lib.hid hB1
  have hk : ((k : Int) != (k : Int)) = false := by simp
  clear hB1
  go_wp2_with fail
  refine (eq_long_any lb q k cap' w1 (HB.out.of_below HB1.out) HLB.out (by omega)).mono ?_
  rintro e w2 ⟨rfl, hB2⟩
  have HB2 := Lib.hid (HB1.out.trans (hB2.mono HB1.out.size))
  clear hB2 HB1
  go_wp2_with fail
  refine (product_any b la lb _ q n k m cap cap' w2 (HF.out.of_below HB2.out) (HA.out.of_below HB2.out) (HB.out.of_below HB2.out) GA.out.len HLB.out GA.out.rows HRB.out (by omega) (by omega) (by omega) hm).mono ?_
  rintro e w3 ⟨G, D, rfl, hM, hB3⟩
  have hN := HB2.out.size
  have HM := Lib.hid hM
  have HB3 := Lib.hid (HB2.out.trans (hB3.mono HB2.out.size))
  clear hM hB3
  go_wp2
  go_ret2
  exact ⟨G, D, rfl, ⟨HM.out.hds, HM.out.row, HM.out.inj, HM.out.ne, fun i hi => Nat.le_trans hN (HM.out.lo i hi), Nat.le_trans hN HM.out.loG⟩, HB3.out⟩
set_option maxHeartbeats 2000000 in
theorem apply_len (f : Value) (ha : Prt w p la) (ga : Good la n k') (hk : k < 9223372036854775808) (hne : k' ≠ k) :
    Calls Try.prog 25 #[f, .slice p n cap, .slice q k cap'] w (RetNo w.heap.size w 2) := by
  have g1 := ga.lo
  have g2 := ga.hi
  have g3 := ga.mlo
  have g4 := ga.mhi
  have HA := Lib.hid ha
  have GA := Lib.hid ga
  obtain ⟨c, o, q0, cap0, rfl, hc0, hc⟩ := ha.head (by rw [ga.len]; omega)
  rw [ga.head] at hc
  have ta := ga.true_
  have hn0 : (0 : Int) < (n : Int) := by omega
  have hd1 : ((k' : Int) != (k : Int)) = true := by simp; omega
  have hd2 : ((k' : Int) == (k : Int)) = false := by simp; omega
  have hd3 : decide (k' = k) = false := by simp; omega
  clear ha ga hne
  go_enter Try.func25, Try.ntmps25
  go_wp2_with fail
  refine (good_any la _ n cap w HA.out GA.out.len (by omega)).mono ?_
  rintro e w1 ⟨rfl, hB1⟩
  have hx : w1.cell? ⟨c, o, none⟩ = some (.slice q0 k' cap0) := by rw [hB1.cell (by exact hc0)]; exact hc
  have HB1 := Lib.hid hB1
  clear hB1
  go_wp2
  go_ret2
  exact ⟨rfl, HB1.out⟩
set_option maxHeartbeats 2000000 in
theorem apply_odd (f : Value) (ha : Prt w p la) (hb : Prt w q lb) (ga : Good la n k) (hlb : lb.length = k) (te : eqB lb = false) :
    Calls Try.prog 25 #[f, .slice p n cap, .slice q k cap'] w (RetNo w.heap.size w 2) := by
  have g1 := ga.lo
  have g2 := ga.hi
  have g3 := ga.mlo
  have g4 := ga.mhi
  have HA := Lib.hid ha
  have HB := Lib.hid hb
  have GA := Lib.hid ga
  have HLB := Lib.hid hlb
  obtain ⟨c, o, q0, cap0, rfl, hc0, hc⟩ := ha.head (by rw [ga.len]; omega)
  rw [ga.head] at hc
  have ta := ga.true_
  have hn0 : (0 : Int) < (n : Int) := by omega
  clear ha hb ga hlb
  go_enter Try.func25, Try.ntmps25
  go_wp2_with fail
  refine (good_any la _ n cap w HA.out GA.out.len (by omega)).mono ?_
  rintro e w1 ⟨rfl, hB1⟩
  have hx : w1.cell? ⟨c, o, none⟩ = some (.slice q0 k cap0) := by rw [hB1.cell (by exact hc0)]; exact hc
  have HB1 := Lib.hid hB1
  have hk : ((k : Int) != (k : Int)) = false := by simp
  clear hB1
  go_wp2_with fail
  refine (eq_long_any lb q k cap' w1 (HB.out.of_below HB1.out) HLB.out (by omega)).mono ?_
  rintro e w2 ⟨rfl, hB2⟩
  have HB2 := Lib.hid (HB1.out.trans (hB2.mono HB1.out.size))
  clear hB2 HB1
  go_wp2
  go_ret2
  exact ⟨rfl, HB2.out⟩
end
end Go.Proofs.Ytphpliclecmnlaa
/- Inverses: of what is not stuck; of inverses; of products. -/
namespace Go.Proofs.Ytphpliclecmnlaa
open Go Go.RowKit

theorem IsInv.symm {n : Nat} {a v : Mx} (h : IsInv n a v) : IsInv n v a := ⟨h.2, h.1⟩
theorem prod_inv {n : Nat} {a b u v : Mx} (ha : IsInv n a u) (hb : IsInv n b v) (i k : Nat) (hi : i < n) (hk : k < n) : mm n (mm n v u) (mm n a b) i k = id1 i k := by
  rw [mm_assoc]
  rw [mm_congr (a' := v) (b' := b) (fun _ _ => rfl) (fun j hj => ?_)]
  · exact hb.1 i k hi hk
  · rw [← mm_assoc, mm_congr (a' := id1) (b' := b) (fun l hl => ha.1 j l hj hl) (fun _ _ => rfl), mm_id_l n b j k hj]
/-- What is not stuck is inverted. -/
theorem inv_of {b : Nat} {la : List (List (BitVec 8))} {p : Option Addr} {n cap : Nat} {w : World} (hF : Fld w b) (ha : Prt w p la) (ga : Good la n n) (hno : ¬ NoInv n (mx la)) :
    Calls Try.prog 51 #[.pointer (some ⟨b, 0, none⟩), .slice p n cap] w fun e w' => ∃ G v, e = .returned (.tuple #[.slice (some ⟨G, 0, none⟩) n n, .int .i64 0]) ∧ IsInv n (mx la) v ∧ Prt w' (some ⟨G, 0, none⟩) (rowsL n n v) ∧ Below w.heap.size w w' := by
  refine (invert_any b la p n cap w hF ha ga).mono ?_
  rintro e w' (⟨hn, -⟩ | ⟨-, h⟩)
  · exact (hno hn).elim
  · exact h
theorem mx_rows (n m : Nat) (a : Mx) (k : Nat) (b : Mx) (i j : Nat) (hi : i < n) (hk : k ≤ m) : mm k (mx (rowsL n m a)) b i j = mm k a b i j := mm_congr (fun l hl => rowsL_mx n m a i l hi (by omega)) (fun _ _ => rfl)
theorem back_is {la : List (List (BitVec 8))} {n : Nat} (ga : Good la n n) {v u : Mx} (hv : IsInv n (mx la) v) (hu : IsInv n (mx (rowsL n n v)) u) : rowsL n n u = la := by
  refine rows_ext (by rw [rowsL_length, ga.len]) fun i hi => ?_
  rw [rowsL_length] at hi
  rw [rowsL_get _ _ _ _ hi]
  have hl := ga.rows i hi
  refine List.ext_getElem (by rw [rowL_length, hl]) fun j h1 h2 => ?_
  rw [rowL_length] at h1
  have e1 : u i j = mx la i j := hu.uniq (v := mx la) (fun i k hi hk => by rw [mx_rows n n v n (mx la) i k hi (Nat.le_refl _)]; exact hv.1 i k hi hk) i j hi h1
  have e2 : (rowL n u i)[j] = u i j := by simp [rowL]
  rw [e2, e1]
  show (la.getD i []).getD j 0#8 = _
  generalize la.getD i [] = r at *
  simp [List.getD_eq_getElem?_getD, h2]
theorem back_not {n : Nat} {a v : Mx} (hv : IsInv n a v) : ¬ NoInv n (mx (rowsL n n v)) := fun h => h.not (u := a) fun i k hi hk => by
  rw [← hv.2 i k hi hk]; exact mm_congr (fun _ _ => rfl) fun l hl => rowsL_mx n n v l k hl hk
theorem prod_not {n : Nat} {a b u v : Mx} (ha : IsInv n a u) (hb : IsInv n b v) : ¬ NoInv n (mx (rowsL n n (mm n a b))) := fun h => h.not (u := mm n v u) fun i k hi hk => by
  rw [← prod_inv ha hb i k hi hk]; exact mm_congr (fun _ _ => rfl) fun l hl => rowsL_mx n n (mm n a b) l k hl hk
theorem prod_is {n : Nat} {a b u v q : Mx} (ha : IsInv n a u) (hb : IsInv n b v) (hq : IsInv n (mx (rowsL n n (mm n a b))) q) : rowsL n n q = rowsL n n (mm n (mx (rowsL n n v)) (mx (rowsL n n u))) := rowsL_congr fun i j hi hj => by
  rw [mx_rows n n v n _ i j hi (Nat.le_refl _), mm_congr (a' := v) (b' := u) (fun _ _ => rfl) (fun l hl => rowsL_mx n n u l j hl hj)]
  refine hq.uniq (v := mm n v u) (fun i k hi hk => ?_) i j hi hj
  rw [mx_rows n n (mm n a b) n _ i k hi (Nat.le_refl _)]
  exact prod_inv hb.symm ha.symm i k hi hk
end Go.Proofs.Ytphpliclecmnlaa
/- The program's codes in memory; New, Data, Parity, count, Encode. -/
namespace Go.Proofs.Ytphpliclecmnlaa
open Go Go.RowKit

/-- Block b is a code of k and m: its field and its Cauchy matrix. -/
structure Cd (w : World) (b k m : Nat) : Prop where
  k1 : 1 ≤ k
  m1 : 1 ≤ m
  hi : k + m ≤ 32
  mem : ∃ f G D, w.cell? ⟨b, 0, none⟩ = some (.pointer (some ⟨f, 0, none⟩)) ∧ w.cell? ⟨b, 1, none⟩ = some (.slice (some ⟨G, 0, none⟩) m m) ∧ Fld w f ∧ Mp w 0 G m m k D (cau k)
theorem Cd.keep {w w' : World} {b k m : Nat} (h : Cd w b k m) (g : Below w.heap.size w w') : Cd w' b k m := by
  obtain ⟨h1, h2, h3, f, G, D, c1, c2, hF, hM⟩ := h
  exact ⟨h1, h2, h3, f, G, D, by rw [g.cell (World.block_lt_of_cell? w _ c1)]; exact c1, by rw [g.cell (World.block_lt_of_cell? w _ c2)]; exact c2, hF.of_below g, hM.of_below g⟩
theorem Cd.dr {w w' : World} {b k m : Nat} (h : Cd w b k m) (g : Dr w w') : Cd w' b k m := h.keep (g.below _)
theorem Mp.low {w : World} {N N' G n k m : Nat} {D : Nat → Nat} {a : Mx} (h : Mp w N G n k m D a) (g : N' ≤ N) : Mp w N' G n k m D a :=
  ⟨h.hds, h.row, h.inj, h.ne, fun i hi => Nat.le_trans g (h.lo i hi), Nat.le_trans g h.loG⟩
theorem new_no (x y : Int) (w : World) (b1 : -9223372036854775808 ≤ x) (b2 : x ≤ 9223372036854775807) (b3 : -9223372036854775808 ≤ y) (b4 : y ≤ 9223372036854775807) (hno : ¬ (1 ≤ x ∧ 1 ≤ y ∧ x + y ≤ 32)) :
    Calls Try.prog 12 #[.int .i64 x, .int .i64 y] w fun e w' => e = .returned (.tuple #[.pointer none, .int .i64 1]) ∧ Below w.heap.size w w' := by
  by_cases t0 : x < 1
  · have e0 : decide (x < 1) = true := decide_eq_true t0
    clear hno t0
    go_enter Try.func12, Try.ntmps12
    go_wp2
    go_ret2
    exact ⟨rfl, Below.refl _ _⟩
  have e0 : decide (x < 1) = false := decide_eq_false t0
  by_cases t1 : y < 1
  · have e1 : decide (y < 1) = true := decide_eq_true t1
    clear hno t0 t1
    go_enter Try.func12, Try.ntmps12
    go_wp2
    go_ret2
    exact ⟨rfl, Below.refl _ _⟩
  have e1 : decide (y < 1) = false := decide_eq_false t1
  have hw : IntKind.i64.wrap (32 - y) = 32 - y := IntWalk.i64_in _ (by omega)
  have e2 : decide (32 - y < x) = true := decide_eq_true (by omega)
  clear hno t0 t1
  go_enter Try.func12, Try.ntmps12
  go_wp2
  go_ret2
  exact ⟨rfl, Below.refl _ _⟩
set_option maxHeartbeats 2000000 in
theorem new_ok (k m : Nat) (w : World) (hk : 1 ≤ k) (hm : 1 ≤ m) (hkm : k + m ≤ 32) :
    Calls Try.prog 12 #[.int .i64 (k : Int), .int .i64 (m : Int)] w fun e w' => ∃ b, e = .returned (.tuple #[.pointer (some ⟨b, 0, none⟩), .int .i64 0]) ∧ Cd w' b k m ∧ Below w.heap.size w w' := by
  have e0 : decide ((k : Int) < 1) = false := decide_eq_false (by omega)
  have e1 : decide ((m : Int) < 1) = false := decide_eq_false (by omega)
  have hw : IntKind.i64.wrap (32 - (m : Int)) = 32 - (m : Int) := IntWalk.i64_in _ (by omega)
  have e2 : decide (32 - (m : Int) < (k : Int)) = false := decide_eq_false (by omega)
  have HK := Lib.hid hkm
  go_enter Try.func12, Try.ntmps12
  go_wp2_with fail
  refine (cauchy_ok k m w hk (by omega) hm (by omega)).mono ?_
  rintro e w1 ⟨G, D, rfl, hM1, hB1⟩
  have HM1 := Lib.hid (hM1.low (Nat.zero_le _))
  have HB1 := Lib.hid hB1
  clear hM1 hB1
  go_wp2_with fail
  refine (new_any w1).mono ?_
  rintro e w2 ⟨rfl, hF2, hB2⟩
  have HF2 := Lib.hid hF2
  have HM2 := Lib.hid (HM1.out.of_below hB2)
  have HB2 := Lib.hid (bel_step HB1.out hB2)
  clear hF2 hB2
  go_wp2
  go_ret2
  have hb : Below w2.heap.size w2 (w2.alloc (.cells #[.pointer (some ⟨w1.heap.size, 0, none⟩), .slice (some ⟨G, 0, none⟩) m m] 56)) := (Below.refl _ _).alloc (Nat.le_refl _) _
  exact ⟨w2.heap.size, rfl, ⟨hk, hm, HK.out, w1.heap.size, G, D, World.cell?_alloc_new _ _ _ _, World.cell?_alloc_new _ _ _ _, HF2.out.of_below hb, HM2.out.of_below hb⟩, bel_step HB2.out hb⟩
theorem data_any (b k m : Nat) (w : World) (h : Cd w b k m) : Calls Try.prog 21 #[.pointer (some ⟨b, 0, none⟩)] w fun e w' => e = .returned (.int .i64 (k : Int)) ∧ w = w' := by
  obtain ⟨h1, h2, h3, f, G, D, c1, c2, hF, hM⟩ := h
  have c3 := hM.cellH 0 (by omega) (by omega)
  have hm0 : (0 : Int) < (m : Int) := by omega
  clear hF hM c1
  go_enter Try.func21, Try.ntmps21
  go_wp2
  go_ret
  exact ⟨rfl, rfl⟩
theorem parity_any (b k m : Nat) (w : World) (h : Cd w b k m) : Calls Try.prog 22 #[.pointer (some ⟨b, 0, none⟩)] w fun e w' => e = .returned (.int .i64 (m : Int)) ∧ w = w' := by
  obtain ⟨h1, h2, h3, f, G, D, c1, c2, hF, hM⟩ := h
  clear hF hM c1
  go_enter Try.func22, Try.ntmps22
  go_wp2
  go_ret
  exact ⟨rfl, rfl⟩
theorem count_any (b k m : Nat) (w : World) (h : Cd w b k m) : Calls Try.prog 29 #[.pointer (some ⟨b, 0, none⟩)] w fun e w' => e = .returned (.int .i64 ((k : Int) + (m : Int))) ∧ w = w' := by
  have HC := Lib.hid h
  have hw : IntKind.i64.wrap ((k : Int) + (m : Int)) = (k : Int) + (m : Int) := IntWalk.i64_in _ (by have := h.hi; omega)
  clear h
  go_enter Try.func29, Try.ntmps29
  go_wp2_with fail
  refine (data_any b k m w HC.out).mono ?_
  rintro e w1 ⟨rfl, rfl⟩
  go_wp2_with fail
  refine (parity_any b k m w HC.out).mono ?_
  rintro e w1 ⟨rfl, rfl⟩
  go_wp2
  go_ret
  exact ⟨rfl, rfl⟩
theorem cau_good {k m : Nat} (h1 : 1 ≤ k) (h2 : 1 ≤ m) (h3 : k + m ≤ 32) : Good (rowsL m k (cau k)) m k := Good.mats _ h2 (by omega) h1 (by omega)
section
variable (b k m : Nat) (ls : List (List (BitVec 8))) (p : Option Addr) (n cap : Nat) (w : World)
set_option maxHeartbeats 2000000 in
/-- The parity of data that fits. -/
theorem encode_ok (L : Nat) (hC : Cd w b k m) (hs : Prt w p ls) (hl : ls.length = k) (hrow : ∀ i, i < k → (ls.getD i []).length = L) (hL : L < 100000) :
    Calls Try.prog 14 #[.pointer (some ⟨b, 0, none⟩), .slice p k cap] w (RetOk w.heap.size w m L (mm k (cau k) (mx ls))) := by
  obtain ⟨h1, h2, h3, f, G, D, c1, c2, hF, hM⟩ := hC
  have HF := Lib.hid hF
  have HM := Lib.hid hM
  have HS := Lib.hid hs
  have HL := Lib.hid hl
  have HR := Lib.hid hrow
  clear hF hM hs hl hrow
  go_enter Try.func14, Try.ntmps14
  go_wp2_with fail
  go_region_held3 (fun w' : World => w'.cell? ⟨b, 0, none⟩ = some (.pointer (some ⟨f, 0, none⟩)) ∧ w'.cell? ⟨b, 1, none⟩ = some (.slice (some ⟨G, 0, none⟩) m m)) (first | exact ⟨c1, c2⟩ | exact ⟨x1, x2⟩) ((go_at_call 25; refine (apply_ok f _ ls _ p m k L m cap _ (HF.out.dr (Dr.refl _).drew) (HM.out.drewN 1).prt (HS.out.dr (Dr.refl _).drew) (cau_good h1 h2 h3) HL.out HR.out (by omega)).mono ?_; rintro e w2 ⟨G2, D2, rfl, hM2, hB2⟩; have hb2 : Below w.heap.size w w2 := (Below.refl _ _).drew.trans (by exact hB2); have x1 : w2.cell? ⟨b, 0, none⟩ = some (.pointer (some ⟨f, 0, none⟩)) := (by rw [hb2.cell (World.block_lt_of_cell? w _ c1)]; exact c1); have x2 : w2.cell? ⟨b, 1, none⟩ = some (.slice (some ⟨G, 0, none⟩) m m) := (by rw [hb2.cell (World.block_lt_of_cell? w _ c2)]; exact c2); have HM2 := Lib.hid hM2; have HB2 := Lib.hid hb2; clear hM2 hB2 hb2))
  go_wp2
  go_ret2
  exact ⟨G2, D2, rfl, HM2.out.congr (fun i j hi hj => mx_rows m k (cau k) k _ i j hi (Nat.le_refl _)), HB2.out⟩
set_option maxHeartbeats 2000000 in
theorem encode_no (hC : Cd w b k m) (hA : ∀ f G D w1, Fld w1 f → Mp w1 0 G m m k D (cau k) → Dr w w1 → Calls Try.prog 25 #[.pointer (some ⟨f, 0, none⟩), .slice (some ⟨G, 0, none⟩) m m, .slice p n cap] w1 (RetNo w1.heap.size w1 2)) :
    Calls Try.prog 14 #[.pointer (some ⟨b, 0, none⟩), .slice p n cap] w (RetNo w.heap.size w 2) := by
  obtain ⟨h1, h2, h3, f, G, D, c1, c2, hF, hM⟩ := hC
  have HA := Lib.hid (hA f G D w.drew (hF.dr (Dr.refl _).drew) (hM.drewN 1) (Dr.refl _).drew)
  clear hF hM hA
  go_enter Try.func14, Try.ntmps14
  go_wp2_with fail
  go_region_held3 (fun w' : World => w'.cell? ⟨b, 0, none⟩ = some (.pointer (some ⟨f, 0, none⟩)) ∧ w'.cell? ⟨b, 1, none⟩ = some (.slice (some ⟨G, 0, none⟩) m m)) (first | exact ⟨c1, c2⟩ | exact ⟨x1, x2⟩) ((go_at_call 25; refine HA.out.mono ?_; rintro e w2 ⟨rfl, hB2⟩; have hb2 : Below w.heap.size w w2 := (Below.refl _ _).drew.trans (by exact hB2); have x1 : w2.cell? ⟨b, 0, none⟩ = some (.pointer (some ⟨f, 0, none⟩)) := (by rw [hb2.cell (World.block_lt_of_cell? w _ c1)]; exact c1); have x2 : w2.cell? ⟨b, 1, none⟩ = some (.slice (some ⟨G, 0, none⟩) m m) := (by rw [hb2.cell (World.block_lt_of_cell? w _ c2)]; exact c2); have HB2 := Lib.hid hb2; clear hB2 hb2))
  go_wp2
  go_ret2
  exact ⟨rfl, HB2.out⟩
/-- What Encode returns. -/
theorem enc_any (hC : Cd w b k m) (hs : Prt w p ls) (hl : ls.length = n) (hn : n < 1000) (hlen : ∀ i, i < n → (ls.getD i []).length < 100000) :
    Calls Try.prog 14 #[.pointer (some ⟨b, 0, none⟩), .slice p n cap] w (RetR w (EncR k m ls)) := by
  have h1 := hC.k1
  have h2 := hC.m1
  have h3 := hC.hi
  have bad : evB ls k = false → ∀ e w', RetNo w.heap.size w 2 e w' → RetR w (EncR k m ls) e w' := fun he e w' ⟨h, hB⟩ => ⟨_, _, h, .inl ⟨he, rfl, rfl⟩, hB⟩
  by_cases hk : n = k
  · subst hk
    cases he : eqB ls with
    | true =>
      have hq := of_decide_eq_true he
      have hrow : ∀ i, i < n → (ls.getD i []).length = (ls.getD 0 []).length := fun i hi => hq i (by omega)
      refine (encode_ok b n m ls p cap w _ hC hs hl hrow (hlen 0 (by omega))).mono ?_
      rintro e w' ⟨G, D, rfl, hM, hB⟩
      refine ⟨_, _, rfl, .inr ⟨decide_eq_true ⟨hl, hq⟩, rfl, some ⟨G, 0, none⟩, m, rfl, ?_⟩, hB⟩
      exact hM.prt
    | false =>
      refine (encode_no b n m p n cap w hC fun f G D w1 hF hM hD => apply_odd (rowsL m n (cau n)) ls _ p m n m cap w1 (.pointer (some ⟨f, 0, none⟩)) hM.prt (hs.dr hD) (cau_good h1 h2 h3) hl he).mono (bad ?_)
      exact decide_eq_false fun g => by
        have := of_decide_eq_false he
        exact this g.2
  · refine (encode_no b k m p n cap w hC fun f G D w1 hF hM hD => apply_len (rowsL m k (cau k)) _ p m n k m cap w1 (.pointer (some ⟨f, 0, none⟩)) hM.prt (cau_good h1 h2 h3) (by omega) (Ne.symm hk)).mono (bad ?_)
    exact decide_eq_false fun g => hk (by omega)
end
end Go.Proofs.Ytphpliclecmnlaa
/- bytes.Equal. -/
namespace Go.Proofs.Ytphpliclecmnlaa
open Go Go.RowKit

theorem bytes_equal (l m : List (BitVec 8)) (p q : Option Addr) (c d : Nat) (w : World) (hs : Sl w p l) (ht : Sl w q m) (hp : p = none → c = 0) (hq : q = none → d = 0) :
    Calls Try.prog 32 #[.slice p l.length c, .slice q m.length d] w fun e w' => e = .returned (.bool (decide (l = m))) ∧ w = w' := by
  have h1 := conv_str w p l _ c hs rfl hp
  have h2 := conv_str w q m _ d ht rfl hq
  clear hs ht hp hq
  by_cases h : l = m
  · rw [decide_eq_true h]
    subst h
    go_enter Try.func32, Try.ntmps32
    go_wp2
    go_ret
    exact ⟨rfl, rfl⟩
  · have hf : Hid (decide (l = m) = false) := decide_eq_false h
    have hb := str_ne l m h
    clear h
    go_enter Try.func32, Try.ntmps32
    go_wp2
    go_ret
    exact ⟨by rw [hf.out]; rfl, rfl⟩
end Go.Proofs.Ytphpliclecmnlaa
/- A slice of rows of the call's own, each row in a block of its own. -/
namespace Go.Proofs.Ytphpliclecmnlaa
open Go Go.RowKit

def vd (vs : List Value) (i : Nat) : Value := vs.getD i (.bool false)
/-- v holds the headers of rows that hold ls; all blocks are the call's own, from base on, and differ. -/
def OwnX (w : World) (base : Nat) (v : Value) (ls : List (List (BitVec 8))) : Prop :=
  ∃ vs : List Value, vs.length = ls.length ∧ w.ownsRow base 38 1 v ls.length vs ∧ (∀ i, i < ls.length → OwnB w base (vd vs i) (ls.getD i [])) ∧
    (∀ i g, i < ls.length → (vd vs i).ownBlock = some g → v.ownBlock ≠ some g) ∧ (∀ i j g, i < ls.length → j < ls.length → i ≠ j → (vd vs i).ownBlock = some g → (vd vs j).ownBlock ≠ some g)
theorem vd_get {vs : List Value} {i : Nat} (h : i < vs.length) : vs[i]? = some (vd vs i) := by simp [vd, List.getD_eq_getElem?_getD, h]
theorem vd_left (vs us : List Value) (i : Nat) (h : i < vs.length) : vd (vs ++ us) i = vd vs i := by simp [vd, List.getD_eq_getElem?_getD, List.getElem?_append_left h]
theorem vd_right (vs us : List Value) (i : Nat) (h : vs.length ≤ i) : vd (vs ++ us) i = vd us (i - vs.length) := by simp [vd, List.getD_eq_getElem?_getD, List.getElem?_append_right h]
theorem ls_left (ls us : List (List (BitVec 8))) (i : Nat) (h : i < ls.length) : (ls ++ us).getD i [] = ls.getD i [] := by simp [List.getD_eq_getElem?_getD, List.getElem?_append_left h]
theorem ls_right (ls us : List (List (BitVec 8))) (i : Nat) (h : ls.length ≤ i) : (ls ++ us).getD i [] = us.getD (i - ls.length) [] := by simp [List.getD_eq_getElem?_getD, List.getElem?_append_right h]
section
variable {w w' : World} {base : Nat} {v : Value} {ls : List (List (BitVec 8))}
theorem owns_keep {T : TypeId} {n : Nat} {vs : List Value} (h : w.ownsRow base T 1 v n vs) (hb : ∀ k, v.ownBlock = some k → w'.heap[k]? = w.heap[k]?) : w'.ownsRow base T 1 v n vs := by
  refine ⟨h.1, ?_⟩
  rcases h.2 with h' | ⟨g, cap, cur, hv, h1, hg, r⟩
  · exact .inl h'
  · exact .inr ⟨g, cap, cur, hv, h1, by rw [hb g (by rw [hv]; rfl)]; exact hg, r⟩
theorem OwnX.nil (w : World) (base : Nat) : OwnX w base (.slice none 0 0) [] := ⟨[], rfl, ⟨rfl, .inl ⟨rfl, rfl⟩⟩, fun i hi => absurd hi (by simp), fun i g hi => absurd hi (by simp), fun i j g hi => absurd hi (by simp)⟩
theorem OwnX.lt (h : OwnX w base v ls) : ∀ k, v.ownBlock = some k → base ≤ k ∧ k < w.heap.size := by
  obtain ⟨vs, _, h2, _⟩ := h
  exact World.ownsRow.lt h2
theorem OwnX.of_below (h : OwnX w base v ls) (k : Below w.heap.size w w') : OwnX w' base v ls := by
  obtain ⟨vs, h1, h2, h3, h4, h5⟩ := h
  exact ⟨vs, h1, owns_keep h2 fun g hg => k.block g (World.ownsRow.lt h2 g hg).2, fun i hi => (h3 i hi).of_below k, h4, h5⟩
theorem OwnX.dr (h : OwnX w base v ls) (k : Dr w w') : OwnX w' base v ls := h.of_below (k.below _)
theorem OwnX.mono {base' : Nat} (h : OwnX w base v ls) (hb : base' ≤ base) : OwnX w base' v ls := by
  obtain ⟨vs, h1, h2, h3, h4, h5⟩ := h
  have low : ∀ {T : TypeId} {u : Value} {n : Nat} {us : List Value}, w.ownsRow base T 1 u n us → w.ownsRow base' T 1 u n us := fun h => ⟨h.1, by
    rcases h.2 with h' | ⟨g, cap, cur, hv, h1, r⟩
    · exact .inl h'
    · exact .inr ⟨g, cap, cur, hv, Nat.le_trans hb h1, r⟩⟩
  exact ⟨vs, h1, low h2, fun i hi => low (h3 i hi), h4, h5⟩
/-- What such a slice reads as. -/
theorem OwnX.prt (h : OwnX w base v ls) : ∃ p cap, v = .slice p ls.length cap ∧ Prt w p ls ∧ (p = none → cap = 0) ∧ ls.length ≤ cap := by
  obtain ⟨vs, h1, h2, h3, _⟩ := h
  rcases h2.2 with ⟨hv, hl⟩ | ⟨g, cap, cur, hv, hb, hg, hle, _, hsz, ht⟩
  · exact ⟨none, 0, by rw [hv, hl], fun i hi => absurd hi (by omega), fun _ => rfl, by omega⟩
  · refine ⟨some ⟨g, 0, none⟩, cap, hv, fun i hi => ?_, (fun h => by cases h), hle⟩
    obtain ⟨q, c, e, hs, hq, hlc⟩ := (h3 i hi).shape
    refine ⟨g, 0, q, c, rfl, ?_, hs, hq, hlc⟩
    rw [Nat.zero_add, cell_of_row w g i cur 38 (0, 0) hg, ← e, ← vd_get (by omega)]
    have e2 : (cur.toList.take (ls.length * 1))[i]? = vs[i]? := by rw [ht]
    rw [List.getElem?_take, if_pos (by omega)] at e2
    simpa using e2
/-- Rows appended, of which each lies in a block of its own that came to be later. -/
theorem OwnX.join {w1 : World} {us : List Value} {ms : List (List (BitVec 8))} (h : OwnX w1 base v ls) (k : Below w1.heap.size w1 w) (hm : us.length = ms.length) (hu : ∀ i, i < ms.length → OwnB w base (vd us i) (ms.getD i []))
    (hf : ∀ i g, i < ms.length → (vd us i).ownBlock = some g → w1.heap.size ≤ g) (hd : ∀ i j g, i < ms.length → j < ms.length → i ≠ j → (vd us i).ownBlock = some g → (vd us j).ownBlock ≠ some g)
    (ty : TypeId) (ad : Addr) (c : Nat) (hpos : 0 < ms.length) (hnews : ∀ j u, us[j]? = some u → w.cell? (ad.add j) = some u) (hone : ∀ u ∈ us, u.oneCell' = true) (hlen : ls.length + ms.length < 1000000) (hb : base ≤ w1.heap.size) :
    ∃ g cap' w', (Builtin.append_ #[23, 23] ty #[v, .slice (some ad) ms.length c]).run Try.prog w = .ok (.slice (some ⟨g, 0, none⟩) (ls.length + ms.length) cap') w' ∧ OwnX w' base (.slice (some ⟨g, 0, none⟩) (ls.length + ms.length) cap') (ls ++ ms) ∧ w.grownBy w' v.ownBlock ∧
      (v.ownBlock = some g ∨ g = w.heap.size) := by
  have hw := h.of_below k
  have hlt1 := h.lt
  obtain ⟨vs1, a1, a2, a3, a4, a5⟩ := h
  have h2 := owns_keep a2 fun g hg => k.block g (World.ownsRow.lt a2 g hg).2
  obtain ⟨i0, hi, hz0, hz1, hz2⟩ := info_parts infoB
  have hsz := k.size
  obtain ⟨g, cap', w', r1, r2, r3, r4, r5⟩ := run_append_lies (P := Try.prog) w 23 ty base 38 i0 (.slice none 0 0) 1 24 undRows hi hz0 hz1 hz2 rfl (by decide) v ls.length vs1 h2 ad ms.length c us (by rw [hm]; omega) hnews hone hpos (by simp only [maxLen]; omega) (by omega) (Nat.le_trans hb hsz) w.heap.size rfl
  have rowlt : ∀ i, i < ls.length → ∀ k', (vd vs1 i).ownBlock = some k' → k' < w1.heap.size := fun i hi k' hk => ((a3 i hi).lt k' hk).2
  have ult : ∀ i, i < ms.length → ∀ k', (vd us i).ownBlock = some k' → k' < w.heap.size := fun i hi k' hk => ((hu i hi).lt k' hk).2
  refine ⟨g, cap', w', r1, ⟨vs1 ++ us, by simp [a1, hm], by rw [List.length_append]; exact r2, fun i hi => ?_, fun i g' hi hg' => ?_, fun i j g' hi hj hij hg' => ?_⟩, r3, r4⟩
  · by_cases hil : i < ls.length
    · rw [ls_left _ _ _ hil, vd_left _ _ _ (by omega)]
      refine ((a3 i hil).of_below k).keep fun k' hk => r3.block k' (Nat.lt_of_lt_of_le (rowlt i hil k' hk) hsz) fun e => a4 i k' hil hk e.symm
    · rw [List.length_append] at hi
      rw [ls_right _ _ _ (by omega), vd_right _ _ _ (by omega), a1]
      refine (hu _ (by omega)).keep fun k' hk => r3.block k' (ult _ (by omega) k' hk) fun e => ?_
      have := hf _ k' (by omega) hk
      have := (hlt1 k' e.symm).2
      omega
  · have hg2 : (Value.slice (some ⟨g, 0, none⟩) (ls.length + ms.length) cap').ownBlock = some g := rfl
    rw [hg2]
    intro e
    injection e with e
    subst e
    by_cases hil : i < ls.length
    · rw [vd_left _ _ _ (by omega)] at hg'
      rcases r4 with r4 | r4
      · exact a4 i g hil hg' r4
      · have := rowlt i hil g hg'; omega
    · rw [List.length_append] at hi
      rw [vd_right _ _ _ (by omega), a1] at hg'
      rcases r4 with r4 | r4
      · have := hf _ g (by omega) hg'; have := (hlt1 g r4).2; omega
      · have := ult _ (by omega) g hg'; omega
  · rw [List.length_append] at hi hj
    by_cases hil : i < ls.length
    · rw [vd_left _ _ _ (by omega)] at hg'
      by_cases hjl : j < ls.length
      · rw [vd_left _ _ _ (by omega)]; exact a5 i j g' hil hjl hij hg'
      · rw [vd_right _ _ _ (by omega), a1]
        intro e
        have := rowlt i hil g' hg'
        have := hf _ g' (by omega) e
        omega
    · rw [vd_right _ _ _ (by omega), a1] at hg'
      by_cases hjl : j < ls.length
      · rw [vd_left _ _ _ (by omega)]
        intro e
        have := rowlt j hjl g' e
        have := hf _ g' (by omega) hg'
        omega
      · rw [vd_right _ _ _ (by omega), a1]
        exact hd _ _ g' (by omega) (by omega) (by omega) hg'
/-- One byte of one row set. -/
theorem OwnX.put (h : OwnX w base v ls) (i x : Nat) (hi : i < ls.length) (hx : x < (ls.getD i []).length) (y : BitVec 8) :
    ∃ g, (∃ n cap, v = .slice (some ⟨g, 0, none⟩) n cap) ∧ ∃ d c, w.cell? ⟨g, i, none⟩ = some (.slice (some ⟨d, 0, none⟩) (ls.getD i []).length c) ∧ w.cell? ⟨d, x, none⟩ = some (B ((ls.getD i []).getD x 0#8)) ∧ w.frozen? ⟨d, x, none⟩ = false ∧ base ≤ d ∧
      OwnX (w.setCell ⟨d, x, none⟩ (B y)) base v (ls.set i ((ls.getD i []).set x y)) := by
  obtain ⟨vs, h1, h2, h3, h4, h5⟩ := h
  rcases h2.2 with ⟨hv, hl⟩ | ⟨g, cap, cur, hv, hb, hg, hle, hq1, hsz, ht⟩
  · omega
  have hrow := h3 i hi
  rcases hrow.2 with ⟨hv2, hl2⟩ | ⟨d, c, cur2, hv2, hb2, hg2, hle2, hq2, hsz2, ht2⟩
  · omega
  have hob : (vd vs i).ownBlock = some d := by rw [hv2]; rfl
  have hdv : v.ownBlock ≠ some d := h4 i d hi hob
  have hcell : w.cell? ⟨d, x, none⟩ = some (B ((ls.getD i []).getD x 0#8)) := by
    rw [cell_of_row w d x cur2 5 (0, 0) hg2]
    have e : (cur2.toList.take ((ls.getD i []).length * 1))[x]? = ((ls.getD i []).map B)[x]? := by rw [ht2]
    have e4 : (ls.getD i [])[x]? = some ((ls.getD i []).getD x 0#8) := by
      generalize ls.getD i [] = r at *
      simp [List.getD_eq_getElem?_getD, hx]
    rw [List.getElem?_take, if_pos (by omega), List.getElem?_map, e4] at e
    simpa using e
  have hhead : w.cell? ⟨g, i, none⟩ = some (.slice (some ⟨d, 0, none⟩) (ls.getD i []).length c) := by
    rw [cell_of_row w g i cur 38 (0, 0) hg, ← hv2, ← vd_get (by omega)]
    have e : (cur.toList.take (ls.length * 1))[i]? = vs[i]? := by rw [ht]
    rw [List.getElem?_take, if_pos (by omega)] at e
    simpa using e
  refine ⟨g, ⟨_, _, hv⟩, d, c, hhead, hcell, by simp only [World.frozen?, hg2]; simp, hb2, vs, by rw [h1, List.length_set], ?_, fun j hj => ?_, fun j g' hj => ?_, fun j l g' hj hl => ?_⟩
  · rw [List.length_set]
    exact owns_keep h2 fun k' hk => Below.heap_setCell _ _ _ _ (show k' ≠ d from fun e => hdv (by rw [← e]; exact hk))
  · rw [List.length_set] at hj
    by_cases e : j = i
    · subst e
      have e2 : (ls.set j ((ls.getD j []).set x y)).getD j [] = (ls.getD j []).set x y := by simp [List.getD_eq_getElem?_getD, hj]
      rw [e2]
      have hst := (World.ownsRow.stored (by rw [hv2] at hrow; exact hrow : w.ownsRow base 5 1 (.slice (some ⟨d, 0, none⟩) (ls.getD j []).length c) (ls.getD j []).length ((ls.getD j []).map B)) x (B y)).1
      rw [hv2]
      unfold OwnB
      rw [List.length_set, List.map_set]
      exact hst
    · have e2 : (ls.set i ((ls.getD i []).set x y)).getD j [] = ls.getD j [] := by
        simp [List.getD_eq_getElem?_getD, List.getElem?_set, Ne.symm e]
      rw [e2]
      exact (h3 j hj).keep fun k' hk => Below.heap_setCell _ _ _ _ (show k' ≠ d from fun e3 => by subst e3; exact h5 i j k' hi hj (Ne.symm e) hob hk)
  · rw [List.length_set] at hj; exact h4 j g' hj
  · rw [List.length_set] at hj hl; exact h5 j l g' hj hl
end
end Go.Proofs.Ytphpliclecmnlaa
