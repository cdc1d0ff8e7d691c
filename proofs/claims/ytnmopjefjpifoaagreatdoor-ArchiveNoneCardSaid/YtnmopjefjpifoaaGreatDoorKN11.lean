/- Merged texts: Good, FAdd, Field, FDiv, Scale, Gd, Two, Prod, Elim, Beside, InvM, Invert, InvNo, New, Cauchy, Ref4, Par4, Steps, CutM, AnyK, Code4, Zer12, Sid12. -/
import Derived.Test.YtnmopjefjpifoaaGreatDoorKN10
import Derived.Test.YtnmopjefjpifoaaGreatDoorRows
import Derived.Deep.QuietTactic
import Derived.BigQuiet
import Derived.Deep.RegionWith
import Derived.Deep.LoopGhost
import Derived.Test.YtnmopjefjpifoaaGreatDoorBase
import Derived.Deep.RegionHeld3
import Derived.StillTailTactics
import Derived.Deep.RegionLaw
import Derived.Test.YtnmopjefjpifoaaGreatDoorKN1
import Derived.BigRegion
import Derived.Test.YtnmopjefjpifoaaGreatDoorCuts
import Derived.Lib.AppendStr
import Derived.Test.YtnmopjefjpifoaaGreatDoorKN6
import Derived.Test.YtnmopjefjpifoaaGreatDoorSha10
set_option linter.unusedSimpArgs false
set_option linter.unusedVariables false
/- The program's Good and Same. -/
set_option maxRecDepth 100000
namespace Go.Proofs.YtnmopjefjpifoaaGreatDoor
open Go Go.RowKit
attribute [-go_sem] Sha.exec_store

section
variable (g : Nat) (lb : Array Value) (eg : ∀ args w, (callFunc g args).run Tryz.prog w = .ok (.enter g args) w) (ls : List (List (BitVec 8))) (f : Nat → Bool) (p : Option Addr) (n cap : Nat) (w : World) (hp : Asks g lb ls f w) (hs : Prt w p ls) (hl : ls.length = n) (hn : n < 4294967296)
include eg hp hs hl hn
end
end Go.Proofs.YtnmopjefjpifoaaGreatDoor
/- The program's field: sums of any number of bytes. -/
set_option maxRecDepth 100000
namespace Go.Proofs.YtnmopjefjpifoaaGreatDoor
open Go Go.RowKit
attribute [-go_sem] Sha.exec_store

/-- The sum of all. -/
def sm (l : List (BitVec 8)) : BitVec 8 := l.foldl (· ^^^ ·) 0#8
end Go.Proofs.YtnmopjefjpifoaaGreatDoor
/- The program's field: its tables in memory, products, quotients and powers. -/
set_option maxRecDepth 100000
namespace Go.Proofs.YtnmopjefjpifoaaGreatDoor
open Go Go.RowKit
attribute [-go_sem] Sha.exec_store

theorem ixA (a : Addr) (x : BitVec 8) (w : World) : (Instr.indexAt 345 (.pointer (some a)) (B x)).run Tryz.prog w = .ok (.pointer (some (a.add x.toNat))) w :=
  run_indexAt_B 345 3 256 a x (by kernel_rfl) x.isLt (by kernel_rfl)
attribute [local go_sem] ixA
/-- The cells of a field behind n powers. -/
def fldN (n i : Nat) : Value := if i < 255 then (if i < n then B (pw i) else B 0#8) else .int .i64 ((if lgs.getD (i - 255) 0 < n then lgs.getD (i - 255) 0 else 0 : Nat) : Int)
/-- Block b is a field. -/
def Fld (w : World) (b : Nat) : Prop := Row w b 347 511 (fldN 255)
theorem Fld.lt {w : World} {b : Nat} (h : Fld w b) : b < w.heap.size := Row.lt h
theorem Fld.of_below {w w' : World} {b : Nat} (h : Fld w b) (k : Below w.heap.size w w') : Fld w' b := Row.of_below h k
theorem Fld.below {w w' : World} {b N : Nat} (h : Fld w b) (k : Below N w w') (hb : b < N) : Fld w' b := Row.below h k hb
theorem Fld.dr {w w' : World} {b : Nat} (h : Fld w b) (k : Dr w w') : Fld w' b := Row.dr h k

end Go.Proofs.YtnmopjefjpifoaaGreatDoor
/- The program's field: quotients. -/
set_option maxRecDepth 100000
namespace Go.Proofs.YtnmopjefjpifoaaGreatDoor
open Go Go.RowKit
attribute [-go_sem] Sha.exec_store

attribute [local go_sem] ixA
/-- A byte and an error's number. -/
def be (x : BitVec 8) (e : Nat) : Ending := .returned (.tuple #[B x, .int .i64 (e : Int)])
end Go.Proofs.YtnmopjefjpifoaaGreatDoor
/- Rows scaled by the program's field. -/
set_option maxRecDepth 100000
namespace Go.Proofs.YtnmopjefjpifoaaGreatDoor
open Go Go.RowKit
attribute [-go_sem] Sha.exec_store

attribute [local go_sem ↓] exec_store exec_make exec_bs
attribute [local go_sem] st_B st_I st_b mkB
end Go.Proofs.YtnmopjefjpifoaaGreatDoor
/- The field stays, and nothing that was there changes. -/
set_option maxRecDepth 100000
namespace Go.Proofs.YtnmopjefjpifoaaGreatDoor
open Go Go.RowKit
attribute [-go_sem] Sha.exec_store

/-- Block b is a field; of what w0 held nothing has changed. -/
def Gd (w0 : World) (b : Nat) (w : World) : Prop := Fld w b ∧ Below w0.heap.size w0 w
section
variable {w0 w w' : World} {b : Nat}
theorem Gd.size (h : Gd w0 b w) : w0.heap.size ≤ w.heap.size := h.2.size
theorem Gd.step (h : Gd w0 b w) (k : Below w.heap.size w w') : Gd w0 b w' := ⟨h.1.of_below k, h.2.trans (k.mono h.size)⟩
theorem Gd.alloc (h : Gd w0 b w) (o : Obj) : Gd w0 b (w.alloc o) := h.step ((Below.refl _ _).alloc (Nat.le_refl _) _)
theorem Gd.dr (h : Gd w0 b w) (k : Dr w w') : Gd w0 b w' := ⟨h.1.dr k, h.2.trans (k.below _)⟩
theorem Gd.drew (h : Gd w0 b w) : Gd w0 b w.drew := h.dr ((Dr.refl _).drew)
theorem Gd.drewN (h : Gd w0 b w) (n : Nat) : Gd w0 b (w.drewN n) := h.dr ((Dr.refl _).drewN n)
end
end Go.Proofs.YtnmopjefjpifoaaGreatDoor
/- The program's field: the sum of two bytes, and inverses, as package matrix calls them. -/
set_option maxRecDepth 100000
namespace Go.Proofs.YtnmopjefjpifoaaGreatDoor
open Go Go.RowKit
attribute [-go_sem] Sha.exec_store

theorem bs2 (x y : BitVec 8) (w : World) : (bsT 53 2 #[(0, B x), (1, B y)]).run Tryz.prog w = .ok (.value (.slice (some ⟨w.heap.size, 0, none⟩) 2 2)) (w.alloc (.cells #[B x, B y] 5)) := by kernel_rfl
attribute [local go_sem ↓] exec_store exec_make exec_bs
attribute [local go_sem] st_B st_I st_b mkB bs2
end Go.Proofs.YtnmopjefjpifoaaGreatDoor
/- The program's product of a matrix and rows. -/
set_option maxRecDepth 100000
namespace Go.Proofs.YtnmopjefjpifoaaGreatDoor
open Go Go.RowKit
attribute [-go_sem] Sha.exec_store

attribute [local go_sem ↓] exec_store exec_make exec_bs
attribute [local go_sem] st_B st_I st_b st_H mkB mkR
end Go.Proofs.YtnmopjefjpifoaaGreatDoor
/- The program's eliminate: one column of a matrix. -/
set_option maxRecDepth 100000
namespace Go.Proofs.YtnmopjefjpifoaaGreatDoor
open Go Go.RowKit
attribute [-go_sem] Sha.exec_store

/-- Row c scaled so that its number in column c is 1. -/
def pivM (c : Nat) (a : Mx) : Mx := rscale c (gi (a c c)) a
/-- The first k rows, but for row c, made 0 in column c. -/
def clrM (k c : Nat) (a : Mx) : Mx := fun i j => if i < k ∧ i ≠ c then a i j ^^^ gm (a i c) (a c j) else a i j
attribute [local go_sem ↓] exec_store exec_make exec_bs
attribute [local go_sem] st_B st_I st_b st_H mkB mkR
end Go.Proofs.YtnmopjefjpifoaaGreatDoor
/- The program's besideUnit: a matrix beside the unit. -/
set_option maxRecDepth 100000
namespace Go.Proofs.YtnmopjefjpifoaaGreatDoor
open Go Go.RowKit
attribute [-go_sem] Sha.exec_store

/-- A matrix of n columns beside the unit. -/
def wide (n : Nat) (a : Mx) : Mx := fun i j => if j < n then a i j else id1 i (j - n)
attribute [local go_sem ↓] exec_store exec_make exec_bs
attribute [local go_sem] st_B st_I st_b st_H mkB mkR
end Go.Proofs.YtnmopjefjpifoaaGreatDoor
/- The elimination as row steps; nothing of the program. -/
set_option maxRecDepth 100000
namespace Go.Proofs.YtnmopjefjpifoaaGreatDoor

/-- What steps do to a column hangs on that column alone. -/
theorem Rop.spread {n : Nat} {T U : Mx → Mx} (h : Rop n T U) (X : Mx) (j i : Nat) : T X i j = T (fun i _ => X i j) i 0 := by
  have e : ∀ (Z : Mx) i k, mm (j + 1) Z (fun l _ => if l = j then 1#8 else 0#8) i k = Z i j := fun Z i k => by
    unfold mm
    rw [xs_one (j + 1) j (by omega)]
    · show gm (Z i j) (if j = j then 1#8 else 0#8) = Z i j
      rw [if_pos rfl, gm_one_r]
    · intro l _ hl
      show gm (Z i l) (if l = j then 1#8 else 0#8) = 0#8
      rw [if_neg hl, gm_zr]
  have h1 := h.left (j + 1) X (fun l _ => if l = j then 1#8 else 0#8) i 0
  rw [e (T X) i 0, funext2 (e X)] at h1
  exact h1
theorem Rop.column {n : Nat} {T U : Mx → Mx} (h : Rop n T U) (X Y : Mx) (j l : Nat) (e : ∀ i, i < n → X i j = Y i l) (i : Nat) (hi : i < n) : T X i j = T Y i l := by
  rw [h.spread X j i, h.spread Y l i]
  exact h.congr _ _ 0 (fun i hi => e i hi) i hi
theorem clr_lt (k c : Nat) (P : Mx) (i j : Nat) (h : i < k ∧ i ≠ c) : clrM k c P i j = P i j ^^^ gm (P i c) (P c j) := if_pos h
theorem clr_ge (k c : Nat) (P : Mx) (i j : Nat) (h : ¬ (i < k ∧ i ≠ c)) : clrM k c P i j = P i j := if_neg h
theorem clr_steps (n c : Nat) (hc : c < n) (P : Mx) : ∀ k, k ≤ n → ∃ T U, Steps n T U ∧ clrM k c P = T P := by
  intro k
  induction k with
  | zero =>
    intro _
    refine ⟨_, _, Steps.refl n, funext2 fun i j => ?_⟩
    unfold clrM
    rw [if_neg (by omega)]
  | succ k ih =>
    intro hk
    obtain ⟨T, U, h, e⟩ := ih (by omega)
    by_cases hkc : k = c
    · refine ⟨T, U, h, ?_⟩
      rw [← e]
      refine funext2 fun i j => ?_
      unfold clrM
      by_cases h1 : i < k ∧ i ≠ c
      · rw [if_pos h1, if_pos (by omega)]
      · rw [if_neg h1, if_neg (by omega)]
    · refine ⟨_, _, h.trans (steps_add n c k hc (by omega) (Ne.symm hkc) (P k c)), ?_⟩
      refine funext2 fun i j => ?_
      show clrM (k + 1) c P i j = radd c k (P k c) (T P) i j
      rw [← e]
      unfold radd
      by_cases h1 : i = k
      · subst h1
        rw [if_pos rfl, clr_lt _ _ _ _ _ ⟨by omega, hkc⟩, clr_ge _ _ _ _ _ (by omega), clr_ge _ _ _ _ _ (by omega)]
      · rw [if_neg h1]
        by_cases h2 : i < k ∧ i ≠ c
        · rw [clr_lt _ _ _ _ _ h2, clr_lt _ _ _ _ _ (by omega)]
        · rw [clr_ge _ _ _ _ _ h2, clr_ge _ _ _ _ _ (by omega)]
theorem elim_steps (n c : Nat) (hc : c < n) (X : Mx) (h : X c c ≠ 0#8) : ∃ T U, Steps n T U ∧ clrM n c (pivM c X) = T X := by
  obtain ⟨T, U, h1, e⟩ := clr_steps n c hc (pivM c X) n (Nat.le_refl _)
  exact ⟨_, _, (steps_scale n c hc (gi (X c c)) (gi_ne _)).trans h1, e⟩
/-- The first c columns are the unit's. -/
def UpTo (n c : Nat) (X : Mx) : Prop := ∀ i j, i < n → j < c → X i j = id1 i j
theorem upTo_elim (n c : Nat) (hc : c < n) (X : Mx) (h : X c c ≠ 0#8) (hu : UpTo n c X) : UpTo n (c + 1) (clrM n c (pivM c X)) := by
  intro i j hi hj
  have hp : ∀ j, pivM c X c j = gm (gi (X c c)) (X c j) := fun j => by unfold pivM rscale; rw [if_pos rfl]
  have hq : ∀ i j, i ≠ c → pivM c X i j = X i j := fun i j hic => by unfold pivM rscale; rw [if_neg hic]
  unfold clrM
  by_cases hic : i = c
  · subst hic
    rw [if_neg (by omega), hp]
    by_cases hji : j = i
    · subst hji
      rw [gm_comm, gm_gi _ h, id1, if_pos rfl]
    · rw [hu i j hi (by omega), id1, if_neg (Ne.symm hji), gm_zr]
  · rw [if_pos ⟨hi, hic⟩, hq _ _ hic, hq _ _ hic, hp]
    by_cases hjc : j = c
    · subst hjc
      rw [gm_comm (gi (X j j)), gm_gi _ h, gm_one_r, xor_self', id1, if_neg hic]
    · rw [hu c j hc (by omega), hu i j hi (by omega)]
      show id1 i j ^^^ gm (X i c) (gm (gi (X c c)) (id1 c j)) = id1 i j
      rw [show id1 c j = 0#8 from if_neg (Ne.symm hjc), gm_zr, gm_zr, BitVec.xor_zero]
theorem upTo_swap (n c q : Nat) (hc : c < n) (hq : q < n) (hcq : c ≤ q) (X : Mx) (hu : UpTo n c X) : UpTo n c (rswap c q X) := by
  intro i j hi hj
  show X (swp c q i) j = id1 i j
  unfold swp
  by_cases h1 : i = c
  · rw [if_pos h1, hu q j hq hj, id1, id1, if_neg (by omega), if_neg (by omega)]
  · rw [if_neg h1]
    by_cases h2 : i = q
    · rw [if_pos h2, hu c j hc hj, id1, id1, if_neg (by omega), if_neg (by omega)]
    · rw [if_neg h2]; exact hu i j hi hj
/-- What the elimination has reached in column c. -/
def Reach (n c : Nat) (a X : Mx) : Prop := ∃ T U, Steps n T U ∧ X = T (wide n a) ∧ UpTo n c X
theorem Reach.next {n c q : Nat} {a X : Mx} (h : Reach n c a X) (hc : c < n) (hq : q < n) (hcq : c ≤ q) (h0 : X q c ≠ 0#8) : Reach n (c + 1) a (clrM n c (pivM c (rswap c q X))) := by
  obtain ⟨T, U, h1, rfl, h3⟩ := h
  have hne : rswap c q (T (wide n a)) c c ≠ 0#8 := by
    show T (wide n a) (swp c q c) c ≠ 0#8
    rwa [show swp c q c = q from if_pos rfl]
  obtain ⟨T', U', h4, e⟩ := elim_steps n c hc _ hne
  exact ⟨_, _, (h1.trans (steps_swap n c q hc hq)).trans h4, e, upTo_elim n c hc _ hne (upTo_swap n c q hc hq hcq _ h3)⟩
/-- Steps are stuck: no inverse. -/
def NoInv (n : Nat) (a : Mx) : Prop := ∃ T U k, Steps n T U ∧ Stuck n k (T a)
theorem Reach.stuck {n c : Nat} {a X : Mx} (h : Reach n c a X) (hc : c < n) (h0 : ∀ i, c ≤ i → i < n → X i c = 0#8) : NoInv n a := by
  obtain ⟨T, U, h1, rfl, h3⟩ := h
  have e : ∀ i j, i < n → j < n → T a i j = T (wide n a) i j := fun i j hi hj => h1.1.column a (wide n a) j j (fun i _ => by unfold wide; rw [if_pos hj]) i hi
  exact ⟨T, U, c, h1, hc, fun i j hi hj => by rw [e i j hi (by omega)]; exact h3 i j hi hj, fun i hci hi => by rw [e i c hi hc]; exact h0 i hci hi⟩
/-- v is the inverse of a, on either side. -/
def IsInv (n : Nat) (a v : Mx) : Prop := (∀ i k, i < n → k < n → mm n v a i k = id1 i k) ∧ (∀ i k, i < n → k < n → mm n a v i k = id1 i k)
theorem Reach.done {n : Nat} {a X : Mx} (h : Reach n n a X) : IsInv n a (fun i j => X i (n + j)) ∧ det n a ≠ 0#8 := by
  obtain ⟨T, U, h1, rfl, h3⟩ := h
  have e : ∀ i j, i < n → j < n → T a i j = T (wide n a) i j := fun i j hi hj => h1.1.column a (wide n a) j j (fun i _ => by unfold wide; rw [if_pos hj]) i hi
  have e2 : ∀ i j, i < n → T (wide n a) i (n + j) = T id1 i j := fun i j hi => h1.1.column (wide n a) id1 (n + j) j (fun i _ => by unfold wide; rw [if_neg (by omega), Nat.add_sub_cancel_left]) i hi
  have hu : ∀ i k, i < n → k < n → T a i k = id1 i k := fun i k hi hk => by rw [e i k hi hk]; exact h3 i k hi hk
  obtain ⟨g1, g2⟩ := h1.1.inverse a hu
  refine ⟨⟨fun i k hi hk => ?_, fun i k hi hk => ?_⟩, h1.unit a hu⟩
  · rw [← g1 i k hi hk]; exact mm_congr (fun j _ => e2 i j hi) (fun j _ => rfl)
  · rw [← g2 i k hi hk]; exact mm_congr (fun j _ => rfl) (fun j hj => e2 j k hj)
theorem NoInv.det {n : Nat} {a : Mx} (h : NoInv n a) : det n a = 0#8 := by
  obtain ⟨T, U, k, h1, h2⟩ := h
  exact h1.stuck a h2
/-- Numbers that are not all 0 are taken to nothing. -/
theorem NoInv.kernel {n : Nat} {a : Mx} (h : NoInv n a) : ∃ (v : Nat → BitVec 8) (k : Nat), k < n ∧ v k = 1#8 ∧ ∀ i, i < n → xs n (fun j => gm (a i j) (v j)) = 0#8 := by
  obtain ⟨T, U, k, h1, h2⟩ := h
  obtain ⟨v, hv, h3⟩ := h1.kernel a h2
  exact ⟨v, k, h2.1, hv, h3⟩
theorem NoInv.not {n : Nat} {a u : Mx} (h : NoInv n a) (hu : ∀ i k, i < n → k < n → mm n u a i k = id1 i k) : False := by
  obtain ⟨v, k, hk, hv, h3⟩ := h.kernel
  have h1 := mm_assoc n u a (fun j _ => v j) k 0
  have e1 : mm n (mm n u a) (fun j _ => v j) k 0 = v k := by
    rw [mm_congr (a' := id1) (b' := fun j _ => v j) (fun j hj => hu k j hk hj) (fun j _ => rfl), mm_id_l n _ k 0 hk]
  have e2 : mm n u (mm n a (fun j _ => v j)) k 0 = 0#8 := xs_zero' fun j hj => by
    show gm (u k j) (xs n (fun l => gm (a j l) (v l))) = 0#8
    rw [h3 j hj, gm_zr]
  rw [e1, e2, hv] at h1
  exact absurd h1 (by decide)
end Go.Proofs.YtnmopjefjpifoaaGreatDoor
/- The program's Invert. -/
set_option maxRecDepth 100000
namespace Go.Proofs.YtnmopjefjpifoaaGreatDoor
open Go Go.RowKit
attribute [-go_sem] Sha.exec_store

theorem sizeR (w : World) : (sizeOf (Tryz.prog.elem 73)).run Tryz.prog w = .ok 1 w := by kernel_rfl
theorem sl_rows (G n c : Nat) (w : World) (hc : c < n) :
    (slT 73 (.slice (some ⟨G, 0, none⟩) n n) (some (.int .i64 (c : Int))) none none).run Tryz.prog w = .ok (.value (.slice (some ⟨G, c, none⟩) (n - c) (n - c))) w := by
  have h1 := run_sliceAt_slice (P := Tryz.prog) w 73 (.slice (some ⟨G, 0, none⟩) n n) (some (.int .i64 (c : Int))) none none undRows
  rw [run_slice_l (P := Tryz.prog) w 73 (some ⟨G, 0, none⟩) n n undRows .i64 (c : Int) (by omega) (by omega), sizeR] at h1
  simp only [slT, Sem.run_bind, h1, Result.andThen_ok, Sem.run_pure]
  simp only [sliced, Int.toNat_natCast, Nat.mul_one]
  rw [if_neg (by omega)]
  simp [Addr.add]
  omega
/-- The rows from row c on. -/
def fromL (n m c : Nat) (a : Mx) : List (List (BitVec 8)) := (List.range (n - c)).map fun k => rowL m a (c + k)
theorem fromL_length (n m c : Nat) (a : Mx) : (fromL n m c a).length = n - c := by simp [fromL]
theorem fromL_get (n m c : Nat) (a : Mx) (k : Nat) (h : k < n - c) : (fromL n m c a).getD k [] = rowL m a (c + k) := by simp [fromL, List.getD_eq_getElem?_getD, h]
theorem Mp.from {w : World} {N G n m : Nat} {D : Nat → Nat} {a : Mx} (h : Mp w N G n n m D a) (c : Nat) : Prt w (some ⟨G, c, none⟩) (fromL n m c a) := fun i hi => by
  rw [fromL_length] at hi
  rw [fromL_get _ _ _ _ _ hi, rowL_length]
  exact ⟨G, c, some ⟨D (c + i), 0, none⟩, m, rfl, h.cellH (c + i) (by omega) (by omega), h.sl (c + i) (by omega), (fun e => by cases e), Nat.le_refl _⟩
attribute [local go_sem ↓] exec_store exec_make exec_bs exec_slice
attribute [local go_sem] st_B st_I st_b st_H mkB mkR sl_rows
end Go.Proofs.YtnmopjefjpifoaaGreatDoor
/- Invert's errors. -/
set_option maxRecDepth 100000
namespace Go.Proofs.YtnmopjefjpifoaaGreatDoor
open Go Go.RowKit
attribute [-go_sem] Sha.exec_store

section
variable (la : List (List (BitVec 8))) (p : Option Addr) (n m cap : Nat) (w : World)
end
end Go.Proofs.YtnmopjefjpifoaaGreatDoor
/- A new field: its tables; rows scaled. -/
set_option maxRecDepth 100000
namespace Go.Proofs.YtnmopjefjpifoaaGreatDoor
open Go Go.RowKit
attribute [-go_sem] Sha.exec_store

def z511 : Array Value := (List.replicate 255 (Value.int .u8 0) ++ List.replicate 256 (Value.int .i64 0)).toArray
theorem bdF (w : World) : (bdT 347 #[]).run Tryz.prog w = .ok (.value (.agg z511)) w := by kernel_rfl
theorem bxF (w : World) : (bxT 347 (.agg z511)).run Tryz.prog w = .ok (.value (.pointer (some ⟨w.heap.size, 0, none⟩))) (w.alloc (.cells z511 347)) := by kernel_rfl
attribute [local go_sem ↓] exec_build exec_box exec_store exec_make
attribute [local go_sem] bdF bxF st_B st_I st_b mkB
end Go.Proofs.YtnmopjefjpifoaaGreatDoor
/- The program's Cauchy. -/
set_option maxRecDepth 100000
namespace Go.Proofs.YtnmopjefjpifoaaGreatDoor
open Go Go.RowKit
attribute [-go_sem] Sha.exec_store

/-- The Cauchy matrix. -/
def cau (k : Nat) : Mx := fun i j => gi (BitVec.ofNat 8 (k + i) ^^^ BitVec.ofNat 8 j)
attribute [local go_sem ↓] exec_store exec_make exec_bs
attribute [local go_sem] st_B st_I st_b st_H mkB mkR mkM bs2
end Go.Proofs.YtnmopjefjpifoaaGreatDoor
/- The reference's Even and Parity. -/
set_option maxRecDepth 100000
namespace Go.Proofs.YtnmopjefjpifoaaGreatDoor
open Go Go.RowKit
attribute [-go_sem] Sha.exec_store

end Go.Proofs.YtnmopjefjpifoaaGreatDoor
/- The reference's parity. -/
set_option maxRecDepth 100000
namespace Go.Proofs.YtnmopjefjpifoaaGreatDoor
open Go Go.RowKit
attribute [-go_sem] Sha.exec_store

/-- One number of the parity, as far as j data shards. -/
def pp (k : Nat) (ls : List (List (BitVec 8))) (i j x : Nat) : BitVec 8 := xs j (fun l => gm (cau k i l) (mx ls l x))
attribute [local go_sem ↓] exec_bs exec_make exec_store
attribute [local go_sem] bs0 bsR st_B st_I st_b mkB
end Go.Proofs.YtnmopjefjpifoaaGreatDoor
/- Worlds that go on; a new field. -/
set_option maxRecDepth 100000
namespace Go.Proofs.YtnmopjefjpifoaaGreatDoor
open Go Go.RowKit
attribute [-go_sem] Sha.exec_store

end Go.Proofs.YtnmopjefjpifoaaGreatDoor
/- Rows and columns cut out of a Cauchy matrix; nothing of the program. -/
set_option maxRecDepth 100000
namespace Go.Proofs.YtnmopjefjpifoaaGreatDoor

/-- Different numbers below m. -/
def Picks (m : Nat) (l : List Nat) : Prop := ∀ i, i < l.length → l.getD i 0 < m ∧ ∀ j, j < i → l.getD i 0 ≠ l.getD j 0
theorem Picks.nil (m : Nat) : Picks m [] := fun i hi => absurd hi (by simp)
theorem Picks.push {m : Nat} {l : List Nat} (h : Picks m l) (a : Nat) (ha : a < m) (hd : ∀ j, j < l.length → l.getD j 0 ≠ a) : Picks m (l ++ [a]) := by
  have e1 : ∀ i, i < l.length → (l ++ [a]).getD i 0 = l.getD i 0 := fun i hi => by simp [List.getD_eq_getElem?_getD, List.getElem?_append_left hi]
  have e2 : (l ++ [a]).getD l.length 0 = a := by simp [List.getD_eq_getElem?_getD]
  intro i hi
  rw [List.length_append] at hi
  have h1 : ([a] : List Nat).length = 1 := rfl
  by_cases h2 : i < l.length
  · rw [e1 i h2]
    exact ⟨(h i h2).1, fun j hj => by rw [e1 j (by omega)]; exact (h i h2).2 j hj⟩
  · obtain rfl : i = l.length := by omega
    rw [e2]
    exact ⟨ha, fun j hj => by rw [e1 j hj]; exact (hd j hj).symm⟩
end Go.Proofs.YtnmopjefjpifoaaGreatDoor
/- Any k rows of the unit above a Cauchy matrix have an inverse; nothing of the program. -/
set_option maxRecDepth 100000
namespace Go.Proofs.YtnmopjefjpifoaaGreatDoor

/-- The unit above the Cauchy matrix: row i of all shards. -/
def ext (k : Nat) : Mx := fun i j => if i < k then id1 i j else cau k (i - k) j
end Go.Proofs.YtnmopjefjpifoaaGreatDoor
/- What the program's codes are asked to do, whatever they look like in memory: the premises of layer 4's walks. -/
set_option maxRecDepth 100000
namespace Go.Proofs.YtnmopjefjpifoaaGreatDoor
open Go Go.RowKit
attribute [-go_sem] Sha.exec_store

theorem bs00 (w : World) : (bsT 53 2 #[(0, .int .u8 0), (1, .int .u8 0)]).run Tryz.prog w = .ok (.value (.slice (some ⟨w.heap.size, 0, none⟩) 2 2)) (w.alloc (.cells #[B 0#8, B 0#8] 5)) := by
  rw [B_0]; kernel_rfl
attribute [local go_sem ↓] exec_bs
attribute [local go_sem] bs00 bsR
end Go.Proofs.YtnmopjefjpifoaaGreatDoor
/- append(bytes, make([]byte, n)...): as many noughts are appended. -/
set_option maxRecDepth 100000
namespace Go.Proofs.YtnmopjefjpifoaaGreatDoor
open Go Go.RowKit
attribute [-go_sem] Sha.exec_store

end Go.Proofs.YtnmopjefjpifoaaGreatDoor
/- The plain sidecar: the blocks of a stripe, their parity, what a sidecar holds. -/
set_option maxRecDepth 100000
namespace Go.Proofs.YtnmopjefjpifoaaGreatDoor
open Go Go.RowKit
attribute [-go_sem] Sha.exec_store

end Go.Proofs.YtnmopjefjpifoaaGreatDoor
