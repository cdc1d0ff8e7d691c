/- Merged texts: Beside, InvM, Cuts, Invert, InvNo, New, Cauchy, Ref4, Steps. -/
import Derived.Test.YtphpliclecmnlaaK3
import Derived.Test.YtphpliclecmnlaaK2
import Derived.BigRegion
import Derived.Deep.QuietTactic
import Derived.BigQuiet
import Derived.StillTailTactics
import Derived.Test.YtphpliclecmnlaaK1
set_option linter.unusedSimpArgs false
set_option linter.unusedVariables false
/- The program's besideUnit: a matrix beside the unit. -/
namespace Go.Proofs.Ytphpliclecmnlaa
open Go Go.RowKit

/-- A matrix of n columns beside the unit. -/
def wide (n : Nat) (a : Mx) : Mx := fun i j => if j < n then a i j else id1 i (j - n)
attribute [local go_sem ↓] exec_store exec_make exec_bs
attribute [local go_sem] st_B st_I st_b st_H mkB mkR
set_option maxRecDepth 100000 in
set_option maxHeartbeats 8000000 in
theorem beside_any (la : List (List (BitVec 8))) (p : Option Addr) (n cap M : Nat) (w : World) (ha : Prt w p la) (hla : la.length = n) (hra : ∀ i, i < n → (la.getD i []).length = n) (hn : n ≤ 64) (hM2 : M = 2 * n) :
    Calls Try.prog 57 #[.slice p n cap] w (RetMp w.heap.size w n M (wide n (mx la))) := by
  have HA := Lib.hid ha
  have HLA := Lib.hid hla
  have HRA := Lib.hid hra
  have hn8 : n < 100000000 := by omega
  have hMi : (2 : Int) * (n : Int) = (M : Int) := by omega
  have hM4 : M < 4294967296 := by omega
  have HMM := Lib.hid hM2
  have hmat : Mp (w.alloc (.cells (tab n (fun _ => .slice none 0 0)) 38)) w.heap.size w.heap.size n 0 M (fun _ => 0) (wide n (mx la)) := Mp.zero (Row.new w _ n _) (Nat.le_refl _)
  have hb0 : Below w.heap.size w (w.alloc (.cells (tab n (fun _ => .slice none 0 0)) 38)) := (Below.refl _ _).alloc (Nat.le_refl _) _
  clear ha hla hra hM2
  go_enter Try.func57, Try.ntmps57
  go_wp2
  generalize w.alloc (.cells (tab n (fun _ => .slice none 0 0)) 38) = w1 at *
  have HM := Lib.hid hmat
  have HB0 := Lib.hid hb0
  clear hmat hb0
  generalize hN : w.heap.size = N at *
  have HN := Lib.hid hN
  clear hN
  go_loopw [11] (fun i wr => ∃ i0 : Nat, i0 ≤ n ∧ i = .int .i64 i0 ∧ ∃ D, Mp wr N N n i0 M D (wide n (mx la)) ∧ Below N w wr) (fun i _ => n - (intOf i).toNat)
  case atStart => exact ⟨0, Nat.zero_le _, rfl, _, HM.out, HB0.out⟩
  case round =>
    clear HM HB0
    obtain ⟨i0, hi0, rfl, D, hM, hB⟩ := hrel
    rename World => WO
    have HM := Lib.hid hM
    have HBr := Lib.hid hB
    have hNlt : N < WO.heap.size := hM.ltG
    by_cases hlt : i0 < n
    · have hd0 : decide ((i0 : Int) < (n : Int)) = true := decide_eq_true (by omega)
      have hl0 : (i0 : Int) < (n : Int) := by omega
      obtain ⟨ca, oa, qa, ca0, rfl, hca0, hca1, hsa, hqa, -⟩ := HA.out.at_ i0 (by rw [HLA.out]; exact hlt)
      have hrl := HRA.out i0 hlt
      rw [hrl] at hca1
      have hxa : WO.cell? ⟨ca, oa + i0, none⟩ = some (.slice qa n ca0) := by
        rw [hB.cell (by rw [← HN.out]; exact hca0)]; exact hca1
      have hbA : Below WO.heap.size WO (WO.alloc (.cells (zb M) 5)) := (Below.refl _ _).alloc (Nat.le_refl _) _
      have hr : Row (WO.alloc (.cells (zb M) 5)) WO.heap.size 5 M (fun j => B 0#8) := Row.new WO _ M _
      have hMA := hM.of_below hbA
      have hc2 : WO.cell? ⟨N, i0, none⟩ = some (hdr i0 M D i0) := hM.hds.cell i0 hlt
      have hf2 : WO.frozen? ⟨N, i0, none⟩ = false := hM.free i0
      have hMB := hMA.put i0 WO.heap.size (fun _ => 0#8) hr (i0 + 1) (.inr ⟨rfl, rfl⟩) (fun j hj _ => by have := hM.lt j hj; omega) (by omega) (by omega)
      have HB1 := Lib.hid (show Below N w ((WO.setCell ⟨N, i0, none⟩ (.slice (some ⟨WO.heap.size, 0, none⟩) M M)).alloc (.cells (zb M) 5)) from ((hB.setCell (Nat.le_refl _) _).alloc (by simp; omega) _))
      have hcomm : (WO.alloc (.cells (zb M) 5)).setCell ⟨N, i0, none⟩ (.slice (some ⟨WO.heap.size, 0, none⟩) M M) = (WO.setCell ⟨N, i0, none⟩ (.slice (some ⟨WO.heap.size, 0, none⟩) M M)).alloc (.cells (zb M) 5) := World.setCell_alloc_past _ N i0 _ hNlt
      rw [hcomm] at hMB
      have HM1 := Lib.hid hMB
      have HSA := Lib.hid (show Sl ((WO.setCell ⟨N, i0, none⟩ (.slice (some ⟨WO.heap.size, 0, none⟩) M M)).alloc (.cells (zb M) 5)) qa (la.getD i0 []) from hsa.of_below (by rw [HN.out]; exact HB1.out))
      have HRL := Lib.hid hrl
      have hcm : (WO.alloc (.cells (zb M) 5)).cell? ⟨N, i0, none⟩ = some (hdr i0 M D i0) := hMA.hds.cell i0 hlt
      have hrowE := hMB.row i0 (Nat.lt_succ_self _)
      rw [show setD D i0 WO.heap.size i0 = WO.heap.size from if_pos rfl] at hrowE
      have HRE := Lib.hid hrowE
      have HEN := Lib.hid (show N < WO.heap.size from hNlt)
      clear hca1 hsa hbA hr hMA hMB hM hB hcomm hrl hqa hcm hrowE
      go_wp2_with (first | (refine wpl_copy _ rfl (.tmp 26) (.tmp 27) rfl WO.heap.size M M (fun x => B (setr (wide n (mx la)) i0 (fun _ => 0#8) i0 x)) qa n ca0 (la.getD i0 []) rfl rfl HRE.out HRL.out (by omega) HSA.out ?_; rintro w5 hR5 hK5; have HR5 := Lib.hid hR5; have HK5 := Lib.hid hK5; have g1 : w5.cell? ⟨N, i0, none⟩ = some (.slice (some ⟨WO.heap.size, 0, none⟩) M M) := (by rw [hK5.cell (by exact HM1.out.ltG) (by show N ≠ WO.heap.size; have := HEN.out; omega), HM1.out.cellH i0 (Nat.lt_succ_self _) hlt]; show some (Value.slice (some ⟨setD D i0 WO.heap.size i0, 0, none⟩) M M) = _; rw [show setD D i0 WO.heap.size i0 = WO.heap.size from if_pos rfl]); have g2 : (w5.cell? ⟨WO.heap.size, n + i0, none⟩).isSome = true := (by rw [hR5.cell (n + i0) (by have := HMM.out; omega)]; rfl); have g3 : ∀ i, w5.frozen? ⟨WO.heap.size, i, none⟩ = false := hR5.free; have g4 : (n : Int) + (i0 : Int) < (M : Int) := (by have := HMM.out; omega); clear hR5 hK5))
      clear g1 g2 g3 g4
      go_roundw
      case rel =>
        have e1 : setD D i0 WO.heap.size i0 = WO.heap.size := if_pos rfl
        have hk := HK5.out.setCell (n + i0) (.int .u8 1)
        have hr := (HR5.out.set (n + i0) (.int .u8 1)).congr (g' := fun j => B (if j = n + i0 then 1#8 else if j < n then (la.getD i0 []).getD j 0#8 else 0#8)) fun j _ => by
          by_cases h1 : j = n + i0
          · rw [if_pos h1, if_pos h1, B_1]
          · rw [if_neg h1, if_neg h1]
            by_cases h2 : j < n
            · rw [if_pos h2, if_pos h2]
            · rw [if_neg h2, if_neg h2, setr, if_pos rfl]
        have hm := HM1.out.alter (D := setD D i0 WO.heap.size) i0 (Nat.lt_succ_self _) _ (by rw [e1]; exact hk) (by rw [e1]; exact hr)
        refine ⟨i0 + 1, by omega, by go_num, _, hm.congr fun x y hx hy => ?_, HB1.out.trans (hk.below (Nat.le_of_lt HEN.out) (Nat.le_of_lt HM1.out.ltG))⟩
        by_cases h1 : x = i0
        · rw [setr, if_pos h1, wide, h1, id1]
          by_cases h2 : y = n + i0
          · rw [if_pos h2, if_neg (by omega), if_pos (by omega)]
          · rw [if_neg h2]
            by_cases h3 : y < n
            · rw [if_pos h3, if_pos h3]; rfl
            · rw [if_neg h3, if_neg h3, if_neg (by omega)]
        · rw [setr, if_neg h1, setr, if_neg h1]
      case measure => simp [intOf]; omega
    · have hd0 : decide ((i0 : Int) < (n : Int)) = false := decide_eq_false (by omega)
      obtain rfl : i0 = n := by omega
      clear hM hB
      go_wp2
      go_ret
      exact ⟨_, D, rfl, HM.out, HBr.out⟩
end Go.Proofs.Ytphpliclecmnlaa
/- The elimination as row steps; nothing of the program. -/
namespace Go.Proofs.Ytphpliclecmnlaa

/-- What steps do to a column hangs on that column alone. -/
theorem Rop.spread {n : Nat} {T U : Mx → Mx} (h : Rop n T U) (X : Mx) (j i : Nat) : T X i j = T (fun i _ => X i j) i 0 := by
  have e : ∀ (Z : Mx) i k, mm (j + 1) Z (fun l _ => if l = j then 1#8 else 0#8) i k = Z i j := fun Z i k => by
    unfold mm
    rw [xs_one (j + 1) j (by omega)]
    · show gm (Z i j) (if j = j then 1#8 else 0#8) = Z i j
      rw [if_pos rfl, gm_one_r]
    · intro l _ hl
      show gm (Z i l) (if l = j then 1#8 else 0#8) = 0#8
      rw [if_neg hl, gm_zr]
  have h1 := h.left (j + 1) X (fun l _ => if l = j then 1#8 else 0#8) i 0
  rw [e (T X) i 0, funext2 (e X)] at h1
  exact h1
theorem Rop.column {n : Nat} {T U : Mx → Mx} (h : Rop n T U) (X Y : Mx) (j l : Nat) (e : ∀ i, i < n → X i j = Y i l) (i : Nat) (hi : i < n) : T X i j = T Y i l := by
  rw [h.spread X j i, h.spread Y l i]
  exact h.congr _ _ 0 (fun i hi => e i hi) i hi
theorem clr_lt (k c : Nat) (P : Mx) (i j : Nat) (h : i < k ∧ i ≠ c) : clrM k c P i j = P i j ^^^ gm (P i c) (P c j) := if_pos h
theorem clr_ge (k c : Nat) (P : Mx) (i j : Nat) (h : ¬ (i < k ∧ i ≠ c)) : clrM k c P i j = P i j := if_neg h
theorem clr_steps (n c : Nat) (hc : c < n) (P : Mx) : ∀ k, k ≤ n → ∃ T U, Steps n T U ∧ clrM k c P = T P := by
  intro k
  induction k with
  | zero =>
    intro _
    refine ⟨_, _, Steps.refl n, funext2 fun i j => ?_⟩
    unfold clrM
    rw [if_neg (by omega)]
  | succ k ih =>
    intro hk
    obtain ⟨T, U, h, e⟩ := ih (by omega)
    by_cases hkc : k = c
    · refine ⟨T, U, h, ?_⟩
      rw [← e]
      refine funext2 fun i j => ?_
      unfold clrM
      by_cases h1 : i < k ∧ i ≠ c
      · rw [if_pos h1, if_pos (by omega)]
      · rw [if_neg h1, if_neg (by omega)]
    · refine ⟨_, _, h.trans (steps_add n c k hc (by omega) (Ne.symm hkc) (P k c)), ?_⟩
      refine funext2 fun i j => ?_
      show clrM (k + 1) c P i j = radd c k (P k c) (T P) i j
      rw [← e]
      unfold radd
      by_cases h1 : i = k
      · subst h1
        rw [if_pos rfl, clr_lt _ _ _ _ _ ⟨by omega, hkc⟩, clr_ge _ _ _ _ _ (by omega), clr_ge _ _ _ _ _ (by omega)]
      · rw [if_neg h1]
        by_cases h2 : i < k ∧ i ≠ c
        · rw [clr_lt _ _ _ _ _ h2, clr_lt _ _ _ _ _ (by omega)]
        · rw [clr_ge _ _ _ _ _ h2, clr_ge _ _ _ _ _ (by omega)]
theorem elim_steps (n c : Nat) (hc : c < n) (X : Mx) (h : X c c ≠ 0#8) : ∃ T U, Steps n T U ∧ clrM n c (pivM c X) = T X := by
  obtain ⟨T, U, h1, e⟩ := clr_steps n c hc (pivM c X) n (Nat.le_refl _)
  exact ⟨_, _, (steps_scale n c hc (gi (X c c)) (gi_ne _)).trans h1, e⟩
/-- The first c columns are the unit's. -/
def UpTo (n c : Nat) (X : Mx) : Prop := ∀ i j, i < n → j < c → X i j = id1 i j
theorem upTo_elim (n c : Nat) (hc : c < n) (X : Mx) (h : X c c ≠ 0#8) (hu : UpTo n c X) : UpTo n (c + 1) (clrM n c (pivM c X)) := by
  intro i j hi hj
  have hp : ∀ j, pivM c X c j = gm (gi (X c c)) (X c j) := fun j => by unfold pivM rscale; rw [if_pos rfl]
  have hq : ∀ i j, i ≠ c → pivM c X i j = X i j := fun i j hic => by unfold pivM rscale; rw [if_neg hic]
  unfold clrM
  by_cases hic : i = c
  · subst hic
    rw [if_neg (by omega), hp]
    by_cases hji : j = i
    · subst hji
      rw [gm_comm, gm_gi _ h, id1, if_pos rfl]
    · rw [hu i j hi (by omega), id1, if_neg (Ne.symm hji), gm_zr]
  · rw [if_pos ⟨hi, hic⟩, hq _ _ hic, hq _ _ hic, hp]
    by_cases hjc : j = c
    · subst hjc
      rw [gm_comm (gi (X j j)), gm_gi _ h, gm_one_r, xor_self', id1, if_neg hic]
    · rw [hu c j hc (by omega), hu i j hi (by omega)]
      show id1 i j ^^^ gm (X i c) (gm (gi (X c c)) (id1 c j)) = id1 i j
      rw [show id1 c j = 0#8 from if_neg (Ne.symm hjc), gm_zr, gm_zr, BitVec.xor_zero]
theorem upTo_swap (n c q : Nat) (hc : c < n) (hq : q < n) (hcq : c ≤ q) (X : Mx) (hu : UpTo n c X) : UpTo n c (rswap c q X) := by
  intro i j hi hj
  show X (swp c q i) j = id1 i j
  unfold swp
  by_cases h1 : i = c
  · rw [if_pos h1, hu q j hq hj, id1, id1, if_neg (by omega), if_neg (by omega)]
  · rw [if_neg h1]
    by_cases h2 : i = q
    · rw [if_pos h2, hu c j hc hj, id1, id1, if_neg (by omega), if_neg (by omega)]
    · rw [if_neg h2]; exact hu i j hi hj
/-- What the elimination has reached in column c. -/
def Reach (n c : Nat) (a X : Mx) : Prop := ∃ T U, Steps n T U ∧ X = T (wide n a) ∧ UpTo n c X
theorem reach_zero (n : Nat) (a : Mx) : Reach n 0 a (wide n a) := ⟨_, _, Steps.refl n, rfl, fun i j _ hj => absurd hj (by omega)⟩
theorem Reach.next {n c q : Nat} {a X : Mx} (h : Reach n c a X) (hc : c < n) (hq : q < n) (hcq : c ≤ q) (h0 : X q c ≠ 0#8) : Reach n (c + 1) a (clrM n c (pivM c (rswap c q X))) := by
  obtain ⟨T, U, h1, rfl, h3⟩ := h
  have hne : rswap c q (T (wide n a)) c c ≠ 0#8 := by
    show T (wide n a) (swp c q c) c ≠ 0#8
    rwa [show swp c q c = q from if_pos rfl]
  obtain ⟨T', U', h4, e⟩ := elim_steps n c hc _ hne
  exact ⟨_, _, (h1.trans (steps_swap n c q hc hq)).trans h4, e, upTo_elim n c hc _ hne (upTo_swap n c q hc hq hcq _ h3)⟩
/-- Steps are stuck: no inverse. -/
def NoInv (n : Nat) (a : Mx) : Prop := ∃ T U k, Steps n T U ∧ Stuck n k (T a)
theorem Reach.stuck {n c : Nat} {a X : Mx} (h : Reach n c a X) (hc : c < n) (h0 : ∀ i, c ≤ i → i < n → X i c = 0#8) : NoInv n a := by
  obtain ⟨T, U, h1, rfl, h3⟩ := h
  have e : ∀ i j, i < n → j < n → T a i j = T (wide n a) i j := fun i j hi hj => h1.1.column a (wide n a) j j (fun i _ => by unfold wide; rw [if_pos hj]) i hi
  exact ⟨T, U, c, h1, hc, fun i j hi hj => by rw [e i j hi (by omega)]; exact h3 i j hi hj, fun i hci hi => by rw [e i c hi hc]; exact h0 i hci hi⟩
/-- v is the inverse of a, on either side. -/
def IsInv (n : Nat) (a v : Mx) : Prop := (∀ i k, i < n → k < n → mm n v a i k = id1 i k) ∧ (∀ i k, i < n → k < n → mm n a v i k = id1 i k)
theorem Reach.done {n : Nat} {a X : Mx} (h : Reach n n a X) : IsInv n a (fun i j => X i (n + j)) ∧ det n a ≠ 0#8 := by
  obtain ⟨T, U, h1, rfl, h3⟩ := h
  have e : ∀ i j, i < n → j < n → T a i j = T (wide n a) i j := fun i j hi hj => h1.1.column a (wide n a) j j (fun i _ => by unfold wide; rw [if_pos hj]) i hi
  have e2 : ∀ i j, i < n → T (wide n a) i (n + j) = T id1 i j := fun i j hi => h1.1.column (wide n a) id1 (n + j) j (fun i _ => by unfold wide; rw [if_neg (by omega), Nat.add_sub_cancel_left]) i hi
  have hu : ∀ i k, i < n → k < n → T a i k = id1 i k := fun i k hi hk => by rw [e i k hi hk]; exact h3 i k hi hk
  obtain ⟨g1, g2⟩ := h1.1.inverse a hu
  refine ⟨⟨fun i k hi hk => ?_, fun i k hi hk => ?_⟩, h1.unit a hu⟩
  · rw [← g1 i k hi hk]; exact mm_congr (fun j _ => e2 i j hi) (fun j _ => rfl)
  · rw [← g2 i k hi hk]; exact mm_congr (fun j _ => rfl) (fun j hj => e2 j k hj)
theorem NoInv.det {n : Nat} {a : Mx} (h : NoInv n a) : det n a = 0#8 := by
  obtain ⟨T, U, k, h1, h2⟩ := h
  exact h1.stuck a h2
/-- Numbers that are not all 0 are taken to nothing. -/
theorem NoInv.kernel {n : Nat} {a : Mx} (h : NoInv n a) : ∃ (v : Nat → BitVec 8) (k : Nat), k < n ∧ v k = 1#8 ∧ ∀ i, i < n → xs n (fun j => gm (a i j) (v j)) = 0#8 := by
  obtain ⟨T, U, k, h1, h2⟩ := h
  obtain ⟨v, hv, h3⟩ := h1.kernel a h2
  exact ⟨v, k, h2.1, hv, h3⟩
theorem NoInv.not {n : Nat} {a u : Mx} (h : NoInv n a) (hu : ∀ i k, i < n → k < n → mm n u a i k = id1 i k) : False := by
  obtain ⟨v, k, hk, hv, h3⟩ := h.kernel
  have h1 := mm_assoc n u a (fun j _ => v j) k 0
  have e1 : mm n (mm n u a) (fun j _ => v j) k 0 = v k := by
    rw [mm_congr (a' := id1) (b' := fun j _ => v j) (fun j hj => hu k j hk hj) (fun j _ => rfl), mm_id_l n _ k 0 hk]
  have e2 : mm n u (mm n a (fun j _ => v j)) k 0 = 0#8 := xs_zero' fun j hj => by
    show gm (u k j) (xs n (fun l => gm (a j l) (v l))) = 0#8
    rw [h3 j hj, gm_zr]
  rw [e1, e2, hv] at h1
  exact absurd h1 (by decide)
theorem IsInv.uniq {n : Nat} {a u v : Mx} (hu : IsInv n a u) (hv : ∀ i k, i < n → k < n → mm n a v i k = id1 i k) (i k : Nat) (hi : i < n) (hk : k < n) : u i k = v i k := by
  have h1 := mm_assoc n u a v i k
  rw [mm_congr (a' := id1) (b' := v) (fun j hj => hu.1 i j hi hj) (fun j _ => rfl), mm_id_l n _ i k hi, mm_congr (a' := u) (b' := id1) (fun j _ => rfl) (fun j hj => hv j k hj hk), mm_id_r n _ i k hk] at h1
  exact h1.symm
end Go.Proofs.Ytphpliclecmnlaa
/- Slices that are cut. -/
namespace Go.Proofs.Ytphpliclecmnlaa
open Go Go.RowKit

/-- A cut of a slice, its operands reckoned first. -/
def slT (t : TypeId) (x : Value) (lo hi mx : Option Value) : Sem Next := do pure (.value (← Instr.sliceAt t x lo hi mx))
theorem exec_slice (r : Operand → Value) (dst : Option Tmp) (t : TypeId) (x : Operand) (lo hi m : Option Operand) (ty : TypeId) (pos : String) (after : Array Edge) (guard : Option (Nat × Bool)) :
    execOp r ⟨dst, .slice t x lo hi m, ty, pos, after, guard⟩ = slT t (r x) (lo.map r) (hi.map r) (m.map r) := rfl
/-- Where the bytes from number l on lie. -/
def cutA (q : Option Addr) (cap l : Nat) : Option Addr := if cap = l then q else q.map (·.add l)
theorem cutA_zero (q : Option Addr) (cap : Nat) : cutA q cap 0 = q := by
  unfold cutA
  split
  · rfl
  · cases q with
    | none => rfl
    | some a => show some (a.add 0) = some a; rw [Addr.add_zero']
theorem sizeB (w : World) : (sizeOf (Try.prog.elem 38)).run Try.prog w = .ok 1 w := by kernel_rfl
theorem sl_hi (q : Option Addr) (n cap k : Nat) (w : World) (hk : k ≤ cap) :
    (slT 38 (.slice q n cap) none (some (.int .i64 (k : Int))) none).run Try.prog w = .ok (.value (.slice q k cap)) w := by
  have h1 := run_sliceAt_slice (P := Try.prog) w 38 (.slice q n cap) none (some (.int .i64 (k : Int))) none und35
  rw [run_slice_h (P := Try.prog) w 38 q n cap und35 .i64 (k : Int) (by omega) (by omega), sizeB] at h1
  simp only [slT, Sem.run_bind, h1, Result.andThen_ok, Sem.run_pure]
  simp only [sliced, Int.toNat_natCast, Nat.zero_mul, Nat.sub_zero]
  have := cutA_zero q cap
  unfold cutA at this
  rw [this]
theorem sl_lo (q : Option Addr) (n cap k : Nat) (w : World) (hk : k + 1 ≤ n) :
    (slT 38 (.slice q n cap) (some (.int .i64 ((k : Int) + 1))) none none).run Try.prog w = .ok (.value (.slice (cutA q cap (k + 1)) (n - (k + 1)) (cap - (k + 1)))) w := by
  have h1 := run_sliceAt_slice (P := Try.prog) w 38 (.slice q n cap) (some (.int .i64 ((k : Int) + 1))) none none und35
  rw [run_slice_l (P := Try.prog) w 38 q n cap und35 .i64 ((k : Int) + 1) (by omega) (by omega), sizeB] at h1
  simp only [slT, Sem.run_bind, h1, Result.andThen_ok, Sem.run_pure]
  have e : ((k : Int) + 1).toNat = k + 1 := by omega
  simp only [sliced, e, Nat.mul_one, cutA]
theorem Sl.take {w : World} {q : Option Addr} {l : List (BitVec 8)} (h : Sl w q l) (k : Nat) : Sl w q (l.take k) := fun j hj => by
  have hj' : j < k ∧ j < l.length := by simp [List.length_take] at hj; omega
  obtain ⟨c, o, e, hc⟩ := h j hj'.2
  refine ⟨c, o, e, ?_⟩
  rw [hc]
  simp [List.getD_eq_getElem?_getD, hj'.1]
theorem Sl.drop {w : World} {q : Option Addr} {l : List (BitVec 8)} {cap : Nat} (h : Sl w q l) (hc : l.length ≤ cap) (k : Nat) : Sl w (cutA q cap k) (l.drop k) := fun j hj => by
  have hj' : k + j < l.length := by simp at hj; omega
  obtain ⟨c, o, e, hx⟩ := h (k + j) hj'
  subst e
  refine ⟨c, o + k, ?_, ?_⟩
  · unfold cutA
    rw [if_neg (by omega)]
    show some (Addr.add _ k) = _
    rw [Addr.add_mid]
  · rw [Nat.add_assoc, hx]
    simp [List.getD_eq_getElem?_getD, List.getElem?_drop]
theorem cutA_none {q : Option Addr} {cap k : Nat} (h : q = none → cap = 0) (e : cutA q cap k = none) : cap - k = 0 := by
  cases q with
  | none => rw [h rfl, Nat.zero_sub]
  | some a =>
    unfold cutA at e
    split at e <;> cases e
end Go.Proofs.Ytphpliclecmnlaa
/- The program's Invert. -/
namespace Go.Proofs.Ytphpliclecmnlaa
open Go Go.RowKit

theorem sizeR (w : World) : (sizeOf (Try.prog.elem 23)).run Try.prog w = .ok 1 w := by kernel_rfl
theorem sl_rows (G n c : Nat) (w : World) (hc : c < n) :
    (slT 23 (.slice (some ⟨G, 0, none⟩) n n) (some (.int .i64 (c : Int))) none none).run Try.prog w = .ok (.value (.slice (some ⟨G, c, none⟩) (n - c) (n - c))) w := by
  have h1 := run_sliceAt_slice (P := Try.prog) w 23 (.slice (some ⟨G, 0, none⟩) n n) (some (.int .i64 (c : Int))) none none undRows
  rw [run_slice_l (P := Try.prog) w 23 (some ⟨G, 0, none⟩) n n undRows .i64 (c : Int) (by omega) (by omega), sizeR] at h1
  simp only [slT, Sem.run_bind, h1, Result.andThen_ok, Sem.run_pure]
  simp only [sliced, Int.toNat_natCast, Nat.mul_one]
  rw [if_neg (by omega)]
  simp [Addr.add]
  omega
theorem sl_bytes (D n m M : Nat) (w : World) (hM : M = n + m) (hm : 0 < m) :
    (slT 38 (.slice (some ⟨D, 0, none⟩) M M) (some (.int .i64 (n : Int))) none none).run Try.prog w = .ok (.value (.slice (some ⟨D, n, none⟩) m m)) w := by
  have h1 := run_sliceAt_slice (P := Try.prog) w 38 (.slice (some ⟨D, 0, none⟩) M M) (some (.int .i64 (n : Int))) none none und35
  rw [run_slice_l (P := Try.prog) w 38 (some ⟨D, 0, none⟩) M M und35 .i64 (n : Int) (by omega) (by omega), sizeB] at h1
  simp only [slT, Sem.run_bind, h1, Result.andThen_ok, Sem.run_pure]
  simp only [sliced, Int.toNat_natCast, Nat.mul_one]
  rw [if_neg (by omega), show M - n = m by omega]
  simp [Addr.add]
  omega
theorem enters_nz : ∀ args w, (callFunc 58 args).run Try.prog w = .ok (.enter 58 args) w := enters_of Try.func58 (by kernel_rfl) rfl
theorem nz_any (b c n cap : Nat) (q : Option Addr) (l : List (BitVec 8)) (w : World) (h1 : w.cell? ⟨b, 0, none⟩ = some (.int .i64 (c : Int))) (hl : l.length = n) (hs : Sl w q l) (hc : c < n) :
    Calls Try.prog 58 #[.slice q n cap, .pointer (some ⟨b, 0, none⟩)] w fun e w' => e = .returned (.bool (l.getD c 0#8 != 0#8)) ∧ w = w' := by
  obtain ⟨d, o, rfl, hx⟩ := hs c (by omega)
  have hcn : (c : Int) < (n : Int) := by omega
  generalize l.getD c 0#8 = x at *
  clear hs hl
  go_enter Try.func58, Try.ntmps58
  go_wp2
  go_ret
  exact ⟨rfl, rfl⟩
/-- The rows from row c on. -/
def fromL (n m c : Nat) (a : Mx) : List (List (BitVec 8)) := (List.range (n - c)).map fun k => rowL m a (c + k)
theorem fromL_length (n m c : Nat) (a : Mx) : (fromL n m c a).length = n - c := by simp [fromL]
theorem fromL_get (n m c : Nat) (a : Mx) (k : Nat) (h : k < n - c) : (fromL n m c a).getD k [] = rowL m a (c + k) := by simp [fromL, List.getD_eq_getElem?_getD, h]
theorem Mp.from {w : World} {N G n m : Nat} {D : Nat → Nat} {a : Mx} (h : Mp w N G n n m D a) (c : Nat) : Prt w (some ⟨G, c, none⟩) (fromL n m c a) := fun i hi => by
  rw [fromL_length] at hi
  rw [fromL_get _ _ _ _ _ hi, rowL_length]
  exact ⟨G, c, some ⟨D (c + i), 0, none⟩, m, rfl, h.cellH (c + i) (by omega) (by omega), h.sl (c + i) (by omega), (fun e => by cases e), Nat.le_refl _⟩
/-- What Invert gives of a square matrix. -/
def InvPost (w : World) (n : Nat) (a : Mx) (e : Ending) (w' : World) : Prop :=
  (NoInv n a ∧ RetNo w.heap.size w 4 e w') ∨ (det n a ≠ 0#8 ∧ ∃ G v, e = .returned (.tuple #[.slice (some ⟨G, 0, none⟩) n n, .int .i64 0]) ∧ IsInv n a v ∧ Prt w' (some ⟨G, 0, none⟩) (rowsL n n v) ∧ Below w.heap.size w w')
attribute [local go_sem ↓] exec_store exec_make exec_bs exec_slice
attribute [local go_sem] st_B st_I st_b st_H mkB mkR sl_rows
set_option maxRecDepth 100000 in
set_option maxHeartbeats 16000000 in
theorem invert_any (b : Nat) (la : List (List (BitVec 8))) (p : Option Addr) (n cap : Nat) (w : World) (hF : Fld w b) (ha : Prt w p la) (ga : Good la n n) :
    Calls Try.prog 51 #[.pointer (some ⟨b, 0, none⟩), .slice p n cap] w (InvPost w n (mx la)) := by
  have g1 := ga.lo
  have g2 := ga.hi
  have HF := Lib.hid hF
  have HA := Lib.hid ha
  have GA := Lib.hid ga
  obtain ⟨M, hM⟩ : ∃ M, M = n + n := ⟨_, rfl⟩
  have HMM := Lib.hid hM
  obtain ⟨c0, o0, q0, cap0, rfl, hc0, hcc0⟩ := ha.head (by rw [ga.len]; omega)
  rw [ga.head] at hcc0
  have ta := ga.true_
  have hn0 : (0 : Int) < (n : Int) := by omega
  have hnn : ((n : Int) != (n : Int)) = false := by simp
  have hbN : b < w.heap.size := hF.lt
  clear hF ha ga hM
  go_enter Try.func51, Try.ntmps51
  go_wp2_with fail
  refine (good_any la _ n cap w HA.out GA.out.len (by omega)).mono ?_
  rintro e w1 ⟨rfl, hB1⟩
  have hx : w1.cell? ⟨c0, o0, none⟩ = some (.slice q0 n cap0) := by rw [hB1.cell (by exact hc0)]; exact hcc0
  have HB1 := Lib.hid hB1
  clear hB1
  go_wp2_with fail
  refine (beside_any la _ n cap M w1 (HA.out.of_below HB1.out) GA.out.len GA.out.rows g2 (by have := HMM.out; omega)).mono ?_
  rintro e w2 ⟨G, D, rfl, hM2, hB2⟩
  have HB2 := Lib.hid (HB1.out.trans (hB2.mono HB1.out.size))
  have hsz := HB1.out.size
  have HM2 := Lib.hid (⟨hM2.hds, hM2.row, hM2.inj, hM2.ne, fun i hi => Nat.le_trans hsz (hM2.lo i hi), Nat.le_trans hsz hM2.loG⟩ : Mp w2 w.heap.size G n n M D (wide n (mx la)))
  clear hM2 hB2 hx hsz HB1 hcc0 ta
  generalize hN : w.heap.size = N at *
  have HN := Lib.hid hN
  clear hN
  go_wp2
  go_loopw [26] (fun i wr => ∃ c : Nat, c ≤ n ∧ i = .int .i64 c ∧ ∃ D X, Mp wr N G n n M D X ∧ Below N w wr ∧ Reach n c (mx la) X) (fun i _ => n - (intOf i).toNat)
  case atStart => exact ⟨0, Nat.zero_le _, rfl, D, _, HM2.out, HB2.out, reach_zero n (mx la)⟩
  case round =>
    clear HM2 HB2
    obtain ⟨c, hc, rfl, D1, X, hM, hB, hR⟩ := hrel
    rename World => WP
    have HM := Lib.hid hM
    have HB := Lib.hid hB
    have HR := Lib.hid hR
    have hNG : N ≤ G := hM.loG
    have hGP : G < WP.heap.size := hM.ltG
    by_cases hlt : c < n
    · have hd0 : decide ((c : Int) < (n : Int)) = true := decide_eq_true (by omega)
      have hl0 : (c : Int) < (n : Int) := by omega
      have hbb : Below WP.heap.size WP (WP.alloc (.cells #[.int .i64 (c : Int)] 3)) := (Below.refl _ _).alloc (Nat.le_refl _) _
      have HM1 := Lib.hid (hM.of_below hbb)
      have HB1 := Lib.hid (show Below N w (WP.alloc (.cells #[.int .i64 (c : Int)] 3)) from hB.alloc (by omega) _)
      have hbox : (WP.alloc (.cells #[.int .i64 (c : Int)] 3)).cell? ⟨WP.heap.size, 0, none⟩ = some (.int .i64 (c : Int)) := by rw [World.cell?_alloc_new]; rfl
      have hPRT := HM1.out.from c
      have hask : Asks 58 #[.pointer (some ⟨WP.heap.size, 0, none⟩)] (fromL n M c X) (fun k => ((fromL n M c X).getD k []).getD c 0#8 != 0#8) (WP.alloc (.cells #[.int .i64 (c : Int)] 3)) := by
        intro k hk q cap' hsl
        rw [fromL_length] at hk
        exact nz_any WP.heap.size c _ cap' q _ _ hbox rfl hsl (by rw [fromL_get _ _ _ _ _ hk, rowL_length]; have := HMM.out; omega)
      have HASK := Lib.hid hask
      have HPRT := Lib.hid hPRT
      have hfk : ∀ k, k < n - c → ((fromL n M c X).getD k []).getD c 0#8 = X (c + k) c := fun k hk => by
        rw [fromL_get _ _ _ _ _ hk, rowL_get _ _ _ _ (by have := HMM.out; omega)]
      clear hM hB hbb hask hPRT
      rcases hit_or (fun k => ((fromL n M c X).getD k []).getD c 0#8 != 0#8) (n - c) with ⟨t, ht⟩ | ht
      · have htn : t < n - c := ht.1
        have hxne : X (c + t) c ≠ 0#8 := by
          have h1 := ht.2.1
          rw [← hfk t htn]
          simpa using h1
        have HNEXT := Lib.hid (hR.next hlt (show c + t < n by omega) (by omega) hxne)
        have HNE := Lib.hid hxne
        have HT := Lib.hid ht
        have hdt : decide ((t : Int) < 0) = false := decide_eq_false (by omega)
        clear hR hfk ht hxne
        go_wp2_with fail
        refine (index_hit _ _ enters_nz (fromL n M c X) _ _ (n - c) (n - c) t _ HASK.out HPRT.out (fromL_length _ _ _ _) (by omega) HT.out).mono ?_
        rintro e w' ⟨rfl, rfl⟩
        clear HASK HPRT HT
        have hGB : G ≠ WP.heap.size := Nat.ne_of_lt hGP
        generalize WP.alloc (.cells #[.int .i64 (c : Int)] 3) = W1 at *
        generalize WP.heap.size = BX at *
        clear hGP
        have x1 := HM1.out.cellH c hlt hlt
        have x2 := HM1.out.cellH (c + t) (by omega) (by omega)
        have f1 : ∀ i, W1.frozen? ⟨G, i, none⟩ = false := HM1.out.free
        obtain ⟨v3, x3⟩ : ∃ v, (W1.setCell ⟨G, c, none⟩ (.slice (some ⟨D1 (c + t), 0, none⟩) M M)).cell? ⟨G, c + t, none⟩ = some v := ⟨_, (HM1.out.hds.set c _).cell (c + t) (by omega)⟩
        go_wp2
        have hw : IntKind.i64.wrap ((c : Int) + (t : Int)) = (c : Int) + (t : Int) := IntWalk.i64_in _ (by omega)
        have hw1 : 0 ≤ (c : Int) + (t : Int) := by omega
        have hw2 : (c : Int) + (t : Int) < (n : Int) := by omega
        have hw3 : ((c : Int) + (t : Int)).toNat = c + t := by omega
        have hw4 : c + t < n := by omega
        go_region
        have hs2 := HM1.out.swap c (c + t) hlt hw4
        have hx5 : (((W1.setCell ⟨G, c, none⟩ (.slice (some ⟨D1 (c + t), 0, none⟩) M M)).setCell ⟨G, c + t, none⟩ (.slice (some ⟨D1 c, 0, none⟩) M M)).drew).cell? ⟨BX, 0, none⟩ = some (.int .i64 (c : Int)) := by
          show ((W1.setCell ⟨G, c, none⟩ (.slice (some ⟨D1 (c + t), 0, none⟩) M M)).setCell ⟨G, c + t, none⟩ (.slice (some ⟨D1 c, 0, none⟩) M M)).cell? ⟨BX, 0, none⟩ = _
          rw [World.cell?_setCell_far _ _ _ _ hGB, World.cell?_setCell_far _ _ _ _ hGB]
          exact hbox
        have HM2 := Lib.hid (hs2.dr (Dr.refl _).drew)
        have HB2 := Lib.hid (((HB1.out.setCell (show N ≤ (⟨G, c, none⟩ : Addr).block from hNG) (.slice (some ⟨D1 (c + t), 0, none⟩) M M)).setCell (show N ≤ (⟨G, c + t, none⟩ : Addr).block from hNG) (.slice (some ⟨D1 c, 0, none⟩) M M)).drew)
        clear hs2 x1 x2 x3 f1 hbox hw hw1 hw2 hw3
        generalize ((W1.setCell ⟨G, c, none⟩ (.slice (some ⟨D1 (c + t), 0, none⟩) M M)).setCell ⟨G, c + t, none⟩ (.slice (some ⟨D1 c, 0, none⟩) M M)).drew = W2 at *
        clear HM1 HB1
        go_wp2_with fail
        refine (elim_any b G n M c N _ _ W2 (HF.out.below HB2.out hbN) hbN HM2.out hlt (by have := HMM.out; omega) g2 (by have := HMM.out; omega) (by show X (swp c (c + t) c) c ≠ 0#8; rw [show swp c (c + t) c = c + t from if_pos rfl]; exact HNE.out)).mono ?_
        rintro e w5 ⟨rfl, D5, hM5, hB5⟩
        have HM5 := Lib.hid hM5
        have HB5 := Lib.hid (HB2.out.trans hB5)
        clear hM5 hB5
        go_wp2
        go_roundw
        case rel => exact ⟨c + 1, by omega, by go_num, D5, _, HM5.out, HB5.out, HNEXT.out⟩
        case measure => simp [intOf]; omega
      · have HNO := Lib.hid (hR.stuck hlt fun i hci hi => by
          have h1 := ht (i - c) (by omega)
          rw [show i = c + (i - c) by omega, ← hfk (i - c) (by omega)]
          simpa using h1)
        have HT := Lib.hid ht
        clear hR hfk ht
        go_wp2_with fail
        refine (index_miss _ _ enters_nz (fromL n M c X) _ _ (n - c) (n - c) _ HASK.out HPRT.out (fromL_length _ _ _ _) (by omega) HT.out).mono ?_
        rintro e w' ⟨rfl, rfl⟩
        go_wp2
        go_ret2
        exact .inl ⟨HNO.out, rfl, by rw [HN.out]; exact HB1.out⟩
    · have hd0 : decide ((c : Int) < (n : Int)) = false := decide_eq_false (by omega)
      obtain rfl : c = n := by omega
      clear hM hB hR
      have hcut : ∀ (D : Nat) (w : World), (slT 38 (.slice (some ⟨D, 0, none⟩) M M) (some (.int .i64 (c : Int))) none none).run Try.prog w = .ok (.value (.slice (some ⟨D, c, none⟩) c c)) w := fun D w => sl_bytes D c c M w HMM.out (by omega)
      go_wp2
      go_loopw [61] (fun i wr => ∃ k : Nat, k ≤ c ∧ i = .int .i64 k ∧ Row wr G 38 c (fun i => if i < k then .slice (some ⟨D1 i, c, none⟩) c c else .slice (some ⟨D1 i, 0, none⟩) M M) ∧ Kp G WP wr) (fun i _ => c - (intOf i).toNat)
      case atStart => exact ⟨0, Nat.zero_le _, rfl, HM.out.hds.congr fun i hi => by rw [hdr, if_pos hi, if_neg (by omega)], Kp.refl _ _⟩
      case round =>
        obtain ⟨k, hk, rfl, hRow, hK⟩ := hrel
        have HRow := Lib.hid hRow
        have HK := Lib.hid hK
        by_cases hkc : k < c
        · have hdk : decide ((k : Int) < (c : Int)) = true := decide_eq_true (by omega)
          have hlk : (k : Int) < (c : Int) := by omega
          have x1 : wr.cell? ⟨G, k, none⟩ = some (.slice (some ⟨D1 k, 0, none⟩) M M) := by rw [hRow.cell k hkc, if_neg (by omega)]
          have f1 : ∀ i, wr.frozen? ⟨G, i, none⟩ = false := hRow.free
          clear hRow hK
          go_wp2
          go_roundw
          case rel =>
            refine ⟨k + 1, by omega, by go_num, (HRow.out.set k _).congr fun i hi => ?_, HK.out.setCell _ _⟩
            by_cases h1 : i = k
            · subst h1; rw [if_pos rfl, if_pos (by omega)]
            · rw [if_neg h1]
              by_cases h2 : i < k
              · rw [if_pos h2, if_pos (by omega)]
              · rw [if_neg h2, if_neg (by omega)]
          case measure => simp [intOf]; omega
        · have hdk : decide ((k : Int) < (c : Int)) = false := decide_eq_false (by omega)
          obtain rfl : k = c := by omega
          clear hRow hK
          have hdone := HR.out.done
          have hprt : Prt wr (some ⟨G, 0, none⟩) (rowsL k k (fun i j => X i (k + j))) := fun i hi => by
            rw [rowsL_length] at hi
            rw [rowsL_get _ _ _ _ hi]
            refine ⟨G, 0, some ⟨D1 i, k, none⟩, k, rfl, ?_, fun j hj => ⟨D1 i, k, rfl, ?_⟩, (fun e => by cases e), by rw [rowL_length]; exact Nat.le_refl _⟩
            · rw [Nat.zero_add, HRow.out.cell i hi, if_pos hi, rowL_length]
            · rw [rowL_length] at hj
              rw [rowL_get _ _ _ _ hj]
              exact ((HM.out.row i hi).of_kp HK.out (HM.out.ne i hi)).cell (k + j) (by have := HMM.out; omega)
          have HP := Lib.hid hprt
          have HD := Lib.hid hdone
          clear hdone hprt hcut
          go_wp2
          go_ret2
          exact .inr ⟨HD.out.2, G, _, rfl, HD.out.1, HP.out, by rw [HN.out]; exact HB.out.trans (HK.out.below hNG (Nat.le_of_lt (Nat.lt_of_le_of_lt hNG hGP)))⟩
end Go.Proofs.Ytphpliclecmnlaa
/- Invert's errors. -/
namespace Go.Proofs.Ytphpliclecmnlaa
open Go Go.RowKit

section
variable (la : List (List (BitVec 8))) (p : Option Addr) (n m cap : Nat) (w : World)
set_option maxHeartbeats 2000000 in
theorem invert_no (f : Value) (ha : Prt w p la) (hla : la.length = n) (hn : n < 4294967296) (ta : goodB la = false) :
    Calls Try.prog 51 #[f, .slice p n cap] w (RetNo w.heap.size w 1) := by
  have HA := Lib.hid ha
  have HL := Lib.hid hla
  clear ha hla
  go_enter Try.func51, Try.ntmps51
  go_wp2_with fail
  refine (good_any la _ n cap w HA.out HL.out hn).mono ?_
  rintro e w1 ⟨rfl, hB1⟩
  have HB1 := Lib.hid hB1
  clear hB1
  go_wp2
  go_ret2
  exact ⟨rfl, HB1.out⟩
set_option maxHeartbeats 2000000 in
theorem invert_len (f : Value) (ha : Prt w p la) (ga : Good la n m) (hne : m ≠ n) :
    Calls Try.prog 51 #[f, .slice p n cap] w (RetNo w.heap.size w 2) := by
  have g1 := ga.lo
  have g2 := ga.hi
  have g3 := ga.mlo
  have g4 := ga.mhi
  have HA := Lib.hid ha
  have GA := Lib.hid ga
  obtain ⟨c, o, q0, cap0, rfl, hc0, hc⟩ := ha.head (by rw [ga.len]; omega)
  rw [ga.head] at hc
  have ta := ga.true_
  have hn0 : (0 : Int) < (n : Int) := by omega
  have hd1 : ((m : Int) != (n : Int)) = true := by simp; omega
  have hd2 : ((m : Int) == (n : Int)) = false := by simp; omega
  have hd3 : decide (m = n) = false := by simp; omega
  clear ha ga hne
  go_enter Try.func51, Try.ntmps51
  go_wp2_with fail
  refine (good_any la _ n cap w HA.out GA.out.len (by omega)).mono ?_
  rintro e w1 ⟨rfl, hB1⟩
  have hx : w1.cell? ⟨c, o, none⟩ = some (.slice q0 m cap0) := by rw [hB1.cell (by exact hc0)]; exact hc
  have HB1 := Lib.hid hB1
  clear hB1
  go_wp2
  go_ret2
  exact ⟨rfl, HB1.out⟩
end
end Go.Proofs.Ytphpliclecmnlaa
/- A new field: its tables; rows scaled. -/
namespace Go.Proofs.Ytphpliclecmnlaa
open Go Go.RowKit

def z511 : Array Value := (List.replicate 255 (Value.int .u8 0) ++ List.replicate 256 (Value.int .i64 0)).toArray
theorem z511_eq : z511 = tab 511 (fldN 0) := by
  have h : ∀ i, i < 511 → (fldN 0 i) = (if i < 255 then Value.int .u8 0 else Value.int .i64 0) := by
    intro i hi
    unfold fldN
    by_cases h1 : i < 255
    · rw [if_pos h1, if_pos h1, if_neg (by omega), B_0]
    · rw [if_neg h1, if_neg h1, if_neg (by omega)]; rfl
  rw [tab_congr h]
  have e : z511 = tab 511 (fun i => if i < 255 then Value.int .u8 0 else Value.int .i64 0) := by kernel_rfl
  exact e
theorem bdF (w : World) : (bdT 74 #[]).run Try.prog w = .ok (.value (.agg z511)) w := by kernel_rfl
theorem bxF (w : World) : (bxT 74 (.agg z511)).run Try.prog w = .ok (.value (.pointer (some ⟨w.heap.size, 0, none⟩))) (w.alloc (.cells z511 74)) := by kernel_rfl
theorem fldN_step (k : Nat) (hk : k < 255) (j : Nat) (hj : j < 511) : (if j = 255 + (pw k).toNat then Value.int .i64 (k : Int) else if j = k then B (pw k) else fldN k j) = fldN (k + 1) j := by
  have hX := (pw k).isLt
  have hlg : lgs.getD (pw k).toNat 0 = k := by
    have := lg_pw' k hk
    exact this
  unfold fldN
  by_cases h1 : j < 255
  · rw [if_neg (by omega), if_pos h1, if_pos h1]
    by_cases h2 : j = k
    · subst h2
      rw [if_pos rfl, if_pos (by omega)]
    · rw [if_neg h2]
      by_cases h3 : j < k
      · rw [if_pos h3, if_pos (by omega)]
      · rw [if_neg h3, if_neg (by omega)]
  · rw [if_neg h1, if_neg h1]
    by_cases h2 : j = 255 + (pw k).toNat
    · rw [if_pos h2, h2, Nat.add_sub_cancel_left, hlg, if_pos (by omega)]
    · rw [if_neg h2, if_neg (show ¬ j = k by omega)]
      by_cases h3 : lgs.getD (j - 255) 0 = k
      · by_cases h4 : j - 255 = 0
        · rw [h4]
          have : lgs.getD 0 0 = 0 := rfl
          rw [this]
          simp only [ite_self]
        · exfalso
          have e := pw_lg' (j - 255) (by omega) h4
          rw [h3] at e
          apply h2
          rw [e, BitVec.toNat_ofNat]
          omega
      · by_cases h5 : lgs.getD (j - 255) 0 < k
        · rw [if_pos h5, if_pos (by omega)]
        · rw [if_neg h5, if_neg (by omega)]
attribute [local go_sem ↓] exec_build exec_box exec_store exec_make
attribute [local go_sem] bdF bxF st_B st_I st_b mkB
set_option maxRecDepth 100000 in
set_option maxHeartbeats 2000000 in
theorem new_any (w : World) : Calls Try.prog 24 #[] w fun e w' => e = .returned (.pointer (some ⟨w.heap.size, 0, none⟩)) ∧ Fld w' w.heap.size ∧ Below w.heap.size w w' := by
  have hr : Row (w.alloc (.cells z511 74)) w.heap.size 74 511 (fldN 0) := by
    rw [z511_eq]; exact Row.new w _ 511 _
  have hb : Below w.heap.size w (w.alloc (.cells z511 74)) := (Below.refl _ _).alloc (Nat.le_refl _) _
  go_enter Try.func24, Try.ntmps24
  go_wp2
  generalize w.alloc (.cells z511 74) = w1 at *
  have HR := Lib.hid hr
  have HB := Lib.hid hb
  clear hr hb
  generalize hN : w.heap.size = N at *
  have HN := Lib.hid hN
  clear hN
  go_loopw [2, 6] (fun x i wr => ∃ k : Nat, k ≤ 255 ∧ i = .int .i64 k ∧ x = .int .i64 ((pw k).toNat : Int) ∧ Row wr N 74 511 (fldN k) ∧ Below N w wr) (fun _ i _ => 255 - (intOf i).toNat)
  case atStart => exact ⟨0, Nat.zero_le _, rfl, rfl, HR.out, HB.out⟩
  case round =>
    clear HR HB
    obtain ⟨k, hk, rfl, rfl, hR, hB⟩ := hrel
    have HB := Lib.hid hB
    by_cases hlt : k < 255
    · have hX := (pw k).isLt
      have c1 : (wr.cell? ⟨N, k, none⟩).isSome = true := by rw [hR.cell k (by omega)]; rfl
      have c2 : ∀ v, ((wr.setCell ⟨N, k, none⟩ v).cell? ⟨N, 255 + (pw k).toNat, none⟩).isSome = true := fun v => by
        rw [(hR.set k v).cell _ (by omega)]; rfl
      have c3 : (wr.cell? ⟨N, 255 + (pw k).toNat, none⟩).isSome = true := by rw [hR.cell _ (by omega)]; rfl
      have f1 : ∀ i, wr.frozen? ⟨N, i, none⟩ = false := hR.free
      have f2 : ∀ v i, (wr.setCell ⟨N, k, none⟩ v).frozen? ⟨N, i, none⟩ = false := fun v => (hR.set k v).free
      have HR2 := ((hR.set k (B (pw k))).set (255 + (pw k).toNat) (.int .i64 (k : Int))).congr (fldN_step k hlt)
      rw [B_eq'] at HR2
      replace HR2 := Lib.hid HR2
      have HPN := Lib.hid (pw_next k)
      have hd0 : decide ((k : Int) < 255) = true := decide_eq_true (by omega)
      have HE := Lib.hid (show BitVec.ofNat 8 (pw k).toNat = pw k by rw [BitVec.ofNat_toNat, BitVec.setWidth_eq])
      generalize hXX : (pw k).toNat = X at *
      have HXX := Lib.hid hXX
      have hY := (pw (k + 1)).isLt
      generalize hYY : (pw (k + 1)).toNat = Y at *
      have HYY := Lib.hid hYY
      clear hXX hYY hR hB
      by_cases hb : 255 < 2 * X
      · have hd1 : decide ((255 : Int) < (X : Int) * 2) = true := decide_eq_true (by omega)
        have hx : bits .xor .i64 ((X : Int) * 2) 285 = (Y : Int) := by
          have := HPN.out
          rw [if_pos hb] at this
          rw [show ((X : Int) * 2) = ((2 * X : Nat) : Int) by simp; omega, show (285 : Int) = ((285 : Nat) : Int) from rfl, i64_xor_nat _ _ (by omega) (by decide), this]
        clear hb hY
        go_wp2
        go_roundw
        case rel => exact ⟨k + 1, by omega, by go_num, by rw [HYY.out], HR2.out, (HB.out.setCell (Nat.le_refl _) _).setCell (Nat.le_refl _) _⟩
        case measure => simp [intOf]; omega
      · have hd1 : decide ((255 : Int) < (X : Int) * 2) = false := decide_eq_false (by omega)
        have he : Hid ((X : Int) * 2 = (Y : Int)) := by
          have := HPN.out
          rw [if_neg hb] at this
          show (X : Int) * 2 = (Y : Int)
          omega
        clear hb hY
        go_wp2
        go_roundw
        case rel => exact ⟨k + 1, by omega, by go_num, by rw [HYY.out, he.out], HR2.out, (HB.out.setCell (Nat.le_refl _) _).setCell (Nat.le_refl _) _⟩
        case measure => simp [intOf]; omega
    · obtain rfl : k = 255 := by omega
      have hd0 : decide (((255 : Nat) : Int) < 255) = false := rfl
      have HR := Lib.hid hR
      clear hR hB
      go_wp2
      go_ret
      exact ⟨by rw [HN.out]; rfl, by rw [HN.out]; exact HR.out, by rw [HN.out]; exact HB.out⟩
end Go.Proofs.Ytphpliclecmnlaa
/- The program's Cauchy. -/
namespace Go.Proofs.Ytphpliclecmnlaa
open Go Go.RowKit

set_option maxHeartbeats 2000000 in
theorem cauchy_no1 (x : Int) (y : Value) (w : World) (h : permB x = false) : Calls Try.prog 23 #[.int .i64 x, y] w (RetNo w.heap.size w 1) := by
  go_enter Try.func23, Try.ntmps23
  go_wp2_with fail
  refine (permitted_any x w).mono ?_
  rintro e w1 ⟨rfl, rfl⟩
  go_wp2
  go_ret2
  exact ⟨rfl, Below.refl _ _⟩
set_option maxHeartbeats 2000000 in
theorem cauchy_no2 (x y : Int) (w : World) (h : permB x = true) (h2 : permB y = false) : Calls Try.prog 23 #[.int .i64 x, .int .i64 y] w (RetNo w.heap.size w 1) := by
  go_enter Try.func23, Try.ntmps23
  go_wp2_with fail
  refine (permitted_any x w).mono ?_
  rintro e w1 ⟨rfl, rfl⟩
  go_wp2_with fail
  refine (permitted_any y w).mono ?_
  rintro e w1 ⟨rfl, rfl⟩
  go_wp2
  go_ret2
  exact ⟨rfl, Below.refl _ _⟩
/-- The Cauchy matrix. -/
def cau (k : Nat) : Mx := fun i j => gi (BitVec.ofNat 8 (k + i) ^^^ BitVec.ofNat 8 j)
theorem cau_ne (k i j : Nat) (h1 : k + i < 256) (h2 : j < 256) (h3 : k + i ≠ j) : BitVec.ofNat 8 (k + i) ^^^ BitVec.ofNat 8 j ≠ 0#8 := fun e => h3 (by
  have := congrArg BitVec.toNat (xor_eq_zero _ _ e)
  simp only [BitVec.toNat_ofNat] at this
  omega)
attribute [local go_sem ↓] exec_store exec_make exec_bs
attribute [local go_sem] st_B st_I st_b st_H mkB mkR mkM bs2
set_option maxRecDepth 100000 in
set_option maxHeartbeats 16000000 in
theorem cauchy_ok (k m : Nat) (w : World) (hk1 : 1 ≤ k) (hk2 : k ≤ 64) (hm1 : 1 ≤ m) (hm2 : m ≤ 64) : Calls Try.prog 23 #[.int .i64 (k : Int), .int .i64 (m : Int)] w (RetOk w.heap.size w m k (cau k)) := by
  have hm8 : m < 100000000 := by omega
  have hk4 : k < 4294967296 := by omega
  have hp : permB (k : Int) = true := decide_eq_true ⟨by omega, by omega⟩
  have hq : permB (m : Int) = true := decide_eq_true ⟨by omega, by omega⟩
  go_enter Try.func23, Try.ntmps23
  go_wp2_with fail
  refine (permitted_any _ w).mono ?_
  rintro e w' ⟨rfl, rfl⟩
  go_wp2_with fail
  refine (permitted_any _ w).mono ?_
  rintro e w' ⟨rfl, rfl⟩
  go_wp2_with fail
  refine (new_any w).mono ?_
  rintro e w1 ⟨rfl, hF1, hB1⟩
  have hbN : w.heap.size < w1.heap.size := hF1.lt
  have hmat : Mp (w1.alloc (.cells (tab m (fun _ => .slice none 0 0)) 38)) w1.heap.size w1.heap.size m 0 k (fun _ => 0) (cau k) := Mp.zero (Row.new w1 _ m _) (Nat.le_refl _)
  have hb0 : Below w1.heap.size w1 (w1.alloc (.cells (tab m (fun _ => .slice none 0 0)) 38)) := (Below.refl _ _).alloc (Nat.le_refl _) _
  have HF := Lib.hid hF1
  have HB1 := Lib.hid hB1
  have hNb : w.heap.size ≤ w1.heap.size := hB1.size
  clear hF1 hB1
  generalize hb : w.heap.size = b at *
  have HBB := Lib.hid hb
  clear hb
  go_wp2
  generalize w1.alloc (.cells (tab m (fun _ => .slice none 0 0)) 38) = w2 at *
  have HM := Lib.hid hmat
  have HB0 := Lib.hid hb0
  clear hmat hb0
  generalize hN : w1.heap.size = N at *
  have HN := Lib.hid hN
  clear hN
  go_loopw [23] (fun i wr => ∃ i0 : Nat, i0 ≤ m ∧ i = .int .i64 i0 ∧ ∃ D, Mp wr N N m i0 k D (cau k) ∧ Below N w1 wr) (fun i _ => m - (intOf i).toNat)
  case atStart => exact ⟨0, Nat.zero_le _, rfl, _, HM.out, HB0.out⟩
  case round =>
    clear HM HB0
    obtain ⟨i0, hi0, rfl, D, hM, hB⟩ := hrel
    rename World => WO
    have HM := Lib.hid hM
    have HBr := Lib.hid hB
    have hNlt : N < WO.heap.size := hM.ltG
    by_cases hlt : i0 < m
    · have hd0 : decide ((i0 : Int) < (m : Int)) = true := decide_eq_true (by omega)
      have hl0 : (i0 : Int) < (m : Int) := by omega
      have hbA : Below WO.heap.size WO (WO.alloc (.cells (zb k) 5)) := (Below.refl _ _).alloc (Nat.le_refl _) _
      have hr : Row (WO.alloc (.cells (zb k) 5)) WO.heap.size 5 k (fun j => B 0#8) := Row.new WO _ k _
      have hMA := hM.of_below hbA
      have hc2 : WO.cell? ⟨N, i0, none⟩ = some (hdr i0 k D i0) := hM.hds.cell i0 hlt
      have hf2 : WO.frozen? ⟨N, i0, none⟩ = false := hM.free i0
      have hcm : (WO.alloc (.cells (zb k) 5)).cell? ⟨N, i0, none⟩ = some (hdr i0 k D i0) := hMA.hds.cell i0 hlt
      have hMB := hMA.put i0 WO.heap.size (fun _ => 0#8) hr (i0 + 1) (.inr ⟨rfl, rfl⟩) (fun j hj _ => by have := hM.lt j hj; omega) (by omega) (by omega)
      have HB1 := Lib.hid (show Below N w1 ((WO.setCell ⟨N, i0, none⟩ (.slice (some ⟨WO.heap.size, 0, none⟩) k k)).alloc (.cells (zb k) 5)) from ((hB.setCell (Nat.le_refl _) _).alloc (by simp; omega) _))
      have hcomm : (WO.alloc (.cells (zb k) 5)).setCell ⟨N, i0, none⟩ (.slice (some ⟨WO.heap.size, 0, none⟩) k k) = (WO.setCell ⟨N, i0, none⟩ (.slice (some ⟨WO.heap.size, 0, none⟩) k k)).alloc (.cells (zb k) 5) := World.setCell_alloc_past _ N i0 _ hNlt
      rw [hcomm] at hMB
      have HM1 := Lib.hid hMB
      have HEN := Lib.hid hNlt
      have e1 : setD D i0 WO.heap.size i0 = WO.heap.size := if_pos rfl
      have hx1 := hMB.cellH i0 (Nat.lt_succ_self _) hlt
      rw [e1] at hx1
      clear hbA hr hMA hMB hM hB hcomm e1
      go_wp2
      clear hx1 hc2 hf2 hcm
      generalize (WO.setCell ⟨N, i0, none⟩ (.slice (some ⟨WO.heap.size, 0, none⟩) k k)).alloc (.cells (zb k) 5) = w3 at *
      generalize WO.heap.size = E at *
      go_loopw [36] (fun i wr => ∃ j : Nat, j ≤ k ∧ i = .int .i64 j ∧ Mp wr N N m (i0 + 1) k (setD D i0 E) (setr (cau k) i0 (fun x => if x < j then cau k i0 x else 0#8)) ∧ Below N w1 wr) (fun i _ => k - (intOf i).toNat)
      case atStart => exact ⟨0, Nat.zero_le _, rfl, HM1.out.congr fun x y _ _ => by unfold setr; by_cases h : x = i0 <;> simp [h], HB1.out⟩
      case round =>
        clear HM1 HB1
        obtain ⟨j, hj, rfl, hM, hB⟩ := hrel
        rename World => WP
        have HM := Lib.hid hM
        have HB := Lib.hid hB
        by_cases hjk : j < k
        · have hdj : decide ((j : Int) < (k : Int)) = true := decide_eq_true (by omega)
          have hj0 : (j : Int) < (k : Int) := by omega
          have e1 : setD D i0 E i0 = E := if_pos rfl
          have x4 := hM.cellH i0 (Nat.lt_succ_self _) hlt
          have hrow := hM.row i0 (Nat.lt_succ_self _)
          rw [e1] at x4 hrow
          have hNE : N < E := by
            have h1 := hM.lo i0 (Nat.lt_succ_self _)
            have h2 := hM.ne i0 (Nat.lt_succ_self _)
            rw [e1] at h1 h2
            omega
          have HROW := Lib.hid hrow
          have HE1 := Lib.hid e1
          have HFr := Lib.hid (HF.out.below hB hbN)
          have HNEZ := Lib.hid (cau_ne k i0 j (by omega) (by omega) (by omega))
          have b1 : Value.int .u8 ((k : Int) + (i0 : Int)) = B (BitVec.ofNat 8 (k + i0)) := (B_ofNat (k + i0) (by omega)).symm
          have b2 : Value.int .u8 (j : Int) = B (BitVec.ofNat 8 j) := (B_ofNat j (by omega)).symm
          have hcv : ∀ w, (convert 3 5 (.int .i64 ((k : Int) + (i0 : Int)))).run Try.prog w = .ok (B (BitVec.ofNat 8 (k + i0))) w := fun w => convIB (k + i0) w
          have hcw : ∀ w, (convert 3 5 (.int .i64 (j : Int))).run Try.prog w = .ok (B (BitVec.ofNat 8 j)) w := fun w => convIB j w
          have hw : IntKind.i64.wrap ((k : Int) + (i0 : Int)) = (k : Int) + (i0 : Int) := IntWalk.i64_in _ (by omega)
          have HCAU := Lib.hid (show cau k i0 j = gi (BitVec.ofNat 8 (k + i0) ^^^ BitVec.ofNat 8 j) from rfl)
          generalize BitVec.ofNat 8 (k + i0) = z1 at *
          generalize BitVec.ofNat 8 j = z2 at *
          have hElt : E < WP.heap.size := hrow.lt
          clear hM hB hrow e1
          go_wp2_with fail
          go_region_held3 (fun w' : World => w'.cell? ⟨N, i0, none⟩ = some (.slice (some ⟨E, 0, none⟩) k k)) (first | exact hs1 _ | exact x6 | exact x5 | exact x4 | go_keep) ((first | (go_at_call 41; refine (add_two _ z1 z2 _ _ (by exact Sl_two _ z1 z2 _)).mono ?_; rintro e w5 ⟨rfl, hD5⟩; have hb5 : Below WP.heap.size WP w5 := ((((Below.refl _ _).alloc (Nat.le_refl _) _).drew).trans (hD5.below _)); have x5 : w5.cell? ⟨N, i0, none⟩ = some (.slice (some ⟨E, 0, none⟩) k k) := (by rw [hb5.cell (World.block_lt_of_cell? WP _ x4)]; exact x4); have HB5 := Lib.hid hb5; clear hD5 hb5) | (go_at_call 40; refine (inverse_any b (z1 ^^^ z2) _ (HFr.out.of_below HB5.out) HNEZ.out).mono ?_; rintro e w6 ⟨rfl, hD6⟩; have x6 : w6.cell? ⟨N, i0, none⟩ = some (.slice (some ⟨E, 0, none⟩) k k) := (by rw [hD6.cell]; exact x5); have hr6 := (HROW.out.of_below HB5.out).dr hD6; have c1 : (w6.cell? ⟨E, j, none⟩).isSome = true := (by rw [hr6.cell j (by omega)]; rfl); have f1 : w6.frozen? ⟨E, j, none⟩ = false := hr6.free j; have hs1 : ∀ v, (w6.setCell ⟨E, j, none⟩ v).cell? ⟨N, i0, none⟩ = some (.slice (some ⟨E, 0, none⟩) k k) := (fun v => by rw [World.cell?_setCell_other _ _ _ _ (by intro e; injection e; omega)]; exact x6); have HR6 := Lib.hid hr6; have HD6 := Lib.hid hD6; clear hr6 hD6)))
          go_wp2
          go_roundw
          case rel =>
            have hb6 := HB5.out.trans (HD6.out.below WP.heap.size)
            have hr7 := (HR6.out.set j (B (gi (z1 ^^^ z2)))).congr (g' := fun x => B (if x < j + 1 then cau k i0 x else 0#8)) fun x hx => by
              by_cases h : x = j
              · rw [if_pos h, if_pos (by omega), h, HCAU.out]
              · rw [if_neg h, setr, if_pos rfl]
                by_cases h2 : x < j
                · rw [if_pos h2, if_pos (by omega)]
                · rw [if_neg h2, if_neg (by omega)]
            have hk7 := (((Kp.refl E WP).of_below hb6).setCell j (B (gi (z1 ^^^ z2))))
            have hm7 := HM.out.alter (D := setD D i0 E) i0 (Nat.lt_succ_self _) _ (by rw [HE1.out]; exact hk7) (by rw [HE1.out]; exact hr7)
            refine ⟨j + 1, by omega, by go_num, hm7.congr fun x y _ _ => ?_, HB.out.trans (hk7.below (Nat.le_of_lt hNE) (by omega))⟩
            unfold setr
            by_cases e : x = i0
            · rw [if_pos e, if_pos e]
            · rw [if_neg e, if_neg e, if_neg e]
          case measure => simp [intOf]; omega
        · have hdj : decide ((j : Int) < (k : Int)) = false := decide_eq_false (by omega)
          obtain rfl : j = k := by omega
          clear hM hB
          go_wp2
          go_roundw
          case rel =>
            refine ⟨i0 + 1, by omega, by go_num, _, HM.out.congr fun x y _ hy => ?_, HB.out⟩
            unfold setr
            by_cases e : x = i0
            · rw [if_pos e, e]
              exact if_pos hy
            · rw [if_neg e]
          case measure => simp [intOf]; omega
    · have hd0 : decide ((i0 : Int) < (m : Int)) = false := decide_eq_false (by omega)
      obtain rfl : i0 = m := by omega
      clear hM hB
      go_wp2
      go_ret2
      exact ⟨_, D, rfl, ⟨HM.out.hds, HM.out.row, HM.out.inj, HM.out.ne, fun i hi => Nat.le_trans hNb (HM.out.lo i hi), Nat.le_trans hNb HM.out.loG⟩, HB1.out.trans (HBr.out.mono hNb)⟩
end Go.Proofs.Ytphpliclecmnlaa
/- The reference's Even and Parity. -/
namespace Go.Proofs.Ytphpliclecmnlaa
open Go Go.RowKit

/-- As many rows, all of one length. -/
def evB (ls : List (List (BitVec 8))) (k : Nat) : Bool := decide (ls.length = k ∧ ∀ i, i < ls.length → (ls.getD i []).length = (ls.getD 0 []).length)
set_option maxHeartbeats 2000000 in
theorem refEven_any (ls : List (List (BitVec 8))) (p : Option Addr) (n cap k : Nat) (w : World) (hs : Prt w p ls) (hl : ls.length = n) (hn : n < 9223372036854775808) :
    Calls Try.prog 16 #[.slice p n cap, .int .i64 (k : Int)] w fun e w' => e = .returned (.bool (evB ls k)) ∧ Dr w w' := by
  have HS := Lib.hid hs
  have HL := Lib.hid hl
  clear hs hl
  go_enter Try.func16, Try.ntmps16
  go_wp2
  go_loopw [5, 8] (fun _ i wr => ∃ t : Nat, t ≤ n ∧ i = .int .i64 t ∧ (∀ i, i < t → (ls.getD i []).length = (ls.getD 0 []).length) ∧ Dr w wr) (fun _ i _ => n - (intOf i).toNat)
  case atStart => exact ⟨0, Nat.zero_le _, rfl, fun i hi => absurd hi (by omega), Dr.refl _⟩
  case round =>
    obtain ⟨t, ht, rfl, hall, hD⟩ := hrel
    have HALL := Lib.hid hall
    have HD := Lib.hid hD
    clear hall
    by_cases hlt : t < n
    · obtain ⟨c, o, q, cap0, rfl, -, hc, -, -⟩ := HS.out.at_ 0 (by rw [HL.out]; omega)
      rw [Nat.add_zero] at hc
      obtain ⟨c', o', q', cap', e', -, hc', -, -⟩ := HS.out.at_ t (by rw [HL.out]; exact hlt)
      injection e' with e'
      injection e' with ec eo
      subst ec eo
      have hx0 : wr.cell? ⟨c, o, none⟩ = some (.slice q (ls.getD 0 []).length cap0) := by rw [hD.cell]; exact hc
      have hx1 : wr.cell? ⟨c, o + t, none⟩ = some (.slice q' (ls.getD t []).length cap') := by rw [hD.cell]; exact hc'
      have hdk : decide ((t : Int) < (n : Int)) = true := decide_eq_true (by omega)
      have hl0 : (t : Int) < (n : Int) := by omega
      have hn0 : (0 : Int) < (n : Int) := by omega
      generalize hu : (ls.getD t []).length = u at *
      generalize hm : (ls.getD 0 []).length = m at *
      have HU := Lib.hid hu
      have HM := Lib.hid hm
      clear hu hm hD hc' hc
      by_cases he : u = m
      · have hb : ((u : Int) != (m : Int)) = false := by simp; omega
        have HE := Lib.hid he
        clear he
        go_wp2
        go_quiet (fail)
        go_wp2
        go_roundw
        case rel =>
          refine ⟨t + 1, by omega, by go_num, fun i hi => ?_, HD.out.drewN _⟩
          rcases Nat.lt_or_ge i t with h | h
          · exact HALL.out i h
          · obtain rfl : i = t := by omega
            rw [HU.out, HE.out]
        case measure => simp [intOf]; omega
      · have hb : ((u : Int) != (m : Int)) = true := by simp; omega
        have hb2 : ((u : Int) == (m : Int)) = false := by simp; omega
        have hf : Hid (evB ls k = false) := decide_eq_false fun g => he (by rw [← HU.out, g.2 t (by rw [HL.out]; exact hlt), HM.out])
        clear he
        go_wp2
        go_quiet (fail)
        go_wp2
        go_ret
        exact ⟨by rw [hf.out]; rfl, HD.out.drewN _⟩
    · have hdk : decide ((t : Int) < (n : Int)) = false := decide_eq_false (by omega)
      obtain rfl : t = n := by omega
      have hall := HALL.out
      have hl := HL.out
      clear hD
      by_cases hk : t = k
      · have hb : ((t : Int) == (k : Int)) = true := by simp; omega
        have hf : Hid (evB ls k = true) := decide_eq_true ⟨by omega, fun i hi => hall i (by omega)⟩
        clear hk hall hl
        go_wp2
        go_ret
        exact ⟨by rw [hf.out]; rfl, HD.out⟩
      · have hb : ((t : Int) == (k : Int)) = false := by simp; omega
        have hb2 : decide (t = k) = false := decide_eq_false hk
        have hf : Hid (evB ls k = false) := decide_eq_false fun g => hk (by omega)
        clear hk hall hl
        go_wp2
        go_ret
        exact ⟨by rw [hf.out]; rfl, HD.out⟩
end Go.Proofs.Ytphpliclecmnlaa
/- Worlds that go on; a new field. -/
namespace Go.Proofs.Ytphpliclecmnlaa
open Go Go.RowKit

theorem bel_step {w0 w w' : World} (h : Below w0.heap.size w0 w) (k : Below w.heap.size w w') : Below w0.heap.size w0 w' := h.trans (k.mono h.size)
theorem bel_dr {w0 w w' : World} (h : Below w0.heap.size w0 w) (k : Dr w w') : Below w0.heap.size w0 w' := h.trans (k.below _)
/-- A new field, where nothing had changed before. -/
theorem newG (w0 w : World) (h : Below w0.heap.size w0 w) : Calls Try.prog 24 #[] w fun e w' => e = .returned (.pointer (some ⟨w.heap.size, 0, none⟩)) ∧ Gd w0 w.heap.size w' ∧ Below w.heap.size w w' :=
  (new_any w).mono fun e w' ⟨he, hf, hb⟩ => ⟨he, ⟨hf, bel_step h hb⟩, hb⟩
end Go.Proofs.Ytphpliclecmnlaa
