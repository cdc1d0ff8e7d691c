/- Merged texts: Joi9, Enc9, Nzr9, Blk10, Hds10, Put9. -/
import Derived.Lib.Hide
import Derived.Test.YtjpennbmphhipaaDoorBldW9
import Derived.Test.YtjpennbmphhipaaDoorStr7
import Derived.Test.YtjpennbmphhipaaDoorOwnK8
import Derived.Test.YtjpennbmphhipaaDoorBase
import Derived.Test.YtjpennbmphhipaaDoorNum6
import Derived.Test.YtjpennbmphhipaaDoorRngP
import Derived.Test.YtjpennbmphhipaaDoorVec9
import Derived.Test.YtjpennbmphhipaaDoorCmp9
import Derived.Lib.MinMax
import Derived.Test.YtjpennbmphhipaaDoorCuts
import Derived.Test.YtjpennbmphhipaaDoorCloneP
import Derived.Test.YtjpennbmphhipaaDoorWrnP6
set_option linter.unusedSimpArgs false
set_option linter.unusedVariables false
/- strings.Join with a blank, over the library's contracts of strings.Builder. -/
set_option maxRecDepth 100000
namespace Go.Proofs.YtjpennbmphhipaaDoor
open Go Go.RowKit

theorem elS : ElK 79 9 (.string ⟨#[]⟩) 1 16 := ⟨by kernel_rfl, by kernel_rfl, rfl, by decide, by decide⟩
/-- The strings one behind the other, blanks between them. -/
def joinL : List S8 → S8
  | [] => []
  | x :: r => x ++ r.flatMap fun y => 32 :: y
theorem joinL_snoc (l : List S8) (y : S8) (h : l ≠ []) : joinL (l ++ [y]) = joinL l ++ 32 :: y := by
  cases l with
  | nil => exact absurd rfl h
  | cons x r =>
    show x ++ (r ++ [y]).flatMap (fun y => 32 :: y) = x ++ r.flatMap (fun y => 32 :: y) ++ 32 :: y
    rw [List.flatMap_append, List.append_assoc]
    simp
/-- Strings as cells. -/
def strC (ps : List S8) : List Value := ps.map fun x => .string (mkS x)
theorem strC_len (ps : List S8) : (strC ps).length = ps.length := by unfold strC; rw [List.length_map]
theorem strC_get (ps : List S8) (i : Nat) (h : i < ps.length) : (strC ps)[i]? = some (.string (mkS (ps.getD i []))) := by
  unfold strC
  simp [List.getElem?_map, List.getElem?_eq_getElem h, List.getD_eq_getElem?_getD]
theorem strC_one (ps : List S8) : ∀ u ∈ strC ps, u.oneCell' = true := by
  intro u hu
  unfold strC at hu
  obtain ⟨x, _, rfl⟩ := List.mem_map.1 hu
  rfl
/-- How long the strings are together. -/
def sumL : List S8 → Nat
  | [] => 0
  | x :: r => x.length + sumL r
theorem sumL_take (ps : List S8) : ∀ i, i < ps.length → sumL (ps.take (i + 1)) = sumL (ps.take i) + (ps.getD i []).length := by
  induction ps with
  | nil => intro i h; cases h
  | cons x r ih =>
    intro i h
    cases i with
    | zero => simp [sumL, List.getD_eq_getElem?_getD]
    | succ i =>
      have := ih i (by simpa using h)
      rw [List.take_succ_cons, List.take_succ_cons]
      show x.length + sumL (r.take (i + 1)) = x.length + sumL (r.take i) + _
      rw [this]
      simp [List.getD_eq_getElem?_getD]; omega
theorem sumL_take_le (ps : List S8) : ∀ i, sumL (ps.take i) ≤ sumL ps := by
  induction ps with
  | nil => intro i; simp [sumL]
  | cons x r ih =>
    intro i
    cases i with
    | zero => simp [sumL]
    | succ i => have := ih i; rw [List.take_succ_cons]; show x.length + _ ≤ x.length + _; omega
theorem mem_sumL {ps : List S8} {i : Nat} (h : i < ps.length) : (ps.getD i []).length ≤ sumL ps := by
  have h1 := sumL_take ps i h
  have h2 := sumL_take_le ps (i + 1)
  omega
theorem joinL_len (ps : List S8) : (joinL ps).length ≤ sumL ps + ps.length := by
  cases ps with
  | nil => exact Nat.le_refl _
  | cons x r =>
    have key : ∀ r : List S8, (r.flatMap fun y => (32 : UInt8) :: y).length ≤ sumL r + r.length := by
      intro r
      induction r with
      | nil => exact Nat.le_refl _
      | cons y s ih => rw [List.flatMap_cons, List.length_append]; show (y.length + 1) + _ ≤ (y.length + sumL s) + (s.length + 1); omega
    have := key r
    show (x ++ _).length ≤ (x.length + sumL r) + (r.length + 1)
    rw [List.length_append]; omega
theorem join_take (ps : List S8) (i : Nat) (h1 : 1 ≤ i) (h : i < ps.length) : joinL (ps.take (i + 1)) = joinL (ps.take i) ++ 32 :: ps.getD i [] := by
  have : ps.take (i + 1) = ps.take i ++ [ps.getD i []] := take_getD ps [] i h
  rw [this]
  exact joinL_snoc _ _ (fun e => by have := congrArg List.length e; rw [List.length_take] at this; have h0 : ([] : List S8).length = 0 := rfl; omega)
theorem cells_mkS (x : S8) : Lib.strCells (mkS x) = Lib.byteCells x := by
  rw [Lib.strCells_eq]
  have : (mkS x).data.toList = x := by rw [← ByteArray.toList_eq, mkS_toList]
  rw [this]
theorem slS_from (q : Option Addr) (n cap : Nat) (w : World) (h : 1 ≤ n) : (Instr.slice 79 (.slice q n cap) (some (.int .i64 1)) none none).run Tryd.prog w = .ok (.slice (if cap = 1 then q else q.map (·.add 1)) (n - 1) (cap - 1)) w := by
  have he : (sizeOf (Tryd.prog.elem 79)).run Tryd.prog w = .ok 1 w := by kernel_rfl
  have hu : Tryd.prog.underlying 79 = some (.slice 9) := by kernel_rfl
  rw [run_slice_l (P := Tryd.prog) w 79 q n cap hu .i64 (1 : Int) (by omega) (by omega), he]
  rfl
set_option maxRecDepth 100000 in
set_option maxHeartbeats 4000000 in
theorem join_any (ps : List S8) (p : Option Addr) (n cap : Nat) (w : World) (hn : ps.length = n) (hs : LsC w p (strC ps)) (hcap : n ≤ cap) (hlen : sumL ps < 100000) (h16 : n ≤ 16) :
    Calls Tryd.prog 42 #[.slice p n cap, .string ⟨#[32]⟩] w fun e w' => e = .returned (.string (mkS (joinL ps))) ∧ Below w.heap.size w w' := by
  have HNN := Lib.hid hn
  have HS := Lib.hid hs
  by_cases h0 : n = 0
  · have e : ps = [] := List.eq_nil_of_length_eq_zero (by rw [hn]; exact h0)
    subst e
    have hz : decide ((n : Int) = 0) = true := decide_eq_true (by omega)
    subst h0
    have hm : mkS (joinL []) = ⟨#[]⟩ := (mkS_lit []).symm
    rw [hm]
    clear hn hs hm
    go_enter Tryd.func42, Tryd.ntmps42
    go_wp2
    go_ret
    exact ⟨rfl, Below.refl _ _⟩
  · by_cases h1 : n = 1
    · subst h1
      obtain ⟨x, rfl⟩ : ∃ x, ps = [x] := by
        match ps, hn with
        | [x], _ => exact ⟨x, rfl⟩
      obtain ⟨c, o, rfl, hlt, hc⟩ := hs.cell (strC_get [x] 0 (by simp))
      rw [Nat.add_zero] at hc
      have hc : w.cell? ⟨c, o, none⟩ = some (.string (mkS x)) := hc
      have hj : joinL [x] = x := List.append_nil x
      rw [hj]
      clear hn hs hj
      go_enter Tryd.func42, Tryd.ntmps42
      go_wp2
      go_ret
      exact ⟨rfl, Below.refl _ _⟩
    · have hn2 : 2 ≤ n := by omega
      have z0 : ((n : Int) == 0) = false := by rw [beq_eq_false_iff_ne]; omega
      have z1 : ((n : Int) == 1) = false := by rw [beq_eq_false_iff_ne]; omega
      have e1 : IntKind.i64.wrap ((n : Int) - 1) = (n : Int) - 1 := by rw [IntKind.wrap_i64]; omega
      obtain ⟨Q, hQ⟩ : ∃ Q : Int, (9223372036854775807 : Int).tdiv ((n : Int) - 1) = Q := ⟨_, rfl⟩
      have hQe : Q = 9223372036854775807 / ((n : Int) - 1) := by rw [← hQ, Int.tdiv_eq_ediv_of_nonneg (by omega)]
      have hQ1 : 1000 ≤ Q := by rw [hQe]; exact (Int.le_ediv_iff_mul_le (by omega)).2 (by omega)
      have hQ2 : Q ≤ 9223372036854775807 := by rw [hQe]; exact Int.ediv_le_self _ (by omega)
      have q2 : IntKind.i64.wrap Q = Q := by rw [IntKind.wrap_i64]; omega
      have q3 : decide (Q ≤ 1) = false := decide_eq_false (by omega)
      have q4 : (9223372036854775807 : Int) / ((n : Int) - 1) = Q := hQe.symm
      have hnz : ¬ ((n : Int) - 1 = 0) := by omega
      clear hn hs hQe
      go_enter Tryd.func42, Tryd.ntmps42
      go_wp2
      have HSL := Lib.hid (And.intro hlen hcap)
      go_loopw [5, 41] (fun vt vi wr => ∃ i : Nat, i ≤ n ∧ vi = .int .i64 (i : Int) ∧ vt = .int .i64 ((n : Int) - 1 + (sumL (ps.take i) : Int)) ∧ w = wr) (fun vt vi _ => n - (intOf vi).toNat)
      case atStart => exact ⟨0, Nat.zero_le _, rfl, by show _ = Value.int .i64 ((n : Int) - 1 + ((0 : Nat) : Int)); congr 1; omega, rfl⟩
      case round =>
        obtain ⟨i, hi, rfl, rfl, rfl⟩ := hrel
        by_cases hlt : i < n
        · have y1 : (i : Int) < (n : Int) := by omega
          have y2 : decide ((i : Int) < (n : Int)) = true := decide_eq_true y1
          have hil : i < ps.length := by rw [HNN.out]; exact hlt
          obtain ⟨c, o, rfl, -, hc⟩ := HS.out.cell (strC_get ps i hil)
          have hst := sumL_take ps i hil
          have hsl := sumL_take_le ps (i + 1)
          have hms := mkS_size (ps.getD i [])
          obtain ⟨x, hx⟩ : ∃ x, ps.getD i [] = x := ⟨_, rfl⟩
          rw [hx] at hc hst hms
          obtain ⟨T, hT⟩ : ∃ T, sumL (ps.take i) = T := ⟨_, rfl⟩
          rw [hT] at hst ⊢
          obtain ⟨X, hX⟩ : ∃ X, x.length = X := ⟨_, rfl⟩
          rw [hX] at hst hms
          have v1 : IntKind.i64.wrap (9223372036854775807 - ((n : Int) - 1 + (T : Int))) = 9223372036854775807 - ((n : Int) - 1 + (T : Int)) := by rw [IntKind.wrap_i64]; omega
          have v2 : decide (9223372036854775807 - ((n : Int) - 1 + (T : Int)) < (X : Int)) = false := decide_eq_false (by omega)
          have v2b : ¬ (9223372036854775807 - ((n : Int) - 1 + (T : Int)) < (X : Int)) := by omega
          have v3 : IntKind.i64.wrap ((n : Int) - 1 + (T : Int) + (X : Int)) = (n : Int) - 1 + (T : Int) + (X : Int) := by rw [IntKind.wrap_i64]; omega
          have v4 : IntKind.i64.wrap ((i : Int) + 1) = (i : Int) + 1 := by rw [IntKind.wrap_i64]; omega
          have HT := Lib.hid hst
          clear hT hX hx hst hsl
          go_wp2
          go_roundw
          case rel => exact ⟨i + 1, by omega, by go_num, by rw [HT.out]; congr 1; omega, trivial⟩
          case measure => simp [intOf]; omega
        · have y1 : ¬ (i : Int) < (n : Int) := by omega
          have y2 : decide ((i : Int) < (n : Int)) = false := decide_eq_false y1
          obtain rfl : i = n := by omega
          have htk : ps.take i = ps := List.take_of_length_le (by rw [HNN.out]; exact Nat.le_refl _)
          obtain ⟨G, hG⟩ : ∃ G : Nat, i - 1 + sumL (ps.take i) = G := ⟨_, rfl⟩
          have hGi : (i : Int) - 1 + (sumL (ps.take i) : Int) = (G : Int) := by omega
          have hGb : G ≤ 1000000 := by rw [htk] at hG; omega
          rw [hGi]
          have hBE := (Below.refl w.heap.size w).alloc (Nat.le_refl _) (.cells #[.pointer none, .slice none 0 0] 106)
          have HGR := Lib.hid (Tryd.Builder_Grow_fresh w.heap.size w.heap.size G _ (Nat.le_refl _) (heap_alloc_last w _) hBE.size (by omega))
          have HBE := Lib.hid hBE
          have hpos : 0 < ps.length := by rw [HNN.out]; omega
          obtain ⟨c, o, rfl, hclt, hc0⟩ := HS.out.cell (strC_get ps 0 hpos)
          rw [Nat.add_zero] at hc0
          have hml0 := mem_sumL hpos
          have hT1 : ps.take (0 + 1) = [ps.getD 0 []] := by
            have := take_getD ps [] 0 hpos
            rw [this]; rfl
          obtain ⟨x0, hx0⟩ : ∃ x0, ps.getD 0 [] = x0 := ⟨_, rfl⟩
          rw [hx0] at hc0 hml0 hT1
          have hx0l : x0.length ≤ 100000 := by have := HSL.out.1; omega
          have HT1 := Lib.hid hT1
          have HC0 := Lib.hid (And.intro hclt hc0)
          have hsl : ∀ u, (Instr.slice 79 (.slice (some ⟨c, o, none⟩) i cap) (some (.int .i64 1)) none none).run Tryd.prog u = .ok (.slice (some ⟨c, o + 1, none⟩) (i - 1) (cap - 1)) u := fun u => by
            rw [slS_from _ i cap u (by omega), if_neg (by omega)]
            show Result.ok (Value.slice (some ((⟨c, o, none⟩ : Addr).add 1)) (i - 1) (cap - 1)) u = _
            rw [Addr.add_mid]
          have him : ((i - 1 : Nat) : Int) = (i : Int) - 1 := by omega
          have HTK := Lib.hid htk
          clear hG hGi htk hBE hclt hc0 hi hpos hx0 hml0 hT1
          go_wp2_with fail
          refine HGR.out.mono ?_
          rintro e w2 ⟨rfl, hA2, hB2⟩
          have hb2 := HBE.out.trans hB2
          have HB2 := Lib.hid hb2
          have hc2 : w2.cell? ⟨c, o, none⟩ = some (.string (mkS x0)) := by rw [hb2.cell (by exact HC0.out.1)]; exact HC0.out.2
          have HW1 := Lib.hid (Tryd.Builder_WriteString w.heap.size w.heap.size [] (mkS x0) w2 (.inr hA2) (by rw [mkS_size]; simp; omega) hb2.size)
          clear hA2 hB2 hb2
          go_wp2_with fail
          refine HW1.out.mono ?_
          rintro e w3 ⟨rfl, hA3, hB3⟩
          have HA3 := Lib.hid (show Lib.BuilderAt 106 5 w.heap.size w.heap.size (.pointer (some ⟨w.heap.size, 0, none⟩)) (Lib.byteCells (joinL (ps.take (0 + 1)))) w3 from by
            rw [HT1.out]
            have : joinL [x0] = x0 := List.append_nil _
            rw [this, ← cells_mkS]
            exact hA3)
          have HB3 := Lib.hid (HB2.out.trans hB3)
          clear hA3 hB3 hc2
          go_wp2
          go_loopw [65] (fun vi wr => ∃ j : Nat, j + 1 ≤ i ∧ vi = .int .i64 (j : Int) ∧ Lib.BuilderAt 106 5 w.heap.size w.heap.size (.pointer (some ⟨w.heap.size, 0, none⟩)) (Lib.byteCells (joinL (ps.take (j + 1)))) wr ∧ Below w.heap.size w wr) (fun vi _ => i - (intOf vi).toNat)
          case atStart => exact ⟨0, by omega, rfl, HA3.out, HB3.out⟩
          case round =>
            obtain ⟨j, hj, rfl, hA, hB⟩ := hrel
            have HA := Lib.hid hA
            have HB := Lib.hid hB
            by_cases hlt : j + 1 < i
            · have y1 : (j : Int) < (i : Int) - 1 := by omega
              have y2 : decide ((j : Int) < (i : Int) - 1) = true := decide_eq_true y1
              have y3 : j < i - 1 := by omega
              have hjl : j + 1 < ps.length := by rw [HNN.out]; exact hlt
              obtain ⟨c', o', e', hclt, hc0⟩ := HS.out.cell (strC_get ps (j + 1) hjl)
              injection e' with e'
              injection e' with e1' e2'
              subst e1' e2'
              have hjt := join_take ps (j + 1) (by omega) hjl
              have hml := mem_sumL hjl
              obtain ⟨x1, hx1⟩ : ∃ x1, ps.getD (j + 1) [] = x1 := ⟨_, rfl⟩
              rw [hx1] at hc0 hjt hml
              have HJT := Lib.hid hjt
              have hcr : wr.cell? ⟨c, o + 1 + j, none⟩ = some (.string (mkS x1)) := by
                rw [hB.cell (by exact hclt), show o + 1 + j = o + (j + 1) by omega]; exact hc0
              have hjn := joinL_len (ps.take (j + 1))
              have hst := sumL_take_le ps (j + 1)
              have htl : (ps.take (j + 1)).length ≤ 16 := by rw [List.length_take]; omega
              have hbl : (Lib.byteCells (joinL (ps.take (j + 1)))).length ≤ 200000 := by rw [Lib.byteCells_length]; have := HSL.out.1; omega
              have hbl2 : x1.length ≤ 100000 := by have := HSL.out.1; omega
              have HW2 := Lib.hid (Tryd.Builder_WriteString w.heap.size w.heap.size _ ⟨#[32]⟩ wr (.inr hA) (by show _ + 1 ≤ _; omega) hB.size)
              have hw1 : IntKind.i64.wrap ((j : Int) + 1) = (j : Int) + 1 := by rw [IntKind.wrap_i64]; omega
              have HCR := Lib.hid hcr
              clear hA hc0 hjn hst hml htl hjt hx1 hjl
              go_wp2_with fail
              refine HW2.out.mono ?_
              rintro e w5 ⟨rfl, hA5, hB5⟩
              have hb5 := hB.trans hB5
              have HB5 := Lib.hid hb5
              have HW3 := Lib.hid (Tryd.Builder_WriteString w.heap.size w.heap.size _ (mkS x1) w5 (.inr hA5) (by rw [List.length_append, mkS_size]; show _ + 1 + _ ≤ _; omega) hb5.size)
              clear hA5 hB5 hb5 hB
              go_wp2_with fail
              refine HW3.out.mono ?_
              rintro e w6 ⟨rfl, hA6, hB6⟩
              have HA6 := Lib.hid (show Lib.BuilderAt 106 5 w.heap.size w.heap.size (.pointer (some ⟨w.heap.size, 0, none⟩)) (Lib.byteCells (joinL (ps.take (j + 1 + 1)))) w6 from by
                rw [HJT.out, Lib.byteCells_append]
                rw [cells_mkS, List.append_assoc] at hA6
                exact hA6)
              have HB6 := Lib.hid (HB5.out.trans hB6)
              clear hA6 hB6
              go_wp2
              go_roundw
              case rel => exact ⟨j + 1, by omega, by go_num, HA6.out, HB6.out⟩
              case measure => simp [intOf]; omega
            · have y1 : ¬ (j : Int) < (i : Int) - 1 := by omega
              have y2 : decide ((j : Int) < (i : Int) - 1) = false := decide_eq_false y1
              have y3 : ¬ j < i - 1 := by omega
              obtain rfl : j + 1 = i := by omega
              have HST := Lib.hid (Tryd.Builder_String_any w.heap.size w.heap.size (joinL (ps.take (j + 1))) wr (.inr hA) hB.size)
              clear hA hB
              go_wp2_with fail
              refine HST.out.mono ?_
              rintro e w5 ⟨rfl, hB5⟩
              have HB5 := Lib.hid (HB.out.trans hB5)
              clear hB5
              rw [HTK.out, mkS_lit]
              go_wp2
              go_ret
              exact ⟨rfl, HB5.out⟩
end Go.Proofs.YtjpennbmphhipaaDoor
/- The encoding of a vector, plain. -/
set_option maxRecDepth 100000
namespace Go.Proofs.YtjpennbmphhipaaDoor
open Go Go.RowKit

/-- What is written of the numbers of the first replicas. -/
def bodyV (f : Nat → Int) : Nat → List (BitVec 8)
  | 0 => []
  | i + 1 => if f i = 0 then bodyV f i else bodyV f i ++ enc7 i ++ enc7 (f i).toNat
/-- How many of them are not 0. -/
def cntV (f : Nat → Int) : Nat → Nat
  | 0 => 0
  | i + 1 => if f i = 0 then cntV f i else cntV f i + 1
/-- The encoding of a vector. -/
def encV (f : Nat → Int) : List (BitVec 8) := enc7 (cntV f 16) ++ bodyV f 16
theorem bodyV_zero {f : Nat → Int} {i : Nat} (h : f i = 0) : bodyV f (i + 1) = bodyV f i := by rw [bodyV, if_pos h]
theorem bodyV_one {f : Nat → Int} {i : Nat} (h : f i ≠ 0) : bodyV f (i + 1) = bodyV f i ++ enc7 i ++ enc7 (f i).toNat := by rw [bodyV, if_neg h]
theorem cntV_zero {f : Nat → Int} {i : Nat} (h : f i = 0) : cntV f (i + 1) = cntV f i := by rw [cntV, if_pos h]
theorem cntV_one {f : Nat → Int} {i : Nat} (h : f i ≠ 0) : cntV f (i + 1) = cntV f i + 1 := by rw [cntV, if_neg h]
theorem cntV_le (f : Nat → Int) : ∀ i, cntV f i ≤ i
  | 0 => Nat.le_refl _
  | i + 1 => by
    have := cntV_le f i
    by_cases h : f i = 0
    · rw [cntV_zero h]; omega
    · rw [cntV_one h]; omega
theorem bodyV_congr {f g : Nat → Int} : ∀ i, (∀ j, j < i → f j = g j) → bodyV f i = bodyV g i
  | 0, _ => rfl
  | i + 1, h => by
    have ih := bodyV_congr i (fun j hj => h j (by omega))
    have hi := h i (by omega)
    by_cases h0 : f i = 0
    · rw [bodyV_zero h0, bodyV_zero (by rw [← hi]; exact h0), ih]
    · rw [bodyV_one h0, bodyV_one (by rw [← hi]; exact h0), ih, hi]
theorem cntV_congr {f g : Nat → Int} : ∀ i, (∀ j, j < i → f j = g j) → cntV f i = cntV g i
  | 0, _ => rfl
  | i + 1, h => by
    have ih := cntV_congr i (fun j hj => h j (by omega))
    have hi := h i (by omega)
    by_cases h0 : f i = 0
    · rw [cntV_zero h0, cntV_zero (by rw [← hi]; exact h0), ih]
    · rw [cntV_one h0, cntV_one (by rw [← hi]; exact h0), ih]
theorem encV_congr {f g : Nat → Int} (h : ∀ j, j < 16 → f j = g j) : encV f = encV g := by unfold encV; rw [bodyV_congr 16 h, cntV_congr 16 h]
/-- Where nothing comes from a replica on, nothing is written. -/
theorem bodyV_rest {f : Nat → Int} (k : Nat) (h : ∀ j, k ≤ j → f j = 0) : ∀ d, bodyV f (k + d) = bodyV f k ∧ cntV f (k + d) = cntV f k
  | 0 => ⟨rfl, rfl⟩
  | d + 1 => by
    have ih := bodyV_rest k h d
    have h0 := h (k + d) (by omega)
    rw [show k + (d + 1) = (k + d) + 1 by omega, bodyV_zero h0, cntV_zero h0]
    exact ih
theorem enc7_len40 {n : Nat} (h : n ≤ 1099511627776) : (enc7 n).length ≤ 6 := enc7_len 5 n (by show n < 4398046511104; omega)
theorem bodyV_len {f : Nat → Int} (h : ∀ i, i < 16 → 0 ≤ f i ∧ f i ≤ 1099511627776) : ∀ i, i ≤ 16 → (bodyV f i).length ≤ 7 * i
  | 0, _ => by show 0 ≤ _; omega
  | i + 1, hi => by
    have ih := bodyV_len h i (by omega)
    by_cases h0 : f i = 0
    · rw [bodyV_zero h0]; omega
    · rw [bodyV_one h0]
      have h1 := enc7_len 0 i (by show i < 128; omega)
      have h2 := enc7_len40 (n := (f i).toNat) (by have := h i (by omega); omega)
      simp only [List.length_append]
      omega
theorem encV_len {f : Nat → Int} (h : ∀ i, i < 16 → 0 ≤ f i ∧ f i ≤ 1099511627776) : (encV f).length ≤ 113 := by
  have h1 := bodyV_len h 16 (Nat.le_refl _)
  have h2 := enc7_len 0 (cntV f 16) (by have := cntV_le f 16; show _ < 128; omega)
  unfold encV
  simp only [List.length_append]
  omega
end Go.Proofs.YtjpennbmphhipaaDoor
/- The iterator over a vector's numbers that are not 0. -/
set_option maxRecDepth 100000
namespace Go.Proofs.YtjpennbmphhipaaDoor
open Go Go.RowKit Go.Shelf

/-- The replicas below i whose numbers are not 0. -/
def nzV (f : Nat → Int) : Nat → List Nat
  | 0 => []
  | i + 1 => if f i = 0 then nzV f i else nzV f i ++ [i]
theorem nzV_zero {f : Nat → Int} {i : Nat} (h : f i = 0) : nzV f (i + 1) = nzV f i := by rw [nzV, if_pos h]
theorem nzV_one {f : Nat → Int} {i : Nat} (h : f i ≠ 0) : nzV f (i + 1) = nzV f i ++ [i] := by rw [nzV, if_neg h]
theorem nzV_len (f : Nat → Int) : ∀ i, (nzV f i).length = cntV f i
  | 0 => rfl
  | i + 1 => by
    have := nzV_len f i
    by_cases h : f i = 0
    · rw [nzV_zero h, cntV_zero h, this]
    · rw [nzV_one h, cntV_one h, List.length_append, this]; rfl
theorem nzV_mem {f : Nat → Int} {j : Nat} : ∀ {i : Nat}, j ∈ nzV f i → j < i ∧ f j ≠ 0
  | 0, h => by cases h
  | i + 1, h => by
    by_cases h0 : f i = 0
    · rw [nzV_zero h0] at h; have := nzV_mem h; exact ⟨by omega, this.2⟩
    · rw [nzV_one h0] at h
      rcases List.mem_append.1 h with h | h
      · have := nzV_mem h; exact ⟨by omega, this.2⟩
      · rw [List.mem_singleton] at h; subst h; exact ⟨by omega, h0⟩
theorem nzV_pre {f : Nat → Int} : ∀ (d i : Nat), nzV f i <+: nzV f (i + d)
  | 0, i => List.prefix_refl _
  | d + 1, i => by
    have h := nzV_pre (f := f) d i
    rw [show i + (d + 1) = (i + d) + 1 by omega]
    by_cases h0 : f (i + d) = 0
    · rw [nzV_zero h0]; exact h
    · rw [nzV_one h0]; exact h.trans (List.prefix_append _ _)
/-- What is written of the replicas listed. -/
def bodyL (f : Nat → Int) : List Nat → List (BitVec 8)
  | [] => []
  | i :: r => enc7 i ++ enc7 (f i).toNat ++ bodyL f r
theorem bodyL_append (f : Nat → Int) : ∀ l m, bodyL f (l ++ m) = bodyL f l ++ bodyL f m
  | [], _ => rfl
  | i :: r, m => by
    show enc7 i ++ enc7 (f i).toNat ++ bodyL f (r ++ m) = enc7 i ++ enc7 (f i).toNat ++ bodyL f r ++ bodyL f m
    rw [bodyL_append f r m]
    simp only [List.append_assoc]
theorem bodyL_nz (f : Nat → Int) : ∀ i, bodyL f (nzV f i) = bodyV f i
  | 0 => rfl
  | i + 1 => by
    have := bodyL_nz f i
    by_cases h : f i = 0
    · rw [nzV_zero h, bodyV_zero h, this]
    · rw [nzV_one h, bodyV_one h, bodyL_append, this]
      show bodyV f i ++ (enc7 i ++ enc7 (f i).toNat ++ []) = _
      rw [List.append_nil, List.append_assoc]
attribute [local go_sem] Oper.semAt_some
attribute [local go_sem ↓] exec_boxV exec_loadV exec_indexV exec_storeV
attribute [local go_sem] boxV indexV
set_option maxRecDepth 100000 in
set_option maxHeartbeats 2000000 in
theorem nonzero_seq (m : Nat) (hm : 3 ≤ m) (bb : Nat) (f : Nat → Int) (w : World) (hb : Row w bb 28 16 (vf f)) :
    SeqP m 60 #[.pointer (some ⟨bb, 0, none⟩)] (fun i : Nat => #[.int .i64 (i : Int), .int .i64 (f i)]) bb (nzV f 16) w := by
  intro L J Jx A hA hJd hY h0
  have hm1 : 1 ≤ m := by omega
  have hbA := hb.of_below hA
  have l1 := loadVT vtV (VecAt.of_row hbA (Nat.le_refl _))
  refine callsIn_of_wp Tryd.func60 rfl trivial ?_ rfl
  simp only [Tryd.ntmps60, List.size_toArray, List.length_cons, List.length_nil, Nat.reduceAdd, Nat.reduceSub, Array.replicate_succ, Array.replicate_zero, List.push_toArray, List.append_toArray, List.nil_append, List.cons_append]
  clear hb hbA
  gi_wp2
  clear l1
  gi_loopw [6] (fun v6 wr => ∃ i : Nat, v6 = .int .i64 (i : Int) ∧ i ≤ 16 ∧ J (nzV f i) wr) (fun v6 wr => 16 - (intOf v6).toNat)
  case atStart => exact ⟨0, rfl, Nat.zero_le _, h0⟩
  case round =>
    obtain ⟨i, rfl, hik, hJ0⟩ := hrel
    have HJ0 := Lib.hid hJ0
    by_cases hlt : i < 16
    · have z1 : (i : Int) < 16 := by omega
      have z2 : decide ((i : Int) < 16) = true := decide_eq_true z1
      have w3 := i64v i hlt
      by_cases hz : f i = 0
      · have HN := Lib.hid (show J (nzV f (i + 1)) wr from by rw [nzV_zero hz]; exact hJ0)
        clear hJ0
        gi_wp2
        refine ⟨(fun f hf => by cases hf), ?_⟩
        gi_wp2
        go_roundw
        case rel => exact ⟨i + 1, by go_num, by omega, HN.out⟩
        case measure => simp [intOf]; omega
      · have hpre : nzV f i ++ [i] <+: nzV f 16 := by
          rw [← nzV_one hz]
          have := nzV_pre (f := f) (15 - i) (i + 1)
          rw [show i + 1 + (15 - i) = 16 by omega] at this
          exact this
        have HPRE := Lib.hid hpre
        have d1 : ((f i) == 0) = false := by rw [beq_eq_false_iff_ne]; exact hz
        have HZ := Lib.hid (nzV_one hz)
        obtain ⟨fn, tmps, assign, body, hy, hR⟩ := hY (nzV f i) i wr hpre hJ0
        dsimp only at hy
        clear hJ0 hpre
        gi_wp2
        refine hR.mono ?_
        rintro e W3 (⟨rfl, hJ3, hB3⟩ | ⟨rfl, hJx3⟩)
        · have HJ3 := Lib.hid (show J (nzV f (i + 1)) W3 from by rw [HZ.out]; exact hJ3)
          clear hJ3 hB3
          gi_wp2
          go_roundw
          case rel => exact ⟨i + 1, by go_num, by omega, HJ3.out⟩
          case measure => simp [intOf]; omega
        · have HJX := Lib.hid (show ∃ pre, pre <+: nzV f 16 ∧ Jx pre W3 from ⟨nzV f i ++ [i], HPRE.out, hJx3⟩)
          clear hJx3
          gi_wp2
          refine bodyPost_ret (results_none rfl _ _ _) rfl ?_
          exact ⟨⟨_, rfl⟩, .inr HJX.out⟩
    · have z1 : ¬ (i : Int) < 16 := by omega
      have z2 : decide ((i : Int) < 16) = false := decide_eq_false z1
      obtain rfl : i = 16 := by omega
      gi_wp2
      go_end0
      exact ⟨⟨_, rfl⟩, .inl HJ0.out⟩
theorem mkFnZ : ∀ (fn : Fn) (first cap : Array Value) (w : World), (Instr.makeFunc fn first cap).run Tryd.prog w = .ok (.func fn first cap) w := fun _ _ _ _ => rfl
attribute [local go_sem] mkFnZ
theorem nonzero_any (f : Nat → Int) (u : World) : Calls Tryd.prog 34 #[vcV f] u fun e w' => e = .returned (.func (.func 60) #[] #[.pointer (some ⟨u.heap.size, 0, none⟩)]) ∧ w' = u.alloc (.cells (tab 16 (vf f)) 28) := by
  go_enter Tryd.func34, Tryd.ntmps34
  go_wp2
  go_ret
  exact ⟨rfl, rfl⟩
end Go.Proofs.YtjpennbmphhipaaDoor
/- The iterator over the blocks of bytes. -/
set_option maxRecDepth 100000
namespace Go.Proofs.YtjpennbmphhipaaDoor
open Go Go.RowKit Go.Shelf

attribute [local go_sem] Oper.semAt_some
/-- How many blocks so many bytes have; how long a block is; a block. -/
def nblk (n : Nat) : Nat := (n + 255) / 256
def blen (n i : Nat) : Nat := min (256 * i + 256) n - 256 * i
def blkL (l : List (BitVec 8)) (i : Nat) : List (BitVec 8) := (l.drop (256 * i)).take 256
/-- A block as a slice. -/
def blkS (q : Option Addr) (n i : Nat) : Value := .slice (q.map (·.add (256 * i))) (blen n i) (blen n i)
theorem blkL_len (l : List (BitVec 8)) (i : Nat) : (blkL l i).length = blen l.length i := by
  unfold blkL blen
  rw [List.length_take, List.length_drop]
  omega
theorem blkL_sl {w : World} {q : Option Addr} {l : List (BitVec 8)} (h : Sl w q l) (i : Nat) : Sl w (q.map (·.add (256 * i))) (blkL l i) := fun j hj => by
  have hj' : j < 256 ∧ 256 * i + j < l.length := by
    unfold blkL at hj
    rw [List.length_take, List.length_drop] at hj
    omega
  obtain ⟨c, o, e, hc⟩ := h (256 * i + j) hj'.2
  refine ⟨c, o + 256 * i, by rw [e]; show some ((⟨c, o, none⟩ : Addr).add (256 * i)) = _; rw [Addr.add_mid], ?_⟩
  rw [show o + 256 * i + j = o + (256 * i + j) by omega, hc]
  unfold blkL
  simp [List.getD_eq_getElem?_getD, List.getElem?_take, List.getElem?_drop, hj'.1]
theorem nblk_lt {n i : Nat} (h : i < nblk n) : 256 * i < n := by unfold nblk at h; omega
theorem count_any (n : Nat) (w : World) (hn : n < 100000000) : Calls Tryd.prog 51 #[.int .i64 (n : Int)] w fun e w' => e = .returned (.int .i64 (nblk n : Int)) ∧ w = w' := by
  have h1 : IntKind.i64.wrap ((n : Int) + 256) = (n : Int) + 256 := by rw [IntKind.wrap_i64]; omega
  have h2 : IntKind.i64.wrap ((n : Int) + 256 - 1) = (n : Int) + 255 := by rw [IntKind.wrap_i64]; omega
  have h3 : ((n : Int) + 255).tdiv 256 = (nblk n : Int) := by rw [Int.tdiv_eq_ediv_of_nonneg (by omega)]; unfold nblk; omega
  have h4 : IntKind.i64.wrap (nblk n : Int) = (nblk n : Int) := by unfold nblk; rw [IntKind.wrap_i64]; omega
  have h5 : ((n : Int) + 255) / 256 = (nblk n : Int) := by unfold nblk; omega
  generalize nblk n = k at *
  go_enter Tryd.func51, Tryd.ntmps51
  go_wp2
  go_ret
  exact ⟨rfl, rfl⟩
theorem blk_cut (q : Option Addr) (n cap i : Nat) (w : World) (hi : 256 * i < n) (hc : n ≤ cap) : (Instr.slice 25 (.slice q n cap) (some (.int .i64 ((i : Int) * 256))) (some (.int .i64 (min ((i : Int) * 256 + 256) (n : Int)))) (some (.int .i64 (min ((i : Int) * 256 + 256) (n : Int))))).run Tryd.prog w = .ok (blkS q n i) w := by
  have hm : min ((i : Int) * 256 + 256) (n : Int) = ((min (256 * i + 256) n : Nat) : Int) := by omega
  rw [hm, run_slice_lhm (P := Tryd.prog) w 25 q n cap und35 .i64 .i64 .i64 _ _ _ (by omega) (by omega) (by omega) (by omega), sizeB]
  have h1 : ((i : Int) * 256).toNat = 256 * i := by omega
  have h2 : (((min (256 * i + 256) n : Nat) : Int)).toNat = min (256 * i + 256) n := by omega
  simp only [Sem.run_bind, Result.andThen_ok, Sem.run_pure, sliced, h1, h2]
  unfold blkS blen
  rw [if_neg (by omega), Nat.mul_one]
set_option maxRecDepth 100000 in
set_option maxHeartbeats 2000000 in
theorem blocks_seq (m : Nat) (hm : 3 ≤ m) (bb : Nat) (q : Option Addr) (n cap : Nat) (w : World) (hb : w.cell? ⟨bb, 0, none⟩ = some (.slice q n cap)) (hn : n < 1000000) (hc : n ≤ cap) :
    SeqP m 79 #[.pointer (some ⟨bb, 0, none⟩)] (fun i : Nat => #[.int .i64 (i : Int), blkS q n i]) bb (List.range (nblk n)) w := by
  intro L J Jx A hA hJd hY h0
  have hm1 : 1 ≤ m := by omega
  have hbw := World.block_lt_of_cell? w _ hb
  have hbA : A.cell? ⟨bb, 0, none⟩ = some (.slice q n cap) := by rw [hA.cell (by exact hbw)]; exact hb
  have HC := Lib.hid (count_any n A (by omega))
  obtain ⟨k, hk⟩ : ∃ k, nblk n = k := ⟨_, rfl⟩
  have HK := Lib.hid hk
  rw [hk] at HC hY ⊢
  have hk2 : k ≤ 10000 := by rw [← hk]; unfold nblk; omega
  refine callsIn_of_wp Tryd.func79 rfl trivial ?_ rfl
  simp only [Tryd.ntmps79, List.size_toArray, List.length_cons, List.length_nil, Nat.reduceAdd, Nat.reduceSub, Array.replicate_succ, Array.replicate_zero, List.push_toArray, List.append_toArray, List.nil_append, List.cons_append]
  clear hb hk
  have HBA := Lib.hid hbA
  gi_wp2_with (refine ⟨trivial, ?_⟩; gi_at_call 51; refine (callsIn_wide.2 HC.out).mono ?_; rintro e w' ⟨rfl, rfl⟩)
  gi_loopw [9] (fun v9 wr => ∃ i : Nat, v9 = .int .i64 (i : Int) ∧ i ≤ k ∧ wr.cell? ⟨bb, 0, none⟩ = some (.slice q n cap) ∧ J (List.range i) wr) (fun v9 wr => k - (intOf v9).toNat)
  case atStart => exact ⟨0, rfl, Nat.zero_le _, HBA.out, h0⟩
  case round =>
    obtain ⟨i, rfl, hik, hbr, hJ0⟩ := hrel
    have HJ0 := Lib.hid hJ0
    have HBR := Lib.hid hbr
    by_cases hlt : i < k
    · have z1 : (i : Int) < (k : Int) := by omega
      have z2 : decide ((i : Int) < (k : Int)) = true := decide_eq_true z1
      have hi256 : 256 * i < n := nblk_lt (by rw [HK.out]; exact hlt)
      have w1 : IntKind.i64.wrap ((i : Int) * 256) = (i : Int) * 256 := by rw [IntKind.wrap_i64]; omega
      have w2 : IntKind.i64.wrap ((i : Int) * 256 + 256) = (i : Int) * 256 + 256 := by rw [IntKind.wrap_i64]; omega
      have w3 : IntKind.i64.wrap ((i : Int) + 1) = (i : Int) + 1 := by rw [IntKind.wrap_i64]; omega
      have hcut := fun u => blk_cut q n cap i u hi256 hc
      have hpre : List.range i ++ [i] <+: List.range k := by
        rw [← List.range_succ]
        exact ⟨(List.range k).drop (i + 1), by
          have h := List.take_append_drop (i + 1) (List.range k)
          rw [List.take_range, Nat.min_eq_left (by omega)] at h
          exact h⟩
      have HPRE := Lib.hid hpre
      obtain ⟨fn, tmps, assign, body, hy, hR⟩ := hY (List.range i) i wr hpre hJ0
      clear hpre
      dsimp only at hy
      clear hJ0
      gi_wp2
      refine hR.mono ?_
      rintro e W3 (⟨rfl, hJ3, hB3⟩ | ⟨rfl, hJx3⟩)
      · have hb3 : W3.cell? ⟨bb, 0, none⟩ = some (.slice q n cap) := by rw [World.cell?_of_block (w := wr) hB3]; exact HBR.out
        have HJ3 := Lib.hid (show J (List.range (i + 1)) W3 from by rw [List.range_succ]; exact hJ3)
        have HB3 := Lib.hid hb3
        clear hJ3 hB3 hb3
        gi_wp2
        go_roundw
        case rel => exact ⟨i + 1, by go_num, by omega, HB3.out, HJ3.out⟩
        case measure => simp [intOf]; omega
      · have HJX := Lib.hid (show ∃ pre, pre <+: List.range k ∧ Jx pre W3 from ⟨List.range i ++ [i], HPRE.out, hJx3⟩)
        clear hJx3
        gi_wp2
        refine bodyPost_ret (results_none rfl _ _ _) rfl ?_
        exact ⟨⟨_, rfl⟩, .inr HJX.out⟩
    · have z1 : ¬ (i : Int) < (k : Int) := by omega
      have z2 : decide ((i : Int) < (k : Int)) = false := decide_eq_false z1
      obtain rfl : i = k := by omega
      gi_wp2
      go_end0
      exact ⟨⟨_, rfl⟩, .inl HJ0.out⟩
theorem mkFnB : ∀ (fn : Fn) (first cap : Array Value) (w : World), (Instr.makeFunc fn first cap).run Tryd.prog w = .ok (.func fn first cap) w := fun _ _ _ _ => rfl
attribute [local go_sem] mkFnB
theorem blocks_any (q : Option Addr) (n cap : Nat) (u : World) : Calls Tryd.prog 52 #[.slice q n cap] u fun e w' => e = .returned (.func (.func 79) #[] #[.pointer (some ⟨u.heap.size, 0, none⟩)]) ∧ w' = u.alloc (.cells #[.slice q n cap] 25) := by
  go_enter Tryd.func52, Tryd.ntmps52
  go_wp2
  go_ret
  exact ⟨rfl, rfl⟩
end Go.Proofs.YtjpennbmphhipaaDoor
/- Slices of bytes of the call's own, whose headers are appended one by one. -/
set_option maxRecDepth 100000
namespace Go.Proofs.YtjpennbmphhipaaDoor
open Go Go.RowKit Go.Shelf

theorem elR : ElK 82 25 (.slice none 0 0) 1 24 := ⟨by kernel_rfl, by kernel_rfl, rfl, by decide, by decide⟩
/-- The slice v, among the blocks from N on, holds slices of the bytes bs, whose blocks are not v's. -/
def Hds (w : World) (N : Nat) (v : Value) (bs : List (List (BitVec 8))) : Prop :=
  ∃ hs : List Value, w.ownsRow N 25 1 v bs.length hs ∧ ∀ i, i < bs.length → ∃ p cap, hs[i]? = some (.slice p (bs.getD i []).length cap) ∧ Sl w p (bs.getD i []) ∧ (p = none → cap = 0) ∧ ∀ c o, p = some ⟨c, o, none⟩ → N ≤ c ∧ c < w.heap.size ∧ v.ownBlock ≠ some c
theorem Hds.nil (w : World) (N : Nat) : Hds w N (.slice none 0 0) [] := ⟨[], ⟨rfl, .inl ⟨rfl, rfl⟩⟩, fun i h => absurd h (by simp)⟩
theorem Sl.keepP {w w' : World} {p : Option Addr} {l : List (BitVec 8)} (h : Sl w p l) (hk : ∀ c o, p = some ⟨c, o, none⟩ → c < w.heap.size → w'.heap[c]? = w.heap[c]?) : Sl w' p l := fun j hj => by
  obtain ⟨c, o, e, hc⟩ := h j hj
  exact ⟨c, o, e, by rw [World.cell?_of_block (w := w) (hk c o e (World.block_lt_of_cell? w _ hc))]; exact hc⟩
theorem Hds.keep {w w' : World} {N : Nat} {v : Value} {bs : List (List (BitVec 8))} (h : Hds w N v bs) (hs : w.heap.size ≤ w'.heap.size) (hb : ∀ c, N ≤ c → c < w.heap.size → w'.heap[c]? = w.heap[c]?) : Hds w' N v bs := by
  obtain ⟨cs, h1, h2⟩ := h
  refine ⟨cs, own_keep h1 (fun g hg => hb g (h1.lt g hg).1 (h1.lt g hg).2), fun i hi => ?_⟩
  obtain ⟨p, cap, e1, e2, e3, e4⟩ := h2 i hi
  exact ⟨p, cap, e1, e2.keepP (fun c o e hlt => hb c (e4 c o e).1 hlt), e3, fun c o e => ⟨(e4 c o e).1, Nat.lt_of_lt_of_le (e4 c o e).2.1 hs, (e4 c o e).2.2⟩⟩
theorem Hds.of_below {w w' : World} {N : Nat} {v : Value} {bs : List (List (BitVec 8))} (h : Hds w N v bs) (k : Below w.heap.size w w') : Hds w' N v bs := h.keep k.size fun c _ hc => k.block c hc
theorem Hds.far {w : World} {N b : Nat} {v : Value} {bs : List (List (BitVec 8))} (h : Hds w N v bs) (hb : b < N) {o : Nat} {x : Value} : Hds (w.setCell ⟨b, o, none⟩ x) N v bs := h.keep (by simp) fun c hc _ => Below.heap_setCell _ _ _ _ (by show c ≠ b; omega)
theorem Hds.put {w : World} {N k : Nat} {o : Obj} {v : Value} {bs : List (List (BitVec 8))} (h : Hds w N v bs) (hlt : k < w.heap.size) (hk : k < N := by omega) : Hds (w.putObj k o) N v bs := h.keep (below_putP (N := k) o (Nat.le_refl _) hlt).size fun c hc _ => World.putObj_heap_other (by omega)
theorem Hds.lower {w : World} {N M : Nat} {v : Value} {bs : List (List (BitVec 8))} (h : Hds w N v bs) (hM : M ≤ N) : Hds w M v bs := by
  obtain ⟨cs, h1, h2⟩ := h
  refine ⟨cs, own_lower h1 hM, fun i hi => ?_⟩
  obtain ⟨p, cap, e1, e2, e3, e4⟩ := h2 i hi
  exact ⟨p, cap, e1, e2, e3, fun c o e => ⟨Nat.le_trans hM (e4 c o e).1, (e4 c o e).2⟩⟩
theorem Hds.push {w w' : World} {N : Nat} {v v' : Value} {bs : List (List (BitVec 8))} {cs : List Value} {p : Option Addr} {cap : Nat} {r : List (BitVec 8)} (h1 : w.ownsRow N 25 1 v bs.length cs)
    (h2 : ∀ i, i < bs.length → ∃ p cap, cs[i]? = some (.slice p (bs.getD i []).length cap) ∧ Sl w p (bs.getD i []) ∧ (p = none → cap = 0) ∧ ∀ c o, p = some ⟨c, o, none⟩ → N ≤ c ∧ c < w.heap.size ∧ v.ownBlock ≠ some c)
    (hs : Sl w p r) (hp : p = none → cap = 0) (hb : ∀ c o, p = some ⟨c, o, none⟩ → N ≤ c ∧ c < w.heap.size ∧ v.ownBlock ≠ some c)
    (hO : w'.ownsRow N 25 1 v' (bs.length + 1) (cs ++ [.slice p r.length cap])) (hg : w.grownBy w' v.ownBlock) (hor : v'.ownBlock = v.ownBlock ∨ v'.ownBlock = some w.heap.size) : Hds w' N v' (bs ++ [r]) := by
  have hcl : cs.length = bs.length := by have := h1.1; omega
  have key : ∀ c, c < w.heap.size → v.ownBlock ≠ some c → w'.heap[c]? = w.heap[c]? ∧ v'.ownBlock ≠ some c := fun c h3 h4 =>
    ⟨hg.block c h3 (fun e => h4 e.symm), fun e => by
      rcases hor with e2 | e2
      · exact h4 (by rw [← e2]; exact e)
      · rw [e2] at e; injection e with e; omega⟩
  refine ⟨cs ++ [.slice p r.length cap], by rw [List.length_append]; exact hO, fun i hi => ?_⟩
  by_cases h : i < bs.length
  · obtain ⟨p', cap', e1, e2, e3, e4⟩ := h2 i h
    have hgd : (bs ++ [r]).getD i [] = bs.getD i [] := by simp [List.getD_eq_getElem?_getD, List.getElem?_append_left h]
    rw [hgd]
    exact ⟨p', cap', by rw [List.getElem?_append_left (by omega)]; exact e1, e2.keepP (fun c o e hlt => (key c hlt (e4 c o e).2.2).1), e3, fun c o e => ⟨(e4 c o e).1, Nat.lt_of_lt_of_le (e4 c o e).2.1 hg.size, (key c (e4 c o e).2.1 (e4 c o e).2.2).2⟩⟩
  · have hi' : i = bs.length := by rw [List.length_append] at hi; simp at hi; omega
    subst hi'
    have hgd : (bs ++ [r]).getD bs.length [] = r := by simp [List.getD_eq_getElem?_getD]
    rw [hgd]
    exact ⟨p, cap, by rw [← hcl]; simp, hs.keepP (fun c o e hlt => (key c hlt (hb c o e).2.2).1), hp, fun c o e => ⟨(hb c o e).1, Nat.lt_of_lt_of_le (hb c o e).2.1 hg.size, (key c (hb c o e).2.1 (hb c o e).2.2).2⟩⟩
/-- Such a slice's shape. -/
theorem Hds.shape {w : World} {N : Nat} {v : Value} {bs : List (List (BitVec 8))} (h : Hds w N v bs) : ∃ p cap, v = .slice p bs.length cap ∧ (p = none → cap = 0) ∧ bs.length ≤ cap ∧ (∀ c o, p = some ⟨c, o, none⟩ → N ≤ c ∧ c < w.heap.size) ∧
    ∀ i, i < bs.length → ∃ c o q d, p = some ⟨c, o, none⟩ ∧ w.cell? ⟨c, o + i, none⟩ = some (.slice q (bs.getD i []).length d) ∧ Sl w q (bs.getD i []) ∧ (q = none → d = 0) := by
  obtain ⟨cs, h1, h2⟩ := h
  obtain ⟨p, cap, e, h3, h4, h5, h6⟩ := own_shape h1
  refine ⟨p, cap, e, h4, h5, h6, fun i hi => ?_⟩
  obtain ⟨q, d, e1, e2, e3, -⟩ := h2 i hi
  obtain ⟨c, o, ep, hlt, hc⟩ := h3.cell e1
  exact ⟨c, o, q, d, ep, hc, e2, e3⟩
theorem blen_le (n i : Nat) : blen n i ≤ 256 := by unfold blen; omega
theorem clone_blk (l : List (BitVec 8)) (q : Option Addr) (n cap i : Nat) (u : World) (hl : l.length = n) (hs : Sl u q l) (hq : q = none → cap = 0) (hc : n ≤ cap) (hi : 256 * i < n) : Calls Tryd.prog 36 #[blkS q n i] u (fun e w' => GivesB u (blkL l i) e w') := by
  have h1 : (blkL l i).length = blen n i := by rw [blkL_len, hl]
  have h2 := blkL_sl hs i
  have h3 := blen_le n i
  have h4 : q.map (·.add (256 * i)) = none → blen n i = 0 := fun e => by
    cases q with
    | none => have := hq rfl; omega
    | some a => cases e
  unfold blkS
  generalize blen n i = m at *
  generalize q.map (·.add (256 * i)) = q' at *
  exact clone_any (blkL l i) q' m m u h1 h2 h4 (Nat.le_refl _) (by omega)
theorem new_cP (w : World) (v : Value) (T : TypeId) : (w.alloc (.cells #[v] T)).cell? ⟨w.heap.size, 0, none⟩ = some v ∧ (w.alloc (.cells #[v] T)).frozen? ⟨w.heap.size, 0, none⟩ = false := ⟨World.cell?_alloc_new _ _ _ _, by go_simp⟩
theorem pre_range {k : Nat} {pre : List Nat} {x : Nat} (h : pre ++ [x] <+: List.range k) : x < k ∧ pre.length < k ∧ x = pre.length := by
  obtain ⟨t, e⟩ := h
  have h1 : (List.range k)[pre.length]? = some x := by rw [← e]; simp
  have hl : pre.length < k := by
    have := (List.getElem?_eq_some_iff.1 h1).1
    simpa using this
  rw [List.getElem?_range hl] at h1
  injection h1 with h1
  omega
theorem others_belowP {W W' : World} (h : Below W.heap.size W W') : KeepsOthers W W' := ⟨h.size, fun k o hk _ => by rw [h.block k (Array.getElem?_eq_some_iff.1 hk).1]; exact hk⟩
theorem KeepsOthers.grown_own {w w' : World} {base k n : Nat} {E : TypeId} {v : Value} {cs : List Value} (h : w.ownsRow base E k v n cs) (hg : w.grownBy w' v.ownBlock) : KeepsOthers w w' := ⟨hg.size, fun j o hj hc => by
  have hlt := (Array.getElem?_eq_some_iff.1 hj).1
  rcases h.2 with ⟨hv, _⟩ | ⟨g, cap, cur, hv, _, hgv, _⟩
  · rw [hg.block j hlt (by rw [hv]; exact fun e => by cases e)]; exact hj
  · by_cases e : j = g
    · subst e
      rw [hgv] at hj
      injection hj with hj
      subst hj
      cases hc
    · rw [hg.block j hlt (by rw [hv]; exact fun e2 => e (by injection e2))]; exact hj⟩
theorem stepIn_appendK {F : Fence} {m : Nat} {ops : Array Oper} {o : Oper} {a : Act} {Q : Exit → Act → World → Prop} {K' : Act → World → Prop} {Z : Prop} {T E : TypeId} {z : Value} {k b n : Nat} {v : Value} {cs : List Value} (K : ElK T E z k b) (w : World) (hgd : o.guard = none) (s x : Operand)
    (ho : o.op = .call { callee := .builtin .append, args := #[s, x], argTypes := #[T, T] })
    (base : Nat) (hs : a.eval s = v) (hown : w.ownsRow base E k v n cs) (p : Option Addr) (m' c : Nat) (news : List Value) (hnl : news.length = m' * k) (hx : a.eval x = .slice p m' c) (hl : LsC w p news) (hp : p = none → c = 0 ∧ m' = 0) (h1 : ∀ u ∈ news, u.oneCell' = true)
    (hn : n + m' < 100000000) (hb : base ≤ w.heap.size)
    (h : ∀ v' w', w'.ownsRow base E k v' (n + m') (cs ++ news) → w.grownBy w' v.ownBlock → (v'.ownBlock = v.ownBlock ∨ v'.ownBlock = some w.heap.size) → K' (a.put o.dst v') w') : if Region.wanted o (yielded ops a.tmps) = true then Oper.wpIn F m Tryd.prog o a w K' Q else Z := by
  have hw : Region.wanted o (yielded ops a.tmps) = true := by simp [Region.wanted, hgd]
  rw [if_pos hw]
  obtain ⟨v', w', hr, h2, h3, h4⟩ := append_ownK K w base o.type hown p m' c news hnl hl hp h1 hn hb
  have hsem : o.semAt F.round a.eval = execOp a.eval o := Oper.semAt_eq _ _ _ (fun c e => by rw [ho] at e; cases e)
  unfold Oper.wpIn
  refine ⟨fun f hf => ?_, ?_⟩
  · exfalso
    unfold Oper.about at hf
    simp only [ho, resolve, Sem.run_bind, Sem.run_pure, Result.andThen_ok, Target.leads] at hf
    cases hf
  · rw [hsem]
    unfold execOp
    simp only [ho, resolve, invoke, builtin, Sem.run_bind, Sem.run_pure, Result.andThen_ok, List.map_toArray, List.map_cons, List.map_nil, hs, hx, hr]
    exact h v' w' h2 h3 h4
end Go.Proofs.YtjpennbmphhipaaDoor
/- Put of the program: the encoding of a good vector is written. -/
set_option maxRecDepth 100000
namespace Go.Proofs.YtjpennbmphhipaaDoor
open Go Go.RowKit Go.Shelf

attribute [local go_sem] Oper.semAt_some
theorem below_newZ (w : World) (o : Obj) : Below w.heap.size w (w.alloc o) := (Below.refl _ _).alloc (Nat.le_refl _) _
theorem new_cZ (w : World) (v : Value) (T : TypeId) : (w.alloc (.cells #[v] T)).cell? ⟨w.heap.size, 0, none⟩ = some v ∧ (w.alloc (.cells #[v] T)).frozen? ⟨w.heap.size, 0, none⟩ = false := ⟨World.cell?_alloc_new _ _ _ _, by go_simp⟩
theorem cells_of_cell {w : World} {a : Addr} {v : Value} {o : Obj} (h : w.cell? a = some v) (ho : w.heap[a.block]? = some o) : o.isCells = true := by
  unfold World.cell? at h
  rw [ho] at h
  cases o <;> first | rfl | simp at h
theorem Kq.others {w w' : World} {g : Option Nat} {N : Nat} {l : List (BitVec 8)} {a : Addr} (h : Kq a.block g w w') (hW : WrP N w a g l) : KeepsOthers w w' := ⟨h.size, fun k o hk hc => by
  obtain ⟨b, v, rfl, h1, h2, h3, h4, h5, h6⟩ := hW
  have hlt := (Array.getElem?_eq_some_iff.1 hk).1
  by_cases e : k = b
  · subst e
    rw [cells_of_cell h2 hk] at hc; cases hc
  · by_cases e2 : g = some k
    · rcases h4.2 with ⟨hv, _⟩ | ⟨g2, cap, cur, hv, _, hg2, _⟩
      · rw [← h5, hv] at e2; cases e2
      · have : g2 = k := by rw [← h5, hv] at e2; injection e2
        subst this
        rw [hg2] at hk
        injection hk with hk
        subst hk
        cases hc
    · rw [h.block k hlt e e2]; exact hk⟩
/-- The boxes of Put. -/
structure PBx (w : World) (n : Nat) (f : Nat → Int) (a : Addr) (A : World) : Prop where
  row : Row A n 28 16 (vf f)
  ptr : A.cell? ⟨n + 1, 0, none⟩ = some (.pointer (some a))
theorem PBx.keep {w : World} {n : Nat} {f : Nat → Int} {a : Addr} {A A' : World} (h : PBx w n f a A) (h1 : A'.heap[n]? = A.heap[n]?) (h2 : A'.heap[n + 1]? = A.heap[n + 1]?) : PBx w n f a A' := ⟨h.row.of_block h1, by rw [World.cell?_of_block (w := A) h2]; exact h.ptr⟩
/-- What the first loop carries: so many are counted. -/
def InvP1 (w : World) (n : Nat) (f : Nat → Int) (a : Addr) (pre : List Nat) (A : World) : Prop :=
  A.cell? ⟨n + 1 + 1, 0, none⟩ = some (.int .i64 (pre.length : Int)) ∧ A.frozen? ⟨n + 1 + 1, 0, none⟩ = false ∧ PBx w n f a A ∧ Below n w A
theorem InvP1.of_below {w : World} {n N : Nat} {f : Nat → Int} {a : Addr} {pre : List Nat} {A A' : World} (h : InvP1 w n f a pre A) (hN : n + 1 + 1 < N) (hB : Below N A A') : InvP1 w n f a pre A' :=
  ⟨by rw [hB.cell (by exact hN)]; exact h.1, by rw [hB.frozen (by exact hN)]; exact h.2.1, h.2.2.1.keep (hB.block _ (by omega)) (hB.block _ (by omega)), h.2.2.2.trans (hB.mono (by omega))⟩
theorem InvP1.lt {w : World} {n : Nat} {f : Nat → Int} {a : Addr} {pre : List Nat} {A : World} (h : InvP1 w n f a pre A) : n + 1 + 1 < A.heap.size := World.block_lt_of_cell? A _ h.1
theorem InvP1.bears (w : World) (n M : Nat) (f : Nat → Int) (a : Addr) (hM : n + 1 + 1 < M) : BearsP M (InvP1 w n f a) :=
  ⟨fun pre A o h => h.of_below h.lt (below_newZ A o), fun pre A o hlt h => h.of_below (N := M + 1) (by omega) (below_putP o (Nat.le_refl _) hlt), fun pre A k h => h.of_below h.lt ((show Dr A (A.drewN k) from ⟨k, rfl⟩).below _)⟩
/-- What the second loop carries: what was written. -/
def InvP2 (w : World) (n M : Nat) (f : Nat → Int) (a : Addr) (N : Nat) (g : Option Nat) (l : List (BitVec 8)) (D1 : Nat) (pre : List Nat) (A : World) : Prop :=
  PBx w n f a A ∧ (n + 1 < M ∧ D1 < M ∧ A.heap[D1]? = some (.deferred (some []))) ∧ M ≤ A.heap.size ∧ ∃ g', WrP N A a g' (l ++ bodyL f pre) ∧ (∀ k, g' = some k → (g = some k ∨ n + 1 < k) ∧ (k + 1 < M ∨ M + 2 ≤ k)) ∧ Kq a.block g w A
theorem InvP2.step {w : World} {n M : Nat} {f : Nat → Int} {a : Addr} {N : Nat} {g : Option Nat} {l : List (BitVec 8)} {D1 : Nat} {pre : List Nat} {A A' : World} (h : InvP2 w n M f a N g l D1 pre A) (hw : w.heap.size ≤ n) (ha : a.block < w.heap.size)
    (hos : A'.os = A.os ∧ A'.tape = A.tape ∧ A'.output = A.output ∧ A.heap.size ≤ A'.heap.size) (hb : ∀ k, k < A.heap.size → (k < M ∨ M + 2 ≤ k) → A'.heap[k]? = A.heap[k]?) (hg : ∀ k, g = some k → k < w.heap.size) : InvP2 w n M f a N g l D1 pre A' := by
  obtain ⟨h1, ⟨h2, h2b, h2c⟩, h3, g', h4, h5, h6⟩ := h
  refine ⟨h1.keep (hb _ (by omega) (by omega)) (hb _ (by omega) (by omega)), ⟨h2, h2b, (hb _ (by omega) (by omega)).trans h2c⟩, Nat.le_trans h3 hos.2.2.2, g', wrP_stay _ _ _ _ _ _ h4 hos.2.2.2 (hb _ (by omega) (by omega)) (fun k hk => hb k ((wrP_lie _ _ _ _ _ h4).2.2 k hk).2.1 (by have := (h5 k hk).2; omega)), h5,
    ⟨hos.1.trans h6.os, hos.2.1.trans h6.tape, hos.2.2.1.trans h6.output, Nat.le_trans h6.size hos.2.2.2, fun k k1 k2 k3 => (hb k (Nat.lt_of_lt_of_le k1 h6.size) (by omega)).trans (h6.block k k1 k2 k3)⟩⟩
theorem InvP2.bears (w : World) (n M : Nat) (f : Nat → Int) (a : Addr) (N : Nat) (g : Option Nat) (l : List (BitVec 8)) (D1 : Nat) (hw : w.heap.size ≤ n) (ha : a.block < w.heap.size) (hg : ∀ k, g = some k → k < w.heap.size) : BearsP M (InvP2 w n M f a N g l D1) :=
  ⟨fun pre A o h => h.step hw ha ⟨rfl, rfl, rfl, (below_newZ A o).size⟩ (fun k hk _ => (below_newZ A o).block k hk) hg,
   fun pre A o hlt h => h.step hw ha ⟨(below_putP (N := 0) o (Nat.zero_le _) hlt).os, (below_putP (N := 0) o (Nat.zero_le _) hlt).tape, (below_putP (N := 0) o (Nat.zero_le _) hlt).output, (below_putP (N := 0) o (Nat.zero_le _) hlt).size⟩ (fun k hk hM => World.putObj_heap_other (by omega)) hg,
   fun pre A k h => h.step hw ha ⟨rfl, rfl, rfl, Nat.le_refl _⟩ (fun _ _ _ => rfl) hg⟩
attribute [local go_sem ↓] exec_boxV exec_loadV exec_indexV exec_storeV
attribute [local go_sem] boxV indexV
set_option maxRecDepth 100000 in
set_option maxHeartbeats 4000000 in
theorem put9_any (f : Nat → Int) (hf : ∀ i, i < 16 → 0 ≤ f i ∧ f i ≤ 1099511627776) (N : Nat) (w : World) (a : Addr) (g : Option Nat) (l : List (BitVec 8)) (h : WrP N w a g l) (hll : l.length < 1000000) :
    Calls Tryd.prog 8 #[vcV f, .pointer (some a)] w fun e w' => e = .returned (.tuple #[]) ∧ WrPost WrP N w a g (l ++ encV f) w' := by
  refine (callsIn_wide (n := 7)).1 ?_
  refine callsIn_of_wp_marks Tryd.func8 rfl trivial ?_ rfl
  simp only [Tryd.ntmps8, List.size_toArray, List.length_cons, List.length_nil, Nat.reduceAdd, Nat.reduceSub, Array.replicate_succ, Array.replicate_zero, List.push_toArray, List.append_toArray, List.nil_append, List.cons_append]
  have hlie := wrP_lie _ _ _ _ _ h
  obtain ⟨n, hn⟩ : ∃ n, w.heap.size = n := ⟨_, rfl⟩
  obtain ⟨W1, hW1⟩ : ∃ W1, w.alloc (.cells (tab 16 (vf f)) 28) = W1 := ⟨_, rfl⟩
  obtain ⟨W2, hW2⟩ : ∃ W2, W1.alloc (.cells #[.pointer (some a)] 30) = W2 := ⟨_, rfl⟩
  obtain ⟨W3, hW3⟩ : ∃ W3, W2.alloc (.cells #[.int .i64 0] 3) = W3 := ⟨_, rfl⟩
  obtain ⟨W4, hW4⟩ : ∃ W4, W3.alloc (.cells (tab 16 (vf f)) 28) = W4 := ⟨_, rfl⟩
  have s1 : W1.heap.size = n + 1 := by rw [← hW1]; simp [hn]
  have s2 : W2.heap.size = n + 1 + 1 := by rw [← hW2]; simp [s1]
  have s3 : W3.heap.size = n + 1 + 1 + 1 := by rw [← hW3]; simp [s2]
  have s4 : W4.heap.size = n + 1 + 1 + 1 + 1 := by rw [← hW4]; simp [s3]
  have b1 : Below w.heap.size w W1 := by rw [← hW1]; exact below_newZ _ _
  have b2 : Below W1.heap.size W1 W2 := by rw [← hW2]; exact below_newZ _ _
  have b3 : Below W2.heap.size W2 W3 := by rw [← hW3]; exact below_newZ _ _
  have b4 : Below W3.heap.size W3 W4 := by rw [← hW4]; exact below_newZ _ _
  have r1 : Row W1 n 28 16 (vf f) := by rw [← hW1, ← hn]; exact Row.new _ _ _ _
  have r3 : Row W3 n 28 16 (vf f) := (r1.of_below b2).of_below b3
  have p2 : W2.cell? ⟨n + 1, 0, none⟩ = some (.pointer (some a)) := by rw [← hW2, ← s1]; exact World.cell?_alloc_new _ _ _ _
  have p3 : W3.cell? ⟨n + 1, 0, none⟩ = some (.pointer (some a)) := by rw [b3.cell (by show n + 1 < _; omega)]; exact p2
  obtain ⟨c3, f3⟩ := new_cZ W2 (.int .i64 0) 3
  rw [hW3, s2] at c3 f3
  have b34 := b4
  rw [s3] at b34
  have hInv0 : InvP1 w n f a [] W4 := (show InvP1 w n f a [] W3 from ⟨c3, f3, ⟨r3, p3⟩, by rw [← hn]; exact (b1.trans (b2.mono b1.size)).trans (b3.mono (b1.trans (b2.mono b1.size)).size)⟩).of_below (by omega) b34
  have r4 : Row W4 (n + 1 + 1 + 1) 28 16 (vf f) := by rw [← hW4, ← s3]; exact Row.new _ _ _ _
  have HSQ1 := Lib.hid (nonzero_seq 6 (by decide) (n + 1 + 1 + 1) f W4 r4)
  have HI0 := Lib.hid hInv0
  have l1 : (ldT 28 (.pointer (some ⟨w.heap.size, 0, none⟩))).run Tryd.prog (((w.alloc (.cells (tab 16 (vf f)) 28)).alloc (.cells #[.pointer (some a)] 30)).alloc (.cells #[.int .i64 0] 3)) = .ok (.value (vcV f)) (((w.alloc (.cells (tab 16 (vf f)) 28)).alloc (.cells #[.pointer (some a)] 30)).alloc (.cells #[.int .i64 0] 3)) := by
    rw [hW1, hW2, hW3, hn]
    exact loadVT vtV (VecAt.of_row r3 (Nat.le_refl _))
  have HW := Lib.hid (show WrP N w a g l from h)
  have HLIE := Lib.hid hlie
  have HF := Lib.hid hf
  clear h hlie hf r1 r3 p2 p3 c3 f3 b34 hInv0 r4 b1 b2 b3 b4
  have HEQ := Lib.hid (And.intro hW1 (And.intro hW2 (And.intro hW3 hW4)))
  have HS := Lib.hid (And.intro s1 (And.intro s2 (And.intro s3 s4)))
  have HN := Lib.hid hn
  clear hW1 hW2 hW3 hW4 s1 s2 s3 s4 hn
  gi_wp2_with (refine ⟨trivial, ?_⟩; gi_at_call 34; refine (callsIn_wide.2 (nonzero_any f _)).mono ?_; rintro e w' ⟨rfl, rfl⟩)
  clear l1
  rw [HEQ.out.1, HEQ.out.2.1, HEQ.out.2.2.1, HEQ.out.2.2.2]
  try rw [HS.out.2.2.1]
  try rw [HS.out.1]
  try rw [HS.out.2.1]
  try rw [HN.out]
  have s4 := HS.out.2.2.2
  refine range_pure (m := 7) (by decide) (gf := 60) (lb := #[.pointer (some ⟨n + 1 + 1 + 1, 0, none⟩)]) (by rfl) (enters_of Tryd.func60 (by kernel_rfl) rfl)
    (encs := fun i : Nat => #[.int .i64 (i : Int), .int .i64 (f i)]) (fun _ => rfl) (b := n + 1 + 1 + 1) (by omega) HSQ1.out
    (InvP1 w n f a) (fun _ _ => False) (InvP1.bears w n _ f a (by omega)) (fun _ _ _ _ h => h) HI0.out
    (fun i => { tmps := #[vcV f, .pointer (some a), .pointer (some ⟨n, 0, none⟩), .pointer (some ⟨n + 1, 0, none⟩), .pointer (some ⟨n + 1 + 1, 0, none⟩), undef, undef, vcV f, .func (.func 60) #[] #[.pointer (some ⟨n + 1 + 1 + 1, 0, none⟩)], .int .i64 (i : Int), .int .i64 (f i), undef, undef, undef, undef, undef, undef, undef, undef, undef, undef, undef, undef, undef, undef, undef], defers := [] }) ?assign ?body ?done ?stop
  case assign =>
    intro L x A K hK
    go_simp
    gi_wp2
    exact hK
  case body =>
    rintro L pre i A hpx hNA ⟨hc, hfz, hbx, hB⟩
    have hlen : pre.length < 16 := by
      obtain ⟨t, e⟩ := hpx
      have h1 := congrArg List.length e
      rw [nzV_len] at h1
      have h2 := cntV_le f 16
      simp only [List.length_append, List.length_cons, List.length_nil] at h1
      omega
    have hw1 := i64v pre.length hlen
    have HBX := Lib.hid hbx
    have HB := Lib.hid hB
    have HC := Lib.hid (And.intro hc hfz)
    clear hbx hB hpx
    gi_wp2
    refine ⟨KeepsOthers.setCell _ _ _, Below.heap_setCell _ _ _ _ (show n + 1 + 1 + 1 ≠ n + 1 + 1 by omega), ?_, by rw [World.frozen?_setCell]; exact HC.out.2, HBX.out.keep (Below.heap_setCell _ _ _ _ (show n ≠ n + 1 + 1 by omega)) (Below.heap_setCell _ _ _ _ (show n + 1 ≠ n + 1 + 1 by omega)), HB.out.setCell (show n ≤ (⟨n + 1 + 1, 0, none⟩ : Addr).block by show n ≤ n + 1 + 1; omega) _⟩
    rw [World.cell?_setCell_same _ _ _ HC.out.1]
    rw [List.length_append]
    simp
  case done =>
    rintro D A hD ⟨hc, hfz, hbx, hB⟩ hK
    rw [s4] at hD
    subst hD
    have l2 := loadVT vtV (VecAt.of_row hbx.row (Nat.le_refl _))
    have x1 := hbx.ptr
    rw [nzV_len] at hc
    obtain ⟨C, hC⟩ : ∃ C, cntV f 16 = C := ⟨_, rfl⟩
    rw [hC] at hc
    have hC16 : C ≤ 16 := by rw [← hC]; exact cntV_le f 16
    have HCE := Lib.hid hC
    have hab : a.block < n := by rw [← HN.out]; exact HLIE.out.2.1
    have hgb : ∀ k, g = some k → k < n := fun k hk => by rw [← HN.out]; exact (HLIE.out.2.2 k hk).2.1
    have hB' : Below w.heap.size w A := by rw [HN.out]; exact hB
    have hWA : WrP N A a g l := wrP_stay _ _ _ _ _ _ HW.out hB'.size (hB'.block _ HLIE.out.2.1) (fun k hk => hB'.block _ (HLIE.out.2.2 k hk).2.1)
    have HNC := Lib.hid (wrP_number N A a g l C hWA (by omega) (by omega))
    have hDlt := (Array.getElem?_eq_some_iff.1 hK).1
    have hA4 : n + 1 + 1 + 1 + 1 < A.heap.size := by omega
    have HBX := Lib.hid hbx
    have HB := Lib.hid hB
    have HKD := Lib.hid hK
    have HWA := Lib.hid hWA
    clear hbx hB hB' hK hWA hC
    gi_wp2_with (first | (refine ⟨trivial, ?_⟩; gi_at_call 35; refine (callsIn_wide.2 HNC.out).mono ?_; rintro e w5 ⟨rfl, hP5⟩
                          obtain ⟨g5, hW5, hg5, hK5⟩ := hP5
                          have hkn : w5.heap[n]? = A.heap[n]? := hK5.block n (by omega) (by omega) (fun e => by have := hgb n e; omega)
                          have hkn1 : w5.heap[n + 1]? = A.heap[n + 1]? := hK5.block (n + 1) (by omega) (by omega) (fun e => by have := hgb (n + 1) e; omega)
                          have HD5 := Lib.hid (show w5.heap[n + 1 + 1 + 1 + 1]? = some (.deferred (some [])) from (hK5.block (n + 1 + 1 + 1 + 1) hDlt (by omega) (fun e => by have := hgb (n + 1 + 1 + 1 + 1) e; omega)).trans HKD.out)
                          have HBX5 := Lib.hid (HBX.out.keep hkn hkn1)
                          have l3 := loadVT vtV (VecAt.of_row HBX5.out.row (Nat.le_refl _))
                          have x3 := HBX5.out.ptr
                          have HP5 := Lib.hid (And.intro hW5 (And.intro hg5 hK5))
                          clear hW5 hg5 hK5 hkn hkn1)
                       | (refine ⟨trivial, ?_⟩; gi_at_call 34; refine (callsIn_wide.2 (nonzero_any f _)).mono ?_; rintro e w' ⟨rfl, rfl⟩))
    clear l2 l3 x1 x3
    have hw5 : n + 1 + 1 + 1 + 1 < w5.heap.size := Nat.lt_of_lt_of_le hA4 HP5.out.2.2.size
    have hB6 : Below w5.heap.size w5 (w5.alloc (.cells (tab 16 (vf f)) 28)) := below_newZ _ _
    have hz6 : (w5.alloc (.cells (tab 16 (vf f)) 28)).heap.size = w5.heap.size + 1 := World.size_alloc _ _
    have HSQ2 := Lib.hid (nonzero_seq 6 (by decide) w5.heap.size f _ (Row.new w5 28 16 (vf f)))
    generalize hW6 : w5.alloc (.cells (tab 16 (vf f)) 28) = W6 at *
    clear hW6
    obtain ⟨B2, hB2⟩ : ∃ B2, w5.heap.size = B2 := ⟨_, rfl⟩
    rw [hB2] at HSQ2 hz6 ⊢
    have hKA : Kq a.block g w A := ⟨HB.out.os, HB.out.tape, HB.out.output, by have := HB.out.size; omega, fun k k1 k2 k3 => HB.out.block k (by rw [HN.out] at k1; exact k1)⟩
    have hInv2 : InvP2 w n W6.heap.size f a N g (l ++ enc7 C) (n + 1 + 1 + 1 + 1) [] W6 := by
      obtain ⟨hW5, hg5, hK5⟩ := HP5.out
      refine ⟨HBX5.out.keep (hB6.block _ (by omega)) (hB6.block _ (by omega)), ⟨by omega, by omega, (hB6.block _ (by omega)).trans HD5.out⟩, Nat.le_refl _, g5, ?_, fun k hk => ?_, ?_⟩
      · show WrP N W6 a g5 (l ++ enc7 C ++ [])
        rw [List.append_nil]
        exact wrP_stay _ _ _ _ _ _ hW5 hB6.size (hB6.block _ (wrP_lie _ _ _ _ _ hW5).2.1) (fun k hk => hB6.block _ ((wrP_lie _ _ _ _ _ hW5).2.2 k hk).2.1)
      · have := ((wrP_lie _ _ _ _ _ hW5).2.2 k hk).2.1
        refine ⟨(hg5 k hk).imp id (fun h => by omega), by omega⟩
      · exact (hKA.trans hK5 (fun i e => .inl e)).trans (Kq.ofBelow hB6 (g := g)) (fun i e => .inl e)
    have HI2 := Lib.hid hInv2
    clear hInv2 hB6 hKA
    refine range_pure (m := 7) (by decide) (gf := 60) (lb := #[.pointer (some ⟨B2, 0, none⟩)]) (by rfl) (enters_of Tryd.func60 (by kernel_rfl) rfl)
      (encs := fun i : Nat => #[.int .i64 (i : Int), .int .i64 (f i)]) (fun _ => rfl) (b := B2) (by omega) HSQ2.out
      (InvP2 w n W6.heap.size f a N g (l ++ enc7 C) (n + 1 + 1 + 1 + 1)) (fun _ _ => False) (InvP2.bears w n _ f a N g _ (n + 1 + 1 + 1 + 1) (by rw [HN.out]; exact Nat.le_refl _) HLIE.out.2.1 (fun k hk => (HLIE.out.2.2 k hk).2.1)) (fun _ _ _ _ h => h) HI2.out
      (fun i => { tmps := #[vcV f, .pointer (some a), .pointer (some ⟨n, 0, none⟩), .pointer (some ⟨n + 1, 0, none⟩), .pointer (some ⟨n + 1 + 1, 0, none⟩), .int .i64 (i : Int), .int .i64 (f i), vcV f, .func (.func 60) #[] #[.pointer (some ⟨n + 1 + 1 + 1, 0, none⟩)], undef, undef, undef, undef, .pointer (some a), .int .i64 (C : Int), .bool true, vcV f, .func (.func 60) #[] #[.pointer (some ⟨B2, 0, none⟩)], .int .i64 (i : Int), .int .i64 (f i), undef, undef, undef, undef, undef, undef], defers := [] }) ?assign2 ?body2 ?done2 ?stop2
    case assign2 =>
      intro L x A K hK
      gi_wp2
      exact hK
    case body2 =>
      rintro L pre i A2 hpx hNA ⟨hbx, ⟨-, hDM, hAD⟩, hMA, g', hW, hg', hKA⟩
      have hmem : i ∈ nzV f 16 := hpx.subset (List.mem_append_right _ (List.mem_singleton.2 rfl))
      obtain ⟨hi16, hfi⟩ := nzV_mem hmem
      have hfb := HF.out i hi16
      have hbl : (bodyL f pre).length ≤ 112 := by
        obtain ⟨t, e⟩ := hpx
        have h1 := congrArg (fun q => (bodyL f q).length) e
        simp only [bodyL_append, List.length_append] at h1
        rw [bodyL_nz] at h1
        have h2 := bodyV_len HF.out 16 (Nat.le_refl _)
        omega
      obtain ⟨m, hm⟩ : ∃ m : Nat, f i = (m : Int) := ⟨(f i).toNat, by omega⟩
      have hm40 : m ≤ 1099511627776 := by omega
      have hel := enc7_len40 hm40
      have hec := enc7_len 0 C (by show C < 128; omega)
      have hei := enc7_len 0 i (by show i < 128; omega)
      have HBO := Lib.hid (show bodyL f (pre ++ [i]) = bodyL f pre ++ (enc7 i ++ enc7 m) from by
        rw [bodyL_append]
        show bodyL f pre ++ (enc7 i ++ enc7 (f i).toNat ++ []) = _
        rw [hm, Int.toNat_natCast, List.append_nil])
      have HN1 := Lib.hid (wrP_number N A2 a g' (l ++ enc7 C ++ bodyL f pre) i hW (by simp only [List.length_append]; omega) (by omega))
      have x1 := hbx.ptr
      have hgn : ∀ k, g' = some k → k ≠ n ∧ k ≠ n + 1 ∧ k ≠ B2 := fun k hk => by
        have h1 := hg' k hk
        refine ⟨?_, ?_, by omega⟩
        · rintro rfl
          rcases h1.1 with h2 | h2
          · have := hgb _ h2; omega
          · omega
        · rintro rfl
          rcases h1.1 with h2 | h2
          · have := hgb _ h2; omega
          · omega
      have HBX2 := Lib.hid hbx
      have HW2 := Lib.hid hW
      have HG2 := Lib.hid (And.intro hg' (And.intro hgn hKA))
      have HAD := Lib.hid hAD
      have hmz : ((m : Nat) : Int) = f i := hm.symm
      clear hbx hW hg' hgn hKA hAD hpx hmem hfi hfb
      rw [hm]
      clear hm hmz
      gi_wp2_with fail
      refine ⟨trivial, (CallsIn.inRound L (callsIn_wide.2 HN1.out)).mono ?_⟩
      rintro e w7 ⟨rfl, hP7⟩
      obtain ⟨g7, hW7, hg7, hK7⟩ := hP7
      have x2 : w7.cell? ⟨n + 1, 0, none⟩ = some (.pointer (some a)) := by
        rw [World.cell?_of_block (w := A2) (hK7.block (n + 1) (by omega) (by omega) (fun e => (HG2.out.2.1 _ e).2.1 rfl))]; exact x1
      have HN2 := Lib.hid (wrP_number N w7 a g7 (l ++ enc7 C ++ bodyL f pre ++ enc7 i) m hW7 (by simp only [List.length_append]; omega) (by omega))
      have HP7 := Lib.hid (And.intro hg7 hK7)
      clear hW7 hg7 hK7 x1
      gi_wp2_with fail
      refine ⟨trivial, (CallsIn.inRound L (callsIn_wide.2 HN2.out)).mono ?_⟩
      rintro e w8 ⟨rfl, hP8⟩
      have hP9 := WrPost.trans (g := g') HP7.out.1 HP7.out.2 hP8
      have HP9 := Lib.hid hP9
      clear hP8 hP9 x2
      gi_wp2
      obtain ⟨g8, hW8, hg8, hK8⟩ := HP9.out
      have hko := hK8.others HW2.out
      refine ⟨hko, hK8.block B2 (by omega) (by omega) (fun e => (HG2.out.2.1 _ e).2.2 rfl), HBX2.out.keep (hK8.block n (by omega) (by omega) (fun e => (HG2.out.2.1 _ e).1 rfl)) (hK8.block (n + 1) (by omega) (by omega) (fun e => (HG2.out.2.1 _ e).2.1 rfl)), ⟨by omega, hDM, hko.same _ _ HAD.out rfl⟩, Nat.le_trans hMA hK8.size, g8, ?_, fun k hk => ?_, ?_⟩
      · rw [HBO.out]
        have e : l ++ enc7 C ++ (bodyL f pre ++ (enc7 i ++ enc7 m)) = l ++ enc7 C ++ bodyL f pre ++ enc7 i ++ enc7 m := by simp only [List.append_assoc]
        rw [e]
        exact hW8
      · rcases hg8 k hk with h1 | h1
        · exact HG2.out.1 k h1
        · exact ⟨.inr (by omega), by omega⟩
      · exact HG2.out.2.2.trans hK8 (fun k hk => (HG2.out.1 k hk).1.imp id (fun h => by rw [HN.out]; omega))
    case done2 =>
      rintro D2 A2 hD2 ⟨hbx, ⟨-, hDM, hAD⟩, hMA, g', hW, hg', hKA⟩ hK2
      have HW2 := Lib.hid hW
      have HG2 := Lib.hid (And.intro hg' hKA)
      rw [bodyL_nz] at HW2
      clear hW hg' hKA hbx
      gi_wp2
      refine ⟨by simp, .inl ⟨_, _, rfl, run_takeDeferred hK2, ?_⟩⟩
      have hD2l := (Array.getElem?_eq_some_iff.1 hK2).1
      have hAD2 : (A2.putObj D2 (.deferred none)).heap[n + 1 + 1 + 1 + 1]? = some (.deferred (some [])) := (World.putObj_heap_other (by omega)).trans hAD
      refine ⟨by simp, .inl ⟨_, _, rfl, run_takeDeferred hAD2, ?_⟩⟩
      have hDl := (Array.getElem?_eq_some_iff.1 hAD2).1
      have hkeep : ∀ k, k ≠ D2 → k ≠ n + 1 + 1 + 1 + 1 → ((A2.putObj D2 (.deferred none)).putObj (n + 1 + 1 + 1 + 1) (.deferred none)).heap[k]? = A2.heap[k]? := fun k k1 k2 => (World.putObj_heap_other (by omega)).trans (World.putObj_heap_other (by omega))
      have hbp := (below_putP (N := 0) (.deferred none) (Nat.zero_le _) hD2l).trans (below_putP (N := 0) (.deferred none) (Nat.zero_le _) hDl)
      have hgk : ∀ k, g' = some k → k ≠ n + 1 + 1 + 1 + 1 := fun k hk e => by
        obtain ⟨b, v, hb, h1, h2, h3, h4, h5, h6⟩ := HW2.out
        rcases h4.2 with ⟨hv, _⟩ | ⟨g2, cap, cur, hv, _, hg2, _⟩
        · rw [← h5, hv] at hk; cases hk
        · have : g2 = k := by rw [← h5, hv] at hk; injection hk
          subst this
          rw [e, hAD] at hg2
          cases hg2
      refine ⟨.tuple #[], ?_, rfl, g', ?_, fun k hk => (HG2.out.1 k hk).1.imp id (fun h => by rw [HN.out]; omega), ?_⟩
      · simp [results, Tryd.f8, go_sem]
      · have e : l ++ encV f = l ++ enc7 C ++ bodyV f 16 := by unfold encV; rw [HCE.out, List.append_assoc]
        rw [e]
        exact wrP_stay _ _ _ _ _ _ HW2.out hbp.size (hkeep _ (by omega) (by omega)) (fun k hk => hkeep k (by have := (HG2.out.1 k hk).2; omega) (hgk k hk))
      · exact ⟨hbp.os.trans HG2.out.2.os, hbp.tape.trans HG2.out.2.tape, hbp.output.trans HG2.out.2.output, Nat.le_trans HG2.out.2.size hbp.size, fun k k1 k2 k3 => (hkeep k (by rw [HN.out] at k1; omega) (by rw [HN.out] at k1; omega)).trans (HG2.out.2.block k k1 k2 k3)⟩
    case stop2 =>
      rintro D pre A hD hpre hF hK
      exact hF.elim
  case stop =>
    rintro D pre A hD hpre hF hK
    exact hF.elim
end Go.Proofs.YtjpennbmphhipaaDoor
