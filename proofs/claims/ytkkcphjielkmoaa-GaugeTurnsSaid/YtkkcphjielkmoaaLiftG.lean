/- What the statements of measures take, in the walks' words: words of 64 bits, slices of such, arrays of four int32. -/
import Derived.Test.YtkkcphjielkmoaaRows
import Derived.Test.YtkkcphjielkmoaaBase
import Derived.ProofKit
import Derived.OpenShut
import Derived.Deep.DeepHandedRow
set_option linter.unusedSimpArgs false
set_option linter.unusedVariables false
namespace Go.Proofs.Ytkkcphjielkmoaa
open Go Go.ChangeShapes Go.WideShapes Go.ChangeAt Go.RowKit

theorem own : ownKnob Try.prog.godebug = none := by kernel_rfl
theorem laidOut : laidOutB Try.prog = true := by kernel_rfl
theorem cellsU64 : Try.prog.cellsOf 22 = 1 := by kernel_rfl
theorem undU64 : Try.prog.underlying 22 = some (.int .u64) := by kernel_rfl
theorem undU64s : Try.prog.underlying 30 = some (.slice 22) := by kernel_rfl
theorem undA4 : Try.prog.underlying 37 = some (.array 4 21) := by kernel_rfl
theorem undI32 : Try.prog.underlying 21 = some (.int .i32) := by kernel_rfl
theorem cellsA4 : Try.prog.cellsOf 37 = 4 := by kernel_rfl
theorem cellsI32 : Try.prog.cellsOf 21 = 1 := by kernel_rfl
/-- The words l lie where a slice of their number begins. -/
def Ul (w : World) (p : Option Addr) (l : List Nat) : Prop := ∀ j, j < l.length → ∃ c o, p = some ⟨c, o, none⟩ ∧ c < w.heap.size ∧ w.cell? ⟨c, o + j, none⟩ = some (.int .u64 ((l.getD j 0 : Nat) : Int))
theorem Ul.of_below {w w' : World} {p : Option Addr} {l : List Nat} (h : Ul w p l) (k : Below w.heap.size w w') : Ul w' p l := fun j hj => by
  obtain ⟨c, o, e, hb, hc⟩ := h j hj
  refine ⟨c, o, e, Nat.lt_of_lt_of_le hb k.size, ?_⟩
  rw [k.cell (by exact hb)]
  exact hc
def natsOf (zs : List Int) : List Nat := zs.map Int.toNat
theorem Ul_of_ints {W : World} {a : Addr} {len : Nat} {zs : List Int} (hz : len ≤ zs.length) (hc : ∀ i, i < zs.length → W.cell? (a.add i) = some (.int .u64 (zs.getD i 0))) (hw : ∀ n ∈ zs, (Lit.int .u64 n).wf = true) :
    Ul W (some a) (natsOf (zs.take len)) := fun j hj => by
  have hj' : j < len := by simp [natsOf] at hj; omega
  have h0 := hc 0 (by omega)
  rw [Addr.add_zero'] at h0
  have hs : a.spot = none := by
    cases h : a.spot with
    | none => rfl
    | some s =>
      unfold World.cell? at h0
      split at h0
      · simp [h] at h0
      · cases h0
  obtain ⟨c, o, sp⟩ := a
  obtain rfl : sp = none := hs
  refine ⟨c, o, rfl, World.block_lt_of_cell? W _ h0, ?_⟩
  have hj2 := hc j (by omega)
  rw [Addr.add_mid] at hj2
  rw [hj2]
  have hjz : j < zs.length := by omega
  have hb := bounds_u64 (hw _ (List.getElem_mem hjz))
  have e : (natsOf (zs.take len)).getD j 0 = (zs[j]).toNat := by
    simp [natsOf, List.getD_eq_getElem?_getD, hj', hjz]
  rw [e]
  simp only [List.getD_eq_getElem?_getD, List.getElem?_eq_getElem hjz, Option.getD_some]
  congr 2
  omega
/-- An argument that is a slice of such words. -/
theorem open_u64s {H : Type} {enc : TypeId × Value → H} {W : World} {a0 : Option Addr} {len cap : Nat} {d : DataW H} {ps : List MemPlace}
    (h : DataW.Trod enc Try.prog W 0 (fun _ => true) true 30 (.slice a0 len cap) d ps) : ∃ l : List Nat, Ul W a0 l ∧ l.length = len ∧ (∀ n ∈ l, n < 18446744073709551616) ∧ (a0 = none → cap = 0) ∧ len ≤ cap := by
  obtain ⟨fuel, hfu⟩ := h
  rcases open_ints undU64s undU64 cellsU64 hfu with ⟨hcs, _⟩ | ⟨a, len', cap', zs, hcs, _, hl, hm, hz, hx, hcell, hwz⟩
  · simp [Value.cells] at hcs
    obtain ⟨rfl, rfl, rfl⟩ := hcs
    exact ⟨[], fun j hj => absurd hj (by simp), rfl, (fun n hn => by cases hn), fun _ => rfl, Nat.le_refl _⟩
  · simp [Value.cells] at hcs
    obtain ⟨rfl, rfl, rfl⟩ := hcs
    have hzl : len ≤ zs.length := by rw [hz]; split <;> omega
    refine ⟨natsOf (zs.take len), Ul_of_ints hzl hcell hwz, by unfold natsOf; rw [List.length_map, List.length_take]; omega, fun n hn => ?_, (fun h => by cases h), hl⟩
    obtain ⟨z, hz1, rfl⟩ := List.mem_map.1 hn
    have hb := bounds_u64 (hwz z (List.mem_of_mem_take hz1))
    omega
theorem tmod20 (n : Int) : (n.tmod 1048576).natAbs < 2 ^ 20 := by
  rw [Int.natAbs_tmod]
  exact Nat.mod_lt _ (by decide)
/-- An argument that is an array of four int32. -/
theorem open_arr4 {H : Type} {enc : TypeId × Value → H} {W : World} {r : Go.Reach} {b0 : Nat} {v : Value} {d : DataW H} {ps : List MemPlace} (hval : Value.okWide Try.prog W r b0 37 v)
    (h : DataW.Trod enc Try.prog W 0 (fun _ => true) true 37 v d ps) : ∃ a b c e : Int, v = .agg #[.int .i32 a, .int .i32 b, .int .i32 c, .int .i32 e] ∧ ps = [] ∧ (Lit.int .i32 a).wf = true ∧ (Lit.int .i32 b).wf = true ∧ (Lit.int .i32 c).wf = true ∧ (Lit.int .i32 e).wf = true := by
  simp only [Value.okWide, undA4] at hval
  obtain ⟨cs, rfl, hsz, -⟩ := hval
  rw [cellsA4] at hsz
  obtain ⟨fuel, hf⟩ := h
  obtain ⟨xs, m, -, hx, hl, hn, hi⟩ := DataW.trod_array undA4 hf
  rw [cellsI32] at hi
  have hc : ((Value.agg cs).cells.toList) = cs.toList := rfl
  rw [hc] at hi
  obtain ⟨l⟩ := cs
  match l, hsz with
  | [u, v, u2, v2], _ =>
    have e0 := hi 0 (by decide)
    have e1 := hi 1 (by decide)
    have e2 := hi 2 (by decide)
    have e3 := hi 3 (by decide)
    simp at e0 e1 e2 e3
    match xs, hn with
    | [y0, y1, y2, y3], _ =>
      simp at e0 e1 e2 e3
      obtain ⟨a, ha, hya, hwa⟩ := DataW.trod_int undI32 e0
      obtain ⟨b, hb, hyb, hwb⟩ := DataW.trod_int undI32 e1
      obtain ⟨c, hcc, hyc, hwc⟩ := DataW.trod_int undI32 e2
      obtain ⟨g, hg, hyg, hwg⟩ := DataW.trod_int undI32 e3
      simp at ha hb hcc hg
      subst ha hb hcc hg
      refine ⟨a, b, c, g, rfl, ?_, hwa, hwb, hwc, hwg⟩
      simp only [Prod.mk.injEq] at hx
      rw [hx.2, hya, hyb, hyc, hyg]
      rfl
end Go.Proofs.Ytkkcphjielkmoaa
