/- Arguments that are slices of bytes, or arrays of two uint16, in the walks' words. -/
import Derived.Test.YtjglgohchhdkkaaDoorLiftS8
import Derived.Test.YtjglgohchhdkkaaDoorLsg8
import Derived.Deep.Slices
set_option linter.unusedSimpArgs false
set_option linter.unusedVariables false
set_option linter.constructorNameAsVariable false
namespace Go.Proofs.YtjglgohchhdkkaaDoor
open Go Go.ChangeShapes Go.WideShapes Go.ChangeAt Go.RowKit

theorem undU16 : Tryd.prog.underlying 22 = some (.int .u16) := by kernel_rfl
theorem cellsU16 : Tryd.prog.cellsOf 22 = 1 := by kernel_rfl
theorem undArrU : Tryd.prog.underlying 43 = some (.array 2 22) := by kernel_rfl
theorem cellsArrU : Tryd.prog.cellsOf 43 = 2 := by kernel_rfl
/-- An argument that is an array of two uint16. -/
theorem open_arrU {H : Type} {enc : TypeId × Value → H} {W : World} {r : _root_.Go.Reach} {b0 : Nat} {v : Value} {d : DataW H} {ps : List MemPlace} (hval : Value.okWide Tryd.prog W r b0 43 v)
    (h : DataW.Trod enc Tryd.prog W 0 (fun _ => true) true 43 v d ps) : ∃ a b : Int, v = .agg #[.int .u16 a, .int .u16 b] ∧ ps = [] ∧ (Lit.int .u16 a).wf = true ∧ (Lit.int .u16 b).wf = true := by
  simp only [Value.okWide, undArrU] at hval
  obtain ⟨cs, rfl, hsz, -⟩ := hval
  rw [cellsArrU] at hsz
  obtain ⟨fuel, hf⟩ := h
  obtain ⟨xs, m, -, hx, hl, hn, hi⟩ := DataW.trod_array undArrU hf
  rw [cellsU16] at hi
  have hc : ((Value.agg cs).cells.toList) = cs.toList := rfl
  rw [hc] at hi
  obtain ⟨l⟩ := cs
  match l, hsz with
  | [u, v], _ =>
    have e0 := hi 0 (by decide)
    have e1 := hi 1 (by decide)
    simp at e0 e1
    match xs, hn with
    | [y0, y1], _ =>
      simp at e0 e1
      obtain ⟨a, ha, hya, hwa⟩ := DataW.trod_int undU16 e0
      obtain ⟨b, hb, hyb, hwb⟩ := DataW.trod_int undU16 e1
      simp at ha hb
      subst ha hb
      refine ⟨a, b, rfl, ?_, hwa, hwb⟩
      simp only [Prod.mk.injEq] at hx
      rw [hx.2, hya, hyb]
      rfl
/-- Cells that lie from an address on. -/
theorem lsg_ofM {W : World} (a : Addr) (n cap N : Nat) (f : Nat → Value) (hn : n ≤ N) (hc : n ≤ cap) (h : ∀ i, i < N → W.cell? (a.add i) = some (f i)) : LsG (fun _ => True) W (some a) n cap 1 ((List.range n).map f) := by
  have key : 0 < n → a.spot = none ∧ a.block < W.heap.size := fun h0 => by
    have h1 := h 0 (by omega)
    rw [Addr.add_zero'] at h1
    refine ⟨?_, ?_⟩
    · cases e : a.spot with
      | none => rfl
      | some s =>
        unfold World.cell? at h1
        split at h1
        · simp [e] at h1
        · cases h1
    · exact World.block_lt_of_cell? W _ h1
  obtain ⟨c, o, sp⟩ := a
  refine ⟨fun j hj => ?_, by simp, fun c2 o2 e hl => ?_, (fun e => by cases e), hc⟩
  · have hj' : j < n := by simpa using hj
    obtain ⟨hs, _⟩ := key (by omega)
    obtain rfl : sp = none := hs
    refine ⟨c, o, rfl, ?_⟩
    have h1 := h j (by omega)
    rw [Addr.add_mid] at h1
    rw [h1]
    simp [hj']
  · injection e with e
    injection e with e1 e2 e3
    have hl' : 0 < n := by simpa using hl
    exact ⟨trivial, by rw [← e1]; exact (key hl').2⟩
theorem lsg_nilM (W : World) : LsG (fun _ => True) W none 0 0 1 [] := ⟨LsC.nil _ _, by simp, (fun c o e _ => by cases e), fun _ => rfl, Nat.le_refl _⟩
theorem open_bM {H : Type} {enc : TypeId × Value → H} {W : World} {n : Nat} {v : Value} {x : DataW H × List MemPlace}
    (h : DataW.trod enc Tryd.prog W 0 (fun _ => true) true n 28 [v] = some x) : ∃ (l : S8) (q : Option Addr) (c : Nat), v = .slice q l.length c ∧ LsG (fun _ => True) W q l.length c 1 (bytC l) ∧ l.length < 9223372036854775808 := by
  rcases open_ints undBytes undByte cellsByte h with ⟨hcs, _⟩ | ⟨a, len, cap, zs, hcs, _, hl, hm, hz, _, hcl, hwz⟩
  · injection hcs with hcs
    subst hcs
    exact ⟨[], none, 0, rfl, lsg_nilM W, by simp⟩
  · injection hcs with hcs
    subst hcs
    simp only [if_true] at hz
    have hw : ∀ i, i < zs.length → 0 ≤ zs.getD i 0 ∧ zs.getD i 0 < 256 := fun i hi => by
      have hm : zs.getD i 0 ∈ zs := by rw [List.getD_eq_getElem?_getD, List.getElem?_eq_getElem hi]; exact List.getElem_mem hi
      have := bounds_u8 (hwz _ hm)
      omega
    have g := lsg_ofM a len cap zs.length (fun i => .int .u8 (zs.getD i 0)) (by omega) hl hcl
    have el : ((List.range len).map fun i => UInt8.ofNat (zs.getD i 0).toNat).length = len := by simp
    have eb : bytC ((List.range len).map fun i => UInt8.ofNat (zs.getD i 0).toNat) = (List.range len).map fun i => .int .u8 (zs.getD i 0) := by
      unfold bytC
      rw [List.map_map]
      refine List.map_congr_left fun i hi => ?_
      have hi' : i < len := by simpa using hi
      have := hw i (by omega)
      show Value.int .u8 ((UInt8.ofNat (zs.getD i 0).toNat).toNat : Int) = _
      congr 1
      rw [UInt8.toNat_ofNat']
      omega
    refine ⟨(List.range len).map fun i => UInt8.ofNat (zs.getD i 0).toNat, some a, cap, by rw [el], by rw [el, eb]; exact g, ?_⟩
    rw [el]
    simp only [maxLen] at hm
    omega
/-- An argument that is a slice of bytes. -/
theorem open_bytesM {H : Type} {enc : TypeId × Value → H} {W : World} {a0 : Option Addr} {len cap : Nat} {d : DataW H} {ps : List MemPlace}
    (h : DataW.Trod enc Tryd.prog W 0 (fun _ => true) true 28 (.slice a0 len cap) d ps) : ∃ l : S8, LsG (fun _ => True) W a0 len cap 1 (bytC l) ∧ l.length = len ∧ len < 9223372036854775808 := by
  obtain ⟨fuel, hfu⟩ := h
  obtain ⟨l, q, c, hv, h1, h2⟩ := open_bM (v := .slice a0 len cap) hfu
  injection hv with e1 e2 e3
  subst e1 e2 e3
  exact ⟨l, h1, rfl, h2⟩
end Go.Proofs.YtjglgohchhdkkaaDoor
