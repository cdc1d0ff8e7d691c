/- Arguments that are slices of items, in the walks' words. -/
import Derived.Test.YtgmogbgkokofoaaLift
import Derived.Test.YtgmogbgkokofoaaIts6
import Derived.Deep.Slices
set_option linter.unusedSimpArgs false
set_option linter.unusedVariables false
namespace Go.Proofs.Ytgmogbgkokofoaa
open Go Go.ChangeShapes Go.WideShapes Go.ChangeAt Go.RowKit

theorem undItem : ∃ fs : Array Field, Try.prog.underlying 29 = some (.struct fs) ∧ fs.size = 3 ∧ (fs[0]?).map (fun f => (f.offset, f.type)) = some (0, 3) ∧ (fs[1]?).map (fun f => (f.offset, f.type)) = some (1, 3) ∧ (fs[2]?).map (fun f => (f.offset, f.type)) = some (2, 23) := by
  have h : (match Try.prog.underlying 29 with
    | some (.struct fs) => some (fs.size, (fs[0]?).map (fun f => (f.offset, f.type)), (fs[1]?).map (fun f => (f.offset, f.type)), (fs[2]?).map (fun f => (f.offset, f.type)))
    | _ => none) = some (3, some (0, 3), some (1, 3), some (2, 23)) := by kernel_rfl
  split at h
  · rename_i fs e
    simp only [Option.some.injEq, Prod.mk.injEq] at h
    exact ⟨fs, e, h.1, h.2.1, h.2.2.1, h.2.2.2⟩
  · cases h
theorem cellsItem : Try.prog.cellsOf 29 = 3 := by kernel_rfl
theorem undInt6 : Try.prog.underlying 3 = some (.int .i64) := by kernel_rfl
theorem cellsInt6 : Try.prog.cellsOf 3 = 1 := by kernel_rfl
theorem cellsBytes6 : Try.prog.cellsOf 23 = 1 := by kernel_rfl
theorem field_of {fs : Array Field} {i off : Nat} {t : TypeId} (h : (fs[i]?).map (fun f => (f.offset, f.type)) = some (off, t)) : ∃ f, fs[i]? = some f ∧ f.offset = off ∧ f.type = t := by
  cases e : fs[i]? with
  | none => rw [e] at h; cases h
  | some f => rw [e] at h; simp at h; exact ⟨f, rfl, h.1, h.2⟩
/-- An argument that is a slice of items. -/
theorem open_items {H : Type} {enc : TypeId × Value → H} {W : World} {a0 : Option Addr} {len cap : Nat} {d : DataW H} {ps : List MemPlace}
    (h : DataW.Trod enc Try.prog W 0 (fun _ => true) true 22 (.slice a0 len cap) d ps) : ∃ xs : List Rw, Its W a0 xs ∧ xs.length = len ∧ ∀ x ∈ xs, x.n < 9223372036854775808 := by
  obtain ⟨fuel, hfu⟩ := h
  rcases Go.Deep.open_slice undI hfu with ⟨hcs, _⟩ | ⟨a, len', cap', m, n, D, Pl, hcs, _, hl, hmx, hm, _, hx⟩
  · simp [Value.cells] at hcs
    obtain ⟨rfl, rfl, rfl⟩ := hcs
    exact ⟨[], Its.nil _ _, rfl, fun x hx => by cases hx⟩
  · simp [Value.cells] at hcs
    obtain ⟨rfl, rfl, rfl⟩ := hcs
    simp only [if_true] at hm
    have each : ∀ i, i < len → ∃ y : Rw × Option Addr × Nat, W.cell? (a.add (i * 3)) = some (.int .i64 y.1.k) ∧ W.cell? (a.add (i * 3 + 1)) = some (.int .i64 y.1.n) ∧ W.cell? (a.add (i * 3 + 2)) = some (.slice y.2.1 y.1.b.length y.2.2) ∧ Bt W y.1 y.2.1 y.2.2 ∧ y.1.n < 9223372036854775808 := by
      intro i hi
      obtain ⟨cs', h1, h2⟩ := hx i (by omega)
      rw [cellsItem] at h1
      obtain ⟨_, hlen, hcell⟩ := World.cells?_some h1
      obtain ⟨fs, undF, hfs, itemF0, itemF1, itemF2⟩ := undItem
      obtain ⟨xs, k, hk, hxy, _, hxl, hf⟩ := DataW.trod_struct undF h2
      obtain ⟨f0, g0, o0, t0⟩ := field_of itemF0
      obtain ⟨f1, g1, o1, t1⟩ := field_of itemF1
      obtain ⟨f2, g2, o2, t2⟩ := field_of itemF2
      have e0 := hf 0 f0 g0
      have e1 := hf 1 f1 g1
      have e2 := hf 2 f2 g2
      rw [o0, t0, cellsInt6] at e0
      rw [o1, t1, cellsInt6] at e1
      rw [o2, t2, cellsBytes6] at e2
      have hx3 : xs.length = 3 := by rw [hxl, hfs]
      match xs, hx3, cs', hlen with
      | [y0, y1, y2], _, [v0, v1, v2], _ =>
        have c0 := hcell 0 (by omega)
        have c1 := hcell 1 (by omega)
        have c2 := hcell 2 (by omega)
        rw [Go.Deep.add_add] at c0 c1 c2
        simp at e0 e1 e2 c0 c1 c2
        obtain ⟨k0, hv0, -, -⟩ := DataW.trod_int undInt6 e0
        obtain ⟨n0, hv1, -, hw⟩ := DataW.trod_int undInt6 e1
        injection hv0 with hv0
        injection hv1 with hv1
        subst hv0 hv1
        have hb := bounds_i64 hw
        rcases open_ints undBytes undByte cellsByte e2 with ⟨hcs, _⟩ | ⟨a', len', cap', zs, hcs, _, hl', hm', hz, _, hcl, hwz⟩
        · injection hcs with hcs
          subst hcs
          exact ⟨(⟨k0, n0, []⟩, none, 0), c0, c1, c2, ⟨Sl.nil _ _, fun _ => rfl, Nat.le_refl _⟩, (show n0 < 9223372036854775808 by omega)⟩
        · injection hcs with hcs
          subst hcs
          simp only [if_true] at hz
          have el : (bytesOf (zs.take len')).length = len' := by rw [bytesOf_length, List.length_take]; omega
          exact ⟨(⟨k0, n0, bytesOf (zs.take len')⟩, some a', cap'), c0, c1, by rw [el]; exact c2, ⟨Sl_of_ints (by omega) hcl hwz, (fun e => by cases e), by rw [el]; exact hl'⟩, (show n0 < 9223372036854775808 by omega)⟩
    haveI : Inhabited (Rw × Option Addr × Nat) := ⟨(rw0, none, 0)⟩
    obtain ⟨y, hy⟩ := Go.Deep.choose_lt each
    refine ⟨(List.range len).map fun i => (y i).1, fun i hi => ?_, by simp, fun x hx => ?_⟩
    · have hi' : i < len := by simpa using hi
      obtain ⟨c0, c1, c2, hb, -⟩ := hy i hi'
      have hg : ((List.range len).map fun i => (y i).1).getD i rw0 = (y i).1 := by simp [List.getD_eq_getElem?_getD, hi']
      rw [hg]
      have hs : a.spot = none := by
        have h0 := (hy 0 (by omega)).1
        rw [Nat.zero_mul, Addr.add_zero'] at h0
        cases h : a.spot with
        | none => rfl
        | some s =>
          unfold World.cell? at h0
          split at h0
          · simp [h] at h0
          · cases h0
      obtain ⟨c, o, sp⟩ := a
      obtain rfl : sp = none := hs
      rw [Addr.add_mid] at c0 c1 c2
      exact ⟨c, o, rfl, World.block_lt_of_cell? W _ c0, (y i).2.1, (y i).2.2, c0, c1, c2, hb⟩
    · obtain ⟨i, hi, rfl⟩ := List.mem_map.1 hx
      exact (hy i (by simpa using hi)).2.2.2.2
/-- An argument that is a slice of bytes, its room too. -/
theorem open_bytes6 {H : Type} {enc : TypeId × Value → H} {W : World} {a0 : Option Addr} {len cap : Nat} {d : DataW H} {ps : List MemPlace}
    (h : DataW.Trod enc Try.prog W 0 (fun _ => true) true 23 (.slice a0 len cap) d ps) : ∃ l : List (BitVec 8), Sl W a0 l ∧ l.length = len ∧ (a0 = none → cap = 0) ∧ len ≤ cap := by
  obtain ⟨l, h1, h2, h3⟩ := open_bytes h
  refine ⟨l, h1, h2, h3, ?_⟩
  obtain ⟨fuel, hfu⟩ := h
  rcases open_ints undBytes undByte cellsByte hfu with ⟨hcs, _⟩ | ⟨a, len', cap', zs, hcs, _, hl, _⟩
  · simp [Value.cells] at hcs
    omega
  · simp [Value.cells] at hcs
    omega
end Go.Proofs.Ytgmogbgkokofoaa
