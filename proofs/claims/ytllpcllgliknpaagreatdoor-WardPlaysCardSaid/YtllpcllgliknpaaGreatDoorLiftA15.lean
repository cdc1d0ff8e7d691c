/- Arguments that are slices of darnerlaw15's acts. -/
import Derived.Test.YtllpcllgliknpaaGreatDoorLiftS7
import Derived.Test.YtllpcllgliknpaaGreatDoorAct15
import Derived.Deep.Slices
import Derived.Deep.Grids
set_option linter.unusedSimpArgs false
set_option maxRecDepth 100000
set_option linter.unusedVariables false
namespace Go.Proofs.YtllpcllgliknpaaGreatDoor
open Go Go.ChangeShapes Go.WideShapes Go.ChangeAt Go.RowKit

theorem undAct15 : ∃ fs : Array Field, Tryz.prog.underlying 28 = some (.struct fs) ∧ fs.size = 5 ∧ (fs[0]?).map (fun f => (f.offset, f.type)) = some (0, 5) ∧ (fs[1]?).map (fun f => (f.offset, f.type)) = some (1, 9) ∧ (fs[2]?).map (fun f => (f.offset, f.type)) = some (2, 9) ∧ (fs[3]?).map (fun f => (f.offset, f.type)) = some (3, 3) ∧ (fs[4]?).map (fun f => (f.offset, f.type)) = some (4, 3) := by
  have h : (match Tryz.prog.underlying 28 with
    | some (.struct fs) => some (fs.size, (fs[0]?).map (fun f => (f.offset, f.type)), (fs[1]?).map (fun f => (f.offset, f.type)), (fs[2]?).map (fun f => (f.offset, f.type)), (fs[3]?).map (fun f => (f.offset, f.type)), (fs[4]?).map (fun f => (f.offset, f.type)))
    | _ => none) = some (5, some (0, 5), some (1, 9), some (2, 9), some (3, 3), some (4, 3)) := by kernel_rfl
  split at h
  · rename_i fs e
    simp only [Option.some.injEq, Prod.mk.injEq] at h
    exact ⟨fs, e, h.1, h.2.1, h.2.2.1, h.2.2.2.1, h.2.2.2.2.1, h.2.2.2.2.2⟩
  · cases h
theorem cellsAct15 : Tryz.prog.cellsOf 28 = 5 := by kernel_rfl
theorem undActs15 : Tryz.prog.underlying 22 = some (.slice 28) := by kernel_rfl
theorem undCi15 : Tryz.prog.underlying 3 = some (.int .i64) := by kernel_rfl
theorem undCs15 : Tryz.prog.underlying 9 = some .string := by kernel_rfl
theorem undCu15 : Tryz.prog.underlying 5 = some (.int .u8) := by kernel_rfl
theorem cellsCi15 : Tryz.prog.cellsOf 3 = 1 := by kernel_rfl
theorem cellsCs15 : Tryz.prog.cellsOf 9 = 1 := by kernel_rfl
theorem cellsCu15 : Tryz.prog.cellsOf 5 = 1 := by kernel_rfl
theorem field_of15 {fs : Array Field} {i off : Nat} {t : TypeId} (h : (fs[i]?).map (fun f => (f.offset, f.type)) = some (off, t)) : ∃ f, fs[i]? = some f ∧ f.offset = off ∧ f.type = t := by
  cases e : fs[i]? with
  | none => rw [e] at h; cases h
  | some f => rw [e] at h; simp at h; exact ⟨f, rfl, h.1, h.2⟩
theorem all_of15 {α : Type} {l : List α} (h : l.length = 5) : ∃ a0 a1 a2 a3 a4, l = [a0, a1, a2, a3, a4] := by
  obtain ⟨a0, l, rfl⟩ := List.exists_cons_of_length_eq_add_one (n := 4) (by simpa using h)
  obtain ⟨a1, l, rfl⟩ := List.exists_cons_of_length_eq_add_one (n := 3) (by simpa using h)
  obtain ⟨a2, l, rfl⟩ := List.exists_cons_of_length_eq_add_one (n := 2) (by simpa using h)
  obtain ⟨a3, l, rfl⟩ := List.exists_cons_of_length_eq_add_one (n := 1) (by simpa using h)
  obtain ⟨a4, l, rfl⟩ := List.exists_cons_of_length_eq_add_one (n := 0) (by simpa using h)
  obtain rfl : l = [] := List.eq_nil_of_length_eq_zero (by simpa using h)
  exact ⟨a0, a1, a2, a3, a4, rfl⟩
def ac015 : A15 := ⟨0, [], [], 0, 0⟩
/-- What one act reads as. -/
def ActOk15 (y : A15) : Prop := y.kind < 256 ∧ y.path.length < 9223372036854775808 ∧ y.to_.length < 9223372036854775808 ∧ (-9223372036854775808 ≤ y.a ∧ y.a < 9223372036854775808) ∧ (-9223372036854775808 ≤ y.b ∧ y.b < 9223372036854775808)
theorem str15 {s : ByteArray} (h : s.size ≤ maxLen) : Value.string s = .string (mkS s.data.toList) ∧ s.data.toList.length < 9223372036854775808 := by
  refine ⟨by rw [mkS_of], ?_⟩
  have : s.data.toList.length = s.size := by rw [Array.length_toList]; rfl
  rw [this]
  simp only [maxLen] at h
  omega
/-- An argument that is a slice of acts. -/
theorem open_acts15 {H : Type} {enc : TypeId × Value → H} {W : World} {a0 : Option Addr} {len cap : Nat} {d : DataW H} {ps : List MemPlace}
    (h : DataW.Trod enc Tryz.prog W 0 (fun _ => true) true 22 (.slice a0 len cap) d ps) : ∃ xs : List A15, Acs15 W a0 len cap xs ∧ len < 9223372036854775808 ∧ ∀ x ∈ xs, ActOk15 x := by
  obtain ⟨fuel, hfu⟩ := h
  rcases Go.Deep.open_slice undActs15 hfu with ⟨hcs, _⟩ | ⟨a, len', cap', m, n, D, Pl, hcs, _, hl, hmx, hm, _, hx⟩
  · simp [Value.cells] at hcs
    obtain ⟨rfl, rfl, rfl⟩ := hcs
    exact ⟨[], ⟨LsC.nil _ _, rfl⟩, by omega, (fun x hx => by cases hx)⟩
  · simp [Value.cells] at hcs
    obtain ⟨rfl, rfl, rfl⟩ := hcs
    simp only [if_true] at hm
    have each : ∀ i, i < len → ∃ y : A15, (∀ j, j < 5 → W.cell? (a.add (i * 5 + j)) = (encA15 y)[j]?) ∧ ActOk15 y := by
      intro i hi
      obtain ⟨cs', h1, h2⟩ := hx i (by omega)
      rw [cellsAct15] at h1
      obtain ⟨_, hlen, hcell⟩ := World.cells?_some h1
      obtain ⟨fs, undF, hfs, F0, F1, F2, F3, F4⟩ := undAct15
      obtain ⟨xs, q, hk, hxy, _, hxl, hf⟩ := DataW.trod_struct undF h2
      obtain ⟨f0, g0, o0, t0⟩ := field_of15 F0
      have e0 := hf 0 f0 g0
      rw [o0, t0, cellsCu15] at e0
      obtain ⟨f1, g1, o1, t1⟩ := field_of15 F1
      have e1 := hf 1 f1 g1
      rw [o1, t1, cellsCs15] at e1
      obtain ⟨f2, g2, o2, t2⟩ := field_of15 F2
      have e2 := hf 2 f2 g2
      rw [o2, t2, cellsCs15] at e2
      obtain ⟨f3, g3, o3, t3⟩ := field_of15 F3
      have e3 := hf 3 f3 g3
      rw [o3, t3, cellsCi15] at e3
      obtain ⟨f4, g4, o4, t4⟩ := field_of15 F4
      have e4 := hf 4 f4 g4
      rw [o4, t4, cellsCi15] at e4
      have hxk : xs.length = 5 := by rw [hxl, hfs]
      obtain ⟨y0, y1, y2, y3, y4, rfl⟩ := all_of15 hxk
      obtain ⟨v0, v1, v2, v3, v4, rfl⟩ := all_of15 hlen
      have c0 := hcell 0 (by omega)
      have c1 := hcell 1 (by omega)
      have c2 := hcell 2 (by omega)
      have c3 := hcell 3 (by omega)
      have c4 := hcell 4 (by omega)
      rw [Go.Deep.add_add] at c0 c1 c2 c3 c4
      simp at e0 e1 e2 e3 e4 c0 c1 c2 c3 c4
      obtain ⟨n0, hv0, -, hw0⟩ := DataW.trod_int undCu15 e0
      obtain ⟨s1, hv1, -, hw1⟩ := DataW.trod_string undCs15 e1
      obtain ⟨s2, hv2, -, hw2⟩ := DataW.trod_string undCs15 e2
      obtain ⟨n3, hv3, -, hw3⟩ := DataW.trod_int undCi15 e3
      obtain ⟨n4, hv4, -, hw4⟩ := DataW.trod_int undCi15 e4
      injection hv0 with hv0
      injection hv1 with hv1
      injection hv2 with hv2
      injection hv3 with hv3
      injection hv4 with hv4
      have b0 := bounds_u8 hw0
      obtain ⟨kk0, rfl⟩ := Int.eq_ofNat_of_zero_le (show 0 ≤ n0 by omega)
      have b3 := bounds_i64 hw3
      have b4 := bounds_i64 hw4
      refine ⟨⟨kk0, s1.data.toList, s2.data.toList, n3, n4⟩, ?_, (show kk0 < 256 by omega), (str15 hw1).2, (str15 hw2).2, (show -9223372036854775808 ≤ n3 ∧ n3 < 9223372036854775808 by omega), (show -9223372036854775808 ≤ n4 ∧ n4 < 9223372036854775808 by omega)⟩
      intro j hj
      match j, hj with
      | 0, _ => rw [show i * 5 + 0 = i * 5 from rfl, c0, hv0]; rfl
      | 1, _ => rw [c1, hv1, (str15 hw1).1]; rfl
      | 2, _ => rw [c2, hv2, (str15 hw2).1]; rfl
      | 3, _ => rw [c3, hv3]; rfl
      | 4, _ => rw [c4, hv4]; rfl
    haveI : Inhabited A15 := ⟨ac015⟩
    obtain ⟨y, hy⟩ := Go.Deep.choose_lt each
    refine ⟨(List.range len).map y, ⟨fun i hi => ?_, by simp⟩, by simp only [maxLen] at hmx; omega, fun x hx => ?_⟩
    · have el : (((List.range len).map y).flatMap encA15).length = len * 5 := by
        rw [flat_len15]
        simp
      rw [el] at hi
      have hi' : i / 5 < len := by omega
      have hj : i % 5 < 5 := Nat.mod_lt _ (by omega)
      have hc := (hy (i / 5) hi').1 (i % 5) hj
      have e6 : i / 5 * 5 + i % 5 = i := by omega
      have hg := flat_get15 ((List.range len).map y) (i / 5) (i % 5) (by simpa using hi') hj
      rw [e6] at hc hg
      have ey : ((List.range len).map y)[i / 5]'(by simpa using hi') = y (i / 5) := by simp
      rw [ey] at hg
      have hs : a.spot = none := by
        have h0 := (hy 0 (by omega)).1 0 (by omega)
        rw [show 0 * 5 + 0 = 0 from rfl, Addr.add_zero'] at h0
        cases h : a.spot with
        | none => rfl
        | some s =>
          unfold World.cell? at h0
          split at h0
          · simp [h, encA15] at h0
          · cases h0
      obtain ⟨c, o, sp⟩ := a
      obtain rfl : sp = none := hs
      refine ⟨c, o, rfl, ?_⟩
      rw [Addr.add_mid] at hc
      rw [hc, ← hg]
    · obtain ⟨i, hi, rfl⟩ := List.mem_map.1 hx
      exact (hy i (by simpa using hi)).2
end Go.Proofs.YtllpcllgliknpaaGreatDoor
