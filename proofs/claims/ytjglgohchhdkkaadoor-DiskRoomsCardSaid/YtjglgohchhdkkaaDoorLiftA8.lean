/- Arguments that are slices of acts, in the walks' words. -/
import Derived.Test.YtjglgohchhdkkaaDoorLiftS8
import Derived.Test.YtjglgohchhdkkaaDoorAct8
import Derived.Deep.Slices
import Derived.Deep.Grids
set_option linter.unusedSimpArgs false
set_option linter.unusedVariables false
namespace Go.Proofs.YtjglgohchhdkkaaDoor
open Go Go.ChangeShapes Go.WideShapes Go.ChangeAt Go.RowKit

theorem undAct : ∃ fs : Array Field, Tryd.prog.underlying 31 = some (.struct fs) ∧ fs.size = 6 ∧ (fs[0]?).map (fun f => (f.offset, f.type)) = some (0, 5) ∧ (fs[1]?).map (fun f => (f.offset, f.type)) = some (1, 9) ∧ (fs[2]?).map (fun f => (f.offset, f.type)) = some (2, 9) ∧ (fs[3]?).map (fun f => (f.offset, f.type)) = some (3, 28) ∧ (fs[4]?).map (fun f => (f.offset, f.type)) = some (4, 3) ∧ (fs[5]?).map (fun f => (f.offset, f.type)) = some (5, 29) := by
  have h : (match Tryd.prog.underlying 31 with
    | some (.struct fs) => some (fs.size, (fs[0]?).map (fun f => (f.offset, f.type)), (fs[1]?).map (fun f => (f.offset, f.type)), (fs[2]?).map (fun f => (f.offset, f.type)), (fs[3]?).map (fun f => (f.offset, f.type)), (fs[4]?).map (fun f => (f.offset, f.type)), (fs[5]?).map (fun f => (f.offset, f.type)))
    | _ => none) = some (6, some (0, 5), some (1, 9), some (2, 9), some (3, 28), some (4, 3), some (5, 29)) := by kernel_rfl
  split at h
  · rename_i fs e
    simp only [Option.some.injEq, Prod.mk.injEq] at h
    exact ⟨fs, e, h.1, h.2.1, h.2.2.1, h.2.2.2.1, h.2.2.2.2.1, h.2.2.2.2.2.1, h.2.2.2.2.2.2⟩
  · cases h
theorem cellsAct : Tryd.prog.cellsOf 31 = 6 := by kernel_rfl
theorem undActs : Tryd.prog.underlying 23 = some (.slice 31) := by kernel_rfl
theorem undInt8 : Tryd.prog.underlying 3 = some (.int .i64) := by kernel_rfl
theorem cellsInt8 : Tryd.prog.cellsOf 3 = 1 := by kernel_rfl
theorem cellsB8 : Tryd.prog.cellsOf 28 = 1 := by kernel_rfl
theorem cellsS8 : Tryd.prog.cellsOf 9 = 1 := by kernel_rfl
theorem cellsK8 : Tryd.prog.cellsOf 29 = 1 := by kernel_rfl
theorem undK8 : Tryd.prog.underlying 29 = some (.slice 4) := by kernel_rfl
theorem undBool8 : Tryd.prog.underlying 4 = some .bool := by kernel_rfl
theorem cellsBool8 : Tryd.prog.cellsOf 4 = 1 := by kernel_rfl
theorem field_of8 {fs : Array Field} {i off : Nat} {t : TypeId} (h : (fs[i]?).map (fun f => (f.offset, f.type)) = some (off, t)) : ∃ f, fs[i]? = some f ∧ f.offset = off ∧ f.type = t := by
  cases e : fs[i]? with
  | none => rw [e] at h; cases h
  | some f => rw [e] at h; simp at h; exact ⟨f, rfl, h.1, h.2⟩
/-- Cells that lie from an address on. -/
theorem lsg_of {W : World} (a : Addr) (n cap N : Nat) (f : Nat → Value) (hn : n ≤ N) (hc : n ≤ cap) (h : ∀ i, i < N → W.cell? (a.add i) = some (f i)) : LsG (fun _ => True) W (some a) n cap 1 ((List.range n).map f) := by
  have key : 0 < n → a.spot = none ∧ a.block < W.heap.size := fun h0 => by
    have h1 := h 0 (by omega)
    rw [Addr.add_zero'] at h1
    refine ⟨?_, ?_⟩
    · cases e : a.spot with
      | none => rfl
      | some s =>
        unfold World.cell? at h1
        split at h1
        · simp [e] at h1
        · cases h1
    · exact World.block_lt_of_cell? W _ h1
  obtain ⟨c, o, sp⟩ := a
  refine ⟨fun j hj => ?_, by simp, fun c2 o2 e hl => ?_, (fun e => by cases e), hc⟩
  · have hj' : j < n := by simpa using hj
    obtain ⟨hs, _⟩ := key (by omega)
    obtain rfl : sp = none := hs
    refine ⟨c, o, rfl, ?_⟩
    have h1 := h j (by omega)
    rw [Addr.add_mid] at h1
    rw [h1]
    simp [hj']
  · injection e with e
    injection e with e1 e2 e3
    have hl' : 0 < n := by simpa using hl
    exact ⟨trivial, by rw [← e1]; exact (key hl').2⟩
theorem lsg_nil (W : World) : LsG (fun _ => True) W none 0 0 1 [] := ⟨LsC.nil _ _, by simp, (fun c o e _ => by cases e), fun _ => rfl, Nat.le_refl _⟩
theorem open_b8 {H : Type} {enc : TypeId × Value → H} {W : World} {n : Nat} {v : Value} {x : DataW H × List MemPlace}
    (h : DataW.trod enc Tryd.prog W 0 (fun _ => true) true n 28 [v] = some x) : ∃ (l : S8) (q : Option Addr) (c : Nat), v = .slice q l.length c ∧ LsG (fun _ => True) W q l.length c 1 (bytC l) ∧ l.length < 9223372036854775808 := by
  rcases open_ints undBytes undByte cellsByte h with ⟨hcs, _⟩ | ⟨a, len, cap, zs, hcs, _, hl, hm, hz, _, hcl, hwz⟩
  · injection hcs with hcs
    subst hcs
    exact ⟨[], none, 0, rfl, lsg_nil W, by simp⟩
  · injection hcs with hcs
    subst hcs
    simp only [if_true] at hz
    have hw : ∀ i, i < zs.length → 0 ≤ zs.getD i 0 ∧ zs.getD i 0 < 256 := fun i hi => by
      have hm : zs.getD i 0 ∈ zs := by rw [List.getD_eq_getElem?_getD, List.getElem?_eq_getElem hi]; exact List.getElem_mem hi
      have := bounds_u8 (hwz _ hm)
      omega
    have g := lsg_of a len cap zs.length (fun i => .int .u8 (zs.getD i 0)) (by omega) hl hcl
    have el : ((List.range len).map fun i => UInt8.ofNat (zs.getD i 0).toNat).length = len := by simp
    have eb : bytC ((List.range len).map fun i => UInt8.ofNat (zs.getD i 0).toNat) = (List.range len).map fun i => .int .u8 (zs.getD i 0) := by
      unfold bytC
      rw [List.map_map]
      refine List.map_congr_left fun i hi => ?_
      have hi' : i < len := by simpa using hi
      have := hw i (by omega)
      show Value.int .u8 ((UInt8.ofNat (zs.getD i 0).toNat).toNat : Int) = _
      congr 1
      rw [UInt8.toNat_ofNat']
      omega
    refine ⟨(List.range len).map fun i => UInt8.ofNat (zs.getD i 0).toNat, some a, cap, by rw [el], by rw [el, eb]; exact g, ?_⟩
    rw [el]
    simp only [maxLen] at hm
    omega
theorem open_k8 {H : Type} {enc : TypeId × Value → H} {W : World} {n : Nat} {v : Value} {x : DataW H × List MemPlace}
    (h : DataW.trod enc Tryd.prog W 0 (fun _ => true) true n 29 [v] = some x) : ∃ (l : List Bool) (q : Option Addr) (c : Nat), v = .slice q l.length c ∧ LsG (fun _ => True) W q l.length c 1 (l.map Value.bool) ∧ l.length < 9223372036854775808 := by
  rcases Go.Deep.open_bools undK8 undBool8 cellsBool8 h with ⟨hcs, _⟩ | ⟨a, len, cap, B, hcs, _, hl, hm, _, hcl⟩
  · injection hcs with hcs
    subst hcs
    exact ⟨[], none, 0, rfl, lsg_nil W, by simp⟩
  · injection hcs with hcs
    subst hcs
    have g := lsg_of a len cap cap (fun i => .bool (B i)) hl hl hcl
    have el : ((List.range len).map fun i => B i).length = len := by simp
    have eb : ((List.range len).map fun i => B i).map Value.bool = (List.range len).map fun i => .bool (B i) := by
      rw [List.map_map]; rfl
    refine ⟨(List.range len).map fun i => B i, some a, cap, by rw [el], by rw [el, eb]; exact g, ?_⟩
    rw [el]
    simp only [maxLen] at hm
    omega
theorem undStr8 : Tryd.prog.underlying 9 = some .string := by kernel_rfl
theorem undU8 : Tryd.prog.underlying 5 = some (.int .u8) := by kernel_rfl
theorem cellsU8 : Tryd.prog.cellsOf 5 = 1 := by kernel_rfl
theorem six_of {α : Type} {l : List α} (h : l.length = 6) : ∃ a b c d e f, l = [a, b, c, d, e, f] := by
  obtain ⟨a, l, rfl⟩ := List.exists_cons_of_length_eq_add_one h
  obtain ⟨b, l, rfl⟩ := List.exists_cons_of_length_eq_add_one (n := 4) (by simpa using h)
  obtain ⟨c, l, rfl⟩ := List.exists_cons_of_length_eq_add_one (n := 3) (by simpa using h)
  obtain ⟨d, l, rfl⟩ := List.exists_cons_of_length_eq_add_one (n := 2) (by simpa using h)
  obtain ⟨e, l, rfl⟩ := List.exists_cons_of_length_eq_add_one (n := 1) (by simpa using h)
  obtain ⟨f, l, rfl⟩ := List.exists_cons_of_length_eq_add_one (n := 0) (by simpa using h)
  obtain rfl : l = [] := List.eq_nil_of_length_eq_zero (by simpa using h)
  exact ⟨a, b, c, d, e, f, rfl⟩
def ac0 : Ac × AcH := (⟨0, [], [], [], 0, []⟩, ⟨none, 0, none, 0⟩)
/-- What one act reads as. -/
def ActOk (W : World) (y : Ac × AcH) : Prop :=
  LsG (fun _ => True) W y.2.bq y.1.b.length y.2.bc 1 (bytC y.1.b) ∧ LsG (fun _ => True) W y.2.kp y.1.ks.length y.2.kc 1 (y.1.ks.map Value.bool) ∧ (y.1.path.length < 9223372036854775808 ∧ y.1.to_.length < 9223372036854775808 ∧ y.1.b.length < 9223372036854775808 ∧ y.1.ks.length < 9223372036854775808) ∧ y.1.kind < 256
theorem str8 {s : ByteArray} (h : s.size ≤ maxLen) : Value.string s = .string (mkS s.data.toList) ∧ s.data.toList.length < 9223372036854775808 := by
  refine ⟨by rw [mkS_of], ?_⟩
  have : s.data.toList.length = s.size := by rw [Array.length_toList]; rfl
  rw [this]
  simp only [maxLen] at h
  omega
/-- An argument that is a slice of acts. -/
theorem open_acts {H : Type} {enc : TypeId × Value → H} {W : World} {a0 : Option Addr} {len cap : Nat} {d : DataW H} {ps : List MemPlace}
    (h : DataW.Trod enc Tryd.prog W 0 (fun _ => true) true 23 (.slice a0 len cap) d ps) : ∃ xs : List (Ac × AcH), AcsL W a0 len cap xs ∧ len < 9223372036854775808 ∧ (∀ x ∈ xs, x.1.path.length < 9223372036854775808 ∧ x.1.to_.length < 9223372036854775808 ∧ x.1.b.length < 9223372036854775808 ∧ x.1.ks.length < 9223372036854775808) ∧ ∀ x ∈ xs, x.1.kind < 256 := by
  obtain ⟨fuel, hfu⟩ := h
  rcases Go.Deep.open_slice undActs hfu with ⟨hcs, _⟩ | ⟨a, len', cap', m, n, D, Pl, hcs, _, hl, hmx, hm, _, hx⟩
  · simp [Value.cells] at hcs
    obtain ⟨rfl, rfl, rfl⟩ := hcs
    exact ⟨[], ⟨LsC.nil _ _, rfl, (fun x hx => by cases hx), (fun x hx => by cases hx)⟩, by omega, (fun x hx => by cases hx), (fun x hx => by cases hx)⟩
  · simp [Value.cells] at hcs
    obtain ⟨rfl, rfl, rfl⟩ := hcs
    simp only [if_true] at hm
    have each : ∀ i, i < len → ∃ y : Ac × AcH, (∀ j, j < 6 → W.cell? (a.add (i * 6 + j)) = (encA y)[j]?) ∧ ActOk W y := by
      intro i hi
      obtain ⟨cs', h1, h2⟩ := hx i (by omega)
      rw [cellsAct] at h1
      obtain ⟨_, hlen, hcell⟩ := World.cells?_some h1
      obtain ⟨fs, undF, hfs, F0, F1, F2, F3, F4, F5⟩ := undAct
      obtain ⟨xs, k, hk, hxy, _, hxl, hf⟩ := DataW.trod_struct undF h2
      obtain ⟨f0, g0, o0, t0⟩ := field_of8 F0
      obtain ⟨f1, g1, o1, t1⟩ := field_of8 F1
      obtain ⟨f2, g2, o2, t2⟩ := field_of8 F2
      obtain ⟨f3, g3, o3, t3⟩ := field_of8 F3
      obtain ⟨f4, g4, o4, t4⟩ := field_of8 F4
      obtain ⟨f5, g5, o5, t5⟩ := field_of8 F5
      have e0 := hf 0 f0 g0
      have e1 := hf 1 f1 g1
      have e2 := hf 2 f2 g2
      have e3 := hf 3 f3 g3
      have e4 := hf 4 f4 g4
      have e5 := hf 5 f5 g5
      rw [o0, t0, cellsU8] at e0
      rw [o1, t1, cellsS8] at e1
      rw [o2, t2, cellsS8] at e2
      rw [o3, t3, cellsB8] at e3
      rw [o4, t4, cellsInt8] at e4
      rw [o5, t5, cellsK8] at e5
      have hx6 : xs.length = 6 := by rw [hxl, hfs]
      obtain ⟨y0, y1, y2, y3, y4, y5, rfl⟩ := six_of hx6
      obtain ⟨v0, v1, v2, v3, v4, v5, rfl⟩ := six_of hlen
      have c0 := hcell 0 (by omega)
      have c1 := hcell 1 (by omega)
      have c2 := hcell 2 (by omega)
      have c3 := hcell 3 (by omega)
      have c4 := hcell 4 (by omega)
      have c5 := hcell 5 (by omega)
      rw [Go.Deep.add_add] at c0 c1 c2 c3 c4 c5
      simp at e0 e1 e2 e3 e4 e5 c0 c1 c2 c3 c4 c5
      obtain ⟨k0, hv0, -, hw0⟩ := DataW.trod_int undU8 e0
      obtain ⟨s1, hv1, -, hs1⟩ := DataW.trod_string undStr8 e1
      obtain ⟨s2, hv2, -, hs2⟩ := DataW.trod_string undStr8 e2
      obtain ⟨lb, qb, cb, hv3, gb, hb⟩ := open_b8 e3
      obtain ⟨n0, hv4, -, -⟩ := DataW.trod_int undInt8 e4
      obtain ⟨lk, qk, ck, hv5, gk, hk5⟩ := open_k8 e5
      injection hv0 with hv0
      injection hv1 with hv1
      injection hv2 with hv2
      injection hv4 with hv4
      have bk := bounds_u8 hw0
      obtain ⟨kk, rfl⟩ := Int.eq_ofNat_of_zero_le (show 0 ≤ k0 by omega)
      refine ⟨(⟨kk, s1.data.toList, s2.data.toList, lb, n0, lk⟩, ⟨qb, cb, qk, ck⟩), ?_, gb, gk, ⟨(str8 hs1).2, (str8 hs2).2, hb, hk5⟩, ?_⟩
      · intro j hj
        match j, hj with
        | 0, _ => rw [show i * 6 + 0 = i * 6 from rfl, c0, hv0]; rfl
        | 1, _ => rw [c1, hv1, (str8 hs1).1]; rfl
        | 2, _ => rw [c2, hv2, (str8 hs2).1]; rfl
        | 3, _ => rw [c3, hv3]; rfl
        | 4, _ => rw [c4, hv4]; rfl
        | 5, _ => rw [c5, hv5]; rfl
      · show kk < 256
        omega
    haveI : Inhabited (Ac × AcH) := ⟨ac0⟩
    obtain ⟨y, hy⟩ := Go.Deep.choose_lt each
    refine ⟨(List.range len).map y, ⟨fun i hi => ?_, by simp, fun x hx => ?_, fun x hx => ?_⟩, by simp only [maxLen] at hmx; omega, fun x hx => ?_, fun x hx => ?_⟩
    · have el : (((List.range len).map y).flatMap encA).length = len * 6 := by
        rw [flat_len encA 6 encA_len]
        simp
      rw [el] at hi
      have hi' : i / 6 < len := by omega
      have hj : i % 6 < 6 := Nat.mod_lt _ (by omega)
      have hc := (hy (i / 6) hi').1 (i % 6) hj
      have e6 : i / 6 * 6 + i % 6 = i := by omega
      have hg := flat_get encA 6 encA_len ((List.range len).map y) (i / 6) (i % 6) (by simpa using hi') hj
      rw [e6] at hc hg
      have ey : ((List.range len).map y)[i / 6]'(by simpa using hi') = y (i / 6) := by simp
      rw [ey] at hg
      have hs : a.spot = none := by
        have h0 := (hy 0 (by omega)).1 0 (by omega)
        rw [show 0 * 6 + 0 = 0 from rfl, Addr.add_zero'] at h0
        cases h : a.spot with
        | none => rfl
        | some s =>
          unfold World.cell? at h0
          split at h0
          · simp [h, encA] at h0
          · cases h0
      obtain ⟨c, o, sp⟩ := a
      obtain rfl : sp = none := hs
      refine ⟨c, o, rfl, ?_⟩
      rw [Addr.add_mid] at hc
      rw [hc, ← hg]
    all_goals
      obtain ⟨i, hi, rfl⟩ := List.mem_map.1 hx
      have := (hy i (by simpa using hi)).2
    · exact this.1
    · exact this.2.1
    · exact this.2.2.1
    · exact this.2.2.2
end Go.Proofs.YtjglgohchhdkkaaDoor
