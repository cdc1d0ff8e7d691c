/- Merged texts: LiftA8, Law8P. -/
import Derived.Deep.Slices
import Derived.Deep.Grids
import Derived.Test.YtjglgohchhdkkaaGreatDoorK10
import Derived.Test.YtjglgohchhdkkaaGreatDoorK6
import Derived.Test.YtjglgohchhdkkaaGreatDoorK7
set_option linter.unusedSimpArgs false
set_option linter.unusedVariables false
/- Arguments that are slices of acts, in the walks' words. -/
namespace Go.Proofs.YtjglgohchhdkkaaGreatDoor
open Go Go.ChangeShapes Go.WideShapes Go.ChangeAt Go.RowKit

theorem undAct : ∃ fs : Array Field, Tryz.prog.underlying 35 = some (.struct fs) ∧ fs.size = 6 ∧ (fs[0]?).map (fun f => (f.offset, f.type)) = some (0, 5) ∧ (fs[1]?).map (fun f => (f.offset, f.type)) = some (1, 9) ∧ (fs[2]?).map (fun f => (f.offset, f.type)) = some (2, 9) ∧ (fs[3]?).map (fun f => (f.offset, f.type)) = some (3, 32) ∧ (fs[4]?).map (fun f => (f.offset, f.type)) = some (4, 3) ∧ (fs[5]?).map (fun f => (f.offset, f.type)) = some (5, 33) := by
  have h : (match Tryz.prog.underlying 35 with
    | some (.struct fs) => some (fs.size, (fs[0]?).map (fun f => (f.offset, f.type)), (fs[1]?).map (fun f => (f.offset, f.type)), (fs[2]?).map (fun f => (f.offset, f.type)), (fs[3]?).map (fun f => (f.offset, f.type)), (fs[4]?).map (fun f => (f.offset, f.type)), (fs[5]?).map (fun f => (f.offset, f.type)))
    | _ => none) = some (6, some (0, 5), some (1, 9), some (2, 9), some (3, 32), some (4, 3), some (5, 33)) := by kernel_rfl
  split at h
  · rename_i fs e
    simp only [Option.some.injEq, Prod.mk.injEq] at h
    exact ⟨fs, e, h.1, h.2.1, h.2.2.1, h.2.2.2.1, h.2.2.2.2.1, h.2.2.2.2.2.1, h.2.2.2.2.2.2⟩
  · cases h
theorem cellsAct : Tryz.prog.cellsOf 35 = 6 := by kernel_rfl
theorem undActs : Tryz.prog.underlying 22 = some (.slice 35) := by kernel_rfl
theorem undInt8 : Tryz.prog.underlying 3 = some (.int .i64) := by kernel_rfl
theorem cellsInt8 : Tryz.prog.cellsOf 3 = 1 := by kernel_rfl
theorem cellsB8 : Tryz.prog.cellsOf 32 = 1 := by kernel_rfl
theorem cellsS8 : Tryz.prog.cellsOf 9 = 1 := by kernel_rfl
theorem cellsK8 : Tryz.prog.cellsOf 33 = 1 := by kernel_rfl
theorem undK8 : Tryz.prog.underlying 33 = some (.slice 4) := by kernel_rfl
theorem undBool8 : Tryz.prog.underlying 4 = some .bool := by kernel_rfl
theorem cellsBool8 : Tryz.prog.cellsOf 4 = 1 := by kernel_rfl
theorem field_of8 {fs : Array Field} {i off : Nat} {t : TypeId} (h : (fs[i]?).map (fun f => (f.offset, f.type)) = some (off, t)) : ∃ f, fs[i]? = some f ∧ f.offset = off ∧ f.type = t := by
  cases e : fs[i]? with
  | none => rw [e] at h; cases h
  | some f => rw [e] at h; simp at h; exact ⟨f, rfl, h.1, h.2⟩
/-- Cells that lie from an address on. -/
theorem lsg_of {W : World} (a : Addr) (n cap N : Nat) (f : Nat → Value) (hn : n ≤ N) (hc : n ≤ cap) (h : ∀ i, i < N → W.cell? (a.add i) = some (f i)) : LsG (fun _ => True) W (some a) n cap 1 ((List.range n).map f) := by
  have key : 0 < n → a.spot = none ∧ a.block < W.heap.size := fun h0 => by
    have h1 := h 0 (by omega)
    rw [Addr.add_zero'] at h1
    refine ⟨?_, ?_⟩
    · cases e : a.spot with
      | none => rfl
      | some s =>
        unfold World.cell? at h1
        split at h1
        · simp [e] at h1
        · cases h1
    · exact World.block_lt_of_cell? W _ h1
  obtain ⟨c, o, sp⟩ := a
  refine ⟨fun j hj => ?_, by simp, fun c2 o2 e hl => ?_, (fun e => by cases e), hc⟩
  · have hj' : j < n := by simpa using hj
    obtain ⟨hs, _⟩ := key (by omega)
    obtain rfl : sp = none := hs
    refine ⟨c, o, rfl, ?_⟩
    have h1 := h j (by omega)
    rw [Addr.add_mid] at h1
    rw [h1]
    simp [hj']
  · injection e with e
    injection e with e1 e2 e3
    have hl' : 0 < n := by simpa using hl
    exact ⟨trivial, by rw [← e1]; exact (key hl').2⟩
theorem lsg_nil (W : World) : LsG (fun _ => True) W none 0 0 1 [] := ⟨LsC.nil _ _, by simp, (fun c o e _ => by cases e), fun _ => rfl, Nat.le_refl _⟩
theorem open_b8 {H : Type} {enc : TypeId × Value → H} {W : World} {n : Nat} {v : Value} {x : DataW H × List MemPlace}
    (h : DataW.trod enc Tryz.prog W 0 (fun _ => true) true n 32 [v] = some x) : ∃ (l : S8) (q : Option Addr) (c : Nat), v = .slice q l.length c ∧ LsG (fun _ => True) W q l.length c 1 (bytC l) ∧ l.length < 9223372036854775808 := by
  rcases open_ints undBytes undByte cellsByte h with ⟨hcs, _⟩ | ⟨a, len, cap, zs, hcs, _, hl, hm, hz, _, hcl, hwz⟩
  · injection hcs with hcs
    subst hcs
    exact ⟨[], none, 0, rfl, lsg_nil W, by simp⟩
  · injection hcs with hcs
    subst hcs
    simp only [if_true] at hz
    have hw : ∀ i, i < zs.length → 0 ≤ zs.getD i 0 ∧ zs.getD i 0 < 256 := fun i hi => by
      have hm : zs.getD i 0 ∈ zs := by rw [List.getD_eq_getElem?_getD, List.getElem?_eq_getElem hi]; exact List.getElem_mem hi
      have := bounds_u8 (hwz _ hm)
      omega
    have g := lsg_of a len cap zs.length (fun i => .int .u8 (zs.getD i 0)) (by omega) hl hcl
    have el : ((List.range len).map fun i => UInt8.ofNat (zs.getD i 0).toNat).length = len := by simp
    have eb : bytC ((List.range len).map fun i => UInt8.ofNat (zs.getD i 0).toNat) = (List.range len).map fun i => .int .u8 (zs.getD i 0) := by
      unfold bytC
      rw [List.map_map]
      refine List.map_congr_left fun i hi => ?_
      have hi' : i < len := by simpa using hi
      have := hw i (by omega)
      show Value.int .u8 ((UInt8.ofNat (zs.getD i 0).toNat).toNat : Int) = _
      congr 1
      rw [UInt8.toNat_ofNat']
      omega
    refine ⟨(List.range len).map fun i => UInt8.ofNat (zs.getD i 0).toNat, some a, cap, by rw [el], by rw [el, eb]; exact g, ?_⟩
    rw [el]
    simp only [maxLen] at hm
    omega
theorem open_k8 {H : Type} {enc : TypeId × Value → H} {W : World} {n : Nat} {v : Value} {x : DataW H × List MemPlace}
    (h : DataW.trod enc Tryz.prog W 0 (fun _ => true) true n 33 [v] = some x) : ∃ (l : List Bool) (q : Option Addr) (c : Nat), v = .slice q l.length c ∧ LsG (fun _ => True) W q l.length c 1 (l.map Value.bool) ∧ l.length < 9223372036854775808 := by
  rcases Go.Deep.open_bools undK8 undBool8 cellsBool8 h with ⟨hcs, _⟩ | ⟨a, len, cap, B, hcs, _, hl, hm, _, hcl⟩
  · injection hcs with hcs
    subst hcs
    exact ⟨[], none, 0, rfl, lsg_nil W, by simp⟩
  · injection hcs with hcs
    subst hcs
    have g := lsg_of a len cap cap (fun i => .bool (B i)) hl hl hcl
    have el : ((List.range len).map fun i => B i).length = len := by simp
    have eb : ((List.range len).map fun i => B i).map Value.bool = (List.range len).map fun i => .bool (B i) := by
      rw [List.map_map]; rfl
    refine ⟨(List.range len).map fun i => B i, some a, cap, by rw [el], by rw [el, eb]; exact g, ?_⟩
    rw [el]
    simp only [maxLen] at hm
    omega
theorem undStr8 : Tryz.prog.underlying 9 = some .string := by kernel_rfl
theorem undU8 : Tryz.prog.underlying 5 = some (.int .u8) := by kernel_rfl
theorem cellsU8 : Tryz.prog.cellsOf 5 = 1 := by kernel_rfl
theorem six_of {α : Type} {l : List α} (h : l.length = 6) : ∃ a b c d e f, l = [a, b, c, d, e, f] := by
  obtain ⟨a, l, rfl⟩ := List.exists_cons_of_length_eq_add_one h
  obtain ⟨b, l, rfl⟩ := List.exists_cons_of_length_eq_add_one (n := 4) (by simpa using h)
  obtain ⟨c, l, rfl⟩ := List.exists_cons_of_length_eq_add_one (n := 3) (by simpa using h)
  obtain ⟨d, l, rfl⟩ := List.exists_cons_of_length_eq_add_one (n := 2) (by simpa using h)
  obtain ⟨e, l, rfl⟩ := List.exists_cons_of_length_eq_add_one (n := 1) (by simpa using h)
  obtain ⟨f, l, rfl⟩ := List.exists_cons_of_length_eq_add_one (n := 0) (by simpa using h)
  obtain rfl : l = [] := List.eq_nil_of_length_eq_zero (by simpa using h)
  exact ⟨a, b, c, d, e, f, rfl⟩
def ac0 : Ac × AcH := (⟨0, [], [], [], 0, []⟩, ⟨none, 0, none, 0⟩)
/-- What one act reads as. -/
def ActOk (W : World) (y : Ac × AcH) : Prop :=
  LsG (fun _ => True) W y.2.bq y.1.b.length y.2.bc 1 (bytC y.1.b) ∧ LsG (fun _ => True) W y.2.kp y.1.ks.length y.2.kc 1 (y.1.ks.map Value.bool) ∧ (y.1.path.length < 9223372036854775808 ∧ y.1.to_.length < 9223372036854775808 ∧ y.1.b.length < 9223372036854775808 ∧ y.1.ks.length < 9223372036854775808) ∧ y.1.kind < 256
theorem str8 {s : ByteArray} (h : s.size ≤ maxLen) : Value.string s = .string (mkS s.data.toList) ∧ s.data.toList.length < 9223372036854775808 := by
  refine ⟨by rw [mkS_of], ?_⟩
  have : s.data.toList.length = s.size := by rw [Array.length_toList]; rfl
  rw [this]
  simp only [maxLen] at h
  omega
/-- An argument that is a slice of acts. -/
theorem open_acts {H : Type} {enc : TypeId × Value → H} {W : World} {a0 : Option Addr} {len cap : Nat} {d : DataW H} {ps : List MemPlace}
    (h : DataW.Trod enc Tryz.prog W 0 (fun _ => true) true 22 (.slice a0 len cap) d ps) : ∃ xs : List (Ac × AcH), AcsL W a0 len cap xs ∧ len < 9223372036854775808 ∧ (∀ x ∈ xs, x.1.path.length < 9223372036854775808 ∧ x.1.to_.length < 9223372036854775808 ∧ x.1.b.length < 9223372036854775808 ∧ x.1.ks.length < 9223372036854775808) ∧ ∀ x ∈ xs, x.1.kind < 256 := by
  obtain ⟨fuel, hfu⟩ := h
  rcases Go.Deep.open_slice undActs hfu with ⟨hcs, _⟩ | ⟨a, len', cap', m, n, D, Pl, hcs, _, hl, hmx, hm, _, hx⟩
  · simp [Value.cells] at hcs
    obtain ⟨rfl, rfl, rfl⟩ := hcs
    exact ⟨[], ⟨LsC.nil _ _, rfl, (fun x hx => by cases hx), (fun x hx => by cases hx)⟩, by omega, (fun x hx => by cases hx), (fun x hx => by cases hx)⟩
  · simp [Value.cells] at hcs
    obtain ⟨rfl, rfl, rfl⟩ := hcs
    simp only [if_true] at hm
    have each : ∀ i, i < len → ∃ y : Ac × AcH, (∀ j, j < 6 → W.cell? (a.add (i * 6 + j)) = (encA y)[j]?) ∧ ActOk W y := by
      intro i hi
      obtain ⟨cs', h1, h2⟩ := hx i (by omega)
      rw [cellsAct] at h1
      obtain ⟨_, hlen, hcell⟩ := World.cells?_some h1
      obtain ⟨fs, undF, hfs, F0, F1, F2, F3, F4, F5⟩ := undAct
      obtain ⟨xs, k, hk, hxy, _, hxl, hf⟩ := DataW.trod_struct undF h2
      obtain ⟨f0, g0, o0, t0⟩ := field_of8 F0
      obtain ⟨f1, g1, o1, t1⟩ := field_of8 F1
      obtain ⟨f2, g2, o2, t2⟩ := field_of8 F2
      obtain ⟨f3, g3, o3, t3⟩ := field_of8 F3
      obtain ⟨f4, g4, o4, t4⟩ := field_of8 F4
      obtain ⟨f5, g5, o5, t5⟩ := field_of8 F5
      have e0 := hf 0 f0 g0
      have e1 := hf 1 f1 g1
      have e2 := hf 2 f2 g2
      have e3 := hf 3 f3 g3
      have e4 := hf 4 f4 g4
      have e5 := hf 5 f5 g5
      rw [o0, t0, cellsU8] at e0
      rw [o1, t1, cellsS8] at e1
      rw [o2, t2, cellsS8] at e2
      rw [o3, t3, cellsB8] at e3
      rw [o4, t4, cellsInt8] at e4
      rw [o5, t5, cellsK8] at e5
      have hx6 : xs.length = 6 := by rw [hxl, hfs]
      obtain ⟨y0, y1, y2, y3, y4, y5, rfl⟩ := six_of hx6
      obtain ⟨v0, v1, v2, v3, v4, v5, rfl⟩ := six_of hlen
      have c0 := hcell 0 (by omega)
      have c1 := hcell 1 (by omega)
      have c2 := hcell 2 (by omega)
      have c3 := hcell 3 (by omega)
      have c4 := hcell 4 (by omega)
      have c5 := hcell 5 (by omega)
      rw [Go.Deep.add_add] at c0 c1 c2 c3 c4 c5
      simp at e0 e1 e2 e3 e4 e5 c0 c1 c2 c3 c4 c5
      obtain ⟨k0, hv0, -, hw0⟩ := DataW.trod_int undU8 e0
      obtain ⟨s1, hv1, -, hs1⟩ := DataW.trod_string undStr8 e1
      obtain ⟨s2, hv2, -, hs2⟩ := DataW.trod_string undStr8 e2
      obtain ⟨lb, qb, cb, hv3, gb, hb⟩ := open_b8 e3
      obtain ⟨n0, hv4, -, -⟩ := DataW.trod_int undInt8 e4
      obtain ⟨lk, qk, ck, hv5, gk, hk5⟩ := open_k8 e5
      injection hv0 with hv0
      injection hv1 with hv1
      injection hv2 with hv2
      injection hv4 with hv4
      have bk := bounds_u8 hw0
      obtain ⟨kk, rfl⟩ := Int.eq_ofNat_of_zero_le (show 0 ≤ k0 by omega)
      refine ⟨(⟨kk, s1.data.toList, s2.data.toList, lb, n0, lk⟩, ⟨qb, cb, qk, ck⟩), ?_, gb, gk, ⟨(str8 hs1).2, (str8 hs2).2, hb, hk5⟩, ?_⟩
      · intro j hj
        match j, hj with
        | 0, _ => rw [show i * 6 + 0 = i * 6 from rfl, c0, hv0]; rfl
        | 1, _ => rw [c1, hv1, (str8 hs1).1]; rfl
        | 2, _ => rw [c2, hv2, (str8 hs2).1]; rfl
        | 3, _ => rw [c3, hv3]; rfl
        | 4, _ => rw [c4, hv4]; rfl
        | 5, _ => rw [c5, hv5]; rfl
      · show kk < 256
        omega
    haveI : Inhabited (Ac × AcH) := ⟨ac0⟩
    obtain ⟨y, hy⟩ := Go.Deep.choose_lt each
    refine ⟨(List.range len).map y, ⟨fun i hi => ?_, by simp, fun x hx => ?_, fun x hx => ?_⟩, by simp only [maxLen] at hmx; omega, fun x hx => ?_, fun x hx => ?_⟩
    · have el : (((List.range len).map y).flatMap encA).length = len * 6 := by
        rw [flat_len encA 6 encA_len]
        simp
      rw [el] at hi
      have hi' : i / 6 < len := by omega
      have hj : i % 6 < 6 := Nat.mod_lt _ (by omega)
      have hc := (hy (i / 6) hi').1 (i % 6) hj
      have e6 : i / 6 * 6 + i % 6 = i := by omega
      have hg := flat_get encA 6 encA_len ((List.range len).map y) (i / 6) (i % 6) (by simpa using hi') hj
      rw [e6] at hc hg
      have ey : ((List.range len).map y)[i / 6]'(by simpa using hi') = y (i / 6) := by simp
      rw [ey] at hg
      have hs : a.spot = none := by
        have h0 := (hy 0 (by omega)).1 0 (by omega)
        rw [show 0 * 6 + 0 = 0 from rfl, Addr.add_zero'] at h0
        cases h : a.spot with
        | none => rfl
        | some s =>
          unfold World.cell? at h0
          split at h0
          · simp [h, encA] at h0
          · cases h0
      obtain ⟨c, o, sp⟩ := a
      obtain rfl : sp = none := hs
      refine ⟨c, o, rfl, ?_⟩
      rw [Addr.add_mid] at hc
      rw [hc, ← hg]
    all_goals
      obtain ⟨i, hi, rfl⟩ := List.mem_map.1 hx
      have := (hy i (by simpa using hi)).2
    · exact this.1
    · exact this.2.1
    · exact this.2.2.1
    · exact this.2.2.2
end Go.Proofs.YtjglgohchhdkkaaGreatDoor
/- DiskPlays: the statement's walk. -/
namespace Go.Proofs.YtjglgohchhdkkaaGreatDoor
open Go Go.RowKit

theorem shortL_facts {l : List (Ac × AcH)} (h : shortL l = true) : l.length ≤ 40 ∧ ∀ x ∈ l, x.1.path.length ≤ 200 ∧ x.1.to_.length ≤ 200 ∧ x.1.b.length ≤ 300000 ∧ x.1.ks.length ≤ 200 := by
  unfold shortL at h
  rw [Bool.and_eq_true, decide_eq_true_eq, List.all_eq_true] at h
  refine ⟨h.2, fun x hx => ?_⟩
  have := h.1 x hx
  unfold shortA at this
  simp only [Bool.not_eq_true', Bool.or_eq_false_iff, decide_eq_false_iff_not] at this
  omega
/-- The plain disk behind k acts. -/
def playL (m : Dk) (l : List (Ac × AcH)) (k : Nat) : Dk := (l.take k).foldl (fun m x => stepL m x.1) m
theorem playL_succ (m : Dk) (l : List (Ac × AcH)) (k : Nat) (hk : k < l.length) : playL m l (k + 1) = stepL (playL m l k) l[k].1 := by
  unfold playL
  rw [List.take_succ_eq_append_getElem hk, List.foldl_append]
  rfl
/-- What a walk over acts carries: the program's disk b, the reference's in box B. -/
structure PlI (N : Nat) (w : World) (S : Nat → Prop) (b B : Nat) (m : Dk) (h : Hd) : Prop where
  disk : Dsk w S b m
  ref : RfG (fun k => ¬ S k ∧ k ≠ B) w m h
  cell : ∀ j, w.cell? ⟨B, j, none⟩ = (lisD m h)[j]?
  free : ∀ j, w.frozen? ⟨B, j, none⟩ = false
  lt : B < w.heap.size
  nS : ¬ S B
  from_ : ∀ k, S k → N ≤ k
section
variable {N : Nat} {w w' : World} {S : Nat → Prop} {b B : Nat} {m : Dk} {h : Hd}
theorem PlI.next (H : PlI N w S b B m h) (hB : Below w.heap.size w w') : PlI N w' S b B m h :=
  ⟨H.disk.of_below hB, H.ref.of_below hB, fun j => (hB.cell (p := ⟨B, j, none⟩) H.lt).trans (H.cell j), fun j => (hB.frozen (p := ⟨B, j, none⟩) H.lt).trans (H.free j), Nat.lt_of_lt_of_le H.lt hB.size, H.nS, H.from_⟩
/-- The reference's disk stored into its box. -/
theorem PlI.step {WA w4 w5 : World} {m2 : Dk} {h2 : Hd} {S2 : Nat → Prop} (H : PlI N WA S b B m h) (hN : N ≤ B) (hd2 : Dsk w4 S2 b m2) (hr2 : RfG (fun k => ((¬ S k ∧ k ≠ B) ∨ WA.heap.size ≤ k) ∧ ¬ S2 k) w4 m2 h2) (hk2 : Kq8 S WA w4) (hg2 : GrewTo WA.heap.size S S2) (hB5 : Below w4.heap.size w4 w5) (v0 v1 v2 v3 v4 v5 : Value) (hv : [v0, v1, v2, v3, v4, v5] = lisD m2 h2) :
    PlI N (put6 w5 B v0 v1 v2 v3 v4 v5) S2 b B m2 h2 ∧ Below N WA (put6 w5 B v0 v1 v2 v3 v4 v5) := by
  have hlt := H.lt
  have hS2 : ∀ k, S2 k → k ≠ B := fun k hk e => by
    rcases hg2 k hk with x | x
    · rw [e] at x; exact H.nS x
    · omega
  have hz := put6_sz w5 B v0 v1 v2 v3 v4 v5
  have hs4 := hk2.size
  have hs5 := hB5.size
  have hc4 : ∀ j, w4.cell? ⟨B, j, none⟩ = (lisD m h)[j]? := fun j => (World.cell?_of_block (w := WA) (w' := w4) (a := ⟨B, j, none⟩) (hk2.block B hlt H.nS)).trans (H.cell j)
  have hf4 : ∀ j, w4.frozen? ⟨B, j, none⟩ = false := fun j => (World.frozen?_of_block (w := WA) (w' := w4) (a := ⟨B, j, none⟩) (hk2.block B hlt H.nS)).trans (H.free j)
  have hB4 : B < w4.heap.size := Nat.lt_of_lt_of_le hlt hs4
  have hc5 : ∀ j, w5.cell? ⟨B, j, none⟩ = (lisD m h)[j]? := fun j => (hB5.cell (p := ⟨B, j, none⟩) hB4).trans (hc4 j)
  refine ⟨⟨(hd2.of_below hB5).apart (kq_put (S := fun k => k = B) _ _ _ _ _ _ _ _ rfl) (fun k hk => hS2 k hk), ?_, fun j => ?_, fun j => ?_, by rw [hz]; omega, fun x => hS2 B x rfl, fun k hk => ?_⟩, ?_⟩
  · have r1 := (hr2.wider (G' := fun k => ¬ S2 k ∧ k ≠ B) fun c hc hl => ⟨hc.2, fun e => by
      rcases hc.1 with x | x
      · exact x.2 e
      · omega⟩).of_below hB5
    exact r1.keep (w' := put6 w5 B v0 v1 v2 v3 v4 v5) (fun c hc _ => put6_heap _ _ _ _ _ _ _ _ hc.2) (Nat.le_of_eq hz.symm)
  · rw [put6_at v0 v1 v2 v3 v4 v5 (dv := lisD m h) rfl hc5 j, hv]
  · rw [put6_frozen]
    exact (hB5.frozen (p := ⟨B, j, none⟩) hB4).trans (hf4 j)
  · rcases hg2 k hk with x | x
    · exact H.from_ k x
    · omega
  · have k1 : Below N WA w4 := hk2.below H.from_ (by omega)
    exact put6_below _ _ _ _ _ _ (k1.trans (hB5.mono (by omega))) hN
end
set_option maxRecDepth 100000 in
set_option maxHeartbeats 8000000 in
theorem plays_any (room : Int) (l : List (Ac × AcH)) (p : Option Addr) (n cap : Nat) (w : World) (h : AcsL w p n cap l) (hn : n < 9223372036854775808) (hz : ∀ x ∈ l, x.1.path.length < 9223372036854775808 ∧ x.1.to_.length < 9223372036854775808 ∧ x.1.b.length < 9223372036854775808 ∧ x.1.ks.length < 9223372036854775808) (hkd : ∀ x ∈ l, x.1.kind < 256) :
    Calls Tryz.prog 3 #[.int .i64 room, .slice p n cap] w fun e w' => e = .returned (.bool true) ∧ Below w.heap.size w w' := by
  have HAW := Lib.hid awake8
  have HSH := Lib.hid (fun (u : World) (hu : Below w.heap.size w u) => short_any l p n cap hn hz u (h.of_below hu))
  have HL := Lib.hid h
  have HKD := Lib.hid hkd
  have HNW := Lib.hid (fun u => dnew_any room u)
  have HCL := Lib.hid (clamp_eq room)
  cases hsh : shortL l with
  | false =>
    rw [hsh] at HSH
    clear hsh h hz hkd hn
    go_enter Tryz.func3, Tryz.ntmps3
    go_wp2_with fail
    refine (HAW.out w).mono ?_
    rintro e w1 ⟨rfl, hB1⟩
    have HB1 := Lib.hid hB1
    clear hB1
    go_wp2_with fail
    refine (HSH.out w1 HB1.out).mono ?_
    rintro e w2 ⟨rfl, hB2⟩
    have HB2 := Lib.hid (HB1.out.trans (hB2.mono HB1.out.size))
    clear hB2
    go_wp2_with fail
    refine (HAW.out w2).mono ?_
    rintro e w3 ⟨rfl, hB3⟩
    have HB3 := Lib.hid (HB2.out.trans (hB3.mono HB2.out.size))
    clear hB3
    go_wp2
    go_ret
    exact ⟨rfl, HB3.out⟩
  | true =>
    rw [hsh] at HSH
    obtain ⟨hl40, hlx⟩ := shortL_facts hsh
    have HLX := Lib.hid hlx
    have hn40 : n ≤ 40 := by rw [← h.len]; exact hl40
    have HR0 := Lib.hid (show 0 ≤ clampL room ∧ clampL room ≤ 1048576 by unfold clampL; omega)
    clear hsh h hz hkd hn hl40 hlx
    go_enter Tryz.func3, Tryz.ntmps3
    go_wp2_with fail
    refine (HAW.out w).mono ?_
    rintro e w1 ⟨rfl, hB1⟩
    have HB1 := Lib.hid hB1
    clear hB1
    go_wp2_with fail
    refine (HSH.out w1 HB1.out).mono ?_
    rintro e w2 ⟨rfl, hB2⟩
    have HB2 := Lib.hid (HB1.out.trans (hB2.mono HB1.out.size))
    clear hB2
    go_wp2_with fail
    refine (HNW.out w2).mono ?_
    rintro e w3 ⟨b, rfl, hD3, hB3⟩
    have HB3 := Lib.hid (HB2.out.trans (hB3.mono HB2.out.size))
    have HD3 := Lib.hid hD3
    have HB3s := Lib.hid hB3.size
    have hcl : min (max room 0) 1048576 = clampL room := rfl
    obtain ⟨rm, hrm⟩ : ∃ rm, clampL room = rm := ⟨_, rfl⟩
    rw [hrm] at HD3 hcl HR0
    clear hD3 hB3 hrm
    go_wp2
    have hst : PlI w.heap.size (w3.alloc (.cells #[.int .i64 (⟨rm, 0, [], [], [], []⟩ : Dk).room, .int .i64 (⟨rm, 0, [], [], [], []⟩ : Dk).count, .slice hd0.bp hd0.bn hd0.bc, .slice hd0.sp hd0.sn hd0.sc, .slice hd0.fp hd0.fn hd0.fc, .slice hd0.wp hd0.wn hd0.wc] 31)) (fun k => w2.heap.size ≤ k ∧ k < w3.heap.size) b w3.heap.size ⟨rm, 0, [], [], [], []⟩ hd0 := by
      have hB4 := (Below.refl w3.heap.size w3).alloc (Nat.le_refl _) (boxD ⟨rm, 0, [], [], [], []⟩ hd0)
      have hh := World.alloc_heap_new w3 (boxD ⟨rm, 0, [], [], [], []⟩ hd0)
      refine ⟨HD3.out.of_below hB4, RfG.zero _ _ _, boxD_cell w3 _ _, fun j => ?_, by rw [World.size_alloc]; exact Nat.lt_succ_self _, fun x => Nat.lt_irrefl _ x.2, fun k hk => Nat.le_trans HB2.out.size hk.1⟩
      unfold World.frozen?
      rw [show (w3.alloc (.cells #[.int .i64 (⟨rm, 0, [], [], [], []⟩ : Dk).room, .int .i64 (⟨rm, 0, [], [], [], []⟩ : Dk).count, .slice hd0.bp hd0.bn hd0.bc, .slice hd0.sp hd0.sn hd0.sc, .slice hd0.fp hd0.fn hd0.fc, .slice hd0.wp hd0.wn hd0.wc] 31)).heap[w3.heap.size]? = _ from hh]
      simp [boxD]
    have HST := Lib.hid hst
    have HBS := Lib.hid (HB3.out.trans (((Below.refl w3.heap.size w3).alloc (Nat.le_refl _) (.cells #[.int .i64 (⟨rm, 0, [], [], [], []⟩ : Dk).room, .int .i64 (⟨rm, 0, [], [], [], []⟩ : Dk).count, .slice hd0.bp hd0.bn hd0.bc, .slice hd0.sp hd0.sn hd0.sc, .slice hd0.fp hd0.fn hd0.fc, .slice hd0.wp hd0.wn hd0.wc] 31)).mono HB3.out.size))
    clear hst hcl
    go_loopw [27] (fun i wr => ∃ k : Nat, k ≤ n ∧ i = .int .i64 k ∧ ∃ h S, PlI w.heap.size wr S b w3.heap.size (playL ⟨rm, 0, [], [], [], []⟩ l k) h ∧ DkOk k (playL ⟨rm, 0, [], [], [], []⟩ l k) ∧ (playL ⟨rm, 0, [], [], [], []⟩ l k).room = rm ∧ Below w.heap.size w wr) (fun i _ => n - (intOf i).toNat)
    case atStart => exact ⟨0, Nat.zero_le _, rfl, hd0, _, HST.out, DkOk.zero rm, rfl, HBS.out⟩
    case round =>
      obtain ⟨k, hk, rfl, h, S, hI, hok, hrm, hB⟩ := hrel
      obtain ⟨m, hm⟩ : ∃ m, playL ⟨rm, 0, [], [], [], []⟩ l k = m := ⟨_, rfl⟩
      rw [hm] at hI hok hrm
      have HM := Lib.hid hm
      have HI := Lib.hid hI
      have HOK := Lib.hid hok
      have HRM := Lib.hid hrm
      have HB := Lib.hid hB
      have HNB := Lib.hid (show w.heap.size ≤ w3.heap.size from HB3.out.size)
      clear hm hI hok hrm hB
      by_cases hlt : k < n
      · have hkl : k < l.length := by rw [HL.out.len]; exact hlt
        obtain ⟨x, hx⟩ : ∃ x, l[k] = x := ⟨_, rfl⟩
        have hxm : x ∈ l := by rw [← hx]; exact List.getElem_mem hkl
        have HXK := Lib.hid (HKD.out x hxm)
        have HXL := Lib.hid (HLX.out x hxm)
        have hLr := HL.out.of_below HB.out
        obtain ⟨c0, o0, hpe, hc0, hx0⟩ := hLr.cell (i := k) (j := 0) hkl (u := .int .u8 (x.1.kind : Int)) (by rw [hx]; rfl)
        have hF := fun j u (hu : (encA x)[j]? = some u) => (by
          obtain ⟨c1, o1, e1, _, h1⟩ := hLr.cell (i := k) (j := j) hkl (by rw [hx]; exact hu)
          rw [hpe] at e1
          injection e1 with e1
          injection e1 with e1 e2
          subst e1 e2
          rw [← Nat.add_assoc] at h1
          exact h1 : wr.cell? ⟨c0, o0 + k * 6 + j, none⟩ = some u)
        have a0 : wr.cell? ⟨c0, o0 + k * 6, none⟩ = some (.int .u8 (x.1.kind : Int)) := hF 0 _ rfl
        have a1 := hF 1 _ rfl
        have a2 := hF 2 _ rfl
        have a3 := hF 3 _ rfl
        have a4 := hF 4 _ rfl
        have a5 := hF 5 _ rfl
        have hba := (Below.refl wr.heap.size wr).alloc (Nat.le_refl _) (.cells #[.int .u8 (x.1.kind : Int), .string (mkS x.1.path), .string (mkS x.1.to_), .slice x.2.bq x.1.b.length x.2.bc, .int .i64 x.1.n, .slice x.2.kp x.1.ks.length x.2.kc] 35)
        have HIA := Lib.hid (HI.out.next hba)
        have HBA := Lib.hid (HB.out.trans (hba.mono HB.out.size))
        have HLB := Lib.hid (((HL.out.byt x hxm).wider (G' := fun k => ¬ S k) fun c _ hc hs => by have := HI.out.from_ c hs; omega).keep (w' := wr.alloc (.cells #[.int .u8 (x.1.kind : Int), .string (mkS x.1.path), .string (mkS x.1.to_), .slice x.2.bq x.1.b.length x.2.bc, .int .i64 x.1.n, .slice x.2.kp x.1.ks.length x.2.kc] 35)) (fun c _ hc => HBA.out.block c hc) HBA.out.size)
        have HLK := Lib.hid (((HL.out.kep x hxm).wider (G' := fun k => ¬ S k) fun c _ hc hs => by have := HI.out.from_ c hs; omega).keep (w' := wr.alloc (.cells #[.int .u8 (x.1.kind : Int), .string (mkS x.1.path), .string (mkS x.1.to_), .slice x.2.bq x.1.b.length x.2.bc, .int .i64 x.1.n, .slice x.2.kp x.1.ks.length x.2.kc] 35)) (fun c _ hc => HBA.out.block c hc) HBA.out.size)
        have d0 : (wr.alloc (.cells #[.int .u8 (x.1.kind : Int), .string (mkS x.1.path), .string (mkS x.1.to_), .slice x.2.bq x.1.b.length x.2.bc, .int .i64 x.1.n, .slice x.2.kp x.1.ks.length x.2.kc] 35)).cell? ⟨w3.heap.size, 0, none⟩ = some (.int .i64 m.room) := HIA.out.cell 0
        have d1 : (wr.alloc (.cells #[.int .u8 (x.1.kind : Int), .string (mkS x.1.path), .string (mkS x.1.to_), .slice x.2.bq x.1.b.length x.2.bc, .int .i64 x.1.n, .slice x.2.kp x.1.ks.length x.2.kc] 35)).cell? ⟨w3.heap.size, 1, none⟩ = some (.int .i64 m.count) := HIA.out.cell 1
        have d2 : (wr.alloc (.cells #[.int .u8 (x.1.kind : Int), .string (mkS x.1.path), .string (mkS x.1.to_), .slice x.2.bq x.1.b.length x.2.bc, .int .i64 x.1.n, .slice x.2.kp x.1.ks.length x.2.kc] 35)).cell? ⟨w3.heap.size, 2, none⟩ = some (.slice h.bp h.bn h.bc) := HIA.out.cell 2
        have d3 : (wr.alloc (.cells #[.int .u8 (x.1.kind : Int), .string (mkS x.1.path), .string (mkS x.1.to_), .slice x.2.bq x.1.b.length x.2.bc, .int .i64 x.1.n, .slice x.2.kp x.1.ks.length x.2.kc] 35)).cell? ⟨w3.heap.size, 3, none⟩ = some (.slice h.sp h.sn h.sc) := HIA.out.cell 3
        have d4 : (wr.alloc (.cells #[.int .u8 (x.1.kind : Int), .string (mkS x.1.path), .string (mkS x.1.to_), .slice x.2.bq x.1.b.length x.2.bc, .int .i64 x.1.n, .slice x.2.kp x.1.ks.length x.2.kc] 35)).cell? ⟨w3.heap.size, 4, none⟩ = some (.slice h.fp h.fn h.fc) := HIA.out.cell 4
        have d5 : (wr.alloc (.cells #[.int .u8 (x.1.kind : Int), .string (mkS x.1.path), .string (mkS x.1.to_), .slice x.2.bq x.1.b.length x.2.bc, .int .i64 x.1.n, .slice x.2.kp x.1.ks.length x.2.kc] 35)).cell? ⟨w3.heap.size, 5, none⟩ = some (.slice h.wp h.wn h.wc) := HIA.out.cell 5
        obtain ⟨WA, hWA⟩ : ∃ WA, wr.alloc (.cells #[.int .u8 (x.1.kind : Int), .string (mkS x.1.path), .string (mkS x.1.to_), .slice x.2.bq x.1.b.length x.2.bc, .int .i64 x.1.n, .slice x.2.kp x.1.ks.length x.2.kc] 35) = WA := ⟨_, rfl⟩
        have HEA := Lib.hid hWA
        rw [hWA] at HIA HBA HLB HLK
        have HDO := Lib.hid (do8_any (w := WA) (S := S) (G := fun k => ¬ S k ∧ k ≠ w3.heap.size) (b := b) (m := m) (h := h) (x := x) ⟨HIA.out.disk, HOK.out.mono (by omega), by have := HOK.out.seen; omega, by rw [HRM.out]; exact HR0.out.1, by rw [HRM.out]; exact HR0.out.2, fun k hk => hk.1, HIA.out.ref, HXK.out, HXL.out.1, HXL.out.2.1, HXL.out.2.2.1, HXL.out.2.2.2, HLB.out, HLK.out⟩)
        have hstep : playL ⟨rm, 0, [], [], [], []⟩ l (k + 1) = stepL m x.1 := by rw [playL_succ _ _ _ hkl, HM.out, hx]
        have HOK2 := Lib.hid (step_ok x.1 HOK.out (by have := HXL.out.1; omega))
        have HRM2 := Lib.hid ((step_room m x.1).trans HRM.out)
        obtain ⟨m2, hm2⟩ : ∃ m2, stepL m x.1 = m2 := ⟨_, rfl⟩
        rw [hm2] at HDO hstep HOK2 HRM2
        have HSTEP := Lib.hid hstep
        have z1 : (k : Int) < (n : Int) := by omega
        have z2 : decide ((k : Int) < (n : Int)) = true := decide_eq_true z1
        have hw64 := i64s k (by omega)
        rw [hpe]
        unfold aggD actV at HDO
        clear hLr hpe hc0 hx0 hF hx hxm hm2 hstep hba hWA
        go_wp2_with fail
        rw [HEA.out]
        refine HDO.out.mono ?_
        rintro e w4 ⟨h2, S2, rfl, hd2, hr2, hk2, hg2⟩
        unfold aggD
        have HB4 := Lib.hid (HBA.out.trans (hk2.below HI.out.from_ HBA.out.size))
        have hbb := (Below.refl w4.heap.size w4).alloc (Nat.le_refl _) (boxD m2 h2)
        have HIS := Lib.hid (is8_any (hd2.of_below hbb) (HOK2.out.mono (by omega)) (hr2.of_below hbb))
        have HBB := Lib.hid hbb
        have hbc := boxD_cell w4 m2 h2
        have HZB : Hid (w4.heap.size < (w4.alloc (boxD m2 h2)).heap.size) := Lib.hid (by rw [World.size_alloc]; exact Nat.lt_succ_self _)
        have HP := Lib.hid (fun (w5 : World) (hB5 : Below w4.heap.size w4 w5) => HIA.out.step HNB.out hd2 hr2 hk2 hg2 hB5 (.int .i64 m2.room) (.int .i64 m2.count) (.slice h2.bp h2.bn h2.bc) (.slice h2.sp h2.sn h2.sc) (.slice h2.fp h2.fn h2.fc) (.slice h2.wp h2.wn h2.wc) rfl)
        have HB4s := Lib.hid (HIA.out.lt)
        have HC4 := Lib.hid (fun j => ((World.cell?_of_block (w := WA) (w' := w4) (a := ⟨w3.heap.size, j, none⟩) (hk2.block _ HIA.out.lt HIA.out.nS)).trans (HIA.out.cell j) : w4.cell? ⟨w3.heap.size, j, none⟩ = (lisD m h)[j]?))
        have HF4 := Lib.hid (fun j => ((World.frozen?_of_block (w := WA) (w' := w4) (a := ⟨w3.heap.size, j, none⟩) (hk2.block _ HIA.out.lt HIA.out.nS)).trans (HIA.out.free j) : w4.frozen? ⟨w3.heap.size, j, none⟩ = false))
        have HLT4 := Lib.hid (Nat.lt_of_lt_of_le HIA.out.lt hk2.size)
        have HBC := Lib.hid hbc
        unfold boxD at HIS HBB HBC HZB
        unfold aggD at HIS
        clear hd2 hr2 hk2 hg2 hbb hbc a0 a1 a2 a3 a4 a5 d0 d1 d2 d3 d4 d5
        go_wp2_with fail
        refine HIS.out.mono ?_
        rintro e w5 ⟨rfl, hB5⟩
        have hB45 := HBB.out.trans (hB5.mono HBB.out.size)
        have hn5 := fun j => (hB5.cell (p := ⟨w4.heap.size, j, none⟩) HZB.out).trans (HBC.out j)
        have hc5 := fun j => (hB45.cell (p := ⟨w3.heap.size, j, none⟩) HLT4.out).trans (HC4.out j)
        have hf5 := fun j => (hB45.frozen (p := ⟨w3.heap.size, j, none⟩) HLT4.out).trans (HF4.out j)
        have n0 : w5.cell? ⟨w4.heap.size, 0, none⟩ = some (.int .i64 m2.room) := hn5 0
        have n1 : w5.cell? ⟨w4.heap.size, 1, none⟩ = some (.int .i64 m2.count) := hn5 1
        have n2 : w5.cell? ⟨w4.heap.size, 2, none⟩ = some (.slice h2.bp h2.bn h2.bc) := hn5 2
        have n3 : w5.cell? ⟨w4.heap.size, 3, none⟩ = some (.slice h2.sp h2.sn h2.sc) := hn5 3
        have n4 : w5.cell? ⟨w4.heap.size, 4, none⟩ = some (.slice h2.fp h2.fn h2.fc) := hn5 4
        have n5 : w5.cell? ⟨w4.heap.size, 5, none⟩ = some (.slice h2.wp h2.wn h2.wc) := hn5 5
        have c0 : w5.cell? ⟨w3.heap.size, 0, none⟩ = some (.int .i64 m.room) := hc5 0
        have c1 : w5.cell? ⟨w3.heap.size, 1, none⟩ = some (.int .i64 m.count) := hc5 1
        have c2 : w5.cell? ⟨w3.heap.size, 2, none⟩ = some (.slice h.bp h.bn h.bc) := hc5 2
        have c3 : w5.cell? ⟨w3.heap.size, 3, none⟩ = some (.slice h.sp h.sn h.sc) := hc5 3
        have c4 : w5.cell? ⟨w3.heap.size, 4, none⟩ = some (.slice h.fp h.fn h.fc) := hc5 4
        have c5 : w5.cell? ⟨w3.heap.size, 5, none⟩ = some (.slice h.wp h.wn h.wc) := hc5 5
        have f0 := hf5 0
        have f1 := hf5 1
        have f2 := hf5 2
        have f3 := hf5 3
        have f4 := hf5 4
        have f5 := hf5 5
        obtain ⟨hPI, hPB⟩ := HP.out w5 hB45
        have HPI := Lib.hid hPI
        have HPB := Lib.hid (HBA.out.trans hPB)
        clear hB5 hB45 hn5 hc5 hf5 hPI hPB
        go_wp2
        go_roundw
        case rel =>
          refine ⟨k + 1, by omega, by go_num, h2, S2, ?_, ?_, ?_, HPB.out⟩
          · rw [HSTEP.out]; exact HPI.out
          · rw [HSTEP.out]; exact HOK2.out
          · rw [HSTEP.out]; exact HRM2.out
        case measure => simp [intOf]; omega
      · have z1 : ¬ (k : Int) < (n : Int) := by omega
        have z2 : decide ((k : Int) < (n : Int)) = false := decide_eq_false z1
        go_wp2
        go_ret
        exact ⟨rfl, HB.out⟩
end Go.Proofs.YtjglgohchhdkkaaGreatDoor
