/- Merged texts: LiftR10, LiftT10, LiftB6. -/
import Derived.Deep.Slices
import Derived.Test.YtnmopjefjpifoaaGreatDoorLiftV9
import Derived.Test.YtnmopjefjpifoaaGreatDoorLiftS7
import Derived.Test.YtnmopjefjpifoaaGreatDoorKR4
import Derived.Lib.LaidTab
import Derived.Test.YtnmopjefjpifoaaGreatDoorSha10
import Derived.Test.YtnmopjefjpifoaaGreatDoorLift
set_option linter.unusedSimpArgs false
set_option linter.unusedVariables false
/- Arguments that are records, in the walks' words. -/
set_option maxRecDepth 100000
namespace Go.Proofs.YtnmopjefjpifoaaGreatDoor
open Go Go.ChangeShapes Go.WideShapes Go.ChangeAt Go.RowKit
attribute [-go_sem] Sha.exec_store

theorem undRec : ∃ fs : Array Field, Tryz.prog.underlying 49 = some (.struct fs) ∧ fs.size = 8 ∧ (fs[0]?).map (fun f => (f.offset, f.type)) = some (0, 9) ∧ (fs[1]?).map (fun f => (f.offset, f.type)) = some (1, 3) ∧ (fs[2]?).map (fun f => (f.offset, f.type)) = some (2, 3) ∧ (fs[3]?).map (fun f => (f.offset, f.type)) = some (3, 3) ∧ (fs[4]?).map (fun f => (f.offset, f.type)) = some (4, 39) ∧ (fs[5]?).map (fun f => (f.offset, f.type)) = some (20, 4) ∧ (fs[6]?).map (fun f => (f.offset, f.type)) = some (21, 41) ∧ (fs[7]?).map (fun f => (f.offset, f.type)) = some (53, 42) := by
  have h : (match Tryz.prog.underlying 49 with
    | some (.struct fs) => some (fs.size, (fs[0]?).map (fun f => (f.offset, f.type)), (fs[1]?).map (fun f => (f.offset, f.type)), (fs[2]?).map (fun f => (f.offset, f.type)), (fs[3]?).map (fun f => (f.offset, f.type)), (fs[4]?).map (fun f => (f.offset, f.type)), (fs[5]?).map (fun f => (f.offset, f.type)), (fs[6]?).map (fun f => (f.offset, f.type)), (fs[7]?).map (fun f => (f.offset, f.type)))
    | _ => none) = some (8, some (0, 9), some (1, 3), some (2, 3), some (3, 3), some (4, 39), some (20, 4), some (21, 41), some (53, 42)) := by kernel_rfl
  split at h
  · rename_i fs e
    simp only [Option.some.injEq, Prod.mk.injEq] at h
    exact ⟨fs, e, h.1, h.2.1, h.2.2.1, h.2.2.2.1, h.2.2.2.2.1, h.2.2.2.2.2.1, h.2.2.2.2.2.2.1, h.2.2.2.2.2.2.2.1, h.2.2.2.2.2.2.2.2⟩
  · cases h
theorem cellsRec : Tryz.prog.cellsOf 49 = 54 := by kernel_rfl
theorem cellsI10 : Tryz.prog.cellsOf 3 = 1 := by kernel_rfl
theorem cellsS10 : Tryz.prog.cellsOf 9 = 1 := by kernel_rfl
theorem cellsK10 : Tryz.prog.cellsOf 4 = 1 := by kernel_rfl
theorem cellsU10 : Tryz.prog.cellsOf 5 = 1 := by kernel_rfl
theorem cellsV10 : Tryz.prog.cellsOf 39 = 16 := by kernel_rfl
theorem cells32 : Tryz.prog.cellsOf 41 = 32 := by kernel_rfl
theorem cellsD10 : Tryz.prog.cellsOf 42 = 1 := by kernel_rfl
theorem undD10 : Tryz.prog.underlying 42 = some (.slice 41) := by kernel_rfl
theorem und32d : Tryz.prog.underlying 41 = some (.array 32 5) := by kernel_rfl
theorem undU10 : Tryz.prog.underlying 5 = some (.int .u8) := by kernel_rfl
theorem undI10 : Tryz.prog.underlying 3 = some (.int .i64) := by kernel_rfl
theorem undK10 : Tryz.prog.underlying 4 = some .bool := by kernel_rfl
theorem field_of10 {fs : Array Field} {i off : Nat} {t : TypeId} (h : (fs[i]?).map (fun f => (f.offset, f.type)) = some (off, t)) : ∃ f, fs[i]? = some f ∧ f.offset = off ∧ f.type = t := by
  cases e : fs[i]? with
  | none => rw [e] at h; cases h
  | some f => rw [e] at h; simp at h; exact ⟨f, rfl, h.1, h.2⟩
section
variable {H : Type} {enc : TypeId × Value → H} {W : World} {n : Nat} {cs : List Value} {x : DataW H × List MemPlace}
theorem arr32_of (h : DataW.trod enc Tryz.prog W 0 (fun _ => true) true n 41 cs = some x) : ∃ d : By, d.length = 32 ∧ cs = digC d := by
  obtain ⟨xs, m, -, -, hl, hn, hi⟩ := DataW.trod_array und32d h
  rw [cellsU10] at hi
  rw [cells32] at hl
  have key : ∀ i, i < 32 → ∃ a : Nat, a < 256 ∧ cs[i]? = some (.int .u8 (a : Int)) := fun i h32 => by
    have e0 := hi i h32
    have hxi : xs[i]? = some (xs[i]'(by omega)) := List.getElem?_eq_getElem (by omega)
    rw [hxi] at e0
    obtain ⟨a, ha, -, hw⟩ := DataW.trod_int undU10 e0
    have hb := bounds_u8 hw
    obtain ⟨b, rfl⟩ := Int.eq_ofNat_of_zero_le (show 0 ≤ a by omega)
    refine ⟨b, by omega, ?_⟩
    rw [Nat.mul_one] at ha
    have h1 : ((cs.drop i).take 1)[0]? = some (.int .u8 (b : Int)) := by rw [ha]; rfl
    rw [List.getElem?_take] at h1
    have h2 : (cs.drop i)[0]? = some (.int .u8 (b : Int)) := by simpa using h1
    rw [List.getElem?_drop, Nat.add_zero] at h2
    exact h2
  obtain ⟨y, hy⟩ := Go.Deep.choose_lt key
  refine ⟨(List.range 32).map fun i => BitVec.ofNat 8 (y i), by simp, ?_⟩
  apply List.ext_getElem?
  intro i
  by_cases h32 : i < 32
  · obtain ⟨h1, h2⟩ := hy i h32
    rw [h2]
    unfold digC
    rw [List.getElem?_map, List.getElem?_map, List.getElem?_range h32]
    show some (Value.int .u8 (y i : Int)) = some (B (BitVec.ofNat 8 (y i)))
    rw [B_eq', BitVec.toNat_ofNat, Nat.mod_eq_of_lt (by omega)]
  · rw [List.getElem?_eq_none (by omega), List.getElem?_eq_none (by rw [digC_len]; simp; omega)]
theorem arr16_of (h : DataW.trod enc Tryz.prog W 0 (fun _ => true) true n 39 cs = some x) : ∃ f : Nat → Int, cs.length = 16 ∧ ∀ i, i < 16 → cs[i]? = some (.int .i64 (f i)) := by
  obtain ⟨xs, m, -, -, hl, hn, hi⟩ := DataW.trod_array vtA.und h
  rw [cellsI10] at hi
  rw [cellsV10] at hl
  refine ⟨fun i => intIn cs[i]?, hl, fun i h16 => ?_⟩
  have e0 := hi i h16
  have hxi : xs[i]? = some (xs[i]'(by omega)) := List.getElem?_eq_getElem (by omega)
  rw [hxi] at e0
  obtain ⟨a, ha, -, hw⟩ := DataW.trod_int undI10 e0
  rw [Nat.mul_one] at ha
  have h1 : ((cs.drop i).take 1)[0]? = some (.int .i64 a) := by rw [ha]; rfl
  rw [List.getElem?_take] at h1
  have h2 : (cs.drop i)[0]? = some (.int .i64 a) := by simpa using h1
  rw [List.getElem?_drop, Nat.add_zero] at h2
  show _ = some (Value.int .i64 (intIn cs[i]?))
  rw [h2]
  rfl
/-- Digests that came in. -/
theorem digs_of {v : Value} (h : DataW.trod enc Tryz.prog W 0 (fun _ => true) true n 42 [v] = some x) : ∃ (ds : List By) (q : Option Addr) (c : Nat), v = .slice q ds.length c ∧ LsC W q (ds.flatMap digC) ∧ (∀ d ∈ ds, d.length = 32) ∧ (q = none → c = 0) ∧ ds.length ≤ c ∧ c < 9223372036854775808 := by
  rcases Go.Deep.open_slice undD10 h with ⟨hcs, _⟩ | ⟨a, len, cap, m, n, D, Pl, hcs, _, hl, hmx, hm, _, hx⟩
  · injection hcs with hcs
    subst hcs
    exact ⟨[], none, 0, rfl, LsC.nil _ _, (fun d hd => by cases hd), fun _ => rfl, Nat.le_refl _, by decide⟩
  · injection hcs with hcs
    subst hcs
    simp only [if_true] at hm
    have each : ∀ i, i < len → ∃ d : By, d.length = 32 ∧ ∀ j, j < 32 → W.cell? (a.add (i * 32 + j)) = some (B (d.getD j 0#8)) := by
      intro i hi
      obtain ⟨cs', h1, h2⟩ := hx i (by omega)
      rw [cells32] at h1
      obtain ⟨_, hlen, hcell⟩ := World.cells?_some h1
      obtain ⟨d, hd, rfl⟩ := arr32_of h2
      refine ⟨d, hd, fun j hj => ?_⟩
      have cj := hcell j (by omega)
      rw [Go.Deep.add_add] at cj
      try rw [cells32] at cj
      rw [cj]
      unfold digC
      rw [List.getElem?_map, List.getElem?_eq_getElem (by omega), List.getD_eq_getElem?_getD, List.getElem?_eq_getElem (by omega)]
      rfl
    haveI : Inhabited By := ⟨[]⟩
    obtain ⟨y, hy⟩ := Go.Deep.choose_lt each
    have he : ∀ d ∈ (List.range len).map y, d.length = 32 := fun d hd => by
      obtain ⟨i, hi, rfl⟩ := List.mem_map.1 hd
      exact (hy i (by simpa using hi)).1
    refine ⟨(List.range len).map y, some a, cap, by simp, ?_, he, (fun e => by cases e), by simpa using hl, by simp only [maxLen] at hmx; omega⟩
    intro i hi
    rw [flat_digC, List.length_map, flat_len32 he] at hi
    simp only [List.length_map, List.length_range] at hi
    have h0 : 0 < len := by omega
    have hs : a.spot = none := by
      have h1 := (hy 0 h0).2 0 (by decide)
      rw [show 0 * 32 + 0 = 0 from rfl, Addr.add_zero'] at h1
      cases h : a.spot with
      | none => rfl
      | some s =>
        unfold World.cell? at h1
        split at h1
        · simp [h] at h1
        · cases h1
    obtain ⟨c, o, sp⟩ := a
    obtain rfl : sp = none := hs
    refine ⟨c, o, rfl, ?_⟩
    have hi' : i / 32 < len := by omega
    have hj : i % 32 < 32 := Nat.mod_lt _ (by omega)
    have hc := (hy (i / 32) hi').2 (i % 32) hj
    have e6 : i / 32 * 32 + i % 32 = i := by omega
    rw [e6, Addr.add_mid] at hc
    rw [hc, flat_digC, List.getElem?_map]
    have hg := flat_get32 he (i / 32) (i % 32) hj (by simpa using hi')
    rw [show 32 * (i / 32) + i % 32 = i by omega] at hg
    rw [hg]
    have ey : ((List.range len).map y).getD (i / 32) [] = y (i / 32) := by simp [List.getD_eq_getElem?_getD, hi']
    rw [ey, List.getElem?_eq_getElem (by rw [(hy _ hi').1]; exact hj), List.getD_eq_getElem?_getD, List.getElem?_eq_getElem (by rw [(hy _ hi').1]; exact hj)]
    rfl
/-- What is known of a record that came in. -/
structure RcIn (r : Rc) : Prop where
  path : r.path.length < 9223372036854775808
  size : -9223372036854775808 ≤ r.size ∧ r.size < 9223372036854775808
  time : -9223372036854775808 ≤ r.time ∧ r.time < 9223372036854775808
  chg : -9223372036854775808 ≤ r.chg ∧ r.chg < 9223372036854775808
  cap : r.cap < 9223372036854775808
theorem drop_one {v : Value} {i : Nat} (h : (cs.drop i).take 1 = [v]) : cs[i]? = some v := by
  have h1 : ((cs.drop i).take 1)[0]? = some v := by rw [h]; rfl
  rw [List.getElem?_take] at h1
  have h2 : (cs.drop i)[0]? = some v := by simpa using h1
  rw [List.getElem?_drop, Nat.add_zero] at h2
  exact h2
theorem eight_of {α : Type} {l : List α} (h : l.length = 8) : ∃ a b c d e f g k, l = [a, b, c, d, e, f, g, k] := by
  obtain ⟨a, l, rfl⟩ := List.exists_cons_of_length_eq_add_one h
  obtain ⟨b, l, rfl⟩ := List.exists_cons_of_length_eq_add_one (n := 6) (by simpa using h)
  obtain ⟨c, l, rfl⟩ := List.exists_cons_of_length_eq_add_one (n := 5) (by simpa using h)
  obtain ⟨d, l, rfl⟩ := List.exists_cons_of_length_eq_add_one (n := 4) (by simpa using h)
  obtain ⟨e, l, rfl⟩ := List.exists_cons_of_length_eq_add_one (n := 3) (by simpa using h)
  obtain ⟨f, l, rfl⟩ := List.exists_cons_of_length_eq_add_one (n := 2) (by simpa using h)
  obtain ⟨g, l, rfl⟩ := List.exists_cons_of_length_eq_add_one (n := 1) (by simpa using h)
  obtain ⟨k, l, rfl⟩ := List.exists_cons_of_length_eq_add_one (n := 0) (by simpa using h)
  obtain rfl : l = [] := List.eq_nil_of_length_eq_zero (by simpa using h)
  exact ⟨a, b, c, d, e, f, g, k, rfl⟩
theorem rec_of (h : DataW.trod enc Tryz.prog W 0 (fun _ => true) true n 49 cs = some x) : ∃ (r : Rc) (ds : List By), cs.toArray = tab 54 (rcF r) ∧ DgAt W r ds ∧ RcIn r := by
  obtain ⟨fs, undF, hfs, F0, F1, F2, F3, F4, F5, F6, F7⟩ := undRec
  obtain ⟨xs, k, hk, hxy, hlen, hxl, hf⟩ := DataW.trod_struct undF h
  rw [cellsRec] at hlen
  obtain ⟨f0, g0, o0, t0⟩ := field_of10 F0
  obtain ⟨f1, g1, o1, t1⟩ := field_of10 F1
  obtain ⟨f2, g2, o2, t2⟩ := field_of10 F2
  obtain ⟨f3, g3, o3, t3⟩ := field_of10 F3
  obtain ⟨f4, g4, o4, t4⟩ := field_of10 F4
  obtain ⟨f5, g5, o5, t5⟩ := field_of10 F5
  obtain ⟨f6, g6, o6, t6⟩ := field_of10 F6
  obtain ⟨f7, g7, o7, t7⟩ := field_of10 F7
  have e0 := hf 0 f0 g0
  have e1 := hf 1 f1 g1
  have e2 := hf 2 f2 g2
  have e3 := hf 3 f3 g3
  have e4 := hf 4 f4 g4
  have e5 := hf 5 f5 g5
  have e6 := hf 6 f6 g6
  have e7 := hf 7 f7 g7
  rw [o0, t0, cellsS10] at e0
  rw [o1, t1, cellsI10] at e1
  rw [o2, t2, cellsI10] at e2
  rw [o3, t3, cellsI10] at e3
  rw [o4, t4, cellsV10] at e4
  rw [o5, t5, cellsK10] at e5
  rw [o6, t6, cells32] at e6
  rw [o7, t7, cellsD10] at e7
  have hx8 : xs.length = 8 := by rw [hxl, hfs]
  obtain ⟨y0, y1, y2, y3, y4, y5, y6, y7, rfl⟩ := eight_of hx8
  have z0 := e0.trans (show _ = some y0 from rfl)
  have z1 := e1.trans (show _ = some y1 from rfl)
  have z2 := e2.trans (show _ = some y2 from rfl)
  have z3 := e3.trans (show _ = some y3 from rfl)
  have z4 := e4.trans (show _ = some y4 from rfl)
  have z5 := e5.trans (show _ = some y5 from rfl)
  have z6 := e6.trans (show _ = some y6 from rfl)
  have z7 := e7.trans (show _ = some y7 from rfl)
  obtain ⟨s0, v0, -, w0⟩ := DataW.trod_string strT z0
  obtain ⟨n1, v1, -, w1⟩ := DataW.trod_int undI10 z1
  obtain ⟨n2, v2, -, w2⟩ := DataW.trod_int undI10 z2
  obtain ⟨n3, v3, -, w3⟩ := DataW.trod_int undI10 z3
  obtain ⟨f, -, hver⟩ := arr16_of z4
  obtain ⟨bb, v5, -⟩ := DataW.trod_bool undK10 z5
  obtain ⟨wh, hwl, hwh⟩ := arr32_of z6
  have c7 : ∃ v7, (cs.drop 53).take 1 = [v7] := by
    refine ⟨cs[53], ?_⟩
    rw [List.drop_eq_getElem_cons (by omega)]
    rfl
  obtain ⟨v7, hv7⟩ := c7
  rw [hv7] at z7
  obtain ⟨ds, q, cap, hv, hls, he, hnil, hle, hcap⟩ := digs_of z7
  have b1 := bounds_i64 w1
  have b2 := bounds_i64 w2
  have b3 := bounds_i64 w3
  have hp : s0.data.toList.length = s0.size := by rw [Array.length_toList]; rfl
  refine ⟨⟨s0.data.toList, n1, n2, n3, f, bb, wh, q, ds.length, cap⟩, ds, ?_, ⟨rfl, hls, he, hnil, hle, hwl⟩, ⟨by show s0.data.toList.length < _; rw [hp]; simp only [maxLen] at w0; omega, ⟨b1.1, by have := b1.2; show n1 < _; omega⟩, ⟨b2.1, by have := b2.2; show n2 < _; omega⟩, ⟨b3.1, by have := b3.2; show n3 < _; omega⟩, hcap⟩⟩
  apply Array.ext_getElem?
  intro i
  by_cases h54 : i < 54
  · rw [tab_get 54 _ i h54, List.getElem?_toArray]
    unfold rcF
    by_cases i0 : i = 0
    · subst i0; rw [if_pos rfl, drop_one v0]; show _ = some (Value.string (mkS s0.data.toList)); rw [mkS_of]
    · rw [if_neg i0]
      by_cases i1 : i = 1
      · subst i1; rw [if_pos rfl, drop_one v1]
      · rw [if_neg i1]
        by_cases i2 : i = 2
        · subst i2; rw [if_pos rfl, drop_one v2]
        · rw [if_neg i2]
          by_cases i3 : i = 3
          · subst i3; rw [if_pos rfl, drop_one v3]
          · rw [if_neg i3]
            by_cases i4 : i < 20
            · rw [if_pos i4]
              have hc := hver (i - 4) (by omega)
              rw [List.getElem?_take, if_pos (by omega), List.getElem?_drop, show 4 + (i - 4) = i by omega] at hc
              exact hc
            · rw [if_neg i4]
              by_cases i5 : i = 20
              · subst i5; rw [if_pos rfl, drop_one v5]
              · rw [if_neg i5]
                by_cases i6 : i < 53
                · rw [if_pos i6]
                  have hc : ((cs.drop 21).take 32)[i - 21]? = (digC wh)[i - 21]? := by rw [hwh]
                  rw [List.getElem?_take, if_pos (by omega), List.getElem?_drop, show 21 + (i - 21) = i by omega] at hc
                  rw [hc]
                  have h32 : i - 21 < wh.length := by omega
                  unfold digC dgF
                  rw [List.getElem?_map, List.getElem?_eq_getElem h32, List.getD_eq_getElem?_getD, List.getElem?_eq_getElem h32]
                  rfl
                · obtain rfl : i = 53 := by omega
                  rw [if_neg i6, drop_one hv7, hv]
  · rw [Array.getElem?_eq_none (by rw [List.size_toArray]; omega), Array.getElem?_eq_none (by rw [tab_size]; omega)]
end
/-- An argument that is a record. -/
theorem open_rec {H : Type} {enc : TypeId × Value → H} {W : World} {r : _root_.Go.Reach} {b0 : Nat} {v : Value} {d : DataW H} {ps : List MemPlace} (hval : Value.okWide Tryz.prog W r b0 49 v)
    (h : DataW.Trod enc Tryz.prog W 0 (fun _ => true) true 49 v d ps) : ∃ (r : Rc) (ds : List By), v = rcV r ∧ DgAt W r ds ∧ RcIn r := by
  obtain ⟨fs, undF, hfs, -⟩ := undRec
  simp only [Value.okWide, undF] at hval
  obtain ⟨cs, rfl, hsz, -⟩ := hval
  obtain ⟨fuel, hf⟩ := h
  obtain ⟨r, ds, e, h1, h2⟩ := rec_of hf
  refine ⟨r, ds, ?_, h1, h2⟩
  unfold rcV
  rw [← e]
  rfl
end Go.Proofs.YtnmopjefjpifoaaGreatDoor
/- The two tables of SHA-256, as a row's listed variables give them. -/
set_option maxRecDepth 100000
namespace Go.Proofs.YtnmopjefjpifoaaGreatDoor
open Go Go.ChangeShapes Go.WideShapes Go.ChangeAt Go.RowKit
attribute [-go_sem] Sha.exec_store

/-- The zero record, as a value and as a datum. -/
def zR10 : Value := .agg (#[.string ⟨#[]⟩, .int .i64 0, .int .i64 0, .int .i64 0] ++ Array.replicate 16 (.int .i64 0) ++ #[.bool false] ++ Array.replicate 32 (.int .u8 0) ++ #[.slice none 0 0])
def lR10 {H : Type} : DataW H := .agg [.lit (.string []), .lit (.int .i64 0), .lit (.int .i64 0), .lit (.int .i64 0), .agg (List.replicate 16 (.lit (.int .i64 0))), .lit (.bool false), .agg (List.replicate 32 (.lit (.int .u8 0))), .nil]
theorem gK10 : Tryz.prog.globalNamed "darner/api.Words256" = some 2 := by kernel_rfl
theorem gF10 : Tryz.prog.globalNamed "darner/api.First256" = some 1 := by kernel_rfl
theorem tK10 : (Tryz.prog.globals[2]?).map (·.type) = some 236 := by kernel_rfl
theorem tF10 : (Tryz.prog.globals[1]?).map (·.type) = some 170 := by kernel_rfl
theorem und32w : Tryz.prog.underlying 169 = some (.int .u32) := by kernel_rfl
theorem und64w : Tryz.prog.underlying 236 = some (.array 64 169) := by kernel_rfl
theorem und8w : Tryz.prog.underlying 170 = some (.array 8 169) := by kernel_rfl
theorem cells32w : Tryz.prog.cellsOf 169 = 1 := by kernel_rfl
theorem cells64w : Tryz.prog.cellsOf 236 = 64 := by kernel_rfl
theorem cells8w : Tryz.prog.cellsOf 170 = 8 := by kernel_rfl
def kz10 : List Int := Sha.K256.map fun x => (x.toNat : Int)
def fz10 : List Int := (List.range 8).map fun i => ((Sha.H0.get i).toNat : Int)
theorem U_eq10 (x : BitVec 32) : Sha.U x = .int .u32 (x.toNat : Int) := by unfold Sha.U; rfl
theorem tb_of_tabs {W : World} (h1 : Go.Lib.TabIs Tryz.prog W "darner/api.Words256" .u32 kz10) (h2 : Go.Lib.TabIs Tryz.prog W "darner/api.First256" .u32 fz10) : Tb W := by
  have hk : Sha.Kt W := fun t ht => by
    have := h1.cell gK10 t (by show t < 64; exact ht)
    rw [this, U_eq10]
    congr 2
    simp only [kz10, Sha.K, List.getD_eq_getElem?_getD, List.getElem?_map]
    have : t < Sha.K256.length := ht
    simp [this]
  refine ⟨fun i hi => ?_, hk, World.block_lt_of_cell? W ⟨2, 0, none⟩ (hk 0 (by decide))⟩
  have := h2.cell gF10 i (by show i < 8; exact hi)
  rw [this, U_eq10]
  congr 2
  simp [fz10, hi]
end Go.Proofs.YtnmopjefjpifoaaGreatDoor
/- An argument that is a slice of bytes, its room too. -/
set_option maxRecDepth 100000
namespace Go.Proofs.YtnmopjefjpifoaaGreatDoor
open Go Go.ChangeShapes Go.WideShapes Go.ChangeAt Go.RowKit
attribute [-go_sem] Sha.exec_store

/-- An argument that is a slice of bytes, its room too. -/
theorem open_bytes6 {H : Type} {enc : TypeId × Value → H} {W : World} {a0 : Option Addr} {len cap : Nat} {d : DataW H} {ps : List MemPlace}
    (h : DataW.Trod enc Tryz.prog W 0 (fun _ => true) true 53 (.slice a0 len cap) d ps) : ∃ l : List (BitVec 8), Sl W a0 l ∧ l.length = len ∧ (a0 = none → cap = 0) ∧ len ≤ cap := by
  obtain ⟨l, h1, h2, h3⟩ := open_bytes h
  refine ⟨l, h1, h2, h3, ?_⟩
  obtain ⟨fuel, hfu⟩ := h
  rcases open_ints undBytes undByte cellsByte hfu with ⟨hcs, _⟩ | ⟨a, len', cap', zs, hcs, _, hl, _⟩
  · simp [Value.cells] at hcs
    omega
  · simp [Value.cells] at hcs
    omega
end Go.Proofs.YtnmopjefjpifoaaGreatDoor
