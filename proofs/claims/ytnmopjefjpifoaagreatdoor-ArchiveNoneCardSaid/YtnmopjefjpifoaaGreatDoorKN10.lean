/- Merged texts: Rfs8, Wri8, Pat8, Gf, Ref, Mat, RefC, Prt, Rows3, Upto, Stores, Det, Mp, GoodB, Perm, Ask. -/
import Derived.Deep.RegionHeld3
import Derived.Test.YtnmopjefjpifoaaGreatDoorKN9
import Derived.Test.YtnmopjefjpifoaaGreatDoorKN3
import Derived.Sort.KeysCollected
import Derived.Test.YtnmopjefjpifoaaGreatDoorRows
import Derived.Deep.LoopGhost
import Derived.Test.YtnmopjefjpifoaaGreatDoorBase
import Derived.Deep.AppendLies
import Derived.Test.YtnmopjefjpifoaaGreatDoorBytes
import Derived.WalkKit
import Derived.Lib.Walk
import Derived.Shelf.Abstract
set_option linter.unusedSimpArgs false
set_option linter.unusedVariables false
/- refusal of the program's disk. -/
set_option maxRecDepth 100000
namespace Go.Proofs.YtnmopjefjpifoaaGreatDoor
open Go Go.RowKit
attribute [-go_sem] Sha.exec_store

/-- The program's answer to a write. -/
def filesP (m : Dk) (p : S8) : Nat := if (findL m.seen p).isNone then m.seen.length + 1 else m.seen.length
def writeP (m : Dk) (p : S8) (n : Nat) : Nat :=
  if !goodL p then 7
  else if 262144 < n then 1
  else if clashesL m.seen p p then 9
  else if 64 < filesP m p then 14
  else if leftL m p < (n : Int) then 10
  else 0
theorem writeP_eq (m : Dk) (p b : S8) (t : Int) (h : m.seen.length ≤ 64) : (writeL m p b t).2 = writeP m p b.length := by
  unfold writeL writeP filesP
  repeat' split
  all_goals first | rfl | (exfalso; simp_all; done) | (exfalso; simp_all; omega)
theorem writeL_no (m : Dk) (p b : S8) (t : Int) (h : (writeL m p b t).2 ≠ 0) : (writeL m p b t).1 = m := by
  unfold writeL at h ⊢
  repeat' split
  all_goals first | rfl | (exfalso; apply h; simp_all)
section
variable {w : World} {S : Nat → Prop} {b : Nat} {m : Dk} {mv md : Nat} {pv : Value} {vs : List Value} {sl : Nat → Hn}
theorem len8 {u : World} (h : MpB u mv (m.seen.map (entV sl))) : ∀ ty, (Builtin.len_ #[126] ty #[.map (some mv)]).run Tryz.prog u = .ok (.int .i64 (m.seen.length : Int)) u := fun ty => by
  have := run_len8 (P := Tryz.prog) mapT (ty := ty) h
  rwa [List.length_map] at this
set_option maxRecDepth 100000 in
set_option maxHeartbeats 8000000 in
theorem refusal_true (h : Dp w S b m mv md pv vs sl) (hok : DkOk 300 m) (hr0 : 0 ≤ m.room) (hr1 : m.room ≤ 1048576) (p : S8) (n : Nat) (hp : p.length ≤ 1000) (hn : n ≤ 400000) (sz ti ch : Int) (q : Option Addr) (bn bc : Nat) (hz0 : 0 ≤ sz) (hz1 : sz ≤ 300000) (hL : leftL m p = m.room - (usedL m : Int) + sz) (hfi : filesP m p = m.seen.length)
    (hl : (Instr.lookup 126 (.map (some mv)) (.string (mkS p)) true).run Tryz.prog w = .ok (.tuple #[.agg #[.int .i64 sz, .int .i64 ti, .int .i64 ch, .slice q bn bc], .bool true]) w) :
    Calls Tryz.prog 59 #[.pointer (some ⟨b, 0, none⟩), .string (mkS p), .int .i64 (n : Int)] w fun e w' => e = .returned (.int .i64 (writeP m p n : Int)) ∧ Below w.heap.size w w' := by
  have c0 := h.cell 0
  have c2 := h.cell 2
  simp at c0 c2
  have hB1 := (Below.refl w.heap.size w).alloc (Nat.le_refl _) (.cells #[.int .i64 sz, .int .i64 ti, .int .i64 ch, .slice q bn bc] 137)
  have k0 : (w.alloc (.cells #[.int .i64 sz, .int .i64 ti, .int .i64 ch, .slice q bn bc] 137)).cell? ⟨w.heap.size, 0, none⟩ = some (.int .i64 sz) := box4_cell w 137 (.int .i64 sz) (.int .i64 ti) (.int .i64 ch) (.slice q bn bc) 0
  have H := Lib.hid h
  have HOK := Lib.hid hok
  have HB1 := Lib.hid hB1
  have HSZ := Lib.hid (World.size_alloc w (.cells #[.int .i64 sz, .int .i64 ti, .int .i64 ch, .slice q bn bc] 137))
  generalize hW : w.alloc (.cells #[.int .i64 sz, .int .i64 ti, .int .i64 ch, .slice q bn bc] 137) = W at *
  have HW := Lib.hid hW
  have HWR := Lib.hid (show writeP m p n = if !goodL p then 7 else if 262144 < n then 1 else if clashesL m.seen p p then 9 else if 64 < m.seen.length then 14 else if m.room - (usedL m : Int) + sz < (n : Int) then 10 else 0 by unfold writeP; rw [hfi, hL])
  have hul := usedL_le hok.shortB (n := m.seen.length) rfl
  have hsn := hok.seen
  obtain ⟨ul, hue⟩ : ∃ ul, usedL m = ul := ⟨_, rfl⟩
  have HUE := Lib.hid hue
  obtain ⟨ln, hln⟩ : ∃ ln, m.seen.length = ln := ⟨_, rfl⟩
  have HLN := Lib.hid hln
  rw [hue, hln] at hul
  rw [hln] at hsn
  have hws : IntKind.i64.wrap ((ul : Int) - sz) = (ul : Int) - sz := by rw [IntKind.wrap_i64]; omega
  have hws2 : IntKind.i64.wrap ((ul : Int) - sz + (n : Int)) = (ul : Int) - sz + (n : Int) := by rw [IntKind.wrap_i64]; omega
  have hS : ∀ u, Below W.heap.size W u → u.cell? ⟨b, 2, none⟩ = some (.map (some mv)) ∧ u.cell? ⟨w.heap.size, 0, none⟩ = some (.int .i64 sz) ∧ ∀ ty, (Builtin.len_ #[126] ty #[.map (some mv)]).run Tryz.prog u = .ok (.int .i64 (ln : Int)) u := fun u hu => by
    have hd := (H.out.of_below HB1.out).of_below hu
    have e2 := hd.cell 2
    simp at e2
    refine ⟨e2, ?_, fun ty => by have := len8 hd.vis ty; rwa [HLN.out] at this⟩
    rw [hu.cell (p := ⟨w.heap.size, 0, none⟩) (by rw [HSZ.out]; exact Nat.lt_succ_self _)]
    exact k0
  have HS := Lib.hid hS
  obtain ⟨s1, s2, s3⟩ := hS W.drew ((Below.refl _ _).drew)
  have hl64 : IntKind.i64.wrap ((ln : Int) + 1) = (ln : Int) + 1 := by rw [IntKind.wrap_i64]; omega
  have HN := Lib.hid (And.intro hn (And.intro hsn (And.intro hul (And.intro hz0 (And.intro hz1 (And.intro hr0 hr1))))))
  have HP := Lib.hid hp
  have HUS : Hid (Calls Tryz.prog 124 #[.pointer (some ⟨b, 0, none⟩)] W.drew fun e w' => e = .returned (.int .i64 (ul : Int)) ∧ Below W.heap.size W.drew w') := Lib.hid (by have := used_any ((H.out.of_below HB1.out).of_below (Below.refl W.heap.size W).drew) HOK.out; rwa [HUE.out] at this)
  clear h hok hB1 hW hL hfi hue hln hp hn hsn hul hz0 hz1 hr0 hr1 hS
  go_enter Tryz.func59, Tryz.ntmps59
  go_wp2_with fail
  rw [HW.out]
  go_region_held3 (fun u : World => u.cell? ⟨b, 2, none⟩ = some (.map (some mv)) ∧ u.cell? ⟨w.heap.size, 0, none⟩ = some (.int .i64 sz) ∧ ∀ ty, (Builtin.len_ #[126] ty #[.map (some mv)]).run Tryz.prog u = .ok (.int .i64 (ln : Int)) u) (first | exact ⟨s1, s2, s3⟩ | exact ⟨z1, z2, z3⟩ | go_keep) ((first | (go_at_call 124; refine (HUS.out).mono ?_; rintro e w2 ⟨rfl, hB2⟩; have hB3 := ((Below.refl W.heap.size W).drew).trans hB2; obtain ⟨z1, z2, z3⟩ := HS.out w2 hB3; have HB3 := Lib.hid hB3; clear hB2 hB3)))
  have HD2 := Lib.hid ((H.out.of_below HB1.out).of_below HB3.out)
  have HBX := Lib.hid (HB1.out.trans (HB3.out.mono HB1.out.size))
  have c02 := HD2.out.cell 0
  have c22 := HD2.out.cell 2
  simp at c02 c22
  have HGD := Lib.hid (good_any p w2 (by have := HP.out; omega))
  clear c0 c2 k0 s1 s2 s3 z1 z2 z3 hl
  cases hgd : goodL p with
  | false =>
    rw [hgd] at HGD
    have HE := Lib.hid (show writeP m p n = 7 by rw [HWR.out, hgd]; rfl)
    go_wp2_with fail
    refine HGD.out.mono ?_
    rintro e w4 ⟨rfl, hB4⟩
    have HB4 := Lib.hid (HBX.out.trans (hB4.mono HBX.out.size))
    clear hB4
    go_wp2
    go_ret
    exact ⟨by rw [HE.out]; rfl, HB4.out⟩
  | true =>
    rw [hgd] at HGD
    have HWR2 := Lib.hid (show writeP m p n = if 262144 < n then 1 else if clashesL m.seen p p then 9 else if 64 < ln then 14 else if m.room - (ul : Int) + sz < (n : Int) then 10 else 0 by rw [HWR.out, hgd, HUE.out, HLN.out]; rfl)
    clear HWR
    by_cases g1 : 262144 < n
    · have y1 : (262144 : Int) < (n : Int) := by omega
      have y2 : decide ((262144 : Int) < (n : Int)) = true := decide_eq_true y1
      have y3 : decide (262144 < n) = true := decide_eq_true g1
      have HE := Lib.hid (show writeP m p n = 1 by rw [HWR2.out, if_pos g1])
      clear g1
      go_wp2_with fail
      refine HGD.out.mono ?_
      rintro e w4 ⟨rfl, hB4⟩
      have HB4 := Lib.hid (HBX.out.trans (hB4.mono HBX.out.size))
      clear hB4
      go_wp2
      go_ret
      exact ⟨by rw [HE.out]; rfl, HB4.out⟩
    · have y1 : ¬ (262144 : Int) < (n : Int) := by omega
      have y2 : decide ((262144 : Int) < (n : Int)) = false := decide_eq_false y1
      have y3 : decide (262144 < n) = false := decide_eq_false g1
      have HWR3 := Lib.hid (show writeP m p n = if clashesL m.seen p p then 9 else if 64 < ln then 14 else if m.room - (ul : Int) + sz < (n : Int) then 10 else 0 by rw [HWR2.out, if_neg g1])
      clear HWR2 g1
      go_wp2_with fail
      refine HGD.out.mono ?_
      rintro e w4 ⟨rfl, hB4⟩
      have HB4 := Lib.hid (HBX.out.trans (hB4.mono HBX.out.size))
      have HD4 := Lib.hid (HD2.out.of_below hB4)
      have c04 := HD4.out.cell 0
      have c24 := HD4.out.cell 2
      simp at c04 c24
      have HCL := Lib.hid (clashes_any HD4.out.vis HOK.out.shS p p (by have := HP.out; omega))
      clear hB4 c02 c22
      cases hcl : clashesL m.seen p p with
      | true =>
        rw [hcl] at HCL
        have HE := Lib.hid (show writeP m p n = 9 by rw [HWR3.out, hcl]; rfl)
        clear hcl
        go_wp2_with fail
        refine HCL.out.mono ?_
        rintro e w5 ⟨rfl, hB5⟩
        have HB5 := Lib.hid (HB4.out.trans (hB5.mono HB4.out.size))
        clear hB5
        go_wp2
        go_ret
        exact ⟨by rw [HE.out]; rfl, HB5.out⟩
      | false =>
        rw [hcl] at HCL
        have HWR4 := Lib.hid (show writeP m p n = if 64 < ln then 14 else if m.room - (ul : Int) + sz < (n : Int) then 10 else 0 by rw [HWR3.out, hcl]; rfl)
        clear HWR3 hcl
        go_wp2_with fail
        refine HCL.out.mono ?_
        rintro e w5 ⟨rfl, hB5⟩
        have HB5 := Lib.hid (HB4.out.trans (hB5.mono HB4.out.size))
        have c05 := (HD4.out.of_below hB5).cell 0
        simp at c05
        clear hB5 c04 c24
        obtain ⟨hn, hsn, hul, hz0, hz1, hr0, hr1⟩ := HN.out
        by_cases g2 : 64 < ln
        · have x1 : (64 : Int) < (ln : Int) := by omega
          have x2 : decide ((64 : Int) < (ln : Int)) = true := decide_eq_true x1
          have HE := Lib.hid (show writeP m p n = 14 by rw [HWR4.out, if_pos g2])
          clear g2 hn hsn hul hz0 hz1 hr0 hr1
          go_wp2
          go_ret
          exact ⟨by rw [HE.out]; rfl, HB5.out⟩
        · have x1 : ¬ (64 : Int) < (ln : Int) := by omega
          have x2 : decide ((64 : Int) < (ln : Int)) = false := decide_eq_false x1
          by_cases g3 : m.room - (ul : Int) + sz < (n : Int)
          · have v1 : m.room < (ul : Int) - sz + (n : Int) := by omega
            have v2 : decide (m.room < (ul : Int) - sz + (n : Int)) = true := decide_eq_true v1
            have HE := Lib.hid (show writeP m p n = 10 by rw [HWR4.out, if_neg g2, if_pos g3])
            clear g2 g3 hn hsn hul hz0 hz1 hr0 hr1
            go_wp2
            go_ret
            exact ⟨by rw [HE.out]; rfl, HB5.out⟩
          · have v1 : ¬ m.room < (ul : Int) - sz + (n : Int) := by omega
            have v2 : decide (m.room < (ul : Int) - sz + (n : Int)) = false := decide_eq_false v1
            have HE := Lib.hid (show writeP m p n = 0 by rw [HWR4.out, if_neg g2, if_neg g3])
            clear g2 g3 hn hsn hul hz0 hz1 hr0 hr1
            go_wp2
            go_ret
            exact ⟨by rw [HE.out]; rfl, HB5.out⟩
set_option maxRecDepth 100000 in
set_option maxHeartbeats 8000000 in
theorem refusal_false (h : Dp w S b m mv md pv vs sl) (hok : DkOk 300 m) (hr0 : 0 ≤ m.room) (hr1 : m.room ≤ 1048576) (p : S8) (n : Nat) (hp : p.length ≤ 1000) (hn : n ≤ 400000) (sz ti ch : Int) (q : Option Addr) (bn bc : Nat) (hz0 : 0 ≤ sz) (hz1 : sz ≤ 300000) (hL : leftL m p = m.room - (usedL m : Int) + sz) (hfi : filesP m p = m.seen.length + 1)
    (hl : (Instr.lookup 126 (.map (some mv)) (.string (mkS p)) true).run Tryz.prog w = .ok (.tuple #[.agg #[.int .i64 sz, .int .i64 ti, .int .i64 ch, .slice q bn bc], .bool false]) w) :
    Calls Tryz.prog 59 #[.pointer (some ⟨b, 0, none⟩), .string (mkS p), .int .i64 (n : Int)] w fun e w' => e = .returned (.int .i64 (writeP m p n : Int)) ∧ Below w.heap.size w w' := by
  have c0 := h.cell 0
  have c2 := h.cell 2
  simp at c0 c2
  have hB1 := (Below.refl w.heap.size w).alloc (Nat.le_refl _) (.cells #[.int .i64 sz, .int .i64 ti, .int .i64 ch, .slice q bn bc] 137)
  have k0 : (w.alloc (.cells #[.int .i64 sz, .int .i64 ti, .int .i64 ch, .slice q bn bc] 137)).cell? ⟨w.heap.size, 0, none⟩ = some (.int .i64 sz) := box4_cell w 137 (.int .i64 sz) (.int .i64 ti) (.int .i64 ch) (.slice q bn bc) 0
  have H := Lib.hid h
  have HOK := Lib.hid hok
  have HB1 := Lib.hid hB1
  have HSZ := Lib.hid (World.size_alloc w (.cells #[.int .i64 sz, .int .i64 ti, .int .i64 ch, .slice q bn bc] 137))
  generalize hW : w.alloc (.cells #[.int .i64 sz, .int .i64 ti, .int .i64 ch, .slice q bn bc] 137) = W at *
  have HW := Lib.hid hW
  have HWR := Lib.hid (show writeP m p n = if !goodL p then 7 else if 262144 < n then 1 else if clashesL m.seen p p then 9 else if 64 < m.seen.length + 1 then 14 else if m.room - (usedL m : Int) + sz < (n : Int) then 10 else 0 by unfold writeP; rw [hfi, hL])
  have hul := usedL_le hok.shortB (n := m.seen.length) rfl
  have hsn := hok.seen
  obtain ⟨ul, hue⟩ : ∃ ul, usedL m = ul := ⟨_, rfl⟩
  have HUE := Lib.hid hue
  obtain ⟨ln, hln⟩ : ∃ ln, m.seen.length = ln := ⟨_, rfl⟩
  have HLN := Lib.hid hln
  rw [hue, hln] at hul
  rw [hln] at hsn
  have hws : IntKind.i64.wrap ((ul : Int) - sz) = (ul : Int) - sz := by rw [IntKind.wrap_i64]; omega
  have hws2 : IntKind.i64.wrap ((ul : Int) - sz + (n : Int)) = (ul : Int) - sz + (n : Int) := by rw [IntKind.wrap_i64]; omega
  have hS : ∀ u, Below W.heap.size W u → u.cell? ⟨b, 2, none⟩ = some (.map (some mv)) ∧ u.cell? ⟨w.heap.size, 0, none⟩ = some (.int .i64 sz) ∧ ∀ ty, (Builtin.len_ #[126] ty #[.map (some mv)]).run Tryz.prog u = .ok (.int .i64 (ln : Int)) u := fun u hu => by
    have hd := (H.out.of_below HB1.out).of_below hu
    have e2 := hd.cell 2
    simp at e2
    refine ⟨e2, ?_, fun ty => by have := len8 hd.vis ty; rwa [HLN.out] at this⟩
    rw [hu.cell (p := ⟨w.heap.size, 0, none⟩) (by rw [HSZ.out]; exact Nat.lt_succ_self _)]
    exact k0
  have HS := Lib.hid hS
  obtain ⟨s1, s2, s3⟩ := hS W.drew ((Below.refl _ _).drew)
  have hl64 : IntKind.i64.wrap ((ln : Int) + 1) = (ln : Int) + 1 := by rw [IntKind.wrap_i64]; omega
  have HN := Lib.hid (And.intro hn (And.intro hsn (And.intro hul (And.intro hz0 (And.intro hz1 (And.intro hr0 hr1))))))
  have HP := Lib.hid hp
  have HUS : Hid (Calls Tryz.prog 124 #[.pointer (some ⟨b, 0, none⟩)] W.drew fun e w' => e = .returned (.int .i64 (ul : Int)) ∧ Below W.heap.size W.drew w') := Lib.hid (by have := used_any ((H.out.of_below HB1.out).of_below (Below.refl W.heap.size W).drew) HOK.out; rwa [HUE.out] at this)
  clear h hok hB1 hW hL hfi hue hln hp hn hsn hul hz0 hz1 hr0 hr1 hS
  go_enter Tryz.func59, Tryz.ntmps59
  go_wp2_with fail
  rw [HW.out]
  go_region_held3 (fun u : World => u.cell? ⟨b, 2, none⟩ = some (.map (some mv)) ∧ u.cell? ⟨w.heap.size, 0, none⟩ = some (.int .i64 sz) ∧ ∀ ty, (Builtin.len_ #[126] ty #[.map (some mv)]).run Tryz.prog u = .ok (.int .i64 (ln : Int)) u) (first | exact ⟨s1, s2, s3⟩ | exact ⟨z1, z2, z3⟩ | go_keep) ((first | (go_at_call 124; refine (HUS.out).mono ?_; rintro e w2 ⟨rfl, hB2⟩; have hB3 := ((Below.refl W.heap.size W).drew).trans hB2; obtain ⟨z1, z2, z3⟩ := HS.out w2 hB3; have HB3 := Lib.hid hB3; clear hB2 hB3)))
  have HD2 := Lib.hid ((H.out.of_below HB1.out).of_below HB3.out)
  have HBX := Lib.hid (HB1.out.trans (HB3.out.mono HB1.out.size))
  have c02 := HD2.out.cell 0
  have c22 := HD2.out.cell 2
  simp at c02 c22
  have HGD := Lib.hid (good_any p w2 (by have := HP.out; omega))
  clear c0 c2 k0 s1 s2 s3 z1 z2 z3 hl
  cases hgd : goodL p with
  | false =>
    rw [hgd] at HGD
    have HE := Lib.hid (show writeP m p n = 7 by rw [HWR.out, hgd]; rfl)
    go_wp2_with fail
    refine HGD.out.mono ?_
    rintro e w4 ⟨rfl, hB4⟩
    have HB4 := Lib.hid (HBX.out.trans (hB4.mono HBX.out.size))
    clear hB4
    go_wp2
    go_ret
    exact ⟨by rw [HE.out]; rfl, HB4.out⟩
  | true =>
    rw [hgd] at HGD
    have HWR2 := Lib.hid (show writeP m p n = if 262144 < n then 1 else if clashesL m.seen p p then 9 else if 64 < ln + 1 then 14 else if m.room - (ul : Int) + sz < (n : Int) then 10 else 0 by rw [HWR.out, hgd, HUE.out, HLN.out]; rfl)
    clear HWR
    by_cases g1 : 262144 < n
    · have y1 : (262144 : Int) < (n : Int) := by omega
      have y2 : decide ((262144 : Int) < (n : Int)) = true := decide_eq_true y1
      have y3 : decide (262144 < n) = true := decide_eq_true g1
      have HE := Lib.hid (show writeP m p n = 1 by rw [HWR2.out, if_pos g1])
      clear g1
      go_wp2_with fail
      refine HGD.out.mono ?_
      rintro e w4 ⟨rfl, hB4⟩
      have HB4 := Lib.hid (HBX.out.trans (hB4.mono HBX.out.size))
      clear hB4
      go_wp2
      go_ret
      exact ⟨by rw [HE.out]; rfl, HB4.out⟩
    · have y1 : ¬ (262144 : Int) < (n : Int) := by omega
      have y2 : decide ((262144 : Int) < (n : Int)) = false := decide_eq_false y1
      have y3 : decide (262144 < n) = false := decide_eq_false g1
      have HWR3 := Lib.hid (show writeP m p n = if clashesL m.seen p p then 9 else if 64 < ln + 1 then 14 else if m.room - (ul : Int) + sz < (n : Int) then 10 else 0 by rw [HWR2.out, if_neg g1])
      clear HWR2 g1
      go_wp2_with fail
      refine HGD.out.mono ?_
      rintro e w4 ⟨rfl, hB4⟩
      have HB4 := Lib.hid (HBX.out.trans (hB4.mono HBX.out.size))
      have HD4 := Lib.hid (HD2.out.of_below hB4)
      have c04 := HD4.out.cell 0
      have c24 := HD4.out.cell 2
      simp at c04 c24
      have HCL := Lib.hid (clashes_any HD4.out.vis HOK.out.shS p p (by have := HP.out; omega))
      clear hB4 c02 c22
      cases hcl : clashesL m.seen p p with
      | true =>
        rw [hcl] at HCL
        have HE := Lib.hid (show writeP m p n = 9 by rw [HWR3.out, hcl]; rfl)
        clear hcl
        go_wp2_with fail
        refine HCL.out.mono ?_
        rintro e w5 ⟨rfl, hB5⟩
        have HB5 := Lib.hid (HB4.out.trans (hB5.mono HB4.out.size))
        clear hB5
        go_wp2
        go_ret
        exact ⟨by rw [HE.out]; rfl, HB5.out⟩
      | false =>
        rw [hcl] at HCL
        have HWR4 := Lib.hid (show writeP m p n = if 64 < ln + 1 then 14 else if m.room - (ul : Int) + sz < (n : Int) then 10 else 0 by rw [HWR3.out, hcl]; rfl)
        clear HWR3 hcl
        go_wp2_with fail
        refine HCL.out.mono ?_
        rintro e w5 ⟨rfl, hB5⟩
        have HB5 := Lib.hid (HB4.out.trans (hB5.mono HB4.out.size))
        have c05 := (HD4.out.of_below hB5).cell 0
        simp at c05
        clear hB5 c04 c24
        obtain ⟨hn, hsn, hul, hz0, hz1, hr0, hr1⟩ := HN.out
        by_cases g2 : 64 < ln + 1
        · have x1 : (64 : Int) < (ln : Int) + 1 := by omega
          have x2 : decide ((64 : Int) < (ln : Int) + 1) = true := decide_eq_true x1
          have HE := Lib.hid (show writeP m p n = 14 by rw [HWR4.out, if_pos g2])
          clear g2 hn hsn hul hz0 hz1 hr0 hr1
          go_wp2
          go_ret
          exact ⟨by rw [HE.out]; rfl, HB5.out⟩
        · have x1 : ¬ (64 : Int) < (ln : Int) + 1 := by omega
          have x2 : decide ((64 : Int) < (ln : Int) + 1) = false := decide_eq_false x1
          by_cases g3 : m.room - (ul : Int) + sz < (n : Int)
          · have v1 : m.room < (ul : Int) - sz + (n : Int) := by omega
            have v2 : decide (m.room < (ul : Int) - sz + (n : Int)) = true := decide_eq_true v1
            have HE := Lib.hid (show writeP m p n = 10 by rw [HWR4.out, if_neg g2, if_pos g3])
            clear g2 g3 hn hsn hul hz0 hz1 hr0 hr1
            go_wp2
            go_ret
            exact ⟨by rw [HE.out]; rfl, HB5.out⟩
          · have v1 : ¬ m.room < (ul : Int) - sz + (n : Int) := by omega
            have v2 : decide (m.room < (ul : Int) - sz + (n : Int)) = false := decide_eq_false v1
            have HE := Lib.hid (show writeP m p n = 0 by rw [HWR4.out, if_neg g2, if_neg g3])
            clear g2 g3 hn hsn hul hz0 hz1 hr0 hr1
            go_wp2
            go_ret
            exact ⟨by rw [HE.out]; rfl, HB5.out⟩
set_option maxHeartbeats 1000000 in
theorem refusalD_any (h : Dp w S b m mv md pv vs sl) (hok : DkOk 300 m) (hr0 : 0 ≤ m.room) (hr1 : m.room ≤ 1048576) (p : S8) (n : Nat) (hp : p.length ≤ 1000) (hn : n ≤ 400000) :
    Calls Tryz.prog 59 #[.pointer (some ⟨b, 0, none⟩), .string (mkS p), .int .i64 (n : Int)] w fun e w' => e = .returned (.int .i64 (writeP m p n : Int)) ∧ Below w.heap.size w w' := by
  cases hf : findL m.seen p with
  | none => exact refusal_false h hok hr0 hr1 p n hp hn 0 0 0 none 0 0 (by decide) (by decide) (by rw [leftL_none hf]; omega) (by unfold filesP; rw [hf]; rfl) (look_none h.vis hf)
  | some i =>
    have hz := size_small h.sz hok (findL_in hf)
    exact refusal_true h hok hr0 hr1 p n hp hn _ _ _ _ _ _ hz.1 hz.2 (by rw [leftL_some hf, h.sz.seen _ (findL_in hf)]) (by unfold filesP; rw [hf]; rfl) (look_some h.vis hf _ rfl)
end
end Go.Proofs.YtnmopjefjpifoaaGreatDoor
/- Write of the program's disk. -/
set_option maxRecDepth 100000
namespace Go.Proofs.YtnmopjefjpifoaaGreatDoor
open Go Go.RowKit
attribute [-go_sem] Sha.exec_store

def fileW (m : Dk) (p x : S8) (time : Int) : Fl := ⟨p, m.bodies.length, x.length, time, m.count + 1⟩
def bodyW (m : Dk) (x : S8) : Dk := { m with count := m.count + 1, bodies := m.bodies ++ [x] }
def writeQ (m : Dk) (p x : S8) (time : Int) : Dk × Nat := if writeP m p x.length = 0 then (changeL (bodyW m x) ⟨1, [], fileW m p x time⟩, 0) else (m, writeP m p x.length)
theorem writeQ_eq (m : Dk) (p x : S8) (time : Int) (h : m.seen.length ≤ 64) : writeQ m p x time = writeL m p x time := by
  unfold writeQ
  have h2 := writeP_eq m p x time h
  by_cases h0 : writeP m p x.length = 0
  · rw [if_pos h0]
    rw [h0] at h2
    have : ∀ y, writeL m p x time = y → y.2 = 0 → y = (changeL (bodyW m x) ⟨1, [], fileW m p x time⟩, 0) := by
      intro y hy h3
      unfold writeL at hy
      repeat' split at hy
      all_goals first | (rw [← hy] at h3; cases h3; done) | (rw [← hy]; rfl)
    exact (this _ rfl h2).symm
  · rw [if_neg h0]
    have h3 := writeL_no m p x time (by rw [h2]; exact h0)
    exact (Prod.ext h3 h2).symm
theorem writeP_small {m : Dk} {p : S8} {n : Nat} (h : writeP m p n = 0) : n ≤ 262144 ∧ goodL p = true := by
  unfold writeP at h
  cases hg : goodL p with
  | false => rw [hg] at h; simp at h
  | true =>
    rw [hg] at h
    refine ⟨?_, rfl⟩
    rcases Nat.lt_or_ge 262144 n with g | g
    · rw [if_neg (by decide), if_pos g] at h
      exact absurd h (by decide)
    · exact g
def slPut (sl : Nat → Hn) (i : Nat) (h : Hn) (j : Nat) : Hn := if j = i then h else sl j
theorem slPut_at (sl : Nat → Hn) (i : Nat) (h : Hn) : slPut sl i h i = h := by unfold slPut; rw [if_pos rfl]
theorem slPut_lt (sl : Nat → Hn) {i j : Nat} (h : Hn) (hj : j < i) : slPut sl i h j = sl j := by unfold slPut; rw [if_neg (by omega)]
section
variable {w w' : World} {S S' : Nat → Prop} {b : Nat} {m : Dk} {mv md : Nat} {pv : Value} {vs : List Value} {sl : Nat → Hn}
theorem Dp.count (h : Dp w S b m mv md pv vs sl) (c : Int) : Dp (w.setCell ⟨b, 1, none⟩ (.int .i64 c)) S b { m with count := c } mv md pv vs sl := by
  have hk : ∀ k, k ≠ b → (w.setCell ⟨b, 1, none⟩ (.int .i64 c)).heap[k]? = w.heap[k]? := fun k hne => Below.heap_setCell _ _ _ _ hne
  have nty : ∀ k cs T, w.heap[k]? = some (.cells cs T (0, 0)) → T ≠ 129 → k ≠ b := fun k cs T h2 hT e => by
    rw [e, h.box] at h2
    injection h2 with h2
    injection h2 with _ h2 _
    exact hT h2.symm
  obtain ⟨e1, c1, hv1, _⟩ := id h.vis
  obtain ⟨e2, c2, hd1, _⟩ := id h.dur
  exact ⟨setCell_box h.box 1 _, h.sb, h.sv, h.sd, h.ne, h.vis.keep (hk mv (h.ne_map hv1).1), h.dur.keep (hk md (h.ne_map hd1).1), h.bod.keep (fun k cur _ hc => hk k (nty k cur _ hc (by decide))) (fun _ x => x), h.pd.keep (fun k T cs _ h2 hT => hk k (nty k cs T h2 (by rcases hT with rfl | rfl | rfl <;> decide))) (fun _ x => x), ⟨h.sz.seen, h.sz.safe, h.sz.waits⟩, fun k hk2 => by simpa using h.low k hk2⟩
theorem body_new (m : Dk) (x : S8) {f : Fl} (h : f.body < m.bodies.length) : bodyD { m with bodies := m.bodies ++ [x] } f = bodyD m f := by
  unfold bodyD
  show (m.bodies ++ [x]).getD f.body [] = m.bodies.getD f.body []
  rw [List.getD_eq_getElem?_getD, List.getElem?_append_left h, ← List.getD_eq_getElem?_getD]
theorem Dp.body {n : Nat} (h : Dp w S b m mv md pv vs sl) (hok : DkOk n m) (hB : Below w.heap.size w w') (x : S8) (q : Option Addr) (k c : Nat) (ho : w'.ownsRow w.heap.size 5 1 (.slice q k c) x.length (bytC x)) :
    Dp w' (SN S w.heap.size w'.heap.size) b { m with bodies := m.bodies ++ [x] } mv md pv vs (slPut sl m.bodies.length ⟨q, k, c⟩) := by
  have hw := h.wide hB
  have hlt : ∀ {i}, i < (m.bodies ++ [x]).length → i < m.bodies.length ∨ i = m.bodies.length := fun hi => by
    rw [List.length_append] at hi
    simp at hi
    omega
  have hold : ∀ {i}, i < m.bodies.length → (m.bodies ++ [x]).getD i [] = m.bodies.getD i [] := fun hi => by
    rw [List.getD_eq_getElem?_getD, List.getElem?_append_left hi, ← List.getD_eq_getElem?_getD]
  have hnew : (m.bodies ++ [x]).getD m.bodies.length [] = x := by
    rw [List.getD_eq_getElem?_getD, List.getElem?_append_right (Nat.le_refl _)]
    simp
  have hfile : ∀ f : Fl, f.body < m.bodies.length → sl f.body = slPut sl m.bodies.length ⟨q, k, c⟩ f.body := fun f hf => (slPut_lt sl _ hf).symm
  refine ⟨hw.box, hw.sb, hw.sv, hw.sd, hw.ne, ?_, ?_, ⟨fun i hi => ?_, fun i hi g hg => ?_, fun i j hi hj hne g hg => ?_⟩, ⟨hw.pd.own, hw.pd.in_, fun i hi => ?_⟩, ⟨fun f hf => ?_, fun f hf => ?_, fun y hy hk => ?_⟩, hw.low⟩
  · show MpB w' mv (m.seen.map _)
    rw [← ent_congr (sl := sl) (fun f hf => hfile f (hok.inS f hf))]
    exact hw.vis
  · show MpB w' md (m.safe.map _)
    rw [← ent_congr (sl := sl) (fun f hf => hfile f (hok.inF f hf))]
    exact hw.dur
  · show World.ownsRow _ _ _ _ _ ((m.bodies ++ [x]).getD i []).length (bytC ((m.bodies ++ [x]).getD i []))
    rcases hlt hi with hi | hi
    · rw [hold hi, slPut_lt sl _ hi]
      exact hw.bod.own i hi
    · rw [hi, hnew, slPut_at]
      exact own_lower ho (Nat.zero_le _)
  · rcases hlt hi with hi | hi
    · rw [slPut_lt sl _ hi] at hg
      exact hw.bod.in_ i hi g hg
    · rw [hi, slPut_at] at hg
      exact .inr (ho.lt g hg)
  · rcases hlt hi with hi | hi <;> rcases hlt hj with hj | hj
    · rw [slPut_lt sl _ hi] at hg
      rw [slPut_lt sl _ hj]
      exact hw.bod.ap i j hi hj hne g hg
    · rw [slPut_lt sl _ hi] at hg
      rw [hj, slPut_at]
      intro e
      have h1 := h.low g (h.bod.in_ i hi g hg)
      have h2 := (ho.lt g e).1
      omega
    · rw [hi, slPut_at] at hg
      rw [slPut_lt sl _ hj]
      intro e
      have h1 := h.low g (h.bod.in_ j hj g e)
      have h2 := (ho.lt g hg).1
      omega
    · omega
  · obtain ⟨v, e, hc⟩ := hw.pd.cls i hi
    refine ⟨v, e, ?_⟩
    cases hc with
    | write b1 b2 hk hv h1 h2 s1 s2 =>
      refine .write b1 b2 hk hv h1 ?_ s1 s2
      have hb := hok.inW _ (List.getElem_mem hi) hk
      unfold BoxF fileC at h2 ⊢
      rw [← hfile _ hb]
      exact h2
    | rename b1 b2 hk hv h1 h2 s1 s2 => exact .rename b1 b2 hk hv h1 h2 s1 s2
    | remove b1 hk hv h1 s1 => exact .remove b1 hk hv h1 s1
  · rw [body_new m x (hok.inS f hf)]; exact h.sz.seen f hf
  · rw [body_new m x (hok.inF f hf)]; exact h.sz.safe f hf
  · rw [body_new m x (hok.inW y hy hk)]; exact h.sz.waits y hy hk
theorem DkOk.bodyW {n : Nat} (h : DkOk n m) (x : S8) (hx : x.length ≤ 262144) : DkOk (n + 1) (bodyW m x) := by
  have hl : (m.bodies ++ [x]).length = m.bodies.length + 1 := by simp
  exact ⟨Nat.le_succ_of_le h.seen, Nat.le_succ_of_le h.both, by show (m.bodies ++ [x]).length ≤ _; rw [hl]; exact Nat.add_le_add_right h.bod 1, by have := h.cnt0; show 0 ≤ m.count + 1; omega, by have := h.cnt1; show m.count + 1 ≤ _; push_cast; omega, h.shS, h.shF, h.chk, fun f hf => by show _ < (m.bodies ++ [x]).length; rw [hl]; exact Nat.lt_succ_of_lt (h.inS f hf), fun f hf => by show _ < (m.bodies ++ [x]).length; rw [hl]; exact Nat.lt_succ_of_lt (h.inF f hf), fun c hc hk => by show _ < (m.bodies ++ [x]).length; rw [hl]; exact Nat.lt_succ_of_lt (h.inW c hc hk), fun y hy => by
    rcases List.mem_append.1 hy with hy | hy
    · exact h.bs y hy
    · simp at hy; rw [hy]; exact hx⟩
theorem stamp_cells (u : World) (a b c : Value) : (u.alloc (.cells #[a, b, c] 38)).cell? ⟨u.heap.size, 0, none⟩ = some a ∧ (u.alloc (.cells #[a, b, c] 38)).cell? ⟨u.heap.size, 1, none⟩ = some b ∧ (u.alloc (.cells #[a, b, c] 38)).cell? ⟨u.heap.size, 2, none⟩ = some c := by
  have h := World.alloc_heap_new u (.cells #[a, b, c] 38)
  unfold World.cell?
  rw [h]
  simp
theorem three_kept {u u' : World} {k : Nat} {a b c : Value} (h : u.cell? ⟨k, 0, none⟩ = some a ∧ u.cell? ⟨k, 1, none⟩ = some b ∧ u.cell? ⟨k, 2, none⟩ = some c) (hk : u'.heap[k]? = u.heap[k]?) : u'.cell? ⟨k, 0, none⟩ = some a ∧ u'.cell? ⟨k, 1, none⟩ = some b ∧ u'.cell? ⟨k, 2, none⟩ = some c :=
  ⟨(World.cell?_of_block hk).trans h.1, (World.cell?_of_block hk).trans h.2.1, (World.cell?_of_block hk).trans h.2.2⟩
set_option maxRecDepth 100000 in
set_option maxHeartbeats 8000000 in
theorem write_any (h : Dp w S b m mv md pv vs sl) (hok : DkOk 299 m) (hr0 : 0 ≤ m.room) (hr1 : m.room ≤ 1048576) (p x : S8) (q : Option Addr) (cap : Nat) (time : Int) (hp : p.length ≤ 1000) (hx : x.length ≤ 400000) (hl : LsG (fun k => ¬ S k) w q x.length cap 1 (bytC x)) : Calls Tryz.prog 21 #[.pointer (some ⟨b, 0, none⟩), .string (mkS p), .slice q x.length cap, .int .i64 time] w fun e w' => e = .returned (.int .i64 ((writeQ m p x time).2 : Int)) ∧ DPost S b w (writeQ m p x time).1 w' := by
  have HRF := Lib.hid (refusalD_any h (hok.mono (by decide)) hr0 hr1 p x.length hp hx)
  have H := Lib.hid h
  have HOK := Lib.hid hok
  have HL := Lib.hid hl
  have HPX := Lib.hid (And.intro hp hx)
  have HCT := Lib.hid (And.intro hok.cnt0 hok.cnt1)
  obtain ⟨cd, hcd⟩ : ∃ cd, writeP m p x.length = cd := ⟨_, rfl⟩
  rw [hcd] at HRF
  obtain ⟨xl, hxl⟩ : ∃ xl, x.length = xl := ⟨_, rfl⟩
  rw [hxl] at HRF
  rw [hxl]
  have HXL := Lib.hid hxl
  have HCD := Lib.hid hcd
  clear h hok hl hp hx hcd hr0 hr1 hxl
  by_cases h0 : cd = 0
  · subst h0
    have HW := Lib.hid (show writeQ m p x time = (changeL (Go.Proofs.YtnmopjefjpifoaaGreatDoor.bodyW m x) ⟨1, [], fileW m p x time⟩, 0) by unfold writeQ; rw [if_pos HCD.out])
    have hcw : IntKind.i64.wrap (m.count + 1) = m.count + 1 := by have h1 := HCT.out.1; have h2 := HCT.out.2; rw [IntKind.wrap_i64]; omega
    go_enter Tryz.func21, Tryz.ntmps21
    go_wp2_with fail
    refine HRF.out.mono ?_
    rintro e w1 ⟨rfl, hB1⟩
    have h1 := H.out.of_below hB1
    have c1 := h1.cell 1
    have f1 := h1.free 1
    simp at c1
    have hc2 := h1.count (m.count + 1)
    have c12 := hc2.cell 1
    simp at c12
    have H2 := Lib.hid hc2
    have HB1 := Lib.hid hB1
    clear h1 hB1 hc2
    go_wp2_with fail
    have HBT := Lib.hid (show Below w.heap.size w w1 from HB1.out)
    obtain ⟨U0, hU0⟩ : ∃ U0, w1.setCell ⟨b, 1, none⟩ (.int .i64 (m.count + 1)) = U0 := ⟨_, rfl⟩
    obtain ⟨U, hU⟩ : ∃ U, U0.alloc (.cells #[.int .i64 (xl : Int), .int .i64 time, .int .i64 (m.count + 1)] 38) = U := ⟨_, rfl⟩
    have HU0 := Lib.hid hU0
    have HU := Lib.hid hU
    have hs0 : U0.heap.size = w1.heap.size := by rw [← hU0]; simp
    have hs1 : U.heap.size = U0.heap.size + 1 := by rw [← hU, World.size_alloc]
    have HZ0 := Lib.hid hs0
    have HZ1 := Lib.hid hs1
    have hBU : Below U0.heap.size U0 U := by rw [← hU]; exact (Below.refl _ _).alloc (Nat.le_refl _) _
    have HBU := Lib.hid hBU
    have hst := stamp_cells U0 (.int .i64 (xl : Int)) (.int .i64 time) (.int .i64 (m.count + 1))
    rw [hU] at hst
    have HST := Lib.hid hst
    have hd0 := H2.out
    rw [hU0] at hd0
    have HDU := Lib.hid (hd0.of_below hBU)
    have hokc : DkOk 300 { m with count := m.count + 1 } := ⟨Nat.le_succ_of_le HOK.out.seen, Nat.le_succ_of_le HOK.out.both, Nat.le_succ_of_le HOK.out.bod, by have := HCT.out.1; show 0 ≤ m.count + 1; omega, by have := HCT.out.2; show m.count + 1 ≤ _; omega, HOK.out.shS, HOK.out.shF, HOK.out.chk, HOK.out.inS, HOK.out.inF, HOK.out.inW, HOK.out.bs⟩
    have HOKC := Lib.hid hokc
    obtain ⟨hxle, hpl⟩ := writeP_small HCD.out
    have HOKB := Lib.hid (HOK.out.bodyW x hxle)
    have HPL := Lib.hid (goodL_len hpl)
    have hlw : LsC U q (bytC x) := (HL.out.keep (w' := U) (fun c hns hc => by
      rw [hBU.block c (by rw [hs0]; exact Nat.lt_of_lt_of_le hc HB1.out.size), ← hU0, Below.heap_setCell _ _ _ _ (fun e2 => hns (by rw [e2]; exact H.out.sb))]
      exact HB1.out.block c hc) (Nat.le_trans HB1.out.size (by rw [← hs0]; exact hBU.size))).at_
    have HCL := Lib.hid (clone8_any x q xl cap U.drew HXL.out (hlw.of_below (Below.refl _ _).drew) HL.out.nil (by have := HL.out.le; rw [HXL.out] at this; exact this) (by have := HXL.out; omega))
    have HST0 := Lib.hid hst
    have HSTK := Lib.hid (fun (u : World) (hb : u.heap[U0.heap.size]? = U.heap[U0.heap.size]?) => three_kept hst hb)
    obtain ⟨s1, s2, s3⟩ := hst
    obtain ⟨r1, r2, r3⟩ := HSTK.out U.drew rfl
    have HBW : Hid (Kq8 S w U) := Lib.hid ⟨by rw [hBU.os, ← hU0]; exact HB1.out.os, by rw [hBU.tape, ← hU0]; exact HB1.out.tape, by rw [hBU.output, ← hU0]; exact HB1.out.output, Nat.le_trans HB1.out.size (by rw [← hs0]; exact hBU.size), fun k hk hn => by
      rw [hBU.block k (by rw [hs0]; exact Nat.lt_of_lt_of_le hk HB1.out.size), ← hU0, Below.heap_setCell _ _ _ _ (fun e2 => hn (by rw [e2]; exact H.out.sb))]
      exact HB1.out.block k hk⟩
    rw [HU0.out, HZ0.out.symm, HU.out]
    clear hokc hxle hpl hlw hBU hU hU0 hd0 c1 f1 c12 hs0 hs1
    go_region_held3 (fun u : World => u.cell? ⟨U0.heap.size, 0, none⟩ = some (.int .i64 (xl : Int)) ∧ u.cell? ⟨U0.heap.size, 1, none⟩ = some (.int .i64 time) ∧ u.cell? ⟨U0.heap.size, 2, none⟩ = some (.int .i64 (m.count + 1))) (first | exact ⟨r1, r2, r3⟩ | exact ⟨z1, z2, z3⟩ | exact ⟨y1, y2, y3⟩ | exact ⟨t1, t2, t3⟩ | go_keep) ((first
      | (go_at_call 62
         refine HCL.out.mono ?_
         rintro e w3 ⟨v, rfl, hO, hB3⟩
         obtain ⟨q3, c3, hv3⟩ := own_slice hO
         subst hv3
         have hB3b : Below U.heap.size U w3 := ((Below.refl _ _).drew).trans (by exact hB3)
         obtain ⟨z1, z2, z3⟩ := HSTK.out w3 (hB3b.block _ (by rw [HZ1.out]; omega))
         have hO2 : w3.ownsRow U.heap.size 5 1 (.slice q3 xl c3) x.length (bytC x) := by rw [HXL.out]; exact hO
         have hD3 := HDU.out.body HOKC.out hB3b x q3 xl c3 hO2
         have HD3 := Lib.hid hD3
         have hWR := writing_any (slPut sl m.bodies.length ⟨q3, xl, c3⟩) (fileW m p x time) w3 (Nat.lt_of_le_of_lt HPL.out (by decide))
         unfold fileW at hWR
         simp only [slPut_at, HXL.out] at hWR
         have HWR := Lib.hid hWR
         have HB3 := Lib.hid hB3b
         clear hO hB3 hB3b hO2 hD3 hWR)
      | (go_at_call 61
         refine HWR.out.mono ?_
         rintro e w4 ⟨rfl, hb1, hb2, hB4⟩
         obtain ⟨y1, y2, y3⟩ := HSTK.out w4 ((hB4.block _ (Nat.lt_of_lt_of_le (by rw [HZ1.out]; omega) HB3.out.size)).trans (HB3.out.block _ (by rw [HZ1.out]; omega)))
         have hD4 : Dp w4 (SN S U.heap.size w4.heap.size) b (Go.Proofs.YtnmopjefjpifoaaGreatDoor.bodyW m x) mv md pv vs (slPut sl m.bodies.length ⟨q3, xl, c3⟩) :=
           (HD3.out.wide hB4).keep (fun _ _ => rfl) (fun k hk => SN.join HB3.out.size hB4.size k hk) (SN.low (HDU.out.low) (Nat.le_trans HB3.out.size hB4.size))
         have hcl : ClsV w4 (SN S U.heap.size w4.heap.size) (slPut sl m.bodies.length ⟨q3, xl, c3⟩) ⟨1, [], fileW m p x time⟩ (.func (.func 127) #[] #[.pointer (some ⟨w3.heap.size, 0, none⟩), .pointer (some ⟨w3.heap.size + 1, 0, none⟩)]) :=
           .write _ _ rfl rfl hb1 (by
             have e : fileW m p x time = ⟨p, m.bodies.length, (xl : Int), time, m.count + 1⟩ := by unfold fileW; rw [HXL.out]
             show BoxF _ _ _ (fileW m p x time)
             rw [e]
             exact hb2) (.inr ⟨HB3.out.size, hb1.lt⟩) (.inr ⟨Nat.le_succ_of_le HB3.out.size, hb2.lt⟩)
         have HDO := Lib.hid (do_any hD4 HOKB.out hcl (Nat.lt_of_le_of_lt HPL.out (by decide)) (fun _ => by
           show (x.length : Int) = (((m.bodies ++ [x]).getD m.bodies.length []).length : Int)
           rw [List.getD_eq_getElem?_getD, List.getElem?_append_right (Nat.le_refl _)]
           simp))
         have HB4 := Lib.hid hB4
         clear hb1 hb2 hB4 hD4 hcl)
      | (go_at_call 60
         refine HDO.out.mono ?_
         rintro e w5 ⟨rfl, hd, hk⟩
         have hns : ¬ SN S U.heap.size w4.heap.size U0.heap.size := fun e => by
           rcases e with e | e
           · have h1 := H.out.low _ e
             have h2 := HB1.out.size
             have h3 := HZ0.out
             omega
           · have := HZ1.out
             omega
         obtain ⟨t1, t2, t3⟩ := HSTK.out w5 ((hk.block _ (Nat.lt_of_lt_of_le (by rw [HZ1.out]; omega) (Nat.le_trans HB3.out.size HB4.out.size)) hns).trans ((HB4.out.block _ (Nat.lt_of_lt_of_le (by rw [HZ1.out]; omega) HB3.out.size)).trans (HB3.out.block _ (by rw [HZ1.out]; omega))))
         have HFIN : Hid (DPost S b w (changeL (Go.Proofs.YtnmopjefjpifoaaGreatDoor.bodyW m x) ⟨1, [], fileW m p x time⟩) w5) := Lib.hid (by
           obtain ⟨pv2, vs2, hd⟩ := hd
           have hB34 : Below U.heap.size U w4 := HB3.out.trans (HB4.out.mono HB3.out.size)
           have hp := DPost.after hB34 HDU.out.low (m := changeL (Go.Proofs.YtnmopjefjpifoaaGreatDoor.bodyW m x) ⟨1, [], fileW m p x time⟩) ⟨⟨_, _, _, _, _, hd⟩, hk⟩
           obtain ⟨⟨a1, a2, a3, a4, a5, hd5⟩, hk5⟩ := hp
           refine ⟨⟨a1, a2, a3, a4, a5, hd5.keep (fun _ _ => rfl) (fun i hi => ?_) (SN.low H.out.low (Nat.le_trans HBW.out.size hk5.size))⟩, ?_⟩
           · rcases hi with e | e
             · exact .inl e
             · exact .inr ⟨Nat.le_trans HBW.out.size e.1, e.2⟩
           · exact ⟨hk5.os.trans HBW.out.os, hk5.tape.trans HBW.out.tape, hk5.output.trans HBW.out.output, Nat.le_trans HBW.out.size hk5.size, fun i hi hn => (hk5.block i (Nat.lt_of_lt_of_le hi HBW.out.size) hn).trans (HBW.out.block i hi hn)⟩)
         clear hd hk hns)
      ))
    clear s1 s2 s3 r1 r2 r3 z1 z2 z3 y1 y2 y3 t1 t2 t3
    go_wp2
    go_ret
    rw [HW.out]
    exact ⟨rfl, HFIN.out⟩
  · have hne : ((cd : Int) != 0) = true := by simp; omega
    have HW := Lib.hid (show writeQ m p x time = (m, cd) by unfold writeQ; rw [HCD.out, if_neg h0])
    clear h0
    go_enter Tryz.func21, Tryz.ntmps21
    go_wp2_with fail
    refine HRF.out.mono ?_
    rintro e w1 ⟨rfl, hB1⟩
    have HB1 := Lib.hid hB1
    clear hB1
    go_wp2
    go_ret
    rw [HW.out]
    exact ⟨rfl, DPost.same H.out HB1.out⟩
end
end Go.Proofs.YtnmopjefjpifoaaGreatDoor
/- Paths of the program's disk: the map's keys, sorted. -/
set_option maxRecDepth 100000
namespace Go.Proofs.YtnmopjefjpifoaaGreatDoor
open Go Go.RowKit Go.WideShapes
attribute [-go_sem] Sha.exec_store
open Go.WideElems (rd rg rd_mk rg_of)
open Go.WideMaps (keyOf_string_mk)

def kbS : Value → S8
  | .string s => s.data.toList
  | _ => []
theorem mkS_data (p : S8) : (mkS p).data.toList = p := by unfold mkS; simp
theorem kbS_mk (p : S8) : kbS (.string (mkS p)) = p := mkS_data p
def unitR (_ : Value) : Option (DataW Unit × List MemPlace) := some (.nil, [])
theorem MpB.owns {w : World} {b : Nat} {l : List (S8 × Value)} (h : MpB w b l) (hk : ∀ x ∈ l, x.1.length ≤ 1000) (hn : l.length ≤ 100000) :
    ∃ D : DataW Unit, w.ownsMap Tryz.prog 9 unitR b l.length D ∧ (strKeys D).Perm (l.map (·.1)) ∧ Maps.size D = l.length := by
  obtain ⟨es, clock, hb, r⟩ := h
  have hsz := r.size
  have hrd : ∀ x ∈ es.toList, rd Tryz.prog 9 unitR x = some (.string (kbS x.key), .nil) := fun x hx => by
    obtain ⟨p, v, hm, e1, e2⟩ := r.mem hx
    have hl : p.length ≤ 1000 := hk _ hm
    have hkey := keyOf_string_mk (P := Tryz.prog) strT (s := mkS p) (by rw [mkS_size]; simp only [maxLen]; omega)
    rw [mkS_data] at hkey
    obtain ⟨key, val, born⟩ := x
    dsimp only at e1
    subst e1
    rw [kbS_mk]
    exact rd_mk (R := unitR) (yv := (DataW.nil, [])) hkey rfl
  have hrg : es.toList.map (rg Tryz.prog 9 unitR) = es.toList.map fun x => (.string (kbS x.key), .nil) := List.map_congr_left fun x hx => rg_of (hrd x hx)
  refine ⟨_, ⟨es, clock, hb, ⟨by simp only [maxLen]; omega, r.st, fun x hx => ⟨_, hrd x hx⟩⟩, by omega, rfl⟩, ?_, ?_⟩
  · show ((List.foldr DataW.insert [] _).map fun p => _root_.Go.strOf p.1).Perm _
    refine ((sorted_perm _).map _).trans ?_
    rw [hrg, List.map_map]
    have e1 : (es.toList.map ((fun p : Lit × DataW Unit => _root_.Go.strOf p.1) ∘ fun x : MapEntry => (Lit.string (kbS x.key), DataW.nil))) = (es.toList.map kvE).map fun x => kbS x.1 := by
      rw [List.map_map]
      rfl
    rw [e1]
    refine (r.kv.map _).trans (List.Perm.of_eq ?_)
    rw [List.map_map]
    exact List.map_congr_left fun x _ => kbS_mk x.1
  · show (List.foldr DataW.insert [] _).length = _
    rw [length_sorted, List.length_map, ← hsz]
    simp
theorem encStr_mk (l : List S8) : l.map encStr = l.map fun s => .string (mkS s) := List.map_congr_left fun s _ => by show Value.string ⟨s.toArray⟩ = _; rw [mkS_lit]
section
variable {w w' : World} {S S' : Nat → Prop} {b : Nat} {m : Dk} {mv md : Nat} {pv : Value} {vs : List Value} {sl : Nat → Hn}
theorem sort_strict {l : List S8} (hn : l.Nodup) : ((l.mergeSort fun x y => decide (x ≤ y))).Pairwise fun x y => decide (y ≤ x) = false := by
  have tr : ∀ a b c : S8, (fun x y : S8 => decide (x ≤ y)) a b = true → (fun x y : S8 => decide (x ≤ y)) b c = true → (fun x y : S8 => decide (x ≤ y)) a c = true := fun a b c h1 h2 => by simp only [decide_eq_true_eq] at *; exact List.le_trans h1 h2
  have to : ∀ a b : S8, ((fun x y : S8 => decide (x ≤ y)) a b || (fun x y : S8 => decide (x ≤ y)) b a) = true := fun a b => by simp only [Bool.or_eq_true, decide_eq_true_eq]; exact List.le_total a b
  have h1 := List.pairwise_mergeSort tr to l
  have h2 : (l.mergeSort fun x y => decide (x ≤ y)).Nodup := ((List.mergeSort_perm l _).nodup_iff).2 hn
  refine (h1.and h2).imp fun {x y} h => ?_
  rw [decide_eq_false_iff_not]
  intro h3
  have h4 : x ≤ y := by simpa using h.1
  exact h.2 (List.le_antisymm h4 h3)
set_option maxRecDepth 100000 in
set_option maxHeartbeats 4000000 in
theorem paths_any (h : Dp w S b m mv md pv vs sl) (hok : DkOk 300 m) : Calls Tryz.prog 172 #[.pointer (some ⟨b, 0, none⟩)] w fun e w' => ∃ (v : Value) (ls : List S8), e = .returned v ∧ ls.Perm (m.seen.map Fl.p) ∧ ls.Pairwise (fun x y => decide (y ≤ x) = false) ∧ w'.ownsRow w.heap.size 9 1 v ls.length (ls.map fun s => .string (mkS s)) ∧ Below w.heap.size w w' := by
  have c2 := h.cell 2
  simp at c2
  obtain ⟨D, hown, hperm, hsize⟩ := h.vis.owns (fun x hx => by
    obtain ⟨f, hf, rfl⟩ := List.mem_map.1 hx
    have := (shortF_iff.1 hok.shS) f hf
    exact Nat.le_trans this (by decide)) (by rw [List.length_map]; have := hok.seen; omega)
  rw [List.length_map] at hsize hown
  have e0 : (m.seen.map (entV sl)).map (·.1) = m.seen.map Fl.p := by rw [List.map_map]; rfl
  rw [e0] at hperm
  have HPM := Lib.hid hperm
  have HON := Lib.hid h.vis.once
  have HKY := Lib.hid (callsIn_wide.1 (Tryz.maps_Keys_214 (some mv) w))
  have hsn := hok.seen
  have HST := Lib.hid (callsIn_wide.1 (Tryz.slices_Sorted_keys_110_214 mv m.seen.length D unitR w hown (by rw [hsize]; simp only [maxLen]; omega) (by rw [hsize]; omega)))
  have HSZ := Lib.hid (World.size_alloc w (.cells #[.map (some mv)] 126))
  have HB := Lib.hid ((Below.refl w.heap.size w).alloc (Nat.le_refl _) (.cells #[.map (some mv)] 126))
  clear h hok hown hperm hsize hsn e0
  go_enter Tryz.func172, Tryz.ntmps172
  go_wp2_with fail
  refine HKY.out.mono ?_
  rintro e w2 ⟨rfl, rfl⟩
  go_wp2_with fail
  refine HST.out.mono ?_
  rintro e w3 ⟨v, ss, rfl, hp, hrow, _, hB⟩
  have HX := Lib.hid (And.intro hp (And.intro hrow hB))
  clear hp hrow hB HKY HST
  go_wp2
  go_ret
  obtain ⟨hp, hrow, hB⟩ := HX.out
  have hpp := hp.trans HPM.out
  refine ⟨v, ss.mergeSort (fun x y => decide (x ≤ y)), rfl, (List.mergeSort_perm ss _).trans hpp, sort_strict ((hpp.nodup_iff).2 HON.out), ?_, HB.out.trans (hB.mono HB.out.size)⟩
  rw [(List.mergeSort_perm ss _).length_eq, ← encStr_mk]
  exact own_lower hrow HB.out.size
end
end Go.Proofs.YtnmopjefjpifoaaGreatDoor
/- GF(2^8) on numbers of eight bits: products by powers and logarithms of the generator; nothing of the program. -/
set_option maxRecDepth 100000
namespace Go.Proofs.YtnmopjefjpifoaaGreatDoor

/-- A number times the generator. -/
def xt (x : BitVec 8) : BitVec 8 := (x <<< 1) ^^^ (if x.getLsbD 7 then 29#8 else 0#8)
/-- The powers of the generator. -/
def pw : Nat → BitVec 8
  | 0 => 1#8
  | n + 1 => xt (pw n)
def lgs : List Nat := [0, 0, 1, 25, 2, 50, 26, 198, 3, 223, 51, 238, 27, 104, 199, 75, 4, 100, 224, 14, 52, 141, 239, 129, 28, 193, 105, 248, 200, 8, 76, 113, 5, 138, 101, 47, 225, 36, 15, 33, 53, 147, 142, 218, 240, 18, 130, 69, 29, 181, 194, 125, 106, 39, 249, 185, 201, 154, 9, 120, 77, 228, 114, 166, 6, 191, 139, 98, 102, 221, 48, 253, 226, 152, 37, 179, 16, 145, 34, 136, 54, 208, 148, 206, 143, 150, 219, 189, 241, 210, 19, 92, 131, 56, 70, 64, 30, 66, 182, 163, 195, 72, 126, 110, 107, 58, 40, 84, 250, 133, 186, 61, 202, 94, 155, 159, 10, 21, 121, 43, 78, 212, 229, 172, 115, 243, 167, 87, 7, 112, 192, 247, 140, 128, 99, 13, 103, 74, 222, 237, 49, 197, 254, 24, 227, 165, 153, 119, 38, 184, 180, 124, 17, 68, 146, 217, 35, 32, 137, 46, 55, 63, 209, 91, 149, 188, 207, 205, 144, 135, 151, 178, 220, 252, 190, 97, 242, 86, 211, 171, 20, 42, 93, 158, 132, 60, 57, 83, 71, 109, 65, 162, 31, 45, 67, 216, 183, 123, 164, 118, 196, 23, 73, 236, 127, 12, 111, 246, 108, 161, 59, 82, 41, 157, 85, 170, 251, 96, 134, 177, 187, 204, 62, 90, 203, 89, 95, 176, 156, 169, 160, 81, 11, 245, 22, 235, 122, 117, 44, 215, 79, 174, 213, 233, 230, 231, 173, 232, 116, 214, 244, 234, 168, 80, 88, 175]
/-- The logarithm. -/
def lg (x : BitVec 8) : Nat := lgs.getD x.toNat 0
theorem pw_lg' : ∀ n : Nat, n < 256 → n ≠ 0 → pw (lgs.getD n 0) = BitVec.ofNat 8 n := by decide +kernel
theorem lg_lt' : ∀ n : Nat, n < 256 → lgs.getD n 0 < 255 := by decide +kernel
theorem lg_pw' : ∀ n : Nat, n < 255 → lg (pw n) = n := by decide +kernel
theorem pw_ne' : ∀ n : Nat, n < 255 → pw n ≠ 0#8 := by decide +kernel
theorem pw_255 : pw 255 = 1#8 := by decide +kernel
theorem xt_zero : xt 0#8 = 0#8 := by decide
theorem xt_xor (a b : BitVec 8) : xt (a ^^^ b) = xt a ^^^ xt b := by
  unfold xt
  rw [BitVec.getLsbD_xor, BitVec.shiftLeft_xor_distrib]
  have h : ∀ p q s : BitVec 8, p ^^^ q = p ^^^ s ^^^ (q ^^^ s) := fun p q s => by
    rw [show p ^^^ s ^^^ (q ^^^ s) = (p ^^^ q) ^^^ (s ^^^ s) by ac_rfl, BitVec.xor_self, BitVec.xor_zero]
  cases a.getLsbD 7 <;> cases b.getLsbD 7
  · simp
  · simp; ac_rfl
  · simp; ac_rfl
  · simpa using h _ _ _
theorem pw_lg (x : BitVec 8) (h : x ≠ 0#8) : pw (lg x) = x := by
  have := pw_lg' x.toNat x.isLt (fun e => h (BitVec.eq_of_toNat_eq (by simpa using e)))
  unfold lg
  rw [this, BitVec.ofNat_toNat, BitVec.setWidth_eq]
theorem lg_lt (x : BitVec 8) : lg x < 255 := lg_lt' x.toNat x.isLt
theorem pw_add (n : Nat) : pw (n + 255) = pw n := by
  induction n with
  | zero => exact pw_255
  | succ n ih =>
    show xt (pw (n + 255)) = xt (pw n)
    rw [ih]
theorem pw_mul (q r : Nat) : pw (255 * q + r) = pw r := by
  induction q with
  | zero => simp
  | succ q ih => rw [show 255 * (q + 1) + r = (255 * q + r) + 255 by omega, pw_add, ih]
theorem pw_mod (n : Nat) : pw (n % 255) = pw n := by
  have := pw_mul (n / 255) (n % 255)
  rw [Nat.div_add_mod] at this
  exact this.symm
theorem pw_congr {m n : Nat} (h : m % 255 = n % 255) : pw m = pw n := by rw [← pw_mod m, h, pw_mod]
theorem pw_ne (n : Nat) : pw n ≠ 0#8 := by rw [← pw_mod]; exact pw_ne' _ (Nat.mod_lt _ (by decide))
theorem lg_pw (n : Nat) : lg (pw n) = n % 255 := by rw [← pw_mod]; exact lg_pw' _ (Nat.mod_lt _ (by decide))

/-- The product. -/
def gm (a b : BitVec 8) : BitVec 8 := if a = 0#8 ∨ b = 0#8 then 0#8 else pw (lg a + lg b)
theorem gm_zl (b : BitVec 8) : gm 0#8 b = 0#8 := by simp [gm]
theorem gm_zr (a : BitVec 8) : gm a 0#8 = 0#8 := by simp [gm]
theorem gm_comm (a b : BitVec 8) : gm a b = gm b a := by
  unfold gm
  rw [Nat.add_comm (lg a)]
  by_cases h : a = 0#8 <;> by_cases k : b = 0#8 <;> simp [h, k]
theorem gm_pw (m n : Nat) : gm (pw m) (pw n) = pw (m + n) := by
  unfold gm
  rw [if_neg (by simp [pw_ne]), lg_pw, lg_pw]
  exact pw_congr (by omega)
theorem ex_pw (a : BitVec 8) (h : a ≠ 0#8) : ∃ n, n < 255 ∧ a = pw n := ⟨lg a, lg_lt a, (pw_lg a h).symm⟩
theorem gm_one (a : BitVec 8) : gm 1#8 a = a := by
  by_cases h : a = 0#8
  · rw [h, gm_zr]
  · obtain ⟨n, _, rfl⟩ := ex_pw a h
    rw [show (1#8 : BitVec 8) = pw 0 from rfl, gm_pw, Nat.zero_add]
theorem gm_one_r (a : BitVec 8) : gm a 1#8 = a := by rw [gm_comm, gm_one]
theorem gm_assoc (a b c : BitVec 8) : gm (gm a b) c = gm a (gm b c) := by
  by_cases ha : a = 0#8
  · simp [ha, gm_zl]
  by_cases hb : b = 0#8
  · simp [hb, gm_zl, gm_zr]
  by_cases hc : c = 0#8
  · simp [hc, gm_zr]
  obtain ⟨i, _, rfl⟩ := ex_pw a ha
  obtain ⟨j, _, rfl⟩ := ex_pw b hb
  obtain ⟨k, _, rfl⟩ := ex_pw c hc
  simp only [gm_pw, Nat.add_assoc]
theorem gm_ne (a b : BitVec 8) (ha : a ≠ 0#8) (hb : b ≠ 0#8) : gm a b ≠ 0#8 := by
  unfold gm
  rw [if_neg (by simp [ha, hb])]
  exact pw_ne _
theorem gm_xt (a b : BitVec 8) : gm a (xt b) = xt (gm a b) := by
  by_cases ha : a = 0#8
  · simp [ha, gm_zl, xt_zero]
  by_cases hb : b = 0#8
  · simp [hb, gm_zr, xt_zero]
  obtain ⟨i, _, rfl⟩ := ex_pw a ha
  obtain ⟨j, _, rfl⟩ := ex_pw b hb
  rw [show xt (pw j) = pw (j + 1) from rfl, gm_pw, gm_pw]
  rfl
theorem gm_xt_l (a b : BitVec 8) : gm (xt a) b = xt (gm a b) := by rw [gm_comm, gm_xt, gm_comm]
theorem gm_pw_xor (n : Nat) (b c : BitVec 8) : gm (pw n) (b ^^^ c) = gm (pw n) b ^^^ gm (pw n) c := by
  induction n with
  | zero => simp only [show pw 0 = 1#8 from rfl, gm_one]
  | succ n ih => rw [show pw (n + 1) = xt (pw n) from rfl, gm_xt_l, gm_xt_l, gm_xt_l, ih, xt_xor]
theorem gm_xor (a b c : BitVec 8) : gm a (b ^^^ c) = gm a b ^^^ gm a c := by
  by_cases ha : a = 0#8
  · simp [ha, gm_zl]
  · obtain ⟨i, _, rfl⟩ := ex_pw a ha
    exact gm_pw_xor i b c
theorem gm_xor_l (a b c : BitVec 8) : gm (a ^^^ b) c = gm a c ^^^ gm b c := by rw [gm_comm, gm_xor, gm_comm c, gm_comm c]

/-- The inverse. -/
def gi (a : BitVec 8) : BitVec 8 := pw (255 - lg a)
theorem gi_ne (a : BitVec 8) : gi a ≠ 0#8 := pw_ne _
theorem gm_gi (a : BitVec 8) (h : a ≠ 0#8) : gm a (gi a) = 1#8 := by
  have hl := lg_lt a
  obtain ⟨n, hn, e⟩ := ex_pw a h
  have : lg a = n := by rw [e, lg_pw, Nat.mod_eq_of_lt hn]
  unfold gi
  rw [this, e, gm_pw, show n + (255 - n) = 255 by omega, pw_255]
/-- What is left of a number of 16 bits by 285. -/
def rd (n : Nat) : BitVec 8 := BitVec.ofNat 8 n ^^^ gm (pw 8) (BitVec.ofNat 8 (n >>> 8))
end Go.Proofs.YtnmopjefjpifoaaGreatDoor
/- The reference's product and inverse. -/
set_option maxRecDepth 100000
namespace Go.Proofs.YtnmopjefjpifoaaGreatDoor
open Go Go.RowKit
attribute [-go_sem] Sha.exec_store

theorem conv_BI (x : BitVec 8) (w : World) : (convert 5 3 (B x)).run Tryz.prog w = .ok (.int .i64 (x.toNat : Int)) w := run_convert_BI w _ _ x (by kernel_rfl) (by kernel_rfl)
attribute [local go_sem] conv_BI
end Go.Proofs.YtnmopjefjpifoaaGreatDoor
/- Matrices over GF(2^8) as functions: products, row steps, determinants, Cauchy matrices; nothing of the program. -/
set_option maxRecDepth 100000
namespace Go.Proofs.YtnmopjefjpifoaaGreatDoor

/-! Sums -/
def xs : Nat → (Nat → BitVec 8) → BitVec 8
  | 0, _ => 0#8
  | n + 1, f => xs n f ^^^ f n
theorem xs_congr {n : Nat} {f g : Nat → BitVec 8} (h : ∀ i, i < n → f i = g i) : xs n f = xs n g := by
  induction n with
  | zero => rfl
  | succ n ih => show xs n f ^^^ f n = xs n g ^^^ g n; rw [ih (fun i hi => h i (by omega)), h n (by omega)]
theorem xs_zero (n : Nat) : xs n (fun _ => 0#8) = 0#8 := by
  induction n with
  | zero => rfl
  | succ n ih => show xs n _ ^^^ 0#8 = 0#8; rw [ih]; rfl
theorem xs_zero' {n : Nat} {f : Nat → BitVec 8} (h : ∀ i, i < n → f i = 0#8) : xs n f = 0#8 := by rw [xs_congr h, xs_zero]
theorem xs_add (n : Nat) (f g : Nat → BitVec 8) : xs n (fun i => f i ^^^ g i) = xs n f ^^^ xs n g := by
  induction n with
  | zero => exact (BitVec.xor_zero (x := 0#8)).symm
  | succ n ih =>
    show xs n _ ^^^ (f n ^^^ g n) = xs n f ^^^ f n ^^^ (xs n g ^^^ g n)
    rw [ih]; ac_rfl
theorem xs_mul (n : Nat) (c : BitVec 8) (f : Nat → BitVec 8) : xs n (fun i => gm c (f i)) = gm c (xs n f) := by
  induction n with
  | zero => exact (gm_zr c).symm
  | succ n ih => show xs n _ ^^^ gm c (f n) = gm c (xs n f ^^^ f n); rw [ih, gm_xor]
theorem xs_mul_r (n : Nat) (c : BitVec 8) (f : Nat → BitVec 8) : xs n (fun i => gm (f i) c) = gm (xs n f) c := by
  rw [gm_comm, ← xs_mul]; exact xs_congr fun i _ => gm_comm _ _
theorem xs_swap (n m : Nat) (f : Nat → Nat → BitVec 8) : xs n (fun i => xs m (fun j => f i j)) = xs m (fun j => xs n (fun i => f i j)) := by
  induction n with
  | zero => exact (xs_zero m).symm
  | succ n ih =>
    show xs n _ ^^^ xs m (fun j => f n j) = xs m (fun j => xs n (fun i => f i j) ^^^ f n j)
    rw [ih, xs_add]
theorem xs_one (n k : Nat) (h : k < n) (f : Nat → BitVec 8) (h0 : ∀ i, i < n → i ≠ k → f i = 0#8) : xs n f = f k := by
  induction n with
  | zero => omega
  | succ n ih =>
    show xs n f ^^^ f n = f k
    by_cases e : k = n
    · subst e
      rw [xs_zero' fun i hi => h0 i (by omega) (by omega), BitVec.zero_xor]
    · rw [ih (by omega) (fun i hi => h0 i (by omega)), h0 n (by omega) (Ne.symm e), BitVec.xor_zero]
theorem xor_self' (x : BitVec 8) : x ^^^ x = 0#8 := BitVec.xor_self
theorem xor_eq_zero (x y : BitVec 8) (h : x ^^^ y = 0#8) : x = y := by
  have : x ^^^ y ^^^ y = y := by rw [h, BitVec.zero_xor]
  rwa [BitVec.xor_assoc, BitVec.xor_self, BitVec.xor_zero] at this
theorem gm_eq_zero (a b : BitVec 8) (ha : a ≠ 0#8) (h : gm a b = 0#8) : b = 0#8 := by
  by_cases hb : b = 0#8
  · exact hb
  · exact absurd h (gm_ne a b ha hb)
/-- A symmetric double sum without its diagonal is nothing. -/
theorem xs_sym (n : Nat) (g : Nat → Nat → BitVec 8) (hs : ∀ i j, i < n → j < n → g i j = g j i) (hd : ∀ i, i < n → g i i = 0#8) : xs n (fun i => xs n (fun j => g i j)) = 0#8 := by
  induction n with
  | zero => rfl
  | succ n ih =>
    show xs n (fun i => xs n (fun j => g i j) ^^^ g i n) ^^^ (xs n (fun j => g n j) ^^^ g n n) = 0#8
    rw [xs_add, ih (fun i j hi hj => hs i j (by omega) (by omega)) (fun i hi => hd i (by omega)), hd n (by omega), BitVec.xor_zero, BitVec.zero_xor,
      xs_congr (fun j hj => hs n j (by omega) (by omega)), xor_self']

/-! Products -/
abbrev Mx := Nat → Nat → BitVec 8
def mm (n : Nat) (a b : Mx) : Mx := fun i k => xs n (fun j => gm (a i j) (b j k))
def id1 : Mx := fun i j => if i = j then 1#8 else 0#8
theorem mm_assoc (n : Nat) (a b c : Mx) (i k : Nat) : mm n (mm n a b) c i k = mm n a (mm n b c) i k := by
  unfold mm
  have e1 : ∀ j, gm (xs n fun l => gm (a i l) (b l j)) (c j k) = xs n (fun l => gm (gm (a i l) (b l j)) (c j k)) := fun j => (xs_mul_r n _ _).symm
  have e2 : ∀ l, gm (a i l) (xs n fun j => gm (b l j) (c j k)) = xs n (fun j => gm (gm (a i l) (b l j)) (c j k)) := fun l => by
    rw [← xs_mul]; exact xs_congr fun j _ => (gm_assoc _ _ _).symm
  rw [xs_congr fun j _ => e1 j, xs_congr fun l _ => e2 l, xs_swap]
theorem mm_id_l (n : Nat) (a : Mx) (i k : Nat) (h : i < n) : mm n id1 a i k = a i k := by
  unfold mm
  rw [xs_one n i h]
  · unfold id1; rw [if_pos rfl, gm_one]
  · intro j _ hj
    unfold id1; rw [if_neg (Ne.symm hj), gm_zl]
theorem mm_congr {n : Nat} {a a' b b' : Mx} {i k : Nat} (ha : ∀ j, j < n → a i j = a' i j) (hb : ∀ j, j < n → b j k = b' j k) : mm n a b i k = mm n a' b' i k :=
  xs_congr fun j hj => by rw [ha j hj, hb j hj]

/-! Row steps. A step and the one that takes it back, on the first n rows. -/
structure Rop (n : Nat) (T U : Mx → Mx) : Prop where
  left : ∀ (m : Nat) (X Y : Mx) i k, mm m (T X) Y i k = T (mm m X Y) i k
  left' : ∀ (m : Nat) (X Y : Mx) i k, mm m (U X) Y i k = U (mm m X Y) i k
  back : ∀ X i k, U (T X) i k = X i k
  back' : ∀ X i k, T (U X) i k = X i k
  congr : ∀ X Y : Mx, ∀ k, (∀ i, i < n → X i k = Y i k) → ∀ i, i < n → T X i k = T Y i k
  congr' : ∀ X Y : Mx, ∀ k, (∀ i, i < n → X i k = Y i k) → ∀ i, i < n → U X i k = U Y i k
theorem Rop.refl (n : Nat) : Rop n (fun X => X) (fun X => X) :=
  ⟨fun _ _ _ _ _ => rfl, fun _ _ _ _ _ => rfl, fun _ _ _ => rfl, fun _ _ _ => rfl, fun _ _ _ h => h, fun _ _ _ h => h⟩
theorem Rop.symm {n : Nat} {T U : Mx → Mx} (h : Rop n T U) : Rop n U T := ⟨h.left', h.left, h.back', h.back, h.congr', h.congr⟩
theorem funext2 {X Y : Mx} (h : ∀ i k, X i k = Y i k) : X = Y := funext fun i => funext fun k => h i k
theorem Rop.trans {n : Nat} {T U T' U' : Mx → Mx} (h : Rop n T U) (g : Rop n T' U') : Rop n (fun X => T' (T X)) (fun X => U (U' X)) where
  left m X Y i k := by rw [g.left, funext2 (h.left m X Y)]
  left' m X Y i k := by rw [h.left', funext2 (g.left' m X Y)]
  back X i k := by rw [funext2 (g.back (T X)), h.back]
  back' X i k := by rw [funext2 (h.back' (U' X)), g.back']
  congr X Y k e i hi := g.congr _ _ k (h.congr X Y k e) i hi
  congr' X Y k e i hi := h.congr' _ _ k (g.congr' X Y k e) i hi
def swp (p q i : Nat) : Nat := if i = p then q else if i = q then p else i
def rswap (p q : Nat) (a : Mx) : Mx := fun i k => a (swp p q i) k
def rscale (p : Nat) (c : BitVec 8) (a : Mx) : Mx := fun i k => if i = p then gm c (a i k) else a i k
def radd (p q : Nat) (c : BitVec 8) (a : Mx) : Mx := fun i k => if i = q then a q k ^^^ gm c (a p k) else a i k
theorem swp_swp (p q i : Nat) : swp p q (swp p q i) = i := by
  unfold swp; by_cases h1 : i = p <;> by_cases h2 : i = q <;> by_cases h3 : q = p <;> simp_all
theorem rop_swap (n p q : Nat) (hp : p < n) (hq : q < n) : Rop n (rswap p q) (rswap p q) where
  left m X Y i k := rfl
  left' m X Y i k := rfl
  back X i k := by show X (swp p q (swp p q i)) k = X i k; rw [swp_swp]
  back' X i k := by show X (swp p q (swp p q i)) k = X i k; rw [swp_swp]
  congr X Y k e i hi := e _ (by unfold swp; split; exact hq; split; exact hp; exact hi)
  congr' X Y k e i hi := e _ (by unfold swp; split; exact hq; split; exact hp; exact hi)
theorem scale_left (p : Nat) (c : BitVec 8) (m : Nat) (X Y : Mx) (i k : Nat) : mm m (rscale p c X) Y i k = rscale p c (mm m X Y) i k := by
  unfold rscale mm
  by_cases h : i = p
  · simp only [h, if_true, gm_assoc, xs_mul]
  · simp only [h, if_false]
theorem scale_back (p : Nat) (c : BitVec 8) (hc : c ≠ 0#8) (X : Mx) (i k : Nat) : rscale p (gi c) (rscale p c X) i k = X i k := by
  unfold rscale
  by_cases h : i = p
  · simp only [h, if_true, ← gm_assoc, gm_comm (gi c) c, gm_gi c hc, gm_one]
  · simp only [h, if_false]
theorem scale_back' (p : Nat) (c : BitVec 8) (hc : c ≠ 0#8) (X : Mx) (i k : Nat) : rscale p c (rscale p (gi c) X) i k = X i k := by
  unfold rscale
  by_cases h : i = p
  · simp only [h, if_true, ← gm_assoc, gm_gi c hc, gm_one]
  · simp only [h, if_false]
theorem rop_scale (n p : Nat) (c : BitVec 8) (hc : c ≠ 0#8) : Rop n (rscale p c) (rscale p (gi c)) where
  left := scale_left p c
  left' := scale_left p (gi c)
  back := scale_back p c hc
  back' := scale_back' p c hc
  congr X Y k e i hi := by unfold rscale; rw [e i hi]
  congr' X Y k e i hi := by unfold rscale; rw [e i hi]
theorem add_left (p q : Nat) (c : BitVec 8) (m : Nat) (X Y : Mx) (i k : Nat) : mm m (radd p q c X) Y i k = radd p q c (mm m X Y) i k := by
  unfold radd mm
  by_cases h : i = q
  · simp only [h, if_true, gm_xor_l, gm_assoc, xs_add, xs_mul]
  · simp only [h, if_false]
theorem add_back (p q : Nat) (c : BitVec 8) (hpq : p ≠ q) (X : Mx) (i k : Nat) : radd p q c (radd p q c X) i k = X i k := by
  unfold radd
  by_cases h : i = q
  · subst h; simp only [if_true, if_neg hpq, BitVec.xor_assoc, xor_self', BitVec.xor_zero]
  · simp only [h, if_false]
theorem rop_add (n p q : Nat) (c : BitVec 8) (hpq : p ≠ q) (hp : p < n) (hq : q < n) : Rop n (radd p q c) (radd p q c) where
  left := add_left p q c
  left' := add_left p q c
  back := add_back p q c hpq
  back' := add_back p q c hpq
  congr X Y k e i hi := by unfold radd; rw [e i hi, e q hq, e p hp]
  congr' X Y k e i hi := by unfold radd; rw [e i hi, e q hq, e p hp]
/-- Where steps turn a into the unit, they turn the unit into a's inverse, on either side. -/
theorem Rop.inverse {n : Nat} {T U : Mx → Mx} (h : Rop n T U) (a : Mx) (ha : ∀ i k, i < n → k < n → T a i k = id1 i k) :
    (∀ i k, i < n → k < n → mm n (T id1) a i k = id1 i k) ∧ (∀ i k, i < n → k < n → mm n a (T id1) i k = id1 i k) := by
  have h1 : ∀ i k, i < n → k < n → mm n (T id1) a i k = id1 i k := fun i k hi hk => by
    rw [h.left, h.congr _ a k (fun i hi => mm_id_l n a i k hi) i hi, ha i k hi hk]
  refine ⟨h1, fun i k hi hk => ?_⟩
  have h2 : ∀ j, j < n → a i j = U id1 i j := fun j hj => by
    have := h.congr' (T a) id1 j (fun i hi => ha i j hi hj) i hi
    rwa [h.back] at this
  rw [mm_congr h2 (fun j _ => rfl) (b' := T id1), h.left', h.congr' _ (T id1) k (fun i hi => mm_id_l n (T id1) i k hi) i hi, h.back]
end Go.Proofs.YtnmopjefjpifoaaGreatDoor
/- The reference's Cauchy numbers. -/
set_option maxRecDepth 100000
namespace Go.Proofs.YtnmopjefjpifoaaGreatDoor
open Go Go.RowKit
attribute [-go_sem] Sha.exec_store

end Go.Proofs.YtnmopjefjpifoaaGreatDoor
/- Slices of slices of bytes: read, and appended to. -/
set_option maxRecDepth 100000
namespace Go.Proofs.YtnmopjefjpifoaaGreatDoor
open Go Go.RowKit
attribute [-go_sem] Sha.exec_store

theorem undRows : Tryz.prog.underlying 73 = some (.slice 53) := by kernel_rfl
theorem infoB : (Tryz.prog.info? 53).map (fun i => (i.zero, i.size, i.bytes)) = some (some (.slice none 0 0), 1, 24) := by kernel_rfl
/-- Slices of bytes lie where a slice of their number begins. -/
def Prt (w : World) (p : Option Addr) (ls : List (List (BitVec 8))) : Prop :=
  ∀ i, i < ls.length → ∃ c o q cap, p = some ⟨c, o, none⟩ ∧ w.cell? ⟨c, o + i, none⟩ = some (.slice q (ls.getD i []).length cap) ∧ Sl w q (ls.getD i []) ∧ (q = none → cap = 0) ∧ (ls.getD i []).length ≤ cap
theorem Prt.of_below {w w' : World} {p : Option Addr} {ls : List (List (BitVec 8))} (h : Prt w p ls) (k : Below w.heap.size w w') : Prt w' p ls := fun i hi => by
  obtain ⟨c, o, q, cap, h1, h2, h3, h4, h5⟩ := h i hi
  exact ⟨c, o, q, cap, h1, by rw [k.cell (World.block_lt_of_cell? w _ h2)]; exact h2, h3.of_below k, h4, h5⟩
theorem Prt.dr {w w' : World} {p : Option Addr} {ls : List (List (BitVec 8))} (h : Prt w p ls) (k : Dr w w') : Prt w' p ls := by obtain ⟨N, rfl⟩ := k; exact h
theorem Prt.nil (w : World) (p : Option Addr) : Prt w p [] := fun i hi => absurd hi (by simp)
/-- The numbers of rows as a matrix. -/
def mx (ls : List (List (BitVec 8))) (i j : Nat) : BitVec 8 := (ls.getD i []).getD j 0#8
/-- The slice v, among the blocks from base on, holds the headers of rows that hold ls; no row lies in v's own block. -/
def OwnM (w : World) (base : Nat) (v : Value) (ls : List (List (BitVec 8))) : Prop :=
  ∃ vs : List Value, vs.length = ls.length ∧ w.ownsRow base 53 1 v ls.length vs ∧
    ∀ i, i < ls.length → ∃ q cap, vs[i]? = some (.slice q (ls.getD i []).length cap) ∧ Sl w q (ls.getD i []) ∧ (q = none → cap = 0) ∧ (ls.getD i []).length ≤ cap ∧ ∀ a, q = some a → base ≤ a.block ∧ a.block < w.heap.size ∧ v.ownBlock ≠ some a.block
theorem Sl.of_block {w w' : World} {q : Option Addr} {l : List (BitVec 8)} (h : Sl w q l) (k : ∀ a, q = some a → w'.heap[a.block]? = w.heap[a.block]?) : Sl w' q l := fun j hj => by
  obtain ⟨c, o, e, hc⟩ := h j hj
  refine ⟨c, o, e, ?_⟩
  have := k _ e
  rw [World.cell?_of_block (w := w) (w' := w') (a := ⟨c, o + j, none⟩) this]
  exact hc
theorem OwnM.nil (w : World) (base : Nat) : OwnM w base (.slice none 0 0) [] := ⟨[], rfl, ⟨rfl, .inl ⟨rfl, rfl⟩⟩, fun i hi => absurd hi (by simp)⟩
theorem OwnM.keep {w w' : World} {base : Nat} {v : Value} {ls : List (List (BitVec 8))} (h : OwnM w base v ls) (hsz : w.heap.size ≤ w'.heap.size) (k : ∀ g, base ≤ g → g < w.heap.size → w'.heap[g]? = w.heap[g]?) : OwnM w' base v ls := by
  obtain ⟨vs, h1, h2, h3⟩ := h
  refine ⟨vs, h1, ⟨h2.1, ?_⟩, fun i hi => ?_⟩
  · rcases h2.2 with h' | ⟨g, cap, cur, hv, hb, hg, r⟩
    · exact .inl h'
    · have hlt : g < w.heap.size := by
        rcases Nat.lt_or_ge g w.heap.size with h' | h'
        · exact h'
        · rw [Array.getElem?_eq_none h'] at hg; cases hg
      exact .inr ⟨g, cap, cur, hv, hb, by rw [k g hb hlt]; exact hg, r⟩
  · obtain ⟨q, cap, a1, a2, a3, a4, a5⟩ := h3 i hi
    exact ⟨q, cap, a1, a2.of_block (fun a e => k a.block (a5 a e).1 (a5 a e).2.1), a3, a4, fun a e => ⟨(a5 a e).1, Nat.lt_of_lt_of_le (a5 a e).2.1 hsz, (a5 a e).2.2⟩⟩
theorem OwnM.of_below {w w' : World} {base : Nat} {v : Value} {ls : List (List (BitVec 8))} (h : OwnM w base v ls) (k : Below w.heap.size w w') : OwnM w' base v ls := h.keep k.size fun g _ hg => k.block g hg
theorem OwnM.dr {w w' : World} {base : Nat} {v : Value} {ls : List (List (BitVec 8))} (h : OwnM w base v ls) (k : Dr w w') : OwnM w' base v ls := by obtain ⟨N, rfl⟩ := k; exact h
/-- One row appended. -/
theorem OwnM.push {w : World} {base : Nat} {v : Value} {ls : List (List (BitVec 8))} (h : OwnM w base v ls) (ty : TypeId) (a : Addr) (q : Option Addr) (l : List (BitVec 8)) (n cap : Nat)
    (hc : w.cell? a = some (.slice q n cap)) (hn : l.length = n) (hs : Sl w q l) (hq : q = none → cap = 0) (hle : n ≤ cap) (hqb : ∀ b, q = some b → base ≤ b.block ∧ b.block < w.heap.size ∧ v.ownBlock ≠ some b.block)
    (hlen : ls.length < 100000000) (hb : base ≤ w.heap.size) :
    ∃ g cap' w', (Builtin.append_ #[73, 73] ty #[v, .slice (some a) 1 1]).run Tryz.prog w = .ok (.slice (some ⟨g, 0, none⟩) (ls.length + 1) cap') w' ∧ OwnM w' base (.slice (some ⟨g, 0, none⟩) (ls.length + 1) cap') (ls ++ [l]) ∧ w.grownBy w' v.ownBlock ∧
      (v.ownBlock = some g ∨ g = w.heap.size) ∧ (∀ k, v.ownBlock = some k → base ≤ k ∧ k < w.heap.size) := by
  subst hn
  obtain ⟨vs, h1, h2, h3⟩ := h
  obtain ⟨i0, hi, hz0, hz1, hz2⟩ := info_parts infoB
  obtain ⟨g, cap', w', r1, r2, r3, r4, r5⟩ := run_append_lies (P := Tryz.prog) w 73 ty base 53 i0 (.slice none 0 0) 1 24 undRows hi hz0 hz1 hz2 rfl (by decide) v ls.length vs h2 a 1 1 [.slice q l.length cap] rfl
    (fun j u hu => by
      have : j = 0 := by
        rcases Nat.eq_zero_or_pos j with h | h
        · exact h
        · rw [List.getElem?_eq_none (by simp; omega)] at hu; cases hu
      subst this
      rw [Addr.add_zero', hc]
      simpa using hu)
    (by intro u hu; simp at hu; subst hu; rfl) (by decide) (by simp only [maxLen]; omega) (by omega) hb w.heap.size rfl
  have hkeep : ∀ b : Addr, b.block < w.heap.size → v.ownBlock ≠ some b.block → w'.heap[b.block]? = w.heap[b.block]? ∧ g ≠ b.block := fun b hbl hne =>
    ⟨r3.block b.block hbl (Ne.symm hne), fun e => by
      rcases r4 with r4 | r4
      · exact hne (by rw [r4, e])
      · omega⟩
  refine ⟨g, cap', w', r1, ⟨vs ++ [.slice q l.length cap], by simp [h1], by rw [List.length_append]; exact r2, fun i hi => ?_⟩, r3, r4, fun k hk => World.ownsRow.lt h2 k hk⟩
  have hsz := r3.size
  by_cases hil : i < ls.length
  · obtain ⟨q', cap'', a1, a2, a3, a4, a5⟩ := h3 i hil
    have e : (ls ++ [l]).getD i [] = ls.getD i [] := by simp [List.getD_eq_getElem?_getD, List.getElem?_append_left hil]
    rw [e]
    refine ⟨q', cap'', by rw [List.getElem?_append_left (by omega)]; exact a1, a2.of_block (fun a ea => (hkeep a (a5 a ea).2.1 (a5 a ea).2.2).1), a3, a4, fun a ea => ⟨(a5 a ea).1, Nat.lt_of_lt_of_le (a5 a ea).2.1 hsz, ?_⟩⟩
    intro e'
    exact (hkeep a (a5 a ea).2.1 (a5 a ea).2.2).2 (by simpa [Value.ownBlock] using e')
  · have hi' : i = ls.length := by
      rw [List.length_append] at hi
      have : ([l] : List (List (BitVec 8))).length = 1 := rfl
      omega
    subst hi'
    have e : (ls ++ [l]).getD ls.length [] = l := by simp [List.getD_eq_getElem?_getD]
    rw [e]
    refine ⟨q, cap, by rw [List.getElem?_append_right (by omega), h1]; simp, hs.of_block (fun a ea => (hkeep a (hqb a ea).2.1 (hqb a ea).2.2).1), hq, hle, fun a ea => ⟨(hqb a ea).1, Nat.lt_of_lt_of_le (hqb a ea).2.1 hsz, ?_⟩⟩
    intro e'
    exact (hkeep a (hqb a ea).2.1 (hqb a ea).2.2).2 (by simpa [Value.ownBlock] using e')
end Go.Proofs.YtnmopjefjpifoaaGreatDoor
/- Rows of bytes: one of them, strings of bytes, equal rows; a slice of rows that is returned. -/
set_option maxRecDepth 100000
namespace Go.Proofs.YtnmopjefjpifoaaGreatDoor
open Go Go.RowKit
attribute [-go_sem] Sha.exec_store

theorem Prt.at_ {w : World} {p : Option Addr} {ls : List (List (BitVec 8))} (h : Prt w p ls) (i : Nat) (hi : i < ls.length) :
    ∃ c o q cap, p = some ⟨c, o, none⟩ ∧ c < w.heap.size ∧ w.cell? ⟨c, o + i, none⟩ = some (.slice q (ls.getD i []).length cap) ∧ Sl w q (ls.getD i []) ∧ (q = none → cap = 0) ∧ (ls.getD i []).length ≤ cap := by
  obtain ⟨c, o, q, cap, h1, h2, h3⟩ := h i hi
  exact ⟨c, o, q, cap, h1, World.block_lt_of_cell? w _ h2, h2, h3⟩
theorem str_list (l : List (BitVec 8)) : (strOf l).toList = l.map UInt8.ofBitVec := by
  rw [ByteArray.toList_eq]; simp [strOf]
theorem str_ne (l m : List (BitVec 8)) (h : l ≠ m) : ((strOf l).toList == (strOf m).toList) = false := by
  rw [beq_eq_false_iff_ne, str_list, str_list]
  intro e
  exact h (List.map_inj_right (fun a b e => by injection e) |>.1 e)
theorem OwnM.lt {w : World} {base : Nat} {v : Value} {ls : List (List (BitVec 8))} (h : OwnM w base v ls) : ∀ k, v.ownBlock = some k → base ≤ k ∧ k < w.heap.size := by
  obtain ⟨vs, _, h2, _⟩ := h
  exact World.ownsRow.lt h2
theorem bs0 (w : World) : (bsT 53 0 #[]).run Tryz.prog w = .ok (.value (.slice (some ⟨w.heap.size, 0, none⟩) 0 0)) (w.alloc (.cells #[] 5)) := by kernel_rfl
theorem bsR (q : Option Addr) (n c : Nat) (w : World) : (bsT 73 1 #[(0, .slice q n c)]).run Tryz.prog w = .ok (.value (.slice (some ⟨w.heap.size, 0, none⟩) 1 1)) (w.alloc (.cells #[.slice q n c] 53)) := by
  cases q <;> kernel_rfl
end Go.Proofs.YtnmopjefjpifoaaGreatDoor
/- Rows of bytes that are filled one by one. -/
set_option maxRecDepth 100000
namespace Go.Proofs.YtnmopjefjpifoaaGreatDoor
open Go Go.RowKit
attribute [-go_sem] Sha.exec_store

end Go.Proofs.YtnmopjefjpifoaaGreatDoor
/- Stores of bytes and ints, and slices of bytes that are made. -/
set_option maxRecDepth 100000
namespace Go.Proofs.YtnmopjefjpifoaaGreatDoor
open Go Go.RowKit
attribute [-go_sem] Sha.exec_store

theorem st_B (a : Addr) (x : BitVec 8) (w : World) (hcell : (w.cell? a).isSome = true) (hf : w.frozen? a = false) : (stT 5 (.pointer (some a)) (B x)).run Tryz.prog w = .ok .skip (w.setCell a (B x)) :=
  stT_one 5 a (B x) w (one_B x) (cells_B x) (by kernel_rfl) hcell hf
theorem st_I (a : Addr) (x : Int) (w : World) (hcell : (w.cell? a).isSome = true) (hf : w.frozen? a = false) : (stT 3 (.pointer (some a)) (.int .i64 x)).run Tryz.prog w = .ok .skip (w.setCell a (.int .i64 x)) :=
  stT_one 3 a _ w rfl rfl (by kernel_rfl) hcell hf
theorem st_b (a : Addr) (x : Int) (w : World) (hcell : (w.cell? a).isSome = true) (hf : w.frozen? a = false) : (stT 5 (.pointer (some a)) (.int .u8 x)).run Tryz.prog w = .ok .skip (w.setCell a (.int .u8 x)) :=
  stT_one 5 a _ w rfl rfl (by kernel_rfl) hcell hf
theorem mkB (n : Nat) (w : World) (hn : n < 4294967296) : (mkT 53 (.int .i64 (n : Int)) (.int .i64 (n : Int))).run Tryz.prog w = .ok (.value (.slice (some ⟨w.heap.size, 0, none⟩) n n)) (w.alloc (.cells (zb n) 5)) := by
  have hi : (Tryz.prog.info? 5).map (fun i => (i.zero, i.size, i.bytes)) = some (some (.int .u8 0), 1, 1) := by kernel_rfl
  cases hq : Tryz.prog.info? 5 with
  | none => simp [hq] at hi
  | some i =>
    rw [hq] at hi
    simp only [Option.map_some, Option.some.injEq, Prod.mk.injEq] at hi
    obtain ⟨h1, h2, h3⟩ := hi
    have := run_make (P := Tryz.prog) w 53 5 i (.int .u8 0) (by kernel_rfl) hq h1 .i64 .i64 n n (by omega) (Int.le_refl _) (by rw [h3]; omega) (by omega)
    rw [h2] at this
    simp only [Int.toNat_natCast, Nat.mul_one] at this
    simp only [mkT, Sem.run_bind, this, Result.andThen_ok, Sem.run_pure]
    congr 2
    rw [zb_eq]
    congr 1
    apply Array.ext_getElem?
    intro j
    by_cases hj : j < n <;> simp [madeCells, Value.cells, hj, Nat.mod_one]
end Go.Proofs.YtnmopjefjpifoaaGreatDoor
/- Determinants over GF(2^8), by the first row; what row steps do to them; Cauchy matrices; nothing of the program. -/
set_option maxRecDepth 100000
namespace Go.Proofs.YtnmopjefjpifoaaGreatDoor

def skip (k j : Nat) : Nat := if j < k then j else j + 1
theorem skip_lt {k j n : Nat} (h : j < n) : skip k j < n + 1 := by unfold skip; split <;> omega
def minor (a : Mx) (k : Nat) : Mx := fun i j => a (i + 1) (skip k j)
def det : Nat → Mx → BitVec 8
  | 0, _ => 1#8
  | n + 1, a => xs (n + 1) (fun k => gm (a 0 k) (det n (minor a k)))
theorem det_succ (n : Nat) (a : Mx) : det (n + 1) a = xs (n + 1) (fun k => gm (a 0 k) (det n (minor a k))) := rfl
theorem det_congr {n : Nat} {a b : Mx} (h : ∀ i k, i < n → k < n → a i k = b i k) : det n a = det n b := by
  induction n generalizing a b with
  | zero => rfl
  | succ n ih =>
    rw [det_succ, det_succ]
    refine xs_congr fun k hk => ?_
    rw [h 0 k (by omega) hk, ih (a := minor a k) (b := minor b k) fun i j hi hj => h (i + 1) (skip k j) (by omega) (skip_lt hj)]
/-- A row in the place of another. -/
def setr (a : Mx) (p : Nat) (u : Nat → BitVec 8) : Mx := fun i k => if i = p then u k else a i k
theorem minor_setr (a : Mx) (p : Nat) (u : Nat → BitVec 8) (k : Nat) : minor (setr a (p + 1) u) k = setr (minor a k) p (fun j => u (skip k j)) := by
  funext i j
  unfold minor setr
  by_cases h : i = p
  · subst h; simp
  · rw [if_neg (by omega), if_neg h]
theorem minor_setr0 (a : Mx) (u : Nat → BitVec 8) (k : Nat) : minor (setr a 0 u) k = minor a k := by
  funext i j
  unfold minor setr
  rw [if_neg (by omega)]
theorem det_add (n p : Nat) (hp : p < n) (a : Mx) (u v : Nat → BitVec 8) : det n (setr a p (fun k => u k ^^^ v k)) = det n (setr a p u) ^^^ det n (setr a p v) := by
  induction n generalizing p a u v with
  | zero => omega
  | succ n ih =>
    rw [det_succ, det_succ, det_succ, ← xs_add]
    refine xs_congr fun k hk => ?_
    cases p with
    | zero =>
      rw [minor_setr0, minor_setr0, minor_setr0]
      show gm (if 0 = 0 then u k ^^^ v k else a 0 k) _ = gm (if 0 = 0 then u k else a 0 k) _ ^^^ gm (if 0 = 0 then v k else a 0 k) _
      rw [if_pos rfl, if_pos rfl, if_pos rfl, gm_xor_l]
    | succ p =>
      rw [minor_setr, minor_setr, minor_setr, ih p (by omega)]
      show gm (if 0 = p + 1 then _ else a 0 k) _ = gm (if 0 = p + 1 then _ else a 0 k) _ ^^^ gm (if 0 = p + 1 then _ else a 0 k) _
      rw [if_neg (by omega), if_neg (by omega), if_neg (by omega), gm_xor]
theorem det_mul (n p : Nat) (hp : p < n) (a : Mx) (c : BitVec 8) (u : Nat → BitVec 8) : det n (setr a p (fun k => gm c (u k))) = gm c (det n (setr a p u)) := by
  induction n generalizing p a u with
  | zero => omega
  | succ n ih =>
    rw [det_succ, det_succ, ← xs_mul]
    refine xs_congr fun k hk => ?_
    cases p with
    | zero =>
      rw [minor_setr0, minor_setr0]
      show gm (if 0 = 0 then gm c (u k) else a 0 k) _ = gm c (gm (if 0 = 0 then u k else a 0 k) _)
      rw [if_pos rfl, if_pos rfl, gm_assoc]
    | succ p =>
      rw [minor_setr, minor_setr, ih p (by omega)]
      show gm (if 0 = p + 1 then _ else a 0 k) _ = gm c (gm (if 0 = p + 1 then _ else a 0 k) _)
      rw [if_neg (by omega), if_neg (by omega), ← gm_assoc, gm_comm (a 0 k) c, gm_assoc]
theorem setr_same (a : Mx) (p : Nat) : setr a p (a p) = a := by
  funext i k; unfold setr; split
  · rename_i h; rw [h]
  · rfl
/-! Equal rows -/
theorem xs_skip (n k : Nat) (hk : k ≤ n) (F : Nat → BitVec 8) : xs n (fun l => F (skip k l)) = xs (n + 1) (fun m => if k = m then 0#8 else F m) := by
  induction n with
  | zero =>
    obtain rfl : k = 0 := by omega
    show 0#8 = 0#8 ^^^ (if 0 = 0 then 0#8 else F 0)
    rw [if_pos rfl]; rfl
  | succ n ih =>
    show _ = xs (n + 1) (fun m => if k = m then 0#8 else F m) ^^^ (if k = n + 1 then 0#8 else F (n + 1))
    by_cases h : k = n + 1
    · rw [if_pos h, BitVec.xor_zero]
      refine xs_congr fun l hl => ?_
      rw [if_neg (by omega), skip, if_pos (by omega)]
    · rw [if_neg h, ← ih (by omega)]
      show xs n (fun l => F (skip k l)) ^^^ F (skip k n) = _
      rw [show skip k n = n + 1 from if_neg (by omega)]
def avoid (k m j : Nat) : Nat := if j < min k m then j else if j + 1 < max k m then j + 1 else j + 2
theorem avoid_comm (k m j : Nat) : avoid k m j = avoid m k j := by unfold avoid; rw [Nat.min_comm, Nat.max_comm]
theorem skip_skip (k l j : Nat) : skip k (skip l j) = avoid k (skip k l) j := by
  unfold skip avoid
  by_cases h1 : l < k
  · rw [if_pos h1, Nat.min_eq_right (by omega), Nat.max_eq_left (by omega)]
    by_cases h2 : j < l
    · rw [if_pos h2, if_pos (by omega), if_pos h2]
    · rw [if_neg h2, if_neg h2]
  · rw [if_neg h1, Nat.min_eq_left (by omega), Nat.max_eq_right (by omega)]
    by_cases h2 : j < l
    · rw [if_pos h2]
      by_cases h3 : j < k
      · rw [if_pos h3, if_pos h3]
      · rw [if_neg h3, if_neg h3, if_pos (by omega)]
    · rw [if_neg h2, if_neg (by omega), if_neg (by omega), if_neg (by omega)]
theorem det_adj (n p : Nat) (hp : p + 1 < n) (a : Mx) (h : ∀ k, k < n → a p k = a (p + 1) k) : det n a = 0#8 := by
  induction n generalizing p a with
  | zero => omega
  | succ n ih =>
    cases p with
    | succ p =>
      rw [det_succ]
      refine xs_zero' fun k hk => ?_
      rw [ih p (by omega) (minor a k) (fun j hj => h (skip k j) (skip_lt hj)), gm_zr]
    | zero =>
      obtain ⟨n, rfl⟩ := Nat.exists_eq_succ_of_ne_zero (show n ≠ 0 by omega)
      have e : ∀ k, k < n + 2 → gm (a 0 k) (det (n + 1) (minor a k)) = xs (n + 2) (fun m => if k = m then 0#8 else gm (a 0 k) (gm (a 0 m) (det n fun i j => a (i + 2) (avoid k m j)))) := fun k hk => by
        rw [det_succ, ← xs_mul, ← xs_skip (n + 1) k (by omega) (fun m => gm (a 0 k) (gm (a 0 m) (det n fun i j => a (i + 2) (avoid k m j))))]
        refine xs_congr fun l hl => ?_
        have e1 : minor a k 0 l = a 0 (skip k l) := (h (skip k l) (skip_lt hl)).symm
        have e2 : minor (minor a k) l = fun i j => a (i + 2) (avoid k (skip k l) j) := by
          funext i j
          show a (i + 1 + 1) (skip k (skip l j)) = _
          rw [skip_skip]
        rw [e1, e2]
      rw [det_succ, xs_congr e]
      refine xs_sym (n + 2) _ (fun i j _ _ => ?_) (fun i _ => if_pos rfl)
      by_cases hij : i = j
      · subst hij; rfl
      · rw [if_neg hij, if_neg (Ne.symm hij), ← gm_assoc, ← gm_assoc, gm_comm (a 0 i)]
        congr 2
        funext r s
        rw [avoid_comm]
/-- Two rows by name. -/
theorem det_pair (n p q : Nat) (hp : p < n) (hq : q < n) (hpq : p ≠ q) (halt : ∀ b : Mx, (∀ k, k < n → b p k = b q k) → det n b = 0#8) (a : Mx) : det n (rswap p q a) = det n a := by
  have two : ∀ (u v : Nat → BitVec 8), det n (setr (setr a p u) q v) = det n (setr (setr a p v) q u) := fun u v => by
    have hz : ∀ w : Nat → BitVec 8, det n (setr (setr a p w) q w) = 0#8 := fun w => halt _ fun k _ => by
      unfold setr
      rw [if_neg hpq, if_pos rfl, if_pos rfl]
    have hc : ∀ w z : Nat → BitVec 8, setr (setr a p w) q z = setr (setr a q z) p w := fun w z => by
      funext i k
      unfold setr
      by_cases h1 : i = p
      · subst h1; rw [if_neg hpq, if_pos rfl]; simp
      · by_cases h2 : i = q
        · subst h2; simp [h1]
        · simp [h1, h2]
    have h0 := hz (fun k => u k ^^^ v k)
    rw [det_add n q hq, hc, det_add n p hp, ← hc, ← hc, hz u, BitVec.zero_xor] at h0
    rw [hc (fun k => u k ^^^ v k) v, det_add n p hp, ← hc, ← hc, hz v, BitVec.xor_zero] at h0
    exact (xor_eq_zero _ _ h0).symm
  have e1 : a = setr (setr a p (a p)) q (a q) := by rw [setr_same, setr_same]
  have e2 : rswap p q a = setr (setr a p (a q)) q (a p) := by
    funext i k
    unfold rswap setr swp
    by_cases h2 : i = q
    · subst h2
      rw [if_neg (Ne.symm hpq), if_pos rfl, if_pos rfl]
    · by_cases h1 : i = p
      · subst h1; rw [if_pos rfl, if_neg h2, if_pos rfl]
      · rw [if_neg h1, if_neg h2, if_neg h2, if_neg h1]
  rw [e2, two, ← e1]
theorem det_alt (n : Nat) (d : Nat) : ∀ (p : Nat) (a : Mx), p + 1 + d < n → (∀ k, k < n → a p k = a (p + 1 + d) k) → det n a = 0#8 := by
  induction d with
  | zero => exact fun p a hp h => det_adj n p hp a h
  | succ d ih =>
    intro p a hp h
    rw [← det_pair n (p + 1 + d) (p + 1 + (d + 1)) (by omega) hp (by omega) (fun b hb => det_adj n (p + 1 + d) hp b hb) a]
    refine ih p _ (by omega) fun k hk => ?_
    show a (swp _ _ p) k = a (swp _ _ (p + 1 + d)) k
    unfold swp
    rw [if_neg (by omega), if_neg (by omega), if_pos rfl]
    exact h k hk
theorem det_equal (n p q : Nat) (hp : p < n) (hq : q < n) (hpq : p ≠ q) (a : Mx) (h : ∀ k, k < n → a p k = a q k) : det n a = 0#8 := by
  rcases Nat.lt_or_gt_of_ne hpq with hl | hl
  · obtain ⟨d, rfl⟩ := Nat.exists_eq_add_of_le (show p + 1 ≤ q from hl)
    exact det_alt n d p a hq h
  · obtain ⟨d, rfl⟩ := Nat.exists_eq_add_of_le (show q + 1 ≤ p from hl)
    exact det_alt n d q a hp fun k hk => (h k hk).symm
theorem det_rswap (n p q : Nat) (hp : p < n) (hq : q < n) (a : Mx) : det n (rswap p q a) = det n a := by
  by_cases h : p = q
  · subst h
    refine det_congr fun i k _ _ => ?_
    show a (swp p p i) k = a i k
    unfold swp
    by_cases e : i = p
    · rw [if_pos e, e]
    · rw [if_neg e, if_neg e]
  · exact det_pair n p q hp hq h (fun b hb => det_equal n p q hp hq h b hb) a
theorem det_rscale (n p : Nat) (hp : p < n) (c : BitVec 8) (a : Mx) : det n (rscale p c a) = gm c (det n a) := by
  have e : rscale p c a = setr a p (fun k => gm c (a p k)) := by
    funext i k
    unfold rscale setr
    by_cases h : i = p
    · subst h; simp
    · simp [h]
  rw [e, det_mul n p hp, setr_same]
theorem det_radd (n p q : Nat) (hp : p < n) (hq : q < n) (hpq : p ≠ q) (c : BitVec 8) (a : Mx) : det n (radd p q c a) = det n a := by
  have e : radd p q c a = setr a q (fun k => a q k ^^^ gm c (a p k)) := by
    funext i k
    unfold radd setr
    by_cases h : i = q
    · subst h; simp
    · simp [h]
  rw [e, det_add n q hq, setr_same, det_mul n q hq, det_equal n p q hp hq hpq (setr a q (a p)) (fun k _ => by unfold setr; rw [if_neg hpq, if_pos rfl]), gm_zr, BitVec.xor_zero]
/-- Steps that multiply the determinant by a number that is not 0. -/
def Steps (n : Nat) (T U : Mx → Mx) : Prop := Rop n T U ∧ ∃ c, c ≠ 0#8 ∧ ∀ a, det n (T a) = gm c (det n a)
theorem Steps.refl (n : Nat) : Steps n (fun X => X) (fun X => X) := ⟨Rop.refl n, 1#8, by decide, fun a => (gm_one _).symm⟩
theorem Steps.trans {n : Nat} {T U T' U' : Mx → Mx} (h : Steps n T U) (g : Steps n T' U') : Steps n (fun X => T' (T X)) (fun X => U (U' X)) := by
  obtain ⟨h1, c, hc, h2⟩ := h
  obtain ⟨g1, d, hd, g2⟩ := g
  exact ⟨h1.trans g1, gm d c, gm_ne d c hd hc, fun a => by rw [g2, h2, gm_assoc]⟩
theorem steps_swap (n p q : Nat) (hp : p < n) (hq : q < n) : Steps n (rswap p q) (rswap p q) := ⟨rop_swap n p q hp hq, 1#8, by decide, fun a => by rw [det_rswap n p q hp hq, gm_one]⟩
theorem steps_scale (n p : Nat) (hp : p < n) (c : BitVec 8) (hc : c ≠ 0#8) : Steps n (rscale p c) (rscale p (gi c)) := ⟨rop_scale n p c hc, c, hc, det_rscale n p hp c⟩
theorem steps_add (n p q : Nat) (hp : p < n) (hq : q < n) (hpq : p ≠ q) (c : BitVec 8) : Steps n (radd p q c) (radd p q c) := ⟨rop_add n p q c hpq hp hq, 1#8, by decide, fun a => by rw [det_radd n p q hp hq hpq, gm_one]⟩
/-! Where the steps end -/
theorem det_id (n : Nat) (a : Mx) (h : ∀ i k, i < n → k < n → a i k = id1 i k) : det n a = 1#8 := by
  induction n generalizing a with
  | zero => rfl
  | succ n ih =>
    rw [det_succ, xs_one (n + 1) 0 (by omega)]
    · rw [h 0 0 (by omega) (by omega), ih (minor a 0)]
      · rfl
      · intro i k hi hk
        show a (i + 1) (skip 0 k) = id1 i k
        rw [show skip 0 k = k + 1 from if_neg (by omega), h _ _ (by omega) (by omega)]
        unfold id1
        by_cases e : i = k
        · rw [if_pos e, if_pos (by omega)]
        · rw [if_neg e, if_neg (by omega)]
    · intro i hi hne
      rw [h 0 i (by omega) hi, id1, if_neg (Ne.symm hne), gm_zl]
theorem det_zero_column (n : Nat) (hn : 0 < n) (a : Mx) (h : ∀ i, i < n → a i 0 = 0#8) : det n a = 0#8 := by
  induction n generalizing a with
  | zero => omega
  | succ n ih =>
    rw [det_succ]
    refine xs_zero' fun k hk => ?_
    by_cases h0 : k = 0
    · subst h0; rw [h 0 (by omega), gm_zl]
    · rw [ih (by omega) (minor a k) (fun i hi => by
        show a (i + 1) (skip k 0) = 0#8
        rw [show skip k 0 = 0 from if_pos (by omega)]
        exact h _ (by omega)), gm_zr]
/-- The first k columns are the unit's, and in the next one there is nothing from row k on. -/
def Stuck (n k : Nat) (a : Mx) : Prop := k < n ∧ (∀ i j, i < n → j < k → a i j = id1 i j) ∧ ∀ i, k ≤ i → i < n → a i k = 0#8
theorem det_stuck (n k : Nat) (a : Mx) (h : Stuck n k a) : det n a = 0#8 := by
  induction k generalizing n a with
  | zero => exact det_zero_column n h.1 a fun i hi => h.2.2 i (by omega) hi
  | succ k ih =>
    obtain ⟨hk, hu, hz⟩ := h
    obtain ⟨n, rfl⟩ := Nat.exists_eq_succ_of_ne_zero (show n ≠ 0 by omega)
    rw [det_succ]
    refine xs_zero' fun c hc => ?_
    by_cases h0 : c = 0
    · subst h0
      rw [ih n (minor a 0) ⟨by omega, fun i j hi hj => ?_, fun i hi hin => ?_⟩, gm_zr]
      · show a (i + 1) (skip 0 j) = id1 i j
        rw [show skip 0 j = j + 1 from if_neg (by omega), hu _ _ (by omega) (by omega)]
        unfold id1
        by_cases e : i = j
        · rw [if_pos e, if_pos (by omega)]
        · rw [if_neg e, if_neg (by omega)]
      · show a (i + 1) (skip 0 k) = 0#8
        rw [show skip 0 k = k + 1 from if_neg (by omega)]
        exact hz _ (by omega) (by omega)
    · rw [det_zero_column n (by omega) (minor a c) (fun i hi => by
        show a (i + 1) (skip c 0) = 0#8
        rw [show skip c 0 = 0 from if_pos (by omega), hu _ _ (by omega) (by omega), id1, if_neg (by omega)]), gm_zr]
/-- Steps that end in the unit: the determinant is not 0; steps that are stuck: it is 0, and some numbers, not all 0, are taken to nothing. -/
theorem Steps.unit {n : Nat} {T U : Mx → Mx} (h : Steps n T U) (a : Mx) (ha : ∀ i k, i < n → k < n → T a i k = id1 i k) : det n a ≠ 0#8 := by
  obtain ⟨_, c, _, h2⟩ := h
  intro e
  have := h2 a
  rw [det_id n _ ha, e, gm_zr] at this
  exact absurd this (by decide)
theorem Steps.stuck {n k : Nat} {T U : Mx → Mx} (h : Steps n T U) (a : Mx) (ha : Stuck n k (T a)) : det n a = 0#8 := by
  obtain ⟨_, c, hc, h2⟩ := h
  have := h2 a
  rw [det_stuck n k _ ha] at this
  exact gm_eq_zero c _ hc this.symm
theorem Steps.kernel {n k : Nat} {T U : Mx → Mx} (h : Steps n T U) (a : Mx) (ha : Stuck n k (T a)) :
    ∃ v : Nat → BitVec 8, v k = 1#8 ∧ ∀ i, i < n → xs n (fun j => gm (a i j) (v j)) = 0#8 := by
  obtain ⟨hr, _⟩ := h
  obtain ⟨hk, hu, hz⟩ := ha
  refine ⟨fun j => if j < k then T a j k else if j = k then 1#8 else 0#8, by simp, fun i hi => ?_⟩
  have key : ∀ i, i < n → mm n (T a) (fun j _ => if j < k then T a j k else if j = k then 1#8 else 0#8) i 0 = 0#8 := fun i hi => by
    have e : ∀ j, j < n → gm (T a i j) (if j < k then T a j k else if j = k then 1#8 else 0#8) = (if j = i then (if i < k then T a i k else 0#8) else 0#8) ^^^ (if j = k then T a i k else 0#8) := fun j hj => by
      by_cases h1 : j < k
      · rw [if_pos h1, hu i j hi h1, if_neg (show ¬ j = k by omega), BitVec.xor_zero, id1]
        by_cases h2 : j = i
        · subst h2; rw [if_pos rfl, if_pos rfl, if_pos h1, gm_one]
        · rw [if_neg (Ne.symm h2), if_neg h2, gm_zl]
      · rw [if_neg h1]
        have hz0 : (if j = i then (if i < k then T a i k else 0#8) else 0#8) = 0#8 := by
          by_cases h2 : j = i
          · rw [if_pos h2, if_neg (by omega)]
          · rw [if_neg h2]
        rw [hz0, BitVec.zero_xor]
        by_cases h3 : j = k
        · subst h3; rw [if_pos rfl, if_pos rfl, gm_one_r]
        · rw [if_neg h3, if_neg h3, gm_zr]
    unfold mm
    rw [xs_congr e, xs_add, xs_one n i hi _ (fun j _ hj => if_neg hj), xs_one n k hk _ (fun j _ hj => if_neg hj), if_pos rfl, if_pos rfl]
    by_cases h1 : i < k
    · rw [if_pos h1, xor_self']
    · rw [if_neg h1, BitVec.zero_xor]
      exact hz i (by omega) hi
  have h1 := hr.congr' (mm n (T a) (fun j _ => if j < k then T a j k else if j = k then 1#8 else 0#8)) (fun _ _ => 0#8) 0 key i hi
  have h2 : mm n (U (T a)) (fun j _ => if j < k then T a j k else if j = k then 1#8 else 0#8) i 0 = U (mm n (T a) (fun j _ => if j < k then T a j k else if j = k then 1#8 else 0#8)) i 0 := hr.left' n (T a) _ i 0
  rw [funext2 (hr.back a)] at h2
  have h3 : U (fun _ _ => 0#8) i 0 = 0#8 := by
    have := hr.left' 0 (fun _ _ => 0#8) (fun _ _ => 0#8) i 0
    exact this.symm
  show mm n a (fun j _ => if j < k then T a j k else if j = k then 1#8 else 0#8) i 0 = 0#8
  rw [h2, h1, h3]
/-! Cauchy -/
end Go.Proofs.YtnmopjefjpifoaaGreatDoor
/- A matrix that the call makes: a block of headers, a block for each row. -/
set_option maxRecDepth 100000
namespace Go.Proofs.YtnmopjefjpifoaaGreatDoor
open Go Go.RowKit
attribute [-go_sem] Sha.exec_store

/-- Headers: the first k rows are made, the others nil. -/
def hdr (k m : Nat) (D : Nat → Nat) (i : Nat) : Value := if i < k then .slice (some ⟨D i, 0, none⟩) m m else .slice none 0 0
/-- Block G holds the headers of n rows, of which k are made: row i lies in block D i and holds m numbers of a. -/
structure Mp (w : World) (N G n k m : Nat) (D : Nat → Nat) (a : Mx) : Prop where
  hds : Row w G 53 n (hdr k m D)
  row : ∀ i, i < k → Row w (D i) 5 m (fun j => B (a i j))
  inj : ∀ i j, i < k → j < k → i ≠ j → D i ≠ D j
  ne : ∀ i, i < k → D i ≠ G
  lo : ∀ i, i < k → N ≤ D i
  loG : N ≤ G
/-- A matrix as rows. -/
def rowL (m : Nat) (a : Mx) (i : Nat) : List (BitVec 8) := (List.range m).map (a i)
theorem rowL_length (m : Nat) (a : Mx) (i : Nat) : (rowL m a i).length = m := by simp [rowL]
theorem rowL_get (m : Nat) (a : Mx) (i j : Nat) (h : j < m) : (rowL m a i).getD j 0#8 = a i j := by simp [rowL, List.getD_eq_getElem?_getD, h]
def setD (D : Nat → Nat) (i E : Nat) : Nat → Nat := fun j => if j = i then E else D j
section
variable {w w' : World} {N G n k m : Nat} {D : Nat → Nat} {a b : Mx}
theorem Mp.lt (h : Mp w N G n k m D a) (i : Nat) (hi : i < k) : D i < w.heap.size := (h.row i hi).lt
theorem Mp.of_below (h : Mp w N G n k m D a) (g : Below w.heap.size w w') : Mp w' N G n k m D a :=
  ⟨h.hds.of_below g, fun i hi => (h.row i hi).of_below g, h.inj, h.ne, h.lo, h.loG⟩
theorem Mp.dr (h : Mp w N G n k m D a) (g : Dr w w') : Mp w' N G n k m D a := by
  obtain ⟨M, rfl⟩ := g
  exact ⟨h.hds, h.row, h.inj, h.ne, h.lo, h.loG⟩
theorem Mp.drewN (h : Mp w N G n k m D a) (q : Nat) : Mp (w.drewN q) N G n k m D a := h.dr ((Dr.refl _).drewN q)
theorem Mp.congr (h : Mp w N G n k m D a) (e : ∀ i j, i < k → j < m → a i j = b i j) : Mp w N G n k m D b :=
  ⟨h.hds, fun i hi => (h.row i hi).congr fun j hj => by rw [e i j hi hj], h.inj, h.ne, h.lo, h.loG⟩
theorem Mp.cellH (h : Mp w N G n k m D a) (i : Nat) (hi : i < k) (hn : i < n) : w.cell? ⟨G, i, none⟩ = some (.slice (some ⟨D i, 0, none⟩) m m) := by
  rw [h.hds.cell i hn, hdr, if_pos hi]
theorem Mp.free (h : Mp w N G n k m D a) (i : Nat) : w.frozen? ⟨G, i, none⟩ = false := h.hds.free i
theorem Mp.cell (h : Mp w N G n k m D a) (i j : Nat) (hi : i < k) (hj : j < m) : w.cell? ⟨D i, j, none⟩ = some (B (a i j)) := (h.row i hi).cell j hj
theorem Mp.sl (h : Mp w N G n k m D a) (i : Nat) (hi : i < k) : Sl w (some ⟨D i, 0, none⟩) (rowL m a i) :=
  Sl.row (h.row i hi) (by rw [rowL_length]; exact Nat.le_refl _) fun j hj => by rw [rowL_length] at hj; rw [rowL_get _ _ _ _ hj]
/-- No row is made. -/
theorem Mp.zero (h : Row w G 53 n (fun _ => .slice none 0 0)) (hN : N ≤ G) : Mp w N G n 0 m D a :=
  ⟨h.congr fun i _ => by rw [hdr, if_neg (by omega)], fun i hi => by omega, fun i j hi => by omega, fun i hi => by omega, fun i hi => by omega, hN⟩
/-- Another header at i, of a row that lies in block E. -/
theorem Mp.put (h : Mp w N G n k m D a) (i E : Nat) (r : Nat → BitVec 8) (hr : Row w E 5 m (fun j => B (r j))) (k' : Nat) (hk' : k' = k ∧ i < k ∨ k' = k + 1 ∧ i = k) (hE : ∀ j, j < k → j ≠ i → D j ≠ E) (hG : E ≠ G) (hN : N ≤ E) :
    Mp (w.setCell ⟨G, i, none⟩ (.slice (some ⟨E, 0, none⟩) m m)) N G n k' m (setD D i E) (setr a i r) := by
  have keep : ∀ b, b ≠ G → (w.setCell ⟨G, i, none⟩ (.slice (some ⟨E, 0, none⟩) m m)).heap[b]? = w.heap[b]? := fun b hb => Below.heap_setCell _ _ _ _ hb
  refine ⟨(h.hds.set i _).congr fun j hj => ?_, fun j hj => ?_, fun p q hp hq hpq => ?_, fun j hj => ?_, fun j hj => ?_, h.loG⟩
  · unfold hdr setD
    by_cases e : j = i
    · subst e; rw [if_pos rfl, if_pos (by omega), if_pos rfl]
    · rw [if_neg e]
      by_cases e2 : j < k
      · rw [if_pos e2, if_pos (by omega), if_neg e]
      · rw [if_neg e2, if_neg (by omega)]
  · by_cases e : j = i
    · subst e
      have e1 : setD D j E j = E := if_pos rfl
      rw [e1]
      exact (hr.of_block (keep E hG)).congr fun x _ => by rw [setr, if_pos rfl]
    · have e1 : setD D i E j = D j := if_neg e
      rw [e1]
      exact ((h.row j (by omega)).of_block (keep _ (h.ne j (by omega)))).congr fun x _ => by rw [setr, if_neg e]
  · unfold setD
    by_cases e1 : p = i
    · rw [if_pos e1, if_neg (by omega)]; exact (hE q (by omega) (by omega)).symm
    · rw [if_neg e1]
      by_cases e2 : q = i
      · rw [if_pos e2]; exact hE p (by omega) e1
      · rw [if_neg e2]; exact h.inj p q (by omega) (by omega) hpq
  · unfold setD
    by_cases e : j = i
    · rw [if_pos e]; exact hG
    · rw [if_neg e]; exact h.ne j (by omega)
  · unfold setD
    by_cases e : j = i
    · rw [if_pos e]; exact hN
    · rw [if_neg e]; exact h.lo j (by omega)
/-- Two headers exchanged. -/
theorem Mp.swap (h : Mp w N G n k m D a) (p q : Nat) (hp : p < k) (hq : q < k) :
    Mp ((w.setCell ⟨G, p, none⟩ (.slice (some ⟨D q, 0, none⟩) m m)).setCell ⟨G, q, none⟩ (.slice (some ⟨D p, 0, none⟩) m m)) N G n k m (fun i => D (swp p q i)) (rswap p q a) := by
  have keep : ∀ b, b ≠ G → ((w.setCell ⟨G, p, none⟩ (.slice (some ⟨D q, 0, none⟩) m m)).setCell ⟨G, q, none⟩ (.slice (some ⟨D p, 0, none⟩) m m)).heap[b]? = w.heap[b]? := fun b hb => by
    rw [Below.heap_setCell _ _ _ _ hb, Below.heap_setCell _ _ _ _ hb]
  have hs : ∀ i, i < k → swp p q i < k := fun i hi => by unfold swp; split; exact hq; split; exact hp; exact hi
  refine ⟨((h.hds.set p _).set q _).congr fun j hj => ?_, fun j hj => ?_, fun x y hx hy hxy => ?_, fun j hj => h.ne _ (hs j hj), fun j hj => h.lo _ (hs j hj), h.loG⟩
  · unfold hdr swp
    by_cases e1 : j = p
    · subst e1
      by_cases e2 : j = q
      · subst e2; simp [hp]
      · simp [e2, hp]
    · by_cases e2 : j = q
      · subst e2; simp [e1, hq]
      · simp [e1, e2]
  · exact (h.row _ (hs j hj)).of_block (keep _ (h.ne _ (hs j hj)))
  · refine h.inj _ _ (hs x hx) (hs y hy) fun e => hxy ?_
    have := congrArg (swp p q) e
    rwa [swp_swp, swp_swp] at this
end
theorem run_make_rows (t : TypeId) (h : Tryz.prog.underlying t = some (.slice 53)) (n : Nat) (w : World) (hn : n < 100000000) : (mkT t (.int .i64 (n : Int)) (.int .i64 (n : Int))).run Tryz.prog w = .ok (.value (.slice (some ⟨w.heap.size, 0, none⟩) n n)) (w.alloc (.cells (tab n (fun _ => .slice none 0 0)) 53)) := by
  have hi := infoB
  cases hq : Tryz.prog.info? 53 with
  | none => simp [hq] at hi
  | some i =>
    rw [hq] at hi
    simp only [Option.map_some, Option.some.injEq, Prod.mk.injEq] at hi
    obtain ⟨h1, h2, h3⟩ := hi
    have := run_make (P := Tryz.prog) w t 53 i (.slice none 0 0) h hq h1 .i64 .i64 n n (by omega) (Int.le_refl _) (by rw [h3]; omega) (by omega)
    rw [h2] at this
    simp only [Int.toNat_natCast, Nat.mul_one] at this
    simp only [mkT, Sem.run_bind, this, Result.andThen_ok, Sem.run_pure]
    congr 2
    rw [tab_const]
    congr 1
    apply Array.ext_getElem?
    intro j
    by_cases hj : j < n <;> simp [madeCells, Value.cells, hj, Nat.mod_one]
theorem mkR (n : Nat) (w : World) (hn : n < 100000000) : (mkT 73 (.int .i64 (n : Int)) (.int .i64 (n : Int))).run Tryz.prog w = .ok (.value (.slice (some ⟨w.heap.size, 0, none⟩) n n)) (w.alloc (.cells (tab n (fun _ => .slice none 0 0)) 53)) :=
  run_make_rows _ undRows n w hn
theorem mkM (n : Nat) (w : World) (hn : n < 100000000) : (mkT 305 (.int .i64 (n : Int)) (.int .i64 (n : Int))).run Tryz.prog w = .ok (.value (.slice (some ⟨w.heap.size, 0, none⟩) n n)) (w.alloc (.cells (tab n (fun _ => .slice none 0 0)) 53)) :=
  run_make_rows _ (by kernel_rfl) n w hn
theorem st_H (a : Addr) (q : Option Addr) (n c : Nat) (w : World) (hcell : (w.cell? a).isSome = true) (hf : w.frozen? a = false) : (stT 53 (.pointer (some a)) (.slice q n c)).run Tryz.prog w = .ok .skip (w.setCell a (.slice q n c)) :=
  stT_one 53 a _ w rfl rfl (by kernel_rfl) hcell hf
end Go.Proofs.YtnmopjefjpifoaaGreatDoor
/- What a matrix is; matrices that are returned. -/
set_option maxRecDepth 100000
namespace Go.Proofs.YtnmopjefjpifoaaGreatDoor
open Go Go.RowKit
attribute [-go_sem] Sha.exec_store

/-- A matrix: 1 to 64 rows, all of one length from 1 to 64. -/
def goodB (ls : List (List (BitVec 8))) : Bool := decide (1 ≤ ls.length ∧ ls.length ≤ 64 ∧ 1 ≤ (ls.getD 0 []).length ∧ (ls.getD 0 []).length ≤ 64 ∧ ∀ i, i < ls.length → (ls.getD i []).length = (ls.getD 0 []).length)
structure Good (ls : List (List (BitVec 8))) (n m : Nat) : Prop where
  len : ls.length = n
  lo : 1 ≤ n
  hi : n ≤ 64
  mlo : 1 ≤ m
  mhi : m ≤ 64
  rows : ∀ i, i < n → (ls.getD i []).length = m
theorem Good.of {ls : List (List (BitVec 8))} (h : goodB ls = true) : Good ls ls.length (ls.getD 0 []).length := by
  obtain ⟨h1, h2, h3, h4, h5⟩ := of_decide_eq_true h
  exact ⟨rfl, h1, h2, h3, h4, h5⟩
end Go.Proofs.YtnmopjefjpifoaaGreatDoor
/- How many rows may there be. -/
set_option maxRecDepth 100000
namespace Go.Proofs.YtnmopjefjpifoaaGreatDoor
open Go Go.RowKit
attribute [-go_sem] Sha.exec_store

end Go.Proofs.YtnmopjefjpifoaaGreatDoor
/- What the program asks of rows: permitted, equally long, a matrix, the same. -/
set_option maxRecDepth 100000
namespace Go.Proofs.YtnmopjefjpifoaaGreatDoor
open Go Go.RowKit
attribute [-go_sem] Sha.exec_store

/-- The world is that at the start but for draws: here it is that very world. -/
def Asks (g : Nat) (lb : Array Value) (ls : List (List (BitVec 8))) (f : Nat → Bool) (w : World) : Prop :=
  ∀ k, k < ls.length → ∀ q cap, Sl w q (ls.getD k []) → Calls Tryz.prog g (#[.slice q (ls.getD k []).length cap] ++ lb) w fun e w' => e = .returned (.bool (f k)) ∧ w = w'
end Go.Proofs.YtnmopjefjpifoaaGreatDoor
