/- refusal of the program's disk. -/
import Derived.Test.YtjglgohchhdkkaaDoorUsd8
import Derived.Test.YtjglgohchhdkkaaDoorGodP7
import Derived.Deep.RegionHeld3
set_option linter.unusedSimpArgs false
set_option linter.unusedVariables false
namespace Go.Proofs.YtjglgohchhdkkaaDoor
open Go Go.RowKit

/-- The program's answer to a write. -/
def filesP (m : Dk) (p : S8) : Nat := if (findL m.seen p).isNone then m.seen.length + 1 else m.seen.length
def writeP (m : Dk) (p : S8) (n : Nat) : Nat :=
  if !goodL p then 7
  else if 262144 < n then 1
  else if clashesL m.seen p p then 9
  else if 64 < filesP m p then 14
  else if leftL m p < (n : Int) then 10
  else 0
theorem writeP_eq (m : Dk) (p b : S8) (t : Int) (h : m.seen.length ≤ 64) : (writeL m p b t).2 = writeP m p b.length := by
  unfold writeL writeP filesP
  repeat' split
  all_goals first | rfl | (exfalso; simp_all; done) | (exfalso; simp_all; omega)
theorem writeL_no (m : Dk) (p b : S8) (t : Int) (h : (writeL m p b t).2 ≠ 0) : (writeL m p b t).1 = m := by
  unfold writeL at h ⊢
  repeat' split
  all_goals first | rfl | (exfalso; apply h; simp_all)
section
variable {w : World} {S : Nat → Prop} {b : Nat} {m : Dk} {mv md : Nat} {pv : Value} {vs : List Value} {sl : Nat → Hn}
theorem len8 {u : World} (h : MpB u mv (m.seen.map (entV sl))) : ∀ ty, (Builtin.len_ #[53] ty #[.map (some mv)]).run Tryd.prog u = .ok (.int .i64 (m.seen.length : Int)) u := fun ty => by
  have := run_len8 (P := Tryd.prog) mapT (ty := ty) h
  rwa [List.length_map] at this
set_option maxRecDepth 100000 in
set_option maxHeartbeats 8000000 in
theorem refusal_true (h : Dp w S b m mv md pv vs sl) (hok : DkOk 300 m) (hr0 : 0 ≤ m.room) (hr1 : m.room ≤ 1048576) (p : S8) (n : Nat) (hp : p.length ≤ 1000) (hn : n ≤ 400000) (sz ti ch : Int) (q : Option Addr) (bn bc : Nat) (hz0 : 0 ≤ sz) (hz1 : sz ≤ 300000) (hL : leftL m p = m.room - (usedL m : Int) + sz) (hfi : filesP m p = m.seen.length)
    (hl : (Instr.lookup 53 (.map (some mv)) (.string (mkS p)) true).run Tryd.prog w = .ok (.tuple #[.agg #[.int .i64 sz, .int .i64 ti, .int .i64 ch, .slice q bn bc], .bool true]) w) :
    Calls Tryd.prog 21 #[.pointer (some ⟨b, 0, none⟩), .string (mkS p), .int .i64 (n : Int)] w fun e w' => e = .returned (.int .i64 (writeP m p n : Int)) ∧ Below w.heap.size w w' := by
  have c0 := h.cell 0
  have c2 := h.cell 2
  simp at c0 c2
  have hB1 := (Below.refl w.heap.size w).alloc (Nat.le_refl _) (.cells #[.int .i64 sz, .int .i64 ti, .int .i64 ch, .slice q bn bc] 64)
  have k0 : (w.alloc (.cells #[.int .i64 sz, .int .i64 ti, .int .i64 ch, .slice q bn bc] 64)).cell? ⟨w.heap.size, 0, none⟩ = some (.int .i64 sz) := box4_cell w 64 (.int .i64 sz) (.int .i64 ti) (.int .i64 ch) (.slice q bn bc) 0
  have H := Lib.hid h
  have HOK := Lib.hid hok
  have HB1 := Lib.hid hB1
  have HSZ := Lib.hid (World.size_alloc w (.cells #[.int .i64 sz, .int .i64 ti, .int .i64 ch, .slice q bn bc] 64))
  generalize hW : w.alloc (.cells #[.int .i64 sz, .int .i64 ti, .int .i64 ch, .slice q bn bc] 64) = W at *
  have HW := Lib.hid hW
  have HWR := Lib.hid (show writeP m p n = if !goodL p then 7 else if 262144 < n then 1 else if clashesL m.seen p p then 9 else if 64 < m.seen.length then 14 else if m.room - (usedL m : Int) + sz < (n : Int) then 10 else 0 by unfold writeP; rw [hfi, hL])
  have hul := usedL_le hok.shortB (n := m.seen.length) rfl
  have hsn := hok.seen
  obtain ⟨ul, hue⟩ : ∃ ul, usedL m = ul := ⟨_, rfl⟩
  have HUE := Lib.hid hue
  obtain ⟨ln, hln⟩ : ∃ ln, m.seen.length = ln := ⟨_, rfl⟩
  have HLN := Lib.hid hln
  rw [hue, hln] at hul
  rw [hln] at hsn
  have hws : IntKind.i64.wrap ((ul : Int) - sz) = (ul : Int) - sz := by rw [IntKind.wrap_i64]; omega
  have hws2 : IntKind.i64.wrap ((ul : Int) - sz + (n : Int)) = (ul : Int) - sz + (n : Int) := by rw [IntKind.wrap_i64]; omega
  have hS : ∀ u, Below W.heap.size W u → u.cell? ⟨b, 2, none⟩ = some (.map (some mv)) ∧ u.cell? ⟨w.heap.size, 0, none⟩ = some (.int .i64 sz) ∧ ∀ ty, (Builtin.len_ #[53] ty #[.map (some mv)]).run Tryd.prog u = .ok (.int .i64 (ln : Int)) u := fun u hu => by
    have hd := (H.out.of_below HB1.out).of_below hu
    have e2 := hd.cell 2
    simp at e2
    refine ⟨e2, ?_, fun ty => by have := len8 hd.vis ty; rwa [HLN.out] at this⟩
    rw [hu.cell (p := ⟨w.heap.size, 0, none⟩) (by rw [HSZ.out]; exact Nat.lt_succ_self _)]
    exact k0
  have HS := Lib.hid hS
  obtain ⟨s1, s2, s3⟩ := hS W.drew ((Below.refl _ _).drew)
  have hl64 : IntKind.i64.wrap ((ln : Int) + 1) = (ln : Int) + 1 := by rw [IntKind.wrap_i64]; omega
  have HN := Lib.hid (And.intro hn (And.intro hsn (And.intro hul (And.intro hz0 (And.intro hz1 (And.intro hr0 hr1))))))
  have HP := Lib.hid hp
  have HUS : Hid (Calls Tryd.prog 14 #[.pointer (some ⟨b, 0, none⟩)] W.drew fun e w' => e = .returned (.int .i64 (ul : Int)) ∧ Below W.heap.size W.drew w') := Lib.hid (by have := used_any ((H.out.of_below HB1.out).of_below (Below.refl W.heap.size W).drew) HOK.out; rwa [HUE.out] at this)
  clear h hok hB1 hW hL hfi hue hln hp hn hsn hul hz0 hz1 hr0 hr1 hS
  go_enter Tryd.func21, Tryd.ntmps21
  go_wp2_with fail
  rw [HW.out]
  go_region_held3 (fun u : World => u.cell? ⟨b, 2, none⟩ = some (.map (some mv)) ∧ u.cell? ⟨w.heap.size, 0, none⟩ = some (.int .i64 sz) ∧ ∀ ty, (Builtin.len_ #[53] ty #[.map (some mv)]).run Tryd.prog u = .ok (.int .i64 (ln : Int)) u) (first | exact ⟨s1, s2, s3⟩ | exact ⟨z1, z2, z3⟩ | go_keep) ((first | (go_at_call 14; refine (HUS.out).mono ?_; rintro e w2 ⟨rfl, hB2⟩; have hB3 := ((Below.refl W.heap.size W).drew).trans hB2; obtain ⟨z1, z2, z3⟩ := HS.out w2 hB3; have HB3 := Lib.hid hB3; clear hB2 hB3)))
  have HD2 := Lib.hid ((H.out.of_below HB1.out).of_below HB3.out)
  have HBX := Lib.hid (HB1.out.trans (HB3.out.mono HB1.out.size))
  have c02 := HD2.out.cell 0
  have c22 := HD2.out.cell 2
  simp at c02 c22
  have HGD := Lib.hid (good_any p w2 (by have := HP.out; omega))
  clear c0 c2 k0 s1 s2 s3 z1 z2 z3 hl
  cases hgd : goodL p with
  | false =>
    rw [hgd] at HGD
    have HE := Lib.hid (show writeP m p n = 7 by rw [HWR.out, hgd]; rfl)
    go_wp2_with fail
    refine HGD.out.mono ?_
    rintro e w4 ⟨rfl, hB4⟩
    have HB4 := Lib.hid (HBX.out.trans (hB4.mono HBX.out.size))
    clear hB4
    go_wp2
    go_ret
    exact ⟨by rw [HE.out]; rfl, HB4.out⟩
  | true =>
    rw [hgd] at HGD
    have HWR2 := Lib.hid (show writeP m p n = if 262144 < n then 1 else if clashesL m.seen p p then 9 else if 64 < ln then 14 else if m.room - (ul : Int) + sz < (n : Int) then 10 else 0 by rw [HWR.out, hgd, HUE.out, HLN.out]; rfl)
    clear HWR
    by_cases g1 : 262144 < n
    · have y1 : (262144 : Int) < (n : Int) := by omega
      have y2 : decide ((262144 : Int) < (n : Int)) = true := decide_eq_true y1
      have y3 : decide (262144 < n) = true := decide_eq_true g1
      have HE := Lib.hid (show writeP m p n = 1 by rw [HWR2.out, if_pos g1])
      clear g1
      go_wp2_with fail
      refine HGD.out.mono ?_
      rintro e w4 ⟨rfl, hB4⟩
      have HB4 := Lib.hid (HBX.out.trans (hB4.mono HBX.out.size))
      clear hB4
      go_wp2
      go_ret
      exact ⟨by rw [HE.out]; rfl, HB4.out⟩
    · have y1 : ¬ (262144 : Int) < (n : Int) := by omega
      have y2 : decide ((262144 : Int) < (n : Int)) = false := decide_eq_false y1
      have y3 : decide (262144 < n) = false := decide_eq_false g1
      have HWR3 := Lib.hid (show writeP m p n = if clashesL m.seen p p then 9 else if 64 < ln then 14 else if m.room - (ul : Int) + sz < (n : Int) then 10 else 0 by rw [HWR2.out, if_neg g1])
      clear HWR2 g1
      go_wp2_with fail
      refine HGD.out.mono ?_
      rintro e w4 ⟨rfl, hB4⟩
      have HB4 := Lib.hid (HBX.out.trans (hB4.mono HBX.out.size))
      have HD4 := Lib.hid (HD2.out.of_below hB4)
      have c04 := HD4.out.cell 0
      have c24 := HD4.out.cell 2
      simp at c04 c24
      have HCL := Lib.hid (clashes_any HD4.out.vis HOK.out.shS p p (by have := HP.out; omega))
      clear hB4 c02 c22
      cases hcl : clashesL m.seen p p with
      | true =>
        rw [hcl] at HCL
        have HE := Lib.hid (show writeP m p n = 9 by rw [HWR3.out, hcl]; rfl)
        clear hcl
        go_wp2_with fail
        refine HCL.out.mono ?_
        rintro e w5 ⟨rfl, hB5⟩
        have HB5 := Lib.hid (HB4.out.trans (hB5.mono HB4.out.size))
        clear hB5
        go_wp2
        go_ret
        exact ⟨by rw [HE.out]; rfl, HB5.out⟩
      | false =>
        rw [hcl] at HCL
        have HWR4 := Lib.hid (show writeP m p n = if 64 < ln then 14 else if m.room - (ul : Int) + sz < (n : Int) then 10 else 0 by rw [HWR3.out, hcl]; rfl)
        clear HWR3 hcl
        go_wp2_with fail
        refine HCL.out.mono ?_
        rintro e w5 ⟨rfl, hB5⟩
        have HB5 := Lib.hid (HB4.out.trans (hB5.mono HB4.out.size))
        have c05 := (HD4.out.of_below hB5).cell 0
        simp at c05
        clear hB5 c04 c24
        obtain ⟨hn, hsn, hul, hz0, hz1, hr0, hr1⟩ := HN.out
        by_cases g2 : 64 < ln
        · have x1 : (64 : Int) < (ln : Int) := by omega
          have x2 : decide ((64 : Int) < (ln : Int)) = true := decide_eq_true x1
          have HE := Lib.hid (show writeP m p n = 14 by rw [HWR4.out, if_pos g2])
          clear g2 hn hsn hul hz0 hz1 hr0 hr1
          go_wp2
          go_ret
          exact ⟨by rw [HE.out]; rfl, HB5.out⟩
        · have x1 : ¬ (64 : Int) < (ln : Int) := by omega
          have x2 : decide ((64 : Int) < (ln : Int)) = false := decide_eq_false x1
          by_cases g3 : m.room - (ul : Int) + sz < (n : Int)
          · have v1 : m.room < (ul : Int) - sz + (n : Int) := by omega
            have v2 : decide (m.room < (ul : Int) - sz + (n : Int)) = true := decide_eq_true v1
            have HE := Lib.hid (show writeP m p n = 10 by rw [HWR4.out, if_neg g2, if_pos g3])
            clear g2 g3 hn hsn hul hz0 hz1 hr0 hr1
            go_wp2
            go_ret
            exact ⟨by rw [HE.out]; rfl, HB5.out⟩
          · have v1 : ¬ m.room < (ul : Int) - sz + (n : Int) := by omega
            have v2 : decide (m.room < (ul : Int) - sz + (n : Int)) = false := decide_eq_false v1
            have HE := Lib.hid (show writeP m p n = 0 by rw [HWR4.out, if_neg g2, if_neg g3])
            clear g2 g3 hn hsn hul hz0 hz1 hr0 hr1
            go_wp2
            go_ret
            exact ⟨by rw [HE.out]; rfl, HB5.out⟩
set_option maxRecDepth 100000 in
set_option maxHeartbeats 8000000 in
theorem refusal_false (h : Dp w S b m mv md pv vs sl) (hok : DkOk 300 m) (hr0 : 0 ≤ m.room) (hr1 : m.room ≤ 1048576) (p : S8) (n : Nat) (hp : p.length ≤ 1000) (hn : n ≤ 400000) (sz ti ch : Int) (q : Option Addr) (bn bc : Nat) (hz0 : 0 ≤ sz) (hz1 : sz ≤ 300000) (hL : leftL m p = m.room - (usedL m : Int) + sz) (hfi : filesP m p = m.seen.length + 1)
    (hl : (Instr.lookup 53 (.map (some mv)) (.string (mkS p)) true).run Tryd.prog w = .ok (.tuple #[.agg #[.int .i64 sz, .int .i64 ti, .int .i64 ch, .slice q bn bc], .bool false]) w) :
    Calls Tryd.prog 21 #[.pointer (some ⟨b, 0, none⟩), .string (mkS p), .int .i64 (n : Int)] w fun e w' => e = .returned (.int .i64 (writeP m p n : Int)) ∧ Below w.heap.size w w' := by
  have c0 := h.cell 0
  have c2 := h.cell 2
  simp at c0 c2
  have hB1 := (Below.refl w.heap.size w).alloc (Nat.le_refl _) (.cells #[.int .i64 sz, .int .i64 ti, .int .i64 ch, .slice q bn bc] 64)
  have k0 : (w.alloc (.cells #[.int .i64 sz, .int .i64 ti, .int .i64 ch, .slice q bn bc] 64)).cell? ⟨w.heap.size, 0, none⟩ = some (.int .i64 sz) := box4_cell w 64 (.int .i64 sz) (.int .i64 ti) (.int .i64 ch) (.slice q bn bc) 0
  have H := Lib.hid h
  have HOK := Lib.hid hok
  have HB1 := Lib.hid hB1
  have HSZ := Lib.hid (World.size_alloc w (.cells #[.int .i64 sz, .int .i64 ti, .int .i64 ch, .slice q bn bc] 64))
  generalize hW : w.alloc (.cells #[.int .i64 sz, .int .i64 ti, .int .i64 ch, .slice q bn bc] 64) = W at *
  have HW := Lib.hid hW
  have HWR := Lib.hid (show writeP m p n = if !goodL p then 7 else if 262144 < n then 1 else if clashesL m.seen p p then 9 else if 64 < m.seen.length + 1 then 14 else if m.room - (usedL m : Int) + sz < (n : Int) then 10 else 0 by unfold writeP; rw [hfi, hL])
  have hul := usedL_le hok.shortB (n := m.seen.length) rfl
  have hsn := hok.seen
  obtain ⟨ul, hue⟩ : ∃ ul, usedL m = ul := ⟨_, rfl⟩
  have HUE := Lib.hid hue
  obtain ⟨ln, hln⟩ : ∃ ln, m.seen.length = ln := ⟨_, rfl⟩
  have HLN := Lib.hid hln
  rw [hue, hln] at hul
  rw [hln] at hsn
  have hws : IntKind.i64.wrap ((ul : Int) - sz) = (ul : Int) - sz := by rw [IntKind.wrap_i64]; omega
  have hws2 : IntKind.i64.wrap ((ul : Int) - sz + (n : Int)) = (ul : Int) - sz + (n : Int) := by rw [IntKind.wrap_i64]; omega
  have hS : ∀ u, Below W.heap.size W u → u.cell? ⟨b, 2, none⟩ = some (.map (some mv)) ∧ u.cell? ⟨w.heap.size, 0, none⟩ = some (.int .i64 sz) ∧ ∀ ty, (Builtin.len_ #[53] ty #[.map (some mv)]).run Tryd.prog u = .ok (.int .i64 (ln : Int)) u := fun u hu => by
    have hd := (H.out.of_below HB1.out).of_below hu
    have e2 := hd.cell 2
    simp at e2
    refine ⟨e2, ?_, fun ty => by have := len8 hd.vis ty; rwa [HLN.out] at this⟩
    rw [hu.cell (p := ⟨w.heap.size, 0, none⟩) (by rw [HSZ.out]; exact Nat.lt_succ_self _)]
    exact k0
  have HS := Lib.hid hS
  obtain ⟨s1, s2, s3⟩ := hS W.drew ((Below.refl _ _).drew)
  have hl64 : IntKind.i64.wrap ((ln : Int) + 1) = (ln : Int) + 1 := by rw [IntKind.wrap_i64]; omega
  have HN := Lib.hid (And.intro hn (And.intro hsn (And.intro hul (And.intro hz0 (And.intro hz1 (And.intro hr0 hr1))))))
  have HP := Lib.hid hp
  have HUS : Hid (Calls Tryd.prog 14 #[.pointer (some ⟨b, 0, none⟩)] W.drew fun e w' => e = .returned (.int .i64 (ul : Int)) ∧ Below W.heap.size W.drew w') := Lib.hid (by have := used_any ((H.out.of_below HB1.out).of_below (Below.refl W.heap.size W).drew) HOK.out; rwa [HUE.out] at this)
  clear h hok hB1 hW hL hfi hue hln hp hn hsn hul hz0 hz1 hr0 hr1 hS
  go_enter Tryd.func21, Tryd.ntmps21
  go_wp2_with fail
  rw [HW.out]
  go_region_held3 (fun u : World => u.cell? ⟨b, 2, none⟩ = some (.map (some mv)) ∧ u.cell? ⟨w.heap.size, 0, none⟩ = some (.int .i64 sz) ∧ ∀ ty, (Builtin.len_ #[53] ty #[.map (some mv)]).run Tryd.prog u = .ok (.int .i64 (ln : Int)) u) (first | exact ⟨s1, s2, s3⟩ | exact ⟨z1, z2, z3⟩ | go_keep) ((first | (go_at_call 14; refine (HUS.out).mono ?_; rintro e w2 ⟨rfl, hB2⟩; have hB3 := ((Below.refl W.heap.size W).drew).trans hB2; obtain ⟨z1, z2, z3⟩ := HS.out w2 hB3; have HB3 := Lib.hid hB3; clear hB2 hB3)))
  have HD2 := Lib.hid ((H.out.of_below HB1.out).of_below HB3.out)
  have HBX := Lib.hid (HB1.out.trans (HB3.out.mono HB1.out.size))
  have c02 := HD2.out.cell 0
  have c22 := HD2.out.cell 2
  simp at c02 c22
  have HGD := Lib.hid (good_any p w2 (by have := HP.out; omega))
  clear c0 c2 k0 s1 s2 s3 z1 z2 z3 hl
  cases hgd : goodL p with
  | false =>
    rw [hgd] at HGD
    have HE := Lib.hid (show writeP m p n = 7 by rw [HWR.out, hgd]; rfl)
    go_wp2_with fail
    refine HGD.out.mono ?_
    rintro e w4 ⟨rfl, hB4⟩
    have HB4 := Lib.hid (HBX.out.trans (hB4.mono HBX.out.size))
    clear hB4
    go_wp2
    go_ret
    exact ⟨by rw [HE.out]; rfl, HB4.out⟩
  | true =>
    rw [hgd] at HGD
    have HWR2 := Lib.hid (show writeP m p n = if 262144 < n then 1 else if clashesL m.seen p p then 9 else if 64 < ln + 1 then 14 else if m.room - (ul : Int) + sz < (n : Int) then 10 else 0 by rw [HWR.out, hgd, HUE.out, HLN.out]; rfl)
    clear HWR
    by_cases g1 : 262144 < n
    · have y1 : (262144 : Int) < (n : Int) := by omega
      have y2 : decide ((262144 : Int) < (n : Int)) = true := decide_eq_true y1
      have y3 : decide (262144 < n) = true := decide_eq_true g1
      have HE := Lib.hid (show writeP m p n = 1 by rw [HWR2.out, if_pos g1])
      clear g1
      go_wp2_with fail
      refine HGD.out.mono ?_
      rintro e w4 ⟨rfl, hB4⟩
      have HB4 := Lib.hid (HBX.out.trans (hB4.mono HBX.out.size))
      clear hB4
      go_wp2
      go_ret
      exact ⟨by rw [HE.out]; rfl, HB4.out⟩
    · have y1 : ¬ (262144 : Int) < (n : Int) := by omega
      have y2 : decide ((262144 : Int) < (n : Int)) = false := decide_eq_false y1
      have y3 : decide (262144 < n) = false := decide_eq_false g1
      have HWR3 := Lib.hid (show writeP m p n = if clashesL m.seen p p then 9 else if 64 < ln + 1 then 14 else if m.room - (ul : Int) + sz < (n : Int) then 10 else 0 by rw [HWR2.out, if_neg g1])
      clear HWR2 g1
      go_wp2_with fail
      refine HGD.out.mono ?_
      rintro e w4 ⟨rfl, hB4⟩
      have HB4 := Lib.hid (HBX.out.trans (hB4.mono HBX.out.size))
      have HD4 := Lib.hid (HD2.out.of_below hB4)
      have c04 := HD4.out.cell 0
      have c24 := HD4.out.cell 2
      simp at c04 c24
      have HCL := Lib.hid (clashes_any HD4.out.vis HOK.out.shS p p (by have := HP.out; omega))
      clear hB4 c02 c22
      cases hcl : clashesL m.seen p p with
      | true =>
        rw [hcl] at HCL
        have HE := Lib.hid (show writeP m p n = 9 by rw [HWR3.out, hcl]; rfl)
        clear hcl
        go_wp2_with fail
        refine HCL.out.mono ?_
        rintro e w5 ⟨rfl, hB5⟩
        have HB5 := Lib.hid (HB4.out.trans (hB5.mono HB4.out.size))
        clear hB5
        go_wp2
        go_ret
        exact ⟨by rw [HE.out]; rfl, HB5.out⟩
      | false =>
        rw [hcl] at HCL
        have HWR4 := Lib.hid (show writeP m p n = if 64 < ln + 1 then 14 else if m.room - (ul : Int) + sz < (n : Int) then 10 else 0 by rw [HWR3.out, hcl]; rfl)
        clear HWR3 hcl
        go_wp2_with fail
        refine HCL.out.mono ?_
        rintro e w5 ⟨rfl, hB5⟩
        have HB5 := Lib.hid (HB4.out.trans (hB5.mono HB4.out.size))
        have c05 := (HD4.out.of_below hB5).cell 0
        simp at c05
        clear hB5 c04 c24
        obtain ⟨hn, hsn, hul, hz0, hz1, hr0, hr1⟩ := HN.out
        by_cases g2 : 64 < ln + 1
        · have x1 : (64 : Int) < (ln : Int) + 1 := by omega
          have x2 : decide ((64 : Int) < (ln : Int) + 1) = true := decide_eq_true x1
          have HE := Lib.hid (show writeP m p n = 14 by rw [HWR4.out, if_pos g2])
          clear g2 hn hsn hul hz0 hz1 hr0 hr1
          go_wp2
          go_ret
          exact ⟨by rw [HE.out]; rfl, HB5.out⟩
        · have x1 : ¬ (64 : Int) < (ln : Int) + 1 := by omega
          have x2 : decide ((64 : Int) < (ln : Int) + 1) = false := decide_eq_false x1
          by_cases g3 : m.room - (ul : Int) + sz < (n : Int)
          · have v1 : m.room < (ul : Int) - sz + (n : Int) := by omega
            have v2 : decide (m.room < (ul : Int) - sz + (n : Int)) = true := decide_eq_true v1
            have HE := Lib.hid (show writeP m p n = 10 by rw [HWR4.out, if_neg g2, if_pos g3])
            clear g2 g3 hn hsn hul hz0 hz1 hr0 hr1
            go_wp2
            go_ret
            exact ⟨by rw [HE.out]; rfl, HB5.out⟩
          · have v1 : ¬ m.room < (ul : Int) - sz + (n : Int) := by omega
            have v2 : decide (m.room < (ul : Int) - sz + (n : Int)) = false := decide_eq_false v1
            have HE := Lib.hid (show writeP m p n = 0 by rw [HWR4.out, if_neg g2, if_neg g3])
            clear g2 g3 hn hsn hul hz0 hz1 hr0 hr1
            go_wp2
            go_ret
            exact ⟨by rw [HE.out]; rfl, HB5.out⟩
set_option maxHeartbeats 1000000 in
theorem refusal_any (h : Dp w S b m mv md pv vs sl) (hok : DkOk 300 m) (hr0 : 0 ≤ m.room) (hr1 : m.room ≤ 1048576) (p : S8) (n : Nat) (hp : p.length ≤ 1000) (hn : n ≤ 400000) :
    Calls Tryd.prog 21 #[.pointer (some ⟨b, 0, none⟩), .string (mkS p), .int .i64 (n : Int)] w fun e w' => e = .returned (.int .i64 (writeP m p n : Int)) ∧ Below w.heap.size w w' := by
  cases hf : findL m.seen p with
  | none => exact refusal_false h hok hr0 hr1 p n hp hn 0 0 0 none 0 0 (by decide) (by decide) (by rw [leftL_none hf]; omega) (by unfold filesP; rw [hf]; rfl) (look_none h.vis hf)
  | some i =>
    have hz := size_small h.sz hok (findL_in hf)
    exact refusal_true h hok hr0 hr1 p n hp hn _ _ _ _ _ _ hz.1 hz.2 (by rw [leftL_some hf, h.sz.seen _ (findL_in hf)]) (by unfold filesP; rw [hf]; rfl) (look_some h.vis hf _ rfl)
end
end Go.Proofs.YtjglgohchhdkkaaDoor
