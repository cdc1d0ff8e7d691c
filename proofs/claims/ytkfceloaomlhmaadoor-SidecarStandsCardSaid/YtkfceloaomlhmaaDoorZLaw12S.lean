/- SidecarStands. -/
import Derived.Test.YtkfceloaomlhmaaDoorK5
import Derived.StillTailTactics
set_option linter.unusedSimpArgs false
set_option maxRecDepth 100000
set_option linter.unusedVariables false
namespace Go.Proofs.YtkfceloaomlhmaaDoor
open Go Go.RowKit

attribute [-go_sem] Sha.exec_store
theorem own_set12 {w : World} {base n cap : Nat} {q : Option Addr} {l : List (BitVec 8)} (h : OwnB w base (.slice q n cap) l) (k : Nat) (hk : k < l.length) :
    ∃ g, q = some ⟨g, 0, none⟩ ∧ base ≤ g ∧ g < w.heap.size ∧ w.frozen? ⟨g, k, none⟩ = false ∧ w.cell? ⟨g, k, none⟩ = some (B (l.getD k 0#8)) ∧ ∀ z, Sl (w.setCell ⟨g, k, none⟩ (B z)) q (l.set k z) := by
  obtain ⟨p', c', hv, hs, -, -⟩ := h.shape
  injection hv with e1 e2 e3
  subst e1 e2 e3
  have hlt := h.lt
  rcases h.2 with ⟨-, hl⟩ | ⟨g, cap', cur, hv2, h1, hg, -⟩
  · simp at hl
    subst hl
    exact absurd hk (Nat.not_lt_zero _)
  · injection hv2 with f1 f2 f3
    subst f1
    have hcell : ∀ j, j < l.length → w.cell? ⟨g, j, none⟩ = some (B (l.getD j 0#8)) := fun j hj => by
      obtain ⟨c, o, e, hc⟩ := hs j hj
      injection e with e
      injection e with e4 e5
      subst e4 e5
      rw [Nat.zero_add] at hc
      exact hc
    refine ⟨g, rfl, h1, (hlt g rfl).2, by simp only [World.frozen?, hg]; simp, hcell k hk, fun z j hj => ?_⟩
    rw [List.length_set] at hj
    refine ⟨g, 0, rfl, ?_⟩
    rw [Nat.zero_add]
    by_cases e : j = k
    · subst e
      rw [World.cell?_setCell_same _ _ _ (hcell j hj), List.getD_eq_getElem?_getD, List.getElem?_set_self hj]
      rfl
    · rw [World.cell?_setCell_other _ _ _ _ (by intro h; simp only [Addr.mk.injEq] at h; omega), hcell j hj, List.getD_eq_getElem?_getD, List.getD_eq_getElem?_getD, List.getElem?_set_ne (by omega)]
theorem bx4 (a b c d : Int) (w : World) : (bxT 34 (.agg #[.int .i64 a, .int .i64 b, .int .i64 c, .int .i64 d])).run Tryd.prog w = .ok (.value (.pointer (some ⟨w.heap.size, 0, none⟩))) (w.alloc (.cells #[.int .i64 a, .int .i64 b, .int .i64 c, .int .i64 d] 34)) := by kernel_rfl
theorem exec_box4 (r : Operand → Value) (dst : Option Tmp) (x : Operand) (ty : TypeId) (pos : String) (after : Array Edge) (guard : Option (Nat × Bool)) :
    execOp r ⟨dst, .box 34 x, ty, pos, after, guard⟩ = bxT 34 (r x) := rfl
def ixT12 (t : TypeId) (x i : Value) : Sem Next := do pure (.value (← Instr.index t x i))
theorem exec_ixT12 (r : Operand → Value) (dst : Option Tmp) (x i : Operand) (ty : TypeId) (pos : String) (after : Array Edge) (guard : Option (Nat × Bool)) :
    execOp r ⟨dst, .index 36 x i, ty, pos, after, guard⟩ = ixT12 36 (r x) (r i) := rfl
theorem ix3_0 (a b c : Value) (w : World) : (ixT12 36 (.agg #[a, b, c]) (.int .i64 ((0 : Nat) : Int))).run Tryd.prog w = .ok (.value a) w := by kernel_rfl
theorem ix3_1 (a b c : Value) (w : World) : (ixT12 36 (.agg #[a, b, c]) (.int .i64 ((1 : Nat) : Int))).run Tryd.prog w = .ok (.value b) w := by kernel_rfl
theorem ix3_2 (a b c : Value) (w : World) : (ixT12 36 (.agg #[a, b, c]) (.int .i64 ((2 : Nat) : Int))).run Tryd.prog w = .ok (.value c) w := by kernel_rfl
theorem tmod_small (x k : Int) (hk : 0 < k) : -k < x.tmod k ∧ x.tmod k < k := by
  rcases Int.le_total 0 x with h | h
  · rw [Int.tmod_eq_emod_of_nonneg h]
    have h1 := Int.emod_nonneg x (show k ≠ 0 by omega)
    have h2 := Int.emod_lt_of_pos x hk
    omega
  · have e : x = -(-x) := by omega
    rw [e, Int.neg_tmod, Int.tmod_eq_emod_of_nonneg (by omega)]
    have h1 := Int.emod_nonneg (-x) (show k ≠ 0 by omega)
    have h2 := Int.emod_lt_of_pos (-x) hk
    omega
attribute [local go_sem ↓] exec_bs exec_alloc32 exec_store exec_box4 exec_ixT12 exec_load32
attribute [local go_sem] bs0 st_dig st_B st_b
set_option maxRecDepth 100000 in
set_option maxHeartbeats 16000000 in
theorem stands12_law (l l2 : List (BitVec 8)) (q : Option Addr) (n cap : Nat) (q2 : Option Addr) (n2 cap2 : Nat) (X0 X1 X2 X3 : Int) (w : World) (hs : Sl w q l) (hl : l.length = n) (hq : q = none → cap = 0) (hc : n ≤ cap) (hs2 : Sl w q2 l2) (hl2 : l2.length = n2) (hq2 : q2 = none → cap2 = 0) (hc2 : n2 ≤ cap2)
    (r0 : -9223372036854775808 ≤ X0 ∧ X0 ≤ 9223372036854775807) (r1 : -9223372036854775808 ≤ X1 ∧ X1 ≤ 9223372036854775807) (r2 : -9223372036854775808 ≤ X2 ∧ X2 ≤ 9223372036854775807) (r3 : -9223372036854775808 ≤ X3 ∧ X3 ≤ 9223372036854775807) (hT : Tb w) :
    Calls Tryd.prog 4 #[.slice q n cap, .slice q2 n2 cap2, .agg #[.int .i64 X0, .int .i64 X1, .int .i64 X2, .int .i64 X3]] w fun e w' => e = .returned (.bool true) ∧ Below w.heap.size w w' := by
  have HSL := Lib.hid hs
  have HLN := Lib.hid hl
  have HQ := Lib.hid hq
  have HC := Lib.hid hc
  have HP2 := Lib.hid (And.intro hs2 (And.intro hl2 (And.intro hq2 hc2)))
  have HAW := Lib.hid (fun (u : World) (hu : Below w.heap.size w u) => awake12 u (hT.on hu))
  have HTB := Lib.hid (fun (u : World) (hu : Below w.heap.size w u) => hT.on hu)
  obtain ⟨b0, hb0⟩ : ∃ b, w.heap.size = b := ⟨_, rfl⟩
  obtain ⟨W0, hW0⟩ : ∃ W, w.alloc (.cells #[.int .i64 X0, .int .i64 X1, .int .i64 X2, .int .i64 X3] 34) = W := ⟨_, rfl⟩
  have hbx := bx4 X0 X1 X2 X3 w
  have hX0 : Below w.heap.size w W0 := by rw [← hW0]; exact below_newR _ _
  have hcx : ∀ i v, (#[Value.int .i64 X0, .int .i64 X1, .int .i64 X2, .int .i64 X3] : Array Value)[i]? = some v → W0.cell? ⟨b0, i, none⟩ = some v := fun i v h => by
    rw [← hW0, ← hb0, World.cell?_alloc_new]
    exact h
  rw [hW0, hb0] at hbx
  have HCX := Lib.hid (fun (u : World) (hu : Below W0.heap.size W0 u) => (show u.cell? ⟨b0, 0, none⟩ = some (.int .i64 X0) ∧ u.cell? ⟨b0, 1, none⟩ = some (.int .i64 X1) ∧ u.cell? ⟨b0, 2, none⟩ = some (.int .i64 X2) ∧ u.cell? ⟨b0, 3, none⟩ = some (.int .i64 X3) from by
    have hlt := World.block_lt_of_cell? W0 _ (hcx 0 _ rfl)
    have k : ∀ i, u.cell? ⟨b0, i, none⟩ = W0.cell? ⟨b0, i, none⟩ := fun i => hu.cell (by exact hlt)
    rw [k, k, k, k]
    exact ⟨hcx 0 _ rfl, hcx 1 _ rfl, hcx 2 _ rfl, hcx 3 _ rfl⟩))
  have HX0 := Lib.hid hX0
  have HR := Lib.hid (And.intro r0 (And.intro r1 (And.intro r2 r3)))
  have HT0 := Lib.hid hT
  clear hs hl hq hc hT hs2 hl2 hq2 hc2 hX0 hcx hW0 r0 r1 r2 r3
  go_enter Tryd.func4, Tryd.ntmps4
  try rw [hb0]
  go_wp2_with fail
  refine (HAW.out W0 HX0.out).mono ?_
  rintro e w1 ⟨rfl, hB1⟩
  have HB1 := Lib.hid hB1
  have HX1 := Lib.hid (HX0.out.trans (hB1.mono HX0.out.size))
  clear hB1 hbx
  by_cases hn : n ≤ 3000
  · have a1 : ¬ (3000 : Int) < (n : Int) := by omega
    have a2 : decide ((3000 : Int) < (n : Int)) = false := decide_eq_false a1
    by_cases hn2 : n2 ≤ 3000
    · have a3 : ¬ (3000 : Int) < (n2 : Int) := by omega
      have a4 : decide ((3000 : Int) < (n2 : Int)) = false := decide_eq_false a3
      have HMK := Lib.hid (refMake12_any l q n cap w1 HLN.out (HSL.out.of_below HX1.out) HQ.out HC.out (by omega) (HTB.out _ HX1.out))
      go_wp2_with fail
      refine HMK.out.mono ?_
      rintro e w3 ⟨v3, rfl, hO3, hB3⟩
      obtain ⟨p3, c3, hv3, hs3, hp3, hc3⟩ := hO3.shape
      subst hv3
      obtain ⟨m, hm⟩ : ∃ m, (mkS l).length = m := ⟨_, rfl⟩
      have hm2 : 32 ≤ m ∧ m ≤ 2000 := by rw [← hm, mkS_len, HLN.out]; unfold nstr; omega
      rw [hm] at hc3 ⊢
      have HX3 := Lib.hid (HX1.out.trans (hB3.mono HX1.out.size))
      have HW3 := Lib.hid (HB1.out.trans (hB3.mono HB1.out.size))
      have HP3 := Lib.hid (And.intro hs3 (And.intro hm (And.intro hp3 hc3)))
      have hA := below_newR w3 (.cells #[] 5)
      have HOE := Lib.hid (own_emptyB w3)
      have HSE := Lib.hid (hs3.of_below hA)
      have HZE := Lib.hid hA
      clear hO3 hB3 hs3 hp3 hc3 hA HMK
      go_wp2_with (first
        | (refine wpl_appendL (w3.alloc (.cells #[] 5)) rfl (.tmp 31) (.tmp 32) rfl w3.heap.size (.slice (some ⟨w3.heap.size, 0, none⟩) 0 0) [] rfl HOE.out p3 m c3 (mkS l) HP3.out.2.1 rfl HSE.out HP3.out.2.2.1 (by simp; omega) HZE.out.size ?_
           rintro v4 w4 hO4 hg4 -
           rw [List.nil_append] at hO4
           have hB4 := HZE.out.grown hg4 HZE.out.size (fun k hk => (HOE.out.lt k hk).1)
           have HB4 := Lib.hid hB4
           obtain ⟨p4, c4, hv4, hs4, hp4, hc4⟩ := hO4.shape
           subst hv4
           rw [HP3.out.2.1] at hc4 hO4 ⊢
           have HO4 := Lib.hid hO4
           have HC4 := Lib.hid hc4
           have HW4 := Lib.hid (HW3.out.trans (hB4.mono HW3.out.size))
           have HX4 := Lib.hid (HX3.out.trans (hB4.mono HX3.out.size))
           have hcx := HCX.out w4 HW4.out
           have hcx0 := hcx.1
           have hcx1 := hcx.2.1
           clear hO4 hg4 hB4 hs4 hp4 hc4 hcx))
      obtain ⟨U, hU⟩ : ∃ U : Nat, IntKind.u64.wrap X0 = (U : Int) := Int.eq_ofNat_of_zero_le (wrap_u64_nonneg _)
      obtain ⟨J, hJ⟩ : ∃ J, U % m = J := ⟨_, rfl⟩
      have hJm : J < m := by rw [← hJ]; exact Nat.mod_lt _ (by omega)
      have j1 : IntKind.u64.wrap (m : Int) = (m : Int) := by rw [IntKind.wrap_u64]; omega
      have j2 : (U : Int).tmod (m : Int) = (J : Int) := by rw [Int.tmod_eq_emod_of_nonneg (by omega)]; exact_mod_cast hJ
      have j3 : (U : Int) % (m : Int) = (J : Int) := by exact_mod_cast hJ
      have j4 : IntKind.u64.wrap (J : Int) = (J : Int) := by rw [IntKind.wrap_u64]; omega
      have j5 : ((m : Int) == 0) = false := by simp; omega
      have j6 : (J : Int) < (m : Int) := by omega
      have j8 : ¬ m = 0 := by omega
      have j7 : (0 : Int) ≤ (J : Int) := by omega
      obtain ⟨YN, hY⟩ : ∃ Y : Nat, IntKind.u8.wrap X1 = (Y : Int) := Int.eq_ofNat_of_zero_le (by rw [IntKind.wrap_u8]; omega)
      have hYb : YN < 256 := by have h := hY; rw [IntKind.wrap_u8] at h; omega
      obtain ⟨g4, hp4, hg4l, hg4s, hfz, hcl, hset⟩ := own_set12 (HO4.out) J (by rw [HP3.out.2.1]; exact hJm)
      subst hp4
      obtain ⟨ev, hev⟩ : ∃ e, (mkS l).getD J 0#8 = e := ⟨_, rfl⟩
      rw [hev] at hcl
      have hxor : binOp .xor 5 (B ev) (.int .u8 (YN : Int)) = pure (B (ev ^^^ BitVec.ofNat 8 YN)) := by
        have : (Value.int .u8 (YN : Int)) = B (BitVec.ofNat 8 YN) := by unfold B; rw [BitVec.toNat_ofNat, Nat.mod_eq_of_lt hYb]
        rw [this]; exact bB_xor _ _ _
      obtain ⟨zb, hzb⟩ : ∃ z, ev ^^^ BitVec.ofNat 8 YN = z := ⟨_, rfl⟩
      rw [hzb] at hxor
      have hcs : (w4.drew.cell? ⟨g4, J, none⟩).isSome = true := by show (w4.cell? ⟨g4, J, none⟩).isSome = true; rw [hcl]; rfl
      have hfz2 : w4.drew.frozen? ⟨g4, J, none⟩ = false := hfz
      have hcl2 : w4.drew.cell? ⟨g4, J, none⟩ = some (B ev) := hcl
      have HSET := Lib.hid (hset zb)
      have HG4 := Lib.hid (And.intro hg4l hg4s)
      clear hset hJ hYb hev hzb
      refine wp_region_still_tail 15 (by kernel_rfl) (by kernel_rfl) ?_
      simp only [List.take_succ_cons, List.take_zero, List.drop_succ_cons, List.drop_zero, World.drew_eq]
      repeat (refine wpStill_step (fun K hK => ?_); go_simp; (try go_bits); refine hK _ ?_; clear hK K)
      refine wpStill_nil ?_
      have hB5 : Below w3.heap.size w3 (w4.drew.setCell ⟨g4, J, none⟩ (B zb)) := HB4.out.drew.setCell (show w3.heap.size ≤ (⟨g4, J, none⟩ : Addr).block from HG4.out.1) _
      have hS5 : Sl (w4.drew.setCell ⟨g4, J, none⟩ (B zb)) (some ⟨g4, 0, none⟩) ((mkS l).set J zb) := HSET.out
      obtain ⟨w5, hw5⟩ : ∃ x, w4.drew.setCell ⟨g4, J, none⟩ (B zb) = x := ⟨_, rfl⟩
      rw [hw5] at hB5 hS5
      have HT5 := Lib.hid hS5
      have HX5 := Lib.hid (HX3.out.trans (hB5.mono HX3.out.size))
      have HW5 := Lib.hid (HW3.out.trans (hB5.mono HW3.out.size))
      have HP5 := Lib.hid (HP3.out.1.of_below hB5)
      have HSM := Lib.hid (refSum1_any l q n cap w5 HLN.out (HSL.out.of_below HX5.out) HQ.out (HTB.out _ HX5.out) (by omega))
      obtain ⟨tl, htl⟩ : ∃ t, (mkS l).set J zb = t := ⟨_, rfl⟩
      have HG4z := show g4 < w5.heap.size from by rw [← hw5]; simp; exact HG4.out.2
      have HTL := Lib.hid (show tl.length = m from by rw [← htl, List.length_set, HP3.out.2.1])
      rw [htl] at HT5
      clear hB5 hS5 HSET HB4 HO4
      go_wp2_with fail
      refine HSM.out.mono ?_
      rintro e w6 ⟨rfl, hB6⟩
      clear hw5
      obtain ⟨dg, hdg⟩ : ∃ d, digL l = d := ⟨_, rfl⟩
      have hdl : dg.length = 32 := by rw [← hdg]; exact digL_len _
      rw [hdg]
      have st := st_dig w6 w6.heap.size dg rfl
      obtain ⟨y7, hy7⟩ : ∃ y, w6.alloc (.cells (tab 32 (dgF dg)) 31) = y := ⟨_, rfl⟩
      have hby := below_newR w6 (.cells (tab 32 (dgF dg)) 31)
      have hrd := Row.new w6 31 32 (dgF dg)
      rw [hy7] at st hby hrd
      have hb7 := hB6.trans (hby.mono hB6.size)
      obtain ⟨b9, hb9⟩ : ∃ b, w6.heap.size = b := ⟨_, rfl⟩
      rw [hb9] at st hrd
      have HX7 := Lib.hid (HX5.out.trans (hb7.mono HX5.out.size))
      have HW7 := Lib.hid (HW5.out.trans (hb7.mono HW5.out.size))
      have HP7 := Lib.hid (HP5.out.of_below hb7)
      have HT7 := Lib.hid (HT5.out.of_below hb7)
      have HRD := Lib.hid hrd
      have HB57 := Lib.hid hb7
      have HDL := Lib.hid hdl
      have HB9 := Lib.hid (show w5.heap.size ≤ b9 from by rw [← hb9]; exact hB6.size)
      have HLT4 := Lib.hid (show g4 < w5.heap.size from HG4z)
      have hcx2 := (HCX.out y7 HW7.out).2.2.1
      have m1 : IntKind.i64.wrap (X2.tmod 5) = X2.tmod 5 := by
        have h1 := tmod_small X2 5 (by decide)
        rw [IntKind.wrap_i64]; omega
      have m2 : IntKind.i64.wrap (X3.tmod 3) = X3.tmod 3 := by
        have h1 := tmod_small X3 3 (by decide)
        rw [IntKind.wrap_i64]; omega
      clear hby hb7 hrd hdl hy7 hB6 HSM hcx0 hcx1 hcs hfz hfz2 hcl hcl2 hxor j1 j2 j3 j4 j5 j6 j7 j8
      rename_i K9 hK9 K8 hK8
      have HK9 := Lib.hid hK9
      clear hK9
      go_wp2
      refine HK9.out _ _ ?_
      refine wp_seq_k fun K2 hK2 => ?_
      have HK2 := Lib.hid hK2
      clear hK2 HK9
      have HREST := Lib.hid (show ∀ (t53 t54 t55 t56 t57 t58 : Value) (wh : List (BitVec 8)) (wZ : World), Below w5.heap.size w5 wZ → Row wZ b9 31 32 (dgF wh) → wh.length = 32 → K2 { tmps := #[Value.slice q n cap, Value.slice q2 n2 cap2, Value.agg #[Value.int IntKind.i64 X0, Value.int IntKind.i64 X1, Value.int IntKind.i64 X2, Value.int IntKind.i64 X3], undef, undef, Value.pointer (some ⟨b0, 0, none⟩), Value.bool false, Value.slice p3 m c3, Value.slice (some ⟨g4, 0, none⟩) m c4, Value.pointer (some ⟨b9, 0, none⟩), undef, undef, undef, undef, undef, undef, Value.bool true, Value.bool false, Value.bool false, Value.slice q n cap, Value.int IntKind.i64 (n : Int), Value.bool false, Value.bool false, Value.bool false, Value.slice q2 n2 cap2, Value.int IntKind.i64 (n2 : Int), Value.bool false, Value.bool false, undef, Value.slice q n cap, Value.slice p3 m c3, Value.slice (some ⟨w3.heap.size, 0, none⟩) 0 0, Value.slice p3 m c3, Value.slice (some ⟨g4, 0, none⟩) m c4, Value.slice (some ⟨g4, 0, none⟩) m c4, Value.pointer (some ⟨b0, 0, none⟩), Value.int IntKind.i64 X0, Value.int IntKind.u64 (U : Int), Value.slice (some ⟨g4, 0, none⟩) m c4, Value.int IntKind.i64 (m : Int), Value.int IntKind.u64 (m : Int), Value.int IntKind.u64 (J : Int), Value.pointer (some ⟨g4, J, none⟩), B ev, Value.pointer (some ⟨b0, 1, none⟩), Value.int IntKind.i64 X1, Value.int IntKind.u8 (YN : Int), B zb, Value.pointer (some ⟨g4, J, none⟩), Value.slice q n cap, digV dg, Value.pointer (some ⟨b0, 2, none⟩), Value.int IntKind.i64 X2, t53, t54, t55, t56, t57, t58, undef, undef, undef, undef, undef, undef, undef, undef, undef, undef, undef, undef, undef, undef, undef, undef, undef, undef, undef, undef, undef, undef, undef, undef, undef, undef, undef, undef, undef, undef, undef, undef, undef, undef, undef, undef, undef, undef, undef, undef, undef, undef, undef, undef, undef, undef, undef, undef, undef, undef, undef, undef, undef, undef, undef, undef, undef, undef], defers := [] } wZ from by
        intro t53 t54 t55 t56 t57 t58 wh wZ hBZ hRZ hWL
        have HBZ := Lib.hid hBZ
        have HRZ := Lib.hid hRZ
        have HWL := Lib.hid hWL
        have HXZ := Lib.hid (HX5.out.trans (hBZ.mono HX5.out.size))
        have hcx3 := (HCX.out wZ (HW5.out.trans (hBZ.mono HW5.out.size))).2.2.2
        clear hBZ hRZ hWL hcx2 m1 st HRD HDL HB57 HX7 HW7 HP7 HT7
        refine HK2.out _ _ ?_
        refine wp_seq_k fun K5 hK5 => ?_
        have HK5 := Lib.hid hK5
        clear hK5 HK2
        go_wp2
        refine HK5.out _ _ ?_
        refine wp_seq_k fun K3 hK3 => ?_
        have HK3 := Lib.hid hK3
        clear hK3 HK5
        have HRST := Lib.hid (show ∀ (t61 t62 t63 t64 t65 t66 t67 t68 t69 t70 t71 : Value) (z : Int), -9223372036854775808 ≤ z → z ≤ 20000 → K3 { tmps := #[Value.slice q n cap, Value.slice q2 n2 cap2, Value.agg #[Value.int IntKind.i64 X0, Value.int IntKind.i64 X1, Value.int IntKind.i64 X2, Value.int IntKind.i64 X3], undef, undef, Value.pointer (some ⟨b0, 0, none⟩), Value.bool false, Value.slice p3 m c3, Value.slice (some ⟨g4, 0, none⟩) m c4, Value.pointer (some ⟨b9, 0, none⟩), Value.int IntKind.i64 z, undef, undef, undef, undef, undef, Value.bool true, Value.bool false, Value.bool false, Value.slice q n cap, Value.int IntKind.i64 (n : Int), Value.bool false, Value.bool false, Value.bool false, Value.slice q2 n2 cap2, Value.int IntKind.i64 (n2 : Int), Value.bool false, Value.bool false, undef, Value.slice q n cap, Value.slice p3 m c3, Value.slice (some ⟨w3.heap.size, 0, none⟩) 0 0, Value.slice p3 m c3, Value.slice (some ⟨g4, 0, none⟩) m c4, Value.slice (some ⟨g4, 0, none⟩) m c4, Value.pointer (some ⟨b0, 0, none⟩), Value.int IntKind.i64 X0, Value.int IntKind.u64 (U : Int), Value.slice (some ⟨g4, 0, none⟩) m c4, Value.int IntKind.i64 (m : Int), Value.int IntKind.u64 (m : Int), Value.int IntKind.u64 (J : Int), Value.pointer (some ⟨g4, J, none⟩), B ev, Value.pointer (some ⟨b0, 1, none⟩), Value.int IntKind.i64 X1, Value.int IntKind.u8 (YN : Int), B zb, Value.pointer (some ⟨g4, J, none⟩), Value.slice q n cap, digV dg, Value.pointer (some ⟨b0, 2, none⟩), Value.int IntKind.i64 X2, t53, t54, t55, t56, t57, t58, Value.slice q n cap, Value.int IntKind.i64 (n : Int), t61, t62, t63, t64, t65, t66, t67, t68, t69, t70, t71, undef, undef, undef, undef, undef, undef, undef, undef, undef, undef, undef, undef, undef, undef, undef, undef, undef, undef, undef, undef, undef, undef, undef, undef, undef, undef, undef, undef, undef, undef, undef, undef, undef, undef, undef, undef, undef, undef, undef, undef, undef, undef, undef, undef, undef], defers := [] } wZ from by
          intro t61 t62 t63 t64 t65 t66 t67 t68 t69 t70 t71 z hz1 hz2
          clear hcx3 m2
          refine HK3.out _ _ ?_
          obtain ⟨kk, hkk⟩ : ∃ k, nstr (z : Int).toNat = k := ⟨_, rfl⟩
          obtain ⟨k2, hk2⟩ : ∃ x, 2 * kk = x := ⟨_, rfl⟩
          have hkb : kk ≤ 20 := by rw [← hkk]; unfold nstr; omega
          have hk2b : k2 ≤ 40 := by omega
          have HST := Lib.hid (fun (ls : List (BitVec 8)) (ps : Option Addr) (ns cs : Nat) (u : World) h1 h2 h3 h4 h5 (h6 : Tb u) => stands12_any ls ps ns cs (z : Int) wh u h1 h2 h3 h4 h5 (by omega) (by omega) HWL.out h6)
          have HRS := Lib.hid (fun (ls : List (BitVec 8)) (ps : Option Addr) (ns cs : Nat) (u : World) h1 h2 h3 h4 h5 (h6 : Tb u) => refStands12_any ls ps ns cs (z : Int) wh u h1 h2 h3 h4 h5 (by omega) (by omega) HWL.out h6)
          rw [hkk, hk2] at HST HRS
          have HLE := Lib.hid (fun u => Len_any (z : Int) u (by omega) (by omega))
          rw [hkk] at HLE
          obtain ⟨zn, hzn⟩ : ∃ x, (z : Int).toNat = x := ⟨_, rfl⟩
          have hmx : max (z : Int) 0 = (zn : Int) := by omega
          obtain ⟨ZA, hZA⟩ : ∃ x, zn + 1023 = x := ⟨_, rfl⟩
          obtain ⟨K6, hK6⟩ : ∃ x, 576 * kk = x := ⟨_, rfl⟩
          obtain ⟨M9, hM9⟩ : ∃ x, 32 + K6 = x := ⟨_, rfl⟩
          rw [hK6, hM9] at HLE
          have HAR := Lib.hid (show max (z : Int) 0 = (zn : Int) ∧ IntKind.i64.wrap ((zn : Int) + 1023) = (ZA : Int) ∧ (ZA : Int).tdiv 1024 = (kk : Int) ∧ (ZA : Int) / 1024 = (kk : Int) ∧ IntKind.i64.wrap (576 * (kk : Int)) = (K6 : Int) ∧ IntKind.i64.wrap (32 + (K6 : Int)) = (M9 : Int) ∧ IntKind.i64.wrap (kk : Int) = (kk : Int) from
            ⟨hmx, by rw [IntKind.wrap_i64]; omega, by rw [Int.tdiv_eq_ediv_of_nonneg (by omega)]; rw [← hkk]; unfold nstr; omega, by rw [← hkk]; unfold nstr; omega, by rw [IntKind.wrap_i64]; omega, by rw [IntKind.wrap_i64]; omega, by rw [IntKind.wrap_i64]; omega⟩)
          have HXZ := Lib.hid (HX5.out.trans (HBZ.out.mono HX5.out.size))
          have HK2 := Lib.hid hk2
          clear hkk hk2 hzn hmx hZA hK6 hM9
          go_wp2
          go_loopw [76] (fun f wr => ∃ i : Nat, i ≤ 3 ∧ f = .int .i64 (i : Int) ∧ Below wZ.heap.size wZ wr) (fun f _ => 3 - (intOf f).toNat)
          case atStart => exact ⟨0, Nat.zero_le _, rfl, Below.refl _ _⟩
          case round =>
            obtain ⟨i, hi, rfl, hBi⟩ := hrel
            by_cases hi3 : i < 3
            · have y3 : (i : Int) < (3 : Int) := by omega
              have y4 : decide ((i : Int) < (3 : Int)) = true := decide_eq_true y3
              obtain ⟨ls, ps, ns, cs, hix, g1, g2, g3, g4', g5⟩ : ∃ (ls : List (BitVec 8)) (ps : Option Addr) (ns cs : Nat), (∀ u, (ixT12 36 (.agg #[.slice p3 m c3, .slice (some ⟨g4, 0, none⟩) m c4, .slice q2 n2 cap2]) (.int .i64 (i : Int))).run Tryd.prog u = .ok (.value (.slice ps ns cs)) u) ∧ ls.length = ns ∧ Sl wZ ps ls ∧ (ps = none → cs = 0) ∧ ns ≤ cs ∧ ns < 1000000 := by
                have hi012 : i = 0 ∨ i = 1 ∨ i = 2 := by omega
                rcases hi012 with rfl | rfl | rfl
                · exact ⟨mkS l, p3, m, c3, fun u => ix3_0 _ _ _ u, HP3.out.2.1, HP5.out.of_below HBZ.out, HP3.out.2.2.1, HP3.out.2.2.2, by omega⟩
                · exact ⟨tl, some ⟨g4, 0, none⟩, m, c4, fun u => ix3_1 _ _ _ u, HTL.out, HT5.out.of_below HBZ.out, (fun e => by cases e), HC4.out, by omega⟩
                · exact ⟨l2, q2, n2, cap2, fun u => ix3_2 _ _ _ u, HP2.out.2.1, HP2.out.1.of_below HXZ.out, HP2.out.2.2.1, HP2.out.2.2.2, by omega⟩
              have HCS := Lib.hid (fun u (hu : Below wZ.heap.size wZ u) => HST.out ls ps ns cs u g1 (g2.of_below hu) g3 g4' g5 (HTB.out _ (HXZ.out.trans (hu.mono HXZ.out.size))))
              have HCR := Lib.hid (fun u (hu : Below wZ.heap.size wZ u) => HRS.out ls ps ns cs u g1 (g2.of_below hu) g3 g4' g5 (HTB.out _ (HXZ.out.trans (hu.mono HXZ.out.size))))
              have HLD := Lib.hid (fun u (hu : Below wZ.heap.size wZ u) => ld_dig (dgF_sl12 (HRZ.out.of_below hu) HWL.out) HWL.out)
              have HX0 := Lib.hid (show Below wZ.heap.size wZ wr.drew from hBi.drew)
              clear g1 g2 g3 g4' g5 hBi
              go_wp2
              clear hix
              refine wp_region_noPanic ?_
              refine wp_region_held_drew (S := (fun u : World => (ldT 31 (.pointer (some ⟨b9, 0, none⟩))).run Tryd.prog u = .ok (.value (digV wh)) u)) (by kernel_rfl) (HLD.out _ HX0.out) (fun hHeld => ?_)
              generalize wr.drew = x at hHeld HX0 ⊢
              refine wpAnyH_take (i := 0) (v := ?_) (by simp only [List.getElem?_toArray, List.getElem?_cons_succ, List.getElem?_cons_zero]; exact rfl) (by kernel_rfl) (by kernel_rfl) (by kernel_rfl) (fun _ _ _ h => h) (Or.inl ⟨by rfl, ?_⟩) (by assumption) ?_
              rotate_left 1
              · (intro w hSw; (try dsimp only at hSw); go_simp; try with_reducible rfl)
              try simp only [Act.put, List.setIfInBounds_toArray, List.set_cons_zero, List.set_cons_succ]
              refine wpAnyH_take (i := 1) (v := ?_) (by simp only [List.getElem?_toArray, List.getElem?_cons_succ, List.getElem?_cons_zero]; exact rfl) (by kernel_rfl) (by kernel_rfl) (by kernel_rfl) (fun _ _ _ h => h) (Or.inl ⟨by rfl, ?_⟩) (by assumption) ?_
              rotate_left 1
              · (intro w hSw; (try dsimp only at hSw); go_simp; try with_reducible rfl)
              try simp only [Act.put, List.setIfInBounds_toArray, List.set_cons_zero, List.set_cons_succ]
              refine wpAnyH_take (i := 2) (v := ?_) (by simp only [List.getElem?_toArray, List.getElem?_cons_succ, List.getElem?_cons_zero]; exact rfl) (by kernel_rfl) (by kernel_rfl) (by kernel_rfl) (fun _ _ _ h => h) (Or.inl ⟨by rfl, ?_⟩) (by assumption) ?_
              rotate_left 1
              · (intro w hSw; (try dsimp only at hSw); go_simp; try with_reducible rfl)
              try simp only [Act.put, List.setIfInBounds_toArray, List.set_cons_zero, List.set_cons_succ]
              refine wpAnyH_take (i := 4) (v := ?_) (by simp only [List.getElem?_toArray, List.getElem?_cons_succ, List.getElem?_cons_zero]; exact rfl) (by kernel_rfl) (by kernel_rfl) (by kernel_rfl) (fun _ _ _ h => h) (Or.inl ⟨by rfl, ?_⟩) (by assumption) ?_
              rotate_left 1
              · (intro w hSw; (try dsimp only at hSw); go_simp; try with_reducible rfl)
              try simp only [Act.put, List.setIfInBounds_toArray, List.set_cons_zero, List.set_cons_succ]
              refine wpAnyH_take (i := 5) (v := ?_) (by simp only [List.getElem?_toArray, List.getElem?_cons_succ, List.getElem?_cons_zero]; exact rfl) (by kernel_rfl) (by kernel_rfl) (by kernel_rfl) (fun _ _ _ h => h) (Or.inl ⟨by rfl, ?_⟩) (by assumption) ?_
              rotate_left 1
              · (intro w hSw; (try dsimp only at hSw); go_simp; try with_reducible rfl)
              try simp only [Act.put, List.setIfInBounds_toArray, List.set_cons_zero, List.set_cons_succ]
              refine wpAnyH_take (i := 6) (v := ?_) (by simp only [List.getElem?_toArray, List.getElem?_cons_succ, List.getElem?_cons_zero]; exact rfl) (by kernel_rfl) (by kernel_rfl) (by kernel_rfl) (fun _ _ _ h => h) (Or.inl ⟨by rfl, ?_⟩) (by assumption) ?_
              rotate_left 1
              · (intro w hSw; (try dsimp only at hSw); go_simp; try with_reducible rfl)
              try simp only [Act.put, List.setIfInBounds_toArray, List.set_cons_zero, List.set_cons_succ]
              refine wpAnyH_ready (rs := [3]) (by kernel_rfl) (by simp) ?_
              refine (AllReadyH.cons (by simp only [List.getElem?_toArray, List.getElem?_cons_succ, List.getElem?_cons_zero]; exact rfl) (fun K hK => ?_) AllReadyH.nil)
              go_simp
              refine (HCS.out x HX0.out).mono ?_
              rintro e x1 ⟨G1, rfl, hGa, hGb, hR1, hB1⟩
              have HX1 := Lib.hid (HX0.out.trans (hB1.mono HX0.out.size))
              have HR1 := Lib.hid hR1
              clear hB1 hR1 hGa hGb
              go_wp2_with fail
              refine hK.out _ _ (HLD.out _ HX1.out) (fun hHeld => ?_)
              clear hK K
              try simp only [Act.put, List.setIfInBounds_toArray, List.set_cons_zero, List.set_cons_succ]
              refine wpAnyH_ready (rs := [7]) (by kernel_rfl) (by simp) ?_
              refine (AllReadyH.cons (by simp only [List.getElem?_toArray, List.getElem?_cons_succ, List.getElem?_cons_zero]; exact rfl) (fun K hK => ?_) AllReadyH.nil)
              go_simp
              refine (HCR.out x1 HX1.out).mono ?_
              rintro e x2 ⟨G2, rfl, hGa, hGb, hR2, hB2⟩
              have HX2 := Lib.hid (HX1.out.trans (hB2.mono HX1.out.size))
              have HR12 := Lib.hid (And.intro (HR1.out.of_below hB2) hR2)
              clear hB2 hR2 hGa hGb
              go_wp2_with fail
              refine hK.out _ _ (HLD.out _ HX2.out) (fun hHeld => ?_)
              clear hK K
              try simp only [Act.put, List.setIfInBounds_toArray, List.set_cons_zero, List.set_cons_succ]
              refine wpAnyH_take (i := 8) (v := ?_) (by simp only [List.getElem?_toArray, List.getElem?_cons_succ, List.getElem?_cons_zero]; exact rfl) (by kernel_rfl) (by kernel_rfl) (by kernel_rfl) (fun _ _ _ h => h) (Or.inl ⟨by rfl, ?_⟩) (by assumption) ?_
              rotate_left 1
              · (intro w hSw; (try dsimp only at hSw); go_simp; try with_reducible rfl)
              try simp only [Act.put, List.setIfInBounds_toArray, List.set_cons_zero, List.set_cons_succ]
              refine wpAnyH_take (i := 9) (v := ?_) (by simp only [List.getElem?_toArray, List.getElem?_cons_succ, List.getElem?_cons_zero]; exact rfl) (by kernel_rfl) (by kernel_rfl) (by kernel_rfl) (fun _ _ _ h => h) (Or.inl ⟨by rfl, ?_⟩) (by assumption) ?_
              rotate_left 1
              · (intro w hSw; (try dsimp only at hSw); go_simp; try with_reducible rfl)
              try simp only [Act.put, List.setIfInBounds_toArray, List.set_cons_zero, List.set_cons_succ]
              refine wpAnyH_done (by kernel_rfl) ?_ _
              refine NoPanic.normal ?_
              clear hHeld
              go_wp2
              go_loopw [94] (fun f wr => ∃ j : Nat, j ≤ k2 ∧ f = .int .i64 (j : Int) ∧ Below x2.heap.size x2 wr) (fun f _ => k2 - (intOf f).toNat)
              case atStart => exact ⟨0, Nat.zero_le _, rfl, Below.refl _ _⟩
              case round =>
                obtain ⟨j, hj, rfl, hBj⟩ := hrel
                have HBJ := Lib.hid hBj
                by_cases hjk : j < k2
                · have z3 : (j : Int) < (k2 : Int) := by omega
                  have z4 : decide ((j : Int) < (k2 : Int)) = true := decide_eq_true z3
                  have hxa := (HR12.out.1.of_below hBj).cell j hjk
                  have hxb := (HR12.out.2.of_below hBj).cell j hjk
                  obtain ⟨bb, hbb⟩ : ∃ b, stB ls kk wh j = b := ⟨_, rfl⟩
                  rw [hbb] at hxa hxb
                  have HLE2 := Lib.hid (show wr.drew.cell? ⟨G1, j, none⟩ = some (.bool bb) ∧ wr.drew.cell? ⟨G2, j, none⟩ = some (.bool bb) from ⟨hxa, hxb⟩)
                  clear hBj hbb hxa hxb
                  cases bb with
                  | true =>
                    go_wp2
                    refine wp_region_noPanic ?_
                    refine wp_region_held_drew (S := (fun u : World => u.cell? ⟨G1, j, none⟩ = some (.bool true) ∧ u.cell? ⟨G2, j, none⟩ = some (.bool true))) (by kernel_rfl) (HLE2.out) (fun hHeld => ?_)
                    refine wpAnyH_take (i := 0) (v := ?_) (by simp only [List.getElem?_toArray, List.getElem?_cons_succ, List.getElem?_cons_zero]; exact rfl) (by kernel_rfl) (by kernel_rfl) (by kernel_rfl) (fun _ _ _ h => h) (Or.inl ⟨by rfl, ?_⟩) (by assumption) ?_
                    rotate_left 1
                    · (intro w hSw; (try dsimp only at hSw); go_simp; try with_reducible rfl)
                    try simp only [Act.put, List.setIfInBounds_toArray, List.set_cons_zero, List.set_cons_succ]
                    refine wpAnyH_take (i := 1) (v := ?_) (by simp only [List.getElem?_toArray, List.getElem?_cons_succ, List.getElem?_cons_zero]; exact rfl) (by kernel_rfl) (by kernel_rfl) (by kernel_rfl) (fun _ _ _ h => h) (Or.inl ⟨by rfl, ?_⟩) (by assumption) ?_
                    rotate_left 1
                    · (intro w hSw; (try dsimp only at hSw); go_simp; try with_reducible rfl)
                    try simp only [Act.put, List.setIfInBounds_toArray, List.set_cons_zero, List.set_cons_succ]
                    refine wpAnyH_take (i := 2) (v := ?_) (by simp only [List.getElem?_toArray, List.getElem?_cons_succ, List.getElem?_cons_zero]; exact rfl) (by kernel_rfl) (by kernel_rfl) (by kernel_rfl) (fun _ _ _ h => h) (Or.inl ⟨by rfl, ?_⟩) (by assumption) ?_
                    rotate_left 1
                    · (intro w hSw; (try dsimp only at hSw); go_simp; try with_reducible rfl)
                    try simp only [Act.put, List.setIfInBounds_toArray, List.set_cons_zero, List.set_cons_succ]
                    refine wpAnyH_take (i := 3) (v := ?_) (by simp only [List.getElem?_toArray, List.getElem?_cons_succ, List.getElem?_cons_zero]; exact rfl) (by kernel_rfl) (by kernel_rfl) (by kernel_rfl) (fun _ _ _ h => h) (Or.inl ⟨by rfl, ?_⟩) (by assumption) ?_
                    rotate_left 1
                    · (intro w hSw; (try dsimp only at hSw); go_simp; try with_reducible rfl)
                    try simp only [Act.put, List.setIfInBounds_toArray, List.set_cons_zero, List.set_cons_succ]
                    refine wpAnyH_take (i := 4) (v := ?_) (by simp only [List.getElem?_toArray, List.getElem?_cons_succ, List.getElem?_cons_zero]; exact rfl) (by kernel_rfl) (by kernel_rfl) (by kernel_rfl) (fun _ _ _ h => h) (Or.inl ⟨by rfl, ?_⟩) (by assumption) ?_
                    rotate_left 1
                    · (intro w hSw; (try dsimp only at hSw); go_simp; try with_reducible rfl)
                    try simp only [Act.put, List.setIfInBounds_toArray, List.set_cons_zero, List.set_cons_succ]
                    refine wpAnyH_take (i := 5) (v := ?_) (by simp only [List.getElem?_toArray, List.getElem?_cons_succ, List.getElem?_cons_zero]; exact rfl) (by kernel_rfl) (by kernel_rfl) (by kernel_rfl) (fun _ _ _ h => h) (Or.inl ⟨by rfl, ?_⟩) (by assumption) ?_
                    rotate_left 1
                    · (intro w hSw; (try dsimp only at hSw); go_simp; try with_reducible rfl)
                    try simp only [Act.put, List.setIfInBounds_toArray, List.set_cons_zero, List.set_cons_succ]
                    refine wpAnyH_take (i := 6) (v := ?_) (by simp only [List.getElem?_toArray, List.getElem?_cons_succ, List.getElem?_cons_zero]; exact rfl) (by kernel_rfl) (by kernel_rfl) (by kernel_rfl) (fun _ _ _ h => h) (Or.inl ⟨by rfl, ?_⟩) (by assumption) ?_
                    rotate_left 1
                    · (intro w hSw; (try dsimp only at hSw); go_simp; try with_reducible rfl)
                    try simp only [Act.put, List.setIfInBounds_toArray, List.set_cons_zero, List.set_cons_succ]
                    refine wpAnyH_take (i := 7) (v := ?_) (by simp only [List.getElem?_toArray, List.getElem?_cons_succ, List.getElem?_cons_zero]; exact rfl) (by kernel_rfl) (by kernel_rfl) (by kernel_rfl) (fun _ _ _ h => h) (Or.inl ⟨by rfl, ?_⟩) (by assumption) ?_
                    rotate_left 1
                    · (intro w hSw; (try dsimp only at hSw); go_simp; try with_reducible rfl)
                    try simp only [Act.put, List.setIfInBounds_toArray, List.set_cons_zero, List.set_cons_succ]
                    refine wpAnyH_take (i := 8) (v := ?_) (by simp only [List.getElem?_toArray, List.getElem?_cons_succ, List.getElem?_cons_zero]; exact rfl) (by kernel_rfl) (by kernel_rfl) (by kernel_rfl) (fun _ _ _ h => h) (Or.inl ⟨by rfl, ?_⟩) (by assumption) ?_
                    rotate_left 1
                    · (intro w hSw; (try dsimp only at hSw); go_simp; try with_reducible rfl)
                    try simp only [Act.put, List.setIfInBounds_toArray, List.set_cons_zero, List.set_cons_succ]
                    refine wpAnyH_done (by kernel_rfl) ?_ _
                    refine NoPanic.normal ?_
                    clear hHeld
                    go_wp2
                    go_roundw
                    case rel => exact ⟨j + 1, by omega, by go_num, HBJ.out.drew⟩
                    case measure => simp [intOf]; omega
                  | false =>
                    go_wp2
                    refine wp_region_noPanic ?_
                    refine wp_region_held_drew (S := (fun u : World => u.cell? ⟨G1, j, none⟩ = some (.bool false) ∧ u.cell? ⟨G2, j, none⟩ = some (.bool false))) (by kernel_rfl) (HLE2.out) (fun hHeld => ?_)
                    refine wpAnyH_take (i := 0) (v := ?_) (by simp only [List.getElem?_toArray, List.getElem?_cons_succ, List.getElem?_cons_zero]; exact rfl) (by kernel_rfl) (by kernel_rfl) (by kernel_rfl) (fun _ _ _ h => h) (Or.inl ⟨by rfl, ?_⟩) (by assumption) ?_
                    rotate_left 1
                    · (intro w hSw; (try dsimp only at hSw); go_simp; try with_reducible rfl)
                    try simp only [Act.put, List.setIfInBounds_toArray, List.set_cons_zero, List.set_cons_succ]
                    refine wpAnyH_take (i := 1) (v := ?_) (by simp only [List.getElem?_toArray, List.getElem?_cons_succ, List.getElem?_cons_zero]; exact rfl) (by kernel_rfl) (by kernel_rfl) (by kernel_rfl) (fun _ _ _ h => h) (Or.inl ⟨by rfl, ?_⟩) (by assumption) ?_
                    rotate_left 1
                    · (intro w hSw; (try dsimp only at hSw); go_simp; try with_reducible rfl)
                    try simp only [Act.put, List.setIfInBounds_toArray, List.set_cons_zero, List.set_cons_succ]
                    refine wpAnyH_take (i := 2) (v := ?_) (by simp only [List.getElem?_toArray, List.getElem?_cons_succ, List.getElem?_cons_zero]; exact rfl) (by kernel_rfl) (by kernel_rfl) (by kernel_rfl) (fun _ _ _ h => h) (Or.inl ⟨by rfl, ?_⟩) (by assumption) ?_
                    rotate_left 1
                    · (intro w hSw; (try dsimp only at hSw); go_simp; try with_reducible rfl)
                    try simp only [Act.put, List.setIfInBounds_toArray, List.set_cons_zero, List.set_cons_succ]
                    refine wpAnyH_take (i := 3) (v := ?_) (by simp only [List.getElem?_toArray, List.getElem?_cons_succ, List.getElem?_cons_zero]; exact rfl) (by kernel_rfl) (by kernel_rfl) (by kernel_rfl) (fun _ _ _ h => h) (Or.inl ⟨by rfl, ?_⟩) (by assumption) ?_
                    rotate_left 1
                    · (intro w hSw; (try dsimp only at hSw); go_simp; try with_reducible rfl)
                    try simp only [Act.put, List.setIfInBounds_toArray, List.set_cons_zero, List.set_cons_succ]
                    refine wpAnyH_take (i := 4) (v := ?_) (by simp only [List.getElem?_toArray, List.getElem?_cons_succ, List.getElem?_cons_zero]; exact rfl) (by kernel_rfl) (by kernel_rfl) (by kernel_rfl) (fun _ _ _ h => h) (Or.inl ⟨by rfl, ?_⟩) (by assumption) ?_
                    rotate_left 1
                    · (intro w hSw; (try dsimp only at hSw); go_simp; try with_reducible rfl)
                    try simp only [Act.put, List.setIfInBounds_toArray, List.set_cons_zero, List.set_cons_succ]
                    refine wpAnyH_take (i := 5) (v := ?_) (by simp only [List.getElem?_toArray, List.getElem?_cons_succ, List.getElem?_cons_zero]; exact rfl) (by kernel_rfl) (by kernel_rfl) (by kernel_rfl) (fun _ _ _ h => h) (Or.inl ⟨by rfl, ?_⟩) (by assumption) ?_
                    rotate_left 1
                    · (intro w hSw; (try dsimp only at hSw); go_simp; try with_reducible rfl)
                    try simp only [Act.put, List.setIfInBounds_toArray, List.set_cons_zero, List.set_cons_succ]
                    refine wpAnyH_take (i := 6) (v := ?_) (by simp only [List.getElem?_toArray, List.getElem?_cons_succ, List.getElem?_cons_zero]; exact rfl) (by kernel_rfl) (by kernel_rfl) (by kernel_rfl) (fun _ _ _ h => h) (Or.inl ⟨by rfl, ?_⟩) (by assumption) ?_
                    rotate_left 1
                    · (intro w hSw; (try dsimp only at hSw); go_simp; try with_reducible rfl)
                    try simp only [Act.put, List.setIfInBounds_toArray, List.set_cons_zero, List.set_cons_succ]
                    refine wpAnyH_take (i := 7) (v := ?_) (by simp only [List.getElem?_toArray, List.getElem?_cons_succ, List.getElem?_cons_zero]; exact rfl) (by kernel_rfl) (by kernel_rfl) (by kernel_rfl) (fun _ _ _ h => h) (Or.inl ⟨by rfl, ?_⟩) (by assumption) ?_
                    rotate_left 1
                    · (intro w hSw; (try dsimp only at hSw); go_simp; try with_reducible rfl)
                    try simp only [Act.put, List.setIfInBounds_toArray, List.set_cons_zero, List.set_cons_succ]
                    refine wpAnyH_take (i := 8) (v := ?_) (by simp only [List.getElem?_toArray, List.getElem?_cons_succ, List.getElem?_cons_zero]; exact rfl) (by kernel_rfl) (by kernel_rfl) (by kernel_rfl) (fun _ _ _ h => h) (Or.inl ⟨by rfl, ?_⟩) (by assumption) ?_
                    rotate_left 1
                    · (intro w hSw; (try dsimp only at hSw); go_simp; try with_reducible rfl)
                    try simp only [Act.put, List.setIfInBounds_toArray, List.set_cons_zero, List.set_cons_succ]
                    refine wpAnyH_done (by kernel_rfl) ?_ _
                    refine NoPanic.normal ?_
                    clear hHeld
                    go_wp2
                    go_roundw
                    case rel => exact ⟨j + 1, by omega, by go_num, HBJ.out.drew⟩
                    case measure => simp [intOf]; omega
                · have z3 : ¬ (j : Int) < (k2 : Int) := by omega
                  have z4 : decide ((j : Int) < (k2 : Int)) = false := decide_eq_false z3
                  have HBN := Lib.hid (HX2.out.trans (hBj.mono HX2.out.size))
                  clear hBj
                  go_wp2
                  go_roundw
                  case rel => exact ⟨i + 1, by omega, by go_num, HBN.out⟩
                  case measure => simp [intOf]; omega
            · have y3 : ¬ (i : Int) < (3 : Int) := by omega
              have y4 : decide ((i : Int) < (3 : Int)) = false := decide_eq_false y3
              have HBF := Lib.hid (HXZ.out.trans (hBi.mono HXZ.out.size))
              have f1 := HAR.out.1
              have f2 := HAR.out.2.1
              have f3 := HAR.out.2.2.1
              have f4 := HAR.out.2.2.2.1
              have f5 := HAR.out.2.2.2.2.1
              have f6 := HAR.out.2.2.2.2.2.1
              have f7 := HAR.out.2.2.2.2.2.2
              clear hBi
              go_wp2_with fail
              refine (HLE.out _).mono ?_
              rintro e vW ⟨rfl, rfl⟩
              go_wp2
              go_ret
              exact ⟨rfl, by rw [← hb0]; exact HBF.out⟩
        )
        clear HK3
        by_cases hA : X3 < 20000
        · have dA : decide (X3 < 20000) = true := decide_eq_true hA
          by_cases hB : X3.tmod 3 = 0
          · have dB : decide (X3.tmod 3 = 0) = true := decide_eq_true hB
            go_wp2
            exact HRST.out _ _ _ _ _ _ _ _ _ _ _ X3 HR.out.2.2.2.1 (by omega)
          · have dB : decide (X3.tmod 3 = 0) = false := decide_eq_false hB
            go_wp2
            exact HRST.out _ _ _ _ _ _ _ _ _ _ _ (n : Int) (by omega) (by omega)
        · have dA : decide (X3 < 20000) = false := decide_eq_false hA
          go_wp2
          exact HRST.out _ _ _ _ _ _ _ _ _ _ _ (n : Int) (by omega) (by omega))
      clear HK2
      by_cases hx2 : X2.tmod 5 = 0
      · have m3 : decide (X2.tmod 5 = 0) = true := decide_eq_true hx2
        obtain ⟨D0, hD0⟩ : ∃ D0 : Nat, (dg.getD 0 0#8).toNat = D0 := ⟨_, rfl⟩
        have hD256 : D0 < 256 := by rw [← hD0]; exact (dg.getD 0 0#8).isLt
        have hc0 : y7.cell? ⟨b9, 0, none⟩ = some (.int .u8 (D0 : Int)) := by
          have h := HRD.out.cell 0 (by decide)
          rw [h, ← hD0]
          unfold dgF B
          rfl
        have hc0s : (y7.cell? ⟨b9, 0, none⟩).isSome = true := by rw [hc0]; rfl
        have hc0f : y7.frozen? ⟨b9, 0, none⟩ = false := HRD.out.free 0
        obtain ⟨V, hV⟩ : ∃ V, (D0 + 1) % 256 = V := ⟨_, rfl⟩
        have hVw : IntKind.u8.wrap ((D0 : Int) + 1) = (V : Int) := by rw [IntKind.wrap_u8]; omega
        obtain ⟨y8, hy8⟩ : ∃ y, y7.setCell ⟨b9, 0, none⟩ (.int .u8 (V : Int)) = y := ⟨_, rfl⟩
        obtain ⟨wh, hwh⟩ : ∃ x, dg.set 0 (BitVec.ofNat 8 V) = x := ⟨_, rfl⟩
        have HWL := Lib.hid (show wh.length = 32 from by rw [← hwh, List.length_set]; exact HDL.out)
        have HRZ := Lib.hid (show Row y8 b9 31 32 (dgF wh) from by
          rw [← hy8]
          refine (HRD.out.set 0 _).congr fun j hj => ?_
          unfold dgF
          rw [← hwh]
          by_cases e : j = 0
          · subst e
            rw [if_pos rfl, List.getD_eq_getElem?_getD, List.getElem?_set_self (by rw [HDL.out]; decide)]
            show _ = B (BitVec.ofNat 8 V)
            unfold B
            rw [BitVec.toNat_ofNat, Nat.mod_eq_of_lt (by omega)]
          · rw [if_neg e, List.getD_eq_getElem?_getD, List.getD_eq_getElem?_getD, List.getElem?_set_ne (by omega)])
        have HBZ := Lib.hid (show Below w5.heap.size w5 y8 from by rw [← hy8]; exact HB57.out.setCell (show w5.heap.size ≤ (⟨b9, 0, none⟩ : Addr).block from HB9.out) _)
        clear hD0 hV hwh
        go_wp2
        exact HREST.out _ _ _ _ _ _ wh y8 HBZ.out HRZ.out HWL.out
      · have m3 : decide (X2.tmod 5 = 0) = false := decide_eq_false hx2
        go_wp2
        exact HREST.out _ _ _ _ _ _ dg y7 HB57.out HRD.out HDL.out
    · have a3 : (3000 : Int) < (n2 : Int) := by omega
      have a4 : decide ((3000 : Int) < (n2 : Int)) = true := decide_eq_true a3
      go_wp2_with fail
      refine (HAW.out w1 HX1.out).mono ?_
      rintro e w2 ⟨rfl, hB2⟩
      have HB2 := Lib.hid (HX1.out.trans (hB2.mono HX1.out.size))
      clear hB2
      go_wp2
      go_ret
      exact ⟨rfl, by rw [← hb0]; exact HB2.out⟩
  · have a1 : (3000 : Int) < (n : Int) := by omega
    have a2 : decide ((3000 : Int) < (n : Int)) = true := decide_eq_true a1
    go_wp2_with fail
    refine (HAW.out w1 HX1.out).mono ?_
    rintro e w2 ⟨rfl, hB2⟩
    have HB2 := Lib.hid (HX1.out.trans (hB2.mono HX1.out.size))
    clear hB2
    go_wp2
    go_ret
    exact ⟨rfl, by rw [← hb0]; exact HB2.out⟩
end Go.Proofs.YtkfceloaomlhmaaDoor
