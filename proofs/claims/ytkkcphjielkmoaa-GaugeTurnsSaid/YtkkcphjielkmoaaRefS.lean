/- The reference's order of a list: each number put in its place. -/
import Derived.Test.YtkkcphjielkmoaaOwnE
import Derived.Test.YtkkcphjielkmoaaRefG
import Derived.Test.YtkkcphjielkmoaaSrtB
import Derived.Test.YtkkcphjielkmoaaFltK
import Derived.Lib.Walk
import Derived.Deep.QuietTactic
import Derived.Deep.RegionLaw
import Derived.BigQuiet
set_option linter.unusedSimpArgs false
set_option linter.unusedVariables false
namespace Go.Proofs.Ytkkcphjielkmoaa
open Go Go.RowKit

theorem refLessQ (a b N : Nat) (w : World) : Calls Try.prog 12 #[.int .u64 (a : Int), .int .u64 (b : Int)] (w.drewN N) fun e w'' => e = .returned (.bool (lessM a b)) ∧ ∃ m, w'' = w.drewN m :=
  Calls.quiet_of ((refLess_any a b _).mono fun e w' ⟨he, hd⟩ => ⟨he, ⟨0, hd.symm⟩⟩)
/-- A cut of a slice, its operands reckoned first. -/
def slE (t : TypeId) (x : Value) (lo hi mx : Option Value) : Sem Next := do pure (.value (← Instr.sliceAt t x lo hi mx))
theorem exec_sliceE (r : Operand → Value) (dst : Option Tmp) (t : TypeId) (x : Operand) (lo hi m : Option Operand) (ty : TypeId) (pos : String) (after : Array Edge) (guard : Option (Nat × Bool)) :
    execOp r ⟨dst, .slice t x lo hi m, ty, pos, after, guard⟩ = slE t (r x) (lo.map r) (hi.map r) (m.map r) := rfl
theorem sizeU (w : World) : (sizeOf (Try.prog.elem 30)).run Try.prog w = .ok 1 w := by kernel_rfl
theorem sl_loU (q : Option Addr) (n cap k : Nat) (w : World) (hk : k ≤ n) :
    (slE 30 (.slice q n cap) (some (.int .i64 (k : Int))) none none).run Try.prog w = .ok (.value (.slice (cutE q cap k) (n - k) (cap - k))) w := by
  have h1 := run_sliceAt_slice (P := Try.prog) w 30 (.slice q n cap) (some (.int .i64 (k : Int))) none none undU64s
  rw [run_slice_l (P := Try.prog) w 30 q n cap undU64s .i64 (k : Int) (by omega) (by omega), sizeU] at h1
  simp only [slE, Sem.run_bind, h1, Result.andThen_ok, Sem.run_pure]
  simp only [sliced, Int.toNat_natCast, Nat.mul_one, cutE]
theorem sl_hmU (q : Option Addr) (n cap k : Nat) (w : World) (hk : k ≤ cap) :
    (slE 30 (.slice q n cap) none (some (.int .i64 (k : Int))) (some (.int .i64 (k : Int)))).run Try.prog w = .ok (.value (.slice q k k)) w := by
  have h1 := run_sliceAt_slice (P := Try.prog) w 30 (.slice q n cap) none (some (.int .i64 (k : Int))) (some (.int .i64 (k : Int))) undU64s
  rw [run_slice_hm (P := Try.prog) w 30 q n cap undU64s .i64 .i64 (k : Int) (k : Int) (by omega) (by omega) (by omega), sizeU] at h1
  simp only [slE, Sem.run_bind, h1, Result.andThen_ok, Sem.run_pure]
  simp only [sliced, Int.toNat_natCast, Nat.zero_mul, Nat.sub_zero]
  have := cutE_zero q k
  unfold cutE at this
  rw [this]
theorem bsU0 (w : World) : (bsT 30 0 #[]).run Try.prog w = .ok (.value (.slice (some ⟨w.heap.size, 0, none⟩) 0 0)) (w.alloc (.cells #[] 22)) := by kernel_rfl
theorem bsU1 (x : Int) (w : World) : (bsT 30 1 #[(0, .int .u64 x)]).run Try.prog w = .ok (.value (.slice (some ⟨w.heap.size, 0, none⟩) 1 1)) (w.alloc (.cells #[.int .u64 x] 22)) := by kernel_rfl
/-- A number put in its place. -/
theorem insert_pair {k : Nat → Int} {l : List Nat} {x i : Nat} (h : l.Pairwise fun a b => k a ≤ k b) (hi : i ≤ l.length) (h1 : ∀ j, i ≤ j → (hj : j < l.length) → k x ≤ k l[j]) (h2 : i = 0 ∨ k (l.getD (i - 1) 0) ≤ k x) :
    (l.take i ++ [x] ++ l.drop i).Pairwise fun a b => k a ≤ k b := by
  have ht : ∀ a ∈ l.take i, k a ≤ k x := fun a ha => by
    obtain ⟨j, hj, rfl⟩ := List.getElem_of_mem ha
    simp [List.length_take] at hj
    rw [List.getElem_take]
    rcases h2 with h2 | h2
    · omega
    · rw [List.getD_eq_getElem?_getD, List.getElem?_eq_getElem (by omega)] at h2
      simp only [Option.getD_some] at h2
      rcases Nat.lt_or_ge j (i - 1) with g | g
      · have := (List.pairwise_iff_getElem.1 h) j (i - 1) (by omega) (by omega) g
        omega
      · have e : j = i - 1 := by omega
        subst e
        exact h2
  have hd : ∀ b ∈ l.drop i, k x ≤ k b := fun b hb => by
    obtain ⟨j, hj, rfl⟩ := List.getElem_of_mem hb
    simp at hj
    rw [List.getElem_drop]
    exact h1 _ (by omega) _
  rw [List.pairwise_append, List.pairwise_append]
  refine ⟨⟨h.sublist (List.take_sublist _ _), List.pairwise_singleton _ _, fun a ha b hb => ?_⟩, h.sublist (List.drop_sublist _ _), fun a ha b hb => ?_⟩
  · simp at hb; subst hb; exact ht a ha
  · rw [List.mem_append] at ha
    rcases ha with ha | ha
    · exact Int.le_trans (ht a ha) (hd b hb)
    · simp at ha; subst ha; exact hd b hb
theorem insert_perm (l m : List Nat) (x i : Nat) (h : l.Perm m) : (l.take i ++ [x] ++ l.drop i).Perm (m ++ [x]) := by
  have h1 : (l.take i ++ [x] ++ l.drop i).Perm (l.take i ++ l.drop i ++ [x]) := by
    rw [List.append_assoc, List.append_assoc]
    exact List.Perm.append_left _ List.perm_append_comm
  rw [List.take_append_drop] at h1
  exact h1.trans (h.append_right _)
attribute [local go_sem ↓] exec_sliceE exec_bs
attribute [local go_sem] bsU0 bsU1 sl_loU sl_hmU
theorem bel_grown {N : Nat} {x y z : World} {r : Option Nat} (h : Below N x y) (g : y.grownBy z r) (hN : N ≤ y.heap.size) (hr : ∀ k, r = some k → N ≤ k) : Below N x z := h.grown g hN hr
set_option maxRecDepth 1000000 in
set_option maxHeartbeats 8000000 in
theorem refSorted_any (l : List Nat) (p : Option Addr) (n cap : Nat) (w : World) (hl : l.length = n) (hs : Le uV w p l) (hb : ∀ x, x ∈ l → x < 18446744073709551616) (hn : n < 1000000) :
    Calls Try.prog 14 #[.slice p n cap] w fun e w' => ∃ v ol, e = .returned v ∧ OwnE 22 uV w' w.heap.size v ol ∧ ol.Perm l ∧ ol.Pairwise (fun a b => rk a ≤ rk b) ∧ Below w.heap.size w w' := by
  have HL := Lib.hid hl
  have HS := Lib.hid hs
  have HBL := Lib.hid hb
  clear hl hs hb
  go_enter Try.func14, Try.ntmps14
  go_wp2
  go_loopw [3, 9] (fun v vi wr => ∃ (i : Nat) (ol : List Nat), i ≤ n ∧ vi = .int .i64 i ∧ OwnE 22 uV wr w.heap.size v ol ∧ ol.Perm (l.take i) ∧ ol.Pairwise (fun a b => rk a ≤ rk b) ∧ Below w.heap.size w wr) (fun v vi _ => n - (intOf vi).toNat)
  case atStart => exact ⟨0, [], Nat.zero_le _, rfl, OwnE.nil _ _, by rw [List.take_zero], List.Pairwise.nil, Below.refl _ _⟩
  case round =>
    obtain ⟨i, ol, hin, rfl, hO, hP, hW, hB⟩ := hrel
    rename World => WO
    obtain ⟨q, oc, rfl, hLe, hq0, hoc⟩ := hO.shape
    by_cases hlt : i < n
    · have hltz : (i : Int) < (n : Int) := by omega
      have hll : ol.length = i := by rw [hP.length_eq, List.length_take, HL.out]; omega
      have hx1 : l.getD i 0 < 18446744073709551616 := HBL.out _ (by rw [List.getD_eq_getElem?_getD, List.getElem?_eq_getElem (by rw [HL.out]; exact hlt)]; exact List.getElem_mem _)
      have hol : ∀ y, y ∈ ol → y < 18446744073709551616 := fun y hy => HBL.out y (List.mem_of_mem_take (hP.mem_iff.1 hy))
      have HX := Lib.hid (show ol.Perm (l.take i) ∧ l.take (i + 1) = l.take i ++ [l.getD i 0] from ⟨hP, take_getD l 0 i (by rw [HL.out]; exact hlt)⟩)
      obtain ⟨pc, po, hpe, hpb, hpx⟩ := (HS.out.of_below hB) i (by rw [HL.out]; exact hlt)
      subst hpe
      rw [hll] at hO hoc ⊢
      have HLL := Lib.hid hll
      have HO := Lib.hid hO
      have HLE := Lib.hid hLe
      have HPW := Lib.hid hW
      have HB := Lib.hid hB
      have HQ0 := Lib.hid hq0
      have HX1 := Lib.hid hx1
      have HOL := Lib.hid hol
      clear hO hLe hW hB hP hq0 hx1 hol hll
      generalize l.getD i 0 = x at *
      have hpx : WO.cell? ⟨pc, po + i, none⟩ = some (.int .u64 (x : Int)) := hpx
      have HPX := Lib.hid hpx
      clear hpx
      go_wp2
      go_loopw [5] (fun va wr => ∃ a : Nat, a ≤ i ∧ va = .int .i64 a ∧ Dr WO wr ∧ ∀ j, a ≤ j → (hj : j < ol.length) → rk x ≤ rk ol[j]) (fun va _ => (intOf va).toNat)
      case atStart => exact ⟨i, Nat.le_refl _, rfl, Dr.refl _, fun j h1 h2 => by have := HLL.out; omega⟩
      case round =>
        obtain ⟨a, hai, rfl, hD, hA⟩ := hrel
        have HD := Lib.hid hD
        have HA := Lib.hid hA
        clear hD hA
        have c1 : wr.cell? ⟨pc, po + i, none⟩ = some (.int .u64 (x : Int)) := by rw [HD.out.cell]; exact HPX.out
        by_cases h0 : 0 < a
        · have h0z : (0 : Int) < (a : Int) := by omega
          have h0d : decide ((0 : Int) < (a : Int)) = true := decide_eq_true h0z
          have g1 : IntKind.i64.wrap ((a : Int) - 1) = (a : Int) - 1 := IntWalk.i64_in _ (by omega)
          have g2 : 0 ≤ (a : Int) - 1 := by omega
          have g3 : (a : Int) - 1 < (i : Int) := by omega
          have g4 : ((a : Int) - 1).toNat = a - 1 := by omega
          obtain ⟨oc', oo, hqe, -, hox⟩ := HLE.out (a - 1) (by have := HLL.out; omega)
          subst hqe
          have c2 : wr.cell? ⟨oc', oo + (a - 1), none⟩ = some (.int .u64 ((ol.getD (a - 1) 0 : Nat) : Int)) := by rw [HD.out.cell]; exact hox
          have hyb : ol.getD (a - 1) 0 < 18446744073709551616 := HOL.out _ (by rw [List.getD_eq_getElem?_getD, List.getElem?_eq_getElem (by have := HLL.out; omega)]; exact List.getElem_mem _)
          have hle := lessM_rk x (ol.getD (a - 1) 0) HX1.out hyb
          have hge : (ol.getD (a - 1) 0) = ol[a - 1]'(by have := HLL.out; omega) := by rw [List.getD_eq_getElem?_getD, List.getElem?_eq_getElem (by have := HLL.out; omega)]; rfl
          by_cases hc : rk x < rk (ol.getD (a - 1) 0)
          · have HA2 := Lib.hid (show ∀ j, a - 1 ≤ j → (hj : j < ol.length) → rk x ≤ rk ol[j] from fun j h1 hj => by
              rcases Nat.lt_or_ge j a with h2 | h2
              · obtain rfl : j = a - 1 := by omega
                rw [← hge]; omega
              · exact HA.out j h2 hj)
            have HQ := Lib.hid (refLessQ x (ol.getD (a - 1) 0))
            rw [hle, decide_eq_true hc] at HQ
            clear hc hge hle hyb hox
            generalize ol.getD (a - 1) 0 = y at *
            go_wp2_with fail
            go_quiet ((go_at_call 12; exact HQ.out _ _))
            have HD1 := Lib.hid (HD.out.drewN nq)
            clear c1 c2 HQ HD
            generalize wr.drewN nq = W1 at *
            go_wp2
            go_roundw
            case rel => exact ⟨a - 1, by omega, by go_num, HD1.out, HA2.out⟩
            case measure => simp [intOf] <;> omega
          · have HST := Lib.hid (show a = 0 ∨ rk (ol.getD (a - 1) 0) ≤ rk x from .inr (by omega))
            have HQ := Lib.hid (refLessQ x (ol.getD (a - 1) 0))
            rw [hle, decide_eq_false hc] at HQ
            clear hc hge hle hyb hox
            generalize hy : ol.getD (a - 1) 0 = y at *
            have HY := Lib.hid hy
            clear hy
            go_wp2_with fail
            go_quiet ((go_at_call 12; exact HQ.out _ _))
            have HD1 := Lib.hid (HD.out.drewN nq)
            clear c1 c2 HQ HD
            generalize wr.drewN nq = W1 at *
            have HST := Lib.hid (show a = 0 ∨ rk (ol.getD (a - 1) 0) ≤ rk x from by rw [HY.out]; exact HST.out)
            have HB1 := Lib.hid (HB.out.trans (HD1.out.below _))
            have HL1 := Lib.hid (HLE.out.of_below (HD1.out.below _))
            have hN1 : w.heap.size ≤ W1.heap.size := HB1.out.size
            have hcx : pc < W1.heap.size := by rw [HD1.out.heap]; exact hpb
            have HC1 := Lib.hid (show W1.cell? ⟨pc, po + i, none⟩ = some (.int .u64 (x : Int)) from by rw [HD1.out.cell]; exact HPX.out)
            clear HD1 HPX
            have bA : Below W1.heap.size W1 (W1.alloc (.cells #[] 22)) := (Below.refl _ _).alloc (Nat.le_refl _) _
            have HBA := Lib.hid bA
            have HSA := Lib.hid (show w.heap.size ≤ (W1.alloc (.cells #[] 22)).heap.size by rw [World.size_alloc]; omega)
            have HEA := Lib.hid (OwnE.empty (E := 22) (enc := uV) W1 w.heap.size hN1)
            clear bA
            have hao : a ≤ oc := by omega
            go_wp2_with (first | (refine wpl_appendE elU _ rfl (.tmp 30) (.tmp 33) rfl w.heap.size (.slice (some ⟨W1.heap.size, 0, none⟩) 0 0) [] rfl HEA.out (cutE (some ⟨oc', oo, none⟩) oc a) (i - a) (oc - a) (ol.drop a) (by rw [List.length_drop, HLL.out]) rfl ((HL1.out.of_below HBA.out).drop (by rw [HLL.out]; exact hoc) a) (cutE_none HQ0.out) (by simp; omega) HSA.out ?_; rintro v2 w3 hO2 hg2; rw [List.nil_append] at hO2; have HO2 := Lib.hid hO2; have HB3 := Lib.hid (HBA.out.grown hg2 (by rw [World.size_alloc]; omega) (fun k hk => Nat.le_of_eq (by simpa [Value.ownBlock] using hk))); clear hO2 hg2))
            obtain ⟨q2, oc2, hv2, hL2, hq2, hoc2⟩ := HO2.out.shape
            rw [List.length_drop, HLL.out] at hv2
            subst hv2
            have HL2 := Lib.hid hL2
            have HQ2 := Lib.hid hq2
            clear hL2 hq2 hoc2 HO2 HBA HSA HEA
            have HL3 := Lib.hid (HL1.out.of_below HB3.out)
            have HB3w := Lib.hid (HB1.out.trans (HB3.out.mono hN1))
            have hN3 : w.heap.size ≤ w3.heap.size := HB3w.out.size
            have c3 : w3.cell? ⟨pc, po + i, none⟩ = some (.int .u64 (x : Int)) := by rw [HB3.out.cell (by exact hcx)]; exact HC1.out
            clear HL1 HB1 HC1 HB3 hcx hN1
            have bD : Below w3.heap.size w3 (w3.drew.alloc (.cells #[.int .u64 (x : Int)] 22)) := ((Below.refl _ _).drew).alloc (Nat.le_refl _) _
            have HBD := Lib.hid bD
            have HLD := Lib.hid ((HL3.out.take a).of_below bD)
            have HL2D := Lib.hid (HL2.out.of_below bD)
            have HXD := Lib.hid (show (w3.drew.alloc (.cells #[.int .u64 (x : Int)] 22)).cell? ⟨w3.heap.size, 0, none⟩ = some (uV x) from World.cell?_alloc_new _ _ _ _)
            have HQA := Lib.hid (show (some ⟨oc', oo, none⟩ : Option Addr) = none → a = 0 from fun e => by have := HQ0.out e; omega)
            have HTL := Lib.hid (show (ol.take a).length = a from by rw [List.length_take, HLL.out]; omega)
            have HDL := Lib.hid (show (ol.drop a).length = i - a from by rw [List.length_drop, HLL.out])
            have hSD : w.heap.size ≤ (w3.drew.alloc (.cells #[.int .u64 (x : Int)] 22)).heap.size := by rw [World.size_alloc]; exact Nat.le_succ_of_le hN3
            have HBW := Lib.hid (show Below w.heap.size w (w3.drew.alloc (.cells #[.int .u64 (x : Int)] 22)) from HB3w.out.trans (bD.mono hN3))
            clear bD HL2 HL3 HB3w
            go_region_law (first | (refine step_full elU _ rfl (.tmp 38) (.tmp 43) rfl (some ⟨oc', oo, none⟩) a (ol.take a) rfl HTL.out HQA.out HLD.out ⟨w3.heap.size, 0, none⟩ 1 rfl x HXD.out (by omega) ?_; rintro v4 w4 hO4 hg4; have HB4 := Lib.hid (HBW.out.grown hg4 hSD (fun k hk => by cases hk)); have HL4 := Lib.hid (HL2D.out.of_below ((Below.refl _ _).grown hg4 (Nat.le_refl _) (fun k hk => by cases hk))); have HO4 := Lib.hid (hO4.lower hSD); have hN4 := HB4.out.size; clear hO4 hg4) | (refine step_appendE elU _ rfl (.tmp 44) (.tmp 45) rfl w.heap.size v4 (ol.take a ++ [x]) rfl HO4.out q2 (i - a) oc2 (ol.drop a) HDL.out rfl HL4.out HQ2.out (by rw [List.length_append, HTL.out]; simp; omega) hN4 ?_; rintro v5 w5 hO5 hg5; have HB5 := Lib.hid (HB4.out.grown hg5 hN4 (fun k hk => (HO4.out.lt k hk).1)); have HO5 := Lib.hid hO5; clear hO5 hg5))
            all_goals
              go_wp2
              go_roundw
              case rel => exact ⟨i + 1, _, by omega, by go_num, HO5.out, by rw [HX.out.2]; exact insert_perm ol _ x a HX.out.1, insert_pair HPW.out (by rw [HLL.out]; exact hai) HA.out HST.out, HB5.out⟩
              case measure => simp [intOf]; omega
        · have ha0d : decide ((0 : Int) < (a : Int)) = false := decide_eq_false (by omega)
          have HST := Lib.hid (show a = 0 ∨ rk (ol.getD (a - 1) 0) ≤ rk x from .inl (by omega))
          have ha0e : decide (0 < a) = false := decide_eq_false h0
          clear c1
          go_wp2_with fail
          go_quiet (fail)
          have HD1 := Lib.hid (HD.out.drewN nq)
          clear HD
          generalize wr.drewN nq = W1 at *
          have HB1 := Lib.hid (HB.out.trans (HD1.out.below _))
          have HL1 := Lib.hid (HLE.out.of_below (HD1.out.below _))
          have hN1 : w.heap.size ≤ W1.heap.size := HB1.out.size
          have hcx : pc < W1.heap.size := by rw [HD1.out.heap]; exact hpb
          have HC1 := Lib.hid (show W1.cell? ⟨pc, po + i, none⟩ = some (.int .u64 (x : Int)) from by rw [HD1.out.cell]; exact HPX.out)
          clear HD1 HPX
          have bA : Below W1.heap.size W1 (W1.alloc (.cells #[] 22)) := (Below.refl _ _).alloc (Nat.le_refl _) _
          have HBA := Lib.hid bA
          have HSA := Lib.hid (show w.heap.size ≤ (W1.alloc (.cells #[] 22)).heap.size by rw [World.size_alloc]; omega)
          have HEA := Lib.hid (OwnE.empty (E := 22) (enc := uV) W1 w.heap.size hN1)
          clear bA
          have hao : a ≤ oc := by omega
          go_wp2_with (first | (refine wpl_appendE elU _ rfl (.tmp 30) (.tmp 33) rfl w.heap.size (.slice (some ⟨W1.heap.size, 0, none⟩) 0 0) [] rfl HEA.out (cutE (q) oc a) (i - a) (oc - a) (ol.drop a) (by rw [List.length_drop, HLL.out]) rfl ((HL1.out.of_below HBA.out).drop (by rw [HLL.out]; exact hoc) a) (cutE_none HQ0.out) (by simp; omega) HSA.out ?_; rintro v2 w3 hO2 hg2; rw [List.nil_append] at hO2; have HO2 := Lib.hid hO2; have HB3 := Lib.hid (HBA.out.grown hg2 (by rw [World.size_alloc]; omega) (fun k hk => Nat.le_of_eq (by simpa [Value.ownBlock] using hk))); clear hO2 hg2))
          obtain ⟨q2, oc2, hv2, hL2, hq2, hoc2⟩ := HO2.out.shape
          rw [List.length_drop, HLL.out] at hv2
          subst hv2
          have HL2 := Lib.hid hL2
          have HQ2 := Lib.hid hq2
          clear hL2 hq2 hoc2 HO2 HBA HSA HEA
          have HL3 := Lib.hid (HL1.out.of_below HB3.out)
          have HB3w := Lib.hid (HB1.out.trans (HB3.out.mono hN1))
          have hN3 : w.heap.size ≤ w3.heap.size := HB3w.out.size
          have c3 : w3.cell? ⟨pc, po + i, none⟩ = some (.int .u64 (x : Int)) := by rw [HB3.out.cell (by exact hcx)]; exact HC1.out
          clear HL1 HB1 HC1 HB3 hcx hN1
          have bD : Below w3.heap.size w3 (w3.drew.alloc (.cells #[.int .u64 (x : Int)] 22)) := ((Below.refl _ _).drew).alloc (Nat.le_refl _) _
          have HBD := Lib.hid bD
          have HLD := Lib.hid ((HL3.out.take a).of_below bD)
          have HL2D := Lib.hid (HL2.out.of_below bD)
          have HXD := Lib.hid (show (w3.drew.alloc (.cells #[.int .u64 (x : Int)] 22)).cell? ⟨w3.heap.size, 0, none⟩ = some (uV x) from World.cell?_alloc_new _ _ _ _)
          have HQA := Lib.hid (show (q) = none → a = 0 from fun e => by have := HQ0.out e; omega)
          have HTL := Lib.hid (show (ol.take a).length = a from by rw [List.length_take, HLL.out]; omega)
          have HDL := Lib.hid (show (ol.drop a).length = i - a from by rw [List.length_drop, HLL.out])
          have hSD : w.heap.size ≤ (w3.drew.alloc (.cells #[.int .u64 (x : Int)] 22)).heap.size := by rw [World.size_alloc]; exact Nat.le_succ_of_le hN3
          have HBW := Lib.hid (show Below w.heap.size w (w3.drew.alloc (.cells #[.int .u64 (x : Int)] 22)) from HB3w.out.trans (bD.mono hN3))
          clear bD HL2 HL3 HB3w
          go_region_law (first | (refine step_full elU _ rfl (.tmp 38) (.tmp 43) rfl (q) a (ol.take a) rfl HTL.out HQA.out HLD.out ⟨w3.heap.size, 0, none⟩ 1 rfl x HXD.out (by omega) ?_; rintro v4 w4 hO4 hg4; have HB4 := Lib.hid (HBW.out.grown hg4 hSD (fun k hk => by cases hk)); have HL4 := Lib.hid (HL2D.out.of_below ((Below.refl _ _).grown hg4 (Nat.le_refl _) (fun k hk => by cases hk))); have HO4 := Lib.hid (hO4.lower hSD); have hN4 := HB4.out.size; clear hO4 hg4) | (refine step_appendE elU _ rfl (.tmp 44) (.tmp 45) rfl w.heap.size v4 (ol.take a ++ [x]) rfl HO4.out q2 (i - a) oc2 (ol.drop a) HDL.out rfl HL4.out HQ2.out (by rw [List.length_append, HTL.out]; simp; omega) hN4 ?_; rintro v5 w5 hO5 hg5; have HB5 := Lib.hid (HB4.out.grown hg5 hN4 (fun k hk => (HO4.out.lt k hk).1)); have HO5 := Lib.hid hO5; clear hO5 hg5))
          all_goals
            go_wp2
            go_roundw
            case rel => exact ⟨i + 1, _, by omega, by go_num, HO5.out, by rw [HX.out.2]; exact insert_perm ol _ x a HX.out.1, insert_pair HPW.out (by rw [HLL.out]; exact hai) HA.out HST.out, HB5.out⟩
            case measure => simp [intOf]; omega
    · have hltz : ¬ (i : Int) < (n : Int) := by omega
      obtain rfl : i = n := by omega
      have HO := Lib.hid hO
      have HW := Lib.hid hW
      have HP := Lib.hid (show ol.Perm l from by rw [List.take_of_length_le (by rw [HL.out]; exact Nat.le_refl _)] at hP; exact hP)
      have HB := Lib.hid hB
      clear hO hW hP hB hLe
      go_wp2
      go_ret
      exact ⟨_, rfl, ol, HO.out, HP.out, HW.out, HB.out⟩
end Go.Proofs.Ytkkcphjielkmoaa
