/- The statement ShardSums, walked over the premises. -/
import Derived.Test.YtphpliclecmnlaaZLaw4S0
import Derived.Test.YtphpliclecmnlaaK9
import Derived.StillTailTactics
import Derived.Deep.QuietTactic
import Derived.BigQuiet
set_option linter.unusedSimpArgs false
set_option linter.unusedVariables false
namespace Go.Proofs.Ytphpliclecmnlaa
open Go Go.RowKit

theorem rowsL_succ (t L : Nat) (X : Mx) : rowsL (t + 1) L X = rowsL t L X ++ [rowL L X t] := range_snoc _ _
theorem evenQ (ls : List (List (BitVec 8))) (p : Option Addr) (n cap k N : Nat) (w : World) (x : Bool) (hs : Prt w p ls) (hl : ls.length = n) (hn : n < 9223372036854775808) (hx : evB ls k = x) :
    Calls Try.prog 16 #[.slice p n cap, .int .i64 (k : Int)] (w.drewN N) fun e w'' => e = .returned (.bool x) ∧ ∃ m, w'' = w.drewN m :=
  Calls.quiet_of ((refEven_any ls p n cap k _ (hs.dr ((Dr.refl _).drewN _)) hl hn).mono fun e w' ⟨he, hd⟩ => ⟨he.trans (by rw [hx]), hd⟩)
theorem st_T (a : Addr) (x : Bool) (w : World) (hcell : (w.cell? a).isSome = true) (hf : w.frozen? a = false) : (stT 4 (.pointer (some a)) (.bool x)).run Try.prog w = .ok .skip (w.setCell a (.bool x)) :=
  stT_one 4 a _ w rfl rfl (by kernel_rfl) hcell hf
theorem mkT4 (n : Nat) (w : World) (hn : n < 100000000) : (mkT 40 (.int .i64 (n : Int)) (.int .i64 (n : Int))).run Try.prog w = .ok (.value (.slice (some ⟨w.heap.size, 0, none⟩) n n)) (w.alloc (.cells (tab n (fun _ => .bool false)) 4)) := by
  have hi : (Try.prog.info? 4).map (fun i => (i.zero, i.size, i.bytes)) = some (some (.bool false), 1, 1) := by kernel_rfl
  cases hq : Try.prog.info? 4 with
  | none => simp [hq] at hi
  | some i =>
    rw [hq] at hi
    simp only [Option.map_some, Option.some.injEq, Prod.mk.injEq] at hi
    obtain ⟨h1, h2, h3⟩ := hi
    have := run_make (P := Try.prog) w 40 4 i (.bool false) (by kernel_rfl) hq h1 .i64 .i64 n n (by omega) (Int.le_refl _) (by rw [h3]; omega) (by omega)
    rw [h2] at this
    simp only [Int.toNat_natCast, Nat.mul_one] at this
    simp only [mkT, Sem.run_bind, this, Result.andThen_ok, Sem.run_pure]
    congr 2
    rw [tab_const]
    congr 1
    apply Array.ext_getElem?
    intro j
    by_cases hj : j < n <;> simp [madeCells, Value.cells, hj, Nat.mod_one]
theorem bl_row {w : World} {b n : Nat} {g : Nat → Value} (th : List Bool) (h : Row w b 4 n g) (hl : th.length ≤ n) (e : ∀ j, j < th.length → g j = .bool (th.getD j false)) : Bl w (some ⟨b, 0, none⟩) th := fun j hj =>
  ⟨b, 0, rfl, by rw [Nat.zero_add, h.cell j (by omega), e j hj]⟩
attribute [local go_sem ↓] exec_slice exec_store exec_bs exec_make
attribute [local go_sem] st_H st_B mkB bsR st_T mkT4
section
variable {Cd : World → Nat → Nat → Nat → Prop} (S : CodeSpec Cd) (a c : Int) (la lb : List (List (BitVec 8))) (p q : Option Addr) (n cap n2 cap' : Nat) (w : World) (hs : Prt w p la) (hl : la.length = n) (ht : Prt w q lb) (hl2 : lb.length = n2)
include S hs hl ht hl2
set_option maxRecDepth 100000 in
set_option maxHeartbeats 16000000 in
theorem ss_c (h : few4B la = true) (h2 : few4B lb = true) (ha : 0 ≤ a) (ha2 : a < 256) (hc : 0 ≤ c) (hc2 : c < 256) (k m : Nat) (hk : 1 + a % 8 = (k : Int)) (hm : 1 + c % 8 = (m : Int)) :
    Calls Try.prog 8 #[.agg #[.int .u8 a, .int .u8 c], .slice p n cap, .slice q n2 cap'] w fun e w' => e = .returned (.bool true) ∧ Below w.heap.size w w' := by
  have hk1 : 1 ≤ k := by omega
  have hk2 : k ≤ 8 := by omega
  have hm1 : 1 ≤ m := by omega
  have hm2 : m ≤ 8 := by omega
  obtain ⟨hn32, hlen40⟩ := of_decide_eq_true h
  obtain ⟨hn32', hlen40'⟩ := of_decide_eq_true h2
  have hn : n ≤ 32 := by omega
  have hn2 : n2 ≤ 32 := by omega
  have hB0 : Below w.heap.size w (w.alloc (.cells #[.int .u8 a, .int .u8 c] 22)) := (Below.refl _ _).alloc (Nat.le_refl _) _
  have HB0 := Lib.hid hB0
  have HC0 := Lib.hid (show (w.alloc (.cells #[.int .u8 a, .int .u8 c] 22)).cell? ⟨w.heap.size, 0, none⟩ = some (.int .u8 a) by rw [World.cell?_alloc_new]; rfl)
  have HC1 := Lib.hid (show (w.alloc (.cells #[.int .u8 a, .int .u8 c] 22)).cell? ⟨w.heap.size, 1, none⟩ = some (.int .u8 c) by rw [World.cell?_alloc_new]; rfl)
  have hs0 : w.heap.size < (w.alloc (.cells #[.int .u8 a, .int .u8 c] 22)).heap.size := by rw [World.size_alloc]; omega
  have HS := Lib.hid S
  have HA := Lib.hid hs
  have HL := Lib.hid hl
  have HT := Lib.hid ht
  have HL2 := Lib.hid hl2
  have HLEN := Lib.hid hlen40
  clear S hB0 hs hl ht hl2 hlen40 hn32 hlen40' hn32'
  go_enter Try.func8, Try.ntmps8
  go_wp2_with fail
  refine (awake4 HS.out _ _ (Below.refl _ _)).mono ?_
  rintro e w1 ⟨rfl, hB1⟩
  have hx0 : w1.cell? ⟨w.heap.size, 0, none⟩ = some (.int .u8 a) := by rw [hB1.cell (by exact hs0)]; exact HC0.out
  have hx1 : w1.cell? ⟨w.heap.size, 1, none⟩ = some (.int .u8 c) := by rw [hB1.cell (by exact hs0)]; exact HC1.out
  have HB1 := Lib.hid (bel_step HB0.out hB1)
  clear hB1
  go_wp2_with fail
  refine (few4_any la p n cap w1 (HA.out.of_below HB1.out) HL.out (by omega)).mono ?_
  rintro e w2 ⟨rfl, rfl⟩
  go_wp2_with fail
  refine (few4_any lb q n2 cap' w1 (HT.out.of_below HB1.out) HL2.out (by omega)).mono ?_
  rintro e w2 ⟨rfl, rfl⟩
  go_wp2
  go_quiet (fail)
  try simp only [hk, hm]
  have HB2 := Lib.hid (below_drewN HB1.out nq)
  clear HB1 hx0 hx1 hs0 HB0 HC0 HC1 hk hm
  generalize w1.drewN nq = w2 at *
  have HA2 := Lib.hid (HA.out.of_below HB2.out)
  have HT2 := Lib.hid (HT.out.of_below HB2.out)
  cases hev : evB la k with
  | false =>
    have HEV := Lib.hid hev
    clear hev
    go_wp2
    go_quiet ((go_at_call 16; with_reducible exact evenQ la _ n cap k _ _ _ HA2.out HL.out (by omega) HEV.out))
    go_wp2
    go_ret
    exact ⟨rfl, below_drewN HB2.out _⟩
  | true =>
  have HEV := Lib.hid hev
  cases hev2 : evB lb k with
  | false =>
    have HEV2 := Lib.hid hev2
    clear hev hev2
    go_wp2
    go_quiet ((go_at_call 16; first | (with_reducible exact evenQ la _ n cap k _ _ _ HA2.out HL.out (by omega) HEV.out) | (with_reducible exact evenQ lb _ n2 cap' k _ _ _ HT2.out HL2.out (by omega) HEV2.out)))
    go_wp2
    go_ret
    exact ⟨rfl, below_drewN HB2.out _⟩
  | true =>
  have HEV2 := Lib.hid hev2
  obtain ⟨hnk, hrow⟩ := ev_parts hev
  obtain ⟨hnk2, hrow2⟩ := ev_parts hev2
  obtain rfl : n = k := by rw [← HL.out]; exact hnk
  obtain rfl : n2 = n := by rw [← HL2.out]; exact hnk2
  have HROW := Lib.hid hrow
  have HROW2 := Lib.hid hrow2
  obtain ⟨L, hLL⟩ : ∃ L, L = (la.getD 0 []).length := ⟨_, rfl⟩
  obtain ⟨L2, hLL2⟩ : ∃ L2, L2 = (lb.getD 0 []).length := ⟨_, rfl⟩
  have hL0 : L ≤ 40 := by rw [hLL]; exact HLEN.out 0 (by have := HL.out; omega)
  have HLL := Lib.hid hLL
  have HLL2 := Lib.hid hLL2
  obtain ⟨ca, oa, qa, cpa, rfl, -, hca, -, -, -⟩ := HA2.out.at_ 0 (by rw [HL.out]; omega)
  obtain ⟨cb, ob, qb, cpb, rfl, -, hcb, -, -, -⟩ := HT2.out.at_ 0 (by rw [HL2.out]; omega)
  rw [Nat.add_zero, ← hLL] at hca
  rw [Nat.add_zero, ← hLL2] at hcb
  have hk0 : (0 : Int) < (n2 : Int) := by omega
  clear hev hev2 hnk hnk2 hrow hrow2 hLL hLL2
  by_cases hne : L = L2
  · have hd1 : ((L : Int) != (L2 : Int)) = false := by simp; omega
    have hd2 : ((L : Int) == (L2 : Int)) = true := by simp; omega
    have HNE := Lib.hid hne
    clear hne
    go_wp2
    go_quiet ((go_at_call 16; first | (with_reducible exact evenQ la _ n2 cap n2 _ _ _ HA2.out HL.out (by omega) HEV.out) | (with_reducible exact evenQ lb _ n2 cap' n2 _ _ _ HT2.out HL2.out (by omega) HEV2.out)))
    obtain rfl := HNE.out
    have HB3 := Lib.hid (below_drewN HB2.out nq)
    have HA3 := Lib.hid (HA2.out.dr ((Dr.refl _).drewN nq))
    have HT3 := Lib.hid (HT2.out.dr ((Dr.refl _).drewN nq))
    clear hca hcb hd1 hd2 HA2 HT2 HB2 HNE
    generalize w2.drewN nq = w3 at *
    go_wp2_with fail
    refine (HS.out.new n2 m w3 hk1 hm1 (by omega)).mono ?_
    rintro e w4 ⟨b, rfl, hC, hB4⟩
    have HC4 := Lib.hid hC
    have HB4 := Lib.hid (bel_step HB3.out hB4)
    have HA4 := Lib.hid (HA3.out.of_below hB4)
    have HT4 := Lib.hid (HT3.out.of_below hB4)
    clear hC hB4 HB3 HA3 HT3
    obtain ⟨XM, hXM⟩ : ∃ XM : Mx, XM = fun i j => mx la i j ^^^ mx lb i j := ⟨_, rfl⟩
    have HXM := Lib.hid hXM
    clear hXM
    have hL4 : L < 4294967296 := by omega
    have HRA := Lib.hid (show ∀ i, i < n2 → (la.getD i []).length = L from fun i hi => by rw [HROW.out i hi, ← HLL.out])
    have HRB := Lib.hid (show ∀ i, i < n2 → (lb.getD i []).length = L from fun i hi => by rw [HROW2.out i hi, ← HLL2.out])
    generalize hN : w4.heap.size = N at *
    have HN := Lib.hid hN
    clear hN
    go_wp2
    go_loopw [11, 12, 13, 80] (fun v _ _ i wr => ∃ t : Nat, t ≤ n2 ∧ i = .int .i64 t ∧ OwnM wr N v (rowsL t L XM) ∧ Below N w4 wr) (fun _ _ _ i _ => n2 - (intOf i).toNat)
    case atStart => exact ⟨0, Nat.zero_le _, rfl, OwnM.nil _ _, Below.refl _ _⟩
    case round =>
      obtain ⟨t, ht, rfl, hO, hB⟩ := hrel
      rename World => WO
      obtain ⟨pv, cv, hv, -, -, -⟩ := hO.prt
      rw [rowsL_length] at hv
      subst hv
      have HO := Lib.hid hO
      have HB := Lib.hid hB
      have hNO : N ≤ WO.heap.size := by have := hB.size; have := HN.out; omega
      by_cases hlt : t < n2
      · have hd0 : decide ((t : Int) < (n2 : Int)) = true := decide_eq_true (by omega)
        have hl0 : (t : Int) < (n2 : Int) := by omega
        obtain ⟨c1, o1, q1, cp1, e1, -, hc1, hs1, -, -⟩ := HA4.out.at_ t (by rw [HL.out]; exact hlt)
        obtain ⟨c2, o2, q2, cp2, e2, -, hc2, hs2, -, -⟩ := HT4.out.at_ t (by rw [HL2.out]; exact hlt)
        injection e1 with e1
        injection e1 with e11 e12
        subst e11 e12
        injection e2 with e2
        injection e2 with e21 e22
        subst e21 e22
        rw [HRA.out t hlt] at hc1
        rw [HRB.out t hlt] at hc2
        have HC1 := Lib.hid hc1
        have HC2 := Lib.hid hc2
        have HSL1 := Lib.hid hs1
        have HSL2 := Lib.hid hs2
        have x1 : WO.cell? ⟨ca, oa + t, none⟩ = some (.slice q1 L cp1) := by rw [hB.cell (by rw [← HN.out]; exact World.block_lt_of_cell? w4 _ hc1)]; exact hc1
        have hr0 : Row (WO.alloc (.cells (zb L) 5)) WO.heap.size 5 L (fun j => B 0#8) := Row.new WO _ L _
        have HR0 := Lib.hid (hr0.congr fun j _ => upto_zero (fun j => XM t j) j)
        have HB0 := Lib.hid (show Below WO.heap.size WO (WO.alloc (.cells (zb L) 5)) from (Below.refl _ _).alloc (Nat.le_refl _) _)
        clear hO hB hc1 hc2 hs1 hs2 hr0
        go_wp2
        clear x1
        generalize WO.alloc (.cells (zb L) 5) = WA at *
        generalize hE : WO.heap.size = E at *
        have HE := Lib.hid hE
        clear hE
        go_loopw [14, 91] (fun _ i wr => ∃ j : Nat, j ≤ L ∧ i = .int .i64 j ∧ Row wr E 5 L (upto (fun j => XM t j) j) ∧ Below E WO wr) (fun _ i _ => L - (intOf i).toNat)
        case atStart => exact ⟨0, Nat.zero_le _, rfl, HR0.out, HB0.out⟩
        case round =>
          clear HR0 HB0
          obtain ⟨j, hj, rfl, hR, hBi⟩ := hrel
          rename World => WI
          have HR := Lib.hid hR
          have HBI := Lib.hid hBi
          by_cases hjl : j < L
          · have hdj : decide ((j : Int) < (L : Int)) = true := decide_eq_true (by omega)
            have hj0 : (j : Int) < (L : Int) := by omega
            have hlti : (t : Int) < (n2 : Int) := by omega
            have kp : ∀ (ad : Addr) v, w4.cell? ad = some v → WI.cell? ad = some v := fun ad v h => by
              have h1 := World.block_lt_of_cell? w4 ad h
              rw [hBi.cell (by have := HN.out; omega), HB.out.cell (by rw [← HN.out]; exact h1)]; exact h
            obtain ⟨c3, o3, rfl, hc3⟩ := HSL1.out j (by rw [HRA.out t hlt]; exact hjl)
            obtain ⟨c4, o4, rfl, hc4⟩ := HSL2.out j (by rw [HRB.out t hlt]; exact hjl)
            have y1 := kp _ _ HC1.out
            have y2 := kp _ _ HC2.out
            have y3 := kp _ _ hc3
            have y4 := kp _ _ hc4
            have HXJ := Lib.hid (show XM t j = (la.getD t []).getD j 0#8 ^^^ (lb.getD t []).getD j 0#8 by rw [HXM.out]; rfl)
            have HST := Lib.hid (fun x (_ : x < L) => upto_step (fun j => XM t j) j x)
            generalize (la.getD t []).getD j 0#8 = bx at *
            generalize (lb.getD t []).getD j 0#8 = bz at *
            have z1 : (WI.cell? ⟨E, j, none⟩).isSome = true := by rw [hR.cell j hjl]; rfl
            have z2 : WI.frozen? ⟨E, j, none⟩ = false := hR.free j
            obtain ⟨z0, z3⟩ := Option.isSome_iff_exists.1 z1
            clear kp hR hBi hc3 hc4
            go_wp2
            refine wp_region_still_tail 18 (by kernel_rfl) (by kernel_rfl) ?_
            simp only [List.take_succ_cons, List.take_zero, List.drop_succ_cons, List.drop_zero, World.drew_eq]
            repeat (refine wpStill_step (fun K hK => ?_); go_simp; refine hK _ ?_; clear hK K)
            refine wpStill_nil ?_
            go_wp2
            go_roundw
            case rel =>
              have hr := (HR.out.set j (B (bx ^^^ bz))).congr (g' := upto (fun j => XM t j) (j + 1)) fun x hx => by
                rw [← HXJ.out]; exact HST.out x hx
              exact ⟨j + 1, by omega, by go_num, hr.drew, (HBI.out.setCell (Nat.le_refl _) _).drew⟩
            case measure => simp [intOf]; omega
          · have hdj : decide ((j : Int) < (L : Int)) = false := decide_eq_false (by omega)
            obtain rfl : j = L := by omega
            have hBI2 : Below WO.heap.size WO WI := by rw [HE.out]; exact hBi
            have hsz : E ≤ WI.heap.size := by have := hBI2.size; have := HE.out; omega
            have hEW : E < WI.heap.size := hR.lt
            have hbW : Below WI.heap.size WI (WI.alloc (.cells #[.slice (some ⟨E, 0, none⟩) j j] 38)) := (Below.refl _ _).alloc (Nat.le_refl _) _
            have HOB := Lib.hid ((HO.out.of_below hBI2).of_below hbW)
            have HBB := Lib.hid ((HB.out.trans (hBi.mono hNO)).trans (hbW.mono (by omega)))
            have HSR := Lib.hid (show Sl (WI.alloc (.cells #[.slice (some ⟨E, 0, none⟩) j j] 38)) (some ⟨E, 0, none⟩) (rowL j XM t) from Sl.row (hR.of_below hbW) (by rw [rowL_length]; exact Nat.le_refl _) fun x hx => by
              rw [rowL_length] at hx
              rw [rowL_get _ _ _ _ hx]
              exact upto_full _ _ _ hx)
            have HCL := Lib.hid (show (WI.alloc (.cells #[.slice (some ⟨E, 0, none⟩) j j] 38)).cell? ⟨WI.heap.size, 0, none⟩ = some (.slice (some ⟨E, 0, none⟩) j j) from World.cell?_alloc_new _ _ _ _)
            have hszB : (WI.alloc (.cells #[.slice (some ⟨E, 0, none⟩) j j] 38)).heap.size = WI.heap.size + 1 := World.size_alloc ..
            have HQB := Lib.hid (show ∀ b, some (⟨E, 0, none⟩ : Addr) = some b → N ≤ b.block ∧ b.block < (WI.alloc (.cells #[.slice (some ⟨E, 0, none⟩) j j] 38)).heap.size ∧ (Value.slice pv t cv).ownBlock ≠ some b.block from fun b hb => by
              injection hb with hb
              subst hb
              refine ⟨hNO, by rw [hszB]; show E < _; omega, fun e => ?_⟩
              have := (HO.out.lt _ e).2
              have h3 : E < WO.heap.size := this
              have := HE.out
              omega)
            have hN8 : N ≤ (WI.alloc (.cells #[.slice (some ⟨E, 0, none⟩) j j] 38)).heap.size := by omega
            have HRS := Lib.hid (rowsL_succ t j XM)
            have HLS := Lib.hid (rowsL_length t j XM)
            have HLR := Lib.hid (rowL_length j XM t)
            generalize rowsL t j XM = RL at *
            generalize rowL j XM t = RR at *
            clear hR hBi hBI2 hbW hszB
            go_wp2_with (first | (refine wpl_push _ rfl (.tmp 113) (.tmp 115) rfl N (.slice pv t cv) RL rfl HOB.out ⟨WI.heap.size, 0, none⟩ rfl (some ⟨E, 0, none⟩) RR j j HCL.out HLR.out HSR.out (fun h => by cases h) (Nat.le_refl _) HQB.out t HLS.out (by omega) hN8 ?_; rintro g7 d7 w7 hO7 hg7 ho7 hl7; have HO7 := Lib.hid hO7; have HB7 := Lib.hid (HBB.out.grown hg7 hN8 (fun g hg => (hl7 g hg).1)); clear hO7 hg7 ho7 hl7))
            go_roundw
            case rel => exact ⟨t + 1, by omega, by go_num, by rw [HRS.out]; exact HO7.out, HB7.out⟩
            case measure => simp [intOf]; omega
      · have hd0 : decide ((t : Int) < (n2 : Int)) = false := decide_eq_false (by omega)
        obtain rfl : t = n2 := by omega
        have hBO : Below w4.heap.size w4 WO := by rw [HN.out]; exact hB
        have HBW := Lib.hid (bel_step HB4.out hBO)
        have HCW := Lib.hid (HS.out.keep HC4.out hBO)
        have HAW := Lib.hid (HA4.out.of_below hBO)
        have HTW := Lib.hid (HT4.out.of_below hBO)
        have HPW := Lib.hid (show Prt WO pv (rowsL t L XM) by
          obtain ⟨p', c', e', h', -, -⟩ := hO.prt
          injection e' with e1 _ _
          subst e1
          exact h')
        clear hO hB hBO HO HB HA4 HT4 HC4 HB4
        go_wp2_with fail
        refine (HS.out.enc b t m la _ t cap WO HCW.out HAW.out HL.out (by omega) (fun i hi => by rw [HRA.out i hi]; omega)).mono ?_
        rintro e w8 ⟨r8, t8, rfl, hR8, hB8⟩
        rcases hR8 with ⟨he, -, -⟩ | ⟨-, rfl, qp, cp, rfl, hp8⟩
        · rw [HEV.out] at he; cases he
        have HP8 := Lib.hid hp8
        have HB8 := Lib.hid (bel_step HBW.out hB8)
        have HC8 := Lib.hid (HS.out.keep HCW.out hB8)
        have HA8 := Lib.hid (HAW.out.of_below hB8)
        have HT8 := Lib.hid (HTW.out.of_below hB8)
        have HX8 := Lib.hid (HPW.out.of_below hB8)
        clear hp8 hB8 HBW HCW HAW HTW HPW
        go_wp2_with fail
        refine (HS.out.enc b t m lb _ t cap' w8 HC8.out HT8.out HL2.out (by omega) (fun i hi => by rw [HRB.out i hi]; omega)).mono ?_
        rintro e w9 ⟨r9, t9, rfl, hR9, hB9⟩
        rcases hR9 with ⟨he, -, -⟩ | ⟨-, rfl, qq, cq, rfl, hp9⟩
        · rw [HEV2.out] at he; cases he
        have HQ9 := Lib.hid hp9
        have HP9 := Lib.hid (HP8.out.of_below hB9)
        have HB9 := Lib.hid (bel_step HB8.out hB9)
        have HC9 := Lib.hid (HS.out.keep HC8.out hB9)
        have HA9 := Lib.hid (HA8.out.of_below hB9)
        have HX9 := Lib.hid (HX8.out.of_below hB9)
        clear hp9 hB9 HP8 HB8 HC8 HA8 HT8 HX8
        go_wp2_with fail
        refine (HS.out.enc b t m (rowsL t L XM) pv t cv w9 HC9.out HX9.out (rowsL_length _ _ _) (by omega) (fun i hi => by rw [rowsL_len _ _ _ _ hi]; omega)).mono ?_
        rintro e w10 ⟨r10, t10, rfl, hR10, hB10⟩
        rcases hR10 with ⟨he, -, -⟩ | ⟨-, rfl, qs, cs, rfl, hp10⟩
        · exact absurd he (by
            rw [show evB (rowsL t L XM) t = true from decide_eq_true ⟨rowsL_length _ _ _, fun i hi => by rw [rowsL_length] at hi; rw [rowsL_len _ _ _ _ hi, rowsL_len _ _ _ _ (by omega)]⟩]
            exact Bool.noConfusion)
        have HS10 := Lib.hid hp10
        have HP10 := Lib.hid (HP9.out.of_below hB10)
        have HQ10 := Lib.hid (HQ9.out.of_below hB10)
        have HB10 := Lib.hid (bel_step HB9.out hB10)
        have HC10 := Lib.hid (HS.out.keep HC9.out hB10)
        have HA10 := Lib.hid (HA9.out.of_below hB10)
        have hmm : ((m : Int) != (m : Int)) = false := by simp
        clear hp10 hB10 HP9 HQ9 HB9 HC9 HA9 HX9
        have HSUM := Lib.hid (show ∀ i j, j < L → mm t (cau t) (mx (rowsL t L XM)) i j = mm t (cau t) (mx la) i j ^^^ mm t (cau t) (mx lb) i j from fun i j hj => par_sum t _ _ _ i j fun x hx => by rw [rowsL_mx t L XM x j hx hj, HXM.out])
        have HSL := Lib.hid (show ∀ i, i < m → ((parL t m (rowsL t L XM)).getD i []).length = L from fun i hi => by rw [parL_len _ _ _ _ hi, rowsL_len _ _ _ _ (by omega)])
        have HPL := Lib.hid (show ∀ i, i < m → ((parL t m la).getD i []).length = L from fun i hi => by rw [parL_len _ _ _ _ hi, ← HLL.out])
        have HQL := Lib.hid (show ∀ i, i < m → ((parL t m lb).getD i []).length = L from fun i hi => by rw [parL_len _ _ _ _ hi, ← HLL2.out])
        have HSV := Lib.hid (show ∀ i j, i < m → j < L → ((parL t m (rowsL t L XM)).getD i []).getD j 0#8 = mm t (cau t) (mx la) i j ^^^ mm t (cau t) (mx lb) i j from fun i j hi hj => by
          have h1 : mx (parL t m (rowsL t L XM)) i j = mm t (cau t) (mx (rowsL t L XM)) i j := rowsL_mx _ _ _ _ _ hi (by rw [rowsL_len _ _ _ _ (by omega)]; exact hj)
          rw [← HSUM.out i j hj, ← h1]; rfl)
        have HPV := Lib.hid (show ∀ i j, i < m → j < L → ((parL t m la).getD i []).getD j 0#8 = mm t (cau t) (mx la) i j from fun i j hi hj => rowsL_mx m _ (mm t (cau t) (mx la)) i j hi (by rw [← HLL.out]; exact hj))
        have HQV := Lib.hid (show ∀ i j, i < m → j < L → ((parL t m lb).getD i []).getD j 0#8 = mm t (cau t) (mx lb) i j from fun i j hi hj => rowsL_mx m _ (mm t (cau t) (mx lb)) i j hi (by rw [← HLL2.out]; exact hj))
        go_wp2
        go_loopw [21, 154] (fun _ i wr => ∃ i0 : Nat, i0 ≤ m ∧ i = .int .i64 i0 ∧ Dr w10 wr) (fun _ i _ => m - (intOf i).toNat)
        case atStart => exact ⟨0, Nat.zero_le _, rfl, Dr.refl _⟩
        case round =>
          obtain ⟨i0, hi0, rfl, hD⟩ := hrel
          rename World => WO
          have HD := Lib.hid hD
          by_cases him : i0 < m
          · have hdi : decide ((i0 : Int) < (m : Int)) = true := decide_eq_true (by omega)
            have hi1 : (i0 : Int) < (m : Int) := by omega
            obtain ⟨c1, o1, q1, cp1, rfl, -, hc1, hs1, -, -⟩ := HS10.out.at_ i0 (by rw [parL_length]; exact him)
            obtain ⟨c2, o2, q2, cp2, rfl, -, hc2, hs2, -, -⟩ := HP10.out.at_ i0 (by rw [parL_length]; exact him)
            obtain ⟨c3, o3, q3, cp3, rfl, -, hc3, hs3, -, -⟩ := HQ10.out.at_ i0 (by rw [parL_length]; exact him)
            rw [HSL.out i0 him] at hc1
            rw [HPL.out i0 him] at hc2
            rw [HQL.out i0 him] at hc3
            have HC1 := Lib.hid hc1
            have HC2 := Lib.hid hc2
            have HC3 := Lib.hid hc3
            have HV1 := Lib.hid hs1
            have HV2 := Lib.hid hs2
            have HV3 := Lib.hid hs3
            have x1 : WO.cell? ⟨c1, o1 + i0, none⟩ = some (.slice q1 L cp1) := by rw [hD.cell]; exact hc1
            clear hc1 hc2 hc3 hs1 hs2 hs3 hD
            go_wp2
            clear x1
            go_loopw [22, 162] (fun _ i wr => ∃ j : Nat, j ≤ L ∧ i = .int .i64 j ∧ Dr w10 wr) (fun _ i _ => L - (intOf i).toNat)
            case atStart => exact ⟨0, Nat.zero_le _, rfl, HD.out⟩
            case round =>
              obtain ⟨j, hj, rfl, hDi⟩ := hrel
              rename World => WI
              have HDI := Lib.hid hDi
              by_cases hjl : j < L
              · have hdj : decide ((j : Int) < (L : Int)) = true := decide_eq_true (by omega)
                have hj0 : (j : Int) < (L : Int) := by omega
                obtain ⟨d1, u1, rfl, v1⟩ := HV1.out j (by rw [HSL.out i0 him]; exact hjl)
                obtain ⟨d2, u2, rfl, v2⟩ := HV2.out j (by rw [HPL.out i0 him]; exact hjl)
                obtain ⟨d3, u3, rfl, v3⟩ := HV3.out j (by rw [HQL.out i0 him]; exact hjl)
                rw [HSV.out i0 j him hjl] at v1
                rw [HPV.out i0 j him hjl] at v2
                rw [HQV.out i0 j him hjl] at v3
                have y1 : WI.cell? ⟨c1, o1 + i0, none⟩ = _ := (hDi.cell _).trans HC1.out
                have y2 : WI.cell? ⟨c2, o2 + i0, none⟩ = _ := (hDi.cell _).trans HC2.out
                have y3 : WI.cell? ⟨c3, o3 + i0, none⟩ = _ := (hDi.cell _).trans HC3.out
                have y4 : WI.cell? ⟨d1, u1 + j, none⟩ = _ := (hDi.cell _).trans v1
                have y5 : WI.cell? ⟨d2, u2 + j, none⟩ = _ := (hDi.cell _).trans v2
                have y6 : WI.cell? ⟨d3, u3 + j, none⟩ = _ := (hDi.cell _).trans v3
                generalize mm t (cau t) (mx la) i0 j = bp at *
                generalize mm t (cau t) (mx lb) i0 j = bq at *
                have hxx : ((bp ^^^ bq) != (bp ^^^ bq)) = false := by simp
                clear hDi v1 v2 v3
                go_wp2
                go_quiet (fail)
                go_wp2
                go_roundw
                case rel => exact ⟨j + 1, by omega, by go_num, HDI.out.drewN _⟩
                case measure => simp [intOf]; omega
              · have hdj : decide ((j : Int) < (L : Int)) = false := decide_eq_false (by omega)
                clear hDi
                go_wp2
                go_roundw
                case rel => exact ⟨i0 + 1, by omega, by go_num, HDI.out⟩
                case measure => simp [intOf]; omega
          · have hdi : decide ((i0 : Int) < (m : Int)) = false := decide_eq_false (by omega)
            have HBW := Lib.hid (bel_dr HB10.out hD)
            have HCW := Lib.hid (HS.out.keep HC10.out (hD.below _))
            have HAW := Lib.hid (HA10.out.dr hD)
            have HPW := Lib.hid (HP10.out.dr hD)
            clear hD HD HB10 HC10 HA10 HP10 HS10 HQ10 HSUM HSL HPL HQL HSV HPV HQV
            obtain ⟨T, hT⟩ : ∃ T, T = t + m := ⟨_, rfl⟩
            have HTT := Lib.hid hT
            have hTi : (t : Int) + (m : Int) = (T : Int) := by omega
            have hT8 : T < 100000000 := by omega
            have hT16 : T ≤ 16 := by omega
            have hTw : IntKind.i64.wrap (T : Int) = (T : Int) := IntWalk.i64_in _ (by omega)
            have HLA := Lib.hid (show (la ++ parL t m la).length = T by rw [List.length_append, parL_length, HL.out, hT])
            have HAL := Lib.hid (show ∀ i, i < T → ((la ++ parL t m la).getD i []).length = L from fun i hi => by rw [all_len (m := m) HEV.out hk1 i (by omega), ← HLL.out])
            clear hT
            go_wp2_with fail
            refine (copX la _ t cap WO HAW.out HL.out (by omega) (fun i hi => by rw [HRA.out i hi]; omega)).mono ?_
            rintro e w11 ⟨q11, c11, rfl, hO11, -, hB11⟩
            have HO11 := Lib.hid hO11
            have HB11 := Lib.hid hB11
            clear hO11 hB11
            go_wp2_with (first | (refine wpl_joinP _ rfl (.tmp 191) (.tmp 192) rfl WO.heap.size (.slice q11 t c11) la rfl HO11.out WO qp (parL t m la) HPW.out HB11.out rfl t m cp HL.out (parL_length _ _ _) rfl (by omega) (by omega) ?_; rintro g12 c12 w12 hp12 hB12 hg12; have HP12 := Lib.hid hp12; have HB12 := Lib.hid (HB11.out.trans hB12); clear hp12 hB12 hg12))
            rw [← HTT.out]
            have HRT := Lib.hid ((Row.new w12 4 T (fun _ => .bool false)).congr (g' := fun j => .bool (decide (j < 0))) fun j _ => by simp)
            have HBT := Lib.hid (show Below w12.heap.size w12 (w12.alloc (.cells (tab T (fun _ => .bool false)) 4)) from (Below.refl _ _).alloc (Nat.le_refl _) _)
            generalize w12.alloc (.cells (tab T (fun _ => .bool false)) 4) = w13 at *
            generalize hB12 : w12.heap.size = BT at *
            have HB12N := Lib.hid hB12
            clear hB12
            go_loopw [25, 200] (fun _ i wr => ∃ s : Nat, s ≤ T ∧ i = .int .i64 s ∧ Row wr BT 4 T (fun j => .bool (decide (j < s))) ∧ Below BT w12 wr) (fun _ i _ => T - (intOf i).toNat)
            case atStart => exact ⟨0, Nat.zero_le _, rfl, HRT.out, HBT.out⟩
            case round =>
              clear HRT HBT
              obtain ⟨s, hs, rfl, hR, hBs⟩ := hrel
              rename World => WS
              have HR := Lib.hid hR
              have HBS := Lib.hid hBs
              by_cases hsT : s < T
              · have hds : decide ((s : Int) < (T : Int)) = true := decide_eq_true (by omega)
                have hs0 : (s : Int) < (T : Int) := by omega
                have z1 := hR.cell s hsT
                have z2 : WS.frozen? ⟨BT, s, none⟩ = false := hR.free s
                clear hR hBs
                go_wp2
                go_roundw
                case rel =>
                  refine ⟨s + 1, by omega, by go_num, (HR.out.set s (.bool true)).congr fun j _ => ?_, HBS.out.setCell (Nat.le_refl _) _⟩
                  by_cases h : j = s
                  · rw [if_pos h, h]; simp
                  · rw [if_neg h]
                    congr 1
                    rw [decide_eq_decide]; omega
                case measure => simp [intOf]; omega
              · have hds : decide ((s : Int) < (T : Int)) = false := decide_eq_false (by omega)
                obtain rfl : s = T := by omega
                have hbW : Below w12.heap.size w12 WS := by rw [HB12N.out]; exact hBs
                have hbWO : Below WO.heap.size WO WS := HB12.out.trans (hbW.mono HB12.out.size)
                have HCS := Lib.hid (HS.out.keep HCW.out hbWO)
                have HBW2 := Lib.hid (bel_step HBW.out hbWO)
                have HPS := Lib.hid (HP12.out.of_below hbW)
                obtain ⟨th, hth⟩ : ∃ th, th = List.replicate s true := ⟨_, rfl⟩
                have hthl : th.length = s := by rw [hth, List.length_replicate]
                have hthg : ∀ i, i < s → th.getD i false = true := fun i hi => by rw [hth]; simp [List.getD_eq_getElem?_getD, hi]
                have HTG := Lib.hid hthg
                have HTL := Lib.hid hthl
                have HBL := Lib.hid (bl_row th hR (by omega) fun j hj => by rw [hthg j (by omega)]; simp; omega)
                clear hR hBs hbW hbWO hth hthl hthg HR HBS HBW HCW HPW HAW HO11 HB11 HP12 HB12
                go_wp2_with fail
                refine (HS.out.dec b t m (la ++ parL t m la) th _ _ s s c12 s WS HCS.out HPS.out HBL.out HLA.out HTL.out (by omega) (by omega) (fun i hi => by rw [HAL.out i hi]; omega)).mono ?_
                rintro e w14 ⟨r14, t14, rfl, hR14, hB14⟩
                have HB14 := Lib.hid (bel_step HBW2.out hB14)
                have HP14 := Lib.hid (HPS.out.of_below hB14)
                have HR14 := Lib.hid hR14
                clear hR14 hB14
                rcases HR14.out with ⟨hno, rfl, rfl⟩ | ⟨-, ⟨hfew, rfl, rfl⟩ | ⟨hge, rfl, q14, c14, out, rfl, hcap, hp14, hdec⟩⟩
                · refine absurd ⟨by rw [HLA.out, HTT.out], by rw [HTL.out, HTT.out], ?_⟩ hno
                  exact there_eq _ th L fun i hi _ => HAL.out i (by rw [HLA.out] at hi; exact hi)
                · refine absurd hfew ?_
                  rw [there_len, HLA.out]
                  have : pick (fun i => th.getD i false) s = List.range s := List.filter_eq_self.2 fun i hi => HTG.out i (by simpa using hi)
                  rw [this, List.length_range]
                  have := HTT.out
                  omega
                · have hout : out = la ++ parL t m la := dec_all (by rw [HLA.out, HTT.out]) hdec fun i hi => HTG.out i (by have := HTT.out; omega)
                  subst hout
                  have HQ14 := Lib.hid hp14
                  have hsame : sameB (la ++ parL t m la) (la ++ parL t m la) = true := decide_eq_true rfl
                  clear HR14 hdec hp14 hge hcap
                  rw [← HTT.out]
                  go_wp2_with fail
                  refine (same4G (la ++ parL t m la) (la ++ parL t m la) q14 _ s s c14 c12 w14 HQ14.out HP14.out HLA.out HLA.out (by omega) (by omega)).mono ?_
                  rintro e w15 ⟨rfl, hD15⟩
                  have HB15 := Lib.hid (bel_dr HB14.out hD15)
                  clear hD15
                  go_wp2
                  go_ret
                  exact ⟨rfl, HB15.out⟩
  · have hd1 : ((L : Int) != (L2 : Int)) = true := by simp; omega
    have hd2 : ((L : Int) == (L2 : Int)) = false := by simp; omega
    have hd3 : decide (L = L2) = false := decide_eq_false hne
    clear hne
    go_wp2
    go_quiet ((go_at_call 16; first | (with_reducible exact evenQ la _ n2 cap n2 _ _ _ HA2.out HL.out (by omega) HEV.out) | (with_reducible exact evenQ lb _ n2 cap' n2 _ _ _ HT2.out HL2.out (by omega) HEV2.out)))
    go_wp2
    go_ret
    exact ⟨rfl, below_drewN HB2.out _⟩
end
end Go.Proofs.Ytphpliclecmnlaa
