/- The statement ShardAny, walked over the premises. -/
import Derived.Test.YtphpliclecmnlaaZLaw4C
import Derived.Test.YtphpliclecmnlaaZLaw4S
set_option linter.unusedSimpArgs false
set_option linter.unusedVariables false
namespace Go.Proofs.Ytphpliclecmnlaa
open Go Go.RowKit

theorem pick_congr {f g : Nat → Bool} {n : Nat} (h : ∀ i, i < n → f i = g i) : pick f n = pick g n := by
  unfold pick
  exact List.filter_congr fun i hi => h i (by simpa using hi)
theorem pick_add (th : Nat → Bool) (T A : Nat) (hA : A < T) (h : th A = false) : (pick (fun j => if j = A then true else th j) T).length = (pick th T).length + 1 := by
  induction T with
  | zero => omega
  | succ T ih =>
    by_cases e : A = T
    · subst e
      rw [pick_yes (f := fun j => if j = A then true else th j) (if_pos rfl), pick_no h, List.length_append, pick_congr (f := fun j => if j = A then true else th j) (g := th) fun i hi => if_neg (by omega)]
      rfl
    · have hT : (if T = A then true else th T) = th T := if_neg (Ne.symm e)
      cases e2 : th T with
      | true => rw [pick_yes (f := fun j => if j = A then true else th j) (hT.trans e2), pick_yes e2, List.length_append, List.length_append, ih (by omega)]; simp
      | false => rw [pick_no (f := fun j => if j = A then true else th j) (hT.trans e2), pick_no e2, ih (by omega)]
theorem pick_all {th : Nat → Bool} {T : Nat} (h : ∀ i, i < T → th i = true) : (pick th T).length = T := by
  have : pick th T = List.range T := List.filter_eq_self.2 fun i hi => h i (by simpa using hi)
  rw [this, List.length_range]
attribute [local go_sem ↓] exec_slice exec_store exec_bs exec_make
attribute [local go_sem] st_H mkR st_T mkT4
section
variable {Cd : World → Nat → Nat → Nat → Prop} (S : CodeSpec Cd) (a c : Int) (p q : Option Addr) (n cap l cap' : Nat) (w : World)
include S
set_option maxRecDepth 100000 in
set_option maxHeartbeats 4000000 in
theorem sy_a (h : 300 < n) : Calls Try.prog 9 #[.agg #[.int .u8 a, .int .u8 c], .slice p n cap, .slice q l cap'] w fun e w' => e = .returned (.bool true) ∧ Below w.heap.size w w' := by
  have hd : decide ((300 : Int) < (n : Int)) = true := decide_eq_true (by omega)
  have HB0 := Lib.hid (show Below w.heap.size w (w.alloc (.cells #[.int .u8 a, .int .u8 c] 22)) from (Below.refl _ _).alloc (Nat.le_refl _) _)
  have HS := Lib.hid S
  clear S
  go_enter Try.func9, Try.ntmps9
  go_wp2_with fail
  refine (awake4 HS.out w _ HB0.out).mono ?_
  rintro e w1 ⟨rfl, hB1⟩
  have HB1 := Lib.hid hB1
  clear hB1
  go_wp2_with fail
  refine (awake4 HS.out w w1 HB1.out).mono ?_
  rintro e w2 ⟨rfl, hB2⟩
  have HB2 := Lib.hid hB2
  clear hB2
  go_wp2
  go_ret
  exact ⟨rfl, HB2.out⟩
set_option maxRecDepth 100000 in
set_option maxHeartbeats 4000000 in
theorem sy_b (h : n ≤ 300) (h64 : 64 < l) : Calls Try.prog 9 #[.agg #[.int .u8 a, .int .u8 c], .slice p n cap, .slice q l cap'] w fun e w' => e = .returned (.bool true) ∧ Below w.heap.size w w' := by
  have hd : decide ((300 : Int) < (n : Int)) = false := decide_eq_false (by omega)
  have hd2 : decide ((64 : Int) < (l : Int)) = true := decide_eq_true (by omega)
  have HB0 := Lib.hid (show Below w.heap.size w (w.alloc (.cells #[.int .u8 a, .int .u8 c] 22)) from (Below.refl _ _).alloc (Nat.le_refl _) _)
  have HS := Lib.hid S
  clear S
  go_enter Try.func9, Try.ntmps9
  go_wp2_with fail
  refine (awake4 HS.out w _ HB0.out).mono ?_
  rintro e w1 ⟨rfl, hB1⟩
  have HB1 := Lib.hid hB1
  clear hB1
  go_wp2_with fail
  refine (awake4 HS.out w w1 HB1.out).mono ?_
  rintro e w2 ⟨rfl, hB2⟩
  have HB2 := Lib.hid hB2
  clear hB2
  go_wp2
  go_ret
  exact ⟨rfl, HB2.out⟩
set_option maxRecDepth 100000 in
set_option maxHeartbeats 16000000 in
theorem sy_c (lb lk : List (BitVec 8)) (hs : Sl w p lb) (hl : lb.length = n) (hnc : n ≤ cap) (hs2 : Sl w q lk) (hl2 : lk.length = l) (h : n ≤ 300) (h64 : l ≤ 64) (ha : 0 ≤ a) (ha2 : a < 256) (hc : 0 ≤ c) (hc2 : c < 256) (k m : Nat) (hk : 1 + a % 16 = (k : Int)) (hm : 1 + c % 16 = (m : Int)) :
    Calls Try.prog 9 #[.agg #[.int .u8 a, .int .u8 c], .slice p n cap, .slice q l cap'] w fun e w' => e = .returned (.bool true) ∧ Below w.heap.size w w' := by
  have hd : decide ((300 : Int) < (n : Int)) = false := decide_eq_false (by omega)
  have hd2 : decide ((64 : Int) < (l : Int)) = false := decide_eq_false (by omega)
  have hk1 : 1 ≤ k := by omega
  have hk2 : k ≤ 16 := by omega
  have hm1 : 1 ≤ m := by omega
  have hm2 : m ≤ 16 := by omega
  have hB0 : Below w.heap.size w (w.alloc (.cells #[.int .u8 a, .int .u8 c] 22)) := (Below.refl _ _).alloc (Nat.le_refl _) _
  have HB0 := Lib.hid hB0
  have HC0 := Lib.hid (show (w.alloc (.cells #[.int .u8 a, .int .u8 c] 22)).cell? ⟨w.heap.size, 0, none⟩ = some (.int .u8 a) by rw [World.cell?_alloc_new]; rfl)
  have HC1 := Lib.hid (show (w.alloc (.cells #[.int .u8 a, .int .u8 c] 22)).cell? ⟨w.heap.size, 1, none⟩ = some (.int .u8 c) by rw [World.cell?_alloc_new]; rfl)
  have hs0 : w.heap.size < (w.alloc (.cells #[.int .u8 a, .int .u8 c] 22)).heap.size := by rw [World.size_alloc]; omega
  have HS := Lib.hid S
  have HSB := Lib.hid hs
  have HL := Lib.hid hl
  have HSK := Lib.hid hs2
  have HLK := Lib.hid hl2
  clear S hB0 hs hl hs2 hl2
  go_enter Try.func9, Try.ntmps9
  go_wp2_with fail
  refine (awake4 HS.out _ _ (Below.refl _ _)).mono ?_
  rintro e w1 ⟨rfl, hB1⟩
  have hx0 : w1.cell? ⟨w.heap.size, 0, none⟩ = some (.int .u8 a) := by rw [hB1.cell (by exact hs0)]; exact HC0.out
  have hx1 : w1.cell? ⟨w.heap.size, 1, none⟩ = some (.int .u8 c) := by rw [hB1.cell (by exact hs0)]; exact HC1.out
  have HB1 := Lib.hid (bel_step HB0.out hB1)
  clear hB1
  go_wp2
  go_quiet (fail)
  try simp only [hk, hm]
  have HB2 := Lib.hid (below_drewN HB1.out nq)
  clear HB1 hx0 hx1 hs0 HB0 HC0 HC1 hk hm
  generalize w1.drewN nq = w2 at *
  go_wp2_with fail
  refine (HS.out.new k m w2 hk1 hm1 (by omega)).mono ?_
  rintro e w3 ⟨b, rfl, hC, hB3⟩
  have HC3 := Lib.hid hC
  have HB3 := Lib.hid (bel_step HB2.out hB3)
  clear hC hB3 HB2
  go_wp2_with fail
  refine (HS.out.cut b k m lb p n cap w3 HC3.out (HSB.out.of_below HB3.out) HL.out (by omega) hnc).mono ?_
  rintro e w4 ⟨qd, cd, rfl, hp4, hB4⟩
  obtain ⟨L, hLL⟩ : ∃ L, L = cutEach k n := ⟨_, rfl⟩
  have hL0 : L ≤ 300 := by rw [hLL]; exact Nat.le_trans (cutEach_le k n hk1) h
  obtain ⟨la, hla⟩ : ∃ la, la = cutL k lb := ⟨_, rfl⟩
  have hcl : cutL k lb = rowsL k L (fun i j => lb.getD (i * L + j) 0#8) := by unfold cutL; rw [HL.out, ← hLL]
  have HEV := Lib.hid (show evB la k = true by rw [hla]; exact cut_even k lb hk1)
  have HLL := Lib.hid (show L = (la.getD 0 []).length by rw [hla, hcl, rowsL_len _ _ _ _ (by omega)])
  have HLA0 := Lib.hid (show la.length = k by rw [hla, hcl, rowsL_length])
  have HRA := Lib.hid (show ∀ i, i < k → (la.getD i []).length = L from fun i hi => by rw [hla, hcl, rowsL_len _ _ _ _ hi])
  rw [← hla] at hp4
  have HP4 := Lib.hid hp4
  have HB4 := Lib.hid (bel_step HB3.out hB4)
  have HC4 := Lib.hid (HS.out.keep HC3.out hB4)
  clear hp4 hB4 hLL hla hcl HB3 HC3
  go_wp2_with fail
  refine (HS.out.enc b k m la qd k cd w4 HC4.out HP4.out HLA0.out (by omega) (fun i hi => by rw [HRA.out i hi]; omega)).mono ?_
  rintro e w5 ⟨r5, t5, rfl, hR5, hB5⟩
  rcases hR5 with ⟨he, -, -⟩ | ⟨-, rfl, qp, cp, rfl, hp5⟩
  · rw [HEV.out] at he; cases he
  have HQ5 := Lib.hid hp5
  have HP5 := Lib.hid (HP4.out.of_below hB5)
  have HB5 := Lib.hid (bel_step HB4.out hB5)
  have HC5 := Lib.hid (HS.out.keep HC4.out hB5)
  clear hp5 hB5 HP4 HB4 HC4
  obtain ⟨T, hT⟩ : ∃ T, T = k + m := ⟨_, rfl⟩
  have HTT := Lib.hid hT
  have hTi : (k : Int) + (m : Int) = (T : Int) := by omega
  have hT8 : T < 100000000 := by omega
  have hT32 : T ≤ 32 := by omega
  have hT1 : 1 ≤ T := by omega
  have hkT : k ≤ T := by omega
  have hTw : IntKind.i64.wrap (T : Int) = (T : Int) := IntWalk.i64_in _ (by omega)
  have HLA := Lib.hid (show (la ++ parL k m la).length = T by rw [List.length_append, parL_length, HLA0.out, hT])
  have HAL := Lib.hid (show ∀ i, i < T → ((la ++ parL k m la).getD i []).length = L from fun i hi => by rw [all_len (m := m) HEV.out hk1 i (by omega), ← HLL.out])
  obtain ⟨R, hR⟩ : ∃ R, R = l + T := ⟨_, rfl⟩
  have hRi : (l : Int) + (k : Int) + (m : Int) = (R : Int) := by omega
  have hRi2 : (l : Int) + (k : Int) = ((l + k : Nat) : Int) := by omega
  have hRl : l ≤ R := by omega
  have hR96 : R ≤ 96 := by omega
  have HRR := Lib.hid hR
  clear hT hR
  go_wp2_with fail
  refine (copX la qd k cd w5 HP5.out HLA0.out (by omega) (fun i hi => by rw [HRA.out i hi]; omega)).mono ?_
  rintro e w11 ⟨q11, c11, rfl, hO11, -, hB11⟩
  have HO11 := Lib.hid hO11
  have HB11 := Lib.hid hB11
  clear hO11 hB11 hRi2
  go_wp2_with (first | (refine wpl_joinP _ rfl (.tmp 71) (.tmp 72) rfl w5.heap.size (.slice q11 k c11) la rfl HO11.out w5 qp (parL k m la) HQ5.out HB11.out rfl k m cp HLA0.out (parL_length _ _ _) rfl (by omega) (by omega) ?_; rintro g12 c12 w12 hp12 hB12 hg12; have HP12 := Lib.hid hp12; have HB12 := Lib.hid (HB11.out.trans hB12); clear hp12 hB12 hg12))
  rw [← HTT.out]
  have HBW := Lib.hid (bel_step HB5.out HB12.out)
  have HCW := Lib.hid (HS.out.keep HC5.out HB12.out)
  clear HB5 HC5 HO11 HB11 HB12 HQ5 HP5
  obtain ⟨V, hV⟩ : ∃ V : Nat → Value, V = fun j => (w12.cell? ⟨g12, j, none⟩).getD (.bool false) := ⟨_, rfl⟩
  have HV := Lib.hid hV
  have hbW : Below w12.heap.size w12 ((w12.alloc (.cells (tab T (fun _ => .bool false)) 4)).alloc (.cells (tab T (fun _ => .slice none 0 0)) 38)) := ((Below.refl _ _).alloc (Nat.le_refl _) _).alloc (by rw [World.size_alloc]; omega) _
  have HRB0 := Lib.hid (show Row ((w12.alloc (.cells (tab T (fun _ => .bool false)) 4)).alloc (.cells (tab T (fun _ => .slice none 0 0)) 38)) w12.heap.size 4 T (fun j => .bool ((fun _ : Nat => false) j)) from (Row.new w12 4 T (fun _ => .bool false)).of_below ((Below.refl _ _).alloc (Nat.le_refl _) _))
  have HRL0 := Lib.hid (show Row ((w12.alloc (.cells (tab T (fun _ => .bool false)) 4)).alloc (.cells (tab T (fun _ => .slice none 0 0)) 38)) (w12.heap.size + 1) 38 T (fun j => if (fun _ : Nat => false) j = true then V j else .slice none 0 0) from by
    have := Row.new (w12.alloc (.cells (tab T (fun _ => .bool false)) 4)) 38 T (fun _ => .slice none 0 0)
    rw [World.size_alloc] at this
    exact this)
  have HBR0 := Lib.hid hbW
  have HPK0 := Lib.hid (show ((pick (fun _ => false) T).length : Nat) = 0 by unfold pick; simp)
  clear hV hbW
  go_wp2
  generalize (w12.alloc (.cells (tab T (fun _ => .bool false)) 4)).alloc (.cells (tab T (fun _ => .slice none 0 0)) 38) = w13 at *
  generalize hBT : w12.heap.size = BT at *
  have HBTN := Lib.hid hBT
  clear hBT
  go_loopw [18, 19, 20, 88] (fun v _ _ i wr => ∃ t : Nat, t ≤ R ∧ i = .int .i64 t ∧ ∃ th : Nat → Bool, v = .int .i64 ((pick th T).length : Nat) ∧ (pick th T).length ≤ k ∧ ((pick th T).length < k → ∀ i', l ≤ i' → i' < t → th (i' % T) = true) ∧
    Row wr BT 4 T (fun j => .bool (th j)) ∧ Row wr (BT + 1) 38 T (fun j => if th j = true then V j else .slice none 0 0) ∧ Below BT w12 wr) (fun _ _ _ i _ => R - (intOf i).toNat)
  case atStart => exact ⟨0, Nat.zero_le _, rfl, fun _ => false, by rw [HPK0.out]; rfl, by rw [HPK0.out]; exact Nat.zero_le _, fun _ i' _ h => by omega, HRB0.out, HRL0.out, HBR0.out⟩
  case round =>
    clear HRB0 HRL0 HBR0 HPK0
    obtain ⟨t, ht, rfl, th, rfl, hck0, hpg, hRB, hRL, hBr⟩ := hrel
    have HPG := Lib.hid hpg
    have HRB := Lib.hid hRB
    have HRL := Lib.hid hRL
    have HBR := Lib.hid hBr
    have HCK := Lib.hid hck0
    obtain ⟨cnt, hcnt⟩ : ∃ cnt, cnt = (pick th T).length := ⟨_, rfl⟩
    have HCNTE := Lib.hid hcnt
    have hcntk : cnt ≤ k := by rw [hcnt]; exact hck0
    rw [← hcnt]
    have HCNT := Lib.hid (show Value.int .i64 (cnt : Nat) = .int .i64 ((pick th T).length : Nat) by rw [hcnt])
    clear hpg hRB hRL hBr hck0 hcnt
    by_cases hlt : t < R
    · have hd0 : decide ((t : Int) < (R : Int)) = true := decide_eq_true (by omega)
      have hl0 : (t : Int) < (R : Int) := by omega
      have hT0 : ((T : Int) == 0) = false := by simp; omega
      have hT00 : (0 : Int) < (T : Int) := by omega
      obtain ⟨A0, hA0⟩ : ∃ A0, A0 = t % T := ⟨_, rfl⟩
      have hA0T : A0 < T := by rw [hA0]; exact Nat.mod_lt _ (by omega)
      have m1 : (t : Int) % (T : Int) = (A0 : Int) := by rw [hA0]; simp
      have m2 : (t : Int).tmod (T : Int) = (A0 : Int) := by rw [Int.tmod_eq_emod_of_nonneg (by omega)]; exact m1
      have mA0 : IntKind.i64.wrap (A0 : Int) = (A0 : Int) := IntWalk.i64_in _ (by omega)
      have HAT0 := Lib.hid (show t % T = A0 from hA0.symm)
      clear hA0
      by_cases htl : t < l
      · have hdl : decide ((t : Int) < (l : Int)) = true := decide_eq_true (by omega)
        have htli : (t : Int) < (l : Int) := by omega
        obtain ⟨ck, ok, rfl, hxk⟩ := (HSK.out.of_below HBW.out) t (by rw [HLK.out]; exact htl)
        have hxk2 : wr.cell? ⟨ck, ok + t, none⟩ = some (B (lk.getD t 0#8)) := by rw [HBR.out.cell (by rw [← HBTN.out]; exact World.block_lt_of_cell? w12 _ hxk)]; exact hxk
        generalize lk.getD t 0#8 = y at *
        have ylt := y.isLt
        obtain ⟨A, hAe⟩ : ∃ A, A = y.toNat % T := ⟨_, rfl⟩
        have hA : A < T := by rw [hAe]; exact Nat.mod_lt _ (by omega)
        have m3 : (y.toNat : Int) % (T : Int) = (A : Int) := by rw [hAe]; simp
        have m4 : (y.toNat : Int).tmod (T : Int) = (A : Int) := by rw [Int.tmod_eq_emod_of_nonneg (by omega)]; exact m3
        have mA : IntKind.i64.wrap (A : Int) = (A : Int) := IntWalk.i64_in _ (by omega)
        have hAi : (A : Int) < (T : Int) := by omega
        clear hAe hxk
        · skip
          by_cases hck : cnt < k
          · have hdc : decide ((cnt : Int) < (k : Int)) = true := decide_eq_true (by omega)
            cases hth : th A with
            | true =>
              have z1 : wr.cell? ⟨BT, A, none⟩ = some (.bool true) := by rw [HRB.out.cell A hA, hth]
              have HTHA := Lib.hid hth
              clear hth
              go_wp2
              go_roundw
              case rel =>
                refine ⟨t + 1, by omega, by go_num, th, HCNT.out, HCK.out, fun hc i' h1 h2 => ?_, HRB.out, HRL.out, HBR.out⟩
                omega
              case measure => simp [intOf]; omega
            | false =>
              have z1 : wr.cell? ⟨BT, A, none⟩ = some (.bool false) := by rw [HRB.out.cell A hA, hth]
              have z2 : wr.frozen? ⟨BT, A, none⟩ = false := HRB.out.free A
              obtain ⟨c5, o5, q5, cp5, e5, -, hc5, -, -, -⟩ := HP12.out.at_ A (by rw [HLA.out]; exact hA)
              injection e5 with e5
              injection e5 with e51 e52
              subst e51 e52
              rw [Nat.zero_add, HAL.out A hA] at hc5
              have hg12 := World.block_lt_of_cell? w12 _ hc5
              have z3 : wr.cell? ⟨g12, A, none⟩ = some (.slice q5 L cp5) := by rw [HBR.out.cell (by rw [← HBTN.out]; exact hg12)]; exact hc5
              have z4 : wr.cell? ⟨BT + 1, A, none⟩ = some (if th A = true then V A else .slice none 0 0) := HRL.out.cell A hA
              have z5 : wr.frozen? ⟨BT + 1, A, none⟩ = false := HRL.out.free A
              have z6 : (wr.setCell ⟨BT, A, none⟩ (.bool true)).cell? ⟨BT + 1, A, none⟩ = some (if th A = true then V A else .slice none 0 0) := by
                rw [World.cell?_setCell_far _ _ _ _ (by show BT ≠ BT + 1; omega)]; exact z4
              have z7 : (wr.setCell ⟨BT, A, none⟩ (.bool true)).frozen? ⟨BT + 1, A, none⟩ = false := (Row.of_block (w' := wr.setCell ⟨BT, A, none⟩ (.bool true)) HRL.out (Below.heap_setCell _ _ _ _ (by show BT + 1 ≠ BT; omega))).free A
              have HVA := Lib.hid (show V A = .slice q5 L cp5 by rw [HV.out]; show (w12.cell? _).getD _ = _; rw [hc5]; rfl)
              have HTHA := Lib.hid hth
              have hwc : IntKind.i64.wrap ((cnt : Int) + 1) = (cnt : Int) + 1 := IntWalk.i64_in _ (by omega)
              have HCN := Lib.hid (pick_add th T A hA hth)
              clear hth hc5 hg12 z4
              go_wp2
              go_roundw
              case rel =>
                have hr1 := (HRB.out.set A (.bool true)).congr (g' := fun j => .bool (if j = A then true else th j)) fun j _ => by split <;> rfl
                have hr2 := ((Row.of_block (w' := wr.setCell ⟨BT, A, none⟩ (.bool true)) HRL.out (Below.heap_setCell _ _ _ _ (by show BT + 1 ≠ BT; omega))).set A (.slice q5 L cp5)).congr (g' := fun j => if (if j = A then true else th j) = true then V j else .slice none 0 0) fun j _ => by
                  by_cases h : j = A
                  · rw [if_pos h, if_pos h, if_pos rfl, h, HVA.out]
                  · rw [if_neg h, if_neg h]
                refine ⟨t + 1, by omega, by go_num, fun j => if j = A then true else th j, ?_, ?_, fun hc i' h1 h2 => ?_, Row.of_block hr1 (Below.heap_setCell _ _ _ _ (by show BT ≠ BT + 1; omega)), hr2, (HBR.out.setCell (Nat.le_refl _) _).setCell (by show BT ≤ BT + 1; omega) _⟩
                · rw [HCN.out, ← HCNTE.out]; rfl
                · rw [HCN.out, ← HCNTE.out]; omega
                · show (if i' % T = A then true else th (i' % T)) = true
                  by_cases h : i' % T = A
                  · rw [if_pos h]
                  · rw [if_neg h]
                    omega
              case measure => simp [intOf]; omega
          · have hdc : decide ((cnt : Int) < (k : Int)) = false := decide_eq_false (by omega)
            go_wp2
            go_roundw
            case rel => exact ⟨t + 1, by omega, by go_num, th, HCNT.out, HCK.out, fun hc => absurd (by rw [HCNTE.out]; exact hc) hck, HRB.out, HRL.out, HBR.out⟩
            case measure => simp [intOf]; omega
      · have hdl : decide ((t : Int) < (l : Int)) = false := decide_eq_false (by omega)
        obtain ⟨A, hAe⟩ : ∃ A, A = A0 := ⟨_, rfl⟩
        subst hAe
        have hA : A < T := hA0T
        have HAT := Lib.hid HAT0.out
        have hAi : (A : Int) < (T : Int) := by omega
        · skip
          by_cases hck : cnt < k
          · have hdc : decide ((cnt : Int) < (k : Int)) = true := decide_eq_true (by omega)
            cases hth : th A with
            | true =>
              have z1 : wr.cell? ⟨BT, A, none⟩ = some (.bool true) := by rw [HRB.out.cell A hA, hth]
              have HTHA := Lib.hid hth
              clear hth
              go_wp2
              go_roundw
              case rel =>
                refine ⟨t + 1, by omega, by go_num, th, HCNT.out, HCK.out, fun hc i' h1 h2 => ?_, HRB.out, HRL.out, HBR.out⟩
                rcases Nat.lt_or_ge i' t with h3 | h3
                · exact HPG.out (by rw [← HCNTE.out]; exact hck) i' h1 h3
                · obtain rfl : i' = t := by omega
                  rw [HAT.out]; exact HTHA.out
              case measure => simp [intOf]; omega
            | false =>
              have z1 : wr.cell? ⟨BT, A, none⟩ = some (.bool false) := by rw [HRB.out.cell A hA, hth]
              have z2 : wr.frozen? ⟨BT, A, none⟩ = false := HRB.out.free A
              obtain ⟨c5, o5, q5, cp5, e5, -, hc5, -, -, -⟩ := HP12.out.at_ A (by rw [HLA.out]; exact hA)
              injection e5 with e5
              injection e5 with e51 e52
              subst e51 e52
              rw [Nat.zero_add, HAL.out A hA] at hc5
              have hg12 := World.block_lt_of_cell? w12 _ hc5
              have z3 : wr.cell? ⟨g12, A, none⟩ = some (.slice q5 L cp5) := by rw [HBR.out.cell (by rw [← HBTN.out]; exact hg12)]; exact hc5
              have z4 : wr.cell? ⟨BT + 1, A, none⟩ = some (if th A = true then V A else .slice none 0 0) := HRL.out.cell A hA
              have z5 : wr.frozen? ⟨BT + 1, A, none⟩ = false := HRL.out.free A
              have z6 : (wr.setCell ⟨BT, A, none⟩ (.bool true)).cell? ⟨BT + 1, A, none⟩ = some (if th A = true then V A else .slice none 0 0) := by
                rw [World.cell?_setCell_far _ _ _ _ (by show BT ≠ BT + 1; omega)]; exact z4
              have z7 : (wr.setCell ⟨BT, A, none⟩ (.bool true)).frozen? ⟨BT + 1, A, none⟩ = false := (Row.of_block (w' := wr.setCell ⟨BT, A, none⟩ (.bool true)) HRL.out (Below.heap_setCell _ _ _ _ (by show BT + 1 ≠ BT; omega))).free A
              have HVA := Lib.hid (show V A = .slice q5 L cp5 by rw [HV.out]; show (w12.cell? _).getD _ = _; rw [hc5]; rfl)
              have HTHA := Lib.hid hth
              have hwc : IntKind.i64.wrap ((cnt : Int) + 1) = (cnt : Int) + 1 := IntWalk.i64_in _ (by omega)
              have HCN := Lib.hid (pick_add th T A hA hth)
              clear hth hc5 hg12 z4
              go_wp2
              go_roundw
              case rel =>
                have hr1 := (HRB.out.set A (.bool true)).congr (g' := fun j => .bool (if j = A then true else th j)) fun j _ => by split <;> rfl
                have hr2 := ((Row.of_block (w' := wr.setCell ⟨BT, A, none⟩ (.bool true)) HRL.out (Below.heap_setCell _ _ _ _ (by show BT + 1 ≠ BT; omega))).set A (.slice q5 L cp5)).congr (g' := fun j => if (if j = A then true else th j) = true then V j else .slice none 0 0) fun j _ => by
                  by_cases h : j = A
                  · rw [if_pos h, if_pos h, if_pos rfl, h, HVA.out]
                  · rw [if_neg h, if_neg h]
                refine ⟨t + 1, by omega, by go_num, fun j => if j = A then true else th j, ?_, ?_, fun hc i' h1 h2 => ?_, Row.of_block hr1 (Below.heap_setCell _ _ _ _ (by show BT ≠ BT + 1; omega)), hr2, (HBR.out.setCell (Nat.le_refl _) _).setCell (by show BT ≤ BT + 1; omega) _⟩
                · rw [HCN.out, ← HCNTE.out]; rfl
                · rw [HCN.out, ← HCNTE.out]; omega
                · show (if i' % T = A then true else th (i' % T)) = true
                  by_cases h : i' % T = A
                  · rw [if_pos h]
                  · rw [if_neg h]
                    rcases Nat.lt_or_ge i' t with h3 | h3
                    · exact HPG.out (by rw [← HCNTE.out]; exact hck) i' h1 h3
                    · obtain rfl : i' = t := by omega
                      exact absurd HAT.out h
              case measure => simp [intOf]; omega
          · have hdc : decide ((cnt : Int) < (k : Int)) = false := decide_eq_false (by omega)
            go_wp2
            go_roundw
            case rel => exact ⟨t + 1, by omega, by go_num, th, HCNT.out, HCK.out, fun hc => absurd (by rw [HCNTE.out]; exact hc) hck, HRB.out, HRL.out, HBR.out⟩
            case measure => simp [intOf]; omega
    · have hd0 : decide ((t : Int) < (R : Int)) = false := decide_eq_false (by omega)
      obtain rfl : t = R := by omega
      have hcnt : cnt = k := Decidable.byContradiction fun hne => by
        have h1 : (pick th T).length < k := by rw [← HCNTE.out]; omega
        have h2 := pick_all (th := th) (T := T) fun j hj => by
          have hd := Nat.div_add_mod l T
          have hm := Nat.mod_lt l (show 0 < T by omega)
          have hx := Nat.mod_lt (j + (T - l % T)) (show 0 < T by omega)
          have := HPG.out h1 (l + (j + (T - l % T)) % T) (by omega) (by have := HRR.out; omega)
          rw [Nat.add_mod_mod, show l + (j + (T - l % T)) = j + T * (l / T + 1) by rw [Nat.mul_add, Nat.mul_one]; omega, Nat.add_mul_mod_self_left, Nat.mod_eq_of_lt hj] at this
          exact this
        omega
      have hbr : Below w12.heap.size w12 wr := by rw [HBTN.out]; exact HBR.out
      have HCr := Lib.hid (HS.out.keep HCW.out hbr)
      have HBr := Lib.hid (bel_step HBW.out hbr)
      have HPr := Lib.hid (HP12.out.of_below hbr)
      obtain ⟨AL, hAL⟩ : ∃ AL, AL = la ++ parL k m la := ⟨_, rfl⟩
      rw [← hAL] at HLA HAL HP12 HPr
      obtain ⟨ls, hls⟩ : ∃ ls : List (List (BitVec 8)), ls = (List.range T).map fun j => if th j = true then AL.getD j [] else [] := ⟨_, rfl⟩
      obtain ⟨tl, htl⟩ : ∃ tl : List Bool, tl = (List.range T).map th := ⟨_, rfl⟩
      have hlsl : ls.length = T := by rw [hls]; simp
      have htll : tl.length = T := by rw [htl]; simp
      have hlsg : ∀ j, j < T → ls.getD j [] = if th j = true then AL.getD j [] else [] := fun j hj => by rw [hls]; simp [List.getD_eq_getElem?_getD, hj]
      have htlg : ∀ j, j < T → tl.getD j false = th j := fun j hj => by rw [htl]; simp [List.getD_eq_getElem?_getD, hj]
      have HBL := Lib.hid (bl_row tl HRB.out (by omega) fun j hj => by rw [htlg j (by omega)])
      have HPL := Lib.hid (show Prt wr (some ⟨BT + 1, 0, none⟩) ls from fun i hi => by
        rw [hlsl] at hi
        have hcell := HRL.out.cell i hi
        rw [hlsg i hi]
        cases hth : th i with
        | false =>
          rw [hth, if_neg Bool.false_ne_true] at hcell
          refine ⟨BT + 1, 0, none, 0, rfl, ?_, ?_, fun _ => rfl, ?_⟩
          · rw [Nat.zero_add]; exact hcell
          · exact Sl.nil _ _
          · exact Nat.le_refl _
        | true =>
          rw [hth, if_pos rfl] at hcell
          rw [if_pos rfl]
          obtain ⟨c5, o5, q5, cp5, e5, -, hc5, hs5, hq5, hl5⟩ := HP12.out.at_ i (by rw [HLA.out]; exact hi)
          injection e5 with e5
          injection e5 with e51 e52
          subst e51 e52
          rw [Nat.zero_add] at hc5
          refine ⟨BT + 1, 0, q5, cp5, rfl, ?_, hs5.of_below hbr, hq5, hl5⟩
          rw [Nat.zero_add, hcell, HV.out]
          show some ((w12.cell? _).getD _) = _
          rw [hc5]; rfl)
      have HLSL := Lib.hid hlsl
      have HTLL := Lib.hid htll
      have HLSG := Lib.hid hlsg
      have HTLG := Lib.hid htlg
      have HSM := Lib.hid (show ∀ i, i < T → (ls.getD i []).length < 100000 from fun i hi => by
        rw [hlsg i hi]
        split
        · rw [HAL.out i hi]; omega
        · show 0 < _; omega)
      have HCC := Lib.hid (show (thereL ls tl).length = k by
        rw [there_len, hlsl, pick_congr (g := th) htlg, ← HCNTE.out, hcnt])
      have HEQ := Lib.hid (show eqB (thereL ls tl) = true from there_eq ls tl L fun i hi hf => by
        rw [hlsl] at hi
        rw [htlg i hi] at hf
        rw [hlsg i hi, if_pos hf, HAL.out i hi])
      have HALE := Lib.hid hAL
      clear hls htl hlsl htll hlsg htlg hbr hcnt hAL HRB HRL HBR HPG HCNT HCNTE HCK
      go_wp2_with fail
      refine (HS.out.dec b k m ls tl _ _ T T T T wr HCr.out HPL.out HBL.out HLSL.out HTLL.out (by omega) (by omega) HSM.out).mono ?_
      rintro e w14 ⟨r14, t14, rfl, hR14, hB14⟩
      have HB14 := Lib.hid (bel_step HBr.out hB14)
      have HP14 := Lib.hid (HPr.out.of_below hB14)
      have HR14 := Lib.hid hR14
      clear hR14 hB14
      rcases HR14.out with ⟨hno, rfl, rfl⟩ | ⟨-, ⟨hfew, rfl, rfl⟩ | ⟨hge, rfl, q14, c14, out, rfl, hcap, hp14, hdec⟩⟩
      · exact absurd ⟨by rw [HLSL.out, HTT.out], by rw [HTLL.out, HTT.out], HEQ.out⟩ hno
      · rw [HCC.out] at hfew
        exact absurd hfew (Nat.lt_irrefl _)
      · have hout : out = AL := by
          rw [HALE.out]
          refine dec_full hk1 (by have := HTT.out; omega) HEV.out hdec fun i hi hf => ?_
          have hiT : i < T := by have := HTT.out; omega
          rw [HTLG.out i hiT] at hf
          rw [HLSG.out i hiT, if_pos hf, HALE.out]
        subst hout
        have HQ14 := Lib.hid hp14
        have hsame : sameB out out = true := decide_eq_true rfl
        clear HR14 hdec hp14 hge hcap
        rw [← HTT.out]
        go_wp2_with fail
        refine (same4G out out q14 _ T T c14 c12 w14 HQ14.out HP14.out HLA.out HLA.out (by omega) (by omega)).mono ?_
        rintro e w15 ⟨rfl, hD15⟩
        have HB15 := Lib.hid (bel_dr HB14.out hD15)
        clear hD15
        go_wp2
        go_ret
        exact ⟨rfl, HB15.out⟩
end
end Go.Proofs.Ytphpliclecmnlaa
