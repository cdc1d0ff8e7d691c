/- What layer 3's statements and reference ask of rows: few, the same, a matrix, the unit. -/
import Derived.Test.YtfilicbbkaifcaaPrt
import Derived.Test.YtfilicbbkaifcaaMat
import Derived.Deep.QuietTactic
import Derived.BigQuiet
import Derived.Deep.RegionHeld3
set_option linter.unusedSimpArgs false
set_option linter.unusedVariables false
namespace Go.Proofs.Ytfilicbbkaifcaa
open Go Go.RowKit

theorem Prt.at_ {w : World} {p : Option Addr} {ls : List (List (BitVec 8))} (h : Prt w p ls) (i : Nat) (hi : i < ls.length) :
    ∃ c o q cap, p = some ⟨c, o, none⟩ ∧ c < w.heap.size ∧ w.cell? ⟨c, o + i, none⟩ = some (.slice q (ls.getD i []).length cap) ∧ Sl w q (ls.getD i []) ∧ (q = none → cap = 0) ∧ (ls.getD i []).length ≤ cap := by
  obtain ⟨c, o, q, cap, h1, h2, h3⟩ := h i hi
  exact ⟨c, o, q, cap, h1, World.block_lt_of_cell? w _ h2, h2, h3⟩
/-- No more than five rows of no more than five bytes. -/
def fewB (ls : List (List (BitVec 8))) : Bool := decide (ls.length ≤ 5 ∧ ∀ i, i < ls.length → (ls.getD i []).length ≤ 5)
set_option maxHeartbeats 1000000 in
theorem few_any (ls : List (List (BitVec 8))) (p : Option Addr) (n cap : Nat) (w : World) (hs : Prt w p ls) (hl : ls.length = n) (hn : n < 9223372036854775808) :
    Calls Try.prog 9 #[.slice p n cap] w fun e w' => e = .returned (.bool (fewB ls)) ∧ w = w' := by
  have HS := Lib.hid hs
  have HL := Lib.hid hl
  clear hs hl
  go_enter Try.func9, Try.ntmps9
  go_wp2
  go_loop [7] (fun i => ∃ k : Nat, k ≤ n ∧ i = .int .i64 k ∧ ∀ i, i < k → (ls.getD i []).length ≤ 5) (fun i => n - (intOf i).toNat)
  case atStart => exact ⟨0, Nat.zero_le _, rfl, fun i hi => absurd hi (by omega)⟩
  case round =>
    obtain ⟨k, hk, rfl, hall⟩ := hrel
    have HALL := Lib.hid hall
    clear hall
    by_cases hlt : k < n
    · obtain ⟨c, o, q, cap', rfl, _, hc, _⟩ := HS.out.at_ k (by rw [HL.out]; exact hlt)
      have hd0 : decide ((k : Int) < (n : Int)) = true := decide_eq_true (by omega)
      have hl0 : (k : Int) < (n : Int) := by omega
      generalize hm : (ls.getD k []).length = m at *
      have HM := Lib.hid hm
      clear hm
      by_cases h5 : 5 < m
      · have hd1 : decide ((5 : Int) < (m : Int)) = true := decide_eq_true (by omega)
        have hf : Hid (fewB ls = false) := decide_eq_false fun ⟨_, h⟩ => by have := h k (by rw [HL.out]; exact hlt); rw [HM.out] at this; omega
        go_wp2
        go_ret
        exact ⟨by rw [hf.out]; rfl, rfl⟩
      · have hd1 : decide ((5 : Int) < (m : Int)) = false := decide_eq_false (by omega)
        go_wp2
        go_round
        case rel =>
          refine ⟨k + 1, by omega, by go_num, fun i hi => ?_⟩
          rcases Nat.lt_or_ge i k with h | h
          · exact HALL.out i h
          · obtain rfl : i = k := by omega
            rw [HM.out]; omega
        case measure => simp [intOf]; omega
    · have hd0 : decide ((k : Int) < (n : Int)) = false := decide_eq_false (by omega)
      obtain rfl : k = n := by omega
      have hf : Hid (fewB ls = decide ((k : Int) ≤ 5)) := by
        show fewB ls = decide ((k : Int) ≤ 5)
        unfold fewB
        rw [decide_eq_decide, HL.out]
        exact ⟨fun h => by omega, fun h => ⟨by omega, HALL.out⟩⟩
      go_wp2
      go_ret
      exact ⟨by rw [hf.out]; rfl, rfl⟩
theorem strOf_inj {l m : List (BitVec 8)} (h : strOf l = strOf m) : l = m := by
  unfold strOf at h
  injection h with h
  have h2 : l.map UInt8.ofBitVec = m.map UInt8.ofBitVec := by simpa using h
  exact List.map_inj_right (fun a b e => by injection e) |>.1 h2
theorem str_list (l : List (BitVec 8)) : (strOf l).toList = l.map UInt8.ofBitVec := by
  rw [ByteArray.toList_eq]; simp [strOf]
theorem str_ne (l m : List (BitVec 8)) (h : l ≠ m) : ((strOf l).toList == (strOf m).toList) = false := by
  rw [beq_eq_false_iff_ne, str_list, str_list]
  intro e
  exact h (List.map_inj_right (fun a b e => by injection e) |>.1 e)
def sameB (la lb : List (List (BitVec 8))) : Bool := decide (la = lb)
theorem rows_ext {la lb : List (List (BitVec 8))} (hl : la.length = lb.length) (h : ∀ i, i < la.length → la.getD i [] = lb.getD i []) : la = lb := by
  apply List.ext_getElem hl
  intro i h1 h2
  have := h i h1
  simpa [List.getD_eq_getElem?_getD, h1, h2] using this
set_option maxHeartbeats 1000000 in
theorem same_odd (p q : Option Addr) (n m c d : Nat) (w : World) (hn : n < 9223372036854775808) (hm : m < 9223372036854775808) (h : n ≠ m) :
    Calls Try.prog 13 #[.slice p n c, .slice q m d] w fun e w' => e = .returned (.bool false) ∧ w = w' := by
  have hd : ((n : Int) != (m : Int)) = true := by simp; omega
  have hd2 : ((n : Int) == (m : Int)) = false := by simp; omega
  have hd3 : decide (n = m) = false := by simp; omega
  clear h
  go_enter Try.func13, Try.ntmps13
  go_wp2
  go_ret
  exact ⟨rfl, rfl⟩
set_option maxHeartbeats 2000000 in
theorem same_any (la lb : List (List (BitVec 8))) (p q : Option Addr) (n c d : Nat) (w : World) (ha : Prt w p la) (hb : Prt w q lb) (hla : la.length = n) (hlb : lb.length = n) (hn : n < 9223372036854775808) :
    Calls Try.prog 13 #[.slice p n c, .slice q n d] w fun e w' => e = .returned (.bool (sameB la lb)) ∧ Dr w w' := by
  have HA := Lib.hid ha
  have HB := Lib.hid hb
  have HLA := Lib.hid hla
  have HLB := Lib.hid hlb
  clear ha hb hla hlb
  go_enter Try.func13, Try.ntmps13
  go_wp2
  go_loopw [13] (fun i wr => ∃ k : Nat, k ≤ n ∧ i = .int .i64 k ∧ (∀ i, i < k → la.getD i [] = lb.getD i []) ∧ Dr w wr) (fun i _ => n - (intOf i).toNat)
  case atStart => exact ⟨0, Nat.zero_le _, rfl, fun i hi => absurd hi (by omega), Dr.refl _⟩
  case round =>
    obtain ⟨k, hk, rfl, hall, hD⟩ := hrel
    have HALL := Lib.hid hall
    have HD := Lib.hid hD
    clear hall
    by_cases hlt : k < n
    · obtain ⟨c1, o1, q1, cap1, rfl, _, hc1, hs1, hq1, _⟩ := HA.out.at_ k (by rw [HLA.out]; exact hlt)
      obtain ⟨c2, o2, q2, cap2, rfl, _, hc2, hs2, hq2, _⟩ := HB.out.at_ k (by rw [HLB.out]; exact hlt)
      have hx1 : wr.cell? ⟨c1, o1 + k, none⟩ = some (.slice q1 (la.getD k []).length cap1) := by rw [hD.cell]; exact hc1
      have hx2 : wr.cell? ⟨c2, o2 + k, none⟩ = some (.slice q2 (lb.getD k []).length cap2) := by rw [hD.cell]; exact hc2
      have hv1 := conv_str wr.drew q1 _ _ cap1 (hs1.dr hD.drew) rfl hq1
      have hv2 := conv_str wr.drew q2 _ _ cap2 (hs2.dr hD.drew) rfl hq2
      have hd0 : decide ((k : Int) < (n : Int)) = true := decide_eq_true (by omega)
      have hl0 : (k : Int) < (n : Int) := by omega
      have hkn : k < la.length := by rw [HLA.out]; exact hlt
      have HKN := Lib.hid hkn
      clear hD hc1 hc2 hs1 hs2 hq1 hq2 hkn
      generalize hu : la.getD k [] = u at *
      generalize hz : lb.getD k [] = z at *
      have HU := Lib.hid hu
      have HZ := Lib.hid hz
      clear hu hz
      by_cases he : u = z
      · rw [show strOf z = strOf u by rw [he]] at hv2
        have HE := Lib.hid he
        clear he
        go_wp2
        go_region_held3 (fun w' : World => w'.cell? ⟨c1, o1 + k, none⟩ = some (.slice q1 u.length cap1) ∧ w'.cell? ⟨c2, o2 + k, none⟩ = some (.slice q2 z.length cap2) ∧ (convert 35 9 (.slice q1 u.length cap1)).run Try.prog w' = .ok (.string (strOf u)) w' ∧ (convert 35 9 (.slice q2 z.length cap2)).run Try.prog w' = .ok (.string (strOf u)) w') (exact ⟨hx1, hx2, hv1, hv2⟩) (fail)
        go_wp2
        go_roundw
        case rel =>
          refine ⟨k + 1, by omega, by go_num, fun i hi => ?_, HD.out.drew⟩
          rcases Nat.lt_or_ge i k with h | h
          · exact HALL.out i h
          · obtain rfl : i = k := by omega
            rw [HU.out, HZ.out, HE.out]
        case measure => simp [intOf]; omega
      · have hb := str_ne u z he
        have hf : Hid (sameB la lb = false) := decide_eq_false fun e => he (by rw [← HU.out, ← HZ.out, e])
        clear he
        go_wp2
        go_region_held3 (fun w' : World => w'.cell? ⟨c1, o1 + k, none⟩ = some (.slice q1 u.length cap1) ∧ w'.cell? ⟨c2, o2 + k, none⟩ = some (.slice q2 z.length cap2) ∧ (convert 35 9 (.slice q1 u.length cap1)).run Try.prog w' = .ok (.string (strOf u)) w' ∧ (convert 35 9 (.slice q2 z.length cap2)).run Try.prog w' = .ok (.string (strOf z)) w') (exact ⟨hx1, hx2, hv1, hv2⟩) (fail)
        go_wp2
        go_ret
        exact ⟨by rw [hf.out]; rfl, HD.out.drew⟩
    · have hd0 : decide ((k : Int) < (n : Int)) = false := decide_eq_false (by omega)
      have hf : Hid (sameB la lb = true) := decide_eq_true (rows_ext (by rw [HLA.out, HLB.out]) fun i hi => HALL.out i (by rw [HLA.out] at hi; omega))
      clear hD
      go_wp2
      go_ret
      exact ⟨by rw [hf.out]; rfl, HD.out⟩
end Go.Proofs.Ytfilicbbkaifcaa
