/- The program's Sorted, Worst and Middle. -/
import Derived.Test.YtkkcphjielkmoaaStabF
import Derived.Test.YtkkcphjielkmoaaOwnE
set_option linter.unusedSimpArgs false
set_option linter.unusedVariables false
namespace Go.Proofs.Ytkkcphjielkmoaa
open Go Go.RowKit

/-- d is what a row of n in order holds of the list l. -/
structure InOrder (l : List Nat) (n : Nat) (d : Nat → Nat) : Prop where
  perm : ((List.range n).map d).Perm l
  srt : Srt rk d 0 n
  lt : ∀ x, x < n → d x < 18446744073709551616
theorem list_range (l : List Nat) (n : Nat) (h : l.length = n) : (List.range n).map (fun j => l.getD j 0) = l := by
  subst h
  apply List.ext_getElem
  · simp
  · intro i h1 h2
    simp [List.getD_eq_getElem?_getD, h2]
attribute [local go_sem ↓] exec_make
attribute [local go_sem] mkF
set_option maxHeartbeats 2000000 in
theorem sorted_any (l : List Nat) (p : Option Addr) (n cap : Nat) (w : World) (hl : l.length = n) (hs : Le fV w p l) (hb : ∀ x, x ∈ l → x < 18446744073709551616) (hn : n < 100000000) :
    Calls Try.prog 13 #[.slice p n cap] w fun e w' => ∃ g d, e = .returned (.slice (some ⟨g, 0, none⟩) n n) ∧ w.heap.size ≤ g ∧ Fr w' g n d ∧ InOrder l n d ∧ Below w.heap.size w w' := by
  have HL := Lib.hid hl
  have HS := Lib.hid hs
  have HBL := Lib.hid hb
  clear hl hs hb
  go_enter Try.func13, Try.ntmps13
  have HB1 := Lib.hid (show Below w.heap.size w (w.alloc (.cells (tab n (fun _ => .float .f64 0)) 24)) from (Below.refl _ _).alloc (Nat.le_refl _) _)
  have HR1 := Lib.hid (Row.new w 24 n (fun _ => .float .f64 0))
  go_wp2_with (first | (refine wpl_copyF _ rfl (.tmp 7) (.tmp 8) rfl w.heap.size n (fun _ => .float .f64 0) p n cap l rfl rfl HR1.out HL.out (HS.out.of_below HB1.out) ?_; rintro w2 hF2 hK2; have HF2 := Lib.hid hF2; have HK2 := Lib.hid hK2; clear hF2 hK2))
  go_wp2_with fail
  refine (stable_any w.heap.size n n _ w2 HF2.out (fun x hx => HBL.out _ (by rw [List.getD_eq_getElem?_getD, List.getElem?_eq_getElem (by rw [HL.out]; exact hx)]; exact List.getElem_mem _)) hn).mono ?_
  rintro e w3 ⟨rfl, d, hF3, hP3, hS3, hK3⟩
  have HF3 := Lib.hid hF3
  have HB3 := Lib.hid (show Below w.heap.size w w3 from HB1.out.trans ((HK2.out.trans hK3).below (Nat.le_refl _) (by rw [World.size_alloc]; omega)))
  have HO := Lib.hid (show InOrder l n d from ⟨by have := hP3.perm (Nat.le_refl n); rw [list_range l n HL.out] at this; exact this, hS3, fun x hx => hP3.any (P := (· < 18446744073709551616)) (Nat.le_refl n) (fun x hx => HBL.out _ (by rw [List.getD_eq_getElem?_getD, List.getElem?_eq_getElem (by rw [HL.out]; exact hx)]; exact List.getElem_mem _)) x hx⟩)
  clear hF3 hP3 hS3 hK3 HF2 HK2 HR1 HB1 HS HBL
  go_wp2
  go_ret
  exact ⟨w.heap.size, d, rfl, Nat.le_refl _, HF3.out, HO.out, HB3.out⟩
set_option maxHeartbeats 2000000 in
theorem worst_any (l : List Nat) (p : Option Addr) (n cap : Nat) (w : World) (hl : l.length = n) (hs : Le fV w p l) (hb : ∀ x, x ∈ l → x < 18446744073709551616) (hn : n < 100000000) (h0 : 0 < n) :
    Calls Try.prog 16 #[.slice p n cap] w fun e w' => ∃ d, e = .returned (.float .f64 (d 0)) ∧ InOrder l n d ∧ Below w.heap.size w w' := by
  have HQ := Lib.hid (sorted_any l p n cap w hl hs hb hn)
  have hz : ((n : Int) == 0) = false := by simp; omega
  have hz2 : (0 : Int) < (n : Int) := by omega
  clear hl hs hb
  go_enter Try.func16, Try.ntmps16
  go_wp2_with fail
  refine HQ.out.mono ?_
  rintro e w1 ⟨g, d, rfl, hg, hF, hO, hB⟩
  have x1 := hF.cell 0 h0
  have HO := Lib.hid hO
  have HB := Lib.hid hB
  have HD := Lib.hid (show d 0 = d 0 from rfl)
  clear hF hO hB
  go_wp2
  go_ret
  exact ⟨d, rfl, HO.out, HB.out⟩
set_option maxHeartbeats 2000000 in
theorem middle_any (l : List Nat) (p : Option Addr) (n cap : Nat) (w : World) (hl : l.length = n) (hs : Le fV w p l) (hb : ∀ x, x ∈ l → x < 18446744073709551616) (hn : n < 100000000) (h0 : 0 < n) :
    Calls Try.prog 17 #[.slice p n cap] w fun e w' => ∃ d, e = .returned (.float .f64 (d (n / 2))) ∧ InOrder l n d ∧ Below w.heap.size w w' := by
  have HQ := Lib.hid (sorted_any l p n cap w hl hs hb hn)
  have hz : ((n : Int) == 0) = false := by simp; omega
  obtain ⟨h, hh⟩ : ∃ h, h = n / 2 := ⟨_, rfl⟩
  have hq0 : (n : Int) / 2 = (h : Int) := by omega
  have hq : (n : Int).tdiv 2 = (h : Int) := by rw [Int.tdiv_eq_ediv_of_nonneg (by omega)]; exact hq0
  have hz2 : (h : Int) < (n : Int) := by omega
  have hz3 : h < n := by omega
  rw [← hh]
  clear hl hs hb hh
  go_enter Try.func17, Try.ntmps17
  go_wp2_with fail
  refine HQ.out.mono ?_
  rintro e w1 ⟨g, d, rfl, hg, hF, hO, hB⟩
  have x1 := hF.cell h hz3
  have HO := Lib.hid hO
  have HB := Lib.hid hB
  clear hF hO hB
  go_wp2
  go_ret
  exact ⟨d, rfl, HO.out, HB.out⟩
theorem worst_none (w : World) : Calls Try.prog 16 #[.slice none 0 0] w fun e w' => e = .returned (.float .f64 9221120237041090561) ∧ w = w' := by
  have HQ := Lib.hid (nan_any w)
  go_enter Try.func16, Try.ntmps16
  go_wp2_with fail
  refine HQ.out.mono ?_
  rintro e w1 ⟨rfl, rfl⟩
  go_wp2
  go_ret
  exact ⟨rfl, rfl⟩
theorem middle_none (w : World) : Calls Try.prog 17 #[.slice none 0 0] w fun e w' => e = .returned (.float .f64 9221120237041090561) ∧ w = w' := by
  have HQ := Lib.hid (nan_any w)
  go_enter Try.func17, Try.ntmps17
  go_wp2_with fail
  refine HQ.out.mono ?_
  rintro e w1 ⟨rfl, rfl⟩
  go_wp2
  go_ret
  exact ⟨rfl, rfl⟩
end Go.Proofs.Ytkkcphjielkmoaa
