/- Merged texts: Ask, Good, FAdd, Field, FDiv, Scale, Gd, Two, Prod, Elim, CopyB, Beside, InvM, Invert, InvNo, New, Cauchy, Ref4, Par4, Steps, CutM. -/
import Derived.Lib.Walk
import Derived.Shelf.Abstract
import Derived.Test.YtkfceloaomlhmaaDoorPerm
import Derived.Test.YtkfceloaomlhmaaDoorRows
import Derived.Deep.QuietTactic
import Derived.BigQuiet
import Derived.Deep.RegionWith
import Derived.Deep.LoopGhost
import Derived.Test.YtkfceloaomlhmaaDoorBase
import Derived.Test.YtkfceloaomlhmaaDoorGf
import Derived.Test.YtkfceloaomlhmaaDoorStores
import Derived.Test.YtkfceloaomlhmaaDoorUpto
import Derived.Deep.RegionHeld3
import Derived.StillTailTactics
import Derived.Test.YtkfceloaomlhmaaDoorMp
import Derived.Test.YtkfceloaomlhmaaDoorRows3
import Derived.Deep.RegionLaw
import Derived.Laws.CopyOwn
import Derived.Test.YtkfceloaomlhmaaDoorBytes
import Derived.BigRegion
import Derived.Test.YtkfceloaomlhmaaDoorCuts
import Derived.Test.YtkfceloaomlhmaaDoorRefC
set_option linter.unusedSimpArgs false
set_option linter.unusedVariables false
/- What the program asks of rows: permitted, equally long, a matrix, the same. -/
set_option maxRecDepth 100000
namespace Go.Proofs.YtkfceloaomlhmaaDoor
open Go Go.RowKit

/-- The first of n places at which a predicate holds. -/
def Hit (f : Nat → Bool) (n k : Nat) : Prop := k < n ∧ f k = true ∧ ∀ j, j < k → f j = false
def Miss (f : Nat → Bool) (n : Nat) : Prop := ∀ j, j < n → f j = false
theorem hit_or (f : Nat → Bool) (n : Nat) : (∃ k, Hit f n k) ∨ Miss f n := by
  induction n with
  | zero => exact .inr fun j hj => by omega
  | succ n ih =>
    rcases ih with ⟨k, h1, h2⟩ | h
    · exact .inl ⟨k, by omega, h2⟩
    · cases e : f n with
      | true => exact .inl ⟨n, by omega, e, h⟩
      | false =>
        refine .inr fun j hj => ?_
        rcases Nat.lt_or_ge j n with h1 | h1
        · exact h j h1
        · obtain rfl : j = n := by omega
          exact e
/-- The world is that at the start but for draws: here it is that very world. -/
def Asks (g : Nat) (lb : Array Value) (ls : List (List (BitVec 8))) (f : Nat → Bool) (w : World) : Prop :=
  ∀ k, k < ls.length → ∀ q cap, Sl w q (ls.getD k []) → Calls Tryd.prog g (#[.slice q (ls.getD k []).length cap] ++ lb) w fun e w' => e = .returned (.bool (f k)) ∧ w = w'
set_option maxHeartbeats 2000000 in
theorem index_hit (g : Nat) (lb : Array Value) (eg : ∀ args w, (callFunc g args).run Tryd.prog w = .ok (.enter g args) w) (ls : List (List (BitVec 8))) (f : Nat → Bool) (p : Option Addr) (n cap t : Nat) (w : World) (hp : Asks g lb ls f w) (hs : Prt w p ls) (hl : ls.length = n) (hn : n < 4294967296)
    (ht : Hit f n t) : Calls Tryd.prog 61 #[.slice p n cap, .func (.func g) #[] lb] w fun e w' => e = .returned (.int .i64 (t : Int)) ∧ w = w' := by
  have HP := Lib.hid hp
  have HS := Lib.hid hs
  have HL := Lib.hid hl
  have HT := Lib.hid ht
  clear hp hs hl ht
  go_enter Tryd.func61, Tryd.ntmps61
  go_wp2
  go_loop [5, 8] (fun _ i => ∃ k : Nat, k ≤ t ∧ i = .int .i64 k) (fun _ i => n - (intOf i).toNat)
  case atStart => exact ⟨0, Nat.zero_le _, rfl⟩
  case round =>
    obtain ⟨k, hk, rfl⟩ := hrel
    have htn := HT.out.1
    have hlt : k < n := by omega
    have hltz : (k : Int) < (n : Int) := by omega
    have hd0 : decide ((k : Int) < (n : Int)) = true := decide_eq_true hltz
    obtain ⟨c, o, q, cap', rfl, -, hc, hsl, -⟩ := HS.out.at_ k (by rw [HL.out]; exact hlt)
    have hcall := HP.out k (by rw [HL.out]; exact hlt) q cap' hsl
    clear hsl
    generalize (ls.getD k []).length = m at *
    by_cases he : k = t
    · rw [show f k = true by rw [he]; exact HT.out.2.1] at hcall
      have HE := Lib.hid he
      clear he
      have HC := Lib.hid hcall
      clear hcall
      go_wp2_with fail
      refine HC.out.mono ?_
      rintro e w' ⟨rfl, rfl⟩
      go_wp2
      go_ret
      exact ⟨by rw [← HE.out]; rfl, rfl⟩
    · rw [show f k = false from HT.out.2.2 k (by omega)] at hcall
      have HC := Lib.hid hcall
      clear hcall
      go_wp2_with fail
      refine HC.out.mono ?_
      rintro e w' ⟨rfl, rfl⟩
      go_wp2
      go_round
      case rel => exact ⟨k + 1, by omega, by go_num⟩
      case measure => simp [intOf]; omega
set_option maxHeartbeats 2000000 in
theorem index_miss (g : Nat) (lb : Array Value) (eg : ∀ args w, (callFunc g args).run Tryd.prog w = .ok (.enter g args) w) (ls : List (List (BitVec 8))) (f : Nat → Bool) (p : Option Addr) (n cap : Nat) (w : World) (hp : Asks g lb ls f w) (hs : Prt w p ls) (hl : ls.length = n) (hn : n < 9223372036854775808)
    (ht : Miss f n) : Calls Tryd.prog 61 #[.slice p n cap, .func (.func g) #[] lb] w fun e w' => e = .returned (.int .i64 (-1)) ∧ w = w' := by
  have HP := Lib.hid hp
  have HS := Lib.hid hs
  have HL := Lib.hid hl
  have HT := Lib.hid ht
  clear hp hs hl ht
  go_enter Tryd.func61, Tryd.ntmps61
  go_wp2
  go_loop [5, 8] (fun _ i => ∃ k : Nat, k ≤ n ∧ i = .int .i64 k) (fun _ i => n - (intOf i).toNat)
  case atStart => exact ⟨0, Nat.zero_le _, rfl⟩
  case round =>
    obtain ⟨k, hk, rfl⟩ := hrel
    by_cases hlt : k < n
    · have hltz : (k : Int) < (n : Int) := by omega
      have hd0 : decide ((k : Int) < (n : Int)) = true := decide_eq_true hltz
      obtain ⟨c, o, q, cap', rfl, -, hc, hsl, -⟩ := HS.out.at_ k (by rw [HL.out]; exact hlt)
      have hcall := HP.out k (by rw [HL.out]; exact hlt) q cap' hsl
      clear hsl
      generalize (ls.getD k []).length = m at *
      rw [show f k = false from HT.out k hlt] at hcall
      have HC := Lib.hid hcall
      clear hcall
      go_wp2_with fail
      refine HC.out.mono ?_
      rintro e w' ⟨rfl, rfl⟩
      go_wp2
      go_round
      case rel => exact ⟨k + 1, by omega, by go_num⟩
      case measure => simp [intOf]; omega
    · have hd0 : decide ((k : Int) < (n : Int)) = false := decide_eq_false (by omega)
      go_wp2
      go_ret
      exact ⟨rfl, rfl⟩
end Go.Proofs.YtkfceloaomlhmaaDoor
/- The program's Good and Same. -/
set_option maxRecDepth 100000
namespace Go.Proofs.YtkfceloaomlhmaaDoor
open Go Go.RowKit

section
variable (g : Nat) (lb : Array Value) (eg : ∀ args w, (callFunc g args).run Tryd.prog w = .ok (.enter g args) w) (ls : List (List (BitVec 8))) (f : Nat → Bool) (p : Option Addr) (n cap : Nat) (w : World) (hp : Asks g lb ls f w) (hs : Prt w p ls) (hl : ls.length = n) (hn : n < 4294967296)
include eg hp hs hl hn
theorem contains_hit (t : Nat) (ht : Hit f n t) : Calls Tryd.prog 54 #[.slice p n cap, .func (.func g) #[] lb] w fun e w' => e = .returned (.bool true) ∧ w = w' := by
  have HC := Lib.hid (index_hit g lb eg ls f p n cap t w hp hs hl hn ht)
  clear hp hs hl ht
  go_enter Tryd.func54, Tryd.ntmps54
  go_wp2_with fail
  refine HC.out.mono ?_
  rintro e w' ⟨rfl, rfl⟩
  have hd : decide ((0 : Int) ≤ (t : Int)) = true := decide_eq_true (by omega)
  go_wp2
  go_ret
  exact ⟨rfl, rfl⟩
theorem contains_miss (ht : Miss f n) : Calls Tryd.prog 54 #[.slice p n cap, .func (.func g) #[] lb] w fun e w' => e = .returned (.bool false) ∧ w = w' := by
  have HC := Lib.hid (index_miss g lb eg ls f p n cap w hp hs hl (by omega) ht)
  clear hp hs hl ht
  go_enter Tryd.func54, Tryd.ntmps54
  go_wp2_with fail
  refine HC.out.mono ?_
  rintro e w' ⟨rfl, rfl⟩
  go_wp2
  go_ret
  exact ⟨rfl, rfl⟩
end
theorem enters_eq : ∀ args w, (callFunc 55 args).run Tryd.prog w = .ok (.enter 55 args) w := enters_of Tryd.func55 (by kernel_rfl) rfl
theorem long_any (b c o n m m0 cap cap0 cap1 : Nat) (q q0 : Option Addr) (w : World) (h1 : w.cell? ⟨b, 0, none⟩ = some (.slice (some ⟨c, o, none⟩) n cap)) (h2 : w.cell? ⟨c, o, none⟩ = some (.slice q0 m0 cap0)) (hn : 0 < n) :
    Calls Tryd.prog 55 #[.slice q m cap1, .pointer (some ⟨b, 0, none⟩)] w fun e w' => e = .returned (.bool (decide (m ≠ m0))) ∧ w = w' := by
  have hn0 : (0 : Int) < (n : Int) := by omega
  by_cases h : m = m0
  · have hb : ((m : Int) != (m0 : Int)) = false := by simp; omega
    have hf : Hid (decide (m ≠ m0) = false) := decide_eq_false fun e => e h
    clear h
    go_enter Tryd.func55, Tryd.ntmps55
    go_wp2
    go_ret
    exact ⟨by rw [hf.out]; rfl, rfl⟩
  · have hb : ((m : Int) != (m0 : Int)) = true := by simp; omega
    have hb2 : ((m : Int) == (m0 : Int)) = false := by simp; omega
    have hb3 : decide (m = m0) = false := decide_eq_false h
    have hf : Hid (decide (m ≠ m0) = true) := decide_eq_true h
    clear h
    go_enter Tryd.func55, Tryd.ntmps55
    go_wp2
    go_ret
    exact ⟨by rw [hf.out]; rfl, rfl⟩
/-- All rows are as long as the first. -/
def eqB (ls : List (List (BitVec 8))) : Bool := decide (∀ i, i < ls.length → (ls.getD i []).length = (ls.getD 0 []).length)
theorem Good.eq {ls : List (List (BitVec 8))} {n m : Nat} (h : Good ls n m) : eqB ls = true := decide_eq_true fun i hi => by rw [h.head]; exact h.rows i (by rw [← h.len]; exact hi)
def oddB (ls : List (List (BitVec 8))) (k : Nat) : Bool := decide ((ls.getD k []).length ≠ (ls.getD 0 []).length)
theorem eq_long_any (ls : List (List (BitVec 8))) (p : Option Addr) (n cap : Nat) (w : World) (hs : Prt w p ls) (hl : ls.length = n) (hn : n < 4294967296) :
    Calls Tryd.prog 50 #[.slice p n cap] w fun e w' => e = .returned (.bool (eqB ls)) ∧ Below w.heap.size w w' := by
  have hB : Below w.heap.size w (w.alloc (.cells #[.slice p n cap] 42)) := (Below.refl _ _).alloc (Nat.le_refl _) _
  have hask : Asks 55 #[.pointer (some ⟨w.heap.size, 0, none⟩)] ls (oddB ls) (w.alloc (.cells #[.slice p n cap] 42)) := by
    intro k hk q cap' hsl
    obtain ⟨c, o, q0, cap0, rfl, hc0, hc, -, -⟩ := hs.at_ 0 (by omega)
    rw [Nat.add_zero] at hc
    exact long_any w.heap.size c o n _ _ cap cap0 cap' q q0 _ (by rw [World.cell?_alloc_new]; rfl) (by rw [hB.cell (by exact hc0)]; exact hc) (by omega)
  have hs' := hs.of_below hB
  have HB := Lib.hid hB
  have HA := Lib.hid hask
  have HS := Lib.hid hs'
  have HL := Lib.hid hl
  rcases hit_or (oddB ls) n with ⟨t, ht⟩ | ht
  · have hf : Hid (eqB ls = false) := decide_eq_false fun h => by
      have h1 := ht.2.1
      exact of_decide_eq_true h1 (h t (by rw [hl]; exact ht.1))
    have HT := Lib.hid ht
    clear ht hs hl hB hask hs'
    go_enter Tryd.func50, Tryd.ntmps50
    go_wp2_with fail
    refine (contains_hit _ _ enters_eq ls (oddB ls) p n cap _ HA.out HS.out HL.out hn t HT.out).mono ?_
    rintro e w' ⟨rfl, rfl⟩
    go_wp2
    go_ret
    exact ⟨by rw [hf.out]; rfl, HB.out⟩
  · have hf : Hid (eqB ls = true) := decide_eq_true fun i hi => Decidable.byContradiction fun e => by
      have h1 := ht i (by omega)
      exact of_decide_eq_false h1 e
    have HT := Lib.hid ht
    clear ht hs hl hB hask hs'
    go_enter Tryd.func50, Tryd.ntmps50
    go_wp2_with fail
    refine (contains_miss _ _ enters_eq ls (oddB ls) p n cap _ HA.out HS.out HL.out hn HT.out).mono ?_
    rintro e w' ⟨rfl, rfl⟩
    go_wp2
    go_ret
    exact ⟨by rw [hf.out]; rfl, HB.out⟩
theorem goodB_false (ls : List (List (BitVec 8))) (h : ¬ (permB (ls.length : Int) = true ∧ permB ((ls.getD 0 []).length : Int) = true ∧ eqB ls = true)) : goodB ls = false := decide_eq_false fun g => h
  ⟨decide_eq_true ⟨by omega, by omega⟩, decide_eq_true ⟨by omega, by omega⟩, decide_eq_true g.2.2.2.2⟩
theorem goodB_true (ls : List (List (BitVec 8))) (h1 : permB (ls.length : Int) = true) (h2 : permB ((ls.getD 0 []).length : Int) = true) (h3 : eqB ls = true) : goodB ls = true := by
  have g1 := of_decide_eq_true h1
  have g2 := of_decide_eq_true h2
  exact decide_eq_true ⟨by omega, by omega, by omega, by omega, of_decide_eq_true h3⟩
set_option maxHeartbeats 1000000 in
theorem good_any (ls : List (List (BitVec 8))) (p : Option Addr) (n cap : Nat) (w : World) (hs : Prt w p ls) (hl : ls.length = n) (hn : n < 4294967296) :
    Calls Tryd.prog 49 #[.slice p n cap] w fun e w' => e = .returned (.bool (goodB ls)) ∧ Below w.heap.size w w' := by
  have HS := Lib.hid hs
  have HL := Lib.hid hl
  by_cases h1 : permB (n : Int) = true
  · have hn1 := of_decide_eq_true h1
    obtain ⟨c, o, q, cap0, rfl, -, hc, -, -⟩ := hs.at_ 0 (by omega)
    rw [Nat.add_zero] at hc
    have hi0 : (0 : Int) < (n : Int) := by omega
    generalize hm : (ls.getD 0 []).length = m at *
    have HM := Lib.hid hm
    by_cases h2 : permB (m : Int) = true
    · have HE := Lib.hid (eq_long_any ls _ n cap w hs hl hn)
      have hf : Hid (goodB ls = eqB ls) := by
        show goodB ls = eqB ls
        cases e : eqB ls with
        | true => exact goodB_true ls (by rw [hl]; exact h1) (by rw [hm]; exact h2) e
        | false => exact goodB_false ls fun h => by rw [h.2.2] at e; cases e
      clear hs hl hm hn1
      go_enter Tryd.func49, Tryd.ntmps49
      go_wp2_with fail
      refine (permitted_any _ w).mono ?_
      rintro e w' ⟨rfl, rfl⟩
      go_wp2_with fail
      refine (permitted_any _ w).mono ?_
      rintro e w' ⟨rfl, rfl⟩
      go_wp2_with fail
      refine HE.out.mono ?_
      rintro e w' ⟨rfl, hB⟩
      go_wp2
      go_ret
      exact ⟨by rw [hf.out]; rfl, hB⟩
    · have hf : Hid (goodB ls = false) := goodB_false ls fun h => h2 (by rw [← hm]; exact h.2.1)
      have h2' : permB (m : Int) = false := by simpa using h2
      clear hs hl hm h2 hn1
      go_enter Tryd.func49, Tryd.ntmps49
      go_wp2_with fail
      refine (permitted_any _ w).mono ?_
      rintro e w' ⟨rfl, rfl⟩
      go_wp2_with fail
      refine (permitted_any _ w).mono ?_
      rintro e w' ⟨rfl, rfl⟩
      go_wp2
      go_ret
      exact ⟨by rw [hf.out]; rfl, Below.refl _ _⟩
  · have hf : Hid (goodB ls = false) := goodB_false ls fun h => h1 (by rw [← hl]; exact h.1)
    have h1' : permB (n : Int) = false := by simpa using h1
    clear hs hl h1
    go_enter Tryd.func49, Tryd.ntmps49
    go_wp2_with fail
    refine (permitted_any _ w).mono ?_
    rintro e w' ⟨rfl, rfl⟩
    go_wp2
    go_ret
    exact ⟨by rw [hf.out]; rfl, Below.refl _ _⟩
end Go.Proofs.YtkfceloaomlhmaaDoor
/- The program's field: sums of any number of bytes. -/
set_option maxRecDepth 100000
namespace Go.Proofs.YtkfceloaomlhmaaDoor
open Go Go.RowKit

/-- The sum of all. -/
def sm (l : List (BitVec 8)) : BitVec 8 := l.foldl (· ^^^ ·) 0#8
theorem sm_snoc (l : List (BitVec 8)) (x : BitVec 8) : sm (l ++ [x]) = sm l ^^^ x := by simp [sm]
set_option maxHeartbeats 1000000 in
theorem add_any (f : Value) (l : List (BitVec 8)) (p : Option Addr) (n cap : Nat) (w : World) (hs : Sl w p l) (hl : l.length = n) (hn : n < 4294967296) :
    Calls Tryd.prog 48 #[f, .slice p n cap] w fun e w' => e = .returned (B (sm l)) ∧ Dr w w' := by
  have HS := Lib.hid hs
  have HL := Lib.hid hl
  clear hs hl
  go_enter Tryd.func48, Tryd.ntmps48
  go_wp2
  go_loopw [5, 10] (fun r i wr => ∃ k : Nat, k ≤ n ∧ i = .int .i64 k ∧ r = B (sm (l.take k)) ∧ Dr w wr) (fun _ i _ => n - (intOf i).toNat)
  case atStart => exact ⟨0, Nat.zero_le _, rfl, by simp [sm, B_0], Dr.refl _⟩
  case round =>
    obtain ⟨k, hk, rfl, rfl, hD⟩ := hrel
    have HD := Lib.hid hD
    by_cases hlt : k < n
    · obtain ⟨c, o, rfl, hc⟩ := HS.out k (by rw [HL.out]; exact hlt)
      have hx : wr.cell? ⟨c, o + k, none⟩ = some (B (l.getD k 0#8)) := by rw [hD.cell]; exact hc
      have hT := Lib.hid (take_getD l 0#8 k (by rw [HL.out]; exact hlt))
      have hd0 : decide ((k : Int) < (n : Int)) = true := decide_eq_true (by omega)
      have hl0 : (k : Int) < (n : Int) := by omega
      generalize l.getD k 0#8 = x at *
      clear hD hc
      go_wp2
      go_roundw
      case rel => exact ⟨k + 1, by omega, by go_num, by rw [hT.out, sm_snoc], HD.out⟩
      case measure => simp [intOf]; omega
    · have hd0 : decide ((k : Int) < (n : Int)) = false := decide_eq_false (by omega)
      have he : Hid (l.take k = l) := by show l.take k = l; exact List.take_of_length_le (by rw [HL.out]; omega)
      clear hD
      go_wp2
      go_ret
      exact ⟨by rw [he.out]; rfl, HD.out⟩
end Go.Proofs.YtkfceloaomlhmaaDoor
/- The program's field: its tables in memory, products, quotients and powers. -/
set_option maxRecDepth 100000
namespace Go.Proofs.YtkfceloaomlhmaaDoor
open Go Go.RowKit

theorem ixA (a : Addr) (x : BitVec 8) (w : World) : (Instr.indexAt 91 (.pointer (some a)) (B x)).run Tryd.prog w = .ok (.pointer (some (a.add x.toNat))) w :=
  run_indexAt_B 91 3 256 a x (by kernel_rfl) x.isLt (by kernel_rfl)
attribute [local go_sem] ixA
/-- The cells of a field behind n powers. -/
def fldN (n i : Nat) : Value := if i < 255 then (if i < n then B (pw i) else B 0#8) else .int .i64 ((if lgs.getD (i - 255) 0 < n then lgs.getD (i - 255) 0 else 0 : Nat) : Int)
/-- Block b is a field. -/
def Fld (w : World) (b : Nat) : Prop := Row w b 93 511 (fldN 255)
theorem Fld.lt {w : World} {b : Nat} (h : Fld w b) : b < w.heap.size := Row.lt h
theorem Fld.pow {w : World} {b : Nat} (h : Fld w b) (n : Nat) (hn : n < 255) : w.cell? ⟨b, n, none⟩ = some (B (pw n)) := by
  have := Row.cell h n (by omega)
  rw [this, fldN, if_pos hn, if_pos hn]
theorem Fld.log {w : World} {b : Nat} (h : Fld w b) (x : BitVec 8) : w.cell? ⟨b, 255 + x.toNat, none⟩ = some (.int .i64 (lg x : Int)) := by
  have := Row.cell h (255 + x.toNat) (by have := x.isLt; omega)
  have hl := lg_lt x
  rw [this, fldN, if_neg (by omega), Nat.add_sub_cancel_left]
  show some (Value.int .i64 ((if lg x < 255 then lg x else 0 : Nat) : Int)) = _
  rw [if_pos hl]
theorem Fld.of_below {w w' : World} {b : Nat} (h : Fld w b) (k : Below w.heap.size w w') : Fld w' b := Row.of_below h k
theorem Fld.below {w w' : World} {b N : Nat} (h : Fld w b) (k : Below N w w') (hb : b < N) : Fld w' b := Row.below h k hb
theorem Fld.dr {w w' : World} {b : Nat} (h : Fld w b) (k : Dr w w') : Fld w' b := Row.dr h k

theorem power_any (b n : Nat) (w : World) (h : Fld w b) (hn : n < 4294967296) :
    Calls Tryd.prog 60 #[.pointer (some ⟨b, 0, none⟩), .int .i64 n] w fun e w' => e = .returned (B (pw n)) ∧ w = w' := by
  have hc := h.pow (n % 255) (Nat.mod_lt _ (by decide))
  have hlt : n % 255 < 255 := Nat.mod_lt _ (by decide)
  rw [pw_mod] at hc
  have HC := Lib.hid hc
  clear h hc
  go_enter Tryd.func60, Tryd.ntmps60
  have hc := HC.out
  go_wp2
  go_ret
  exact ⟨rfl, rfl⟩
theorem power_at (b : Nat) (m : Int) (w : World) (h : Fld w b) (h0 : 0 ≤ m) (hn : m < 4294967296) :
    Calls Tryd.prog 60 #[.pointer (some ⟨b, 0, none⟩), .int .i64 m] w fun e w' => e = .returned (B (pw m.toNat)) ∧ w' = w := by
  obtain ⟨n, rfl⟩ := Int.eq_ofNat_of_zero_le h0
  exact (power_any b n w h (by omega)).mono fun e w' ⟨he, hw⟩ => ⟨he, hw.symm⟩
set_option maxHeartbeats 1000000 in
theorem times_any (b : Nat) (x y : BitVec 8) (w : World) (h : Fld w b) :
    Calls Tryd.prog 66 #[.pointer (some ⟨b, 0, none⟩), B x, B y] w fun e w' => e = .returned (B (gm x y)) ∧ Dr w w' := by
  have HF := Lib.hid h
  have hx := h.log x
  have hy := h.log y
  have lx := lg_lt x
  have ly := lg_lt y
  have isum : IntKind.i64.wrap ((lg x : Int) + (lg y : Int)) = (lg x : Int) + (lg y : Int) := IntWalk.i64_in _ (by omega)
  have hn : (lg x : Int) + (lg y : Int) < 4294967296 := by omega
  have HX := Lib.hid hx
  have HY := Lib.hid hy
  have HS := Lib.hid isum
  have HN := Lib.hid hn
  clear hx hy lx ly h isum hn
  by_cases zx : x = 0#8
  · have ex : (x == 0#8) = true := by simpa using zx
    have HZ := Lib.hid zx
    clear zx
    go_enter Tryd.func66, Tryd.ntmps66
    go_wp2
    go_ret
    exact ⟨by rw [HZ.out, gm_zl, B_0]; rfl, Dr.refl _⟩
  · have ex : (x == 0#8) = false := by simpa using zx
    by_cases zy : y = 0#8
    · have ey : (y == 0#8) = true := by simpa using zy
      have HZ := Lib.hid zy
      clear zx zy
      go_enter Tryd.func66, Tryd.ntmps66
      go_wp2
      go_ret
      exact ⟨by rw [HZ.out, gm_zr, B_0]; rfl, Dr.refl _⟩
    · have ey : (y == 0#8) = false := by simpa using zy
      have eg : gm x y = pw (lg x + lg y) := by unfold gm; rw [if_neg (by simp [zx, zy])]
      have HG := Lib.hid eg
      clear eg zx zy
      go_enter Tryd.func66, Tryd.ntmps66
      go_wp2
      have hx := HX.out
      have hy := HY.out
      have isum := HS.out
      go_quiet ((go_at_call 60; exact Calls.quiet_of_same (power_at _ _ _ HF.out (by omega) HN.out)))
      go_wp2
      go_ret
      exact ⟨by rw [HG.out]; rfl, Dr.drewN (Dr.refl _) _⟩
end Go.Proofs.YtkfceloaomlhmaaDoor
/- The program's field: quotients. -/
set_option maxRecDepth 100000
namespace Go.Proofs.YtkfceloaomlhmaaDoor
open Go Go.RowKit

attribute [local go_sem] ixA
/-- A byte and an error's number. -/
def be (x : BitVec 8) (e : Nat) : Ending := .returned (.tuple #[B x, .int .i64 (e : Int)])
theorem ret_be {v w : Value} {x : BitVec 8} {e : Nat} (h : v = B x) (k : w = .int .i64 (e : Int)) : Ending.returned (.tuple #[v, w]) = be x e := by rw [h, k]; rfl
set_option maxHeartbeats 1000000 in
theorem div_zero (b : Nat) (x : BitVec 8) (w : World) :
    Calls Tryd.prog 53 #[.pointer (some ⟨b, 0, none⟩), B x, B 0#8] w fun e w' => e = be 0#8 3 ∧ w = w' := by
  go_enter Tryd.func53, Tryd.ntmps53
  go_wp2
  go_ret2
  exact ⟨ret_be B_0.symm rfl, rfl⟩
set_option maxHeartbeats 1000000 in
theorem div_any (b : Nat) (x y : BitVec 8) (w : World) (h : Fld w b) (hy0 : y ≠ 0#8) :
    Calls Tryd.prog 53 #[.pointer (some ⟨b, 0, none⟩), B x, B y] w fun e w' => e = be (gd x y) 0 ∧ Dr w w' := by
  have HF := Lib.hid h
  have hx := h.log x
  have hy := h.log y
  have lx := lg_lt x
  have ly := lg_lt y
  have i1 : IntKind.i64.wrap ((lg x : Int) + 255) = (lg x : Int) + 255 := IntWalk.i64_in _ (by omega)
  have i2 : IntKind.i64.wrap ((lg x : Int) + 255 - (lg y : Int)) = (lg x : Int) + 255 - (lg y : Int) := IntWalk.i64_in _ (by omega)
  have hn : 0 ≤ (lg x : Int) + 255 - (lg y : Int) ∧ (lg x : Int) + 255 - (lg y : Int) < 4294967296 := by omega
  have HX := Lib.hid hx
  have HY := Lib.hid hy
  have H1 := Lib.hid i1
  have H2 := Lib.hid i2
  have HN := Lib.hid hn
  have he : Hid (((lg x : Int) + 255 - (lg y : Int)).toNat = lg x + 255 - lg y) := by show ((lg x : Int) + 255 - (lg y : Int)).toNat = lg x + 255 - lg y; omega
  have ey : (y == 0#8) = false := by simpa using hy0
  clear hx hy lx ly h i1 i2 hn
  by_cases zx : x = 0#8
  · have ex : (x == 0#8) = true := by simpa using zx
    have HZ := Lib.hid zx
    clear zx hy0
    go_enter Tryd.func53, Tryd.ntmps53
    go_wp2
    go_ret2
    exact ⟨ret_be (by rw [HZ.out, gd, gm_zl, B_0]; rfl) rfl, Dr.refl _⟩
  · have ex : (x == 0#8) = false := by simpa using zx
    have HG := Lib.hid (gd_log x y zx hy0)
    clear zx hy0
    go_enter Tryd.func53, Tryd.ntmps53
    go_wp2
    have hx := HX.out
    have hy := HY.out
    have i1 := H1.out
    have i2 := H2.out
    go_quiet ((go_at_call 60; exact Calls.quiet_of_same (power_at _ _ _ HF.out HN.out.1 HN.out.2)))
    go_wp2
    go_ret2
    exact ⟨ret_be (by rw [HG.out, ← he.out]; rfl) rfl, Dr.drewN (Dr.refl _) _⟩
end Go.Proofs.YtkfceloaomlhmaaDoor
/- Rows scaled by the program's field. -/
set_option maxRecDepth 100000
namespace Go.Proofs.YtkfceloaomlhmaaDoor
open Go Go.RowKit

attribute [local go_sem ↓] exec_store exec_make exec_bs
attribute [local go_sem] st_B st_I st_b mkB
set_option maxHeartbeats 2000000 in
theorem scale_any (b : Nat) (by_ : BitVec 8) (l : List (BitVec 8)) (p : Option Addr) (n cap : Nat) (w : World) (h : Fld w b) (hs : Sl w p l) (hl : l.length = n) (hn : n < 4294967296) :
    Calls Tryd.prog 62 #[.pointer (some ⟨b, 0, none⟩), B by_, .slice p n cap] w fun e w' =>
      e = .returned (.slice (some ⟨w.heap.size, 0, none⟩) n n) ∧ Row w' w.heap.size 5 n (fun j => B (gm by_ (l.getD j 0#8))) ∧ Below w.heap.size w w' := by
  have HF := Lib.hid h
  have HS := Lib.hid hs
  have HL := Lib.hid hl
  have hr : Row (w.alloc (.cells (zb n) 5)) w.heap.size 5 n (fun j => B 0#8) := Row.new w _ n _
  have hb : Below w.heap.size w (w.alloc (.cells (zb n) 5)) := (Below.refl _ _).alloc (Nat.le_refl _) _
  clear h hs hl
  go_enter Tryd.func62, Tryd.ntmps62
  go_wp2
  generalize w.alloc (.cells (zb n) 5) = w1 at *
  have HR := Lib.hid (hr.congr fun j _ => upto_zero (fun j => gm by_ (l.getD j 0#8)) j)
  have HB := Lib.hid hb
  clear hr hb
  generalize hN : w.heap.size = N at *
  have HN := Lib.hid hN
  clear hN
  go_loopw [15] (fun i wr => ∃ k : Nat, k ≤ n ∧ i = .int .i64 k ∧ Row wr N 5 n (upto (fun j => gm by_ (l.getD j 0#8)) k) ∧ Below N w wr) (fun i _ => n - (intOf i).toNat)
  case atStart => exact ⟨0, Nat.zero_le _, rfl, HR.out, HB.out⟩
  case round =>
    clear HR HB
    obtain ⟨k, hk, rfl, hR, hB⟩ := hrel
    have HB := Lib.hid hB
    have HR := Lib.hid hR
    by_cases hlt : k < n
    · obtain ⟨c, o, rfl, hc⟩ := HS.out k (by rw [HL.out]; exact hlt)
      have hx : wr.cell? ⟨c, o + k, none⟩ = some (B (l.getD k 0#8)) := by
        rw [hB.cell (by rw [← HN.out]; exact World.block_lt_of_cell? w _ hc)]; exact hc
      have hd0 : decide ((k : Int) < (n : Int)) = true := decide_eq_true (by omega)
      have hl0 : (k : Int) < (n : Int) := by omega
      have HST := Lib.hid (fun j (_ : j < n) => upto_step (fun j => gm by_ (l.getD j 0#8)) k j)
      generalize hxx : l.getD k 0#8 = x at *
      have HXX := Lib.hid hxx
      have hbN : b < N := by rw [← HN.out]; exact HF.out.lt
      have HFr := Lib.hid (HF.out.below hB hbN)
      clear hR hB hc hxx
      go_wp2_with fail
      refine (times_any b by_ x wr HFr.out).mono ?_
      rintro e w2 ⟨rfl, hD2⟩
      have hR2 := HR.out.dr hD2
      have c1 : (w2.cell? ⟨N, k, none⟩).isSome = true := by rw [hR2.cell k (by omega)]; rfl
      have f1 : ∀ i, w2.frozen? ⟨N, i, none⟩ = false := hR2.free
      have HR2 := Lib.hid (hR2.set k (B (gm by_ x)))
      have HB2 := Lib.hid (HB.out.trans (hD2.below N))
      clear hR2 hD2
      go_wp2
      go_roundw
      case rel => exact ⟨k + 1, by omega, by go_num, HR2.out.congr HST.out, HB2.out.setCell (Nat.le_refl _) _⟩
      case measure => simp [intOf]; omega
    · have hd0 : decide ((k : Int) < (n : Int)) = false := decide_eq_false (by omega)
      have he : Hid (k = n) := by show k = n; omega
      clear hR hB
      go_wp2
      go_ret
      refine ⟨by rw [HN.out]; rfl, ?_, by rw [HN.out]; exact HB.out⟩
      rw [HN.out]
      have := HR.out
      rw [he.out] at this
      exact this.congr fun j hj => upto_full _ _ _ hj
end Go.Proofs.YtkfceloaomlhmaaDoor
/- The field stays, and nothing that was there changes. -/
set_option maxRecDepth 100000
namespace Go.Proofs.YtkfceloaomlhmaaDoor
open Go Go.RowKit

/-- Block b is a field; of what w0 held nothing has changed. -/
def Gd (w0 : World) (b : Nat) (w : World) : Prop := Fld w b ∧ Below w0.heap.size w0 w
section
variable {w0 w w' : World} {b : Nat}
theorem Gd.bel (h : Gd w0 b w) : Below w0.heap.size w0 w := h.2
theorem Gd.size (h : Gd w0 b w) : w0.heap.size ≤ w.heap.size := h.2.size
theorem Gd.step (h : Gd w0 b w) (k : Below w.heap.size w w') : Gd w0 b w' := ⟨h.1.of_below k, h.2.trans (k.mono h.size)⟩
theorem Gd.alloc (h : Gd w0 b w) (o : Obj) : Gd w0 b (w.alloc o) := h.step ((Below.refl _ _).alloc (Nat.le_refl _) _)
theorem Gd.dr (h : Gd w0 b w) (k : Dr w w') : Gd w0 b w' := ⟨h.1.dr k, h.2.trans (k.below _)⟩
theorem Gd.drew (h : Gd w0 b w) : Gd w0 b w.drew := h.dr ((Dr.refl _).drew)
theorem Gd.drewN (h : Gd w0 b w) (n : Nat) : Gd w0 b (w.drewN n) := h.dr ((Dr.refl _).drewN n)
end
theorem Sl_lit (w : World) (l : List (BitVec 8)) (cs : Array Value) (T : TypeId) (h : cs = (l.map B).toArray) : Sl (w.alloc (.cells cs T)) (some ⟨w.heap.size, 0, none⟩) l := fun j hj => by
  refine ⟨w.heap.size, 0, rfl, ?_⟩
  rw [Nat.zero_add, World.cell?_alloc_new, h]
  simp [List.getD_eq_getElem?_getD, hj]
end Go.Proofs.YtkfceloaomlhmaaDoor
/- The program's field: the sum of two bytes, and inverses, as package matrix calls them. -/
set_option maxRecDepth 100000
namespace Go.Proofs.YtkfceloaomlhmaaDoor
open Go Go.RowKit

theorem bs2 (x y : BitVec 8) (w : World) : (bsT 22 2 #[(0, B x), (1, B y)]).run Tryd.prog w = .ok (.value (.slice (some ⟨w.heap.size, 0, none⟩) 2 2)) (w.alloc (.cells #[B x, B y] 5)) := by kernel_rfl
theorem Sl_two (w : World) (x y : BitVec 8) (T : TypeId) : Sl (w.alloc (.cells #[B x, B y] T)) (some ⟨w.heap.size, 0, none⟩) [x, y] := fun j hj => by
  refine ⟨w.heap.size, 0, rfl, ?_⟩
  rw [Nat.zero_add, World.cell?_alloc_new]
  match j, hj with
  | 0, _ => rfl
  | 1, _ => rfl
theorem sm_two (x y : BitVec 8) : sm [x, y] = x ^^^ y := by simp [sm]
theorem add_two (f : Value) (x y : BitVec 8) (p : Option Addr) (w : World) (hs : Sl w p [x, y]) :
    Calls Tryd.prog 48 #[f, .slice p 2 2] w fun e w' => e = .returned (B (x ^^^ y)) ∧ Dr w w' :=
  (add_any f [x, y] p 2 2 w hs rfl (by decide)).mono fun e w' ⟨he, hd⟩ => ⟨by rw [he, sm_two], hd⟩
theorem div_1 (b : Nat) (x : BitVec 8) (w : World) (h : Fld w b) (hx : x ≠ 0#8) :
    Calls Tryd.prog 53 #[.pointer (some ⟨b, 0, none⟩), .int .u8 1, B x] w fun e w' => e = .returned (.tuple #[B (gi x), .int .i64 0]) ∧ Dr w w' := by
  have := div_any b 1#8 x w h hx
  rw [B_1] at this
  exact this.mono fun e w' ⟨he, hd⟩ => ⟨by rw [he, gd, gm_one]; rfl, hd⟩
theorem inverse_any (b : Nat) (x : BitVec 8) (w : World) (h : Fld w b) (hx : x ≠ 0#8) :
    Calls Tryd.prog 47 #[.pointer (some ⟨b, 0, none⟩), B x] w fun e w' => e = .returned (B (gi x)) ∧ Dr w w' := by
  have HC := Lib.hid (div_1 b x w h hx)
  clear h hx
  go_enter Tryd.func47, Tryd.ntmps47
  go_wp2_with fail
  refine HC.out.mono ?_
  rintro e w2 ⟨rfl, hD⟩
  have HD := Lib.hid hD
  clear hD
  go_wp2
  go_ret
  exact ⟨rfl, HD.out⟩
attribute [local go_sem ↓] exec_store exec_make exec_bs
attribute [local go_sem] st_B st_I st_b mkB bs2
set_option maxHeartbeats 2000000 in
/-- One row, times a number, added to another. -/
theorem madd_any (b R n cap cap' : Nat) (c : BitVec 8) (s : Nat → BitVec 8) (q : Option Addr) (l : List (BitVec 8)) (w : World) (h : Fld w b) (hbR : b ≠ R) (hR : Row w R 5 n (fun j => B (s j))) (hs : Sl w q l) (hl : l.length = n) (hn : n < 4294967296) :
    Calls Tryd.prog 56 #[.pointer (some ⟨b, 0, none⟩), .slice (some ⟨R, 0, none⟩) n cap, B c, .slice q n cap'] w fun e w' =>
      e = .returned (.tuple #[]) ∧ Row w' R 5 n (fun j => B (s j ^^^ gm c (l.getD j 0#8))) ∧ Kp R w w' := by
  have HC := Lib.hid (scale_any b c l q n cap' w h hs hl hn)
  have HF := Lib.hid h
  have HR := Lib.hid hR
  have HL := Lib.hid hl
  have hlt : R < w.heap.size := hR.lt
  clear h hR hs hl
  go_enter Tryd.func56, Tryd.ntmps56
  go_wp2_with fail
  refine HC.out.mono ?_
  rintro e w1 ⟨rfl, hr1, hb1⟩
  have HR1 := Lib.hid (hr1.of_below (Below.refl _ _))
  have HK1 := Lib.hid ((Kp.refl R w).of_below hb1 : Kp R w w1)
  have HRR := Lib.hid ((HR.out.of_below hb1).congr (g' := fun j => B (if j < 0 then s j ^^^ gm c (l.getD j 0#8) else s j)) fun j _ => by rw [if_neg (by omega)])
  have HF1 := Lib.hid (HF.out.of_below hb1)
  have hsz1 : w.heap.size < w1.heap.size := hr1.lt
  clear hr1 hb1 HC HR HF
  generalize hN : w.heap.size = N at *
  have HN := Lib.hid hN
  clear hN
  go_wp2
  go_loopw [8, 9, 15] (fun _ _ i wr => ∃ k : Nat, k ≤ n ∧ i = .int .i64 k ∧ Row wr R 5 n (fun j => B (if j < k then s j ^^^ gm c (l.getD j 0#8) else s j)) ∧ Kp R w1 wr) (fun _ _ i _ => n - (intOf i).toNat)
  case atStart => exact ⟨0, Nat.zero_le _, rfl, HRR.out, Kp.refl _ _⟩
  case round =>
    clear HRR
    obtain ⟨k, hk, rfl, hR, hK⟩ := hrel
    have HRR := Lib.hid hR
    have HK := Lib.hid hK
    by_cases hlt2 : k < n
    · have hd0 : decide ((k : Int) < (n : Int)) = true := decide_eq_true (by omega)
      have hl0 : (k : Int) < (n : Int) := by omega
      have hx : wr.cell? ⟨N, k, none⟩ = some (B (gm c (l.getD k 0#8))) := by
        rw [hK.cell (by exact hsz1) (by show N ≠ R; omega)]; exact HR1.out.cell k hlt2
      have hy : wr.cell? ⟨R, k, none⟩ = some (B (s k)) := by
        have := hR.cell k hlt2
        rwa [if_neg (by omega)] at this
      have HFr := Lib.hid (show Fld wr b from Row.of_kp HF1.out hK hbR)
      have hRlt : R < wr.heap.size := hR.lt
      have HST := Lib.hid (fun j (_ : j < n) => show (if j = k then B (s k ^^^ gm c (l.getD k 0#8)) else B (if j < k then s j ^^^ gm c (l.getD j 0#8) else s j)) = B (if j < k + 1 then s j ^^^ gm c (l.getD j 0#8) else s j) from by
        by_cases e : j = k
        · subst e; rw [if_pos rfl, if_pos (by omega)]
        · rw [if_neg e]
          by_cases e2 : j < k
          · rw [if_pos e2, if_pos (by omega)]
          · rw [if_neg e2, if_neg (by omega)])
      generalize gm c (l.getD k 0#8) = y at *
      generalize hsk : s k = x at *
      clear hR hK hsk
      go_wp2_with fail
      refine (add_two _ x y _ _ (Sl_two _ x y _)).mono ?_
      rintro e w2 ⟨rfl, hD2⟩
      have hb0 : Below wr.heap.size wr (wr.alloc (.cells #[B x, B y] 5)) := (Below.refl _ _).alloc (Nat.le_refl _) _
      have hR2 := (HRR.out.of_below hb0).dr hD2
      have c1 : (w2.cell? ⟨R, k, none⟩).isSome = true := by rw [hR2.cell k (by omega)]; rfl
      have f1 : ∀ i, w2.frozen? ⟨R, i, none⟩ = false := hR2.free
      have HR2 := Lib.hid (hR2.set k (B (x ^^^ y)))
      have HK2 := Lib.hid ((HK.out.of_below hb0).of_below (hD2.below _) : Kp R w1 w2)
      clear hR2 hD2 hb0
      go_wp2
      go_roundw
      case rel => exact ⟨k + 1, by omega, by go_num, HR2.out.congr HST.out, HK2.out.setCell _ _⟩
      case measure => simp [intOf]; omega
    · have hd0 : decide ((k : Int) < (n : Int)) = false := decide_eq_false (by omega)
      obtain rfl : k = n := by omega
      clear hR hK
      go_wp2
      go_end0
      exact ⟨rfl, HRR.out.congr fun j hj => by rw [if_pos hj], HK1.out.trans HK.out⟩
end Go.Proofs.YtkfceloaomlhmaaDoor
/- The program's product of a matrix and rows. -/
set_option maxRecDepth 100000
namespace Go.Proofs.YtkfceloaomlhmaaDoor
open Go Go.RowKit

/-- A matrix of the call's own is returned; nothing that was there has changed. -/
def RetMp (N : Nat) (w : World) (n m : Nat) (a : Mx) (e : Ending) (w' : World) : Prop :=
  ∃ G D, e = .returned (.slice (some ⟨G, 0, none⟩) n n) ∧ Mp w' N G n n m D a ∧ Below N w w'
attribute [local go_sem ↓] exec_store exec_make exec_bs
attribute [local go_sem] st_B st_I st_b st_H mkB mkR
set_option maxRecDepth 100000 in
set_option maxHeartbeats 8000000 in
theorem product_any (b : Nat) (la lb : List (List (BitVec 8))) (p q : Option Addr) (n k m cap cap' : Nat) (w : World) (hF : Fld w b) (ha : Prt w p la) (hb : Prt w q lb) (hla : la.length = n) (hlb : lb.length = k)
    (hra : ∀ i, i < n → (la.getD i []).length = k) (hrb : ∀ i, i < k → (lb.getD i []).length = m) (hn : n < 1000000) (hk0 : 0 < k) (hk : k < 1000000) (hm : m < 4294967296) :
    Calls Tryd.prog 51 #[.pointer (some ⟨b, 0, none⟩), .slice p n cap, .slice q k cap'] w (RetMp w.heap.size w n m (mm k (mx la) (mx lb))) := by
  have HF := Lib.hid hF
  have HA := Lib.hid ha
  have HB := Lib.hid hb
  have HLA := Lib.hid hla
  have HLB := Lib.hid hlb
  have HRA := Lib.hid hra
  have HRB := Lib.hid hrb
  obtain ⟨cb, ob, q0, cb0, rfl, hcb0, hcb1, -, -⟩ := hb.at_ 0 (by omega)
  rw [Nat.add_zero, hrb 0 hk0] at hcb1
  have HCB := Lib.hid hcb1
  have hbN : b < w.heap.size := hF.lt
  have hn8 : n < 100000000 := by omega
  have hmat : Mp (w.alloc (.cells (tab n (fun _ => .slice none 0 0)) 22)) w.heap.size w.heap.size n 0 m (fun _ => 0) (mm k (mx la) (mx lb)) := Mp.zero (Row.new w _ n _) (Nat.le_refl _)
  have hb0 : Below w.heap.size w (w.alloc (.cells (tab n (fun _ => .slice none 0 0)) 22)) := (Below.refl _ _).alloc (Nat.le_refl _) _
  clear hF ha hb hla hlb hra hrb hcb1
  go_enter Tryd.func51, Tryd.ntmps51
  go_wp2
  generalize w.alloc (.cells (tab n (fun _ => .slice none 0 0)) 22) = w1 at *
  have HM := Lib.hid hmat
  have HB0 := Lib.hid hb0
  clear hmat hb0
  generalize hN : w.heap.size = N at *
  have HN := Lib.hid hN
  clear hN
  go_loopw [17] (fun i wr => ∃ i0 : Nat, i0 ≤ n ∧ i = .int .i64 i0 ∧ ∃ D, Mp wr N N n i0 m D (mm k (mx la) (mx lb)) ∧ Below N w wr) (fun i _ => n - (intOf i).toNat)
  case atStart => exact ⟨0, Nat.zero_le _, rfl, _, HM.out, HB0.out⟩
  case round =>
    clear HM HB0
    obtain ⟨i0, hi0, rfl, D, hM, hB⟩ := hrel
    rename World => WO
    have HM := Lib.hid hM
    have HBr := Lib.hid hB
    have hNlt : N < WO.heap.size := hM.ltG
    by_cases hlt : i0 < n
    · have hd0 : decide ((i0 : Int) < (n : Int)) = true := decide_eq_true (by omega)
      have hl0 : (i0 : Int) < (n : Int) := by omega
      have hk0' : (0 : Int) < (k : Int) := by omega
      have hxb : WO.cell? ⟨cb, ob, none⟩ = some (.slice q0 m cb0) := by
        rw [hB.cell (by exact hcb0)]; exact HCB.out
      obtain ⟨ca, oa, qa, ca0, rfl, hca0, hca1, hsa, -⟩ := HA.out.at_ i0 (by rw [HLA.out]; exact hlt)
      rw [HRA.out i0 hlt] at hca1
      have hxa : WO.cell? ⟨ca, oa + i0, none⟩ = some (.slice qa k ca0) := by
        rw [hB.cell (by rw [← HN.out]; exact hca0)]; exact hca1
      have HSA := Lib.hid hsa
      have hbA : Below WO.heap.size WO (WO.alloc (.cells (zb m) 5)) := (Below.refl _ _).alloc (Nat.le_refl _) _
      have hr : Row (WO.alloc (.cells (zb m) 5)) WO.heap.size 5 m (fun j => B 0#8) := Row.new WO _ m _
      have hMA := hM.of_below hbA
      have hc1 : ((WO.alloc (.cells (zb m) 5)).cell? ⟨N, i0, none⟩).isSome = true := by rw [hMA.hds.cell i0 hlt]; rfl
      have hf1 : (WO.alloc (.cells (zb m) 5)).frozen? ⟨N, i0, none⟩ = false := hMA.free i0
      have hc2 : WO.cell? ⟨N, i0, none⟩ = some (hdr i0 m D i0) := hM.hds.cell i0 hlt
      have hf2 : WO.frozen? ⟨N, i0, none⟩ = false := hM.free i0
      have hMB := hMA.put i0 WO.heap.size (fun _ => 0#8) hr (i0 + 1) (.inr ⟨rfl, rfl⟩) (fun j hj _ => by have := hM.lt j hj; omega) (by omega) (by omega)
      have HB1 := Lib.hid (show Below N w ((WO.setCell ⟨N, i0, none⟩ (.slice (some ⟨WO.heap.size, 0, none⟩) m m)).alloc (.cells (zb m) 5)) from ((hB.setCell (Nat.le_refl _) _).alloc (by simp; omega) _))
      have hcomm : (WO.alloc (.cells (zb m) 5)).setCell ⟨N, i0, none⟩ (.slice (some ⟨WO.heap.size, 0, none⟩) m m) = (WO.setCell ⟨N, i0, none⟩ (.slice (some ⟨WO.heap.size, 0, none⟩) m m)).alloc (.cells (zb m) 5) := World.setCell_alloc_past _ N i0 _ hNlt
      rw [hcomm] at hMB
      have HM1 := Lib.hid hMB
      clear hca1 hsa hbA hr hMA hMB hM hB hcomm
      go_wp2
      generalize (WO.setCell ⟨N, i0, none⟩ (.slice (some ⟨WO.heap.size, 0, none⟩) m m)).alloc (.cells (zb m) 5) = w1 at *
      clear hc1 hf1 hc2 hf2 hxb hxa
      generalize WO.heap.size = E at *
      go_loopw [32] (fun i wr => ∃ j : Nat, j ≤ k ∧ i = .int .i64 j ∧ Mp wr N N n (i0 + 1) m (setD D i0 E) (setr (mm k (mx la) (mx lb)) i0 (fun c => xs j (fun l => gm (mx la i0 l) (mx lb l c)))) ∧ Below N w wr) (fun i _ => k - (intOf i).toNat)
      case atStart => exact ⟨0, Nat.zero_le _, rfl, HM1.out.congr fun x y _ _ => rfl, HB1.out⟩
      case round =>
        clear HM1 HB1
        obtain ⟨j, hj, rfl, hM, hB⟩ := hrel
        rename World => WP
        have HM := Lib.hid hM
        have HB1 := Lib.hid hB
        by_cases hjk : j < k
        · have hdj : decide ((j : Int) < (k : Int)) = true := decide_eq_true (by omega)
          have hj0 : (j : Int) < (k : Int) := by omega
          obtain ⟨cb', ob', qb, cbj, eb, hcbl, hcbj, hsb, -⟩ := HB.out.at_ j (by rw [HLB.out]; exact hjk)
          injection eb with eb
          injection eb with eb1 eb2
          subst eb1 eb2
          have hrj := HRB.out j hjk
          rw [hrj] at hcbj
          obtain ⟨da, pa, rfl, hya⟩ := HSA.out j (by rw [HRA.out i0 hlt]; exact hjk)
          have kp : ∀ a : Addr, ∀ v, w.cell? a = some v → WP.cell? a = some v := fun a v h => by
            rw [hB.cell (by rw [← HN.out]; exact World.block_lt_of_cell? w a h)]; exact h
          have x2 := kp _ _ hcbj
          have x3 := kp _ _ hya
          have e1 : setD D i0 E i0 = E := if_pos rfl
          have x4 := hM.cellH i0 (Nat.lt_succ_self _) hlt
          have hrow := hM.row i0 (Nat.lt_succ_self _)
          rw [e1] at x4 hrow
          have HROW := Lib.hid (hrow.congr (g' := fun c => B (xs j (fun l => gm (mx la i0 l) (mx lb l c)))) fun x _ => by rw [setr, if_pos rfl])
          have HSB := Lib.hid (hsb.of_below (by rw [HN.out]; exact hB))
          have HRJ := Lib.hid hrj
          have HFr := Lib.hid (HF.out.below hB hbN)
          have hEN : N < E := by
            have h1 := hM.lo i0 (Nat.lt_succ_self _)
            have h2 := hM.ne i0 (Nat.lt_succ_self _)
            rw [e1] at h1 h2
            omega
          have HE1 := Lib.hid e1
          generalize hya' : (la.getD i0 []).getD j 0#8 = ya at *
          have HYA := Lib.hid hya'
          clear kp hM hB hcbj hya hsb hrj hrow e1 hya'
          go_wp2
          refine wp_region_still_tail 10 (by kernel_rfl) (by kernel_rfl) ?_
          simp only [List.take_succ_cons, List.take_zero, List.drop_succ_cons, List.drop_zero, World.drew_eq]
          repeat (refine wpStill_step (fun K hK => ?_); go_simp; refine hK _ ?_; clear hK K)
          refine wpStill_nil ?_
          have hd1 : Dr WP WP.drew := (Dr.refl _).drew
          go_wp2_with fail
          refine (madd_any b E m m cbj ya (fun c => xs j (fun l => gm (mx la i0 l) (mx lb l c))) qb (lb.getD j []) WP.drew (HFr.out.dr hd1) (by omega) (HROW.out.dr hd1) (HSB.out.dr hd1) HRJ.out hm).mono ?_
          rintro e w2 ⟨rfl, hR2, hK2⟩
          have HM2 := Lib.hid ((HM.out.dr hd1).alter i0 (Nat.lt_succ_self _) _ (by rw [HE1.out]; exact hK2) (by rw [HE1.out]; exact hR2))
          have HB2 := Lib.hid (((HB1.out.trans (hd1.below N)).trans (hK2.below (Nat.le_of_lt hEN) (by have := HM.out.ltG; exact Nat.le_of_lt this))))
          clear hd1 hR2 hK2
          go_wp2
          go_roundw
          case rel =>
            refine ⟨j + 1, by omega, by go_num, HM2.out.congr fun x y _ _ => ?_, HB2.out⟩
            unfold setr
            by_cases e : x = i0
            · rw [if_pos e, if_pos e, ← HYA.out]; rfl
            · rw [if_neg e, if_neg e, if_neg e]
          case measure => simp [intOf]; omega
        · have hdj : decide ((j : Int) < (k : Int)) = false := decide_eq_false (by omega)
          obtain rfl : j = k := by omega
          clear hM hB
          go_wp2
          go_roundw
          case rel =>
            refine ⟨i0 + 1, by omega, by go_num, _, HM.out.congr fun x y _ _ => ?_, HB1.out⟩
            unfold setr
            by_cases e : x = i0
            · rw [if_pos e, e]; rfl
            · rw [if_neg e]
          case measure => simp [intOf]; omega
    · have hd0 : decide ((i0 : Int) < (n : Int)) = false := decide_eq_false (by omega)
      obtain rfl : i0 = n := by omega
      clear hM hB
      go_wp2
      go_ret
      exact ⟨_, D, rfl, HM.out, HBr.out⟩
end Go.Proofs.YtkfceloaomlhmaaDoor
/- The program's eliminate: one column of a matrix. -/
set_option maxRecDepth 100000
namespace Go.Proofs.YtkfceloaomlhmaaDoor
open Go Go.RowKit

/-- Row c scaled so that its number in column c is 1. -/
def pivM (c : Nat) (a : Mx) : Mx := rscale c (gi (a c c)) a
/-- The first k rows, but for row c, made 0 in column c. -/
def clrM (k c : Nat) (a : Mx) : Mx := fun i j => if i < k ∧ i ≠ c then a i j ^^^ gm (a i c) (a c j) else a i j
attribute [local go_sem ↓] exec_store exec_make exec_bs
attribute [local go_sem] st_B st_I st_b st_H mkB mkR
end Go.Proofs.YtkfceloaomlhmaaDoor
/- copy of bytes into a row of the call's own. -/
set_option maxRecDepth 100000
namespace Go.Proofs.YtkfceloaomlhmaaDoor
open Go Go.RowKit

theorem tab_splice (m n : Nat) (g : Nat → Value) (l : List (BitVec 8)) (hl : l.length = n) (hle : n ≤ m) :
    ((tab m g).toList.take 0 ++ (l.map B ++ (tab m g).toList.drop (0 + (l.map B).length))).toArray = tab m (fun j => if j < n then B (l.getD j 0#8) else g j) := by
  subst hl
  unfold tab
  congr 1
  apply List.ext_getElem?
  intro j
  simp only [List.take_zero, List.nil_append, Nat.zero_add, List.length_map]
  rw [List.getElem?_append]
  by_cases h1 : j < l.length
  · have h2 : j < m := by omega
    simp [h1, h2, List.getD_eq_getElem?_getD]
  · rw [if_neg (by simpa using h1)]
    by_cases h2 : j < m
    · have h3 : l.length + (j - l.length) = j := by omega
      simp [h1, h2, h3]
    · have h3 : m ≤ j := by omega
      have h4 : m ≤ l.length + (j - l.length) := by omega
      simp [h3, h4]
theorem wpl_copy {ops : Array Oper} {rest : List Oper} {o : Oper} {a : Act} {Q : Exit → Act → World → Prop} (w : World) (hgd : o.guard = none) (d s : Operand)
    (ho : o.op = .call { callee := .builtin .copy, args := #[d, s], argTypes := #[22, 22] }) (E m c : Nat) (g : Nat → Value) (q : Option Addr) (n c' : Nat) (l : List (BitVec 8))
    (hd : a.eval d = .slice (some ⟨E, 0, none⟩) m c) (hs : a.eval s = .slice q n c') (hR : Row w E 5 m g) (hl : l.length = n) (hle : n ≤ m) (hsl : Sl w q l)
    (h : ∀ w', Row w' E 5 m (fun j => if j < n then B (l.getD j 0#8) else g j) → Kp E w w' → wpList Tryd.prog ops Q rest (a.put o.dst (.int .i64 (n : Int))) w') : wpList Tryd.prog ops Q (o :: rest) a w := by
  by_cases h0 : n = 0
  · subst h0
    refine wpList_copy_nothing hgd d s _ _ ho 5 und35 (by kernel_rfl) _ _ _ _ _ _ hd hs (by exact Nat.zero_min _) ?_
    exact h w (hR.congr fun j _ => by rw [if_neg (by omega)]) (Kp.refl _ _)
  · obtain ⟨c0, o0, rfl, hc⟩ := hsl 0 (by omega)
    have key := wpList_copy_own (P := Tryd.prog) (w := w) (Q := Q) (ops := ops) (rest := rest) (o := o) (a := a) hgd d s _ _ ho 5 und35 (by kernel_rfl) E 0 m c ⟨c0, o0, none⟩ n c' hd hs (tab m g) 5 hR (l.map B) (by rw [List.length_map, hl]; exact (Nat.min_eq_left hle).symm)
      (fun j v hv => hsl.news j v hv) (by rw [tab_size, List.length_map]; omega) (one_map l)
    refine key ?_
    rw [tab_splice m n g l hl hle]
    have hlen : (l.map B).length = n := by rw [List.length_map, hl]
    have hgi : goInt ((l.map B).length : Int) = .int .i64 (n : Int) := by rw [hlen]; rfl
    rw [hgi]
    exact h _ (setRow_heap w E _ _ 5 _ hR) ⟨rfl, rfl, rfl, by simp [World.setRow], fun k _ hk => setRow_other w E k _ hk⟩
end Go.Proofs.YtkfceloaomlhmaaDoor
/- The program's besideUnit: a matrix beside the unit. -/
set_option maxRecDepth 100000
namespace Go.Proofs.YtkfceloaomlhmaaDoor
open Go Go.RowKit

/-- A matrix of n columns beside the unit. -/
def wide (n : Nat) (a : Mx) : Mx := fun i j => if j < n then a i j else id1 i (j - n)
attribute [local go_sem ↓] exec_store exec_make exec_bs
attribute [local go_sem] st_B st_I st_b st_H mkB mkR
end Go.Proofs.YtkfceloaomlhmaaDoor
/- The elimination as row steps; nothing of the program. -/
set_option maxRecDepth 100000
namespace Go.Proofs.YtkfceloaomlhmaaDoor

/-- What steps do to a column hangs on that column alone. -/
theorem Rop.spread {n : Nat} {T U : Mx → Mx} (h : Rop n T U) (X : Mx) (j i : Nat) : T X i j = T (fun i _ => X i j) i 0 := by
  have e : ∀ (Z : Mx) i k, mm (j + 1) Z (fun l _ => if l = j then 1#8 else 0#8) i k = Z i j := fun Z i k => by
    unfold mm
    rw [xs_one (j + 1) j (by omega)]
    · show gm (Z i j) (if j = j then 1#8 else 0#8) = Z i j
      rw [if_pos rfl, gm_one_r]
    · intro l _ hl
      show gm (Z i l) (if l = j then 1#8 else 0#8) = 0#8
      rw [if_neg hl, gm_zr]
  have h1 := h.left (j + 1) X (fun l _ => if l = j then 1#8 else 0#8) i 0
  rw [e (T X) i 0, funext2 (e X)] at h1
  exact h1
theorem Rop.column {n : Nat} {T U : Mx → Mx} (h : Rop n T U) (X Y : Mx) (j l : Nat) (e : ∀ i, i < n → X i j = Y i l) (i : Nat) (hi : i < n) : T X i j = T Y i l := by
  rw [h.spread X j i, h.spread Y l i]
  exact h.congr _ _ 0 (fun i hi => e i hi) i hi
theorem clr_lt (k c : Nat) (P : Mx) (i j : Nat) (h : i < k ∧ i ≠ c) : clrM k c P i j = P i j ^^^ gm (P i c) (P c j) := if_pos h
theorem clr_ge (k c : Nat) (P : Mx) (i j : Nat) (h : ¬ (i < k ∧ i ≠ c)) : clrM k c P i j = P i j := if_neg h
theorem clr_steps (n c : Nat) (hc : c < n) (P : Mx) : ∀ k, k ≤ n → ∃ T U, Steps n T U ∧ clrM k c P = T P := by
  intro k
  induction k with
  | zero =>
    intro _
    refine ⟨_, _, Steps.refl n, funext2 fun i j => ?_⟩
    unfold clrM
    rw [if_neg (by omega)]
  | succ k ih =>
    intro hk
    obtain ⟨T, U, h, e⟩ := ih (by omega)
    by_cases hkc : k = c
    · refine ⟨T, U, h, ?_⟩
      rw [← e]
      refine funext2 fun i j => ?_
      unfold clrM
      by_cases h1 : i < k ∧ i ≠ c
      · rw [if_pos h1, if_pos (by omega)]
      · rw [if_neg h1, if_neg (by omega)]
    · refine ⟨_, _, h.trans (steps_add n c k hc (by omega) (Ne.symm hkc) (P k c)), ?_⟩
      refine funext2 fun i j => ?_
      show clrM (k + 1) c P i j = radd c k (P k c) (T P) i j
      rw [← e]
      unfold radd
      by_cases h1 : i = k
      · subst h1
        rw [if_pos rfl, clr_lt _ _ _ _ _ ⟨by omega, hkc⟩, clr_ge _ _ _ _ _ (by omega), clr_ge _ _ _ _ _ (by omega)]
      · rw [if_neg h1]
        by_cases h2 : i < k ∧ i ≠ c
        · rw [clr_lt _ _ _ _ _ h2, clr_lt _ _ _ _ _ (by omega)]
        · rw [clr_ge _ _ _ _ _ h2, clr_ge _ _ _ _ _ (by omega)]
theorem elim_steps (n c : Nat) (hc : c < n) (X : Mx) (h : X c c ≠ 0#8) : ∃ T U, Steps n T U ∧ clrM n c (pivM c X) = T X := by
  obtain ⟨T, U, h1, e⟩ := clr_steps n c hc (pivM c X) n (Nat.le_refl _)
  exact ⟨_, _, (steps_scale n c hc (gi (X c c)) (gi_ne _)).trans h1, e⟩
/-- The first c columns are the unit's. -/
def UpTo (n c : Nat) (X : Mx) : Prop := ∀ i j, i < n → j < c → X i j = id1 i j
theorem upTo_elim (n c : Nat) (hc : c < n) (X : Mx) (h : X c c ≠ 0#8) (hu : UpTo n c X) : UpTo n (c + 1) (clrM n c (pivM c X)) := by
  intro i j hi hj
  have hp : ∀ j, pivM c X c j = gm (gi (X c c)) (X c j) := fun j => by unfold pivM rscale; rw [if_pos rfl]
  have hq : ∀ i j, i ≠ c → pivM c X i j = X i j := fun i j hic => by unfold pivM rscale; rw [if_neg hic]
  unfold clrM
  by_cases hic : i = c
  · subst hic
    rw [if_neg (by omega), hp]
    by_cases hji : j = i
    · subst hji
      rw [gm_comm, gm_gi _ h, id1, if_pos rfl]
    · rw [hu i j hi (by omega), id1, if_neg (Ne.symm hji), gm_zr]
  · rw [if_pos ⟨hi, hic⟩, hq _ _ hic, hq _ _ hic, hp]
    by_cases hjc : j = c
    · subst hjc
      rw [gm_comm (gi (X j j)), gm_gi _ h, gm_one_r, xor_self', id1, if_neg hic]
    · rw [hu c j hc (by omega), hu i j hi (by omega)]
      show id1 i j ^^^ gm (X i c) (gm (gi (X c c)) (id1 c j)) = id1 i j
      rw [show id1 c j = 0#8 from if_neg (Ne.symm hjc), gm_zr, gm_zr, BitVec.xor_zero]
theorem upTo_swap (n c q : Nat) (hc : c < n) (hq : q < n) (hcq : c ≤ q) (X : Mx) (hu : UpTo n c X) : UpTo n c (rswap c q X) := by
  intro i j hi hj
  show X (swp c q i) j = id1 i j
  unfold swp
  by_cases h1 : i = c
  · rw [if_pos h1, hu q j hq hj, id1, id1, if_neg (by omega), if_neg (by omega)]
  · rw [if_neg h1]
    by_cases h2 : i = q
    · rw [if_pos h2, hu c j hc hj, id1, id1, if_neg (by omega), if_neg (by omega)]
    · rw [if_neg h2]; exact hu i j hi hj
/-- What the elimination has reached in column c. -/
def Reach (n c : Nat) (a X : Mx) : Prop := ∃ T U, Steps n T U ∧ X = T (wide n a) ∧ UpTo n c X
theorem reach_zero (n : Nat) (a : Mx) : Reach n 0 a (wide n a) := ⟨_, _, Steps.refl n, rfl, fun i j _ hj => absurd hj (by omega)⟩
theorem Reach.next {n c q : Nat} {a X : Mx} (h : Reach n c a X) (hc : c < n) (hq : q < n) (hcq : c ≤ q) (h0 : X q c ≠ 0#8) : Reach n (c + 1) a (clrM n c (pivM c (rswap c q X))) := by
  obtain ⟨T, U, h1, rfl, h3⟩ := h
  have hne : rswap c q (T (wide n a)) c c ≠ 0#8 := by
    show T (wide n a) (swp c q c) c ≠ 0#8
    rwa [show swp c q c = q from if_pos rfl]
  obtain ⟨T', U', h4, e⟩ := elim_steps n c hc _ hne
  exact ⟨_, _, (h1.trans (steps_swap n c q hc hq)).trans h4, e, upTo_elim n c hc _ hne (upTo_swap n c q hc hq hcq _ h3)⟩
/-- Steps are stuck: no inverse. -/
def NoInv (n : Nat) (a : Mx) : Prop := ∃ T U k, Steps n T U ∧ Stuck n k (T a)
theorem Reach.stuck {n c : Nat} {a X : Mx} (h : Reach n c a X) (hc : c < n) (h0 : ∀ i, c ≤ i → i < n → X i c = 0#8) : NoInv n a := by
  obtain ⟨T, U, h1, rfl, h3⟩ := h
  have e : ∀ i j, i < n → j < n → T a i j = T (wide n a) i j := fun i j hi hj => h1.1.column a (wide n a) j j (fun i _ => by unfold wide; rw [if_pos hj]) i hi
  exact ⟨T, U, c, h1, hc, fun i j hi hj => by rw [e i j hi (by omega)]; exact h3 i j hi hj, fun i hci hi => by rw [e i c hi hc]; exact h0 i hci hi⟩
/-- v is the inverse of a, on either side. -/
def IsInv (n : Nat) (a v : Mx) : Prop := (∀ i k, i < n → k < n → mm n v a i k = id1 i k) ∧ (∀ i k, i < n → k < n → mm n a v i k = id1 i k)
theorem Reach.done {n : Nat} {a X : Mx} (h : Reach n n a X) : IsInv n a (fun i j => X i (n + j)) ∧ det n a ≠ 0#8 := by
  obtain ⟨T, U, h1, rfl, h3⟩ := h
  have e : ∀ i j, i < n → j < n → T a i j = T (wide n a) i j := fun i j hi hj => h1.1.column a (wide n a) j j (fun i _ => by unfold wide; rw [if_pos hj]) i hi
  have e2 : ∀ i j, i < n → T (wide n a) i (n + j) = T id1 i j := fun i j hi => h1.1.column (wide n a) id1 (n + j) j (fun i _ => by unfold wide; rw [if_neg (by omega), Nat.add_sub_cancel_left]) i hi
  have hu : ∀ i k, i < n → k < n → T a i k = id1 i k := fun i k hi hk => by rw [e i k hi hk]; exact h3 i k hi hk
  obtain ⟨g1, g2⟩ := h1.1.inverse a hu
  refine ⟨⟨fun i k hi hk => ?_, fun i k hi hk => ?_⟩, h1.unit a hu⟩
  · rw [← g1 i k hi hk]; exact mm_congr (fun j _ => e2 i j hi) (fun j _ => rfl)
  · rw [← g2 i k hi hk]; exact mm_congr (fun j _ => rfl) (fun j hj => e2 j k hj)
theorem NoInv.det {n : Nat} {a : Mx} (h : NoInv n a) : det n a = 0#8 := by
  obtain ⟨T, U, k, h1, h2⟩ := h
  exact h1.stuck a h2
/-- Numbers that are not all 0 are taken to nothing. -/
theorem NoInv.kernel {n : Nat} {a : Mx} (h : NoInv n a) : ∃ (v : Nat → BitVec 8) (k : Nat), k < n ∧ v k = 1#8 ∧ ∀ i, i < n → xs n (fun j => gm (a i j) (v j)) = 0#8 := by
  obtain ⟨T, U, k, h1, h2⟩ := h
  obtain ⟨v, hv, h3⟩ := h1.kernel a h2
  exact ⟨v, k, h2.1, hv, h3⟩
theorem NoInv.not {n : Nat} {a u : Mx} (h : NoInv n a) (hu : ∀ i k, i < n → k < n → mm n u a i k = id1 i k) : False := by
  obtain ⟨v, k, hk, hv, h3⟩ := h.kernel
  have h1 := mm_assoc n u a (fun j _ => v j) k 0
  have e1 : mm n (mm n u a) (fun j _ => v j) k 0 = v k := by
    rw [mm_congr (a' := id1) (b' := fun j _ => v j) (fun j hj => hu k j hk hj) (fun j _ => rfl), mm_id_l n _ k 0 hk]
  have e2 : mm n u (mm n a (fun j _ => v j)) k 0 = 0#8 := xs_zero' fun j hj => by
    show gm (u k j) (xs n (fun l => gm (a j l) (v l))) = 0#8
    rw [h3 j hj, gm_zr]
  rw [e1, e2, hv] at h1
  exact absurd h1 (by decide)
theorem IsInv.uniq {n : Nat} {a u v : Mx} (hu : IsInv n a u) (hv : ∀ i k, i < n → k < n → mm n a v i k = id1 i k) (i k : Nat) (hi : i < n) (hk : k < n) : u i k = v i k := by
  have h1 := mm_assoc n u a v i k
  rw [mm_congr (a' := id1) (b' := v) (fun j hj => hu.1 i j hi hj) (fun j _ => rfl), mm_id_l n _ i k hi, mm_congr (a' := u) (b' := id1) (fun j _ => rfl) (fun j hj => hv j k hj hk), mm_id_r n _ i k hk] at h1
  exact h1.symm
end Go.Proofs.YtkfceloaomlhmaaDoor
/- The program's Invert. -/
set_option maxRecDepth 100000
namespace Go.Proofs.YtkfceloaomlhmaaDoor
open Go Go.RowKit

theorem sizeR (w : World) : (sizeOf (Tryd.prog.elem 42)).run Tryd.prog w = .ok 1 w := by kernel_rfl
theorem sl_rows (G n c : Nat) (w : World) (hc : c < n) :
    (slT 42 (.slice (some ⟨G, 0, none⟩) n n) (some (.int .i64 (c : Int))) none none).run Tryd.prog w = .ok (.value (.slice (some ⟨G, c, none⟩) (n - c) (n - c))) w := by
  have h1 := run_sliceAt_slice (P := Tryd.prog) w 42 (.slice (some ⟨G, 0, none⟩) n n) (some (.int .i64 (c : Int))) none none undRows
  rw [run_slice_l (P := Tryd.prog) w 42 (some ⟨G, 0, none⟩) n n undRows .i64 (c : Int) (by omega) (by omega), sizeR] at h1
  simp only [slT, Sem.run_bind, h1, Result.andThen_ok, Sem.run_pure]
  simp only [sliced, Int.toNat_natCast, Nat.mul_one]
  rw [if_neg (by omega)]
  simp [Addr.add]
  omega
theorem sl_bytes (D n m M : Nat) (w : World) (hM : M = n + m) (hm : 0 < m) :
    (slT 22 (.slice (some ⟨D, 0, none⟩) M M) (some (.int .i64 (n : Int))) none none).run Tryd.prog w = .ok (.value (.slice (some ⟨D, n, none⟩) m m)) w := by
  have h1 := run_sliceAt_slice (P := Tryd.prog) w 22 (.slice (some ⟨D, 0, none⟩) M M) (some (.int .i64 (n : Int))) none none und35
  rw [run_slice_l (P := Tryd.prog) w 22 (some ⟨D, 0, none⟩) M M und35 .i64 (n : Int) (by omega) (by omega), sizeB] at h1
  simp only [slT, Sem.run_bind, h1, Result.andThen_ok, Sem.run_pure]
  simp only [sliced, Int.toNat_natCast, Nat.mul_one]
  rw [if_neg (by omega), show M - n = m by omega]
  simp [Addr.add]
  omega
/-- The rows from row c on. -/
def fromL (n m c : Nat) (a : Mx) : List (List (BitVec 8)) := (List.range (n - c)).map fun k => rowL m a (c + k)
theorem fromL_length (n m c : Nat) (a : Mx) : (fromL n m c a).length = n - c := by simp [fromL]
theorem fromL_get (n m c : Nat) (a : Mx) (k : Nat) (h : k < n - c) : (fromL n m c a).getD k [] = rowL m a (c + k) := by simp [fromL, List.getD_eq_getElem?_getD, h]
theorem Mp.from {w : World} {N G n m : Nat} {D : Nat → Nat} {a : Mx} (h : Mp w N G n n m D a) (c : Nat) : Prt w (some ⟨G, c, none⟩) (fromL n m c a) := fun i hi => by
  rw [fromL_length] at hi
  rw [fromL_get _ _ _ _ _ hi, rowL_length]
  exact ⟨G, c, some ⟨D (c + i), 0, none⟩, m, rfl, h.cellH (c + i) (by omega) (by omega), h.sl (c + i) (by omega), (fun e => by cases e), Nat.le_refl _⟩
/-- What Invert gives of a square matrix. -/
def InvPost (w : World) (n : Nat) (a : Mx) (e : Ending) (w' : World) : Prop :=
  (NoInv n a ∧ RetNo w.heap.size w 4 e w') ∨ (det n a ≠ 0#8 ∧ ∃ G v, e = .returned (.tuple #[.slice (some ⟨G, 0, none⟩) n n, .int .i64 0]) ∧ IsInv n a v ∧ Prt w' (some ⟨G, 0, none⟩) (rowsL n n v) ∧ Below w.heap.size w w')
attribute [local go_sem ↓] exec_store exec_make exec_bs exec_slice
attribute [local go_sem] st_B st_I st_b st_H mkB mkR sl_rows
end Go.Proofs.YtkfceloaomlhmaaDoor
/- Invert's errors. -/
set_option maxRecDepth 100000
namespace Go.Proofs.YtkfceloaomlhmaaDoor
open Go Go.RowKit

section
variable (la : List (List (BitVec 8))) (p : Option Addr) (n m cap : Nat) (w : World)
end
end Go.Proofs.YtkfceloaomlhmaaDoor
/- A new field: its tables; rows scaled. -/
set_option maxRecDepth 100000
namespace Go.Proofs.YtkfceloaomlhmaaDoor
open Go Go.RowKit

def z511 : Array Value := (List.replicate 255 (Value.int .u8 0) ++ List.replicate 256 (Value.int .i64 0)).toArray
theorem z511_eq : z511 = tab 511 (fldN 0) := by
  have h : ∀ i, i < 511 → (fldN 0 i) = (if i < 255 then Value.int .u8 0 else Value.int .i64 0) := by
    intro i hi
    unfold fldN
    by_cases h1 : i < 255
    · rw [if_pos h1, if_pos h1, if_neg (by omega), B_0]
    · rw [if_neg h1, if_neg h1, if_neg (by omega)]; rfl
  rw [tab_congr h]
  have e : z511 = tab 511 (fun i => if i < 255 then Value.int .u8 0 else Value.int .i64 0) := by kernel_rfl
  exact e
theorem bdF (w : World) : (bdT 93 #[]).run Tryd.prog w = .ok (.value (.agg z511)) w := by kernel_rfl
theorem bxF (w : World) : (bxT 93 (.agg z511)).run Tryd.prog w = .ok (.value (.pointer (some ⟨w.heap.size, 0, none⟩))) (w.alloc (.cells z511 93)) := by kernel_rfl
theorem fldN_step (k : Nat) (hk : k < 255) (j : Nat) (hj : j < 511) : (if j = 255 + (pw k).toNat then Value.int .i64 (k : Int) else if j = k then B (pw k) else fldN k j) = fldN (k + 1) j := by
  have hX := (pw k).isLt
  have hlg : lgs.getD (pw k).toNat 0 = k := by
    have := lg_pw' k hk
    exact this
  unfold fldN
  by_cases h1 : j < 255
  · rw [if_neg (by omega), if_pos h1, if_pos h1]
    by_cases h2 : j = k
    · subst h2
      rw [if_pos rfl, if_pos (by omega)]
    · rw [if_neg h2]
      by_cases h3 : j < k
      · rw [if_pos h3, if_pos (by omega)]
      · rw [if_neg h3, if_neg (by omega)]
  · rw [if_neg h1, if_neg h1]
    by_cases h2 : j = 255 + (pw k).toNat
    · rw [if_pos h2, h2, Nat.add_sub_cancel_left, hlg, if_pos (by omega)]
    · rw [if_neg h2, if_neg (show ¬ j = k by omega)]
      by_cases h3 : lgs.getD (j - 255) 0 = k
      · by_cases h4 : j - 255 = 0
        · rw [h4]
          have : lgs.getD 0 0 = 0 := rfl
          rw [this]
          simp only [ite_self]
        · exfalso
          have e := pw_lg' (j - 255) (by omega) h4
          rw [h3] at e
          apply h2
          rw [e, BitVec.toNat_ofNat]
          omega
      · by_cases h5 : lgs.getD (j - 255) 0 < k
        · rw [if_pos h5, if_pos (by omega)]
        · rw [if_neg h5, if_neg (by omega)]
attribute [local go_sem ↓] exec_build exec_box exec_store exec_make
attribute [local go_sem] bdF bxF st_B st_I st_b mkB
set_option maxRecDepth 100000 in
set_option maxHeartbeats 2000000 in
theorem new_any (w : World) : Calls Tryd.prog 37 #[] w fun e w' => e = .returned (.pointer (some ⟨w.heap.size, 0, none⟩)) ∧ Fld w' w.heap.size ∧ Below w.heap.size w w' := by
  have hr : Row (w.alloc (.cells z511 93)) w.heap.size 93 511 (fldN 0) := by
    rw [z511_eq]; exact Row.new w _ 511 _
  have hb : Below w.heap.size w (w.alloc (.cells z511 93)) := (Below.refl _ _).alloc (Nat.le_refl _) _
  go_enter Tryd.func37, Tryd.ntmps37
  go_wp2
  generalize w.alloc (.cells z511 93) = w1 at *
  have HR := Lib.hid hr
  have HB := Lib.hid hb
  clear hr hb
  generalize hN : w.heap.size = N at *
  have HN := Lib.hid hN
  clear hN
  go_loopw [2, 6] (fun x i wr => ∃ k : Nat, k ≤ 255 ∧ i = .int .i64 k ∧ x = .int .i64 ((pw k).toNat : Int) ∧ Row wr N 93 511 (fldN k) ∧ Below N w wr) (fun _ i _ => 255 - (intOf i).toNat)
  case atStart => exact ⟨0, Nat.zero_le _, rfl, rfl, HR.out, HB.out⟩
  case round =>
    clear HR HB
    obtain ⟨k, hk, rfl, rfl, hR, hB⟩ := hrel
    have HB := Lib.hid hB
    by_cases hlt : k < 255
    · have hX := (pw k).isLt
      have c1 : (wr.cell? ⟨N, k, none⟩).isSome = true := by rw [hR.cell k (by omega)]; rfl
      have c2 : ∀ v, ((wr.setCell ⟨N, k, none⟩ v).cell? ⟨N, 255 + (pw k).toNat, none⟩).isSome = true := fun v => by
        rw [(hR.set k v).cell _ (by omega)]; rfl
      have c3 : (wr.cell? ⟨N, 255 + (pw k).toNat, none⟩).isSome = true := by rw [hR.cell _ (by omega)]; rfl
      have f1 : ∀ i, wr.frozen? ⟨N, i, none⟩ = false := hR.free
      have f2 : ∀ v i, (wr.setCell ⟨N, k, none⟩ v).frozen? ⟨N, i, none⟩ = false := fun v => (hR.set k v).free
      have HR2 := ((hR.set k (B (pw k))).set (255 + (pw k).toNat) (.int .i64 (k : Int))).congr (fldN_step k hlt)
      rw [B_eq'] at HR2
      replace HR2 := Lib.hid HR2
      have HPN := Lib.hid (pw_next k)
      have hd0 : decide ((k : Int) < 255) = true := decide_eq_true (by omega)
      have HE := Lib.hid (show BitVec.ofNat 8 (pw k).toNat = pw k by rw [BitVec.ofNat_toNat, BitVec.setWidth_eq])
      generalize hXX : (pw k).toNat = X at *
      have HXX := Lib.hid hXX
      have hY := (pw (k + 1)).isLt
      generalize hYY : (pw (k + 1)).toNat = Y at *
      have HYY := Lib.hid hYY
      clear hXX hYY hR hB
      by_cases hb : 255 < 2 * X
      · have hd1 : decide ((255 : Int) < (X : Int) * 2) = true := decide_eq_true (by omega)
        have hx : bits .xor .i64 ((X : Int) * 2) 285 = (Y : Int) := by
          have := HPN.out
          rw [if_pos hb] at this
          rw [show ((X : Int) * 2) = ((2 * X : Nat) : Int) by simp; omega, show (285 : Int) = ((285 : Nat) : Int) from rfl, i64_xor_nat _ _ (by omega) (by decide), this]
        clear hb hY
        go_wp2
        go_roundw
        case rel => exact ⟨k + 1, by omega, by go_num, by rw [HYY.out], HR2.out, (HB.out.setCell (Nat.le_refl _) _).setCell (Nat.le_refl _) _⟩
        case measure => simp [intOf]; omega
      · have hd1 : decide ((255 : Int) < (X : Int) * 2) = false := decide_eq_false (by omega)
        have he : Hid ((X : Int) * 2 = (Y : Int)) := by
          have := HPN.out
          rw [if_neg hb] at this
          show (X : Int) * 2 = (Y : Int)
          omega
        clear hb hY
        go_wp2
        go_roundw
        case rel => exact ⟨k + 1, by omega, by go_num, by rw [HYY.out, he.out], HR2.out, (HB.out.setCell (Nat.le_refl _) _).setCell (Nat.le_refl _) _⟩
        case measure => simp [intOf]; omega
    · obtain rfl : k = 255 := by omega
      have hd0 : decide (((255 : Nat) : Int) < 255) = false := rfl
      have HR := Lib.hid hR
      clear hR hB
      go_wp2
      go_ret
      exact ⟨by rw [HN.out]; rfl, by rw [HN.out]; exact HR.out, by rw [HN.out]; exact HB.out⟩
end Go.Proofs.YtkfceloaomlhmaaDoor
/- The program's Cauchy. -/
set_option maxRecDepth 100000
namespace Go.Proofs.YtkfceloaomlhmaaDoor
open Go Go.RowKit

set_option maxHeartbeats 2000000 in
theorem cauchy_no1 (x : Int) (y : Value) (w : World) (h : permB x = false) : Calls Tryd.prog 36 #[.int .i64 x, y] w (RetNo w.heap.size w 1) := by
  go_enter Tryd.func36, Tryd.ntmps36
  go_wp2_with fail
  refine (permitted_any x w).mono ?_
  rintro e w1 ⟨rfl, rfl⟩
  go_wp2
  go_ret2
  exact ⟨rfl, Below.refl _ _⟩
set_option maxHeartbeats 2000000 in
theorem cauchy_no2 (x y : Int) (w : World) (h : permB x = true) (h2 : permB y = false) : Calls Tryd.prog 36 #[.int .i64 x, .int .i64 y] w (RetNo w.heap.size w 1) := by
  go_enter Tryd.func36, Tryd.ntmps36
  go_wp2_with fail
  refine (permitted_any x w).mono ?_
  rintro e w1 ⟨rfl, rfl⟩
  go_wp2_with fail
  refine (permitted_any y w).mono ?_
  rintro e w1 ⟨rfl, rfl⟩
  go_wp2
  go_ret2
  exact ⟨rfl, Below.refl _ _⟩
/-- The Cauchy matrix. -/
def cau (k : Nat) : Mx := fun i j => gi (BitVec.ofNat 8 (k + i) ^^^ BitVec.ofNat 8 j)
theorem cau_ne (k i j : Nat) (h1 : k + i < 256) (h2 : j < 256) (h3 : k + i ≠ j) : BitVec.ofNat 8 (k + i) ^^^ BitVec.ofNat 8 j ≠ 0#8 := fun e => h3 (by
  have := congrArg BitVec.toNat (xor_eq_zero _ _ e)
  simp only [BitVec.toNat_ofNat] at this
  omega)
attribute [local go_sem ↓] exec_store exec_make exec_bs
attribute [local go_sem] st_B st_I st_b st_H mkB mkR mkM bs2
set_option maxRecDepth 100000 in
set_option maxHeartbeats 16000000 in
theorem cauchy_ok (k m : Nat) (w : World) (hk1 : 1 ≤ k) (hk2 : k ≤ 64) (hm1 : 1 ≤ m) (hm2 : m ≤ 64) : Calls Tryd.prog 36 #[.int .i64 (k : Int), .int .i64 (m : Int)] w (RetOk w.heap.size w m k (cau k)) := by
  have hm8 : m < 100000000 := by omega
  have hk4 : k < 4294967296 := by omega
  have hp : permB (k : Int) = true := decide_eq_true ⟨by omega, by omega⟩
  have hq : permB (m : Int) = true := decide_eq_true ⟨by omega, by omega⟩
  go_enter Tryd.func36, Tryd.ntmps36
  go_wp2_with fail
  refine (permitted_any _ w).mono ?_
  rintro e w' ⟨rfl, rfl⟩
  go_wp2_with fail
  refine (permitted_any _ w).mono ?_
  rintro e w' ⟨rfl, rfl⟩
  go_wp2_with fail
  refine (new_any w).mono ?_
  rintro e w1 ⟨rfl, hF1, hB1⟩
  have hbN : w.heap.size < w1.heap.size := hF1.lt
  have hmat : Mp (w1.alloc (.cells (tab m (fun _ => .slice none 0 0)) 22)) w1.heap.size w1.heap.size m 0 k (fun _ => 0) (cau k) := Mp.zero (Row.new w1 _ m _) (Nat.le_refl _)
  have hb0 : Below w1.heap.size w1 (w1.alloc (.cells (tab m (fun _ => .slice none 0 0)) 22)) := (Below.refl _ _).alloc (Nat.le_refl _) _
  have HF := Lib.hid hF1
  have HB1 := Lib.hid hB1
  have hNb : w.heap.size ≤ w1.heap.size := hB1.size
  clear hF1 hB1
  generalize hb : w.heap.size = b at *
  have HBB := Lib.hid hb
  clear hb
  go_wp2
  generalize w1.alloc (.cells (tab m (fun _ => .slice none 0 0)) 22) = w2 at *
  have HM := Lib.hid hmat
  have HB0 := Lib.hid hb0
  clear hmat hb0
  generalize hN : w1.heap.size = N at *
  have HN := Lib.hid hN
  clear hN
  go_loopw [23] (fun i wr => ∃ i0 : Nat, i0 ≤ m ∧ i = .int .i64 i0 ∧ ∃ D, Mp wr N N m i0 k D (cau k) ∧ Below N w1 wr) (fun i _ => m - (intOf i).toNat)
  case atStart => exact ⟨0, Nat.zero_le _, rfl, _, HM.out, HB0.out⟩
  case round =>
    clear HM HB0
    obtain ⟨i0, hi0, rfl, D, hM, hB⟩ := hrel
    rename World => WO
    have HM := Lib.hid hM
    have HBr := Lib.hid hB
    have hNlt : N < WO.heap.size := hM.ltG
    by_cases hlt : i0 < m
    · have hd0 : decide ((i0 : Int) < (m : Int)) = true := decide_eq_true (by omega)
      have hl0 : (i0 : Int) < (m : Int) := by omega
      have hbA : Below WO.heap.size WO (WO.alloc (.cells (zb k) 5)) := (Below.refl _ _).alloc (Nat.le_refl _) _
      have hr : Row (WO.alloc (.cells (zb k) 5)) WO.heap.size 5 k (fun j => B 0#8) := Row.new WO _ k _
      have hMA := hM.of_below hbA
      have hc2 : WO.cell? ⟨N, i0, none⟩ = some (hdr i0 k D i0) := hM.hds.cell i0 hlt
      have hf2 : WO.frozen? ⟨N, i0, none⟩ = false := hM.free i0
      have hcm : (WO.alloc (.cells (zb k) 5)).cell? ⟨N, i0, none⟩ = some (hdr i0 k D i0) := hMA.hds.cell i0 hlt
      have hMB := hMA.put i0 WO.heap.size (fun _ => 0#8) hr (i0 + 1) (.inr ⟨rfl, rfl⟩) (fun j hj _ => by have := hM.lt j hj; omega) (by omega) (by omega)
      have HB1 := Lib.hid (show Below N w1 ((WO.setCell ⟨N, i0, none⟩ (.slice (some ⟨WO.heap.size, 0, none⟩) k k)).alloc (.cells (zb k) 5)) from ((hB.setCell (Nat.le_refl _) _).alloc (by simp; omega) _))
      have hcomm : (WO.alloc (.cells (zb k) 5)).setCell ⟨N, i0, none⟩ (.slice (some ⟨WO.heap.size, 0, none⟩) k k) = (WO.setCell ⟨N, i0, none⟩ (.slice (some ⟨WO.heap.size, 0, none⟩) k k)).alloc (.cells (zb k) 5) := World.setCell_alloc_past _ N i0 _ hNlt
      rw [hcomm] at hMB
      have HM1 := Lib.hid hMB
      have HEN := Lib.hid hNlt
      have e1 : setD D i0 WO.heap.size i0 = WO.heap.size := if_pos rfl
      have hx1 := hMB.cellH i0 (Nat.lt_succ_self _) hlt
      rw [e1] at hx1
      clear hbA hr hMA hMB hM hB hcomm e1
      go_wp2
      clear hx1 hc2 hf2 hcm
      generalize (WO.setCell ⟨N, i0, none⟩ (.slice (some ⟨WO.heap.size, 0, none⟩) k k)).alloc (.cells (zb k) 5) = w3 at *
      generalize WO.heap.size = E at *
      go_loopw [36] (fun i wr => ∃ j : Nat, j ≤ k ∧ i = .int .i64 j ∧ Mp wr N N m (i0 + 1) k (setD D i0 E) (setr (cau k) i0 (fun x => if x < j then cau k i0 x else 0#8)) ∧ Below N w1 wr) (fun i _ => k - (intOf i).toNat)
      case atStart => exact ⟨0, Nat.zero_le _, rfl, HM1.out.congr fun x y _ _ => by unfold setr; by_cases h : x = i0 <;> simp [h], HB1.out⟩
      case round =>
        clear HM1 HB1
        obtain ⟨j, hj, rfl, hM, hB⟩ := hrel
        rename World => WP
        have HM := Lib.hid hM
        have HB := Lib.hid hB
        by_cases hjk : j < k
        · have hdj : decide ((j : Int) < (k : Int)) = true := decide_eq_true (by omega)
          have hj0 : (j : Int) < (k : Int) := by omega
          have e1 : setD D i0 E i0 = E := if_pos rfl
          have x4 := hM.cellH i0 (Nat.lt_succ_self _) hlt
          have hrow := hM.row i0 (Nat.lt_succ_self _)
          rw [e1] at x4 hrow
          have hNE : N < E := by
            have h1 := hM.lo i0 (Nat.lt_succ_self _)
            have h2 := hM.ne i0 (Nat.lt_succ_self _)
            rw [e1] at h1 h2
            omega
          have HROW := Lib.hid hrow
          have HE1 := Lib.hid e1
          have HFr := Lib.hid (HF.out.below hB hbN)
          have HNEZ := Lib.hid (cau_ne k i0 j (by omega) (by omega) (by omega))
          have b1 : Value.int .u8 ((k : Int) + (i0 : Int)) = B (BitVec.ofNat 8 (k + i0)) := (B_ofNat (k + i0) (by omega)).symm
          have b2 : Value.int .u8 (j : Int) = B (BitVec.ofNat 8 j) := (B_ofNat j (by omega)).symm
          have hcv : ∀ w, (convert 3 5 (.int .i64 ((k : Int) + (i0 : Int)))).run Tryd.prog w = .ok (B (BitVec.ofNat 8 (k + i0))) w := fun w => convIB (k + i0) w
          have hcw : ∀ w, (convert 3 5 (.int .i64 (j : Int))).run Tryd.prog w = .ok (B (BitVec.ofNat 8 j)) w := fun w => convIB j w
          have hw : IntKind.i64.wrap ((k : Int) + (i0 : Int)) = (k : Int) + (i0 : Int) := IntWalk.i64_in _ (by omega)
          have HCAU := Lib.hid (show cau k i0 j = gi (BitVec.ofNat 8 (k + i0) ^^^ BitVec.ofNat 8 j) from rfl)
          generalize BitVec.ofNat 8 (k + i0) = z1 at *
          generalize BitVec.ofNat 8 j = z2 at *
          have hElt : E < WP.heap.size := hrow.lt
          clear hM hB hrow e1
          go_wp2_with fail
          go_region_held3 (fun w' : World => w'.cell? ⟨N, i0, none⟩ = some (.slice (some ⟨E, 0, none⟩) k k)) (first | exact hs1 _ | exact x6 | exact x5 | exact x4 | go_keep) ((first | (go_at_call 48; refine (add_two _ z1 z2 _ _ (by exact Sl_two _ z1 z2 _)).mono ?_; rintro e w5 ⟨rfl, hD5⟩; have hb5 : Below WP.heap.size WP w5 := ((((Below.refl _ _).alloc (Nat.le_refl _) _).drew).trans (hD5.below _)); have x5 : w5.cell? ⟨N, i0, none⟩ = some (.slice (some ⟨E, 0, none⟩) k k) := (by rw [hb5.cell (World.block_lt_of_cell? WP _ x4)]; exact x4); have HB5 := Lib.hid hb5; clear hD5 hb5) | (go_at_call 47; refine (inverse_any b (z1 ^^^ z2) _ (HFr.out.of_below HB5.out) HNEZ.out).mono ?_; rintro e w6 ⟨rfl, hD6⟩; have x6 : w6.cell? ⟨N, i0, none⟩ = some (.slice (some ⟨E, 0, none⟩) k k) := (by rw [hD6.cell]; exact x5); have hr6 := (HROW.out.of_below HB5.out).dr hD6; have c1 : (w6.cell? ⟨E, j, none⟩).isSome = true := (by rw [hr6.cell j (by omega)]; rfl); have f1 : w6.frozen? ⟨E, j, none⟩ = false := hr6.free j; have hs1 : ∀ v, (w6.setCell ⟨E, j, none⟩ v).cell? ⟨N, i0, none⟩ = some (.slice (some ⟨E, 0, none⟩) k k) := (fun v => by rw [World.cell?_setCell_other _ _ _ _ (by intro e; injection e; omega)]; exact x6); have HR6 := Lib.hid hr6; have HD6 := Lib.hid hD6; clear hr6 hD6)))
          go_wp2
          go_roundw
          case rel =>
            have hb6 := HB5.out.trans (HD6.out.below WP.heap.size)
            have hr7 := (HR6.out.set j (B (gi (z1 ^^^ z2)))).congr (g' := fun x => B (if x < j + 1 then cau k i0 x else 0#8)) fun x hx => by
              by_cases h : x = j
              · rw [if_pos h, if_pos (by omega), h, HCAU.out]
              · rw [if_neg h, setr, if_pos rfl]
                by_cases h2 : x < j
                · rw [if_pos h2, if_pos (by omega)]
                · rw [if_neg h2, if_neg (by omega)]
            have hk7 := (((Kp.refl E WP).of_below hb6).setCell j (B (gi (z1 ^^^ z2))))
            have hm7 := HM.out.alter (D := setD D i0 E) i0 (Nat.lt_succ_self _) _ (by rw [HE1.out]; exact hk7) (by rw [HE1.out]; exact hr7)
            refine ⟨j + 1, by omega, by go_num, hm7.congr fun x y _ _ => ?_, HB.out.trans (hk7.below (Nat.le_of_lt hNE) (by omega))⟩
            unfold setr
            by_cases e : x = i0
            · rw [if_pos e, if_pos e]
            · rw [if_neg e, if_neg e, if_neg e]
          case measure => simp [intOf]; omega
        · have hdj : decide ((j : Int) < (k : Int)) = false := decide_eq_false (by omega)
          obtain rfl : j = k := by omega
          clear hM hB
          go_wp2
          go_roundw
          case rel =>
            refine ⟨i0 + 1, by omega, by go_num, _, HM.out.congr fun x y _ hy => ?_, HB.out⟩
            unfold setr
            by_cases e : x = i0
            · rw [if_pos e, e]
              exact if_pos hy
            · rw [if_neg e]
          case measure => simp [intOf]; omega
    · have hd0 : decide ((i0 : Int) < (m : Int)) = false := decide_eq_false (by omega)
      obtain rfl : i0 = m := by omega
      clear hM hB
      go_wp2
      go_ret2
      exact ⟨_, D, rfl, ⟨HM.out.hds, HM.out.row, HM.out.inj, HM.out.ne, fun i hi => Nat.le_trans hNb (HM.out.lo i hi), Nat.le_trans hNb HM.out.loG⟩, HB1.out.trans (HBr.out.mono hNb)⟩
end Go.Proofs.YtkfceloaomlhmaaDoor
/- The reference's Even and Parity. -/
set_option maxRecDepth 100000
namespace Go.Proofs.YtkfceloaomlhmaaDoor
open Go Go.RowKit

/-- As many rows, all of one length. -/
def evB (ls : List (List (BitVec 8))) (k : Nat) : Bool := decide (ls.length = k ∧ ∀ i, i < ls.length → (ls.getD i []).length = (ls.getD 0 []).length)
end Go.Proofs.YtkfceloaomlhmaaDoor
/- The reference's parity. -/
set_option maxRecDepth 100000
namespace Go.Proofs.YtkfceloaomlhmaaDoor
open Go Go.RowKit

/-- One number of the parity, as far as j data shards. -/
def pp (k : Nat) (ls : List (List (BitVec 8))) (i j x : Nat) : BitVec 8 := xs j (fun l => gm (cau k i l) (mx ls l x))
attribute [local go_sem ↓] exec_bs exec_make exec_store
attribute [local go_sem] bs0 bsR st_B st_I st_b mkB
set_option maxRecDepth 100000 in
set_option maxHeartbeats 8000000 in
theorem refParity_any (ls : List (List (BitVec 8))) (p : Option Addr) (k m cap L : Nat) (w : World) (hs : Prt w p ls) (hl : ls.length = k) (hr : ∀ i, i < k → (ls.getD i []).length = L) (hk0 : 1 ≤ k) (hkm : k + m ≤ 200) (hL : L < 1000000) :
    Calls Tryd.prog 17 #[.slice p k cap, .int .i64 (m : Int)] w (RetM w.heap.size w (rowsL m L (mm k (cau k) (mx ls)))) := by
  have HS := Lib.hid hs
  have HL := Lib.hid hl
  have HR := Lib.hid hr
  have hL4 : L < 4294967296 := by omega
  have hk00 : (0 : Int) < (k : Int) := by omega
  obtain ⟨c0, o0, q0, cap0, rfl, hcb0, hcb1, -, -⟩ := hs.at_ 0 (by omega)
  rw [Nat.add_zero, hr 0 (by omega)] at hcb1
  have HCB := Lib.hid hcb1
  clear hs hl hr hcb1
  go_enter Tryd.func17, Tryd.ntmps17
  go_wp2
  generalize hN : w.heap.size = N at *
  have HN := Lib.hid hN
  clear hN
  go_loopw [5, 6] (fun v i wr => ∃ i0 : Nat, i0 ≤ m ∧ i = .int .i64 i0 ∧ (∃ q c, v = .slice q i0 c) ∧ OwnM wr N v ((List.range i0).map (rowL L (mm k (cau k) (mx ls)))) ∧ Below N w wr) (fun _ i _ => m - (intOf i).toNat)
  case atStart => exact ⟨0, Nat.zero_le _, rfl, ⟨none, 0, rfl⟩, by simpa using OwnM.nil w N, Below.refl _ _⟩
  case round =>
    obtain ⟨i0, hi0, rfl, ⟨qv, cv, rfl⟩, hO, hB⟩ := hrel
    rename World => WO
    have HO := Lib.hid hO
    have HBr := Lib.hid hB
    have hNle : N ≤ WO.heap.size := by have := hB.size; have := HN.out; omega
    clear hO hB
    by_cases hlt : i0 < m
    · have hd0 : decide ((i0 : Int) < (m : Int)) = true := decide_eq_true (by omega)
      have hl0 : (i0 : Int) < (m : Int) := by omega
      have hxb : WO.cell? ⟨c0, o0, none⟩ = some (.slice q0 L cap0) := by
        rw [HBr.out.cell (by exact hcb0)]; exact HCB.out
      have hr : Row (WO.alloc (.cells (zb L) 5)) WO.heap.size 5 L (fun j => B 0#8) := Row.new WO _ L _
      have HR0 := Lib.hid (hr.congr (g' := fun x => B (pp k ls i0 0 x)) fun x _ => rfl)
      have HB1 := Lib.hid (show Below WO.heap.size WO (WO.alloc (.cells (zb L) 5)) from (Below.refl _ _).alloc (Nat.le_refl _) _)
      clear hr
      go_wp2
      generalize WO.alloc (.cells (zb L) 5) = w1 at *
      generalize hRR : WO.heap.size = R at *
      have HRR := Lib.hid hRR
      clear hRR
      go_loopw [23] (fun i wr => ∃ j : Nat, j ≤ k ∧ i = .int .i64 j ∧ Row wr R 5 L (fun x => B (pp k ls i0 j x)) ∧ Below R WO wr) (fun i _ => k - (intOf i).toNat)
      case atStart => exact ⟨0, Nat.zero_le _, rfl, HR0.out, HB1.out⟩
      case round =>
        clear HR0 HB1
        obtain ⟨j, hj, rfl, hR, hB⟩ := hrel
        rename World => WP
        have HR0 := Lib.hid (hR.congr (g' := fun x => B (if x < 0 then pp k ls i0 (j + 1) x else pp k ls i0 j x)) fun x _ => by rw [if_neg (by omega)])
        have HB1 := Lib.hid hB
        have HRJ := Lib.hid hR
        clear hR hB
        by_cases hjk : j < k
        · have hdj : decide ((j : Int) < (k : Int)) = true := decide_eq_true (by omega)
          have hj0 : (j : Int) < (k : Int) := by omega
          obtain ⟨cb', ob', qb, cbj, eb, hcbl, hcbj, hsb, -, -⟩ := HS.out.at_ j (by rw [HL.out]; exact hjk)
          injection eb with eb
          injection eb with eb1 eb2
          subst eb1 eb2
          rw [HR.out j hjk] at hcbj
          have HCJ := Lib.hid hcbj
          have HSB := Lib.hid hsb
          clear hcbj hsb
          go_wp2_with fail
          refine (refCauchy_any k i0 j (by omega) (by omega) (by omega) WP).mono ?_
          rintro e w' ⟨rfl, rfl⟩
          have hcau : gi (BitVec.ofNat 8 (k + i0) ^^^ BitVec.ofNat 8 j) = cau k i0 j := rfl
          rw [hcau]
          generalize hcc : cau k i0 j = cc at *
          have HCC := Lib.hid hcc
          clear hcau hcc
          go_wp2
          go_loopw [33] (fun i wr => ∃ x : Nat, x ≤ L ∧ i = .int .i64 x ∧ Row wr R 5 L (fun y => B (if y < x then pp k ls i0 (j + 1) y else pp k ls i0 j y)) ∧ Below R WO wr) (fun i _ => L - (intOf i).toNat)
          case atStart => exact ⟨0, Nat.zero_le _, rfl, HR0.out, HB1.out⟩
          case round =>
            clear HR0 HB1 HRJ
            obtain ⟨x, hx, rfl, hR, hB⟩ := hrel
            have HR0 := Lib.hid hR
            have HB1 := Lib.hid hB
            by_cases hxL : x < L
            · have hdx : decide ((x : Int) < (L : Int)) = true := decide_eq_true (by omega)
              have hx0 : (x : Int) < (L : Int) := by omega
              have hBw : Below N w wr := HBr.out.trans (hB.mono hNle)
              obtain ⟨db, pb, rfl, hyb⟩ := HSB.out x (by rw [HR.out j hjk]; exact hxL)
              have kp : ∀ a : Addr, ∀ v, w.cell? a = some v → wr.cell? a = some v := fun a v h => by
                rw [hBw.cell (by rw [← HN.out]; exact World.block_lt_of_cell? w a h)]; exact h
              have x2 := kp _ _ HCJ.out
              have x4 := kp _ _ hyb
              have x1 : wr.cell? ⟨R, x, none⟩ = some (B (pp k ls i0 j x)) := by
                have := hR.cell x hxL
                rwa [if_neg (by omega)] at this
              have xf : wr.frozen? ⟨R, x, none⟩ = false := hR.free x
              have HST := Lib.hid (show pp k ls i0 (j + 1) x = pp k ls i0 j x ^^^ gm cc ((ls.getD j []).getD x 0#8) from by rw [← HCC.out]; rfl)
              generalize (ls.getD j []).getD x 0#8 = yb at *
              generalize hs0 : pp k ls i0 j x = s0 at *
              have HS0 := Lib.hid hs0
              clear hs0 kp hBw hR hB hyb
              go_wp2
              refine wp_region_still_tail 17 (by kernel_rfl) (by kernel_rfl) ?_
              simp only [List.take_succ_cons, List.take_zero, List.drop_succ_cons, List.drop_zero, World.drew_eq]
              repeat (refine wpStill_step (fun K hK => ?_); go_simp; refine hK _ ?_; clear hK K)
              refine wpStill_step (fun K hK => ?_)
              go_simp
              refine ⟨_, (refMul_any cc yb _).mono (fun e w' ⟨h, h2⟩ => ⟨h, h2.symm⟩), hK _ ?_⟩
              clear hK K
              repeat (refine wpStill_step (fun K hK => ?_); go_simp; refine hK _ ?_; clear hK K)
              refine wpStill_nil ?_
              go_wp2
              go_roundw
              case rel =>
                refine ⟨x + 1, by omega, by go_num, ((HR0.out.set x (B (s0 ^^^ gm cc yb))).congr fun y _ => ?_).drewN 1, below_drewN (HB1.out.setCell (Nat.le_refl _) _) 1⟩
                by_cases h : y = x
                · rw [if_pos h, if_pos (by omega), h, HST.out]
                · rw [if_neg h]
                  by_cases h2 : y < x
                  · rw [if_pos h2, if_pos (by omega)]
                  · rw [if_neg h2, if_neg (by omega)]
              case measure => simp [intOf]; omega
            · have hdx : decide ((x : Int) < (L : Int)) = false := decide_eq_false (by omega)
              obtain rfl : x = L := by omega
              clear hR hB
              go_wp2
              go_roundw
              case rel => exact ⟨j + 1, by omega, by go_num, HR0.out.congr fun y hy => by rw [if_pos hy], HB1.out⟩
              case measure => simp [intOf]; omega
        · have hdj : decide ((j : Int) < (k : Int)) = false := decide_eq_false (by omega)
          obtain rfl : j = k := by omega
          have hrow : Sl WP (some ⟨R, 0, none⟩) (rowL L (mm j (cau j) (mx ls)) i0) := Sl.row HRJ.out (by rw [rowL_length]; exact Nat.le_refl _) (fun x hx => by
            rw [rowL_length] at hx
            rw [rowL_get _ _ _ _ hx]; rfl)
          have hRP : R < WP.heap.size := HRJ.out.lt
          have hB4 : Below WP.heap.size WP (WP.alloc (.cells #[.slice (some ⟨R, 0, none⟩) L L] 22)) := (Below.refl _ _).alloc (Nat.le_refl _) _
          have HO3 := Lib.hid ((HO.out.of_below (show Below WO.heap.size WO WP by rw [HRR.out]; exact HB1.out)).of_below hB4)
          have HCELL := Lib.hid (show (WP.alloc (.cells #[.slice (some ⟨R, 0, none⟩) L L] 22)).cell? ⟨WP.heap.size, 0, none⟩ = some (.slice (some ⟨R, 0, none⟩) L L) by rw [World.cell?_alloc_new]; rfl)
          have HS4 := Lib.hid (hrow.of_below hB4)
          have HQB := Lib.hid (show ∀ b, (some ⟨R, 0, none⟩ : Option Addr) = some b → N ≤ b.block ∧ b.block < (WP.alloc (.cells #[.slice (some ⟨R, 0, none⟩) L L] 22)).heap.size ∧ (Value.slice qv i0 cv).ownBlock ≠ some b.block from fun b hb => by
            injection hb with hb
            subst hb
            refine ⟨hNle, by rw [World.size_alloc]; exact Nat.lt_succ_of_lt hRP, fun e => ?_⟩
            have h2 := (HO.out.lt _ e).2
            rw [HRR.out] at h2
            exact Nat.lt_irrefl _ h2)
          have hN4 : N ≤ (WP.alloc (.cells #[.slice (some ⟨R, 0, none⟩) L L] 22)).heap.size := by rw [World.size_alloc]; omega
          have HB4 := Lib.hid (show Below N w (WP.alloc (.cells #[.slice (some ⟨R, 0, none⟩) L L] 22)) from (HBr.out.trans (HB1.out.mono hNle)).alloc (by omega) _)
          have HLR := Lib.hid (show ((List.range i0).map (rowL L (mm j (cau j) (mx ls)))).length = i0 by simp)
          have HSN := Lib.hid (range_snoc (rowL L (mm j (cau j) (mx ls))) i0)
          clear hrow hB4 HR0
          go_wp2_with (first | (refine wpl_push _ rfl (.tmp 55) (.tmp 57) rfl N (.slice qv i0 cv) _ rfl HO3.out ⟨WP.heap.size, 0, none⟩ rfl (some ⟨R, 0, none⟩) (rowL L (mm j (cau j) (mx ls)) i0) L L HCELL.out (rowL_length _ _ _) HS4.out (fun h => by cases h) (Nat.le_refl _) HQB.out i0 HLR.out (by omega) hN4 ?_; rintro g5 c5 w5 hM5 hg5 ho5 hl5; have HM5 := Lib.hid hM5; have HB5 := Lib.hid (HB4.out.grown hg5 hN4 (fun g hg => (hl5 g hg).1)); clear hM5 hg5 ho5 hl5))
          go_roundw
          case rel => exact ⟨i0 + 1, by omega, by go_num, ⟨_, _, rfl⟩, by rw [HSN.out]; exact HM5.out, HB5.out⟩
          case measure => simp [intOf]; omega
    · have hd0 : decide ((i0 : Int) < (m : Int)) = false := decide_eq_false (by omega)
      obtain rfl : i0 = m := by omega
      go_wp2
      go_ret
      exact ⟨_, rfl, HO.out, HBr.out⟩
end Go.Proofs.YtkfceloaomlhmaaDoor
/- Worlds that go on; a new field. -/
set_option maxRecDepth 100000
namespace Go.Proofs.YtkfceloaomlhmaaDoor
open Go Go.RowKit

theorem bel_step {w0 w w' : World} (h : Below w0.heap.size w0 w) (k : Below w.heap.size w w') : Below w0.heap.size w0 w' := h.trans (k.mono h.size)
theorem bel_dr {w0 w w' : World} (h : Below w0.heap.size w0 w) (k : Dr w w') : Below w0.heap.size w0 w' := h.trans (k.below _)
/-- A new field, where nothing had changed before. -/
theorem newG (w0 w : World) (h : Below w0.heap.size w0 w) : Calls Tryd.prog 37 #[] w fun e w' => e = .returned (.pointer (some ⟨w.heap.size, 0, none⟩)) ∧ Gd w0 w.heap.size w' ∧ Below w.heap.size w w' :=
  (new_any w).mono fun e w' ⟨he, hf, hb⟩ => ⟨he, ⟨hf, bel_step h hb⟩, hb⟩
end Go.Proofs.YtkfceloaomlhmaaDoor
/- Rows and columns cut out of a Cauchy matrix; nothing of the program. -/
set_option maxRecDepth 100000
namespace Go.Proofs.YtkfceloaomlhmaaDoor

/-- Different numbers below m. -/
def Picks (m : Nat) (l : List Nat) : Prop := ∀ i, i < l.length → l.getD i 0 < m ∧ ∀ j, j < i → l.getD i 0 ≠ l.getD j 0
theorem Picks.nil (m : Nat) : Picks m [] := fun i hi => absurd hi (by simp)
theorem Picks.push {m : Nat} {l : List Nat} (h : Picks m l) (a : Nat) (ha : a < m) (hd : ∀ j, j < l.length → l.getD j 0 ≠ a) : Picks m (l ++ [a]) := by
  have e1 : ∀ i, i < l.length → (l ++ [a]).getD i 0 = l.getD i 0 := fun i hi => by simp [List.getD_eq_getElem?_getD, List.getElem?_append_left hi]
  have e2 : (l ++ [a]).getD l.length 0 = a := by simp [List.getD_eq_getElem?_getD]
  intro i hi
  rw [List.length_append] at hi
  have h1 : ([a] : List Nat).length = 1 := rfl
  by_cases h2 : i < l.length
  · rw [e1 i h2]
    exact ⟨(h i h2).1, fun j hj => by rw [e1 j (by omega)]; exact (h i h2).2 j hj⟩
  · obtain rfl : i = l.length := by omega
    rw [e2]
    exact ⟨ha, fun j hj => by rw [e1 j hj]; exact (hd j hj).symm⟩
/-- So far a and b are new. -/
def frB (rl sl : List Nat) (a b j : Nat) : Bool := decide (∀ n, n < j → rl.getD n 0 ≠ a ∧ sl.getD n 0 ≠ b)
theorem fr_zero (rl sl : List Nat) (a b : Nat) : frB rl sl a b 0 = true := decide_eq_true fun n hn => absurd hn (by omega)
theorem fr_next (rl sl : List Nat) (a b j : Nat) (h : frB rl sl a b j = true) (h1 : rl.getD j 0 ≠ a) (h2 : sl.getD j 0 ≠ b) : frB rl sl a b (j + 1) = true := decide_eq_true fun n hn => by
  rcases Nat.lt_or_ge n j with h3 | h3
  · exact of_decide_eq_true h n h3
  · obtain rfl : n = j := by omega
    exact ⟨h1, h2⟩
theorem fr_no1 (rl sl : List Nat) (a b j : Nat) (h1 : rl.getD j 0 = a) : frB rl sl a b (j + 1) = false := decide_eq_false fun g => (g j (by omega)).1 h1
theorem fr_no2 (rl sl : List Nat) (a b j : Nat) (h1 : sl.getD j 0 = b) : frB rl sl a b (j + 1) = false := decide_eq_false fun g => (g j (by omega)).2 h1
theorem fr_still (rl sl : List Nat) (a b j : Nat) (h : frB rl sl a b j = false) : frB rl sl a b (j + 1) = false := decide_eq_false fun g => of_decide_eq_false h fun n hn => g n (by omega)
/-- What is cut out. -/
def cutM (k : Nat) (rl sl : List Nat) : Mx := fun i j => cau k (rl.getD i 0) (sl.getD j 0)
theorem ofNat8_ne (a b : Nat) (ha : a < 256) (hb : b < 256) (h : a ≠ b) : BitVec.ofNat 8 a ≠ BitVec.ofNat 8 b := fun e => h (by
  have := congrArg BitVec.toNat e
  simp only [BitVec.toNat_ofNat] at this
  omega)
theorem picks_ne {m : Nat} {l : List Nat} (h : Picks m l) (i j : Nat) (hi : i < l.length) (hj : j < l.length) (hij : i ≠ j) : l.getD i 0 ≠ l.getD j 0 := by
  rcases Nat.lt_or_gt_of_ne hij with h1 | h1
  · exact ((h j hj).2 i h1).symm
  · exact (h i hi).2 j h1
theorem cut_not (k m t : Nat) (rl sl : List Nat) (hk : k ≤ 64) (hm : m ≤ 64) (hr : Picks m rl) (hs : Picks k sl) (h1 : rl.length = t) (h2 : sl.length = t) : ¬ NoInv t (mx (rowsL t t (cutM k rl sl))) := fun h => by
  obtain ⟨v, l, hl, hv, h3⟩ := h.kernel
  have hrm : ∀ i, i < t → rl.getD i 0 < m := fun i hi => (hr i (by omega)).1
  have hsk : ∀ j, j < t → sl.getD j 0 < k := fun j hj => (hs j (by omega)).1
  have h0 := cauchy_kernel t (fun i => BitVec.ofNat 8 (k + rl.getD i 0)) (fun j => BitVec.ofNat 8 (sl.getD j 0))
    (fun i j hi hj hij => ofNat8_ne _ _ (by have := hrm i hi; omega) (by have := hrm j hj; omega) (fun e => picks_ne hr i j (by omega) (by omega) hij (by omega)))
    (fun i j hi hj hij => ofNat8_ne _ _ (by have := hsk i hi; omega) (by have := hsk j hj; omega) (picks_ne hs i j (by omega) (by omega) hij))
    (fun i j hi hj => ofNat8_ne _ _ (by have := hrm i hi; omega) (by have := hsk j hj; omega) (by have := hsk j hj; omega))
    v (fun i hi => by
      rw [← h3 i hi]
      exact xs_congr fun j hj => by rw [rowsL_mx _ _ _ _ _ hi hj]; rfl) l hl
  rw [hv] at h0
  exact absurd h0 (by decide)
end Go.Proofs.YtkfceloaomlhmaaDoor
