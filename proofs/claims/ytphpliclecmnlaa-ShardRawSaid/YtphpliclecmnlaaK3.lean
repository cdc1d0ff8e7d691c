/- Merged texts: Ask, Good, FAdd, Field, FDiv, Scale, Gd, Two, Prod, Elim, CopyB. -/
import Derived.Lib.Walk
import Derived.Shelf.Abstract
import Derived.Test.YtphpliclecmnlaaK2
import Derived.Test.YtphpliclecmnlaaRows
import Derived.Deep.QuietTactic
import Derived.BigQuiet
import Derived.Deep.RegionWith
import Derived.Deep.LoopGhost
import Derived.Test.YtphpliclecmnlaaK1
import Derived.Deep.RegionHeld3
import Derived.StillTailTactics
import Derived.Deep.RegionLaw
import Derived.Laws.CopyOwn
set_option linter.unusedSimpArgs false
set_option linter.unusedVariables false
/- What the program asks of rows: permitted, equally long, a matrix, the same. -/
namespace Go.Proofs.Ytphpliclecmnlaa
open Go Go.RowKit

/-- The first of n places at which a predicate holds. -/
def Hit (f : Nat → Bool) (n k : Nat) : Prop := k < n ∧ f k = true ∧ ∀ j, j < k → f j = false
def Miss (f : Nat → Bool) (n : Nat) : Prop := ∀ j, j < n → f j = false
theorem hit_or (f : Nat → Bool) (n : Nat) : (∃ k, Hit f n k) ∨ Miss f n := by
  induction n with
  | zero => exact .inr fun j hj => by omega
  | succ n ih =>
    rcases ih with ⟨k, h1, h2⟩ | h
    · exact .inl ⟨k, by omega, h2⟩
    · cases e : f n with
      | true => exact .inl ⟨n, by omega, e, h⟩
      | false =>
        refine .inr fun j hj => ?_
        rcases Nat.lt_or_ge j n with h1 | h1
        · exact h j h1
        · obtain rfl : j = n := by omega
          exact e
/-- The world is that at the start but for draws: here it is that very world. -/
def Asks (g : Nat) (lb : Array Value) (ls : List (List (BitVec 8))) (f : Nat → Bool) (w : World) : Prop :=
  ∀ k, k < ls.length → ∀ q cap, Sl w q (ls.getD k []) → Calls Try.prog g (#[.slice q (ls.getD k []).length cap] ++ lb) w fun e w' => e = .returned (.bool (f k)) ∧ w = w'
set_option maxHeartbeats 2000000 in
theorem index_hit (g : Nat) (lb : Array Value) (eg : ∀ args w, (callFunc g args).run Try.prog w = .ok (.enter g args) w) (ls : List (List (BitVec 8))) (f : Nat → Bool) (p : Option Addr) (n cap t : Nat) (w : World) (hp : Asks g lb ls f w) (hs : Prt w p ls) (hl : ls.length = n) (hn : n < 4294967296)
    (ht : Hit f n t) : Calls Try.prog 46 #[.slice p n cap, .func (.func g) #[] lb] w fun e w' => e = .returned (.int .i64 (t : Int)) ∧ w = w' := by
  have HP := Lib.hid hp
  have HS := Lib.hid hs
  have HL := Lib.hid hl
  have HT := Lib.hid ht
  clear hp hs hl ht
  go_enter Try.func46, Try.ntmps46
  go_wp2
  go_loop [5, 8] (fun _ i => ∃ k : Nat, k ≤ t ∧ i = .int .i64 k) (fun _ i => n - (intOf i).toNat)
  case atStart => exact ⟨0, Nat.zero_le _, rfl⟩
  case round =>
    obtain ⟨k, hk, rfl⟩ := hrel
    have htn := HT.out.1
    have hlt : k < n := by omega
    have hltz : (k : Int) < (n : Int) := by omega
    have hd0 : decide ((k : Int) < (n : Int)) = true := decide_eq_true hltz
    obtain ⟨c, o, q, cap', rfl, -, hc, hsl, -⟩ := HS.out.at_ k (by rw [HL.out]; exact hlt)
    have hcall := HP.out k (by rw [HL.out]; exact hlt) q cap' hsl
    clear hsl
    generalize (ls.getD k []).length = m at *
    by_cases he : k = t
    · rw [show f k = true by rw [he]; exact HT.out.2.1] at hcall
      have HE := Lib.hid he
      clear he
      have HC := Lib.hid hcall
      clear hcall
      go_wp2_with fail
      refine HC.out.mono ?_
      rintro e w' ⟨rfl, rfl⟩
      go_wp2
      go_ret
      exact ⟨by rw [← HE.out]; rfl, rfl⟩
    · rw [show f k = false from HT.out.2.2 k (by omega)] at hcall
      have HC := Lib.hid hcall
      clear hcall
      go_wp2_with fail
      refine HC.out.mono ?_
      rintro e w' ⟨rfl, rfl⟩
      go_wp2
      go_round
      case rel => exact ⟨k + 1, by omega, by go_num⟩
      case measure => simp [intOf]; omega
set_option maxHeartbeats 2000000 in
theorem index_miss (g : Nat) (lb : Array Value) (eg : ∀ args w, (callFunc g args).run Try.prog w = .ok (.enter g args) w) (ls : List (List (BitVec 8))) (f : Nat → Bool) (p : Option Addr) (n cap : Nat) (w : World) (hp : Asks g lb ls f w) (hs : Prt w p ls) (hl : ls.length = n) (hn : n < 9223372036854775808)
    (ht : Miss f n) : Calls Try.prog 46 #[.slice p n cap, .func (.func g) #[] lb] w fun e w' => e = .returned (.int .i64 (-1)) ∧ w = w' := by
  have HP := Lib.hid hp
  have HS := Lib.hid hs
  have HL := Lib.hid hl
  have HT := Lib.hid ht
  clear hp hs hl ht
  go_enter Try.func46, Try.ntmps46
  go_wp2
  go_loop [5, 8] (fun _ i => ∃ k : Nat, k ≤ n ∧ i = .int .i64 k) (fun _ i => n - (intOf i).toNat)
  case atStart => exact ⟨0, Nat.zero_le _, rfl⟩
  case round =>
    obtain ⟨k, hk, rfl⟩ := hrel
    by_cases hlt : k < n
    · have hltz : (k : Int) < (n : Int) := by omega
      have hd0 : decide ((k : Int) < (n : Int)) = true := decide_eq_true hltz
      obtain ⟨c, o, q, cap', rfl, -, hc, hsl, -⟩ := HS.out.at_ k (by rw [HL.out]; exact hlt)
      have hcall := HP.out k (by rw [HL.out]; exact hlt) q cap' hsl
      clear hsl
      generalize (ls.getD k []).length = m at *
      rw [show f k = false from HT.out k hlt] at hcall
      have HC := Lib.hid hcall
      clear hcall
      go_wp2_with fail
      refine HC.out.mono ?_
      rintro e w' ⟨rfl, rfl⟩
      go_wp2
      go_round
      case rel => exact ⟨k + 1, by omega, by go_num⟩
      case measure => simp [intOf]; omega
    · have hd0 : decide ((k : Int) < (n : Int)) = false := decide_eq_false (by omega)
      go_wp2
      go_ret
      exact ⟨rfl, rfl⟩
end Go.Proofs.Ytphpliclecmnlaa
/- The program's Good and Same. -/
namespace Go.Proofs.Ytphpliclecmnlaa
open Go Go.RowKit

section
variable (g : Nat) (lb : Array Value) (eg : ∀ args w, (callFunc g args).run Try.prog w = .ok (.enter g args) w) (ls : List (List (BitVec 8))) (f : Nat → Bool) (p : Option Addr) (n cap : Nat) (w : World) (hp : Asks g lb ls f w) (hs : Prt w p ls) (hl : ls.length = n) (hn : n < 4294967296)
include eg hp hs hl hn
theorem contains_hit (t : Nat) (ht : Hit f n t) : Calls Try.prog 30 #[.slice p n cap, .func (.func g) #[] lb] w fun e w' => e = .returned (.bool true) ∧ w = w' := by
  have HC := Lib.hid (index_hit g lb eg ls f p n cap t w hp hs hl hn ht)
  clear hp hs hl ht
  go_enter Try.func30, Try.ntmps30
  go_wp2_with fail
  refine HC.out.mono ?_
  rintro e w' ⟨rfl, rfl⟩
  have hd : decide ((0 : Int) ≤ (t : Int)) = true := decide_eq_true (by omega)
  go_wp2
  go_ret
  exact ⟨rfl, rfl⟩
theorem contains_miss (ht : Miss f n) : Calls Try.prog 30 #[.slice p n cap, .func (.func g) #[] lb] w fun e w' => e = .returned (.bool false) ∧ w = w' := by
  have HC := Lib.hid (index_miss g lb eg ls f p n cap w hp hs hl (by omega) ht)
  clear hp hs hl ht
  go_enter Try.func30, Try.ntmps30
  go_wp2_with fail
  refine HC.out.mono ?_
  rintro e w' ⟨rfl, rfl⟩
  go_wp2
  go_ret
  exact ⟨rfl, rfl⟩
end
theorem enters_eq : ∀ args w, (callFunc 55 args).run Try.prog w = .ok (.enter 55 args) w := enters_of Try.func55 (by kernel_rfl) rfl
theorem long_any (b c o n m m0 cap cap0 cap1 : Nat) (q q0 : Option Addr) (w : World) (h1 : w.cell? ⟨b, 0, none⟩ = some (.slice (some ⟨c, o, none⟩) n cap)) (h2 : w.cell? ⟨c, o, none⟩ = some (.slice q0 m0 cap0)) (hn : 0 < n) :
    Calls Try.prog 55 #[.slice q m cap1, .pointer (some ⟨b, 0, none⟩)] w fun e w' => e = .returned (.bool (decide (m ≠ m0))) ∧ w = w' := by
  have hn0 : (0 : Int) < (n : Int) := by omega
  by_cases h : m = m0
  · have hb : ((m : Int) != (m0 : Int)) = false := by simp; omega
    have hf : Hid (decide (m ≠ m0) = false) := decide_eq_false fun e => e h
    clear h
    go_enter Try.func55, Try.ntmps55
    go_wp2
    go_ret
    exact ⟨by rw [hf.out]; rfl, rfl⟩
  · have hb : ((m : Int) != (m0 : Int)) = true := by simp; omega
    have hb2 : ((m : Int) == (m0 : Int)) = false := by simp; omega
    have hb3 : decide (m = m0) = false := decide_eq_false h
    have hf : Hid (decide (m ≠ m0) = true) := decide_eq_true h
    clear h
    go_enter Try.func55, Try.ntmps55
    go_wp2
    go_ret
    exact ⟨by rw [hf.out]; rfl, rfl⟩
/-- All rows are as long as the first. -/
def eqB (ls : List (List (BitVec 8))) : Bool := decide (∀ i, i < ls.length → (ls.getD i []).length = (ls.getD 0 []).length)
theorem Good.eq {ls : List (List (BitVec 8))} {n m : Nat} (h : Good ls n m) : eqB ls = true := decide_eq_true fun i hi => by rw [h.head]; exact h.rows i (by rw [← h.len]; exact hi)
def oddB (ls : List (List (BitVec 8))) (k : Nat) : Bool := decide ((ls.getD k []).length ≠ (ls.getD 0 []).length)
theorem eq_long_any (ls : List (List (BitVec 8))) (p : Option Addr) (n cap : Nat) (w : World) (hs : Prt w p ls) (hl : ls.length = n) (hn : n < 4294967296) :
    Calls Try.prog 43 #[.slice p n cap] w fun e w' => e = .returned (.bool (eqB ls)) ∧ Below w.heap.size w w' := by
  have hB : Below w.heap.size w (w.alloc (.cells #[.slice p n cap] 23)) := (Below.refl _ _).alloc (Nat.le_refl _) _
  have hask : Asks 55 #[.pointer (some ⟨w.heap.size, 0, none⟩)] ls (oddB ls) (w.alloc (.cells #[.slice p n cap] 23)) := by
    intro k hk q cap' hsl
    obtain ⟨c, o, q0, cap0, rfl, hc0, hc, -, -⟩ := hs.at_ 0 (by omega)
    rw [Nat.add_zero] at hc
    exact long_any w.heap.size c o n _ _ cap cap0 cap' q q0 _ (by rw [World.cell?_alloc_new]; rfl) (by rw [hB.cell (by exact hc0)]; exact hc) (by omega)
  have hs' := hs.of_below hB
  have HB := Lib.hid hB
  have HA := Lib.hid hask
  have HS := Lib.hid hs'
  have HL := Lib.hid hl
  rcases hit_or (oddB ls) n with ⟨t, ht⟩ | ht
  · have hf : Hid (eqB ls = false) := decide_eq_false fun h => by
      have h1 := ht.2.1
      exact of_decide_eq_true h1 (h t (by rw [hl]; exact ht.1))
    have HT := Lib.hid ht
    clear ht hs hl hB hask hs'
    go_enter Try.func43, Try.ntmps43
    go_wp2_with fail
    refine (contains_hit _ _ enters_eq ls (oddB ls) p n cap _ HA.out HS.out HL.out hn t HT.out).mono ?_
    rintro e w' ⟨rfl, rfl⟩
    go_wp2
    go_ret
    exact ⟨by rw [hf.out]; rfl, HB.out⟩
  · have hf : Hid (eqB ls = true) := decide_eq_true fun i hi => Decidable.byContradiction fun e => by
      have h1 := ht i (by omega)
      exact of_decide_eq_false h1 e
    have HT := Lib.hid ht
    clear ht hs hl hB hask hs'
    go_enter Try.func43, Try.ntmps43
    go_wp2_with fail
    refine (contains_miss _ _ enters_eq ls (oddB ls) p n cap _ HA.out HS.out HL.out hn HT.out).mono ?_
    rintro e w' ⟨rfl, rfl⟩
    go_wp2
    go_ret
    exact ⟨by rw [hf.out]; rfl, HB.out⟩
theorem goodB_false (ls : List (List (BitVec 8))) (h : ¬ (permB (ls.length : Int) = true ∧ permB ((ls.getD 0 []).length : Int) = true ∧ eqB ls = true)) : goodB ls = false := decide_eq_false fun g => h
  ⟨decide_eq_true ⟨by omega, by omega⟩, decide_eq_true ⟨by omega, by omega⟩, decide_eq_true g.2.2.2.2⟩
theorem goodB_true (ls : List (List (BitVec 8))) (h1 : permB (ls.length : Int) = true) (h2 : permB ((ls.getD 0 []).length : Int) = true) (h3 : eqB ls = true) : goodB ls = true := by
  have g1 := of_decide_eq_true h1
  have g2 := of_decide_eq_true h2
  exact decide_eq_true ⟨by omega, by omega, by omega, by omega, of_decide_eq_true h3⟩
set_option maxHeartbeats 1000000 in
theorem good_any (ls : List (List (BitVec 8))) (p : Option Addr) (n cap : Nat) (w : World) (hs : Prt w p ls) (hl : ls.length = n) (hn : n < 4294967296) :
    Calls Try.prog 42 #[.slice p n cap] w fun e w' => e = .returned (.bool (goodB ls)) ∧ Below w.heap.size w w' := by
  have HS := Lib.hid hs
  have HL := Lib.hid hl
  by_cases h1 : permB (n : Int) = true
  · have hn1 := of_decide_eq_true h1
    obtain ⟨c, o, q, cap0, rfl, -, hc, -, -⟩ := hs.at_ 0 (by omega)
    rw [Nat.add_zero] at hc
    have hi0 : (0 : Int) < (n : Int) := by omega
    generalize hm : (ls.getD 0 []).length = m at *
    have HM := Lib.hid hm
    by_cases h2 : permB (m : Int) = true
    · have HE := Lib.hid (eq_long_any ls _ n cap w hs hl hn)
      have hf : Hid (goodB ls = eqB ls) := by
        show goodB ls = eqB ls
        cases e : eqB ls with
        | true => exact goodB_true ls (by rw [hl]; exact h1) (by rw [hm]; exact h2) e
        | false => exact goodB_false ls fun h => by rw [h.2.2] at e; cases e
      clear hs hl hm hn1
      go_enter Try.func42, Try.ntmps42
      go_wp2_with fail
      refine (permitted_any _ w).mono ?_
      rintro e w' ⟨rfl, rfl⟩
      go_wp2_with fail
      refine (permitted_any _ w).mono ?_
      rintro e w' ⟨rfl, rfl⟩
      go_wp2_with fail
      refine HE.out.mono ?_
      rintro e w' ⟨rfl, hB⟩
      go_wp2
      go_ret
      exact ⟨by rw [hf.out]; rfl, hB⟩
    · have hf : Hid (goodB ls = false) := goodB_false ls fun h => h2 (by rw [← hm]; exact h.2.1)
      have h2' : permB (m : Int) = false := by simpa using h2
      clear hs hl hm h2 hn1
      go_enter Try.func42, Try.ntmps42
      go_wp2_with fail
      refine (permitted_any _ w).mono ?_
      rintro e w' ⟨rfl, rfl⟩
      go_wp2_with fail
      refine (permitted_any _ w).mono ?_
      rintro e w' ⟨rfl, rfl⟩
      go_wp2
      go_ret
      exact ⟨by rw [hf.out]; rfl, Below.refl _ _⟩
  · have hf : Hid (goodB ls = false) := goodB_false ls fun h => h1 (by rw [← hl]; exact h.1)
    have h1' : permB (n : Int) = false := by simpa using h1
    clear hs hl h1
    go_enter Try.func42, Try.ntmps42
    go_wp2_with fail
    refine (permitted_any _ w).mono ?_
    rintro e w' ⟨rfl, rfl⟩
    go_wp2
    go_ret
    exact ⟨by rw [hf.out]; rfl, Below.refl _ _⟩
end Go.Proofs.Ytphpliclecmnlaa
/- The program's field: sums of any number of bytes. -/
namespace Go.Proofs.Ytphpliclecmnlaa
open Go Go.RowKit

/-- The sum of all. -/
def sm (l : List (BitVec 8)) : BitVec 8 := l.foldl (· ^^^ ·) 0#8
theorem sm_snoc (l : List (BitVec 8)) (x : BitVec 8) : sm (l ++ [x]) = sm l ^^^ x := by simp [sm]
set_option maxHeartbeats 1000000 in
theorem add_any (f : Value) (l : List (BitVec 8)) (p : Option Addr) (n cap : Nat) (w : World) (hs : Sl w p l) (hl : l.length = n) (hn : n < 4294967296) :
    Calls Try.prog 41 #[f, .slice p n cap] w fun e w' => e = .returned (B (sm l)) ∧ Dr w w' := by
  have HS := Lib.hid hs
  have HL := Lib.hid hl
  clear hs hl
  go_enter Try.func41, Try.ntmps41
  go_wp2
  go_loopw [5, 10] (fun r i wr => ∃ k : Nat, k ≤ n ∧ i = .int .i64 k ∧ r = B (sm (l.take k)) ∧ Dr w wr) (fun _ i _ => n - (intOf i).toNat)
  case atStart => exact ⟨0, Nat.zero_le _, rfl, by simp [sm, B_0], Dr.refl _⟩
  case round =>
    obtain ⟨k, hk, rfl, rfl, hD⟩ := hrel
    have HD := Lib.hid hD
    by_cases hlt : k < n
    · obtain ⟨c, o, rfl, hc⟩ := HS.out k (by rw [HL.out]; exact hlt)
      have hx : wr.cell? ⟨c, o + k, none⟩ = some (B (l.getD k 0#8)) := by rw [hD.cell]; exact hc
      have hT := Lib.hid (take_getD l 0#8 k (by rw [HL.out]; exact hlt))
      have hd0 : decide ((k : Int) < (n : Int)) = true := decide_eq_true (by omega)
      have hl0 : (k : Int) < (n : Int) := by omega
      generalize l.getD k 0#8 = x at *
      clear hD hc
      go_wp2
      go_roundw
      case rel => exact ⟨k + 1, by omega, by go_num, by rw [hT.out, sm_snoc], HD.out⟩
      case measure => simp [intOf]; omega
    · have hd0 : decide ((k : Int) < (n : Int)) = false := decide_eq_false (by omega)
      have he : Hid (l.take k = l) := by show l.take k = l; exact List.take_of_length_le (by rw [HL.out]; omega)
      clear hD
      go_wp2
      go_ret
      exact ⟨by rw [he.out]; rfl, HD.out⟩
end Go.Proofs.Ytphpliclecmnlaa
/- The program's field: its tables in memory, products, quotients and powers. -/
namespace Go.Proofs.Ytphpliclecmnlaa
open Go Go.RowKit

theorem ixA (a : Addr) (x : BitVec 8) (w : World) : (Instr.indexAt 72 (.pointer (some a)) (B x)).run Try.prog w = .ok (.pointer (some (a.add x.toNat))) w :=
  run_indexAt_B 72 3 256 a x (by kernel_rfl) x.isLt (by kernel_rfl)
attribute [local go_sem] ixA
/-- The cells of a field behind n powers. -/
def fldN (n i : Nat) : Value := if i < 255 then (if i < n then B (pw i) else B 0#8) else .int .i64 ((if lgs.getD (i - 255) 0 < n then lgs.getD (i - 255) 0 else 0 : Nat) : Int)
/-- Block b is a field. -/
def Fld (w : World) (b : Nat) : Prop := Row w b 74 511 (fldN 255)
theorem Fld.lt {w : World} {b : Nat} (h : Fld w b) : b < w.heap.size := Row.lt h
theorem Fld.pow {w : World} {b : Nat} (h : Fld w b) (n : Nat) (hn : n < 255) : w.cell? ⟨b, n, none⟩ = some (B (pw n)) := by
  have := Row.cell h n (by omega)
  rw [this, fldN, if_pos hn, if_pos hn]
theorem Fld.log {w : World} {b : Nat} (h : Fld w b) (x : BitVec 8) : w.cell? ⟨b, 255 + x.toNat, none⟩ = some (.int .i64 (lg x : Int)) := by
  have := Row.cell h (255 + x.toNat) (by have := x.isLt; omega)
  have hl := lg_lt x
  rw [this, fldN, if_neg (by omega), Nat.add_sub_cancel_left]
  show some (Value.int .i64 ((if lg x < 255 then lg x else 0 : Nat) : Int)) = _
  rw [if_pos hl]
theorem Fld.of_below {w w' : World} {b : Nat} (h : Fld w b) (k : Below w.heap.size w w') : Fld w' b := Row.of_below h k
theorem Fld.below {w w' : World} {b N : Nat} (h : Fld w b) (k : Below N w w') (hb : b < N) : Fld w' b := Row.below h k hb
theorem Fld.dr {w w' : World} {b : Nat} (h : Fld w b) (k : Dr w w') : Fld w' b := Row.dr h k

theorem power_any (b n : Nat) (w : World) (h : Fld w b) (hn : n < 4294967296) :
    Calls Try.prog 60 #[.pointer (some ⟨b, 0, none⟩), .int .i64 n] w fun e w' => e = .returned (B (pw n)) ∧ w = w' := by
  have hc := h.pow (n % 255) (Nat.mod_lt _ (by decide))
  have hlt : n % 255 < 255 := Nat.mod_lt _ (by decide)
  rw [pw_mod] at hc
  have HC := Lib.hid hc
  clear h hc
  go_enter Try.func60, Try.ntmps60
  have hc := HC.out
  go_wp2
  go_ret
  exact ⟨rfl, rfl⟩
theorem power_at (b : Nat) (m : Int) (w : World) (h : Fld w b) (h0 : 0 ≤ m) (hn : m < 4294967296) :
    Calls Try.prog 60 #[.pointer (some ⟨b, 0, none⟩), .int .i64 m] w fun e w' => e = .returned (B (pw m.toNat)) ∧ w' = w := by
  obtain ⟨n, rfl⟩ := Int.eq_ofNat_of_zero_le h0
  exact (power_any b n w h (by omega)).mono fun e w' ⟨he, hw⟩ => ⟨he, hw.symm⟩
set_option maxHeartbeats 1000000 in
theorem times_any (b : Nat) (x y : BitVec 8) (w : World) (h : Fld w b) :
    Calls Try.prog 62 #[.pointer (some ⟨b, 0, none⟩), B x, B y] w fun e w' => e = .returned (B (gm x y)) ∧ Dr w w' := by
  have HF := Lib.hid h
  have hx := h.log x
  have hy := h.log y
  have lx := lg_lt x
  have ly := lg_lt y
  have isum : IntKind.i64.wrap ((lg x : Int) + (lg y : Int)) = (lg x : Int) + (lg y : Int) := IntWalk.i64_in _ (by omega)
  have hn : (lg x : Int) + (lg y : Int) < 4294967296 := by omega
  have HX := Lib.hid hx
  have HY := Lib.hid hy
  have HS := Lib.hid isum
  have HN := Lib.hid hn
  clear hx hy lx ly h isum hn
  by_cases zx : x = 0#8
  · have ex : (x == 0#8) = true := by simpa using zx
    have HZ := Lib.hid zx
    clear zx
    go_enter Try.func62, Try.ntmps62
    go_wp2
    go_ret
    exact ⟨by rw [HZ.out, gm_zl, B_0]; rfl, Dr.refl _⟩
  · have ex : (x == 0#8) = false := by simpa using zx
    by_cases zy : y = 0#8
    · have ey : (y == 0#8) = true := by simpa using zy
      have HZ := Lib.hid zy
      clear zx zy
      go_enter Try.func62, Try.ntmps62
      go_wp2
      go_ret
      exact ⟨by rw [HZ.out, gm_zr, B_0]; rfl, Dr.refl _⟩
    · have ey : (y == 0#8) = false := by simpa using zy
      have eg : gm x y = pw (lg x + lg y) := by unfold gm; rw [if_neg (by simp [zx, zy])]
      have HG := Lib.hid eg
      clear eg zx zy
      go_enter Try.func62, Try.ntmps62
      go_wp2
      have hx := HX.out
      have hy := HY.out
      have isum := HS.out
      go_quiet ((go_at_call 60; exact Calls.quiet_of_same (power_at _ _ _ HF.out (by omega) HN.out)))
      go_wp2
      go_ret
      exact ⟨by rw [HG.out]; rfl, Dr.drewN (Dr.refl _) _⟩
end Go.Proofs.Ytphpliclecmnlaa
/- The program's field: quotients. -/
namespace Go.Proofs.Ytphpliclecmnlaa
open Go Go.RowKit

attribute [local go_sem] ixA
/-- A byte and an error's number. -/
def be (x : BitVec 8) (e : Nat) : Ending := .returned (.tuple #[B x, .int .i64 (e : Int)])
theorem ret_be {v w : Value} {x : BitVec 8} {e : Nat} (h : v = B x) (k : w = .int .i64 (e : Int)) : Ending.returned (.tuple #[v, w]) = be x e := by rw [h, k]; rfl
set_option maxHeartbeats 1000000 in
theorem div_zero (b : Nat) (x : BitVec 8) (w : World) :
    Calls Try.prog 54 #[.pointer (some ⟨b, 0, none⟩), B x, B 0#8] w fun e w' => e = be 0#8 3 ∧ w = w' := by
  go_enter Try.func54, Try.ntmps54
  go_wp2
  go_ret2
  exact ⟨ret_be B_0.symm rfl, rfl⟩
set_option maxHeartbeats 1000000 in
theorem div_any (b : Nat) (x y : BitVec 8) (w : World) (h : Fld w b) (hy0 : y ≠ 0#8) :
    Calls Try.prog 54 #[.pointer (some ⟨b, 0, none⟩), B x, B y] w fun e w' => e = be (gd x y) 0 ∧ Dr w w' := by
  have HF := Lib.hid h
  have hx := h.log x
  have hy := h.log y
  have lx := lg_lt x
  have ly := lg_lt y
  have i1 : IntKind.i64.wrap ((lg x : Int) + 255) = (lg x : Int) + 255 := IntWalk.i64_in _ (by omega)
  have i2 : IntKind.i64.wrap ((lg x : Int) + 255 - (lg y : Int)) = (lg x : Int) + 255 - (lg y : Int) := IntWalk.i64_in _ (by omega)
  have hn : 0 ≤ (lg x : Int) + 255 - (lg y : Int) ∧ (lg x : Int) + 255 - (lg y : Int) < 4294967296 := by omega
  have HX := Lib.hid hx
  have HY := Lib.hid hy
  have H1 := Lib.hid i1
  have H2 := Lib.hid i2
  have HN := Lib.hid hn
  have he : Hid (((lg x : Int) + 255 - (lg y : Int)).toNat = lg x + 255 - lg y) := by show ((lg x : Int) + 255 - (lg y : Int)).toNat = lg x + 255 - lg y; omega
  have ey : (y == 0#8) = false := by simpa using hy0
  clear hx hy lx ly h i1 i2 hn
  by_cases zx : x = 0#8
  · have ex : (x == 0#8) = true := by simpa using zx
    have HZ := Lib.hid zx
    clear zx hy0
    go_enter Try.func54, Try.ntmps54
    go_wp2
    go_ret2
    exact ⟨ret_be (by rw [HZ.out, gd, gm_zl, B_0]; rfl) rfl, Dr.refl _⟩
  · have ex : (x == 0#8) = false := by simpa using zx
    have HG := Lib.hid (gd_log x y zx hy0)
    clear zx hy0
    go_enter Try.func54, Try.ntmps54
    go_wp2
    have hx := HX.out
    have hy := HY.out
    have i1 := H1.out
    have i2 := H2.out
    go_quiet ((go_at_call 60; exact Calls.quiet_of_same (power_at _ _ _ HF.out HN.out.1 HN.out.2)))
    go_wp2
    go_ret2
    exact ⟨ret_be (by rw [HG.out, ← he.out]; rfl) rfl, Dr.drewN (Dr.refl _) _⟩
end Go.Proofs.Ytphpliclecmnlaa
/- Rows scaled by the program's field. -/
namespace Go.Proofs.Ytphpliclecmnlaa
open Go Go.RowKit

attribute [local go_sem ↓] exec_store exec_make exec_bs
attribute [local go_sem] st_B st_I st_b mkB
set_option maxHeartbeats 2000000 in
theorem scale_any (b : Nat) (by_ : BitVec 8) (l : List (BitVec 8)) (p : Option Addr) (n cap : Nat) (w : World) (h : Fld w b) (hs : Sl w p l) (hl : l.length = n) (hn : n < 4294967296) :
    Calls Try.prog 61 #[.pointer (some ⟨b, 0, none⟩), B by_, .slice p n cap] w fun e w' =>
      e = .returned (.slice (some ⟨w.heap.size, 0, none⟩) n n) ∧ Row w' w.heap.size 5 n (fun j => B (gm by_ (l.getD j 0#8))) ∧ Below w.heap.size w w' := by
  have HF := Lib.hid h
  have HS := Lib.hid hs
  have HL := Lib.hid hl
  have hr : Row (w.alloc (.cells (zb n) 5)) w.heap.size 5 n (fun j => B 0#8) := Row.new w _ n _
  have hb : Below w.heap.size w (w.alloc (.cells (zb n) 5)) := (Below.refl _ _).alloc (Nat.le_refl _) _
  clear h hs hl
  go_enter Try.func61, Try.ntmps61
  go_wp2
  generalize w.alloc (.cells (zb n) 5) = w1 at *
  have HR := Lib.hid (hr.congr fun j _ => upto_zero (fun j => gm by_ (l.getD j 0#8)) j)
  have HB := Lib.hid hb
  clear hr hb
  generalize hN : w.heap.size = N at *
  have HN := Lib.hid hN
  clear hN
  go_loopw [15] (fun i wr => ∃ k : Nat, k ≤ n ∧ i = .int .i64 k ∧ Row wr N 5 n (upto (fun j => gm by_ (l.getD j 0#8)) k) ∧ Below N w wr) (fun i _ => n - (intOf i).toNat)
  case atStart => exact ⟨0, Nat.zero_le _, rfl, HR.out, HB.out⟩
  case round =>
    clear HR HB
    obtain ⟨k, hk, rfl, hR, hB⟩ := hrel
    have HB := Lib.hid hB
    have HR := Lib.hid hR
    by_cases hlt : k < n
    · obtain ⟨c, o, rfl, hc⟩ := HS.out k (by rw [HL.out]; exact hlt)
      have hx : wr.cell? ⟨c, o + k, none⟩ = some (B (l.getD k 0#8)) := by
        rw [hB.cell (by rw [← HN.out]; exact World.block_lt_of_cell? w _ hc)]; exact hc
      have hd0 : decide ((k : Int) < (n : Int)) = true := decide_eq_true (by omega)
      have hl0 : (k : Int) < (n : Int) := by omega
      have HST := Lib.hid (fun j (_ : j < n) => upto_step (fun j => gm by_ (l.getD j 0#8)) k j)
      generalize hxx : l.getD k 0#8 = x at *
      have HXX := Lib.hid hxx
      have hbN : b < N := by rw [← HN.out]; exact HF.out.lt
      have HFr := Lib.hid (HF.out.below hB hbN)
      clear hR hB hc hxx
      go_wp2_with fail
      refine (times_any b by_ x wr HFr.out).mono ?_
      rintro e w2 ⟨rfl, hD2⟩
      have hR2 := HR.out.dr hD2
      have c1 : (w2.cell? ⟨N, k, none⟩).isSome = true := by rw [hR2.cell k (by omega)]; rfl
      have f1 : ∀ i, w2.frozen? ⟨N, i, none⟩ = false := hR2.free
      have HR2 := Lib.hid (hR2.set k (B (gm by_ x)))
      have HB2 := Lib.hid (HB.out.trans (hD2.below N))
      clear hR2 hD2
      go_wp2
      go_roundw
      case rel => exact ⟨k + 1, by omega, by go_num, HR2.out.congr HST.out, HB2.out.setCell (Nat.le_refl _) _⟩
      case measure => simp [intOf]; omega
    · have hd0 : decide ((k : Int) < (n : Int)) = false := decide_eq_false (by omega)
      have he : Hid (k = n) := by show k = n; omega
      clear hR hB
      go_wp2
      go_ret
      refine ⟨by rw [HN.out]; rfl, ?_, by rw [HN.out]; exact HB.out⟩
      rw [HN.out]
      have := HR.out
      rw [he.out] at this
      exact this.congr fun j hj => upto_full _ _ _ hj
end Go.Proofs.Ytphpliclecmnlaa
/- The field stays, and nothing that was there changes. -/
namespace Go.Proofs.Ytphpliclecmnlaa
open Go Go.RowKit

/-- Block b is a field; of what w0 held nothing has changed. -/
def Gd (w0 : World) (b : Nat) (w : World) : Prop := Fld w b ∧ Below w0.heap.size w0 w
section
variable {w0 w w' : World} {b : Nat}
theorem Gd.bel (h : Gd w0 b w) : Below w0.heap.size w0 w := h.2
theorem Gd.size (h : Gd w0 b w) : w0.heap.size ≤ w.heap.size := h.2.size
theorem Gd.step (h : Gd w0 b w) (k : Below w.heap.size w w') : Gd w0 b w' := ⟨h.1.of_below k, h.2.trans (k.mono h.size)⟩
theorem Gd.alloc (h : Gd w0 b w) (o : Obj) : Gd w0 b (w.alloc o) := h.step ((Below.refl _ _).alloc (Nat.le_refl _) _)
theorem Gd.dr (h : Gd w0 b w) (k : Dr w w') : Gd w0 b w' := ⟨h.1.dr k, h.2.trans (k.below _)⟩
theorem Gd.drew (h : Gd w0 b w) : Gd w0 b w.drew := h.dr ((Dr.refl _).drew)
theorem Gd.drewN (h : Gd w0 b w) (n : Nat) : Gd w0 b (w.drewN n) := h.dr ((Dr.refl _).drewN n)
end
theorem Sl_lit (w : World) (l : List (BitVec 8)) (cs : Array Value) (T : TypeId) (h : cs = (l.map B).toArray) : Sl (w.alloc (.cells cs T)) (some ⟨w.heap.size, 0, none⟩) l := fun j hj => by
  refine ⟨w.heap.size, 0, rfl, ?_⟩
  rw [Nat.zero_add, World.cell?_alloc_new, h]
  simp [List.getD_eq_getElem?_getD, hj]
end Go.Proofs.Ytphpliclecmnlaa
/- The program's field: the sum of two bytes, and inverses, as package matrix calls them. -/
namespace Go.Proofs.Ytphpliclecmnlaa
open Go Go.RowKit

theorem bs2 (x y : BitVec 8) (w : World) : (bsT 38 2 #[(0, B x), (1, B y)]).run Try.prog w = .ok (.value (.slice (some ⟨w.heap.size, 0, none⟩) 2 2)) (w.alloc (.cells #[B x, B y] 5)) := by kernel_rfl
theorem Sl_two (w : World) (x y : BitVec 8) (T : TypeId) : Sl (w.alloc (.cells #[B x, B y] T)) (some ⟨w.heap.size, 0, none⟩) [x, y] := fun j hj => by
  refine ⟨w.heap.size, 0, rfl, ?_⟩
  rw [Nat.zero_add, World.cell?_alloc_new]
  match j, hj with
  | 0, _ => rfl
  | 1, _ => rfl
theorem sm_two (x y : BitVec 8) : sm [x, y] = x ^^^ y := by simp [sm]
theorem add_two (f : Value) (x y : BitVec 8) (p : Option Addr) (w : World) (hs : Sl w p [x, y]) :
    Calls Try.prog 41 #[f, .slice p 2 2] w fun e w' => e = .returned (B (x ^^^ y)) ∧ Dr w w' :=
  (add_any f [x, y] p 2 2 w hs rfl (by decide)).mono fun e w' ⟨he, hd⟩ => ⟨by rw [he, sm_two], hd⟩
theorem div_1 (b : Nat) (x : BitVec 8) (w : World) (h : Fld w b) (hx : x ≠ 0#8) :
    Calls Try.prog 54 #[.pointer (some ⟨b, 0, none⟩), .int .u8 1, B x] w fun e w' => e = .returned (.tuple #[B (gi x), .int .i64 0]) ∧ Dr w w' := by
  have := div_any b 1#8 x w h hx
  rw [B_1] at this
  exact this.mono fun e w' ⟨he, hd⟩ => ⟨by rw [he, gd, gm_one]; rfl, hd⟩
theorem inverse_any (b : Nat) (x : BitVec 8) (w : World) (h : Fld w b) (hx : x ≠ 0#8) :
    Calls Try.prog 40 #[.pointer (some ⟨b, 0, none⟩), B x] w fun e w' => e = .returned (B (gi x)) ∧ Dr w w' := by
  have HC := Lib.hid (div_1 b x w h hx)
  clear h hx
  go_enter Try.func40, Try.ntmps40
  go_wp2_with fail
  refine HC.out.mono ?_
  rintro e w2 ⟨rfl, hD⟩
  have HD := Lib.hid hD
  clear hD
  go_wp2
  go_ret
  exact ⟨rfl, HD.out⟩
attribute [local go_sem ↓] exec_store exec_make exec_bs
attribute [local go_sem] st_B st_I st_b mkB bs2
set_option maxHeartbeats 2000000 in
/-- One row, times a number, added to another. -/
theorem madd_any (b R n cap cap' : Nat) (c : BitVec 8) (s : Nat → BitVec 8) (q : Option Addr) (l : List (BitVec 8)) (w : World) (h : Fld w b) (hbR : b ≠ R) (hR : Row w R 5 n (fun j => B (s j))) (hs : Sl w q l) (hl : l.length = n) (hn : n < 4294967296) :
    Calls Try.prog 56 #[.pointer (some ⟨b, 0, none⟩), .slice (some ⟨R, 0, none⟩) n cap, B c, .slice q n cap'] w fun e w' =>
      e = .returned (.tuple #[]) ∧ Row w' R 5 n (fun j => B (s j ^^^ gm c (l.getD j 0#8))) ∧ Kp R w w' := by
  have HC := Lib.hid (scale_any b c l q n cap' w h hs hl hn)
  have HF := Lib.hid h
  have HR := Lib.hid hR
  have HL := Lib.hid hl
  have hlt : R < w.heap.size := hR.lt
  clear h hR hs hl
  go_enter Try.func56, Try.ntmps56
  go_wp2_with fail
  refine HC.out.mono ?_
  rintro e w1 ⟨rfl, hr1, hb1⟩
  have HR1 := Lib.hid (hr1.of_below (Below.refl _ _))
  have HK1 := Lib.hid ((Kp.refl R w).of_below hb1 : Kp R w w1)
  have HRR := Lib.hid ((HR.out.of_below hb1).congr (g' := fun j => B (if j < 0 then s j ^^^ gm c (l.getD j 0#8) else s j)) fun j _ => by rw [if_neg (by omega)])
  have HF1 := Lib.hid (HF.out.of_below hb1)
  have hsz1 : w.heap.size < w1.heap.size := hr1.lt
  clear hr1 hb1 HC HR HF
  generalize hN : w.heap.size = N at *
  have HN := Lib.hid hN
  clear hN
  go_wp2
  go_loopw [8, 9, 15] (fun _ _ i wr => ∃ k : Nat, k ≤ n ∧ i = .int .i64 k ∧ Row wr R 5 n (fun j => B (if j < k then s j ^^^ gm c (l.getD j 0#8) else s j)) ∧ Kp R w1 wr) (fun _ _ i _ => n - (intOf i).toNat)
  case atStart => exact ⟨0, Nat.zero_le _, rfl, HRR.out, Kp.refl _ _⟩
  case round =>
    clear HRR
    obtain ⟨k, hk, rfl, hR, hK⟩ := hrel
    have HRR := Lib.hid hR
    have HK := Lib.hid hK
    by_cases hlt2 : k < n
    · have hd0 : decide ((k : Int) < (n : Int)) = true := decide_eq_true (by omega)
      have hl0 : (k : Int) < (n : Int) := by omega
      have hx : wr.cell? ⟨N, k, none⟩ = some (B (gm c (l.getD k 0#8))) := by
        rw [hK.cell (by exact hsz1) (by show N ≠ R; omega)]; exact HR1.out.cell k hlt2
      have hy : wr.cell? ⟨R, k, none⟩ = some (B (s k)) := by
        have := hR.cell k hlt2
        rwa [if_neg (by omega)] at this
      have HFr := Lib.hid (show Fld wr b from Row.of_kp HF1.out hK hbR)
      have hRlt : R < wr.heap.size := hR.lt
      have HST := Lib.hid (fun j (_ : j < n) => show (if j = k then B (s k ^^^ gm c (l.getD k 0#8)) else B (if j < k then s j ^^^ gm c (l.getD j 0#8) else s j)) = B (if j < k + 1 then s j ^^^ gm c (l.getD j 0#8) else s j) from by
        by_cases e : j = k
        · subst e; rw [if_pos rfl, if_pos (by omega)]
        · rw [if_neg e]
          by_cases e2 : j < k
          · rw [if_pos e2, if_pos (by omega)]
          · rw [if_neg e2, if_neg (by omega)])
      generalize gm c (l.getD k 0#8) = y at *
      generalize hsk : s k = x at *
      clear hR hK hsk
      go_wp2_with fail
      refine (add_two _ x y _ _ (Sl_two _ x y _)).mono ?_
      rintro e w2 ⟨rfl, hD2⟩
      have hb0 : Below wr.heap.size wr (wr.alloc (.cells #[B x, B y] 5)) := (Below.refl _ _).alloc (Nat.le_refl _) _
      have hR2 := (HRR.out.of_below hb0).dr hD2
      have c1 : (w2.cell? ⟨R, k, none⟩).isSome = true := by rw [hR2.cell k (by omega)]; rfl
      have f1 : ∀ i, w2.frozen? ⟨R, i, none⟩ = false := hR2.free
      have HR2 := Lib.hid (hR2.set k (B (x ^^^ y)))
      have HK2 := Lib.hid ((HK.out.of_below hb0).of_below (hD2.below _) : Kp R w1 w2)
      clear hR2 hD2 hb0
      go_wp2
      go_roundw
      case rel => exact ⟨k + 1, by omega, by go_num, HR2.out.congr HST.out, HK2.out.setCell _ _⟩
      case measure => simp [intOf]; omega
    · have hd0 : decide ((k : Int) < (n : Int)) = false := decide_eq_false (by omega)
      obtain rfl : k = n := by omega
      clear hR hK
      go_wp2
      go_end0
      exact ⟨rfl, HRR.out.congr fun j hj => by rw [if_pos hj], HK1.out.trans HK.out⟩
end Go.Proofs.Ytphpliclecmnlaa
/- The program's product of a matrix and rows. -/
namespace Go.Proofs.Ytphpliclecmnlaa
open Go Go.RowKit

/-- A matrix of the call's own is returned; nothing that was there has changed. -/
def RetMp (N : Nat) (w : World) (n m : Nat) (a : Mx) (e : Ending) (w' : World) : Prop :=
  ∃ G D, e = .returned (.slice (some ⟨G, 0, none⟩) n n) ∧ Mp w' N G n n m D a ∧ Below N w w'
attribute [local go_sem ↓] exec_store exec_make exec_bs
attribute [local go_sem] st_B st_I st_b st_H mkB mkR
set_option maxRecDepth 100000 in
set_option maxHeartbeats 8000000 in
theorem product_any (b : Nat) (la lb : List (List (BitVec 8))) (p q : Option Addr) (n k m cap cap' : Nat) (w : World) (hF : Fld w b) (ha : Prt w p la) (hb : Prt w q lb) (hla : la.length = n) (hlb : lb.length = k)
    (hra : ∀ i, i < n → (la.getD i []).length = k) (hrb : ∀ i, i < k → (lb.getD i []).length = m) (hn : n < 1000000) (hk0 : 0 < k) (hk : k < 1000000) (hm : m < 4294967296) :
    Calls Try.prog 44 #[.pointer (some ⟨b, 0, none⟩), .slice p n cap, .slice q k cap'] w (RetMp w.heap.size w n m (mm k (mx la) (mx lb))) := by
  have HF := Lib.hid hF
  have HA := Lib.hid ha
  have HB := Lib.hid hb
  have HLA := Lib.hid hla
  have HLB := Lib.hid hlb
  have HRA := Lib.hid hra
  have HRB := Lib.hid hrb
  obtain ⟨cb, ob, q0, cb0, rfl, hcb0, hcb1, -, -⟩ := hb.at_ 0 (by omega)
  rw [Nat.add_zero, hrb 0 hk0] at hcb1
  have HCB := Lib.hid hcb1
  have hbN : b < w.heap.size := hF.lt
  have hn8 : n < 100000000 := by omega
  have hmat : Mp (w.alloc (.cells (tab n (fun _ => .slice none 0 0)) 38)) w.heap.size w.heap.size n 0 m (fun _ => 0) (mm k (mx la) (mx lb)) := Mp.zero (Row.new w _ n _) (Nat.le_refl _)
  have hb0 : Below w.heap.size w (w.alloc (.cells (tab n (fun _ => .slice none 0 0)) 38)) := (Below.refl _ _).alloc (Nat.le_refl _) _
  clear hF ha hb hla hlb hra hrb hcb1
  go_enter Try.func44, Try.ntmps44
  go_wp2
  generalize w.alloc (.cells (tab n (fun _ => .slice none 0 0)) 38) = w1 at *
  have HM := Lib.hid hmat
  have HB0 := Lib.hid hb0
  clear hmat hb0
  generalize hN : w.heap.size = N at *
  have HN := Lib.hid hN
  clear hN
  go_loopw [17] (fun i wr => ∃ i0 : Nat, i0 ≤ n ∧ i = .int .i64 i0 ∧ ∃ D, Mp wr N N n i0 m D (mm k (mx la) (mx lb)) ∧ Below N w wr) (fun i _ => n - (intOf i).toNat)
  case atStart => exact ⟨0, Nat.zero_le _, rfl, _, HM.out, HB0.out⟩
  case round =>
    clear HM HB0
    obtain ⟨i0, hi0, rfl, D, hM, hB⟩ := hrel
    rename World => WO
    have HM := Lib.hid hM
    have HBr := Lib.hid hB
    have hNlt : N < WO.heap.size := hM.ltG
    by_cases hlt : i0 < n
    · have hd0 : decide ((i0 : Int) < (n : Int)) = true := decide_eq_true (by omega)
      have hl0 : (i0 : Int) < (n : Int) := by omega
      have hk0' : (0 : Int) < (k : Int) := by omega
      have hxb : WO.cell? ⟨cb, ob, none⟩ = some (.slice q0 m cb0) := by
        rw [hB.cell (by exact hcb0)]; exact HCB.out
      obtain ⟨ca, oa, qa, ca0, rfl, hca0, hca1, hsa, -⟩ := HA.out.at_ i0 (by rw [HLA.out]; exact hlt)
      rw [HRA.out i0 hlt] at hca1
      have hxa : WO.cell? ⟨ca, oa + i0, none⟩ = some (.slice qa k ca0) := by
        rw [hB.cell (by rw [← HN.out]; exact hca0)]; exact hca1
      have HSA := Lib.hid hsa
      have hbA : Below WO.heap.size WO (WO.alloc (.cells (zb m) 5)) := (Below.refl _ _).alloc (Nat.le_refl _) _
      have hr : Row (WO.alloc (.cells (zb m) 5)) WO.heap.size 5 m (fun j => B 0#8) := Row.new WO _ m _
      have hMA := hM.of_below hbA
      have hc1 : ((WO.alloc (.cells (zb m) 5)).cell? ⟨N, i0, none⟩).isSome = true := by rw [hMA.hds.cell i0 hlt]; rfl
      have hf1 : (WO.alloc (.cells (zb m) 5)).frozen? ⟨N, i0, none⟩ = false := hMA.free i0
      have hc2 : WO.cell? ⟨N, i0, none⟩ = some (hdr i0 m D i0) := hM.hds.cell i0 hlt
      have hf2 : WO.frozen? ⟨N, i0, none⟩ = false := hM.free i0
      have hMB := hMA.put i0 WO.heap.size (fun _ => 0#8) hr (i0 + 1) (.inr ⟨rfl, rfl⟩) (fun j hj _ => by have := hM.lt j hj; omega) (by omega) (by omega)
      have HB1 := Lib.hid (show Below N w ((WO.setCell ⟨N, i0, none⟩ (.slice (some ⟨WO.heap.size, 0, none⟩) m m)).alloc (.cells (zb m) 5)) from ((hB.setCell (Nat.le_refl _) _).alloc (by simp; omega) _))
      have hcomm : (WO.alloc (.cells (zb m) 5)).setCell ⟨N, i0, none⟩ (.slice (some ⟨WO.heap.size, 0, none⟩) m m) = (WO.setCell ⟨N, i0, none⟩ (.slice (some ⟨WO.heap.size, 0, none⟩) m m)).alloc (.cells (zb m) 5) := World.setCell_alloc_past _ N i0 _ hNlt
      rw [hcomm] at hMB
      have HM1 := Lib.hid hMB
      clear hca1 hsa hbA hr hMA hMB hM hB hcomm
      go_wp2
      generalize (WO.setCell ⟨N, i0, none⟩ (.slice (some ⟨WO.heap.size, 0, none⟩) m m)).alloc (.cells (zb m) 5) = w1 at *
      clear hc1 hf1 hc2 hf2 hxb hxa
      generalize WO.heap.size = E at *
      go_loopw [32] (fun i wr => ∃ j : Nat, j ≤ k ∧ i = .int .i64 j ∧ Mp wr N N n (i0 + 1) m (setD D i0 E) (setr (mm k (mx la) (mx lb)) i0 (fun c => xs j (fun l => gm (mx la i0 l) (mx lb l c)))) ∧ Below N w wr) (fun i _ => k - (intOf i).toNat)
      case atStart => exact ⟨0, Nat.zero_le _, rfl, HM1.out.congr fun x y _ _ => rfl, HB1.out⟩
      case round =>
        clear HM1 HB1
        obtain ⟨j, hj, rfl, hM, hB⟩ := hrel
        rename World => WP
        have HM := Lib.hid hM
        have HB1 := Lib.hid hB
        by_cases hjk : j < k
        · have hdj : decide ((j : Int) < (k : Int)) = true := decide_eq_true (by omega)
          have hj0 : (j : Int) < (k : Int) := by omega
          obtain ⟨cb', ob', qb, cbj, eb, hcbl, hcbj, hsb, -⟩ := HB.out.at_ j (by rw [HLB.out]; exact hjk)
          injection eb with eb
          injection eb with eb1 eb2
          subst eb1 eb2
          have hrj := HRB.out j hjk
          rw [hrj] at hcbj
          obtain ⟨da, pa, rfl, hya⟩ := HSA.out j (by rw [HRA.out i0 hlt]; exact hjk)
          have kp : ∀ a : Addr, ∀ v, w.cell? a = some v → WP.cell? a = some v := fun a v h => by
            rw [hB.cell (by rw [← HN.out]; exact World.block_lt_of_cell? w a h)]; exact h
          have x2 := kp _ _ hcbj
          have x3 := kp _ _ hya
          have e1 : setD D i0 E i0 = E := if_pos rfl
          have x4 := hM.cellH i0 (Nat.lt_succ_self _) hlt
          have hrow := hM.row i0 (Nat.lt_succ_self _)
          rw [e1] at x4 hrow
          have HROW := Lib.hid (hrow.congr (g' := fun c => B (xs j (fun l => gm (mx la i0 l) (mx lb l c)))) fun x _ => by rw [setr, if_pos rfl])
          have HSB := Lib.hid (hsb.of_below (by rw [HN.out]; exact hB))
          have HRJ := Lib.hid hrj
          have HFr := Lib.hid (HF.out.below hB hbN)
          have hEN : N < E := by
            have h1 := hM.lo i0 (Nat.lt_succ_self _)
            have h2 := hM.ne i0 (Nat.lt_succ_self _)
            rw [e1] at h1 h2
            omega
          have HE1 := Lib.hid e1
          generalize hya' : (la.getD i0 []).getD j 0#8 = ya at *
          have HYA := Lib.hid hya'
          clear kp hM hB hcbj hya hsb hrj hrow e1 hya'
          go_wp2
          refine wp_region_still_tail 10 (by kernel_rfl) (by kernel_rfl) ?_
          simp only [List.take_succ_cons, List.take_zero, List.drop_succ_cons, List.drop_zero, World.drew_eq]
          repeat (refine wpStill_step (fun K hK => ?_); go_simp; refine hK _ ?_; clear hK K)
          refine wpStill_nil ?_
          have hd1 : Dr WP WP.drew := (Dr.refl _).drew
          go_wp2_with fail
          refine (madd_any b E m m cbj ya (fun c => xs j (fun l => gm (mx la i0 l) (mx lb l c))) qb (lb.getD j []) WP.drew (HFr.out.dr hd1) (by omega) (HROW.out.dr hd1) (HSB.out.dr hd1) HRJ.out hm).mono ?_
          rintro e w2 ⟨rfl, hR2, hK2⟩
          have HM2 := Lib.hid ((HM.out.dr hd1).alter i0 (Nat.lt_succ_self _) _ (by rw [HE1.out]; exact hK2) (by rw [HE1.out]; exact hR2))
          have HB2 := Lib.hid (((HB1.out.trans (hd1.below N)).trans (hK2.below (Nat.le_of_lt hEN) (by have := HM.out.ltG; exact Nat.le_of_lt this))))
          clear hd1 hR2 hK2
          go_wp2
          go_roundw
          case rel =>
            refine ⟨j + 1, by omega, by go_num, HM2.out.congr fun x y _ _ => ?_, HB2.out⟩
            unfold setr
            by_cases e : x = i0
            · rw [if_pos e, if_pos e, ← HYA.out]; rfl
            · rw [if_neg e, if_neg e, if_neg e]
          case measure => simp [intOf]; omega
        · have hdj : decide ((j : Int) < (k : Int)) = false := decide_eq_false (by omega)
          obtain rfl : j = k := by omega
          clear hM hB
          go_wp2
          go_roundw
          case rel =>
            refine ⟨i0 + 1, by omega, by go_num, _, HM.out.congr fun x y _ _ => ?_, HB1.out⟩
            unfold setr
            by_cases e : x = i0
            · rw [if_pos e, e]; rfl
            · rw [if_neg e]
          case measure => simp [intOf]; omega
    · have hd0 : decide ((i0 : Int) < (n : Int)) = false := decide_eq_false (by omega)
      obtain rfl : i0 = n := by omega
      clear hM hB
      go_wp2
      go_ret
      exact ⟨_, D, rfl, HM.out, HBr.out⟩
end Go.Proofs.Ytphpliclecmnlaa
/- The program's eliminate: one column of a matrix. -/
namespace Go.Proofs.Ytphpliclecmnlaa
open Go Go.RowKit

/-- Row c scaled so that its number in column c is 1. -/
def pivM (c : Nat) (a : Mx) : Mx := rscale c (gi (a c c)) a
/-- The first k rows, but for row c, made 0 in column c. -/
def clrM (k c : Nat) (a : Mx) : Mx := fun i j => if i < k ∧ i ≠ c then a i j ^^^ gm (a i c) (a c j) else a i j
attribute [local go_sem ↓] exec_store exec_make exec_bs
attribute [local go_sem] st_B st_I st_b st_H mkB mkR
set_option maxRecDepth 100000 in
set_option maxHeartbeats 8000000 in
theorem elim_any (b G n m c N : Nat) (D : Nat → Nat) (a : Mx) (w : World) (hF : Fld w b) (hbN : b < N) (hM : Mp w N G n n m D a) (hc : c < n) (hcm : c < m) (hn : n ≤ 64) (hm : m < 100000) (ha : a c c ≠ 0#8) :
    Calls Try.prog 59 #[.pointer (some ⟨b, 0, none⟩), .slice (some ⟨G, 0, none⟩) n n, .int .i64 (c : Int)] w (fun e w' => e = .returned (.tuple #[]) ∧ ∃ D', Mp w' N G n n m D' (clrM n c (pivM c a)) ∧ Below N w w') := by
  have HF := Lib.hid hF
  have HM := Lib.hid hM
  have HA := Lib.hid ha
  have hcn : (c : Int) < (n : Int) := by omega
  have hcm' : (c : Int) < (m : Int) := by omega
  have x1 := hM.cellH c hc hc
  have x2 := hM.cell c c hc hcm
  have hN : N ≤ w.heap.size := Nat.le_trans hM.loG (Nat.le_of_lt hM.ltG)
  generalize hacc : a c c = y at *
  have HACC := Lib.hid hacc
  clear hF hM ha hacc
  go_enter Try.func59, Try.ntmps59
  go_wp2
  go_region_law (first | (go_simp; go_at_call 40; refine (inverse_any b y _ (HF.out.dr ((Dr.refl _).drew)) HA.out).mono ?_; rintro e w2 ⟨rfl, hD2⟩; have x3 : w2.cell? ⟨G, c, none⟩ = some (.slice (some ⟨D c, 0, none⟩) m m) := (by rw [hD2.cell]; exact x1); have HD2 := Lib.hid (((Dr.refl w).drew).trans hD2); clear hD2) | (go_simp; go_at_call 61; refine (scale_any b (gi y) (rowL m a c) _ m m _ (HF.out.dr HD2.out) ((HM.out.dr HD2.out).sl c hc) (rowL_length _ _ _) (by omega)).mono ?_; rintro e w3 ⟨rfl, hR3, hB3⟩; have hM3 := (HM.out.dr HD2.out).of_below hB3; have g1 : w3.cell? ⟨G, c, none⟩ = some (.slice (some ⟨D c, 0, none⟩) m m) := hM3.cellH c hc hc; have g2 : w3.frozen? ⟨G, c, none⟩ = false := hM3.free c; have HM3 := Lib.hid hM3; have HR3 := Lib.hid hR3; have HB3 := Lib.hid hB3; clear hM3 hR3 hB3))
  all_goals
    have hE : ∀ j, j < n → j ≠ c → D j ≠ w2.heap.size := fun j hj _ => by
      have h1 := HM.out.lt j hj
      rw [← HD2.out.heap] at h1
      exact Nat.ne_of_lt h1
    have hGE : w2.heap.size ≠ G := by
      have h1 := HM.out.ltG
      rw [← HD2.out.heap] at h1
      exact Ne.symm (Nat.ne_of_lt h1)
    have hNE : N ≤ w2.heap.size := by rw [HD2.out.heap]; exact hN
    have hput := HM3.out.put c w2.heap.size _ HR3.out n (.inl ⟨rfl, hc⟩) hE hGE hNE
    have HB4 := Lib.hid (((HD2.out.below N).trans (HB3.out.mono hNE)).setCell (show N ≤ (⟨G, c, none⟩ : Addr).block from HM.out.loG) (.slice (some ⟨w2.heap.size, 0, none⟩) m m))
    have HM4 := Lib.hid (hput.congr (b := clrM 0 c (pivM c a)) fun i j hi hj => by
      unfold clrM pivM rscale setr
      rw [if_neg (show ¬ (i < 0 ∧ i ≠ c) by omega)]
      by_cases h : i = c
      · rw [if_pos h, if_pos h]
        show gm (gi y) ((rowL m a c).getD j 0#8) = _
        rw [rowL_get _ _ _ _ hj, HACC.out, h]
      · rw [if_neg h, if_neg h])
    have HCC := Lib.hid (show setD D c w2.heap.size c = w2.heap.size from if_pos rfl)
    generalize setD D c w2.heap.size = D1 at *
    clear hput hE hGE hNE g1 g2 HM3 HR3 HB3 x1 x2 x3 HM HACC HCC
    generalize w3.setCell ⟨G, c, none⟩ (.slice (some ⟨w2.heap.size, 0, none⟩) m m) = w4 at *
    generalize hAA : pivM c a = A at *
    have HAA := Lib.hid hAA
    clear HD2 hAA
    go_wp2
    go_loopw [28] (fun i wr => ∃ k : Nat, k ≤ n ∧ i = .int .i64 k ∧ Mp wr N G n n m D1 (clrM k c A) ∧ Below N w wr) (fun i _ => n - (intOf i).toNat)
    case atStart => exact ⟨0, Nat.zero_le _, rfl, HM4.out, HB4.out⟩
    case round =>
      clear HM4 HB4
      obtain ⟨k, hk, rfl, hM, hB⟩ := hrel
      rename World => WP
      have HM4 := Lib.hid hM
      have HB4 := Lib.hid hB
      by_cases hlt : k < n
      · have hd0 : decide ((k : Int) < (n : Int)) = true := decide_eq_true (by omega)
        have hl0 : (k : Int) < (n : Int) := by omega
        have x5 := hM.cellH k hlt hlt
        by_cases hkc : k = c
        · have HKC := Lib.hid hkc
          have hd1 : ((k : Int) != (c : Int)) = false := by simp; omega
          have hd2 : ((k : Int) == (c : Int)) = true := by simp; omega
          clear hM hB hkc
          go_wp2
          go_roundw
          case rel =>
            refine ⟨k + 1, by omega, by go_num, HM4.out.congr fun i j _ _ => ?_, HB4.out⟩
            unfold clrM
            by_cases h : i < k ∧ i ≠ c
            · rw [if_pos h, if_pos (by omega)]
            · rw [if_neg h, if_neg (by have := HKC.out; omega)]
          case measure => simp [intOf]; omega
        · have hd1 : ((k : Int) != (c : Int)) = true := by simp; omega
          have hd2 : ((k : Int) == (c : Int)) = false := by simp; omega
          have hd3 : decide (k = c) = false := by simp; omega
          have x6 := hM.cell k c hlt hcm
          have x7 := hM.cellH c hc hc
          have HFr := Lib.hid (HF.out.below hB hbN)
          have HRK := Lib.hid (hM.row k hlt)
          have HSC := Lib.hid (hM.sl c hc)
          have hbk : b ≠ D1 k := by have := hM.lo k hlt; omega
          have HKC := Lib.hid hkc
          have HCL := Lib.hid (show ∀ i j, j < m → setr (clrM k c A) k (fun j => clrM k c A k j ^^^ gm (clrM k c A k c) ((rowL m (clrM k c A) c).getD j 0#8)) i j = clrM (k + 1) c A i j from fun i j hj => by
            unfold setr
            by_cases h : i = k
            · subst h
              rw [if_pos rfl]
              show clrM i c A i j ^^^ gm (clrM i c A i c) ((rowL m (clrM i c A) c).getD j 0#8) = _
              rw [rowL_get _ _ _ _ hj]
              unfold clrM
              rw [if_pos (show i < i + 1 ∧ i ≠ c from ⟨by omega, hkc⟩), if_neg (show ¬ (i < i ∧ i ≠ c) by omega), if_neg (show ¬ (i < i ∧ i ≠ c) by omega), if_neg (show ¬ (c < i ∧ c ≠ c) by omega)]
            · rw [if_neg h]
              unfold clrM
              by_cases h2 : i < k ∧ i ≠ c
              · rw [if_pos h2, if_pos (by omega)]
              · rw [if_neg h2, if_neg (by omega)])
          generalize hz : clrM k c A k c = z at *
          have HZ := Lib.hid hz
          clear hM hB hz hkc
          go_wp2
          refine wp_region_still_tail 10 (by kernel_rfl) (by kernel_rfl) ?_
          simp only [List.take_succ_cons, List.take_zero, List.drop_succ_cons, List.drop_zero, World.drew_eq]
          repeat (refine wpStill_step (fun K hK => ?_); go_simp; refine hK _ ?_; clear hK K)
          refine wpStill_nil ?_
          have hdr1 : Dr WP WP.drew := (Dr.refl _).drew
          go_wp2_with fail
          refine (madd_any b (D1 k) m m m z (fun j => clrM k c A k j) _ (rowL m (clrM k c A) c) WP.drew (HFr.out.dr hdr1) hbk (HRK.out.dr hdr1) (HSC.out.dr hdr1) (rowL_length _ _ _) (by omega)).mono ?_
          rintro e w5 ⟨rfl, hR5, hK5⟩
          have HM5 := Lib.hid ((HM4.out.dr hdr1).alter k hlt _ hK5 hR5)
          have HB5 := Lib.hid ((HB4.out.trans (hdr1.below N)).trans (hK5.below (HM4.out.lo k hlt) (by have := HM4.out.loG; have := HM4.out.ltG; show N ≤ WP.heap.size; omega)))
          clear hR5 hK5 hdr1
          go_wp2
          go_roundw
          case rel => exact ⟨k + 1, by omega, by go_num, HM5.out.congr fun i j _ hj => HCL.out i j hj, HB5.out⟩
          case measure => simp [intOf]; omega
      · have hd0 : decide ((k : Int) < (n : Int)) = false := decide_eq_false (by omega)
        obtain rfl : k = n := by omega
        clear hM hB
        go_wp2
        go_end0
        exact ⟨rfl, D1, by rw [HAA.out]; exact HM4.out, HB4.out⟩
end Go.Proofs.Ytphpliclecmnlaa
/- copy of bytes into a row of the call's own. -/
namespace Go.Proofs.Ytphpliclecmnlaa
open Go Go.RowKit

theorem tab_splice (m n : Nat) (g : Nat → Value) (l : List (BitVec 8)) (hl : l.length = n) (hle : n ≤ m) :
    ((tab m g).toList.take 0 ++ (l.map B ++ (tab m g).toList.drop (0 + (l.map B).length))).toArray = tab m (fun j => if j < n then B (l.getD j 0#8) else g j) := by
  subst hl
  unfold tab
  congr 1
  apply List.ext_getElem?
  intro j
  simp only [List.take_zero, List.nil_append, Nat.zero_add, List.length_map]
  rw [List.getElem?_append]
  by_cases h1 : j < l.length
  · have h2 : j < m := by omega
    simp [h1, h2, List.getD_eq_getElem?_getD]
  · rw [if_neg (by simpa using h1)]
    by_cases h2 : j < m
    · have h3 : l.length + (j - l.length) = j := by omega
      simp [h1, h2, h3]
    · have h3 : m ≤ j := by omega
      have h4 : m ≤ l.length + (j - l.length) := by omega
      simp [h3, h4]
theorem wpl_copy {ops : Array Oper} {rest : List Oper} {o : Oper} {a : Act} {Q : Exit → Act → World → Prop} (w : World) (hgd : o.guard = none) (d s : Operand)
    (ho : o.op = .call { callee := .builtin .copy, args := #[d, s], argTypes := #[38, 38] }) (E m c : Nat) (g : Nat → Value) (q : Option Addr) (n c' : Nat) (l : List (BitVec 8))
    (hd : a.eval d = .slice (some ⟨E, 0, none⟩) m c) (hs : a.eval s = .slice q n c') (hR : Row w E 5 m g) (hl : l.length = n) (hle : n ≤ m) (hsl : Sl w q l)
    (h : ∀ w', Row w' E 5 m (fun j => if j < n then B (l.getD j 0#8) else g j) → Kp E w w' → wpList Try.prog ops Q rest (a.put o.dst (.int .i64 (n : Int))) w') : wpList Try.prog ops Q (o :: rest) a w := by
  by_cases h0 : n = 0
  · subst h0
    refine wpList_copy_nothing hgd d s _ _ ho 5 und35 (by kernel_rfl) _ _ _ _ _ _ hd hs (by exact Nat.zero_min _) ?_
    exact h w (hR.congr fun j _ => by rw [if_neg (by omega)]) (Kp.refl _ _)
  · obtain ⟨c0, o0, rfl, hc⟩ := hsl 0 (by omega)
    have key := wpList_copy_own (P := Try.prog) (w := w) (Q := Q) (ops := ops) (rest := rest) (o := o) (a := a) hgd d s _ _ ho 5 und35 (by kernel_rfl) E 0 m c ⟨c0, o0, none⟩ n c' hd hs (tab m g) 5 hR (l.map B) (by rw [List.length_map, hl]; exact (Nat.min_eq_left hle).symm)
      (fun j v hv => hsl.news j v hv) (by rw [tab_size, List.length_map]; omega) (one_map l)
    refine key ?_
    rw [tab_splice m n g l hl hle]
    have hlen : (l.map B).length = n := by rw [List.length_map, hl]
    have hgi : goInt ((l.map B).length : Int) = .int .i64 (n : Int) := by rw [hlen]; rfl
    rw [hgi]
    exact h _ (setRow_heap w E _ _ 5 _ hR) ⟨rfl, rfl, rfl, by simp [World.setRow], fun k _ hk => setRow_other w E k _ hk⟩
end Go.Proofs.Ytphpliclecmnlaa
