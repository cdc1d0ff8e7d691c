/- The program's Good and Same. -/
import Derived.Test.YtfilicbbkaifcaaAsk
set_option linter.unusedSimpArgs false
set_option linter.unusedVariables false
namespace Go.Proofs.Ytfilicbbkaifcaa
open Go Go.RowKit

section
variable (g : Nat) (lb : Array Value) (eg : ∀ args w, (callFunc g args).run Try.prog w = .ok (.enter g args) w) (ls : List (List (BitVec 8))) (f : Nat → Bool) (p : Option Addr) (n cap : Nat) (w : World) (hp : Asks g lb ls f w) (hs : Prt w p ls) (hl : ls.length = n) (hn : n < 4294967296)
include eg hp hs hl hn
theorem contains_hit (t : Nat) (ht : Hit f n t) : Calls Try.prog 40 #[.slice p n cap, .func (.func g) #[] lb] w fun e w' => e = .returned (.bool true) ∧ w = w' := by
  have HC := Lib.hid (index_hit g lb eg ls f p n cap t w hp hs hl hn ht)
  clear hp hs hl ht
  go_enter Try.func40, Try.ntmps40
  go_wp2_with fail
  refine HC.out.mono ?_
  rintro e w' ⟨rfl, rfl⟩
  have hd : decide ((0 : Int) ≤ (t : Int)) = true := decide_eq_true (by omega)
  go_wp2
  go_ret
  exact ⟨rfl, rfl⟩
theorem contains_miss (ht : Miss f n) : Calls Try.prog 40 #[.slice p n cap, .func (.func g) #[] lb] w fun e w' => e = .returned (.bool false) ∧ w = w' := by
  have HC := Lib.hid (index_miss g lb eg ls f p n cap w hp hs hl (by omega) ht)
  clear hp hs hl ht
  go_enter Try.func40, Try.ntmps40
  go_wp2_with fail
  refine HC.out.mono ?_
  rintro e w' ⟨rfl, rfl⟩
  go_wp2
  go_ret
  exact ⟨rfl, rfl⟩
end
theorem enters_eq : ∀ args w, (callFunc 41 args).run Try.prog w = .ok (.enter 41 args) w := enters_of Try.func41 (by kernel_rfl) rfl
theorem long_any (b c o n m m0 cap cap0 cap1 : Nat) (q q0 : Option Addr) (w : World) (h1 : w.cell? ⟨b, 0, none⟩ = some (.slice (some ⟨c, o, none⟩) n cap)) (h2 : w.cell? ⟨c, o, none⟩ = some (.slice q0 m0 cap0)) (hn : 0 < n) :
    Calls Try.prog 41 #[.slice q m cap1, .pointer (some ⟨b, 0, none⟩)] w fun e w' => e = .returned (.bool (decide (m ≠ m0))) ∧ w = w' := by
  have hn0 : (0 : Int) < (n : Int) := by omega
  by_cases h : m = m0
  · have hb : ((m : Int) != (m0 : Int)) = false := by simp; omega
    have hf : Hid (decide (m ≠ m0) = false) := decide_eq_false fun e => e h
    clear h
    go_enter Try.func41, Try.ntmps41
    go_wp2
    go_ret
    exact ⟨by rw [hf.out]; rfl, rfl⟩
  · have hb : ((m : Int) != (m0 : Int)) = true := by simp; omega
    have hb2 : ((m : Int) == (m0 : Int)) = false := by simp; omega
    have hb3 : decide (m = m0) = false := decide_eq_false h
    have hf : Hid (decide (m ≠ m0) = true) := decide_eq_true h
    clear h
    go_enter Try.func41, Try.ntmps41
    go_wp2
    go_ret
    exact ⟨by rw [hf.out]; rfl, rfl⟩
/-- All rows are as long as the first. -/
def eqB (ls : List (List (BitVec 8))) : Bool := decide (∀ i, i < ls.length → (ls.getD i []).length = (ls.getD 0 []).length)
def oddB (ls : List (List (BitVec 8))) (k : Nat) : Bool := decide ((ls.getD k []).length ≠ (ls.getD 0 []).length)
theorem eq_long_any (ls : List (List (BitVec 8))) (p : Option Addr) (n cap : Nat) (w : World) (hs : Prt w p ls) (hl : ls.length = n) (hn : n < 4294967296) :
    Calls Try.prog 27 #[.slice p n cap] w fun e w' => e = .returned (.bool (eqB ls)) ∧ Below w.heap.size w w' := by
  have hB : Below w.heap.size w (w.alloc (.cells #[.slice p n cap] 22)) := (Below.refl _ _).alloc (Nat.le_refl _) _
  have hask : Asks 41 #[.pointer (some ⟨w.heap.size, 0, none⟩)] ls (oddB ls) (w.alloc (.cells #[.slice p n cap] 22)) := by
    intro k hk q cap' hsl
    obtain ⟨c, o, q0, cap0, rfl, hc0, hc, -, -⟩ := hs.at_ 0 (by omega)
    rw [Nat.add_zero] at hc
    exact long_any w.heap.size c o n _ _ cap cap0 cap' q q0 _ (by rw [World.cell?_alloc_new]; rfl) (by rw [hB.cell (by exact hc0)]; exact hc) (by omega)
  have hs' := hs.of_below hB
  have HB := Lib.hid hB
  have HA := Lib.hid hask
  have HS := Lib.hid hs'
  have HL := Lib.hid hl
  rcases hit_or (oddB ls) n with ⟨t, ht⟩ | ht
  · have hf : Hid (eqB ls = false) := decide_eq_false fun h => by
      have h1 := ht.2.1
      exact of_decide_eq_true h1 (h t (by rw [hl]; exact ht.1))
    have HT := Lib.hid ht
    clear ht hs hl hB hask hs'
    go_enter Try.func27, Try.ntmps27
    go_wp2_with fail
    refine (contains_hit _ _ enters_eq ls (oddB ls) p n cap _ HA.out HS.out HL.out hn t HT.out).mono ?_
    rintro e w' ⟨rfl, rfl⟩
    go_wp2
    go_ret
    exact ⟨by rw [hf.out]; rfl, HB.out⟩
  · have hf : Hid (eqB ls = true) := decide_eq_true fun i hi => Decidable.byContradiction fun e => by
      have h1 := ht i (by omega)
      exact of_decide_eq_false h1 e
    have HT := Lib.hid ht
    clear ht hs hl hB hask hs'
    go_enter Try.func27, Try.ntmps27
    go_wp2_with fail
    refine (contains_miss _ _ enters_eq ls (oddB ls) p n cap _ HA.out HS.out HL.out hn HT.out).mono ?_
    rintro e w' ⟨rfl, rfl⟩
    go_wp2
    go_ret
    exact ⟨by rw [hf.out]; rfl, HB.out⟩
theorem goodB_false (ls : List (List (BitVec 8))) (h : ¬ (permB (ls.length : Int) = true ∧ permB ((ls.getD 0 []).length : Int) = true ∧ eqB ls = true)) : goodB ls = false := decide_eq_false fun g => h
  ⟨decide_eq_true ⟨by omega, by omega⟩, decide_eq_true ⟨by omega, by omega⟩, decide_eq_true g.2.2.2.2⟩
theorem goodB_true (ls : List (List (BitVec 8))) (h1 : permB (ls.length : Int) = true) (h2 : permB ((ls.getD 0 []).length : Int) = true) (h3 : eqB ls = true) : goodB ls = true := by
  have g1 := of_decide_eq_true h1
  have g2 := of_decide_eq_true h2
  exact decide_eq_true ⟨by omega, by omega, by omega, by omega, of_decide_eq_true h3⟩
set_option maxHeartbeats 1000000 in
theorem good_any (ls : List (List (BitVec 8))) (p : Option Addr) (n cap : Nat) (w : World) (hs : Prt w p ls) (hl : ls.length = n) (hn : n < 4294967296) :
    Calls Try.prog 14 #[.slice p n cap] w fun e w' => e = .returned (.bool (goodB ls)) ∧ Below w.heap.size w w' := by
  have HS := Lib.hid hs
  have HL := Lib.hid hl
  by_cases h1 : permB (n : Int) = true
  · have hn1 := of_decide_eq_true h1
    obtain ⟨c, o, q, cap0, rfl, -, hc, -, -⟩ := hs.at_ 0 (by omega)
    rw [Nat.add_zero] at hc
    have hi0 : (0 : Int) < (n : Int) := by omega
    generalize hm : (ls.getD 0 []).length = m at *
    have HM := Lib.hid hm
    by_cases h2 : permB (m : Int) = true
    · have HE := Lib.hid (eq_long_any ls _ n cap w hs hl hn)
      have hf : Hid (goodB ls = eqB ls) := by
        show goodB ls = eqB ls
        cases e : eqB ls with
        | true => exact goodB_true ls (by rw [hl]; exact h1) (by rw [hm]; exact h2) e
        | false => exact goodB_false ls fun h => by rw [h.2.2] at e; cases e
      clear hs hl hm hn1
      go_enter Try.func14, Try.ntmps14
      go_wp2_with fail
      refine (permitted_any _ w).mono ?_
      rintro e w' ⟨rfl, rfl⟩
      go_wp2_with fail
      refine (permitted_any _ w).mono ?_
      rintro e w' ⟨rfl, rfl⟩
      go_wp2_with fail
      refine HE.out.mono ?_
      rintro e w' ⟨rfl, hB⟩
      go_wp2
      go_ret
      exact ⟨by rw [hf.out]; rfl, hB⟩
    · have hf : Hid (goodB ls = false) := goodB_false ls fun h => h2 (by rw [← hm]; exact h.2.1)
      have h2' : permB (m : Int) = false := by simpa using h2
      clear hs hl hm h2 hn1
      go_enter Try.func14, Try.ntmps14
      go_wp2_with fail
      refine (permitted_any _ w).mono ?_
      rintro e w' ⟨rfl, rfl⟩
      go_wp2_with fail
      refine (permitted_any _ w).mono ?_
      rintro e w' ⟨rfl, rfl⟩
      go_wp2
      go_ret
      exact ⟨by rw [hf.out]; rfl, Below.refl _ _⟩
  · have hf : Hid (goodB ls = false) := goodB_false ls fun h => h1 (by rw [← hl]; exact h.1)
    have h1' : permB (n : Int) = false := by simpa using h1
    clear hs hl h1
    go_enter Try.func14, Try.ntmps14
    go_wp2_with fail
    refine (permitted_any _ w).mono ?_
    rintro e w' ⟨rfl, rfl⟩
    go_wp2
    go_ret
    exact ⟨by rw [hf.out]; rfl, Below.refl _ _⟩
end Go.Proofs.Ytfilicbbkaifcaa
