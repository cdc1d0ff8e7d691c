/- The statement ShardSums where nothing is asked. -/
import Derived.Test.YtphpliclecmnlaaK6
import Derived.Test.YtphpliclecmnlaaK7
import Derived.Test.YtphpliclecmnlaaK10
import Derived.Test.YtphpliclecmnlaaZLaw4E
set_option linter.unusedSimpArgs false
set_option linter.unusedVariables false
namespace Go.Proofs.Ytphpliclecmnlaa
open Go Go.RowKit

section
variable {Cd : World → Nat → Nat → Nat → Prop} (S : CodeSpec Cd) (a c : Int) (la lb : List (List (BitVec 8))) (p q : Option Addr) (n cap n2 cap' : Nat) (w : World) (hs : Prt w p la) (hl : la.length = n) (ht : Prt w q lb) (hl2 : lb.length = n2)
include S hs hl
set_option maxRecDepth 100000 in
set_option maxHeartbeats 4000000 in
theorem ss_a (hn : n < 9223372036854775808) (h : few4B la = false) : Calls Try.prog 8 #[.agg #[.int .u8 a, .int .u8 c], .slice p n cap, .slice q n2 cap'] w fun e w' => e = .returned (.bool true) ∧ Below w.heap.size w w' := by
  have HB0 := Lib.hid (show Below w.heap.size w (w.alloc (.cells #[.int .u8 a, .int .u8 c] 22)) from (Below.refl _ _).alloc (Nat.le_refl _) _)
  have HS := Lib.hid S
  have HA := Lib.hid hs
  have HL := Lib.hid hl
  clear S hs hl
  go_enter Try.func8, Try.ntmps8
  go_wp2_with fail
  refine (awake4 HS.out w _ HB0.out).mono ?_
  rintro e w1 ⟨rfl, hB1⟩
  have HB1 := Lib.hid hB1
  clear hB1
  go_wp2_with fail
  refine (few4_any la p n cap w1 (HA.out.of_below HB1.out) HL.out hn).mono ?_
  rintro e w2 ⟨rfl, rfl⟩
  go_wp2_with fail
  refine (awake4 HS.out w w1 HB1.out).mono ?_
  rintro e w2 ⟨rfl, hB2⟩
  have HB2 := Lib.hid hB2
  clear hB2
  go_wp2
  go_ret
  exact ⟨rfl, HB2.out⟩
include ht hl2
set_option maxRecDepth 100000 in
set_option maxHeartbeats 4000000 in
theorem ss_b (hn2 : n2 < 9223372036854775808) (h : few4B la = true) (h2 : few4B lb = false) : Calls Try.prog 8 #[.agg #[.int .u8 a, .int .u8 c], .slice p n cap, .slice q n2 cap'] w fun e w' => e = .returned (.bool true) ∧ Below w.heap.size w w' := by
  have hn : n ≤ 32 := by have := (of_decide_eq_true h).1; omega
  have HB0 := Lib.hid (show Below w.heap.size w (w.alloc (.cells #[.int .u8 a, .int .u8 c] 22)) from (Below.refl _ _).alloc (Nat.le_refl _) _)
  have HS := Lib.hid S
  have HA := Lib.hid hs
  have HL := Lib.hid hl
  have HT := Lib.hid ht
  have HL2 := Lib.hid hl2
  clear S hs hl ht hl2
  go_enter Try.func8, Try.ntmps8
  go_wp2_with fail
  refine (awake4 HS.out w _ HB0.out).mono ?_
  rintro e w1 ⟨rfl, hB1⟩
  have HB1 := Lib.hid hB1
  clear hB1
  go_wp2_with fail
  refine (few4_any la p n cap w1 (HA.out.of_below HB1.out) HL.out (by omega)).mono ?_
  rintro e w2 ⟨rfl, rfl⟩
  go_wp2_with fail
  refine (few4_any lb q n2 cap' w1 (HT.out.of_below HB1.out) HL2.out hn2).mono ?_
  rintro e w2 ⟨rfl, rfl⟩
  go_wp2_with fail
  refine (awake4 HS.out w w1 HB1.out).mono ?_
  rintro e w2 ⟨rfl, hB2⟩
  have HB2 := Lib.hid hB2
  clear hB2
  go_wp2
  go_ret
  exact ⟨rfl, HB2.out⟩
end
end Go.Proofs.Ytphpliclecmnlaa
