/- A number in a range, read by package vector. -/
import Derived.Test.YtjpennbmphhipaaDoorCutP6
import Derived.Test.YtjpennbmphhipaaDoorAwk9
set_option linter.unusedSimpArgs false
set_option maxRecDepth 100000
set_option linter.unusedVariables false
namespace Go.Proofs.YtjpennbmphhipaaDoor
open Go Go.RowKit

/-- The number at the beginning of bytes if it is in a range, how many bytes it has; the error. -/
def rngI (l : List (BitVec 8)) (lo hi : Int) : Nat × Nat × Nat :=
  match num7 l with
  | none => (0, 0, 6)
  | some (n, k) => if (n : Int) < lo ∨ hi < (n : Int) then (0, 0, 6) else (n, k, 0)
theorem rngI_none {l : List (BitVec 8)} (lo hi : Int) (h : num7 l = none) : rngI l lo hi = (0, 0, 6) := by unfold rngI; rw [h]
theorem rngI_out {l : List (BitVec 8)} {lo hi : Int} {n k : Nat} (h : num7 l = some (n, k)) (hm : (n : Int) < lo ∨ hi < (n : Int)) : rngI l lo hi = (0, 0, 6) := by unfold rngI; rw [h]; exact if_pos hm
theorem rngI_in {l : List (BitVec 8)} {lo hi : Int} {n k : Nat} (h : num7 l = some (n, k)) (hm : ¬ ((n : Int) < lo ∨ hi < (n : Int))) : rngI l lo hi = (n, k, 0) := by unfold rngI; rw [h]; exact if_neg hm
set_option maxRecDepth 100000 in
set_option maxHeartbeats 2000000 in
theorem number9_any (p : Option Addr) (N : Nat) (w : World) (a : Addr) (l : List (BitVec 8)) (lo hi : Int) (h : RdP p N w a l) : Calls Tryd.prog 39 #[.pointer (some a), .int .i64 lo, .int .i64 hi] w (RdPost RdP ThrP p N w a l (rngI l lo hi).2.2 (rngI l lo hi).2.1 fun v _ => v = .int .i64 ((rngI l lo hi).1 : Int)) := by
  have HN := Lib.hid (rdP_number p N w a l 9223372036854775807 h)
  clear h
  cases e7 : num7 l with
  | none =>
    rw [rngI_none lo hi e7]
    rw [takeI_none _ e7] at HN
    clear e7
    go_enter Tryd.func39, Tryd.ntmps39
    go_wp2_with fail
    refine HN.out.mono ?_
    rintro e w' ⟨hK, ⟨hcode, -⟩ | ⟨hc, v, hv, rfl⟩⟩
    · exact absurd hcode (by decide)
    · exact ⟨rfl, hK, .inr ⟨by decide, v, hv, rfl⟩⟩
  | some x =>
    obtain ⟨n, k⟩ := x
    have hi7 := num7_inv e7
    rw [takeI_some e7 (by omega)] at HN
    by_cases h1 : (n : Int) < lo
    · rw [rngI_out e7 (.inl h1)]
      have t1 : decide ((n : Int) < lo) = true := decide_eq_true h1
      clear e7 hi7
      go_enter Tryd.func39, Tryd.ntmps39
      go_wp2_with fail
      refine HN.out.mono ?_
      rintro e w' ⟨hK, ⟨-, ⟨v, rfl, rfl⟩, hR⟩ | ⟨hc, -⟩⟩
      · have HK := Lib.hid hK
        have HF := Lib.hid (rdP_fail p N w' a (l.drop k) 6 hR (by decide))
        clear hK hR
        go_wp2_with fail
        refine HF.out.mono ?_
        rintro e w2 ⟨⟨v, hv, rfl⟩, hK2⟩
        exact ⟨rfl, HK.out.trans hK2, .inr ⟨by decide, v, hv, rfl⟩⟩
      · exact absurd rfl hc
    · have t1 : decide ((n : Int) < lo) = false := decide_eq_false h1
      by_cases h2 : hi < (n : Int)
      · rw [rngI_out e7 (.inr h2)]
        have t2 : decide (hi < (n : Int)) = true := decide_eq_true h2
        clear e7 hi7
        go_enter Tryd.func39, Tryd.ntmps39
        go_wp2_with fail
        refine HN.out.mono ?_
        rintro e w' ⟨hK, ⟨-, ⟨v, rfl, rfl⟩, hR⟩ | ⟨hc, -⟩⟩
        · have HK := Lib.hid hK
          have HF := Lib.hid (rdP_fail p N w' a (l.drop k) 6 hR (by decide))
          clear hK hR
          go_wp2_with fail
          refine HF.out.mono ?_
          rintro e w2 ⟨⟨v, hv, rfl⟩, hK2⟩
          exact ⟨rfl, HK.out.trans hK2, .inr ⟨by decide, v, hv, rfl⟩⟩
        · exact absurd rfl hc
      · rw [rngI_in e7 (by omega)]
        have t2 : decide (hi < (n : Int)) = false := decide_eq_false h2
        clear e7 hi7
        go_enter Tryd.func39, Tryd.ntmps39
        go_wp2_with fail
        refine HN.out.mono ?_
        rintro e w' ⟨hK, ⟨-, ⟨v, rfl, rfl⟩, hR⟩ | ⟨hc, -⟩⟩
        · have HK := Lib.hid hK
          have HR := Lib.hid hR
          clear hK hR
          go_wp2
          go_ret
          exact ⟨HK.out, .inl ⟨rfl, ⟨_, rfl, rfl⟩, HR.out⟩⟩
        · exact absurd rfl hc
end Go.Proofs.YtjpennbmphhipaaDoor
