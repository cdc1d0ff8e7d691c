/- darnerlaw14.awake. -/
import Derived.Test.YtkajeepbelfpiaaDoorOrd14
set_option linter.unusedSimpArgs false
set_option maxRecDepth 100000
set_option linter.unusedVariables false
namespace Go.Proofs.YtkajeepbelfpiaaDoor
open Go Go.RowKit

def sx0 : Ln := ⟨0, [⟨[120], 0, 0, 0⟩], []⟩
theorem sx_put : putC [120] 0 = 0 ∧ putS ln0 [120] 0 = sx0 := by
  have h0 : putC [120] 0 = 0 := by
    unfold putC
    rw [if_neg (by have := kind_one 23 (by decide); rw [show ([120] : S8) = [UInt8.ofNat (97 + 23)] from by decide, this]; decide), if_neg (by decide)]
  refine ⟨h0, ?_⟩
  unfold putS
  rw [if_pos h0]
  rfl
theorem sx_out : tickOut sx0 1 = [⟨[120], 0, 0, true, true⟩] := by
  simp [tickOut, tickA, tickB, sx0, workL]
set_option maxHeartbeats 4000000 in
theorem awake14 (w : World) : Calls Tryd.prog 6 #[] w fun e w' => e = .returned (.bool true) ∧ Below w.heap.size w w' := by
  have HNW := Lib.hid (new14_any w)
  go_enter Tryd.func6, Tryd.ntmps6
  go_wp2_with fail
  refine HNW.out.mono ?_
  rintro e w1 ⟨rfl, hL, hB⟩
  obtain ⟨b, hb⟩ : ∃ b, w.heap.size = b := ⟨_, rfl⟩
  have hS : St14 w w1 b ln0 := ⟨by rw [← hb]; exact hL, hB⟩
  rw [hb]
  have hput := put_any hS.1 (by unfold okLn; simp [ln0]) ⟨by simp [ln0], by simp [ln0]⟩ [120] (by simp) 0 (by omega) (by omega)
  have HS := Lib.hid hS
  rw [← mkS_lit [120]] at hput
  have HP := Lib.hid hput
  clear hL hB hS hput HNW hb
  go_wp2_with fail
  refine HP.out.mono ?_
  rintro e w2 ⟨he, hL, hK⟩
  rw [sx_put.1] at he
  subst he
  have hS := HS.out.next hL hK
  rw [sx_put.2] at hS
  have HS2 := Lib.hid hS
  have hok : okL sx0.en ∧ okL sx0.sc := ⟨fun f hf => by have : f = ⟨[120], 0, 0, 0⟩ := by simpa [sx0] using hf
                                                        subst this; exact ⟨Nat.le_refl _, by decide⟩, fun f hf => by cases hf⟩
  have HT := Lib.hid (tick_go hS.1 hok.1 hok.2 ⟨by simp [sx0], by simp [sx0]⟩ (by simp [sx0]) 2 1 (by omega) (by omega) (by omega))
  clear hL hK hS HP HS hok
  go_wp2_with fail
  refine HT.out.mono ?_
  rintro e w3 ⟨v, ns, rfl, hO, -, -, hL, hK⟩
  have hS := HS2.out.next hL hK
  rw [sx_out] at hO
  obtain ⟨p, cap, ev, hl, -, hcap, -⟩ := own_shape hO
  change v = .slice p 1 cap at ev
  subst ev
  obtain ⟨c, o, ep, hc4⟩ := hl 4 (by decide)
  subst ep
  change _ = some (Value.bool true) at hc4
  have HS3 := Lib.hid hS
  have hck := clock_any hS.1
  rw [show (tickS sx0 1 ns).clock = 1 from rfl] at hck
  have HCK := Lib.hid hck
  clear hck
  have hcap1 : 1 ≤ cap := hcap
  clear hO hl hL hK hS HT HS2 hcap
  go_wp2_with (go_at_call 17; refine HCK.out.mono ?_; rintro e w' ⟨rfl, rfl⟩)
  go_ret
  exact ⟨rfl, HS3.out.2⟩
end Go.Proofs.YtkajeepbelfpiaaDoor
