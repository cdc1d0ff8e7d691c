/- TrimSuffix of what is an end; withMark, Temp, Side; Kind. -/
import Derived.Test.YtcgilacmdckbfaaDoorPtaP7
import Derived.Test.YtcgilacmdckbfaaDoorGodP7
set_option linter.unusedSimpArgs false
set_option maxRecDepth 100000
set_option linter.unusedVariables false
namespace Go.Proofs.YtcgilacmdckbfaaDoor
open Go Go.RowKit

set_option maxHeartbeats 2000000 in
theorem kind_any (l : S8) (w : World) (hl : l.length < 100000) : Calls Tryd.prog 27 #[.string (mkS l)] w fun e w' => Gives (.int .i64 (kindL l : Int)) w e w' := by
  have HB0 := Lib.hid (base_any l w hl)
  have HG := Lib.hid (fun u => good_any l u (by omega))
  have H1 := Lib.hid (show ∀ u : World, Calls Tryd.prog 42 #[.string (mkS (baseL l)), .string ⟨#[46, 116, 109, 112, 126]⟩] u (fun e w' => e = .returned (.bool (startsL (baseL l) tmpS)) ∧ u = w') from fun u => by
    have := hasPrefix_any (baseL l) tmpS u
    rw [← mkS_lit tmpS] at this
    exact this)
  have H2 := Lib.hid (show ∀ u : World, Calls Tryd.prog 42 #[.string (mkS (baseL l)), .string ⟨#[46, 112, 97, 114, 126]⟩] u (fun e w' => e = .returned (.bool (startsL (baseL l) parS)) ∧ u = w') from fun u => by
    have := hasPrefix_any (baseL l) parS u
    rw [← mkS_lit parS] at this
    exact this)
  obtain ⟨k, hk⟩ : ∃ k, kindL l = k := ⟨_, rfl⟩
  rw [hk]
  unfold kindL at hk
  have HK := Lib.hid hk.symm
  clear hk
  generalize startsL (baseL l) tmpS = b1 at *
  generalize startsL (baseL l) parS = b2 at *
  generalize baseL l = x at *
  generalize goodL l = g at *
  cases g with
  | false =>
    obtain rfl : k = 0 := by rw [HK.out]; rfl
    go_enter Tryd.func27, Tryd.ntmps27
    go_wp2_with fail
    refine HB0.out.mono ?_
    rintro e w1 ⟨rfl, hB⟩
    have HB := Lib.hid hB
    clear hB HB0
    go_wp2_with fail
    refine (HG.out _).mono ?_
    rintro e w2 ⟨rfl, hB⟩
    have HB2 := Lib.hid (HB.out.trans (hB.mono HB.out.size))
    clear hB HB
    go_wp2
    go_ret
    exact ⟨rfl, HB2.out⟩
  | true =>
    cases b1 with
    | true =>
      obtain rfl : k = 1 := by rw [HK.out]; rfl
      go_enter Tryd.func27, Tryd.ntmps27
      go_wp2_with fail
      refine HB0.out.mono ?_
      rintro e w1 ⟨rfl, hB⟩
      have HB := Lib.hid hB
      clear hB HB0
      go_wp2_with fail
      refine (HG.out _).mono ?_
      rintro e w2 ⟨rfl, hB⟩
      have HB2 := Lib.hid (HB.out.trans (hB.mono HB.out.size))
      clear hB HB
      go_wp2_with fail
      refine (H1.out _).mono ?_
      rintro e w' ⟨rfl, rfl⟩
      go_wp2
      go_ret
      exact ⟨rfl, HB2.out⟩
    | false =>
      obtain rfl : k = if b2 then 2 else 3 := by rw [HK.out]; rfl
      go_enter Tryd.func27, Tryd.ntmps27
      go_wp2_with fail
      refine HB0.out.mono ?_
      rintro e w1 ⟨rfl, hB⟩
      have HB := Lib.hid hB
      clear hB HB0
      go_wp2_with fail
      refine (HG.out _).mono ?_
      rintro e w2 ⟨rfl, hB⟩
      have HB2 := Lib.hid (HB.out.trans (hB.mono HB.out.size))
      clear hB HB
      go_wp2_with fail
      refine (H1.out _).mono ?_
      rintro e w' ⟨rfl, rfl⟩
      go_wp2_with fail
      refine (H2.out _).mono ?_
      rintro e w' ⟨rfl, rfl⟩
      cases b2 with
      | true =>
        go_wp2
        go_ret
        exact ⟨rfl, HB2.out⟩
      | false =>
        go_wp2
        go_ret
        exact ⟨rfl, HB2.out⟩
end Go.Proofs.YtcgilacmdckbfaaDoor
