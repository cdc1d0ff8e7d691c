/- The reference's kinds. -/
import Derived.Test.YtcgilacmdckbfaaDoorRefW7
import Derived.Test.YtcgilacmdckbfaaDoorRefS7
set_option linter.unusedSimpArgs false
set_option maxRecDepth 100000
set_option linter.unusedVariables false
namespace Go.Proofs.YtcgilacmdckbfaaDoor
open Go Go.RowKit

set_option maxHeartbeats 1000000 in
theorem refKind_any (l : S8) (hl : l.length < 100000) (w : World) : Calls Tryd.prog 26 #[.string (mkS l)] w fun e w' => Gives (.int .i64 (kindL l : Int)) w e w' := by
  obtain ⟨X, hX⟩ : ∃ X, kindL l = X := ⟨_, rfl⟩
  rw [hX]
  have HX := Lib.hid (hX.symm.trans (show kindL l = if goodL l then (if startsL (baseL l) tmpS then 1 else if startsL (baseL l) parS then 2 else 3) else 0 from rfl))
  clear hX
  have HG := Lib.hid (fun u => refGood_any l (by omega) u)
  have HS := Lib.hid (fun u => refSlash_any l (by omega) u)
  have hkl := kL_le l
  have hbl : (l.drop (kL l)).length < 1000000 := by rw [List.length_drop]; omega
  have HT := Lib.hid (fun u => refStarts_any (l.drop (kL l)) tmpS hbl (by decide) u)
  have HP := Lib.hid (fun u => refStarts_any (l.drop (kL l)) parS hbl (by decide) u)
  rw [show mkS tmpS = ⟨#[46, 116, 109, 112, 126]⟩ from (mkS_lit tmpS).symm] at HT
  rw [show mkS parS = ⟨#[46, 112, 97, 114, 126]⟩ from (mkS_lit parS).symm] at HP
  have HX2 := Lib.hid (HX.out.trans (show _ = if goodL l then (if startsL (l.drop (kL l)) tmpS then 1 else if startsL (l.drop (kL l)) parS then 2 else 3) else 0 from rfl))
  clear HX hbl
  generalize goodL l = g at *
  generalize startsL (l.drop (kL l)) tmpS = b1 at *
  generalize startsL (l.drop (kL l)) parS = b2 at *
  generalize kL l = k at *
  have k1 : IntKind.i64.wrap (k : Int) = (k : Int) := by rw [IntKind.wrap_i64]; omega
  have k2 : wrap64 (k : Int) = (k : Int) := by unfold wrap64; omega
  have k3 : (k : Int) - 1 + 1 = (k : Int) := by omega
  go_enter Tryd.func26, Tryd.ntmps26
  go_wp2_with fail
  refine (HG.out _).mono ?_
  rintro e w' ⟨rfl, rfl⟩
  cases g with
  | false =>
    obtain rfl : X = 0 := by rw [HX2.out]; rfl
    go_wp2
    go_ret
    exact ⟨rfl, Below.refl _ _⟩
  | true =>
    go_wp2_with fail
    refine (HS.out _).mono ?_
    rintro e w' ⟨rfl, rfl⟩
    go_wp2_with fail
    refine (HT.out _).mono ?_
    rintro e w' ⟨rfl, rfl⟩
    cases b1 with
    | true =>
      obtain rfl : X = 1 := by rw [HX2.out]; rfl
      go_wp2
      go_ret
      exact ⟨rfl, Below.refl _ _⟩
    | false =>
      go_wp2_with fail
      refine (HP.out _).mono ?_
      rintro e w' ⟨rfl, rfl⟩
      cases b2 with
      | true =>
        obtain rfl : X = 2 := by rw [HX2.out]; rfl
        go_wp2
        go_ret
        exact ⟨rfl, Below.refl _ _⟩
      | false =>
        obtain rfl : X = 3 := by rw [HX2.out]; rfl
        go_wp2
        go_ret
        exact ⟨rfl, Below.refl _ _⟩
end Go.Proofs.YtcgilacmdckbfaaDoor
