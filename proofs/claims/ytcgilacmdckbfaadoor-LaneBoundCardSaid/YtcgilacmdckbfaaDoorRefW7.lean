/- The reference of layer 7: decimals, what is put ahead of a name, homes, copies, kinds. -/
import Derived.Test.YtcgilacmdckbfaaDoorRefH7
import Derived.Test.YtcgilacmdckbfaaDoorRefL7
import Derived.Test.YtcgilacmdckbfaaDoorBytes
import Derived.Deep.RegionLaw
import Derived.BigRegion
set_option linter.unusedSimpArgs false
set_option maxRecDepth 100000
set_option linter.unusedVariables false
namespace Go.Proofs.YtcgilacmdckbfaaDoor
open Go Go.RowKit

/-- A string of one byte that was just made. -/
theorem conv1 (w : World) (b c : Nat) (h : w.cell? ⟨b, 0, none⟩ = some (.int .u8 (c : Int))) (hc : c < 256) : (convert 60 9 (.slice (some ⟨b, 0, none⟩) 1 1)).run Tryd.prog w = .ok (.string (mkS [UInt8.ofNat c])) w := by
  have hs : Sl w (some ⟨b, 0, none⟩) [BitVec.ofNat 8 c] := fun j hj => by
    have : j = 0 := by simp at hj; omega
    subst this
    refine ⟨b, 0, rfl, ?_⟩
    show w.cell? ⟨b, 0, none⟩ = some (B (BitVec.ofNat 8 c))
    rw [h, B_eq', BitVec.toNat_ofNat, Nat.mod_eq_of_lt (by simpa using hc)]
  have := conv_str w _ _ 1 1 hs rfl (fun h => by cases h)
  rw [this]
  congr 2
  unfold mkS
  rfl
attribute [local go_sem high] conv1
theorem decL_lo {n : Nat} (h : n < 10) : decL n = [UInt8.ofNat (48 + n)] := by rw [decL, dif_pos h]
theorem decL_hi {n : Nat} (h : ¬ n < 10) : decL n = cat (decL (n / 10)) [UInt8.ofNat (48 + n % 10)] := by rw [decL, dif_neg h, cat_eq]
theorem decL_len : ∀ n, (decL n).length ≤ n + 1 := by
  intro n
  induction n using Nat.strongRecOn with
  | ind n ih =>
    by_cases h : n < 10
    · rw [decL_lo h]; simp
    · rw [decL_hi h, cat_len]
      have := ih (n / 10) (by omega)
      simp; omega
/-- A string and an error's number. -/
def pairS (x : S8 × Nat) : Value := .tuple #[.string (mkS x.1), .int .i64 (x.2 : Int)]
theorem mkS_nil : mkS [] = ⟨#[]⟩ := (mkS_lit []).symm
theorem putL_cat (l ahead : S8) : putL l ahead = cat (cat (l.take (kL l)) ahead) (l.drop (kL l)) := by unfold putL; rw [cat_eq, cat_eq]
end Go.Proofs.YtcgilacmdckbfaaDoor
