/- strings.IndexRune and strings.ContainsRune at whatever rune, over a string of five ASCII bytes; what a name may have, what a digest's text may have. -/
import Derived.Test.YtcgilacmdckbfaaDoorIdxF7
import Derived.Laws.Runes
import Derived.Lib.Bytealg
import Derived.Laws.Externs
import Derived.Deep.QuietTactic
set_option linter.unusedSimpArgs false
set_option maxRecDepth 100000
set_option linter.unusedVariables false
namespace Go.Proofs.YtcgilacmdckbfaaDoor
open Go Go.RowKit

theorem bytesL (l : S8) : (mkS l).data.toList = l := by rw [← ByteArray.toList_eq, mkS_toList]
/-- The library's search for one byte, in the model. -/
theorem ixc (l : S8) (c : Int) (w : World) : (callFunc 94 #[.string (mkS l), .int .u8 c]).run Tryd.prog w = .ok (.value (.int .i64 (Lib.indexByte l c.toNat.toUInt8))) w := by
  have h := run_callFunc_extern (P := Tryd.prog) (f := 94) (e := Extern.BytealgIndexByte.indexByte) Tryd.func94 (by kernel_rfl) (by kernel_rfl) (by kernel_rfl) (by kernel_rfl) #[.string (mkS l), .int .u8 c] w
  rw [h, Lib.run_indexByteString (P := Tryd.prog), bytesL]
  rfl
attribute [local go_sem] ixc
theorem indexByte_lite (l : S8) (c : Int) (w : World) : Calls Tryd.prog 87 #[.string (mkS l), .int .u8 c] w fun e w' => e = .returned (.int .i64 (Lib.indexByte l c.toNat.toUInt8)) ∧ w = w' := by
  go_enter Tryd.func87, Tryd.ntmps87
  go_wp2
  go_ret
  exact ⟨rfl, rfl⟩
theorem indexByte_any (l : S8) (c : Int) (w : World) : Calls Tryd.prog 92 #[.string (mkS l), .int .u8 c] w fun e w' => e = .returned (.int .i64 (Lib.indexByte l c.toNat.toUInt8)) ∧ w = w' := by
  have HC := Lib.hid (indexByte_lite l c w)
  generalize Lib.indexByte l c.toNat.toUInt8 = x at *
  go_enter Tryd.func92, Tryd.ntmps92
  go_wp2_with fail
  refine HC.out.mono ?_
  rintro e w' ⟨rfl, rfl⟩
  go_wp2
  go_ret
  exact ⟨rfl, rfl⟩
theorem indexByte_has (l : S8) (c : UInt8) : (0 ≤ Lib.indexByte l c) = (l.contains c = true) ∧ -1 ≤ Lib.indexByte l c := by
  induction l with
  | nil => exact ⟨by simp [Lib.indexByte], by simp [Lib.indexByte]⟩
  | cons b r ih =>
    obtain ⟨i1, i2⟩ := ih
    unfold Lib.indexByte
    by_cases h : b = c
    · subst h; simp
    · have hb : (b == c) = false := beq_eq_false_iff_ne.2 h
      have hcb : (c == b) = false := beq_eq_false_iff_ne.2 (fun e => h e.symm)
      rw [List.contains_cons, hcb, Bool.false_or, ← i1, hb]
      by_cases h1 : Lib.indexByte r c = -1
      · have e1 : (Lib.indexByte r c == -1) = true := by rw [h1]; rfl
        simp [e1, h1]
      · have e1 : (Lib.indexByte r c == -1) = false := beq_eq_false_iff_ne.2 h1
        rw [e1]
        simp only [Bool.false_eq_true, if_false]
        exact ⟨propext (by omega), by omega⟩
theorem indexByte_none {l : S8} {c : UInt8} (h : ∀ b ∈ l, b ≠ c) : Lib.indexByte l c = -1 := by
  obtain ⟨h1, h2⟩ := indexByte_has l c
  have : ¬ l.contains c = true := by simpa using fun hc => h c hc rfl
  rw [← h1] at this
  omega
set_option maxRecDepth 1000000 in
set_option maxHeartbeats 2000000 in
/-- A rune of ASCII. -/
theorem indexRune_lo (l : S8) (r : Nat) (w : World) (hr : r < 128) : Calls Tryd.prog 86 #[.string (mkS l), .int .i32 (r : Int)] w fun e w' => e = .returned (.int .i64 (Lib.indexByte l (UInt8.ofNat r))) ∧ w = w' := by
  have HC := Lib.hid (show Calls Tryd.prog 92 #[.string (mkS l), .int .u8 (r : Int)] w _ from indexByte_any l (r : Int) w)
  have e : ((r : Int).toNat.toUInt8) = UInt8.ofNat r := by simp [Nat.toUInt8]
  rw [e] at HC
  generalize Lib.indexByte l (UInt8.ofNat r) = x at *
  have z1 : (r : Int) < 128 := by omega
  have z2 : decide ((r : Int) < 128) = true := decide_eq_true z1
  have z3 : IntKind.u8.wrap (r : Int) = (r : Int) := by unfold IntKind.wrap; simp [IntKind.bits, IntKind.signed]; omega
  go_enter Tryd.func86, Tryd.ntmps86
  go_wp2_with fail
  refine HC.out.mono ?_
  rintro e w' ⟨rfl, rfl⟩
  go_wp2
  go_ret
  exact ⟨rfl, rfl⟩
theorem valid_any (r : Int) (w : World) : Calls Tryd.prog 93 #[.int .i32 r] w fun e w' => e = .returned (.bool (Utf8.valid r)) ∧ w = w' := by
  rw [validRune_eq]
  obtain ⟨v, hv⟩ : ∃ v, validRune r = v := ⟨_, rfl⟩
  rw [hv]
  unfold validRune at hv
  by_cases h1 : 0 ≤ r ∧ r < 55296
  · obtain rfl : v = true := hv.symm.trans (decide_eq_true (Or.inl h1))
    obtain ⟨a1, a2⟩ := h1
    clear hv
    go_enter Tryd.func93, Tryd.ntmps93
    go_wp2
    go_ret
    exact ⟨rfl, rfl⟩
  · by_cases h2 : 57343 < r ∧ r ≤ 1114111
    · obtain rfl : v = true := hv.symm.trans (decide_eq_true (Or.inr h2))
      obtain ⟨a1, a2⟩ := h2
      have a3 : ¬ r < 55296 := by omega
      have a4 : 0 ≤ r := by omega
      clear h1 hv
      go_enter Tryd.func93, Tryd.ntmps93
      go_wp2
      go_ret
      exact ⟨rfl, rfl⟩
    · obtain rfl : v = false := hv.symm.trans (decide_eq_false (fun h => h.elim h1 h2))
      clear hv
      by_cases b1 : 0 ≤ r
      · have b2 : ¬ r < 55296 := fun h => h1 ⟨b1, h⟩
        by_cases b3 : 57343 < r
        · have b4 : ¬ r ≤ 1114111 := fun h => h2 ⟨b3, h⟩
          clear h1 h2
          go_enter Tryd.func93, Tryd.ntmps93
          go_wp2
          go_ret
          exact ⟨rfl, rfl⟩
        · clear h1 h2
          go_enter Tryd.func93, Tryd.ntmps93
          go_wp2
          go_ret
          exact ⟨rfl, rfl⟩
      · have b3 : ¬ 57343 < r := by omega
        clear h1 h2
        go_enter Tryd.func93, Tryd.ntmps93
        go_wp2
        go_ret
        exact ⟨rfl, rfl⟩
/-- Bytes of ASCII, five of them. -/
def Low5 (l : S8) : Prop := l.length = 5 ∧ ∀ c ∈ l, c.toNat < 128
theorem Low5.get {l : S8} (h : Low5 l) (i : Nat) (hi : i < l.length) : chr l i < 128 := by
  rw [chr_eq hi]
  exact h.2 _ (List.getElem_mem hi)
set_option maxRecDepth 1000000 in
set_option maxHeartbeats 2000000 in
/-- A rune that is no rune. -/
theorem indexRune_no (l : S8) (r : Nat) (w : World) (hr : 128 ≤ r) (hf : r ≠ 65533) (hv : Utf8.valid (r : Int) = false) : Calls Tryd.prog 86 #[.string (mkS l), .int .i32 (r : Int)] w fun e w' => e = .returned (.int .i64 (-1)) ∧ w = w' := by
  have HV := Lib.hid (valid_any (r : Int) w)
  rw [hv] at HV
  have z0 : (0 : Int) ≤ (r : Int) := by omega
  have z1 : ¬ (r : Int) < 128 := by omega
  have z2 : decide ((r : Int) < 128) = false := decide_eq_false z1
  have z3 : ((r : Int) == 65533) = false := by simp; omega
  clear hv hr hf
  go_enter Tryd.func86, Tryd.ntmps86
  go_wp2_with fail
  refine HV.out.mono ?_
  rintro e w' ⟨rfl, rfl⟩
  go_wp2
  go_ret
  exact ⟨rfl, rfl⟩
end Go.Proofs.YtcgilacmdckbfaaDoor
