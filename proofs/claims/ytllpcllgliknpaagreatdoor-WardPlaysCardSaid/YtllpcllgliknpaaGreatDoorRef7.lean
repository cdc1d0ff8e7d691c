/- The reference of layer 7: signs, paths, slashes, beginnings. -/
import Derived.Test.YtllpcllgliknpaaGreatDoorStr7
import Derived.OwnWalk
import Derived.Lib.Hide
import Derived.Lib.MinMax
set_option linter.unusedSimpArgs false
set_option maxRecDepth 100000
set_option linter.unusedVariables false
namespace Go.Proofs.YtllpcllgliknpaaGreatDoor
open Go Go.RowKit

def signN (c : Nat) : Bool := allS.any fun x => x.toNat == c
theorem signB_eq (c : UInt8) : signB c = signN c.toNat := by
  unfold signB signN
  rw [List.contains_eq_any_beq]
  congr 1
  funext x
  by_cases h : c = x
  · subst h; simp
  · have : ¬ x.toNat = c.toNat := fun e => h (UInt8.toNat_inj.1 e.symm)
    rw [beq_eq_false_iff_ne.2 h]
    simp [this]
theorem i64s (x : Nat) (h : x < 9000000000000000000) : IntKind.i64.wrap ((x : Int) + 1) = (x : Int) + 1 := by rw [IntKind.wrap_i64]; omega
set_option maxRecDepth 100000 in
set_option maxHeartbeats 1000000 in
theorem refSign_any (c : Nat) (hc : c < 256) (w : World) : Calls Tryz.prog 63 #[.int .u8 (c : Int)] w fun e w' => e = .returned (.bool (signN c)) ∧ w = w' := by
  obtain ⟨A, hA⟩ : ∃ A, A = allS := ⟨_, rfl⟩
  have hlen : A.length = 67 := by rw [hA]; rfl
  have HA := Lib.hid hA
  have hlit : (⟨(List.append [97, 98, 99, 100, 101, 102, 103, 104, 105, 106, 107, 108, 109, 110, 111, 112, 113, 114, 115, 116, 117, 118, 119, 120, 121, 122, 65, 66, 67, 68, 69, 70, 71] [72, 73, 74, 75, 76, 77, 78, 79, 80, 81, 82, 83, 84, 85, 86, 87, 88, 89, 90, 48, 49, 50, 51, 52, 53, 54, 55, 56, 57, 45, 95, 46, 126, 43]).toArray⟩ : ByteArray) = mkS A := by rw [hA]; exact mkS_lit allS
  clear hA
  go_enter Tryz.func63, Tryz.ntmps63
  rw [hlit]
  clear hlit
  go_wp2
  go_loopw [4] (fun vi wr => ∃ i : Nat, i ≤ 67 ∧ vi = .int .i64 i ∧ (∀ j, j < i → chr A j ≠ c) ∧ w = wr) (fun vi _ => 67 - (intOf vi).toNat)
  case atStart => exact ⟨0, by decide, rfl, fun j h => absurd h (by omega), rfl⟩
  case round =>
    obtain ⟨i, hi, rfl, hn, rfl⟩ := hrel
    by_cases hlt : i < 67
    · have hl : i < A.length := by omega
      have z1 : (i : Int) < 67 := by omega
      have z2 : decide ((i : Int) < 67) = true := decide_eq_true z1
      have hw := i64s i (by omega)
      obtain ⟨x, hx⟩ : ∃ x, chr A i = x := ⟨_, rfl⟩
      by_cases hxc : x = c
      · subst hxc
        have hz : ((x : Int) == (x : Int)) = true := by simp
        have HS := Lib.hid (show signN x = true from by
          unfold signN
          rw [← HA.out, List.any_eq_true]
          exact ⟨A[i], List.getElem_mem hl, by rw [← chr_eq hl, hx]; simp⟩)
        clear hn
        go_wp2
        go_ret
        exact ⟨by rw [HS.out]; rfl, rfl⟩
      · have hz : ((x : Int) == (c : Int)) = false := by simp; omega
        have HN := Lib.hid (show ∀ j, j < i + 1 → chr A j ≠ c from fun j h => by
          rcases Nat.lt_succ_iff_lt_or_eq.1 h with h | h
          · exact hn j h
          · rw [h, hx]; exact hxc)
        clear hn
        go_wp2
        exact ⟨⟨i + 1, by omega, by go_num, HN.out, trivial⟩, by simp [intOf]; omega⟩
    · obtain rfl : i = 67 := by omega
      have HS := Lib.hid (show signN c = false from by
        unfold signN
        rw [← HA.out, List.any_eq_false]
        intro x hx
        obtain ⟨j, hj, rfl⟩ := List.getElem_of_mem hx
        have := hn j (by omega)
        rw [chr_eq hj] at this
        simpa using this)
      clear hn
      go_wp2
      go_ret
      exact ⟨by rw [HS.out]; rfl, rfl⟩
end Go.Proofs.YtllpcllgliknpaaGreatDoor
