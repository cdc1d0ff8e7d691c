/- The reference's numbers, read. -/
import Derived.Test.YtllpcllgliknpaaGreatDoorRef6
import Derived.OwnWalk
set_option linter.unusedSimpArgs false
set_option maxRecDepth 100000
set_option linter.unusedVariables false
namespace Go.Proofs.YtllpcllgliknpaaGreatDoor
open Go Go.RowKit

/-- What is told of the number at the beginning of bytes, of most at most: the number, how many bytes, the error. -/
def takeI (l : List (BitVec 8)) (most : Int) : Nat × Nat × Nat :=
  match num7 l with
  | none => (0, 0, 6)
  | some (n, k) => if most < (n : Int) then (0, 0, 14) else (n, k, 0)
def tripI (x : Nat × Nat × Nat) : Value := .tuple #[.int .i64 (x.1 : Int), .int .i64 (x.2.1 : Int), .int .i64 (x.2.2 : Int)]
theorem takeI_none {l : List (BitVec 8)} (most : Int) (h : num7 l = none) : takeI l most = (0, 0, 6) := by unfold takeI; rw [h]
theorem takeI_many {l : List (BitVec 8)} {most : Int} {n k : Nat} (h : num7 l = some (n, k)) (hm : most < (n : Int)) : takeI l most = (0, 0, 14) := by unfold takeI; rw [h]; exact if_pos hm
theorem takeI_some {l : List (BitVec 8)} {most : Int} {n k : Nat} (h : num7 l = some (n, k)) (hm : ¬ most < (n : Int)) : takeI l most = (n, k, 0) := by unfold takeI; rw [h]; exact if_neg hm
/-- What is known behind i groups. -/
structure Mid7 (l : List (BitVec 8)) (i acc : Nat) : Prop where
  le : i ≤ l.length
  lt : acc < 128 ^ i
  eq : num7 l = (scan7 (9 - i) i (l.drop i)).map fun x => (acc + 128 ^ i * x.1, x.2 + i)
theorem Mid7.zero (l : List (BitVec 8)) : Mid7 l 0 0 := ⟨Nat.zero_le _, by decide, by
  unfold num7
  rw [List.drop_zero]
  cases scan7 (9 - 0) 0 l with
  | none => rfl
  | some x => simp⟩
section
variable {l : List (BitVec 8)} {i acc : Nat}
theorem drop_cons (h : i < l.length) : l.drop i = l.getD i 0#8 :: l.drop (i + 1) := by
  rw [List.drop_eq_getElem_cons h, List.getD_eq_getElem?_getD, List.getElem?_eq_getElem h]
  rfl
theorem Mid7.short (h : Mid7 l i acc) (hi : l.length ≤ i) : num7 l = none := by
  rw [h.eq, List.drop_eq_nil_of_le hi]
  cases 9 - i <;> rfl
theorem Mid7.long (h : Mid7 l 9 acc) : num7 l = none := h.eq
theorem Mid7.vain (h : Mid7 l i acc) (hi : i < l.length) (h9 : i < 9) (h0 : 0 < i) (hc : (l.getD i 0#8).toNat = 0) : num7 l = none := by
  obtain ⟨f, hf⟩ : ∃ f, 9 - i = f + 1 := ⟨9 - i - 1, by omega⟩
  rw [h.eq, drop_cons hi, hf, scan7, if_pos (by omega), if_pos ⟨h0, hc⟩]
  rfl
theorem Mid7.last (h : Mid7 l i acc) (hi : i < l.length) (h9 : i < 9) (hc : (l.getD i 0#8).toNat < 128) (h0 : i = 0 ∨ (l.getD i 0#8).toNat ≠ 0) : num7 l = some (acc + (l.getD i 0#8).toNat * 128 ^ i, i + 1) := by
  obtain ⟨f, hf⟩ : ∃ f, 9 - i = f + 1 := ⟨9 - i - 1, by omega⟩
  rw [h.eq, drop_cons hi, hf, scan7, if_pos hc, if_neg (by omega), Option.map_some, Nat.mul_comm, Nat.add_comm 1 i]
theorem Mid7.next (h : Mid7 l i acc) (hi : i < l.length) (h9 : i < 9) (hc : 128 ≤ (l.getD i 0#8).toNat) : Mid7 l (i + 1) (acc + (l.getD i 0#8).toNat % 128 * 128 ^ i) := by
  obtain ⟨f, hf⟩ : ∃ f, 9 - i = f + 1 := ⟨9 - i - 1, by omega⟩
  have hcl := (l.getD i 0#8).isLt
  refine ⟨hi, ?_, ?_⟩
  · have h1 := h.lt
    have h2 : (l.getD i 0#8).toNat % 128 ≤ 127 := by omega
    have h3 := Nat.mul_le_mul_right (128 ^ i) h2
    rw [Nat.pow_succ]
    omega
  · rw [h.eq, drop_cons hi, hf, scan7, if_neg (by omega), show 9 - (i + 1) = f by omega, Option.map_map]
    congr 1
    funext x
    simp only [Function.comp]
    congr 1
    · rw [Nat.mul_add, Nat.pow_succ, Nat.mul_comm (128 ^ i) ((l.getD i 0#8).toNat % 128), Nat.mul_assoc]
      omega
    · omega
end
theorem pow_le8 {i : Nat} (h : i ≤ 8) : 128 ^ i ≤ 72057594037927936 := by
  have := Nat.pow_le_pow_right (n := 128) (by decide) h
  rwa [show (128 : Nat) ^ 8 = 72057594037927936 by decide] at this
theorem i64w (x : Int) (h1 : -9223372036854775808 ≤ x) (h2 : x < 9223372036854775808) : IntKind.i64.wrap x = x := by rw [IntKind.wrap_i64]; omega
theorem w64 (x : Int) (h1 : -9223372036854775808 ≤ x) (h2 : x < 9223372036854775808) : wrap64 x = x := by unfold wrap64; omega
theorem sum7 {acc P t : Nat} (h1 : acc < P) (h2 : t ≤ 127) (h3 : P ≤ 72057594037927936) : acc + t * P < 9223372036854775808 := by
  have := Nat.mul_le_mul_right P h2
  omega
theorem i64n (x : Nat) (h : x < 9223372036854775808) : IntKind.i64.wrap (x : Int) = (x : Int) := i64w _ (by omega) (by omega)
theorem w64n (x : Nat) (h : x < 9223372036854775808) : wrap64 (x : Int) = (x : Int) := w64 _ (by omega) (by omega)
theorem i64a (x y : Nat) (h : x + y < 9223372036854775808) : IntKind.i64.wrap ((x : Int) + (y : Int)) = (x : Int) + (y : Int) := i64w _ (by omega) (by omega)
theorem w64a (x y : Nat) (h : x + y < 9223372036854775808) : wrap64 ((x : Int) + (y : Int)) = (x : Int) + (y : Int) := w64 _ (by omega) (by omega)
end Go.Proofs.YtllpcllgliknpaaGreatDoor
