/- Items written one behind the other, and read again; plain functions. -/
import Derived.Test.YtgmogbgkokofoaaRight6
import Derived.Test.YtgmogbgkokofoaaNextN6
set_option linter.unusedSimpArgs false
set_option linter.unusedVariables false
namespace Go.Proofs.Ytgmogbgkokofoaa
open Go Go.RowKit

/-- An item as it is read. -/
def It.nrm (x : It) : Prop := (x.k ≠ 1 → x.k ≠ 2 → x.k ≠ 4 → x.b = []) ∧ (x.k = 1 ∨ x.k = 2 ∨ x.k = 4 → x.n = 0)
theorem fixI_ok {x : Rw} (h : x.n < 9223372036854775808) : (fixI x).ok ∧ (fixI x).nrm := by
  obtain ⟨K, hK⟩ : ∃ K : Nat, (x.k % 6).toNat = K := ⟨_, rfl⟩
  have hb : K < 6 := by omega
  by_cases h0 : K = 0 ∨ K = 5
  · rw [fixI_num hK h0]
    exact ⟨⟨hb, by show x.n.toNat < _; omega, fun h => by dsimp only at h; omega, fun h => by dsimp only at h; omega, Nat.zero_lt_succ _⟩, fun _ _ _ => rfl, fun h => by dsimp only at h; omega⟩
  · by_cases h3 : K = 3
    · rw [fixI_truth (hK.trans h3)]
      exact ⟨⟨(by decide : (3 : Nat) < 6), by show (x.n % 2).toNat < _; omega, fun _ => by show (x.n % 2).toNat < 2; omega, (fun h => absurd h (by decide : ¬ (3 : Nat) = 4)), Nat.zero_lt_succ _⟩, fun _ _ _ => rfl, fun h => absurd h (by decide : ¬ ((3 : Nat) = 1 ∨ (3 : Nat) = 2 ∨ (3 : Nat) = 4))⟩
    · by_cases h4 : K = 4
      · rw [fixI_dig (hK.trans h4)]
        exact ⟨⟨(by decide : (4 : Nat) < 6), (by decide : (0 : Nat) < 9223372036854775808), (fun h => absurd h (by decide : ¬ (4 : Nat) = 3)), fun _ => pad32_len _, by show (pad32 x.b).length < _; rw [pad32_len]; decide⟩, fun _ _ h => absurd rfl h, fun _ => rfl⟩
      · have h12 : K = 1 ∨ K = 2 := by omega
        rw [fixI_bytes hK h12]
        refine ⟨⟨hb, (by decide : (0 : Nat) < 9223372036854775808), fun h => ?_, fun h => ?_, ?_⟩, fun h1 h2 _ => ?_, fun _ => rfl⟩
        · dsimp only at h; omega
        · dsimp only at h; omega
        · show (x.b.take 300).length < _
          rw [List.length_take]; omega
        · dsimp only at h1 h2; omega
theorem rightL_ok {xs : List Rw} (h : ∀ x ∈ xs, x.n < 9223372036854775808) : ∀ x ∈ rightL xs, x.ok ∧ x.nrm := fun x hx => by
  unfold rightL at hx
  obtain ⟨y, hy, rfl⟩ := List.mem_map.1 hx
  exact fixI_ok (h y (List.mem_of_mem_take hy))
theorem rightL_len (xs : List Rw) : (rightL xs).length ≤ 30 := by unfold rightL; simp; omega
theorem rightL_size {xs : List Rw} : ∀ x ∈ rightL xs, x.b.length ≤ 300 := fun x hx => by
  unfold rightL at hx
  obtain ⟨y, hy, rfl⟩ := List.mem_map.1 hx
  unfold fixI
  split
  · exact Nat.zero_le _
  · split
    · exact Nat.zero_le _
    · split
      · show (pad32 y.b).length ≤ 300
        rw [pad32_len]; decide
      · show (y.b.take 300).length ≤ 300
        rw [List.length_take]; omega
def maxI : Int := 9223372036854775807
theorem takeI_enc {n : Nat} (r : List (BitVec 8)) (h : n < 9223372036854775808) : takeI (enc7 n ++ r) 9223372036854775807 = (n, (enc7 n).length, 0) :=
  takeI_some (num7_enc n r h) (by omega)
theorem put_num {x : It} (h1 : x.k ≠ 1) (h2 : x.k ≠ 2) (h3 : x.k ≠ 3) (h4 : x.k ≠ 4) : x.put = enc7 x.n := by unfold It.put; rw [if_neg (by omega), if_neg h3, if_neg h4]
theorem put_bytes {x : It} (h : x.k = 1 ∨ x.k = 2) : x.put = enc7 x.b.length ++ x.b := by unfold It.put; rw [if_pos h]
theorem put_truth {x : It} (h : x.k = 3) : x.put = [BitVec.ofNat 8 x.n] := by unfold It.put; rw [if_neg (by omega), if_pos h]
theorem put_dig {x : It} (h : x.k = 4) : x.put = x.b := by unfold It.put; rw [if_neg (by omega), if_neg (by omega), if_pos h]
theorem nextI_put {x : It} (hx : x.ok) (hn : x.nrm) (r : List (BitVec 8)) : nextI (x.put ++ r) x.k 9223372036854775807 = (x, x.put.length, 0) := by
  obtain ⟨h1, h2, h3, h4, h5⟩ := hx
  obtain ⟨n1, n2⟩ := hn
  by_cases e3 : x.k = 3
  · have hn2 := h3 e3
    have ht : (BitVec.ofNat 8 x.n).toNat = x.n := by rw [BitVec.toNat_ofNat]; exact Nat.mod_eq_of_lt (by omega)
    rw [put_truth e3, e3]
    unfold nextI
    rw [if_pos rfl, if_neg (by simp [ht]; omega)]
    simp only [List.cons_append, List.nil_append, List.getD_cons_zero, ht, List.length_singleton]
    congr 1
    obtain ⟨k, n, b⟩ := x
    obtain rfl : b = [] := n1 (by omega) (by omega) (by omega)
    obtain rfl : k = 3 := e3
    rfl
  · by_cases e4 : x.k = 4
    · have hl := h4 e4
      have hz := n2 (.inr (.inr e4))
      rw [put_dig e4, e4]
      unfold nextI
      rw [if_neg (by decide), if_pos rfl, if_neg (by rw [List.length_append]; omega), hl]
      congr 1
      obtain ⟨k, n, b⟩ := x
      obtain rfl : k = 4 := e4
      obtain rfl : n = 0 := hz
      dsimp only at hl ⊢
      rw [List.take_append_of_le_length (by omega), List.take_of_length_le (by omega)]
    · rw [nextI_take e3 e4]
      by_cases e1 : x.k = 1 ∨ x.k = 2
      · rw [put_bytes e1, List.append_assoc, takeI_enc _ (by omega), if_neg (by simp), if_neg (by omega)]
        dsimp only
        rw [if_neg (by simp), List.drop_left, List.length_append]
        congr 1
        obtain ⟨k, n, b⟩ := x
        obtain rfl : n = 0 := n2 (by omega)
        dsimp only
        rw [List.take_left]
      · rw [put_num (by omega) (by omega) e3 e4, takeI_enc _ h2, if_neg (by simp), if_pos (by omega)]
        dsimp only
        congr 1
        obtain ⟨k, n, b⟩ := x
        obtain rfl : b = [] := n1 (by omega) (by omega) e4
        rfl
theorem nextI_cut {x : It} (hx : x.ok) {k : Nat} (hk : k < x.put.length) : (nextI (x.put.take k) x.k 9223372036854775807).2.2 = 6 := by
  obtain ⟨h1, h2, h3, h4, h5⟩ := hx
  by_cases e3 : x.k = 3
  · rw [put_truth e3] at hk ⊢
    obtain rfl : k = 0 := by simpa using hk
    rw [e3]
    unfold nextI
    rw [if_pos rfl, if_pos (.inl (by simp))]
  · by_cases e4 : x.k = 4
    · have hl := h4 e4
      rw [put_dig e4] at hk ⊢
      rw [e4]
      unfold nextI
      rw [if_neg (by decide), if_pos rfl, if_pos (by rw [List.length_take]; omega)]
    · rw [nextI_take e3 e4]
      by_cases e1 : x.k = 1 ∨ x.k = 2
      · rw [put_bytes e1] at hk ⊢
        rw [List.length_append] at hk
        by_cases hk2 : k < (enc7 x.b.length).length
        · rw [List.take_append_of_le_length (by omega), takeI_none _ (num7_cut _ _ hk2), if_pos (by decide)]
        · have e : (enc7 x.b.length ++ x.b).take k = enc7 x.b.length ++ x.b.take (k - (enc7 x.b.length).length) := by
            rw [List.take_append, List.take_of_length_le (by omega)]
          rw [e, takeI_enc _ (by omega), if_neg (by simp), if_neg (by omega)]
          dsimp only
          rw [if_pos (by rw [List.length_append, List.length_take]; omega)]
      · rw [put_num (by omega) (by omega) e3 e4] at hk ⊢
        rw [takeI_none _ (num7_cut _ _ hk), if_pos (by decide)]
/-- Items, one behind the other. -/
def encL : List It → List (BitVec 8)
  | [] => []
  | x :: r => x.put ++ encL r
theorem encL_append (xs ys : List It) : encL (xs ++ ys) = encL xs ++ encL ys := by
  induction xs with
  | nil => rfl
  | cons x r ih => show x.put ++ encL (r ++ ys) = (x.put ++ encL r) ++ encL ys; rw [ih, List.append_assoc]
theorem put_len {x : It} (hx : x.ok) (hb : x.b.length ≤ 300) : x.put.length ≤ 400 := by
  obtain ⟨h1, h2, h3, h4, h5⟩ := hx
  unfold It.put
  split
  · rw [List.length_append]
    have := enc7_len 8 x.b.length (by rw [pow9]; omega)
    omega
  · split
    · simp
    · split
      · omega
      · have := enc7_len 8 x.n (by rw [pow9]; omega)
        omega
theorem encL_len {xs : List It} (h : ∀ x ∈ xs, x.ok ∧ x.b.length ≤ 300) : (encL xs).length ≤ 400 * xs.length := by
  induction xs with
  | nil => exact Nat.le_refl _
  | cons x r ih =>
    show (x.put ++ encL r).length ≤ _
    rw [List.length_append, List.length_cons]
    have h1 := put_len (h x (by simp)).1 (h x (by simp)).2
    have h2 := ih fun y hy => h y (by simp [hy])
    omega
def it0 : It := ⟨0, 0, []⟩
theorem encL_drop (xs : List It) (i : Nat) (h : i < xs.length) : encL (xs.drop i) = (xs.getD i it0).put ++ encL (xs.drop (i + 1)) := by
  rw [List.drop_eq_getElem_cons h]
  show (xs[i]).put ++ _ = _
  congr 2
  simp [List.getD_eq_getElem?_getD, h]
theorem encL_take (xs : List It) (i : Nat) (h : i < xs.length) : encL (xs.take (i + 1)) = encL (xs.take i) ++ (xs.getD i it0).put := by
  rw [take_getD _ it0 _ h, encL_append]
  show _ ++ ((xs.getD i it0).put ++ []) = _
  rw [List.append_nil]
theorem raw_get (xs : List It) (i : Nat) (h : i < xs.length) : (xs.map It.raw).getD i rw0 = (xs.getD i it0).raw := by
  simp [List.getD_eq_getElem?_getD, h]
end Go.Proofs.Ytgmogbgkokofoaa
