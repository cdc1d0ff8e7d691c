/- The reference's numbers, read. -/
import Derived.Test.YtjpennbmphhipaaRef6
import Derived.OwnWalk
set_option linter.unusedSimpArgs false
set_option linter.unusedVariables false
namespace Go.Proofs.Ytjpennbmphhipaa
open Go Go.RowKit

/-- What is told of the number at the beginning of bytes, of most at most: the number, how many bytes, the error. -/
def takeI (l : List (BitVec 8)) (most : Int) : Nat × Nat × Nat :=
  match num7 l with
  | none => (0, 0, 6)
  | some (n, k) => if most < (n : Int) then (0, 0, 14) else (n, k, 0)
def tripI (x : Nat × Nat × Nat) : Value := .tuple #[.int .i64 (x.1 : Int), .int .i64 (x.2.1 : Int), .int .i64 (x.2.2 : Int)]
theorem takeI_none {l : List (BitVec 8)} (most : Int) (h : num7 l = none) : takeI l most = (0, 0, 6) := by unfold takeI; rw [h]
theorem takeI_many {l : List (BitVec 8)} {most : Int} {n k : Nat} (h : num7 l = some (n, k)) (hm : most < (n : Int)) : takeI l most = (0, 0, 14) := by unfold takeI; rw [h]; exact if_pos hm
theorem takeI_some {l : List (BitVec 8)} {most : Int} {n k : Nat} (h : num7 l = some (n, k)) (hm : ¬ most < (n : Int)) : takeI l most = (n, k, 0) := by unfold takeI; rw [h]; exact if_neg hm
/-- What is known behind i groups. -/
structure Mid7 (l : List (BitVec 8)) (i acc : Nat) : Prop where
  le : i ≤ l.length
  lt : acc < 128 ^ i
  eq : num7 l = (scan7 (9 - i) i (l.drop i)).map fun x => (acc + 128 ^ i * x.1, x.2 + i)
theorem Mid7.zero (l : List (BitVec 8)) : Mid7 l 0 0 := ⟨Nat.zero_le _, by decide, by
  unfold num7
  rw [List.drop_zero]
  cases scan7 (9 - 0) 0 l with
  | none => rfl
  | some x => simp⟩
section
variable {l : List (BitVec 8)} {i acc : Nat}
theorem drop_cons (h : i < l.length) : l.drop i = l.getD i 0#8 :: l.drop (i + 1) := by
  rw [List.drop_eq_getElem_cons h, List.getD_eq_getElem?_getD, List.getElem?_eq_getElem h]
  rfl
theorem Mid7.short (h : Mid7 l i acc) (hi : l.length ≤ i) : num7 l = none := by
  rw [h.eq, List.drop_eq_nil_of_le hi]
  cases 9 - i <;> rfl
theorem Mid7.long (h : Mid7 l 9 acc) : num7 l = none := h.eq
theorem Mid7.vain (h : Mid7 l i acc) (hi : i < l.length) (h9 : i < 9) (h0 : 0 < i) (hc : (l.getD i 0#8).toNat = 0) : num7 l = none := by
  obtain ⟨f, hf⟩ : ∃ f, 9 - i = f + 1 := ⟨9 - i - 1, by omega⟩
  rw [h.eq, drop_cons hi, hf, scan7, if_pos (by omega), if_pos ⟨h0, hc⟩]
  rfl
theorem Mid7.last (h : Mid7 l i acc) (hi : i < l.length) (h9 : i < 9) (hc : (l.getD i 0#8).toNat < 128) (h0 : i = 0 ∨ (l.getD i 0#8).toNat ≠ 0) : num7 l = some (acc + (l.getD i 0#8).toNat * 128 ^ i, i + 1) := by
  obtain ⟨f, hf⟩ : ∃ f, 9 - i = f + 1 := ⟨9 - i - 1, by omega⟩
  rw [h.eq, drop_cons hi, hf, scan7, if_pos hc, if_neg (by omega), Option.map_some, Nat.mul_comm, Nat.add_comm 1 i]
theorem Mid7.next (h : Mid7 l i acc) (hi : i < l.length) (h9 : i < 9) (hc : 128 ≤ (l.getD i 0#8).toNat) : Mid7 l (i + 1) (acc + (l.getD i 0#8).toNat % 128 * 128 ^ i) := by
  obtain ⟨f, hf⟩ : ∃ f, 9 - i = f + 1 := ⟨9 - i - 1, by omega⟩
  have hcl := (l.getD i 0#8).isLt
  refine ⟨hi, ?_, ?_⟩
  · have h1 := h.lt
    have h2 : (l.getD i 0#8).toNat % 128 ≤ 127 := by omega
    have h3 := Nat.mul_le_mul_right (128 ^ i) h2
    rw [Nat.pow_succ]
    omega
  · rw [h.eq, drop_cons hi, hf, scan7, if_neg (by omega), show 9 - (i + 1) = f by omega, Option.map_map]
    congr 1
    funext x
    simp only [Function.comp]
    congr 1
    · rw [Nat.mul_add, Nat.pow_succ, Nat.mul_comm (128 ^ i) ((l.getD i 0#8).toNat % 128), Nat.mul_assoc]
      omega
    · omega
end
theorem pow_le8 {i : Nat} (h : i ≤ 8) : 128 ^ i ≤ 72057594037927936 := by
  have := Nat.pow_le_pow_right (n := 128) (by decide) h
  rwa [show (128 : Nat) ^ 8 = 72057594037927936 by decide] at this
theorem i64w (x : Int) (h1 : -9223372036854775808 ≤ x) (h2 : x < 9223372036854775808) : IntKind.i64.wrap x = x := by rw [IntKind.wrap_i64]; omega
theorem w64 (x : Int) (h1 : -9223372036854775808 ≤ x) (h2 : x < 9223372036854775808) : wrap64 x = x := by unfold wrap64; omega
theorem sum7 {acc P t : Nat} (h1 : acc < P) (h2 : t ≤ 127) (h3 : P ≤ 72057594037927936) : acc + t * P < 9223372036854775808 := by
  have := Nat.mul_le_mul_right P h2
  omega
theorem i64n (x : Nat) (h : x < 9223372036854775808) : IntKind.i64.wrap (x : Int) = (x : Int) := i64w _ (by omega) (by omega)
theorem w64n (x : Nat) (h : x < 9223372036854775808) : wrap64 (x : Int) = (x : Int) := w64 _ (by omega) (by omega)
theorem i64a (x y : Nat) (h : x + y < 9223372036854775808) : IntKind.i64.wrap ((x : Int) + (y : Int)) = (x : Int) + (y : Int) := i64w _ (by omega) (by omega)
theorem w64a (x y : Nat) (h : x + y < 9223372036854775808) : wrap64 ((x : Int) + (y : Int)) = (x : Int) + (y : Int) := w64 _ (by omega) (by omega)
set_option maxRecDepth 100000 in
set_option maxHeartbeats 4000000 in
theorem refTake_any (l : List (BitVec 8)) (most : Int) (p : Option Addr) (n cap : Nat) (w : World) (hl : l.length = n) (hs : Sl w p l) : Calls Try.prog 20 #[.slice p n cap, .int .i64 most] w fun e w' => e = .returned (tripI (takeI l most)) ∧ w = w' := by
  have HL := Lib.hid hl
  have HS := Lib.hid hs
  clear hl hs
  go_enter Try.func20, Try.ntmps20
  go_wp2
  go_loopw [7, 8, 9] (fun va vb vi wr => ∃ (i acc by_ : Nat), i ≤ 9 ∧ vi = .int .i64 i ∧ va = .int .i64 acc ∧ (i ≤ 8 → vb = .int .i64 ((128 ^ i : Nat) : Int)) ∧ Mid7 l i acc ∧ w = wr) (fun va vb vi _ => 10 - (intOf vi).toNat)
  case atStart => exact ⟨0, 0, 1, by decide, rfl, rfl, fun _ => rfl, Mid7.zero l, rfl⟩
  case round =>
    obtain ⟨i, acc, b, hi9, rfl, rfl, hvb, hM, rfl⟩ := hrel
    by_cases hlt : i < n
    · have hltz : (i : Int) < (n : Int) := by omega
      have hld : decide ((i : Int) < (n : Int)) = true := decide_eq_true hltz
      by_cases h9 : i < 9
      · have h9z : (i : Int) < 9 := by omega
        have h9d : decide ((i : Int) < 9) = true := decide_eq_true h9z
        obtain rfl := hvb (by omega)
        obtain ⟨c0, o0, hpe, hx⟩ := HS.out i (by rw [HL.out]; exact hlt)
        subst hpe
        have hP := pow_le8 (show i ≤ 8 by omega)
        have hacc := hM.lt
        have hcl := (l.getD i 0#8).isLt
        have hl9 : i < l.length := by rw [HL.out]; exact hlt
        have HLAST := Lib.hid (fun a b => hM.last hl9 h9 a b)
        have HNEXT := Lib.hid (fun a => hM.next hl9 h9 a)
        have HVAIN := Lib.hid (fun a b => hM.vain hl9 h9 a b)
        rw [B_eq'] at hx
        obtain ⟨c, hc⟩ : ∃ c, (l.getD i 0#8).toNat = c := ⟨_, rfl⟩
        rw [hc] at hx hcl HLAST HNEXT HVAIN
        obtain ⟨t, ht⟩ : ∃ t, t = c % 128 := ⟨_, rfl⟩
        have htb : t ≤ 127 := by omega
        have t1 : (c : Int) % 128 = (t : Int) := by omega
        have t2 : (c : Int).tmod 128 = (t : Int) := by rw [Int.tmod_eq_emod_of_nonneg (by omega)]; exact t1
        have t3 : IntKind.u8.wrap (t : Int) = (t : Int) := by rw [IntKind.wrap_u8']; omega
        have t4 : IntKind.i64.wrap (t : Int) = (t : Int) := i64w _ (by omega) (by omega)
        rw [← ht] at HNEXT
        have HW := Lib.hid (show i + 1 ≤ 8 → wrap64 (((128 ^ i : Nat) : Int) * 128) = ((128 ^ (i + 1) : Nat) : Int) from fun h => by
          have h8 := pow_le8 h
          rw [Nat.pow_succ] at h8 ⊢
          generalize 128 ^ i = Q at *
          rw [w64 _ (by omega) (by omega)]
          omega)
        generalize 128 ^ i = P at *
        have hsum := sum7 hacc htb hP
        obtain ⟨M, hMM⟩ : ∃ M, t * P = M := ⟨_, rfl⟩
        rw [hMM] at hsum
        have m1 : (t : Int) * (P : Int) = (M : Int) := by rw [← hMM]; simp
        have m2 : IntKind.i64.wrap (M : Int) = (M : Int) := i64n _ (Nat.lt_of_le_of_lt (Nat.le_add_left _ _) hsum)
        have m3 : wrap64 (M : Int) = (M : Int) := w64n _ (Nat.lt_of_le_of_lt (Nat.le_add_left _ _) hsum)
        have m4 : IntKind.i64.wrap ((acc : Int) + (M : Int)) = (acc : Int) + (M : Int) := i64a _ _ hsum
        have m5 : wrap64 ((acc : Int) + (M : Int)) = (acc : Int) + (M : Int) := w64a _ _ hsum
        rw [hMM] at HNEXT
        clear hM hvb
        by_cases hc1 : c < 128
        · have hc1z : (c : Int) < 128 := by (clear t1 t2 t3 t4 m1 m2 m3 m4 m5; omega)
          have hc1d : decide ((c : Int) < 128) = true := decide_eq_true hc1z
          obtain rfl : t = c := by rw [ht]; exact Nat.mod_eq_of_lt hc1
          rw [hMM] at HLAST
          have hN := HLAST.out hc1
          have hV := fun a b => HVAIN.out a b
          have hi1 : IntKind.i64.wrap ((i : Int) + 1) = (i : Int) + 1 := i64w _ (by (clear t1 t2 t3 t4 m1 m2 m3 m4 m5; omega)) (by (clear t1 t2 t3 t4 m1 m2 m3 m4 m5; omega))
          clear HLAST HNEXT HVAIN HW hMM hP hacc ht
          by_cases hv : 0 < i ∧ t = 0
          · obtain ⟨v1, v2⟩ := hv
            have hT := Lib.hid (takeI_none most (hV v1 v2))
            subst v2
            have v1z : (0 : Int) < (i : Int) := by (clear t1 t2 t3 t4 m1 m2 m3 m4 m5; omega)
            have v1d : decide ((0 : Int) < (i : Int)) = true := decide_eq_true v1z
            clear hN hV hc
            go_wp2
            go_ret3
            exact ⟨by rw [hT.out]; rfl, rfl⟩
          · have hN := hN (by (clear t1 t2 t3 t4 m1 m2 m3 m4 m5; omega))
            have e0 : i = 0 ∨ (0 < i ∧ ((t : Int) == 0) = false) := by
              rcases Nat.eq_zero_or_pos i with h | h
              · exact .inl h
              · exact .inr ⟨h, by simp; (clear t1 t2 t3 t4 m1 m2 m3 m4 m5; omega)⟩
            by_cases hm : most < ((acc + M : Nat) : Int)
            · have hT := Lib.hid (takeI_many hN hm)
              have hmz : most < (acc : Int) + (M : Int) := by (clear t1 t2 t3 t4 m1 m2 m3 m4 m5; omega)
              have hmd : decide (most < (acc : Int) + (M : Int)) = true := decide_eq_true hmz
              clear hN hV hc hv hm hsum
              rcases e0 with h | ⟨h, hz⟩
              · have v1z : ¬ (0 : Int) < (i : Int) := by clear t1 t2 t3 t4 m1 m2 m3 m4 m5; omega
                have v1d : decide ((0 : Int) < (i : Int)) = false := decide_eq_false v1z
                have v1e : ¬ 0 < i := by clear t1 t2 t3 t4 m1 m2 m3 m4 m5; omega
                have v1f : decide (0 < i) = false := decide_eq_false v1e
                clear h
                go_wp2
                go_ret3
                exact ⟨by rw [hT.out]; rfl, rfl⟩
              · have v1z : (0 : Int) < (i : Int) := by (clear t1 t2 t3 t4 m1 m2 m3 m4 m5; omega)
                have v1d : decide ((0 : Int) < (i : Int)) = true := decide_eq_true v1z
                go_wp2
                go_ret3
                exact ⟨by rw [hT.out]; rfl, rfl⟩
            · have hT := Lib.hid (takeI_some hN hm)
              have hmz : ¬ most < (acc : Int) + (M : Int) := by (clear t1 t2 t3 t4 m1 m2 m3 m4 m5; omega)
              have hmd : decide (most < (acc : Int) + (M : Int)) = false := decide_eq_false hmz
              clear hN hV hc hv hm hsum
              rcases e0 with h | ⟨h, hz⟩
              · have v1z : ¬ (0 : Int) < (i : Int) := by clear t1 t2 t3 t4 m1 m2 m3 m4 m5; omega
                have v1d : decide ((0 : Int) < (i : Int)) = false := decide_eq_false v1z
                have v1e : ¬ 0 < i := by clear t1 t2 t3 t4 m1 m2 m3 m4 m5; omega
                have v1f : decide (0 < i) = false := decide_eq_false v1e
                clear h
                go_wp2
                go_ret3
                exact ⟨by rw [hT.out]; unfold tripI; simp, rfl⟩
              · have v1z : (0 : Int) < (i : Int) := by (clear t1 t2 t3 t4 m1 m2 m3 m4 m5; omega)
                have v1d : decide ((0 : Int) < (i : Int)) = true := decide_eq_true v1z
                go_wp2
                go_ret3
                exact ⟨by rw [hT.out]; unfold tripI; simp, rfl⟩
        · have hc1z : ¬ (c : Int) < 128 := by (clear t1 t2 t3 t4 m1 m2 m3 m4 m5; omega)
          have hc1d : decide ((c : Int) < 128) = false := decide_eq_false hc1z
          have HN := Lib.hid (HNEXT.out (by (clear t1 t2 t3 t4 m1 m2 m3 m4 m5; omega)))
          clear HLAST HNEXT HVAIN hMM hsum hP hacc ht
          go_wp2
          exact ⟨⟨i + 1, acc + M, 0, by (clear t1 t2 t3 t4 m1 m2 m3 m4 m5; omega), by go_num, by go_num, fun h => by rw [HW.out h], HN.out, trivial⟩, by clear t1 t2 t3 t4 m1 m2 m3 m4 m5; simp [intOf]; omega⟩
      · obtain rfl : i = 9 := by omega
        have hT := Lib.hid (takeI_none most hM.long)
        clear hM hvb
        go_wp2
        go_ret3
        exact ⟨by rw [hT.out]; rfl, rfl⟩
    · have hltz : ¬ (i : Int) < (n : Int) := by omega
      have hld : decide ((i : Int) < (n : Int)) = false := decide_eq_false hltz
      have hT := Lib.hid (takeI_none most (hM.short (by rw [HL.out]; omega)))
      clear hM hvb
      go_wp2
      go_ret3
      exact ⟨by rw [hT.out]; rfl, rfl⟩
end Go.Proofs.Ytjpennbmphhipaa
