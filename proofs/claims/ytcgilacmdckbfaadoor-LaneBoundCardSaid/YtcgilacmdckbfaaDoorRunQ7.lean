/- strings.IndexRune at runes beyond ASCII; strings.ContainsRune. -/
import Derived.Test.YtcgilacmdckbfaaDoorRunP7
import Derived.WalkMore
set_option linter.unusedSimpArgs false
set_option maxRecDepth 100000
set_option linter.unusedVariables false
namespace Go.Proofs.YtcgilacmdckbfaaDoor
open Go Go.RowKit

set_option maxRecDepth 1000000 in
set_option maxHeartbeats 4000000 in
/-- The rune that stands for what is no rune: the string's runes are gone through. -/
theorem indexRune_bad (l : S8) (hl : Low5 l) (u : World) : Calls Tryd.prog 86 #[.string (mkS l), .int .i32 65533] u fun e w' => e = .returned (.int .i64 (-1)) ∧ Below u.heap.size u w' := by
  obtain ⟨s, hs⟩ : ∃ s, mkS l = s := ⟨_, rfl⟩
  have hsz : s.size = l.length := by rw [← hs, mkS_size]
  have hget : ∀ i (h : i < s.size), (s[i]).toNat < 128 := by subst hs; exact fun i h => by rw [mkS_get l i h]; exact hl.get i (by rw [mkS_size] at h; exact h)
  rw [hs]
  have HSZ := Lib.hid hsz
  have HGET := Lib.hid hget
  clear hs hsz hget hl
  go_enter Tryd.func86, Tryd.ntmps86
  go_wp2
  go_loopw [5, 6] (fun va vb wr => ∃ pos : Nat, wr.heap[u.heap.size]? = some (.stringIter s pos) ∧ pos ≤ l.length ∧ Below u.heap.size u wr) (fun va vb wr => l.length - wr.iterPos u.heap.size)
  case atStart => exact ⟨0, World.iter_heap _ _ _, Nat.zero_le _, (Below.refl _ _).alloc (Nat.le_refl _) _⟩
  case round =>
    obtain ⟨pos, hk, hle, hB⟩ := hrel
    have HK := Lib.hid hk
    have HB := Lib.hid hB
    have hlt := (Array.getElem?_eq_some_iff.1 hk).1
    by_cases hp : pos < s.size
    · have hpl : pos < l.length := by rw [← HSZ.out]; exact hp
      have ha := HGET.out pos hp
      obtain ⟨c, hc⟩ : ∃ c, (s[pos]).toNat = c := ⟨_, rfl⟩
      rw [hc] at ha
      have hnx : ∀ ty, (Instr.next (.pointer (some ⟨u.heap.size, 0, none⟩)) true ty).run Tryd.prog wr = .ok (.tuple #[.bool true, .int .i64 pos, .int .i32 (c : Int)]) (wr.iterAt u.heap.size s (pos + 1)) := fun ty => by
        rw [Lib.run_next_ascii_at wr u.heap.size s pos ty hk hp (by rw [hc]; exact ha), hc]
      have HB2 := Lib.hid (below_iter (s := s) (pos := pos + 1) hB (Nat.le_refl _) hlt)
      have HK2 := Lib.hid (Lib.iterAt_heap wr u.heap.size s pos (pos + 1) hk)
      generalize wr.iterAt u.heap.size s (pos + 1) = x at *
      have HIP := Lib.hid (iterPos_of hk)
      have HPL := Lib.hid hpl
      have z3 : ((c : Int) == 65533) = false := by simp; omega
      clear hB hk hc ha
      go_wp2
      exact ⟨⟨pos + 1, HK2.out, by have := HPL.out; omega, HB2.out⟩, by rw [iterPos_of HK2.out, HIP.out]; have := HPL.out; omega⟩
    · have hnx : ∀ ty, (Instr.next (.pointer (some ⟨u.heap.size, 0, none⟩)) true ty).run Tryd.prog wr = .ok (.tuple #[.bool false]) wr := fun ty => Lib.run_next_end_at wr u.heap.size s pos ty hk hp
      clear hB hk
      go_wp2
      go_ret
      exact ⟨rfl, HB.out⟩
attribute [local go_sem high] sl_from
set_option maxRecDepth 1000000 in
set_option maxHeartbeats 4000000 in
/-- A rune beyond ASCII: the last byte of its encoding is none of ASCII. -/
theorem indexRune_hi (l : S8) (hl : Low5 l) (r : Nat) (w : World) (hr : 128 ≤ r) (hf : r ≠ 65533) (hv : Utf8.valid (r : Int) = true) : Calls Tryd.prog 86 #[.string (mkS l), .int .i32 (r : Int)] w fun e w' => e = .returned (.int .i64 (-1)) ∧ Below w.heap.size w w' := by
  have HV := Lib.hid (valid_any (r : Int) w)
  rw [hv] at HV
  have z0 : (0 : Int) ≤ (r : Int) := by omega
  have z1 : ¬ (r : Int) < 128 := by omega
  have z2 : decide ((r : Int) < 128) = false := decide_eq_false z1
  have z3 : ((r : Int) == 65533) = false := by simp; omega
  obtain ⟨f1, f2, f3⟩ := encode_facts (r : Int) hv (by omega)
  have hcv : ∀ u, (convert 21 9 (.int .i32 (r : Int))).run Tryd.prog u = .ok (.string (Utf8.encode (r : Int))) u := fun u => run_convert_int_string u 21 9 .i32 (r : Int) (by kernel_rfl) (by kernel_rfl)
  obtain ⟨z, hz⟩ : ∃ z, Utf8.encode (r : Int) = mkS z := ⟨_, (mkS_of _).symm⟩
  rw [hz] at hcv f1 f2 f3
  rw [mkS_size] at f1 f2
  obtain ⟨n, hn⟩ : ∃ n, z.length = n + 1 := ⟨z.length - 1, by omega⟩
  have hch : 128 ≤ chr z n := by
    have := f3 (by rw [mkS_size]; omega)
    rw [mkS_get] at this
    rw [mkS_size] at this
    rw [show n = z.length - 1 by omega]
    exact this
  obtain ⟨c, hc⟩ : ∃ c, chr z n = c := ⟨_, rfl⟩
  have hc256 : c < 256 := by rw [← hc]; exact chr_lt _ _
  have hixz : ∀ u, (Instr.index 9 (.string (mkS z)) (.int .i64 (n : Int))).run Tryd.prog u = .ok (.int .u8 (c : Int)) u := fun u => by rw [ix_S z n u (by omega), hc]
  obtain ⟨b, hb⟩ : ∃ b, chr l n = b := ⟨_, rfl⟩
  have hb128 : b < 128 := by rw [← hb]; exact hl.get n (by rw [hl.1]; omega)
  have hixl : ∀ u, (Instr.index 9 (.string (mkS l)) (.int .i64 (n : Int))).run Tryd.prog u = .ok (.int .u8 (b : Int)) u := fun u => by rw [ix_S l n u (by rw [hl.1]; omega), hb]
  have hne : ((b : Int) == (c : Int)) = false := by simp; omega
  have hsl : ∀ u, (Instr.slice 9 (.string (mkS l)) (some (.int .i64 ((n : Int) + 1))) none none).run Tryd.prog u = .ok (.string (mkS (l.drop (n + 1)))) u := fun u => by
    have := sl_from l (n + 1) u (by rw [hl.1]; omega)
    simpa using this
  have hll : (l.length : Int) = 5 := by rw [hl.1]; rfl
  have hzl : (z.length : Int) = (n : Int) + 1 := by omega
  have hn4 : n < 4 := by omega
  have HI := Lib.hid (fun u => indexByte_any (l.drop (n + 1)) (c : Int) u)
  have e : ((c : Int).toNat.toUInt8) = UInt8.ofNat c := by simp [Nat.toUInt8]
  have hno : Lib.indexByte (l.drop (n + 1)) (UInt8.ofNat c) = -1 := indexByte_none fun x hx e => by
    have h1 := hl.2 x (List.mem_of_mem_drop hx)
    rw [e] at h1
    simp [Nat.mod_eq_of_lt hc256] at h1
    omega
  rw [e, hno] at HI
  have w1 : IntKind.i64.wrap (n : Int) = (n : Int) := by rw [IntKind.wrap_i64]; clear e; omega
  have w2 : IntKind.i64.wrap ((n : Int) + 1) = (n : Int) + 1 := by rw [IntKind.wrap_i64]; clear e; omega
  have w3 : (n : Int) + 1 - 1 = (n : Int) := by omega
  have y1 : (n : Int) < 5 := by omega
  have y2 : decide ((n : Int) < 5) = true := decide_eq_true y1
  generalize l.drop (n + 1) = q at *
  clear hv hr hf hz f1 f2 f3 hch hb hc hc256 hb128 e hno hl hn
  go_enter Tryd.func86, Tryd.ntmps86
  go_wp2_with fail
  refine HV.out.mono ?_
  rintro e w' ⟨rfl, rfl⟩
  go_wp2
  go_step3
  go_wp2
  go_loopw [9, 10, 11, 12] (fun vi vf vo vj wr => vi = .int .i64 (n : Int) ∧ vf = .int .i64 0 ∧ vo = undef ∧ vj = undef ∧ Dr w wr) (fun vi vf vo vj _ => 0)
  case atStart => exact ⟨rfl, rfl, rfl, rfl, Dr.refl w⟩
  case round =>
    obtain ⟨rfl, rfl, rfl, rfl, hD⟩ := hrel
    have HD := Lib.hid hD
    clear hD
    go_wp2
    go_step3
    go_wp2
    go_quiet (fail)
    have HD2 := Lib.hid (HD.out.drewN nq)
    generalize wr.drewN nq = wq at *
    go_wp2
    go_quiet ((go_at_call 92; exact Calls.quiet_of_same ((HI.out _).mono fun e w' ⟨he, hw⟩ => ⟨he, hw.symm⟩)))
    go_wp2
    rw [Exit.noGoto_ret]
    go_wp2
    rw [Exit.noGoto_ret]
    go_ret
    exact ⟨rfl, (HD2.out.drewN nq).below _⟩
/-- What is no ASCII is not found among ASCII. -/
def hasR (l : S8) (r : Nat) : Bool := decide (r < 128) && l.contains (UInt8.ofNat r)
theorem containsRune_any (l : S8) (hl : Low5 l) (r : Nat) (w : World) : Calls Tryd.prog 81 #[.string (mkS l), .int .i32 (r : Int)] w fun e w' => e = .returned (.bool (hasR l r)) ∧ Below w.heap.size w w' := by
  have key : Calls Tryd.prog 86 #[.string (mkS l), .int .i32 (r : Int)] w fun e w' => ∃ i : Int, e = .returned (.int .i64 i) ∧ decide (0 ≤ i) = hasR l r ∧ Below w.heap.size w w' := by
    by_cases h : r < 128
    · refine (indexRune_lo l r w h).mono ?_
      rintro e w' ⟨rfl, rfl⟩
      refine ⟨_, rfl, ?_, Below.refl _ _⟩
      have := (indexByte_has l (UInt8.ofNat r)).1
      unfold hasR
      rw [decide_eq_true h, Bool.true_and]
      cases hc : l.contains (UInt8.ofNat r) with
      | true => exact decide_eq_true (this ▸ hc)
      | false => exact decide_eq_false (fun h0 => by rw [this, hc] at h0; cases h0)
    · have hh : hasR l r = false := by unfold hasR; rw [decide_eq_false h]; rfl
      rw [hh]
      have fin : ∀ e w', (e = Ending.returned (.int .i64 (-1)) ∧ Below w.heap.size w w') → ∃ i : Int, e = .returned (.int .i64 i) ∧ decide (0 ≤ i) = false ∧ Below w.heap.size w w' := fun e w' k => ⟨-1, k.1, rfl, k.2⟩
      by_cases hf : r = 65533
      · subst hf
        exact (indexRune_bad l hl w).mono fin
      · cases hv : Utf8.valid (r : Int) with
        | true => exact (indexRune_hi l hl r w (by omega) hf hv).mono fin
        | false => exact (indexRune_no l r w (by omega) hf hv).mono fun e w' k => fin e w' ⟨k.1, by rw [← k.2]; exact Below.refl _ _⟩
  have HC := Lib.hid key
  clear key hl
  generalize hasR l r = b at *
  go_enter Tryd.func81, Tryd.ntmps81
  go_wp2_with fail
  refine HC.out.mono ?_
  rintro e w2 ⟨i, rfl, hd, hB⟩
  have HB := Lib.hid hB
  clear hB HC
  go_wp2
  go_ret
  exact ⟨by first | rfl | rw [hd], HB.out⟩
/-! ### What a name may have; what a digest's text may have -/
def betw (r a b : Nat) : Bool := decide (a ≤ r) && decide (r ≤ b)
theorem between_any (r a b : Nat) (w : World) : Calls Tryd.prog 80 #[.int .i32 (r : Int), .int .i32 (a : Int), .int .i32 (b : Int)] w fun e w' => e = .returned (.bool (betw r a b)) ∧ w = w' := by
  by_cases h1 : a ≤ r
  · have z1 : (a : Int) ≤ (r : Int) := by omega
    have z2 : decide ((a : Int) ≤ (r : Int)) = true := decide_eq_true z1
    by_cases h2 : r ≤ b
    · have HS := Lib.hid (show betw r a b = true from by unfold betw; rw [decide_eq_true h1, decide_eq_true h2]; rfl)
      have z3 : (r : Int) ≤ (b : Int) := by omega
      have z4 : decide ((r : Int) ≤ (b : Int)) = true := decide_eq_true z3
      go_enter Tryd.func80, Tryd.ntmps80
      go_wp2
      go_ret
      exact ⟨by rw [HS.out]; rfl, rfl⟩
    · have HS := Lib.hid (show betw r a b = false from by unfold betw; rw [decide_eq_true h1, decide_eq_false h2]; rfl)
      have z3 : ¬ (r : Int) ≤ (b : Int) := by omega
      have z4 : decide ((r : Int) ≤ (b : Int)) = false := decide_eq_false z3
      go_enter Tryd.func80, Tryd.ntmps80
      go_wp2
      go_ret
      exact ⟨by rw [HS.out]; rfl, rfl⟩
  · have HS := Lib.hid (show betw r a b = false from by unfold betw; rw [decide_eq_false h1]; rfl)
    have z1 : ¬ (a : Int) ≤ (r : Int) := by omega
    have z2 : decide ((a : Int) ≤ (r : Int)) = false := decide_eq_false z1
    go_enter Tryd.func80, Tryd.ntmps80
    go_wp2
    go_ret
    exact ⟨by rw [HS.out]; rfl, rfl⟩
def moreS : S8 := [45, 95, 46, 126, 43]
theorem more5 : Low5 moreS := ⟨rfl, by decide⟩
def nameR (r : Nat) : Bool := betw r 97 122 || betw r 65 90 || betw r 48 57 || hasR moreS r
def sumR (r : Nat) : Bool := betw r 48 57 || betw r 97 102
set_option maxHeartbeats 1000000 in
theorem inName_any (r : Nat) (w : World) : Calls Tryd.prog 69 #[.int .i32 (r : Int)] w fun e w' => e = .returned (.bool (nameR r)) ∧ Below w.heap.size w w' := by
  have H1 := Lib.hid (fun u => between_any r 97 122 u)
  have H2 := Lib.hid (fun u => between_any r 65 90 u)
  have H3 := Lib.hid (fun u => between_any r 48 57 u)
  have H4 := Lib.hid (show Calls Tryd.prog 81 #[.string ⟨#[45, 95, 46, 126, 43]⟩, .int .i32 (r : Int)] w (fun e w' => e = .returned (.bool (hasR moreS r)) ∧ Below w.heap.size w w') from by have := containsRune_any moreS more5 r w; rw [← mkS_lit] at this; exact this)
  unfold nameR
  generalize betw r 97 122 = b1 at *
  generalize betw r 65 90 = b2 at *
  generalize betw r 48 57 = b3 at *
  generalize hasR moreS r = b4 at *
  cases b1 with
  | true =>
    go_enter Tryd.func69, Tryd.ntmps69
    go_wp2_with fail
    refine (H1.out _).mono ?_
    rintro e w' ⟨rfl, rfl⟩
    go_wp2
    go_ret
    exact ⟨rfl, Below.refl _ _⟩
  | false =>
    cases b2 with
    | true =>
      go_enter Tryd.func69, Tryd.ntmps69
      go_wp2_with fail
      refine (H1.out _).mono ?_
      rintro e w' ⟨rfl, rfl⟩
      go_wp2_with fail
      refine (H2.out _).mono ?_
      rintro e w' ⟨rfl, rfl⟩
      go_wp2
      go_ret
      exact ⟨rfl, Below.refl _ _⟩
    | false =>
      cases b3 with
      | true =>
        go_enter Tryd.func69, Tryd.ntmps69
        go_wp2_with fail
        refine (H1.out _).mono ?_
        rintro e w' ⟨rfl, rfl⟩
        go_wp2_with fail
        refine (H2.out _).mono ?_
        rintro e w' ⟨rfl, rfl⟩
        go_wp2_with fail
        refine (H3.out _).mono ?_
        rintro e w' ⟨rfl, rfl⟩
        go_wp2
        go_ret
        exact ⟨rfl, Below.refl _ _⟩
      | false =>
        go_enter Tryd.func69, Tryd.ntmps69
        go_wp2_with fail
        refine (H1.out _).mono ?_
        rintro e w' ⟨rfl, rfl⟩
        go_wp2_with fail
        refine (H2.out _).mono ?_
        rintro e w' ⟨rfl, rfl⟩
        go_wp2_with fail
        refine (H3.out _).mono ?_
        rintro e w' ⟨rfl, rfl⟩
        go_wp2_with fail
        refine H4.out.mono ?_
        rintro e w2 ⟨rfl, hB⟩
        have HB := Lib.hid hB
        clear hB H4
        go_wp2
        go_ret
        exact ⟨rfl, HB.out⟩
end Go.Proofs.YtcgilacmdckbfaaDoor
