/- The reference's numbers and bytes, written. -/
import Derived.Test.YtllpcllgliknpaaGreatDoorNum6
import Derived.Test.YtllpcllgliknpaaGreatDoorBytes
import Derived.Lib.Walk
import Derived.Laws.OwnMore
set_option linter.unusedSimpArgs false
set_option maxRecDepth 100000
set_option linter.unusedVariables false
namespace Go.Proofs.YtllpcllgliknpaaGreatDoor
open Go Go.RowKit

theorem convIB6 (n : Nat) (w : World) : (convert 3 5 (.int .i64 (n : Int))).run Tryz.prog w = .ok (B (BitVec.ofNat 8 n)) w :=
  run_convert_IB w 3 5 n (by kernel_rfl) (by kernel_rfl)
theorem bsB0 (w : World) : (bsT 53 0 #[]).run Tryz.prog w = .ok (.value (.slice (some ⟨w.heap.size, 0, none⟩) 0 0)) (w.alloc (.cells #[] 5)) := by kernel_rfl
theorem bsB1 (x : BitVec 8) (w : World) : (bsT 53 1 #[(0, B x)]).run Tryz.prog w = .ok (.value (.slice (some ⟨w.heap.size, 0, none⟩) 1 1)) (w.alloc (.cells #[B x] 5)) := by kernel_rfl
theorem OwnB.one (w : World) (base : Nat) (x : BitVec 8) (hb : base ≤ w.heap.size) : OwnB (w.alloc (.cells #[B x] 5)) base (.slice (some ⟨w.heap.size, 0, none⟩) 1 1) [x] := by
  have := World.ownsRow_lit (e := 5) (size := 1) (base := base) w #[B x] 1 hb (by simp only [maxLen]; omega) (by simp)
  unfold OwnB
  simpa using this
theorem OwnB.lower {w : World} {base b2 : Nat} {v : Value} {l : List (BitVec 8)} (h : OwnB w base v l) (hb : b2 ≤ base) : OwnB w b2 v l := by
  refine ⟨h.1, ?_⟩
  rcases h.2 with h' | ⟨g, cap, cur, hv, h1, r⟩
  · exact .inl h'
  · exact .inr ⟨g, cap, cur, hv, by omega, r⟩
attribute [local go_sem ↓] exec_bs
attribute [local go_sem] convIB6 bsB0 bsB1
/-- What a call that makes bytes of its own tells. -/
def GivesB (w : World) (l : List (BitVec 8)) (e : Ending) (w' : World) : Prop := ∃ v, e = .returned v ∧ OwnB w' w.heap.size v l ∧ Below w.heap.size w w'
theorem bsb1 (x : Int) (w : World) : (bsT 53 1 #[(0, .int .u8 x)]).run Tryz.prog w = .ok (.value (.slice (some ⟨w.heap.size, 0, none⟩) 1 1)) (w.alloc (.cells #[.int .u8 x] 5)) := by kernel_rfl
theorem OwnB.oneN (w : World) (base n : Nat) (hn : n < 256) (hb : base ≤ w.heap.size) : OwnB (w.alloc (.cells #[.int .u8 (n : Int)] 5)) base (.slice (some ⟨w.heap.size, 0, none⟩) 1 1) [BitVec.ofNat 8 n] := by
  rw [← B_ofNat n hn]
  exact OwnB.one w base _ hb
attribute [local go_sem] bsb1
set_option maxHeartbeats 1000000 in
theorem refNumber_any (s : Nat) : ∀ (n : Nat), n < s → n < 9223372036854775808 → ∀ w : World, Calls Tryz.prog 34 #[.int .i64 (n : Int)] w (GivesB w (enc7 n)) := by
  induction s with
  | zero => intro n h1; omega
  | succ s ih =>
    intro n h1 h2 w
    by_cases hn : n < 128
    · have hnz : (n : Int) < 128 := by omega
      have HE := Lib.hid (enc7_lo hn)
      have HO := Lib.hid (OwnB.oneN w w.heap.size n (by omega) (Nat.le_refl _))
      have HB := Lib.hid (show Below w.heap.size w (w.alloc (.cells #[.int .u8 (n : Int)] 5)) from (Below.refl _ _).alloc (Nat.le_refl _) _)
      clear ih h1
      go_enter Tryz.func34, Tryz.ntmps34
      go_wp2
      go_ret
      exact ⟨_, rfl, by rw [HE.out]; exact HO.out, HB.out⟩
    · have hnz : ¬ (n : Int) < 128 := by omega
      obtain ⟨q, hq⟩ : ∃ q, q = n / 128 := ⟨_, rfl⟩
      obtain ⟨r, hr⟩ : ∃ r, r = n % 128 := ⟨_, rfl⟩
      have q1 : (n : Int) / 128 = (q : Int) := by omega
      have q2 : (n : Int).tdiv 128 = (q : Int) := by rw [Int.tdiv_eq_ediv_of_nonneg (by omega)]; exact q1
      have q3 : IntKind.i64.wrap (q : Int) = (q : Int) := IntWalk.i64_in _ (by omega)
      have r1 : (n : Int) % 128 = (r : Int) := by omega
      have r2 : (n : Int).tmod 128 = (r : Int) := by rw [Int.tmod_eq_emod_of_nonneg (by omega)]; exact r1
      have r3 : IntKind.i64.wrap (r : Int) = (r : Int) := IntWalk.i64_in _ (by omega)
      have hrb : r < 128 := by omega
      have HE := Lib.hid (show enc7 n = [BitVec.ofNat 8 (128 + r)] ++ enc7 q from by rw [enc7_hi (by omega), ← hq, ← hr]; rfl)
      have HIH := Lib.hid (ih q (by omega) (by omega))
      clear ih h1 hq hr
      go_enter Tryz.func34, Tryz.ntmps34
      have HO1 := Lib.hid (show OwnB (w.alloc (.cells #[.int .u8 (128 + (r : Int))] 5)) w.heap.size (.slice (some ⟨w.heap.size, 0, none⟩) 1 1) [BitVec.ofNat 8 (128 + r)] from by
        have := OwnB.oneN w w.heap.size (128 + r) (by omega) (Nat.le_refl _)
        rw [show (((128 + r : Nat) : Int)) = 128 + (r : Int) by omega] at this
        exact this)
      have HB1 := Lib.hid (show Below w.heap.size w (w.alloc (.cells #[.int .u8 (128 + (r : Int))] 5)) from (Below.refl _ _).alloc (Nat.le_refl _) _)
      go_wp2_with fail
      refine (HIH.out _).mono ?_
      rintro e w2 ⟨v2, rfl, hO2, hB2⟩
      have hN : w.heap.size ≤ (w.alloc (.cells #[.int .u8 (128 + (r : Int))] 5)).heap.size := HB1.out.size
      obtain ⟨p2, c2, rfl, hS2, hp2, hc2⟩ := hO2.shape
      have HO := Lib.hid (HO1.out.of_below hB2)
      have HB := Lib.hid (HB1.out.trans (hB2.mono hN))
      have HS := Lib.hid hS2
      have HP := Lib.hid hp2
      have hl := enc7_len 8 q (by rw [pow9]; omega)
      generalize enc7 q = lq at *
      have hN2 : w.heap.size ≤ w2.heap.size := HB.out.size
      clear hO2 hB2 hS2 hp2 HO1 HB1 HIH hc2
      go_wp2_with (first | (refine wpl_append _ rfl (.tmp 12) (.tmp 15) rfl w.heap.size (.slice (some ⟨w.heap.size, 0, none⟩) 1 1) [BitVec.ofNat 8 (128 + r)] rfl HO.out p2 lq.length c2 lq rfl rfl HS.out HP.out (by simp; omega) hN2 ?_; rintro v3 w3 hO3 hg3; have HO3 := Lib.hid hO3; have HB3 := Lib.hid (HB.out.grown hg3 hN2 (fun k hk => Nat.le_of_eq (by simpa [Value.ownBlock] using hk))); clear hO3 hg3))
      go_wp2
      go_ret
      exact ⟨_, rfl, by rw [HE.out]; exact HO3.out, HB3.out⟩
/-- The reference's bytes of a number. -/
theorem refNum (n : Nat) (h : n < 9223372036854775808) (w : World) : Calls Tryz.prog 34 #[.int .i64 (n : Int)] w (GivesB w (enc7 n)) := refNumber_any (n + 1) n (by omega) h w
set_option maxHeartbeats 1000000 in
theorem refBytes_any (l : List (BitVec 8)) (p : Option Addr) (n cap : Nat) (w : World) (hl : l.length = n) (hs : Sl w p l) (hp : p = none → cap = 0) (hn : n < 100000000000) : Calls Tryz.prog 33 #[.slice p n cap] w (GivesB w (enc7 n ++ l)) := by
  have HL := Lib.hid hl
  have HS := Lib.hid hs
  have HP := Lib.hid hp
  have HN := Lib.hid (refNum n (by omega))
  have hen := enc7_len 8 n (by rw [pow9]; omega)
  clear hl hs hp
  go_enter Tryz.func33, Tryz.ntmps33
  go_wp2_with fail
  refine (HN.out _).mono ?_
  rintro e w2 ⟨v2, rfl, hO2, hB2⟩
  have HO := Lib.hid hO2
  have HB := Lib.hid hB2
  have HS2 := Lib.hid (HS.out.of_below hB2)
  have hN2 := hB2.size
  clear hO2 hB2
  go_wp2_with (first | (refine wpl_append _ rfl (.tmp 5) (.tmp 6) rfl w.heap.size v2 (enc7 n) rfl HO.out p n cap l HL.out rfl HS2.out HP.out (by omega) hN2 ?_; rintro v3 w3 hO3 hg3; have HO3 := Lib.hid hO3; have HB3 := Lib.hid (HB.out.grown hg3 hN2 (fun k hk => (HO.out.lt k hk).1)); clear hO3 hg3))
  go_wp2
  go_ret
  exact ⟨_, rfl, HO3.out, HB3.out⟩
end Go.Proofs.YtllpcllgliknpaaGreatDoor
