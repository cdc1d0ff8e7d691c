/- Two ranges of a row of floats exchanged (slices.swapRangeCmpFunc). -/
import Derived.Test.YtkkcphjielkmoaaSrt
import Derived.Test.YtkkcphjielkmoaaRows
import Derived.Test.YtkkcphjielkmoaaBase
import Derived.Lib.Walk
import Derived.BigRegion
import Derived.Deep.QuietTactic
import Derived.BigQuiet
set_option linter.unusedSimpArgs false
set_option linter.unusedVariables false
namespace Go.Proofs.Ytkkcphjielkmoaa
open Go Go.RowKit

theorem run_store_F {P : Program} (w : World) (a : Addr) (k : FloatKind) (x : Nat) (m : Mode) : (store a (.float k x) m).run P w = stored P w a (.float k x) m := run_store P w a _ m rfl
attribute [go_sem] run_store_F
/-- Block g holds n floats. -/
def Fr (w : World) (g n : Nat) (d : Nat → Nat) : Prop := Row w g 24 n (fun i => .float .f64 (d i))
theorem Fr.cell {w : World} {g n : Nat} {d : Nat → Nat} (h : Fr w g n d) (i : Nat) (hi : i < n) : w.cell? ⟨g, i, none⟩ = some (.float .f64 (d i)) := Row.cell h i hi
theorem Fr.free {w : World} {g n : Nat} {d : Nat → Nat} (h : Fr w g n d) (i : Nat) : w.frozen? ⟨g, i, none⟩ = false := Row.free h i
theorem Fr.dr {w w' : World} {g n : Nat} {d : Nat → Nat} (h : Fr w g n d) (k : Dr w w') : Fr w' g n d := Row.dr h k
theorem Fr.sw {w : World} {g n : Nat} {d : Nat → Nat} (h : Fr w g n d) (i j : Nat) : Fr ((w.setCell ⟨g, i, none⟩ (.float .f64 (d j))).setCell ⟨g, j, none⟩ (.float .f64 (d i))) g n (sw d i j) := by
  have h2 := (Row.set (Row.set h i (.float .f64 (d j))) j (.float .f64 (d i)))
  refine h2.congr fun x _ => ?_
  unfold Proofs.Ytkkcphjielkmoaa.sw
  by_cases e1 : x = j
  · rw [if_pos e1, if_pos e1]
  · rw [if_neg e1, if_neg e1]
    by_cases e2 : x = i
    · rw [if_pos e2, if_pos e2]
    · rw [if_neg e2, if_neg e2]
theorem Kp.dr {b : Nat} {x y z : World} (h : Kp b x y) (k : Dr y z) : Kp b x z := by obtain ⟨N, rfl⟩ := k; exact h.drewN N
set_option maxRecDepth 1000000 in
set_option maxHeartbeats 4000000 in
theorem swapR_any (g n cap a b c : Nat) (d : Nat → Nat) (w : World) (fv : Value) (hF : Fr w g n d) (hab : a + c ≤ b) (hb : b + c ≤ n) (hn : n < 100000000) :
    Calls Try.prog 36 #[.slice (some ⟨g, 0, none⟩) n cap, .int .i64 a, .int .i64 b, .int .i64 c, fv] w fun e w' => e = .returned (.tuple #[]) ∧ Fr w' g n (swR d a b c) ∧ Kp g w w' := by
  have HF := Lib.hid hF
  clear hF
  go_enter Try.func36, Try.ntmps36
  go_wp2
  go_loopw [10] (fun vi wr => ∃ i : Nat, i ≤ c ∧ vi = .int .i64 i ∧ Fr wr g n (swR d a b i) ∧ Kp g w wr) (fun vi _ => c - (intOf vi).toNat)
  case atStart => exact ⟨0, Nat.zero_le _, rfl, by rw [swR_zero]; exact HF.out, Kp.refl _ _⟩
  case round =>
    obtain ⟨i, hi, rfl, hF, hK⟩ := hrel
    clear HF
    by_cases hlt : i < c
    · have hltz : (i : Int) < (c : Int) := by omega
      have HF := Lib.hid hF
      have HK := Lib.hid hK
      have x1 := hF.cell (a + i) (by omega)
      have x2 := hF.cell (b + i) (by omega)
      have f1 : ∀ j, wr.frozen? ⟨g, j, none⟩ = false := hF.free
      have S := Lib.hid (hF.sw (a + i) (b + i))
      rw [swR_step d a b i (by omega)] at S
      generalize swR d a b i (a + i) = xa at *
      generalize swR d a b i (b + i) = xb at *
      obtain ⟨v3, x3⟩ : ∃ v, (wr.setCell ⟨g, a + i, none⟩ (.float .f64 xb)).cell? ⟨g, b + i, none⟩ = some v := ⟨_, (Row.set HF.out (a + i) _).cell (b + i) (by omega)⟩
      have HS2 := Lib.hid ((HK.out.setCell (a + i) (.float .f64 xb)).setCell (b + i) (.float .f64 xa))
      clear hF hK
      go_wp2
      have p1 : IntKind.i64.wrap ((a : Int) + (i : Int)) = (a : Int) + (i : Int) := IntWalk.i64_in _ (by omega)
      have p2 : 0 ≤ (a : Int) + (i : Int) := by omega
      have p3 : (a : Int) + (i : Int) < (n : Int) := by omega
      have p4 : ((a : Int) + (i : Int)).toNat = a + i := by omega
      have q1 : IntKind.i64.wrap ((b : Int) + (i : Int)) = (b : Int) + (i : Int) := IntWalk.i64_in _ (by omega)
      have q2 : 0 ≤ (b : Int) + (i : Int) := by omega
      have q3 : (b : Int) + (i : Int) < (n : Int) := by omega
      have q4 : ((b : Int) + (i : Int)).toNat = b + i := by omega
      go_region
      have S2 := Lib.hid (S.out.dr (Dr.refl _).drew)
      have HK2 := Lib.hid (HS2.out.drewN 1)
      clear S HS2 x1 x2 x3 f1 p1 p2 p3 p4 q1 q2 q3 q4 HF HK
      rw [show ∀ z : World, z.drewN 1 = z.drew from fun _ => rfl] at HK2
      generalize ((wr.setCell ⟨g, a + i, none⟩ (.float .f64 xb)).setCell ⟨g, b + i, none⟩ (.float .f64 xa)).drew = W2 at *
      go_wp2
      go_roundw
      case rel => exact ⟨i + 1, by omega, by go_num, S2.out, HK2.out⟩
      case measure => simp [intOf]; omega
    · have hltz : ¬ (i : Int) < (c : Int) := by omega
      obtain rfl : i = c := by omega
      have HF := Lib.hid hF
      have HK := Lib.hid hK
      clear hF hK
      go_wp2
      go_end0
      exact ⟨rfl, HF.out, HK.out⟩
end Go.Proofs.Ytkkcphjielkmoaa
