/- The reference's Used, Sync. -/
import Derived.Test.YtjglgohchhdkkaaGreatDoorReff8
import Derived.Deep.QuietTactic
set_option linter.unusedSimpArgs false
set_option linter.unusedVariables false
namespace Go.Proofs.YtjglgohchhdkkaaGreatDoor
open Go Go.RowKit

set_option maxHeartbeats 4000000 in
theorem refUsed_any (G : Nat → Prop) (m : Dk) (h : Hd) (hn : h.sn < 90000) (hin : InB m) (hsb : ShortB m) (w : World) (r : RfG G w m h) : Calls Tryz.prog 27 #[aggD m h] w fun e w' => e = .returned (.int .i64 (usedL m : Int)) ∧ Below w.heap.size w w' := by
  have R := Lib.hid r
  have HIN := Lib.hid hin
  have HSB := Lib.hid hsb
  have HL := Lib.hid r.sn
  have hbx := boxD_cell w m h
  have c2 : (w.alloc (boxD m h)).cell? ⟨w.heap.size, 2, none⟩ = some (.slice h.bp h.bn h.bc) := hbx 2
  have c3 : (w.alloc (boxD m h)).cell? ⟨w.heap.size, 3, none⟩ = some (.slice h.sp h.sn h.sc) := hbx 3
  have HB := Lib.hid (show Below w.heap.size w (w.alloc (boxD m h)) from (Below.refl _ _).alloc (Nat.le_refl _) _)
  obtain ⟨W1, hW1⟩ : ∃ W1, w.alloc (boxD m h) = W1 := ⟨_, rfl⟩
  have e1 : w.alloc (.cells #[.int .i64 m.room, .int .i64 m.count, .slice h.bp h.bn h.bc, .slice h.sp h.sn h.sc, .slice h.fp h.fn h.fc, .slice h.wp h.wn h.wc] 31) = W1 := hW1
  rw [hW1] at c2 c3 HB
  have HE := Lib.hid e1
  have R1 := Lib.hid (R.out.of_below HB.out)
  unfold aggD
  clear hbx r hin hsb hW1 e1
  go_enter Tryz.func27, Tryz.ntmps27
  go_wp2
  rw [HE.out]
  go_loopw [3, 4, 8] (fun v3 v4 v8 wr => ∃ k : Nat, k ≤ h.sn ∧ v8 = .int .i64 k ∧ v3 = .int .i64 (usedTo m k : Int) ∧ Dr W1 wr) (fun v3 v4 v8 _ => h.sn - (intOf v8).toNat)
  case atStart => exact ⟨0, Nat.zero_le _, rfl, rfl, Dr.refl _⟩
  case round =>
    obtain ⟨k, hk, rfl, rfl, hD⟩ := hrel
    have HD := Lib.hid hD
    have b2 : wr.cell? ⟨w.heap.size, 2, none⟩ = some (.slice h.bp h.bn h.bc) := by rw [hD.cell]; exact c2
    have b3 : wr.cell? ⟨w.heap.size, 3, none⟩ = some (.slice h.sp h.sn h.sc) := by rw [hD.cell]; exact c3
    by_cases hlt : k < h.sn
    · have z1 : (k : Int) < (h.sn : Int) := by omega
      have z2 : decide ((k : Int) < (h.sn : Int)) = true := decide_eq_true z1
      have hw := i64s k (by omega)
      have hkl : k < m.seen.length := by rw [HL.out]; exact hlt
      obtain ⟨f, hf⟩ : ∃ f, m.seen.getD k fl0 = f := ⟨_, rfl⟩
      obtain ⟨c0, o0, hpe, _, hx⟩ := R1.out.seen.files.cell (i := k) (j := 1) hlt (u := .int .i64 (f.body : Int)) (by rw [hf]; rfl)
      rw [← Nat.add_assoc] at hx
      have hbn : f.body < h.bn := by rw [← R.out.bodies.len, ← hf]; exact HIN.out k hkl
      obtain ⟨c4, o4, q, c5, hpe2, _, hy, _⟩ := R1.out.bodies.head hbn
      have HU := Lib.hid (usedTo_succ m k hkl)
      have hbl : (m.bodies.getD f.body []).length ≤ 300000 := HSB.out _
      have hul := usedTo_le m HSB.out k
      have hbd : bodyL m f = m.bodies.getD f.body [] := rfl
      rw [hf, hbd] at HU
      obtain ⟨bl, hble⟩ : ∃ bl, (m.bodies.getD f.body []).length = bl := ⟨_, rfl⟩
      rw [hble] at HU hbl hy
      obtain ⟨ut, hut⟩ : ∃ ut, usedTo m k = ut := ⟨_, rfl⟩
      rw [hut] at HU hul
      have hy2 : wr.cell? ⟨c4, o4 + f.body, none⟩ = some (.slice q bl c5) := by rw [hD.cell]; exact hy
      have hx2 : wr.cell? ⟨c0, o0 + k * 5 + 1, none⟩ = some (.int .i64 (f.body : Int)) := by rw [hD.cell]; exact hx
      have q1 : (0 : Int) ≤ (f.body : Int) := by omega
      have q2 : (f.body : Int) < (h.bn : Int) := by omega
      have hws : IntKind.i64.wrap ((ut : Int) + (bl : Int)) = (ut : Int) + (bl : Int) := by rw [IntKind.wrap_i64]; omega
      rw [hpe] at b3
      rw [hpe2] at b2
      rw [hut]
      clear hx hy hD hble hut hf hbd hkl hbn hpe hpe2
      go_wp2
      go_quiet (fail)
      go_wp2
      exact ⟨⟨k + 1, by omega, by go_num, by rw [HU.out]; push_cast; rfl, HD.out.drewN nq⟩, by simp [intOf]; omega⟩
    · obtain rfl : k = h.sn := by omega
      have z1 : ¬ (h.sn : Int) < (h.sn : Int) := by omega
      have z2 : decide ((h.sn : Int) < (h.sn : Int)) = false := decide_eq_false z1
      have hall : usedTo m h.sn = usedL m := by rw [← HL.out]; exact usedTo_all m
      rw [hall]
      clear hall hD
      go_wp2
      go_ret
      exact ⟨rfl, HB.out.trans (HD.out.below _)⟩
end Go.Proofs.YtjglgohchhdkkaaGreatDoor
