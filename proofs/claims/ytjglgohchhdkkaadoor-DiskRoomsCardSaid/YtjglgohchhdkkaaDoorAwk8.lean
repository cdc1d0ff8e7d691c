/- awake. -/
import Derived.Test.YtjglgohchhdkkaaDoorDsx8
set_option linter.unusedSimpArgs false
set_option linter.unusedVariables false
namespace Go.Proofs.YtjglgohchhdkkaaDoor
open Go Go.RowKit

section
variable {w w' w2 : World} {S : Nat → Prop} {N : Nat}
theorem Kq8.below (h : Kq8 S w w') (hS : ∀ k, S k → N ≤ k) (hN : N ≤ w.heap.size) : Below N w w' :=
  ⟨h.os, h.tape, h.output, h.size, fun k hk => h.block k (Nat.lt_of_lt_of_le hk hN) (fun x => by have := hS k x; omega)⟩
theorem SN.from (hS : ∀ k, S k → N ≤ k) {M K : Nat} (hM : N ≤ M) : ∀ k, SN S M K k → N ≤ k := fun k hk => by
  rcases hk with x | x
  · exact hS k x
  · exact Nat.le_trans hM x.1
theorem LsG.none0 (G : Nat → Prop) (w : World) (k : Nat) : LsG G w none 0 0 k [] := ⟨LsC.nil _ _, by simp, (fun c o e _ => by cases e), fun _ => rfl, Nat.le_refl _⟩
/-- A row of the call's own is left alone by a disk's call. -/
theorem own_kq {base E k n : Nat} {v : Value} {cs : List Value} (h : w.ownsRow base E k v n cs) (hk : Kq8 S w w') (hS : ∀ k, S k → k < base) : w'.ownsRow base E k v n cs :=
  own_keep h fun g hg => hk.block g (h.lt g hg).2 (fun x => by have h1 := hS g x; have h2 := (h.lt g hg).1; omega)
end
set_option maxRecDepth 100000 in
set_option maxHeartbeats 8000000 in
theorem awake8 (w : World) : Calls Tryd.prog 5 #[] w fun e w' => e = .returned (.bool true) ∧ Below w.heap.size w w' := by
  have HN := Lib.hid (dnew_any 9 w)
  rw [aw_clamp] at HN
  go_enter Tryd.func5, Tryd.ntmps5
  go_wp2_with fail
  refine HN.out.mono ?_
  rintro e w1 ⟨b, rfl, hD, hB⟩
  have k1 := xyK w1
  have hBa : Below w1.heap.size w1 (w1.alloc (.cells #[.int .u8 120, .int .u8 121] 5 (2, 3))) := (Below.refl _ _).alloc (Nat.le_refl _) _
  have hD2 := hD.of_below hBa
  have hls : LsG (fun k => ¬ (w.heap.size ≤ k ∧ k < w1.heap.size)) (w1.alloc (.cells #[.int .u8 120, .int .u8 121] 5 (2, 3))) (some ⟨w1.heap.size, 0, none⟩) 2 2 1 (bytC [120, 121]) := by
    have hn := World.alloc_heap_new w1 (.cells #[.int .u8 120, .int .u8 121] 5 (2, 3))
    refine ⟨fun j hj => ⟨_, _, rfl, ?_⟩, rfl, fun c o e _ => ?_, (fun e => by cases e), Nat.le_refl _⟩
    · unfold World.cell?
      rw [hn]
      simp [bytC]
    · injection e with e
      injection e with e1 e2
      rw [← e1]
      exact ⟨fun x => by omega, by rw [World.size_alloc]; omega⟩
  have hWR := dwrite_any hD2 (dk9_ok.mono (by decide)) (by decide) (by decide) (by decide) [97] [120, 121] _ 2 3 (by decide) (by decide) hls
  have e9 : writeL ⟨9, 0, [], [], [], []⟩ [97] [120, 121] 3 = (dkA, 0) := aw_write
  rw [e9] at hWR
  have HWR := Lib.hid hWR
  have HB := Lib.hid hB
  have HBA := Lib.hid hBa
  have HSZ : Hid ((w1.alloc (.cells #[.int .u8 120, .int .u8 121] 5 (2, 3))).heap.size = w1.heap.size + 1) := Lib.hid (World.size_alloc _ _)
  generalize hW2 : w1.alloc (.cells #[.int .u8 120, .int .u8 121] 5 (2, 3)) = W2 at *
  have ha : (ByteArray.mk #[97]) = mkS [97] := mkS_lit [97]
  clear hD hB hBa hD2 hls hWR e9 HN
  go_wp2_with fail
  refine HWR.out.mono ?_
  rintro e w3 ⟨rfl, hD3, hk3⟩
  have hS1 : ∀ k, (fun k => w.heap.size ≤ k ∧ k < w1.heap.size) k → w.heap.size ≤ k := fun k hk => hk.1
  have hB2 : Below w.heap.size w W2 := HB.out.trans (HBA.out.mono HB.out.size)
  have hB3 : Below w.heap.size w w3 := hB2.trans (hk3.below hS1 hB2.size)
  have hS3 := SN.from hS1 hB2.size (K := w3.heap.size)
  have HRD := Lib.hid (dread_any hD3 (dkA_ok.mono (by decide)) [97])
  rw [show readN dkA [97] = 0 from rfl, aw_read] at HRD
  have HD3 := Lib.hid hD3
  have HB3 := Lib.hid hB3
  have HS3 := Lib.hid hS3
  clear hD3 hk3 hB3 hS3 hS1 hB2 HWR k1
  go_wp2_with fail
  refine HRD.out.mono ?_
  rintro e w4 ⟨v, rfl, hO, hB4⟩
  have hD4 := HD3.out.of_below hB4
  have HCR := Lib.hid (dcrash_any hD4 (dkA_ok.mono (by decide)) [] none 0 (by decide) (LsG.none0 _ _ _))
  rw [aw_crash] at HCR
  have HB4 := Lib.hid (HB3.out.trans (hB4.mono HB3.out.size))
  have HO := Lib.hid hO
  have HLO := Lib.hid HD3.out.low
  have HBB := Lib.hid hB4
  clear hO hB4 hD4 HRD
  go_wp2_with fail
  refine HCR.out.mono ?_
  rintro e w5 ⟨rfl, hD5, hk5⟩
  have hO5 := own_kq HO.out hk5 HLO.out
  have hB5 := HB4.out.trans (hk5.below HS3.out HB4.out.size)
  have HRE := Lib.hid (dread_any hD5 (dkC_ok.mono (by decide)) [97])
  rw [show readN dkC [97] = 8 from rfl, aw_readC] at HRE
  have HO5 := Lib.hid hO5
  have HB5 := Lib.hid hB5
  clear hD5 hk5 hO5 hB5 HCR
  go_wp2_with fail
  refine HRE.out.mono ?_
  rintro e w6 ⟨v2, rfl, hO2, hB6⟩
  obtain ⟨q, c, rfl, hcv⟩ := own_conv (own_below HO5.out hB6) rfl
  have HB6 := Lib.hid (HB5.out.trans (hB6.mono HB5.out.size))
  clear hO2 hB6 HRE
  have hcv2 : (convert 28 9 (.slice q 2 c)).run Tryd.prog w6 = .ok (.string (mkS [120, 121])) w6 := hcv
  clear hcv
  go_wp2
  go_ret
  exact ⟨rfl, HB6.out⟩
end Go.Proofs.YtjglgohchhdkkaaDoor
