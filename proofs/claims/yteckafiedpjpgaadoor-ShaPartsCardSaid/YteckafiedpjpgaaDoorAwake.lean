/- The document's example, in the statement. -/
import Derived.Test.YteckafiedpjpgaaDoorRefS
import Derived.Test.YteckafiedpjpgaaDoorAbc
import Derived.Lib.SlBytesConst
set_option linter.unusedSimpArgs false
set_option linter.unusedVariables false
namespace Go.Proofs.YteckafiedpjpgaaDoor
open Go Go.RowKit

theorem st_newdg (w : World) (f : Nat → BitVec 8) : (stT 24 (.pointer (some ⟨w.heap.size, 0, none⟩)) (dgV f)).run Tryd.prog (w.alloc (.cells (zb 32) 24)) = .ok .skip (w.alloc (.cells (tab 32 fun i => B (f i)) 24)) := by
  have h := run_storeAt_new' (P := Tryd.prog) w 24 24 (zb 32) (tab 32 fun i => B (f i)) (by rw [size24, tab_size]) (by rw [zb, tab_size, tab_size]) (by simp [tab, one_B])
  simp only [stT, dgV, Sem.run_bind, h, Result.andThen, Sem.run_pure]
theorem conv_lit (w : World) (C : Array Value) (n c : Nat) : (convert 22 22 (.slice (some ⟨w.heap.size, 0, none⟩) n c)).run Tryd.prog (w.alloc (.cells C 5)) = .ok (.slice (some ⟨w.heap.size, 0, none⟩) n c) (w.alloc (.cells C 5 (C.size, C.size + 1))) :=
  Go.Lib.run_convert_bytes_const w 22 5 C n c Tryd.underlying22 Tryd.underlying5
attribute [local go_sem ↓] exec_alloc24
attribute [local go_sem] st_newdg conv_lit tab_get
theorem abcB0 : B (dg abc 0) = .int .u8 186 := by rw [abc0, B_eq']; rfl
theorem abcB1 : B (dg abc 1) = .int .u8 120 := by rw [abc1, B_eq']; rfl
theorem abcB2 : B (dg abc 2) = .int .u8 22 := by rw [abc2, B_eq']; rfl
theorem abcB3 : B (dg abc 3) = .int .u8 191 := by rw [abc3, B_eq']; rfl
/-- One slice of bytes in a row of its own. -/
theorem Sls0_one {w : World} {q : Option Addr} {l : List (BitVec 8)} (cap n : Nat) (hl : l.length = n) (h : Sl w q l) : Sls0 (w.alloc (.cells #[.slice q n cap] 22)) (some ⟨w.heap.size, 0, none⟩) [l] := fun i hi => by
  have : i = 0 := by simpa using hi
  subst this
  refine ⟨w.heap.size, 0, q, cap, rfl, ?_, h.of_below ((Below.refl _ _).alloc (Nat.le_refl _) _)⟩
  subst hl
  rw [World.cell?_alloc_new]; rfl
set_option maxRecDepth 100000 in
set_option maxHeartbeats 1000000 in
theorem awake_any (w : World) (hF : Ft w) (hk : Kt w) (h1w : 1 < w.heap.size) : Calls Tryd.prog 5 #[] w fun e w' => e = .returned (.bool true) ∧ Below w.heap.size w w' := by
  have HF := Lib.hid hF
  have HK := Lib.hid hk
  clear hF hk
  go_enter Tryd.func5, Tryd.ntmps5
  go_wp2_with fail
  have hsl : Sl (w.alloc (.cells #[.int .u8 97, .int .u8 98, .int .u8 99] 5 (3, 4))) (some ⟨w.heap.size, 0, none⟩) abc := fun j hj => by
    refine ⟨w.heap.size, 0, rfl, ?_⟩
    rw [Nat.zero_add, World.cell?_alloc_mark]
    have e0 : B 97#8 = .int .u8 97 := by rw [B_eq']; rfl
    have e1 : B 98#8 = .int .u8 98 := by rw [B_eq']; rfl
    have e2 : B 99#8 = .int .u8 99 := by rw [B_eq']; rfl
    match j, hj with
    | 0, _ => show some _ = some (B 97#8); rw [e0]; rfl
    | 1, _ => show some _ = some (B 98#8); rw [e1]; rfl
    | 2, _ => show some _ = some (B 99#8); rw [e2]; rfl
  have hb : Below w.heap.size w (w.alloc (.cells #[.int .u8 97, .int .u8 98, .int .u8 99] 5 (3, 4))) := (Below.refl _ _).alloc (Nat.le_refl _) _
  have hs1 : (w.alloc (.cells #[.int .u8 97, .int .u8 98, .int .u8 99] 5 (3, 4))).heap.size = w.heap.size + 1 := by simp
  generalize w.alloc (.cells #[.int .u8 97, .int .u8 98, .int .u8 99] 5 (3, 4)) = w1 at *
  have hS0 : Sls0 (w1.alloc (.cells #[.slice (some ⟨w.heap.size, 0, none⟩) 3 3] 22)) (some ⟨w.heap.size + 1, 0, none⟩) [abc] := by
    have := Sls0_one 3 3 rfl hsl
    rwa [hs1] at this
  have hb2 := hb.alloc hb.size (.cells #[.slice (some ⟨w.heap.size, 0, none⟩) 3 3] 22)
  refine (shaSum_any [abc] _ 1 _ hS0 (HF.out.of_below hb2) (HK.out.of_below hb2) (by simp; omega) (by decide) (by decide)).mono ?_
  rintro e w2 ⟨rfl, hw2⟩
  have HB := Lib.hid (hb2.trans (hw2.mono hb2.size))
  have d0 := abcB0
  have d1 := abcB1
  have d2 := abcB2
  have d3 := abcB3
  have hfl : [abc].flatten = abc := rfl
  rw [hfl]
  clear hw2 hb2 hS0 hsl hb hs1 hfl
  go_wp2
  go_ret
  exact ⟨rfl, HB.out.alloc HB.out.size _⟩
end Go.Proofs.YteckafiedpjpgaaDoor
