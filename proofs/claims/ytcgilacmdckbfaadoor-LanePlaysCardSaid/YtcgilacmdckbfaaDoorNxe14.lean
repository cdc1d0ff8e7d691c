/- darnerref14.next. -/
import Derived.Test.YtcgilacmdckbfaaDoorRnx14
set_option linter.unusedSimpArgs false
set_option maxRecDepth 100000
set_option linter.unusedVariables false
namespace Go.Proofs.YtcgilacmdckbfaaDoor
open Go Go.RowKit

set_option maxHeartbeats 4000000 in
theorem refNextE_any {w : World} {q : Option Addr} {n cap : Nat} {M : List Rf} (ck : Int) (h : RLs w q n cap M) (hn : n < 100000000) :
    Calls Tryd.prog 45 #[.agg #[.slice q n cap, .int .i64 ck], .bool true] w fun e w' => ∃ r, e = .returned (.int .i64 r) ∧ NxE M n r ∧ Below w.heap.size w w' := by
  have HL := Lib.hid (fun u (hu : Below w.heap.size w u) => h.of_below hu)
  have HN := Lib.hid h.1
  obtain ⟨bx, hbx⟩ : ∃ b, w.heap.size = b := ⟨_, rfl⟩
  obtain ⟨W1, hW1⟩ : ∃ W, w.alloc (.cells #[.slice q n cap, .int .i64 ck] TL14) = W := ⟨_, rfl⟩
  have hB1 : Below w.heap.size w W1 := by rw [← hW1]; exact (Below.refl _ w).alloc (Nat.le_refl _) _
  have hh1 : W1.heap[bx]? = some (.cells #[.slice q n cap, .int .i64 ck] TL14 (0, 0)) := by rw [← hW1, ← hbx]; exact World.alloc_heap_new _ _
  have HC := Lib.hid (fun u (hu : Below W1.heap.size W1 u) => (show u.heap[bx]? = some (.cells #[.slice q n cap, .int .i64 ck] TL14 (0, 0)) from (hu.block bx (Array.getElem?_eq_some_iff.1 hh1).1).trans hh1))
  obtain ⟨k0, k1, -, -⟩ := twoCells hh1
  have HB1 := Lib.hid hB1
  have HW1 := Lib.hid (And.intro hW1 hbx)
  clear h hB1 hW1 hbx hh1
  go_enter Tryd.func45, Tryd.ntmps45
  go_wp2
  rw [HW1.out.1, HW1.out.2]
  go_wp2
  clear k0 k1
  go_loopw [5, 11] (fun v5 v11 wr => ∃ (k : Nat) (o : Int), k ≤ n ∧ v11 = .int .i64 (k : Int) ∧ v5 = .int .i64 o ∧ NxE M k o ∧ Below W1.heap.size W1 wr) (fun v5 v11 _ => n - (intOf v11).toNat)
  case atStart => exact ⟨0, -1, Nat.zero_le _, rfl, rfl, .inl ⟨rfl, fun j hj => by omega⟩, Below.refl _ _⟩
  case round =>
    rename World => wa
    obtain ⟨k, o, hk, rfl, rfl, hF, hBa⟩ := hrel
    have HF := Lib.hid hF
    have HBA := Lib.hid hBa
    obtain ⟨c0, c1, -, -⟩ := twoCells (HC.out wa hBa)
    by_cases hlt : k < n
    · have y1 : (k : Int) < (n : Int) := by omega
      have y2 : decide ((k : Int) < (n : Int)) = true := decide_eq_true y1
      have hw6 : IntKind.i64.wrap ((k : Int) + 1) = (k : Int) + 1 := by rw [IntKind.wrap_i64]; omega
      obtain ⟨c, d, rfl, hc⟩ := (HL.out wa (HB1.out.trans (hBa.mono HB1.out.size))).cells k hlt
      obtain ⟨x, hx⟩ : ∃ x, M.getD k rf0 = x := ⟨_, rfl⟩
      have x0 := hc 0 (by decide)
      have x1 := hc 1 (by decide)
      have x2 := hc 2 (by decide)
      have x3 := hc 3 (by decide)
      rw [hx] at x0 x1 x2 x3
      change _ = some (Value.string (mkS x.path)) at x0
      change _ = some (Value.int .i64 (x.blocks : Int)) at x1
      change _ = some (Value.int .i64 (x.done : Int)) at x2
      change _ = some (Value.int .i64 x.last) at x3
      rw [Nat.add_zero] at x0
      have HX := Lib.hid hx
      obtain ⟨W5, hW5⟩ : ∃ W, wa.alloc (.cells #[.string (mkS x.path), .int .i64 (x.blocks : Int), .int .i64 (x.done : Int), .int .i64 x.last] ER) = W := ⟨_, rfl⟩
      have hB5 : Below W1.heap.size W1 W5 := by rw [← hW5]; exact hBa.alloc hBa.size _
      obtain ⟨bm, hbm⟩ : ∃ y, wa.heap.size = y := ⟨_, rfl⟩
      have z3 : W5.cell? ⟨bm, 3, none⟩ = some (.int .i64 x.last) := by rw [← hW5, ← hbm]; unfold World.cell?; rw [World.alloc_heap_new]; simp
      have HB5 := Lib.hid hB5
      clear hF hBa hc hx hB5
      by_cases hl : x.last < 0
      · have g0 : decide (x.last < 0) = true := decide_eq_true hl
        by_cases ho : o < 0
        · have g1 : decide (o < 0) = true := decide_eq_true ho
          have HOO := Lib.hid ho
          go_wp2
          refine ⟨⟨k + 1, (k : Int), by omega, by go_num, rfl, HF.out.take (by rw [HX.out]; exact g0) HOO.out, HB5.out⟩, by simp [intOf]; omega⟩
        · have g1 : decide (o < 0) = false := decide_eq_false ho
          have HOO := Lib.hid ho
          go_wp2
          refine ⟨⟨k + 1, o, by omega, by go_num, rfl, HF.out.pass (fun hh => HOO.out hh.2), HB5.out⟩, by simp [intOf]; omega⟩
      · have g0 : decide (x.last < 0) = false := decide_eq_false hl
        have HLL := Lib.hid g0
        go_wp2
        refine ⟨⟨k + 1, o, by omega, by go_num, rfl, HF.out.pass (fun hh => by have h1 := hh.1; rw [HX.out] at h1; unfold isE at h1; rw [HLL.out] at h1; cases h1), HB5.out⟩, by simp [intOf]; omega⟩
    · have y1 : ¬ (k : Int) < (n : Int) := by omega
      have y2 : decide ((k : Int) < (n : Int)) = false := decide_eq_false y1
      have hkn : k = n := by omega
      clear hF hBa
      go_wp2
      go_ret
      exact ⟨o, rfl, by rw [← hkn]; exact HF.out, HB1.out.trans (HBA.out.mono HB1.out.size)⟩
end Go.Proofs.YtcgilacmdckbfaaDoor
