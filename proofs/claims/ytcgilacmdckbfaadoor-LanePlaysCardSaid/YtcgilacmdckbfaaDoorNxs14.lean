/- darnerref14.next, of the scrub lane. -/
import Derived.BigQuiet
import Derived.Test.YtcgilacmdckbfaaDoorNxe14
set_option linter.unusedSimpArgs false
set_option maxRecDepth 100000
set_option linter.unusedVariables false
namespace Go.Proofs.YtcgilacmdckbfaaDoor
open Go Go.RowKit

theorem belowN {N : Nat} {x y : World} (h : Below N x y) (n : Nat) : Below N x (y.drewN n) := h.trans ((show Dr y (y.drewN n) from ⟨n, rfl⟩).below _)
set_option maxHeartbeats 4000000 in
theorem refNextS_any {w : World} {q : Option Addr} {n cap : Nat} {M : List Rf} (ck : Int) (h : RLs w q n cap M) (hn : n < 100000000) :
    Calls Tryd.prog 45 #[.agg #[.slice q n cap, .int .i64 ck], .bool false] w fun e w' => ∃ r, e = .returned (.int .i64 r) ∧ NxS ck M n r ∧ Below w.heap.size w w' := by
  have HL := Lib.hid (fun u (hu : Below w.heap.size w u) => h.of_below hu)
  have HN := Lib.hid h.1
  obtain ⟨bx, hbx⟩ : ∃ b, w.heap.size = b := ⟨_, rfl⟩
  obtain ⟨W1, hW1⟩ : ∃ W, w.alloc (.cells #[.slice q n cap, .int .i64 ck] TL14) = W := ⟨_, rfl⟩
  have hB1 : Below w.heap.size w W1 := by rw [← hW1]; exact (Below.refl _ w).alloc (Nat.le_refl _) _
  have hh1 : W1.heap[bx]? = some (.cells #[.slice q n cap, .int .i64 ck] TL14 (0, 0)) := by rw [← hW1, ← hbx]; exact World.alloc_heap_new _ _
  have HC := Lib.hid (fun u (hu : Below W1.heap.size W1 u) => (show u.heap[bx]? = some (.cells #[.slice q n cap, .int .i64 ck] TL14 (0, 0)) from (hu.block bx (Array.getElem?_eq_some_iff.1 hh1).1).trans hh1))
  obtain ⟨k0, k1, -, -⟩ := twoCells hh1
  have HB1 := Lib.hid hB1
  have HW1 := Lib.hid (And.intro hW1 hbx)
  clear h hB1 hW1 hbx hh1
  go_enter Tryd.func45, Tryd.ntmps45
  go_wp2
  rw [HW1.out.1, HW1.out.2]
  go_wp2
  clear k0 k1
  go_loopw [5, 11] (fun v5 v11 wr => ∃ (k : Nat) (o : Int), k ≤ n ∧ v11 = .int .i64 (k : Int) ∧ v5 = .int .i64 o ∧ NxS ck M k o ∧ Below W1.heap.size W1 wr) (fun v5 v11 _ => n - (intOf v11).toNat)
  case atStart => exact ⟨0, -1, Nat.zero_le _, rfl, rfl, .inl ⟨rfl, fun j hj => by omega⟩, Below.refl _ _⟩
  case round =>
    rename World => wa
    obtain ⟨k, o, hk, rfl, rfl, hF, hBa⟩ := hrel
    have HF := Lib.hid hF
    have HBA := Lib.hid hBa
    obtain ⟨c0, c1, -, -⟩ := twoCells (HC.out wa hBa)
    by_cases hlt : k < n
    · have y1 : (k : Int) < (n : Int) := by omega
      have y2 : decide ((k : Int) < (n : Int)) = true := decide_eq_true y1
      have hw6 : IntKind.i64.wrap ((k : Int) + 1) = (k : Int) + 1 := by rw [IntKind.wrap_i64]; omega
      obtain ⟨c, d, rfl, hc⟩ := (HL.out wa (HB1.out.trans (hBa.mono HB1.out.size))).cells k hlt
      obtain ⟨x, hx⟩ : ∃ x, M.getD k rf0 = x := ⟨_, rfl⟩
      have x0 := hc 0 (by decide)
      have x1 := hc 1 (by decide)
      have x2 := hc 2 (by decide)
      have x3 := hc 3 (by decide)
      rw [hx] at x0 x1 x2 x3
      change _ = some (Value.string (mkS x.path)) at x0
      change _ = some (Value.int .i64 (x.blocks : Int)) at x1
      change _ = some (Value.int .i64 (x.done : Int)) at x2
      change _ = some (Value.int .i64 x.last) at x3
      rw [Nat.add_zero] at x0
      have HX := Lib.hid hx
      obtain ⟨W5, hW5⟩ : ∃ W, wa.alloc (.cells #[.string (mkS x.path), .int .i64 (x.blocks : Int), .int .i64 (x.done : Int), .int .i64 x.last] ER) = W := ⟨_, rfl⟩
      have hB5 : Below W1.heap.size W1 W5 := by rw [← hW5]; exact hBa.alloc hBa.size _
      obtain ⟨bm, hbm⟩ : ∃ y, wa.heap.size = y := ⟨_, rfl⟩
      have z3 : W5.cell? ⟨bm, 3, none⟩ = some (.int .i64 x.last) := by rw [← hW5, ← hbm]; unfold World.cell?; rw [World.alloc_heap_new]; simp
      have HB5 := Lib.hid hB5
      clear hF hBa hc hx hB5
      obtain ⟨b0, b1, -, -⟩ := twoCells (HC.out W5 HB5.out)
      have z0 : W5.cell? ⟨bm, 0, none⟩ = some (.string (mkS x.path)) := by rw [← hW5, ← hbm]; unfold World.cell?; rw [World.alloc_heap_new]; simp
      by_cases hl : x.last < 0
      · have g0 : decide (x.last < 0) = true := decide_eq_true hl
        have HLL := Lib.hid g0
        clear b0 z0
        go_wp2
        refine ⟨⟨k + 1, o, by omega, by go_num, rfl, HF.out.pass (by rw [HX.out]; unfold isS isE; rw [HLL.out]; rfl), HB5.out⟩, by simp [intOf]; omega⟩
      · have g0 : decide (x.last < 0) = false := decide_eq_false hl
        by_cases hck : x.last = ck
        · have g2 : (x.last == ck) = true := by simp [hck]
          have HLL := Lib.hid hck
          clear b0 z0 hl hck
          go_wp2
          refine ⟨⟨k + 1, o, by omega, by go_num, rfl, HF.out.pass (by rw [HX.out]; unfold isS; rw [decide_eq_false (fun hh => hh HLL.out), Bool.and_false]), HB5.out⟩, by simp [intOf]; omega⟩
        · have g2 : (x.last == ck) = false := by simp [hck]
          have HIS := Lib.hid (show isS ck (M.getD k rf0) = true from by rw [HX.out]; exact isS_split.2 ⟨g0, hck⟩)
          clear hck hl
          by_cases ho : o < 0
          · have g1 : decide (o < 0) = true := decide_eq_true ho
            have HOO := Lib.hid ho
            clear b0 z0 ho
            go_wp2
            go_quiet (fail)
            go_wp2
            refine ⟨⟨k + 1, (k : Int), by omega, by go_num, rfl, HF.out.first HIS.out HOO.out, belowN HB5.out _⟩, by simp [intOf]; omega⟩
          · obtain ⟨i, rfl, hi, hyi⟩ := HF.out.at ho
            have g1 : decide ((i : Int) < 0) = false := decide_eq_false ho
            clear ho
            have e1 : (0 : Int) ≤ (i : Int) := by omega
            have e2 : (i : Int) < (n : Int) := by omega
            have hci := (HL.out W5 (HB1.out.trans (HB5.out.mono HB1.out.size))).cells i (by omega)
            obtain ⟨c', d', ec, hc'⟩ := hci
            cases ec
            obtain ⟨y, hy⟩ : ∃ y, M.getD i rf0 = y := ⟨_, rfl⟩
            have u0 := hc' 0 (by decide)
            have u3 := hc' 3 (by decide)
            rw [hy] at u0 u3
            change _ = some (Value.string (mkS y.path)) at u0
            change _ = some (Value.int .i64 y.last) at u3
            rw [Nat.add_zero] at u0
            have HLT := Lib.hid (show ltF (flR (M.getD k rf0)) (flR (M.getD i rf0)) ↔ x.last < y.last ∨ x.last = y.last ∧ x.path < y.path from by rw [HX.out, hy]; exact ltF_ints (by rw [← HX.out]; exact (isS_split.1 HIS.out).1) (by rw [← hy]; exact (isS_split.1 hyi).1))
            clear hc' hy hyi hi
            by_cases h1 : x.last < y.last
            · have g3 : decide (x.last < y.last) = true := decide_eq_true h1
              have HA := Lib.hid (HLT.out.2 (.inl h1))
              clear h1 HLT
              go_wp2
              go_quiet (fail)
              go_wp2
              refine ⟨⟨k + 1, (k : Int), by omega, by go_num, rfl, HF.out.less HIS.out HA.out, belowN HB5.out _⟩, by simp [intOf]; omega⟩
            · have g3 : decide (x.last < y.last) = false := decide_eq_false h1
              by_cases h2 : x.last = y.last
              · have g4 : (x.last == y.last) = true := by simp [h2]
                by_cases h3 : x.path < y.path
                · have hb : Op.bytesLess x.path y.path = true := by rw [bytesLess_eq]; exact decide_eq_true h3
                  have HA := Lib.hid (HLT.out.2 (.inr ⟨h2, h3⟩))
                  clear h1 h2 h3 HLT
                  go_wp2
                  go_quiet (fail)
                  go_wp2
                  refine ⟨⟨k + 1, (k : Int), by omega, by go_num, rfl, HF.out.less HIS.out HA.out, belowN HB5.out _⟩, by simp [intOf]; omega⟩
                · have hb : Op.bytesLess x.path y.path = false := by rw [bytesLess_eq]; exact decide_eq_false h3
                  have HA := Lib.hid (show ¬ ltF (flR (M.getD k rf0)) (flR (M.getD i rf0)) from fun hh => by rcases HLT.out.1 hh with a | ⟨-, a⟩; exact h1 a; exact h3 a)
                  clear h1 h2 h3 HLT
                  go_wp2
                  go_quiet (fail)
                  go_wp2
                  refine ⟨⟨k + 1, (i : Int), by omega, by go_num, rfl, HF.out.more HA.out, belowN HB5.out _⟩, by simp [intOf]; omega⟩
              · have g4 : (x.last == y.last) = false := by simp [h2]
                have HA := Lib.hid (show ¬ ltF (flR (M.getD k rf0)) (flR (M.getD i rf0)) from fun hh => by rcases HLT.out.1 hh with a | ⟨a, -⟩; exact h1 a; exact h2 a)
                clear h1 h2 HLT
                go_wp2
                go_quiet (fail)
                go_wp2
                refine ⟨⟨k + 1, (i : Int), by omega, by go_num, rfl, HF.out.more HA.out, belowN HB5.out _⟩, by simp [intOf]; omega⟩
    · have y1 : ¬ (k : Int) < (n : Int) := by omega
      have y2 : decide ((k : Int) < (n : Int)) = false := decide_eq_false y1
      have hkn : k = n := by omega
      clear hF hBa
      go_wp2
      go_ret
      exact ⟨o, rfl, by rw [← hkn]; exact HF.out, HB1.out.trans (HBA.out.mono HB1.out.size)⟩
theorem refNext_any {w : World} {q : Option Addr} {n cap : Nat} {M : List Rf} (ck : Int) (e : Bool) (h : RLs w q n cap M) (hn : n < 100000000) :
    Calls Tryd.prog 45 #[.agg #[.slice q n cap, .int .i64 ck], .bool e] w fun e' w' => ∃ r, e' = .returned (.int .i64 r) ∧ NxI e ck M n r ∧ Below w.heap.size w w' := by
  cases e with
  | true => exact refNextE_any ck h hn
  | false => exact refNextS_any ck h hn
end Go.Proofs.YtcgilacmdckbfaaDoor
