/- The statements' own writing of an item. -/
import Derived.Test.YtgmogbgkokofoaaDig6
import Derived.Test.YtgmogbgkokofoaaAwake6
set_option linter.unusedSimpArgs false
set_option linter.unusedVariables false
namespace Go.Proofs.Ytgmogbgkokofoaa
open Go Go.RowKit

theorem Kq.alloc0 {b : Nat} {g : Option Nat} {w w' : World} {o : Obj} (h : Kq b g (w.alloc o) w') : Kq b g w w' :=
  ⟨h.os, h.tape, h.output, Nat.le_trans (by rw [World.size_alloc]; omega) h.size, fun k hk hb hg => by
    rw [h.block k (by rw [World.size_alloc]; omega) hb hg]
    exact ((Below.refl w.heap.size w).alloc (Nat.le_refl _) o).block k hk⟩
theorem arr_at (c o n cap : Nat) (w : World) (hn : 32 ≤ n) : (Instr.arrayAt 51 (.slice (some ⟨c, o, none⟩) n cap)).run Try.prog w = .ok (.pointer (some ⟨c, o, none⟩)) w := by
  have h : ¬ n < 32 := by omega
  simp [Instr.arrayAt, run_underlying und32, go_sem, h]
theorem WrPost.alloc0 {Wr : Nat → World → Addr → Option Nat → List (BitVec 8) → Prop} {N : Nat} {w w' : World} {a : Addr} {g : Option Nat} {l : List (BitVec 8)} {o : Obj} (h : WrPost Wr N (w.alloc o) a g l w') : WrPost Wr N w a g l w' := by
  obtain ⟨g', h1, h2, h3⟩ := h
  refine ⟨g', h1, fun k hk => ?_, h3.alloc0⟩
  rcases h2 k hk with h | h
  · exact .inl h
  · exact .inr (by rw [World.size_alloc] at h; omega)
attribute [local go_sem ↓] exec_load32
section
variable {Wr : Nat → World → Addr → Option Nat → List (BitVec 8) → Prop} (T : WrSpec Wr)
include T
set_option maxRecDepth 100000 in
set_option maxHeartbeats 4000000 in
theorem put_any (N : Nat) (w : World) (a : Addr) (g : Option Nat) (l : List (BitVec 8)) (x : It) (q : Option Addr) (cap : Nat) (hW : Wr N w a g l) (hl : l.length < 1000000000) (hx : x.ok) (hb : Bt w x.raw q cap) (hq : 0 < x.b.length → ∀ c o, q = some ⟨c, o, none⟩ → c < N) :
    Calls Try.prog 9 #[.pointer (some a), x.v q cap] w fun e w' => e = .returned (.bool true) ∧ WrPost Wr N w a g (l ++ x.put) w' := by
  obtain ⟨k, n, b⟩ := x
  obtain ⟨h1, h2, h3, h4, h5⟩ := hx
  dsimp only at h1 h2 h3 h4 h5
  obtain ⟨hs, hp, hc⟩ := hb
  change Sl w q b at hs
  change 0 < b.length → ∀ c o, q = some ⟨c, o, none⟩ → c < N at hq
  obtain ⟨len, hlen⟩ : ∃ len, b.length = len := ⟨_, rfl⟩
  show Calls Try.prog 9 #[.pointer (some a), .agg #[.int .i64 (k : Int), .int .i64 (n : Int), .slice q b.length cap]] w _
  rw [hlen] at h4 h5 hq ⊢
  have HL := Lib.hid hlen
  have HP := Lib.hid hp
  have HQ := Lib.hid hq
  have HT := Lib.hid T
  have hBA : Below w.heap.size w (w.alloc (.cells #[.int .i64 (k : Int), .int .i64 (n : Int), .slice q len cap] 29)) := (Below.refl _ _).alloc (Nat.le_refl _) _
  have HS := Lib.hid (hs.of_below hBA)
  have HW := Lib.hid (T.keep hW hBA)
  have y0 : (w.alloc (.cells #[.int .i64 (k : Int), .int .i64 (n : Int), .slice q len cap] 29)).cell? ⟨w.heap.size, 0, none⟩ = some (.int .i64 (k : Int)) := by rw [World.cell?_alloc_new]; rfl
  have y1 : (w.alloc (.cells #[.int .i64 (k : Int), .int .i64 (n : Int), .slice q len cap] 29)).cell? ⟨w.heap.size, 1, none⟩ = some (.int .i64 (n : Int)) := by rw [World.cell?_alloc_new]; rfl
  have y2 : (w.alloc (.cells #[.int .i64 (k : Int), .int .i64 (n : Int), .slice q len cap] 29)).cell? ⟨w.heap.size, 2, none⟩ = some (.slice q len cap) := by rw [World.cell?_alloc_new]; rfl
  clear hlen hp hs hq T hBA hW hc
  have hk : k = 0 ∨ k = 1 ∨ k = 2 ∨ k = 3 ∨ k = 4 ∨ k = 5 := by omega
  rcases hk with rfl | rfl | rfl | rfl | rfl | rfl
  · have HC := Lib.hid (HT.out.number N _ a g l n HW.out hl h2)
    clear h3 h4
    go_enter Try.func9, Try.ntmps9
    go_wp2_with fail
    refine HC.out.mono ?_
    rintro e w2 ⟨rfl, hP⟩
    have HPP := Lib.hid hP
    clear hP
    go_wp2
    go_ret
    exact ⟨rfl, HPP.out.alloc0⟩
  · have HC := Lib.hid (HT.out.bytes N _ a g l q len cap b HW.out hl HL.out HS.out HP.out h5 HQ.out)
    have HE := Lib.hid (show (It.mk 1 n b).put = enc7 len ++ b from by rw [← HL.out]; rfl)
    clear h3 h4
    go_enter Try.func9, Try.ntmps9
    go_wp2_with fail
    refine HC.out.mono ?_
    rintro e w2 ⟨rfl, hP⟩
    have HPP := Lib.hid hP
    clear hP
    go_wp2
    go_ret
    exact ⟨rfl, by rw [HE.out]; exact HPP.out.alloc0⟩
  · have HC := Lib.hid (HT.out.text N _ a g l b HW.out hl (by rw [HL.out]; exact h5))
    have HE := Lib.hid (show (It.mk 2 n b).put = enc7 b.length ++ b from rfl)
    have hcv := conv_str (w.alloc (.cells #[.int .i64 2, .int .i64 (n : Int), .slice q len cap] 29)) q b len cap HS.out HL.out HP.out
    clear h3 h4
    generalize strOf b = sb at *
    go_enter Try.func9, Try.ntmps9
    go_wp2_with fail
    refine HC.out.mono ?_
    rintro e w2 ⟨rfl, hP⟩
    have HPP := Lib.hid hP
    clear hP
    go_wp2
    go_ret
    exact ⟨rfl, by rw [HE.out]; exact HPP.out.alloc0⟩
  · have hn2 := h3 rfl
    have hn : n = 0 ∨ n = 1 := by omega
    clear h3 h4 hn2
    rcases hn with rfl | rfl
    · have HC := Lib.hid (HT.out.truth N _ a g l false HW.out hl)
      go_enter Try.func9, Try.ntmps9
      go_wp2_with fail
      refine HC.out.mono ?_
      rintro e w2 ⟨rfl, hP⟩
      have HPP := Lib.hid hP
      clear hP
      go_wp2
      go_ret
      exact ⟨rfl, HPP.out.alloc0⟩
    · have HC := Lib.hid (HT.out.truth N _ a g l true HW.out hl)
      go_enter Try.func9, Try.ntmps9
      go_wp2_with fail
      refine HC.out.mono ?_
      rintro e w2 ⟨rfl, hP⟩
      have HPP := Lib.hid hP
      clear hP
      go_wp2
      go_ret
      exact ⟨rfl, HPP.out.alloc0⟩
  · have hl32 := h4 rfl
    clear h4
    subst hl32
    obtain ⟨c0, o0, hqe, hx0⟩ := HS.out 0 (by rw [HL.out]; decide)
    subst hqe
    have hld := ld_dig (w := w.alloc (.cells #[.int .i64 4, .int .i64 (n : Int), .slice (some ⟨c0, o0, none⟩) 32 cap] 29)) HS.out (by rw [HL.out])
    have harr := arr_at c0 o0 32 cap (w.alloc (.cells #[.int .i64 4, .int .i64 (n : Int), .slice (some ⟨c0, o0, none⟩) 32 cap] 29)) (by decide)
    have HC := Lib.hid (HT.out.digest N _ a g l b HW.out hl (by rw [HL.out]))
    clear h3 hx0
    generalize digV b = db at *
    go_enter Try.func9, Try.ntmps9
    go_wp2_with fail
    refine HC.out.mono ?_
    rintro e w2 ⟨rfl, hP⟩
    have HPP := Lib.hid hP
    clear hP
    go_wp2
    go_ret
    exact ⟨rfl, HPP.out.alloc0⟩
  · have HC := Lib.hid (HT.out.number N _ a g l n HW.out hl h2)
    clear h3 h4
    go_enter Try.func9, Try.ntmps9
    go_wp2_with fail
    refine HC.out.mono ?_
    rintro e w2 ⟨rfl, hP⟩
    have HPP := Lib.hid hP
    clear hP
    go_wp2
    go_ret
    exact ⟨rfl, HPP.out.alloc0⟩
end
end Go.Proofs.Ytgmogbgkokofoaa
