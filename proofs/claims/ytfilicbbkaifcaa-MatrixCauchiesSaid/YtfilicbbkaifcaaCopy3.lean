/- Rows copied, in layer 3's statements. -/
import Derived.Test.YtfilicbbkaifcaaGood3
set_option linter.unusedSimpArgs false
set_option linter.unusedVariables false
namespace Go.Proofs.Ytfilicbbkaifcaa
open Go Go.RowKit

/-- A slice of rows of the call's own is returned, and nothing that was there has changed. -/
def RetM (N : Nat) (w : World) (ls : List (List (BitVec 8))) (e : Ending) (w' : World) : Prop := ∃ v, e = .returned v ∧ OwnM w' N v ls ∧ Below N w w'
theorem OwnM.lt {w : World} {base : Nat} {v : Value} {ls : List (List (BitVec 8))} (h : OwnM w base v ls) : ∀ k, v.ownBlock = some k → base ≤ k ∧ k < w.heap.size := by
  obtain ⟨vs, _, h2, _⟩ := h
  exact World.ownsRow.lt h2
theorem bs0 (w : World) : (bsT 35 0 #[]).run Try.prog w = .ok (.value (.slice (some ⟨w.heap.size, 0, none⟩) 0 0)) (w.alloc (.cells #[] 5)) := by kernel_rfl
theorem bsR (q : Option Addr) (n c : Nat) (w : World) : (bsT 22 1 #[(0, .slice q n c)]).run Try.prog w = .ok (.value (.slice (some ⟨w.heap.size, 0, none⟩) 1 1)) (w.alloc (.cells #[.slice q n c] 35)) := by
  cases q <;> kernel_rfl
attribute [local go_sem ↓] exec_bs
attribute [local go_sem] bs0 bsR
set_option maxHeartbeats 4000000 in
theorem copied_any (ls : List (List (BitVec 8))) (p : Option Addr) (n cap : Nat) (w : World) (hs : Prt w p ls) (hl : ls.length = n) (hn : n < 1000000) (hlen : ∀ i, i < ls.length → (ls.getD i []).length < 1000000) :
    Calls Try.prog 10 #[.slice p n cap] w (RetM w.heap.size w ls) := by
  have HS := Lib.hid hs
  have HL := Lib.hid hl
  have HLEN := Lib.hid hlen
  clear hs hl hlen
  go_enter Try.func10, Try.ntmps10
  go_wp2
  generalize hN : w.heap.size = N at *
  have HN := Lib.hid hN
  clear hN
  go_loopw [3, 8] (fun v i wr => ∃ k : Nat, k ≤ n ∧ i = .int .i64 k ∧ (∃ q c, v = .slice q k c) ∧ OwnM wr N v (ls.take k) ∧ Below N w wr) (fun _ i _ => n - (intOf i).toNat)
  case atStart => exact ⟨0, Nat.zero_le _, rfl, ⟨none, 0, rfl⟩, by simpa using OwnM.nil w N, Below.refl _ _⟩
  case round =>
    obtain ⟨k, hk, rfl, ⟨qv, cv, rfl⟩, hO, hB⟩ := hrel
    have HO := Lib.hid hO
    have HBr := Lib.hid hB
    have hNle : N ≤ wr.heap.size := by have := hB.size; have := HN.out; omega
    clear hO hB
    by_cases hlt : k < n
    · obtain ⟨c, o, q, cap', rfl, hcl, hc, hsl, hq, _⟩ := HS.out.at_ k (by rw [HL.out]; exact hlt)
      have hx : wr.cell? ⟨c, o + k, none⟩ = some (.slice q (ls.getD k []).length cap') := by
        rw [HBr.out.cell (by rw [← HN.out]; exact hcl)]; exact hc
      have hm := HLEN.out k (by rw [HL.out]; exact hlt)
      have hslr : Sl wr q (ls.getD k []) := hsl.of_below (by rw [HN.out]; exact HBr.out)
      have hd0 : decide ((k : Int) < (n : Int)) = true := decide_eq_true (by omega)
      have hl0 : (k : Int) < (n : Int) := by omega
      have HT := Lib.hid (take_getD ls [] k (by rw [HL.out]; exact hlt))
      have HLT := Lib.hid (show (ls.take k).length = k by rw [List.length_take, HL.out]; omega)
      have HSLR := Lib.hid hslr
      have HQ := Lib.hid hq
      clear hsl hslr hc hq hcl
      generalize ls.getD k [] = r at *
      generalize hrm : r.length = m at *
      have HM := Lib.hid hrm
      clear hrm
      generalize hlk : ls.take k = lk at *
      clear hlk
      have HO1 := Lib.hid (OwnB.empty wr wr.heap.size (Nat.le_refl _))
      have HB1 := Lib.hid (show Below wr.heap.size wr (wr.alloc (.cells #[] 5)) from (Below.refl _ _).alloc (Nat.le_refl _) _)
      go_wp2_with (first | (refine wpl_append _ rfl (.tmp 13) (.tmp 14) rfl wr.heap.size (.slice (some ⟨wr.heap.size, 0, none⟩) 0 0) [] rfl HO1.out q m cap' r HM.out rfl (HSLR.out.of_below HB1.out) HQ.out (by show 0 + m < _; omega) HB1.out.size ?_; rintro v3 w3 hv3 hg3; have hB3 := HB1.out.grown hg3 HB1.out.size (fun g hg => (HO1.out.lt g hg).1); rw [List.nil_append] at hv3; have hlt3 := OwnB.lt hv3; obtain ⟨q3, c3, e3, hs3, hc3, hle3⟩ := hv3.shape; rw [HM.out] at e3 hle3; subst e3; have HC3 := Lib.hid hc3; have hB4 : Below wr.heap.size wr (w3.alloc (.cells #[.slice q3 m c3] 35)) := hB3.alloc hB3.size _; have HO3 := Lib.hid (HO.out.of_below hB4); have hcell : (w3.alloc (.cells #[.slice q3 m c3] 35)).cell? ⟨w3.heap.size, 0, none⟩ = some (.slice q3 m c3) := (by rw [World.cell?_alloc_new]; rfl); have HS4 := Lib.hid (hs3.of_below (show Below w3.heap.size w3 (w3.alloc (.cells #[.slice q3 m c3] 35)) from (Below.refl _ _).alloc (Nat.le_refl _) _)); have HQB := Lib.hid (show ∀ b, q3 = some b → N ≤ b.block ∧ b.block < (w3.alloc (.cells #[.slice q3 m c3] 35)).heap.size ∧ (Value.slice qv k cv).ownBlock ≠ some b.block from fun b hb => (by subst hb; have h1 := hlt3 b.block rfl; refine ⟨by omega, by rw [World.size_alloc]; omega, fun e => ?_⟩; have h2 := (HO.out.lt _ e).2; omega)); have hN4 : N ≤ (w3.alloc (.cells #[.slice q3 m c3] 35)).heap.size := Nat.le_trans hNle hB4.size; have HB4 := Lib.hid hB4; have HCELL := Lib.hid hcell; have HLE3 := Lib.hid hle3; clear hv3 hg3 hs3 hc3 hB3 hB4 hlt3 hcell hle3) | (refine wpl_push _ rfl (.tmp 12) (.tmp 16) rfl N (.slice qv k cv) lk rfl HO3.out ⟨w3.heap.size, 0, none⟩ rfl q3 r m c3 HCELL.out HM.out HS4.out HC3.out HLE3.out HQB.out k HLT.out (by omega) hN4 ?_; rintro g5 c5 w5 hM5 hg5 ho5 hl5; have HM5 := Lib.hid hM5; have HB5 := Lib.hid ((HBr.out.trans (HB4.out.mono hNle)).grown hg5 hN4 (fun g hg => (hl5 g hg).1)); clear hM5 hg5 ho5 hl5))
      go_roundw
      case rel => exact ⟨k + 1, by omega, by go_num, ⟨_, _, rfl⟩, by rw [HT.out]; exact HM5.out, HB5.out⟩
      case measure => simp [intOf]; omega
    · have hd0 : decide ((k : Int) < (n : Int)) = false := decide_eq_false (by omega)
      obtain rfl : k = n := by omega
      have hO := HO.out
      rw [List.take_of_length_le (by rw [HL.out]; exact Nat.le_refl _)] at hO
      have HO := Lib.hid hO
      clear hO
      go_wp2
      go_ret
      exact ⟨_, rfl, HO.out, HBr.out⟩
end Go.Proofs.Ytfilicbbkaifcaa
