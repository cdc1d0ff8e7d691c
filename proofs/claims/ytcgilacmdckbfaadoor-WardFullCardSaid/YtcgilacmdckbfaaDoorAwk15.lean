/- darnerlaw15.awake; a ward that the statement made. -/
import Derived.Test.YtcgilacmdckbfaaDoorHld15
set_option linter.unusedSimpArgs false
set_option maxRecDepth 100000
set_option linter.unusedVariables false
namespace Go.Proofs.YtcgilacmdckbfaaDoor
open Go Go.RowKit

/-- A ward in block b, all of its blocks made since w0. -/
def WSt (w0 u : World) (b : Nat) (s : Ws) : Prop := (∃ mb bk, WdAt u b (fun g => w0.heap.size ≤ g) s mb bk) ∧ Below w0.heap.size w0 u
theorem WSt.next {w0 u u' : World} {b : Nat} {s : Ws} (h : WSt w0 u b s) (hB : Below u.heap.size u u') : WSt w0 u' b s := by
  obtain ⟨⟨mb, bk, h1⟩, h2⟩ := h
  exact ⟨⟨mb, bk, h1.of_new hB⟩, h2.trans (hB.mono h2.size)⟩
theorem WSt.ok {w0 u : World} {b : Nat} {s : Ws} (h : WSt w0 u b s) : OkW s := by
  obtain ⟨⟨mb, bk, h1⟩, h2⟩ := h
  exact h1.ok
theorem wst_new (w0 : World) {w : World} (hB : Below w0.heap.size w0 w) : Calls Tryd.prog 22 #[] w fun e w' => ∃ b, e = .returned (.pointer (some ⟨b, 0, none⟩)) ∧ WSt w0 w' b [] :=
  (new15_any w).mono fun e w' ⟨he, h1, h2⟩ => ⟨_, he, ⟨_, _, h1.mono fun g _ hg => Nat.le_trans hB.size hg⟩, hB.trans (h2.mono hB.size)⟩
theorem wst_serve {w0 u : World} {b : Nat} {s : Ws} (h : WSt w0 u b s) (p : S8) (f t : Int) : Calls Tryd.prog 25 #[.pointer (some ⟨b, 0, none⟩), .string (mkS p), .int .i64 f, .int .i64 t] u fun e w' => e = .returned (.int .i64 (serveC s p f t)) ∧ WSt w0 w' b s := by
  obtain ⟨⟨mb, bk, h1⟩, h2⟩ := id h
  exact (serve15_any h1 p f t).mono fun e w' ⟨he, hB⟩ => ⟨he, h.next hB⟩
theorem wst_len {w0 u : World} {b : Nat} {s : Ws} (h : WSt w0 u b s) (hn : lenW s ≤ 100000) : Calls Tryd.prog 24 #[.pointer (some ⟨b, 0, none⟩)] u fun e w' => e = .returned (.int .i64 (lenW s : Int)) ∧ WSt w0 w' b s := by
  obtain ⟨⟨mb, bk, h1⟩, h2⟩ := id h
  exact (len15_any h1 hn).mono fun e w' ⟨he, hB⟩ => ⟨he, h.next hB⟩
theorem wst_hold {w0 u : World} {b : Nat} {s : Ws} (h : WSt w0 u b s) (hn : lenW s ≤ 100000) (p : S8) (hp : p.length < 100000) (k r : Int) : Calls Tryd.prog 23 #[.pointer (some ⟨b, 0, none⟩), .string (mkS p), .int .i64 k, .int .i64 r] u fun e w' => e = .returned (.int .i64 (holdC s p k r)) ∧ WSt w0 w' b (holdW s p k r) := by
  obtain ⟨⟨mb, bk, h1⟩, h2⟩ := id h
  refine (hold15_any h1 hn p hp k r).mono fun e w' ⟨he, ⟨bk', h3⟩, hK⟩ => ⟨he, ⟨mb, bk', h3.mono fun g _ hg => ?_⟩, h2.trans (hK.below (fun _ hk => hk) h2.size)⟩
  rcases hg with hg | hg
  · exact hg
  · exact Nat.le_trans h2.size hg.1
theorem holdW_len {s : Ws} (h : OkW s) (p : S8) (k r : Int) : lenW (holdW s p k r) ≤ lenW s + 1 := by
  unfold holdW
  split
  · rw [lenW_put h]
    split <;> omega
  · omega
theorem holdW_of {s : Ws} {p q : S8} (hq : q ≠ p) (k r : Int) : ofW (holdW s p k r) q = ofW s q := by
  unfold holdW
  split
  · rw [ofW_put, if_neg hq]
  · rfl
theorem kind_x15 : kindL [120] = 3 := by decide +kernel
def sx15 : Ws := [([120], [(3, 1)])]
theorem hold_x15 : holdC [] [120] 3 1 = 0 ∧ holdW [] [120] 3 1 = sx15 := by
  have h0 : holdC [] [120] 3 1 = 0 := by
    unfold holdC
    rw [if_neg (by rw [kind_x15]; decide), if_neg (by decide), if_neg (by decide)]
  refine ⟨h0, ?_⟩
  unfold holdW
  rw [if_pos h0]
  rfl
set_option maxHeartbeats 4000000 in
theorem awake15 (w : World) : Calls Tryd.prog 21 #[] w fun e w' => e = .returned (.bool true) ∧ Below w.heap.size w w' := by
  have HNW := Lib.hid (wst_new w (Below.refl _ w))
  go_enter Tryd.func21, Tryd.ntmps21
  go_wp2_with fail
  refine HNW.out.mono ?_
  rintro e w1 ⟨b, rfl, hW⟩
  have h1 := wst_serve hW [120] 0 64
  rw [show serveC [] [120] 0 64 = 0 by decide +kernel, ← mkS_lit [120]] at h1
  have H1 := Lib.hid h1
  clear hW h1 HNW
  go_wp2_with fail
  refine H1.out.mono ?_
  rintro e w2 ⟨rfl, hW⟩
  have h2 := wst_hold hW (by decide) [120] (by decide) 3 1
  rw [hold_x15.1, hold_x15.2, ← mkS_lit [120]] at h2
  have H2 := Lib.hid h2
  clear hW h2 H1
  go_wp2_with fail
  refine H2.out.mono ?_
  rintro e w3 ⟨rfl, hW⟩
  have h3 := wst_serve hW [120] 0 4
  rw [show serveC sx15 [120] 0 4 = 13 by decide +kernel, ← mkS_lit [120]] at h3
  have H3 := Lib.hid h3
  clear hW h3 H2
  go_wp2_with fail
  refine H3.out.mono ?_
  rintro e w4 ⟨rfl, hW⟩
  have h4 := wst_serve hW [120] 4 64
  rw [show serveC sx15 [120] 4 64 = 0 by decide +kernel, ← mkS_lit [120]] at h4
  have H4 := Lib.hid h4
  clear hW h4 H3
  go_wp2_with fail
  refine H4.out.mono ?_
  rintro e w5 ⟨rfl, hW⟩
  have HW := Lib.hid hW.2
  clear hW
  go_wp2
  go_ret
  exact ⟨rfl, HW.out⟩
end Go.Proofs.YtcgilacmdckbfaaDoor
