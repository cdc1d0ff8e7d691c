/- What stamps and versions records may have. -/
import Derived.Test.YtfemgkamgokjcaaGreatDoorCmp9
import Derived.Deep.RegionHeld3
set_option linter.unusedSimpArgs false
set_option maxRecDepth 100000
set_option linter.unusedVariables false
namespace Go.Proofs.YtfemgkamgokjcaaGreatDoor
open Go Go.RowKit

attribute [local go_sem ↓] exec_boxA exec_loadA exec_indexA exec_allocA exec_storeA exec_buildA exec_eqlA exec_neqA exec_boxV exec_loadV exec_indexV exec_allocV exec_storeV exec_buildV exec_eqlV exec_neqV
attribute [local go_sem] boxA indexA storeNewA buildA eqlA neqA boxV indexV storeNewV buildV eqlV neqV

/-- A stamp. -/
def stV (s t c : Int) : Value := .agg #[.int .i64 s, .int .i64 t, .int .i64 c]
def okS (s t c : Int) : Bool := decide (0 ≤ s) && (decide (s ≤ 16384) && (decide (0 ≤ t) && decide (0 ≤ c)))
def okV (f : Nat → Int) : Bool := gdV f && !(veq f fun _ => 0)
set_option maxRecDepth 100000 in
set_option maxHeartbeats 2000000 in
theorem stamp_any (s t c : Int) (w : World) : Calls Tryz.prog 85 #[stV s t c] w fun e w' => e = .returned (.bool (okS s t c)) ∧ Below w.heap.size w w' := by
  unfold stV okS
  have HB := Lib.hid (show Below w.heap.size w (w.alloc (.cells #[.int .i64 s, .int .i64 t, .int .i64 c] 30)) from (Below.refl _ _).alloc (Nat.le_refl _) _)
  go_enter Tryz.func85, Tryz.ntmps85
  by_cases h1 : 0 ≤ s
  · have d1 : decide (0 ≤ s) = true := decide_eq_true h1
    by_cases h2 : s ≤ 16384
    · have d2 : decide (s ≤ 16384) = true := decide_eq_true h2
      by_cases h3 : 0 ≤ t
      · have d3 : decide (0 ≤ t) = true := decide_eq_true h3
        by_cases h4 : 0 ≤ c
        · have d4 : decide (0 ≤ c) = true := decide_eq_true h4
          go_wp2
          go_ret
          exact ⟨by simp [h1, h2, h3, h4], HB.out⟩
        · have d4 : decide (0 ≤ c) = false := decide_eq_false h4
          go_wp2
          go_ret
          exact ⟨by simp [h1, h2, h3, h4], HB.out⟩
      · have d3 : decide (0 ≤ t) = false := decide_eq_false h3
        go_wp2
        go_ret
        exact ⟨by simp [h1, h2, h3], HB.out⟩
    · have d2 : decide (s ≤ 16384) = false := decide_eq_false h2
      go_wp2
      go_ret
      exact ⟨by simp [h1, h2], HB.out⟩
  · have d1 : decide (0 ≤ s) = false := decide_eq_false h1
    go_wp2
    go_ret
    exact ⟨by simp [h1], HB.out⟩
set_option maxRecDepth 100000 in
set_option maxHeartbeats 2000000 in
theorem version_any (f : Nat → Int) (w : World) : Calls Tryz.prog 86 #[vcV f] w fun e w' => e = .returned (.bool (okV f)) ∧ Below w.heap.size w w' := by
  have HG := Lib.hid (fun u => good9_any f u)
  obtain ⟨W, hW⟩ : ∃ W, w.alloc (.cells (tab 16 (vf f)) 31) = W := ⟨_, rfl⟩
  have HR := Lib.hid (show Row W w.heap.size 31 16 (vf f) from by rw [← hW]; exact Row.new w 31 16 (vf f))
  have HB := Lib.hid (show Below w.heap.size w W from by rw [← hW]; exact (Below.refl _ _).alloc (Nat.le_refl _) _)
  have HS := Lib.hid (fun (u : World) (hu : Below W.heap.size W u) => (⟨loadVT vtV (VecAt.of_row (HR.out.of_below hu) (Nat.le_refl _)), hu⟩ : (ldT 31 (.pointer (some ⟨w.heap.size, 0, none⟩))).run Tryz.prog u = .ok (.value (vcV f)) u ∧ Below W.heap.size W u))
  obtain ⟨g, hg⟩ : ∃ g, gdV f = g := ⟨_, rfl⟩
  have HOK := Lib.hid (show okV f = (g && !(veq f fun _ => 0)) from by unfold okV; rw [hg])
  rw [hg] at HG
  clear hg
  have l1 := (HS.out W (Below.refl _ _)).1
  go_enter Tryz.func86, Tryz.ntmps86
  go_wp2_with fail
  clear l1 hW
  refine (HG.out _).mono ?_
  rintro e u ⟨rfl, hB⟩
  have l2 := (HS.out u hB).1
  have HB2 := Lib.hid (HB.out.trans (hB.mono HB.out.size))
  clear hB
  cases g with
  | false =>
    go_wp2
    go_ret
    exact ⟨by rw [HOK.out]; rfl, HB2.out⟩
  | true =>
    go_wp2
    go_ret
    exact ⟨by rw [HOK.out]; rfl, HB2.out⟩
attribute [irreducible] stV
end Go.Proofs.YtfemgkamgokjcaaGreatDoor
