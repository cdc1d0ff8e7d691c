/- What two vectors are to one another. -/
import Derived.Test.YtfemgkamgokjcaaGreatDoorVec9
import Derived.Lib.Hide
import Derived.BigQuiet
set_option linter.unusedSimpArgs false
set_option maxRecDepth 100000
set_option linter.unusedVariables false
namespace Go.Proofs.YtfemgkamgokjcaaGreatDoor
open Go Go.RowKit

/-- None of g's numbers is greater. -/
def cvV (f g : Nat → Int) : Bool := (List.range 16).all fun i => decide (g i ≤ f i)
def gdV (f : Nat → Int) : Bool := (List.range 16).all fun i => decide (0 ≤ f i ∧ f i ≤ 1099511627776)
def cmpV (f g : Nat → Int) : Int := if veq f g then 0 else if cvV g f then -1 else if cvV f g then 1 else 2
def mxV (f g : Nat → Int) : Nat → Int := fun i => max (f i) (g i)
theorem cvV_iff {f g : Nat → Int} : cvV f g = true ↔ ∀ i, i < 16 → g i ≤ f i := by unfold cvV; simp [List.all_eq_true]
theorem gdV_iff {f : Nat → Int} : gdV f = true ↔ ∀ i, i < 16 → 0 ≤ f i ∧ f i ≤ 1099511627776 := by unfold gdV; simp [List.all_eq_true]
theorem cvV_no {f g : Nat → Int} {k : Nat} (hk : k < 16) (h : f k < g k) : cvV f g = false := by
  cases e : cvV f g with
  | false => rfl
  | true => have := cvV_iff.1 e k hk; omega
theorem gdV_no {f : Nat → Int} {k : Nat} (hk : k < 16) (h : f k < 0 ∨ 1099511627776 < f k) : gdV f = false := by
  cases e : gdV f with
  | false => rfl
  | true => have := gdV_iff.1 e k hk; omega
theorem veq_cv (f g : Nat → Int) : veq f g = (cvV f g && cvV g f) := by
  rw [Bool.eq_iff_iff, Bool.and_eq_true, veq_iff, cvV_iff, cvV_iff]
  constructor
  · exact fun h => ⟨fun i hi => by rw [h i hi]; exact Int.le_refl _, fun i hi => by rw [h i hi]; exact Int.le_refl _⟩
  · exact fun h i hi => Int.le_antisymm (h.2 i hi) (h.1 i hi)
theorem i64v (k : Nat) (h : k < 16) : IntKind.i64.wrap ((k : Int) + 1) = (k : Int) + 1 := by rw [IntKind.wrap_i64]; omega
theorem twoRows (w : World) (T : TypeId) (f g : Nat → Value) (n : Nat) : Row ((w.alloc (.cells (tab n f) T)).alloc (.cells (tab n g) T)) w.heap.size T n f ∧ Row ((w.alloc (.cells (tab n f) T)).alloc (.cells (tab n g) T)) (w.heap.size + 1) T n g ∧ Below w.heap.size w ((w.alloc (.cells (tab n f) T)).alloc (.cells (tab n g) T)) := by
  refine ⟨(Row.new w T n f).of_below ((Below.refl _ _).alloc (Nat.le_refl _) _), ?_, ((Below.refl _ _).alloc (Nat.le_refl _) _).alloc (by rw [World.size_alloc]; exact Nat.le_succ _) _⟩
  have := Row.new (w.alloc (.cells (tab n f) T)) T n g
  rw [World.size_alloc] at this
  exact this
attribute [local go_sem ↓] exec_boxA exec_loadA exec_indexA exec_allocA exec_storeA exec_buildA exec_eqlA exec_neqA exec_boxV exec_loadV exec_indexV exec_allocV exec_storeV exec_buildV exec_eqlV exec_neqV
attribute [local go_sem] boxA indexA storeNewA buildA eqlA neqA boxV indexV storeNewV buildV eqlV neqV
set_option maxRecDepth 100000 in
set_option maxHeartbeats 2000000 in
theorem good9_any (f : Nat → Int) (w : World) : Calls Tryz.prog 123 #[vcV f] w fun e w' => e = .returned (.bool (gdV f)) ∧ Below w.heap.size w w' := by
  have r1 := Row.new w 31 16 (vf f)
  have HS := Lib.hid (show Row (w.alloc (.cells (tab 16 (vf f)) 31)) w.heap.size 31 16 (vf f) ∧ Below w.heap.size w (w.alloc (.cells (tab 16 (vf f)) 31)) from ⟨r1, (Below.refl _ _).alloc (Nat.le_refl _) _⟩)
  have l1 := loadVT vtV (VecAt.of_row r1 (Nat.le_refl _))
  clear r1
  go_enter Tryz.func123, Tryz.ntmps123
  go_wp2
  clear l1
  go_loopw [6] (fun i wr => ∃ k : Nat, k ≤ 16 ∧ i = .int .i64 k ∧ (∀ j, j < k → 0 ≤ f j ∧ f j ≤ 1099511627776) ∧ Row wr w.heap.size 31 16 (vf f) ∧ Below w.heap.size w wr) (fun i _ => 16 - (intOf i).toNat)
  case atStart => exact ⟨0, Nat.zero_le _, rfl, fun j hj => absurd hj (by omega), HS.out.1, HS.out.2⟩
  case round =>
    clear HS
    obtain ⟨k, hk, rfl, hall, hR1, hB⟩ := hrel
    have HB := Lib.hid hB
    have HALL := Lib.hid hall
    have HR1 := Lib.hid hR1
    clear hB hall
    by_cases h16 : k < 16
    · have z1 : (k : Int) < 16 := by omega
      have z2 : decide ((k : Int) < 16) = true := decide_eq_true z1
      have hw := i64v k h16
      clear hR1
      by_cases h0 : f k < 0
      · have t1 : decide (f k < 0) = true := decide_eq_true h0
        have HRES := Lib.hid (gdV_no h16 (.inl h0))
        go_wp2
        go_ret
        exact ⟨by rw [HRES.out]; rfl, HB.out⟩
      · have t1 : decide (f k < 0) = false := decide_eq_false h0
        by_cases h1 : 1099511627776 < f k
        · have t2 : decide (1099511627776 < f k) = true := decide_eq_true h1
          have HRES := Lib.hid (gdV_no h16 (.inr h1))
          go_wp2
          go_ret
          exact ⟨by rw [HRES.out]; rfl, HB.out⟩
        · have t2 : decide (1099511627776 < f k) = false := decide_eq_false h1
          have HLT := Lib.hid (show 0 ≤ f k ∧ f k ≤ 1099511627776 by omega)
          go_wp2
          go_roundw
          case rel => exact ⟨k + 1, by omega, by go_num, fun j hj => by
            by_cases e : j = k
            · subst e; exact HLT.out
            · exact HALL.out j (by omega), HR1.out, HB.out⟩
          case measure => simp [intOf]; omega
    · have z1 : ¬ (k : Int) < 16 := by omega
      have z2 : decide ((k : Int) < 16) = false := decide_eq_false z1
      have hres : gdV f = true := gdV_iff.2 fun i hi => HALL.out i (by omega)
      have HRES := Lib.hid hres
      clear hR1 hres
      go_wp2
      go_ret
      exact ⟨by rw [HRES.out]; rfl, HB.out⟩
set_option maxRecDepth 100000 in
set_option maxHeartbeats 2000000 in
theorem refGood9_any (f : Nat → Int) (w : World) : Calls Tryz.prog 43 #[vcV f] w fun e w' => e = .returned (.bool (gdV f)) ∧ Below w.heap.size w w' := by
  have r1 := Row.new w 22 16 (vf f)
  have HS := Lib.hid (show Row (w.alloc (.cells (tab 16 (vf f)) 22)) w.heap.size 22 16 (vf f) ∧ Below w.heap.size w (w.alloc (.cells (tab 16 (vf f)) 22)) from ⟨r1, (Below.refl _ _).alloc (Nat.le_refl _) _⟩)
  clear r1
  go_enter Tryz.func43, Tryz.ntmps43
  go_wp2
  go_loopw [4] (fun i wr => ∃ k : Nat, k ≤ 16 ∧ i = .int .i64 k ∧ (∀ j, j < k → 0 ≤ f j ∧ f j ≤ 1099511627776) ∧ Row wr w.heap.size 22 16 (vf f) ∧ Below w.heap.size w wr) (fun i _ => 16 - (intOf i).toNat)
  case atStart => exact ⟨0, Nat.zero_le _, rfl, fun j hj => absurd hj (by omega), HS.out.1, HS.out.2⟩
  case round =>
    clear HS
    obtain ⟨k, hk, rfl, hall, hR1, hB⟩ := hrel
    have HB := Lib.hid hB
    have HALL := Lib.hid hall
    have HR1 := Lib.hid hR1
    clear hB hall
    by_cases h16 : k < 16
    · have z1 : (k : Int) < 16 := by omega
      have z2 : decide ((k : Int) < 16) = true := decide_eq_true z1
      have hw := i64v k h16
      have x1 : wr.cell? ⟨w.heap.size, k, none⟩ = some (.int .i64 (f k)) := hR1.cell k h16
      clear hR1
      by_cases h0 : f k < 0
      · have t1 : decide (f k < 0) = true := decide_eq_true h0
        have HRES := Lib.hid (gdV_no h16 (.inl h0))
        go_wp2
        go_ret
        exact ⟨by rw [HRES.out]; rfl, HB.out⟩
      · have t1 : decide (f k < 0) = false := decide_eq_false h0
        by_cases h1 : 1099511627776 < f k
        · have t2 : decide (1099511627776 < f k) = true := decide_eq_true h1
          have HRES := Lib.hid (gdV_no h16 (.inr h1))
          go_wp2
          go_ret
          exact ⟨by rw [HRES.out]; rfl, HB.out⟩
        · have t2 : decide (1099511627776 < f k) = false := decide_eq_false h1
          have HLT := Lib.hid (show 0 ≤ f k ∧ f k ≤ 1099511627776 by omega)
          go_wp2
          go_roundw
          case rel => exact ⟨k + 1, by omega, by go_num, fun j hj => by
            by_cases e : j = k
            · subst e; exact HLT.out
            · exact HALL.out j (by omega), HR1.out, HB.out⟩
          case measure => simp [intOf]; omega
    · have z1 : ¬ (k : Int) < 16 := by omega
      have z2 : decide ((k : Int) < 16) = false := decide_eq_false z1
      have hres : gdV f = true := gdV_iff.2 fun i hi => HALL.out i (by omega)
      have HRES := Lib.hid hres
      clear hR1 hres
      go_wp2
      go_ret
      exact ⟨by rw [HRES.out]; rfl, HB.out⟩
end Go.Proofs.YtfemgkamgokjcaaGreatDoor
