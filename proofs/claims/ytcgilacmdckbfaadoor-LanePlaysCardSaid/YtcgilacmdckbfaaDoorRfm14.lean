/- The document's lanes in memory; darnerref14.Find. -/
import Derived.Test.YtcgilacmdckbfaaDoorLst14
set_option linter.unusedSimpArgs false
set_option maxRecDepth 100000
set_option linter.unusedVariables false
namespace Go.Proofs.YtcgilacmdckbfaaDoor
open Go Go.RowKit

def rfC (x : Rf) : List Value := [.string (mkS x.path), .int .i64 (x.blocks : Int), .int .i64 (x.done : Int), .int .i64 x.last]
def rfsC (l : List Rf) : List Value := l.flatMap rfC
theorem rfsC_len (l : List Rf) : (rfsC l).length = l.length * 4 := by
  unfold rfsC
  induction l with
  | nil => rfl
  | cons f l ih => rw [List.flatMap_cons, List.length_append, ih]; simp [rfC]; omega
theorem rfsC_app (a b : List Rf) : rfsC (a ++ b) = rfsC a ++ rfsC b := by unfold rfsC; rw [List.flatMap_append]
theorem rfsC_one (f : Rf) : rfsC [f] = rfC f := by simp [rfsC]
theorem rfsC_get (l : List Rf) (i j : Nat) (hi : i < l.length) (hj : j < 4) : (rfsC l)[i * 4 + j]? = (rfC (l.getD i rf0))[j]? := by
  induction l generalizing i with
  | nil => simp at hi
  | cons f l ih =>
    unfold rfsC
    rw [List.flatMap_cons]
    cases i with
    | zero => rw [List.getElem?_append_left (by simp [rfC]; omega)]; simp
    | succ i =>
      rw [List.getElem?_append_right (by simp [rfC]; omega)]
      have : (i + 1) * 4 + j - (rfC f).length = i * 4 + j := by simp [rfC]; omega
      rw [this]
      exact ih i (by simpa using hi)
theorem rfsC_oneCell (l : List Rf) : ∀ u ∈ rfsC l, u.oneCell' = true := by
  intro u hu
  obtain ⟨f, -, hf⟩ := List.mem_flatMap.1 hu
  simp [rfC] at hf
  rcases hf with rfl | rfl | rfl | rfl <;> rfl
theorem rfsC_take (l : List Rf) (i : Nat) : (rfsC l).take (i * 4) = rfsC (l.take i) := by
  induction l generalizing i with
  | nil => simp [rfsC]
  | cons f l ih =>
    cases i with
    | zero => simp [rfsC]
    | succ i =>
      have h := ih i
      unfold rfsC at h ⊢
      rw [List.flatMap_cons, List.take_succ_cons, List.flatMap_cons, ← h]
      rw [show (i + 1) * 4 = (rfC f).length + i * 4 by simp [rfC]; omega, List.take_length_add_append]
theorem rfsC_drop (l : List Rf) (i : Nat) : (rfsC l).drop (i * 4) = rfsC (l.drop i) := by
  induction l generalizing i with
  | nil => simp [rfsC]
  | cons f l ih =>
    cases i with
    | zero => simp [rfsC]
    | succ i =>
      have h := ih i
      unfold rfsC at h ⊢
      rw [List.flatMap_cons, List.drop_succ_cons, ← h]
      rw [show (i + 1) * 4 = (rfC f).length + i * 4 by simp [rfC]; omega, List.drop_length_add_append]
abbrev TR : TypeId := 26
abbrev ER : TypeId := 72
def zR14 : Value := .agg #[.string ⟨#[]⟩, .int .i64 0, .int .i64 0, .int .i64 0]
theorem elR14 : ElK TR ER zR14 4 40 := ⟨by kernel_rfl, by kernel_rfl, rfl, by decide, by decide⟩
/-- The document's files where a slice begins. -/
def RLs (w : World) (p : Option Addr) (n cap : Nat) (M : List Rf) : Prop := M.length = n ∧ LsC w p (rfsC M) ∧ (p = none → cap = 0) ∧ n ≤ cap
theorem RLs.of_below {w w' : World} {p : Option Addr} {n cap : Nat} {M : List Rf} (h : RLs w p n cap M) (hB : Below w.heap.size w w') : RLs w' p n cap M := ⟨h.1, h.2.1.of_below hB, h.2.2⟩
theorem RLs.cells {w : World} {p : Option Addr} {n cap : Nat} {M : List Rf} (h : RLs w p n cap M) (i : Nat) (hi : i < n) : ∃ c o, p = some ⟨c, o, none⟩ ∧ ∀ j, j < 4 → w.cell? ⟨c, o + i * 4 + j, none⟩ = (rfC (M.getD i rf0))[j]? := by
  obtain ⟨c, o, e, -⟩ := h.2.1 (i * 4) (by rw [rfsC_len, h.1]; omega)
  refine ⟨c, o, e, fun j hj => ?_⟩
  obtain ⟨c', o', e', hc⟩ := h.2.1 (i * 4 + j) (by rw [rfsC_len, h.1]; omega)
  rw [e] at e'
  injection e' with e'
  injection e' with e1 e2
  subst e1 e2
  rw [Nat.add_assoc, hc, rfsC_get M i j (by rw [h.1]; exact hi) hj]
/-- A list that is what it was, or lies in new memory. -/
def NewL (w : World) (q q' : Option Addr) (n n' cap cap' : Nat) (M M' : List Rf) : Prop := (q' = q ∧ n' = n ∧ cap' = cap ∧ M' = M) ∨ ∀ c o, q' = some ⟨c, o, none⟩ → w.heap.size ≤ c
/-- What Find tells. -/
def FindR (M : List Rf) (p : S8) (r : Int) : Prop := (r = -1 ∧ ∀ x ∈ M, x.path ≠ p) ∨ ∃ i : Nat, r = (i : Int) ∧ i < M.length ∧ (M.getD i rf0).path = p
set_option maxHeartbeats 4000000 in
theorem refFind_any {w : World} {q : Option Addr} {n cap : Nat} {M : List Rf} (ck : Int) (p : S8) (h : RLs w q n cap M) (hn : n < 100000000) :
    Calls Tryd.prog 28 #[.agg #[.slice q n cap, .int .i64 ck], .string (mkS p)] w fun e w' => ∃ r, e = .returned (.int .i64 r) ∧ FindR M p r ∧ Below w.heap.size w w' := by
  have HL := Lib.hid (fun u (hu : Below w.heap.size w u) => h.of_below hu)
  have HN := Lib.hid h.1
  obtain ⟨bx, hbx⟩ : ∃ b, w.heap.size = b := ⟨_, rfl⟩
  obtain ⟨W1, hW1⟩ : ∃ W, w.alloc (.cells #[.slice q n cap, .int .i64 ck] 28) = W := ⟨_, rfl⟩
  have hB1 : Below w.heap.size w W1 := by rw [← hW1]; exact (Below.refl _ w).alloc (Nat.le_refl _) _
  have hc1 : W1.cell? ⟨bx, 0, none⟩ = some (.slice q n cap) := by rw [← hW1, ← hbx]; unfold World.cell?; rw [World.alloc_heap_new]; simp
  have hl1 : bx < W1.heap.size := by rw [← hW1, ← hbx]; simp
  have HC := Lib.hid (fun u (hu : Below W1.heap.size W1 u) => (show u.cell? ⟨bx, 0, none⟩ = some (.slice q n cap) from by rw [hu.cell (by exact hl1)]; exact hc1))
  have HB1 := Lib.hid hB1
  have HW1 := Lib.hid (And.intro hW1 hbx)
  clear h hc1 hB1 hW1 hbx
  go_enter Tryd.func28, Tryd.ntmps28
  go_wp2
  rw [HW1.out.1, HW1.out.2]
  go_loopw [9] (fun v9 wr => ∃ k : Nat, k ≤ n ∧ v9 = .int .i64 (k : Int) ∧ (∀ i, i < k → (M.getD i rf0).path ≠ p) ∧ W1 = wr) (fun v9 _ => n - (intOf v9).toNat)
  case atStart => exact ⟨0, Nat.zero_le _, rfl, (fun i hi => by omega), rfl⟩
  case round =>
    rename World => wa
    obtain ⟨k, hk, rfl, hF, rfl⟩ := hrel
    have HF := Lib.hid hF
    have c0 := HC.out W1 (Below.refl _ _)
    by_cases hlt : k < n
    · have y1 : (k : Int) < (n : Int) := by omega
      have y2 : decide ((k : Int) < (n : Int)) = true := decide_eq_true y1
      have hw6 : IntKind.i64.wrap ((k : Int) + 1) = (k : Int) + 1 := by rw [IntKind.wrap_i64]; omega
      obtain ⟨c, o, rfl, hc⟩ := (HL.out W1 HB1.out).cells k hlt
      have x0 := hc 0 (by decide)
      obtain ⟨x, hx⟩ : ∃ x, M.getD k rf0 = x := ⟨_, rfl⟩
      rw [hx] at x0
      change _ = some (Value.string (mkS x.path)) at x0
      rw [Nat.add_zero] at x0
      have hcmp : ((mkS x.path).toList == (mkS p).toList) = decide (x.path = p) := by
        rw [mkS_toList, mkS_toList]
        by_cases h : x.path = p
        · simp [h]
        · simp [h]
      have HX := Lib.hid hx
      generalize mkS x.path = X at x0 hcmp
      generalize mkS p = Y at hcmp
      clear hF hc hx
      by_cases hp : x.path = p
      · rw [decide_eq_true hp] at hcmp
        go_wp2
        go_ret
        exact ⟨(k : Int), rfl, .inr ⟨k, rfl, by rw [HN.out]; exact hlt, by rw [HX.out]; exact hp⟩, HB1.out⟩
      · rw [decide_eq_false hp] at hcmp
        go_wp2
        refine ⟨⟨k + 1, by omega, by go_num, fun i hi => ?_, trivial⟩, by simp [intOf]; omega⟩
        rcases Nat.lt_succ_iff_lt_or_eq.1 hi with h1 | rfl
        · exact HF.out i h1
        · rw [HX.out]; exact hp
    · have y1 : ¬ (k : Int) < (n : Int) := by omega
      have y2 : decide ((k : Int) < (n : Int)) = false := decide_eq_false y1
      have hkn : k = n := by omega
      clear hF
      go_wp2
      go_ret
      refine ⟨-1, rfl, .inl ⟨rfl, fun x hx => ?_⟩, HB1.out⟩
      obtain ⟨i, hi, rfl⟩ := List.getElem_of_mem hx
      have := HF.out i (by rw [hkn, ← HN.out]; exact hi)
      rw [List.getD_eq_getElem?_getD, List.getElem?_eq_getElem hi] at this
      exact this
end Go.Proofs.YtcgilacmdckbfaaDoor
