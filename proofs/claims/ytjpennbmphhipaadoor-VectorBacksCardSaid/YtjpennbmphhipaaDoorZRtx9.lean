/- Text of the reference. -/
import Derived.Test.YtjpennbmphhipaaDoorK2
set_option linter.unusedSimpArgs false
set_option maxRecDepth 100000
set_option linter.unusedVariables false
namespace Go.Proofs.YtjpennbmphhipaaDoor
open Go Go.RowKit

def sepL (s : S8) : S8 := if s = [] then [] else cat s [32]
/-- The text of the first replicas' numbers. -/
def txtR (f : Nat → Int) : Nat → S8
  | 0 => []
  | i + 1 => if f i = 0 then txtR f i else cat (cat (cat (sepL (txtR f i)) (decL i)) [58]) (decL (f i).toNat)
theorem txtR_zero {f : Nat → Int} {i : Nat} (h : f i = 0) : txtR f (i + 1) = txtR f i := by rw [txtR, if_pos h]
theorem txtR_one {f : Nat → Int} {i : Nat} (h : f i ≠ 0) : txtR f (i + 1) = cat (cat (cat (sepL (txtR f i)) (decL i)) [58]) (decL (f i).toNat) := by rw [txtR, if_neg h]
theorem joinL_nil {l : List S8} (h : ∀ x ∈ l, x ≠ []) : joinL l = [] ↔ l = [] := by
  cases l with
  | nil => exact ⟨fun _ => rfl, fun _ => rfl⟩
  | cons x r =>
    refine ⟨fun e => ?_, fun e => by cases e⟩
    have := List.append_eq_nil_iff.1 (show x ++ _ = [] from e)
    exact absurd this.1 (h x (List.mem_cons_self ..))
theorem txt_join (f : Nat → Int) : ∀ i, txtR f i = joinL ((nzV f i).map (partL f))
  | 0 => rfl
  | i + 1 => by
    have ih := txt_join f i
    by_cases h : f i = 0
    · rw [txtR_zero h, nzV_zero h, ih]
    · rw [txtR_one h, nzV_one h, List.map_append, List.map_cons, List.map_nil]
      have hne : ∀ x ∈ (nzV f i).map (partL f), x ≠ [] := fun x hx => by
        obtain ⟨j, _, rfl⟩ := List.mem_map.1 hx
        exact partL_ne f j
      by_cases h0 : (nzV f i).map (partL f) = []
      · have : txtR f i = [] := by rw [ih, h0]; rfl
        rw [this, h0]
        show cat (cat (cat (sepL []) (decL i)) [58]) (decL (f i).toNat) = partL f i ++ []
        rw [List.append_nil]
        unfold partL sepL
        rw [if_pos rfl]
        simp only [cat_eq, List.nil_append]
      · rw [joinL_snoc _ _ h0, ← ih]
        have : txtR f i ≠ [] := fun e => h0 ((joinL_nil hne).1 (by rw [← ih]; exact e))
        unfold sepL partL
        rw [if_neg this]
        simp only [cat_eq, List.append_assoc]
        rfl
theorem sepL_len (s : S8) : (sepL s).length ≤ s.length + 1 := by
  unfold sepL
  split
  · simp
  · rw [cat_len]; exact Nat.le_refl _
theorem txtR_len {f : Nat → Int} (h : ∀ i, i < 16 → 0 ≤ f i ∧ f i ≤ 1099511627776) : ∀ i, i ≤ 16 → (txtR f i).length ≤ 31 * i
  | 0, _ => Nat.le_refl _
  | i + 1, hi => by
    have ih := txtR_len h i (by omega)
    by_cases h0 : f i = 0
    · rw [txtR_zero h0]; omega
    · rw [txtR_one h0, cat_len, cat_len, cat_len]
      have h1 := sepL_len (txtR f i)
      have h2 := decL_len13 (n := i) (by omega)
      have h3 := decL_len13 (n := (f i).toNat) (by have := h i (by omega); omega)
      simp; omega
attribute [local go_sem ↓] exec_boxA exec_loadA exec_indexA exec_allocA exec_storeA exec_buildA exec_eqlA exec_neqA exec_boxV exec_loadV exec_indexV exec_allocV exec_storeV exec_buildV exec_eqlV exec_neqV
attribute [local go_sem] boxA indexA storeNewA buildA eqlA neqA boxV indexV storeNewV buildV eqlV neqV
set_option maxRecDepth 100000 in
set_option maxHeartbeats 4000000 in
theorem refText9_any (f : Nat → Int) (hf : ∀ i, i < 16 → 0 ≤ f i ∧ f i ≤ 1099511627776) (w : World) : Calls Tryd.prog 15 #[vcV f] w fun e w' => e = .returned (.string (mkS (txtR f 16))) ∧ Below w.heap.size w w' := by
  have HST := Lib.hid (show Row (w.alloc (.cells (tab 16 (vf f)) 22)) w.heap.size 22 16 (vf f) ∧ Below w.heap.size w (w.alloc (.cells (tab 16 (vf f)) 22)) from ⟨Row.new w 22 16 (vf f), below_newZ _ _⟩)
  have HGF := Lib.hid hf
  have h00 : (⟨#[]⟩ : ByteArray) = mkS (txtR f 0) := mkS_lit []
  clear hf
  go_enter Tryd.func15, Tryd.ntmps15
  go_wp2
  go_loopw [3, 5] (fun ss si wr => ∃ i : Nat, i ≤ 16 ∧ si = .int .i64 (i : Int) ∧ ss = .string (mkS (txtR f i)) ∧ Row wr w.heap.size 22 16 (vf f) ∧ Below w.heap.size w wr) (fun ss si _ => 16 - (intOf si).toNat)
  case atStart => exact ⟨0, Nat.zero_le _, rfl, by rw [← h00], HST.out.1, HST.out.2⟩
  case round =>
    clear h00
    obtain ⟨i, hi, rfl, rfl, hR, hB⟩ := hrel
    have HBW := Lib.hid hB
    have HRW := Lib.hid hR
    clear hB HST
    by_cases h16 : i < 16
    · have z1 : (i : Int) < 16 := by omega
      have z2 : decide ((i : Int) < 16) = true := decide_eq_true z1
      have hw := i64v i h16
      have x1 : wr.cell? ⟨w.heap.size, i, none⟩ = some (.int .i64 (f i)) := hR.cell i h16
      have hfi := HGF.out i h16
      by_cases h0 : f i = 0
      · have HTX := Lib.hid (txtR_zero h0)
        rw [h0] at x1
        clear hR hfi h0
        go_wp2
        go_roundw
        case rel => exact ⟨i + 1, by omega, by go_num, by rw [HTX.out], HRW.out, HBW.out⟩
        case measure => simp [intOf]; omega
      · have htx := txtR_one h0
        have htl := txtR_len HGF.out i hi
        obtain ⟨m, hm⟩ : ∃ m : Nat, f i = (m : Int) := ⟨(f i).toNat, by omega⟩
        rw [hm] at x1 h0 hfi
        rw [hm, Int.toNat_natCast] at htx
        have d1 : ((m : Int) == 0) = false := by rw [beq_eq_false_iff_ne]; exact h0
        have d2 : ¬ (m : Int) = 0 := h0
        have hm40 : m ≤ 1099511627776 := by omega
        have hl1 := decL_len13 (n := i) (by omega)
        have hl2 := decL_len13 hm40
        have HD1 := Lib.hid (fun u => refDecimal_any i (by omega) u)
        have HD2 := Lib.hid (fun u => refDecimal_any m (by omega) u)
        obtain ⟨s, hs⟩ : ∃ s, txtR f i = s := ⟨_, rfl⟩
        rw [hs] at htx htl ⊢
        have HSS := Lib.hid (fun (u : World) (hu : Below wr.heap.size wr u) => (⟨by rw [hu.cell (by exact hR.lt)]; exact x1, hu⟩ : u.cell? ⟨w.heap.size, i, none⟩ = some (.int .i64 (m : Int)) ∧ Below wr.heap.size wr u))
        have key : ∀ s' : S8, sepL s = s' → s'.length ≤ 500 ∧ (∀ u : World, (Op.stringOp .add (mkS s') (mkS (decL i))).run Tryd.prog u = .ok (.string (mkS (cat s' (decL i)))) u) ∧ (∀ u : World, (Op.stringOp .add (mkS (cat s' (decL i))) ⟨#[58]⟩).run Tryd.prog u = .ok (.string (mkS (cat (cat s' (decL i)) [58]))) u) ∧ (∀ u : World, (Op.stringOp .add (mkS (cat (cat s' (decL i)) [58])) (mkS (decL m))).run Tryd.prog u = .ok (.string (mkS (cat (cat (cat s' (decL i)) [58]) (decL m)))) u) := fun s' e => by
          have := sepL_len s
          rw [e] at this
          exact ⟨by omega, fun u => add_S _ _ u (fit (by omega)), fun u => add_SL _ [58] u (fit (by rw [cat_len]; simp; omega)), fun u => add_S _ _ u (fit (by rw [cat_len, cat_len]; simp; omega))⟩
        have KEY := Lib.hid key
        by_cases hse : s = []
        · subst hse
          have hsp : sepL [] = [] := if_pos rfl
          obtain ⟨-, ha1, ha2, ha3⟩ := KEY.out [] hsp
          rw [hsp] at htx
          have HTX := Lib.hid htx
          have hnil : mkS [] = ⟨#[]⟩ := (mkS_lit []).symm
          rw [hnil] at ha1 ⊢
          clear hR hfi h0 hm hm40 htx hs hsp hnil key htl
          go_wp2
          refine wp_region_noPanic ?_
          refine wp_region_held_drew (S := (fun u : World => u.cell? ⟨w.heap.size, i, none⟩ = some (.int .i64 (m : Int)) ∧ Below wr.heap.size wr u)) (by kernel_rfl) (HSS.out _ (Below.refl _ _).drew) (fun hHeld => ?_)
          refine wpAnyH_take (i := 0) (v := ?_) (by simp only [List.getElem?_toArray, List.getElem?_cons_succ, List.getElem?_cons_zero]; exact rfl) (by kernel_rfl) (by kernel_rfl) (by kernel_rfl) (fun _ _ _ h => h) (Or.inl ⟨by rfl, ?_⟩) (by assumption) ?_
          rotate_left 1
          · (intro w hSw; (try dsimp only at hSw); go_simp; try with_reducible rfl)
          try simp only [Act.put, List.setIfInBounds_toArray, List.set_cons_zero, List.set_cons_succ]
          refine wpAnyH_take (i := 1) (v := ?_) (by simp only [List.getElem?_toArray, List.getElem?_cons_succ, List.getElem?_cons_zero]; exact rfl) (by kernel_rfl) (by kernel_rfl) (by kernel_rfl) (fun _ _ _ h => h) (Or.inl ⟨by rfl, ?_⟩) (by assumption) ?_
          rotate_left 1
          · (intro w hSw; (try dsimp only at hSw); go_simp; try with_reducible rfl)
          try simp only [Act.put, List.setIfInBounds_toArray, List.set_cons_zero, List.set_cons_succ]
          refine wpAnyH_take (i := 5) (v := ?_) (by simp only [List.getElem?_toArray, List.getElem?_cons_succ, List.getElem?_cons_zero]; exact rfl) (by kernel_rfl) (by kernel_rfl) (by kernel_rfl) (fun _ _ _ h => h) (Or.inl ⟨by rfl, ?_⟩) (by assumption) ?_
          rotate_left 1
          · (intro w hSw; (try dsimp only at hSw); go_simp; try with_reducible rfl)
          try simp only [Act.put, List.setIfInBounds_toArray, List.set_cons_zero, List.set_cons_succ]
          refine wpAnyH_take (i := 6) (v := ?_) (by simp only [List.getElem?_toArray, List.getElem?_cons_succ, List.getElem?_cons_zero]; exact rfl) (by kernel_rfl) (by kernel_rfl) (by kernel_rfl) (fun _ _ _ h => h) (Or.inl ⟨by rfl, ?_⟩) (by assumption) ?_
          rotate_left 1
          · (intro w hSw; (try dsimp only at hSw); go_simp; try with_reducible rfl)
          try simp only [Act.put, List.setIfInBounds_toArray, List.set_cons_zero, List.set_cons_succ]
          refine wpAnyH_take (i := 7) (v := ?_) (by simp only [List.getElem?_toArray, List.getElem?_cons_succ, List.getElem?_cons_zero]; exact rfl) (by kernel_rfl) (by kernel_rfl) (by kernel_rfl) (fun _ _ _ h => h) (Or.inl ⟨by rfl, ?_⟩) (by assumption) ?_
          rotate_left 1
          · (intro w hSw; (try dsimp only at hSw); go_simp; try with_reducible rfl)
          try simp only [Act.put, List.setIfInBounds_toArray, List.set_cons_zero, List.set_cons_succ]
          refine wpAnyH_ready (rs := [2]) (by kernel_rfl) (by simp) ?_
          refine (AllReadyH.cons (by simp only [List.getElem?_toArray, List.getElem?_cons_succ, List.getElem?_cons_zero]; exact rfl) (fun K hK => ?_) AllReadyH.nil)
          go_simp
          refine (HD1.out _).mono ?_
          rintro e vW ⟨rfl, hB⟩
          go_wp2_with fail
          refine hK.out _ _ (HSS.out _ (hHeld.2.trans (hB.mono hHeld.2.size))) (fun hHeld => ?_)
          clear hK K
          try simp only [Act.put, List.setIfInBounds_toArray, List.set_cons_zero, List.set_cons_succ]
          refine wpAnyH_take (i := 3) (v := ?_) (by simp only [List.getElem?_toArray, List.getElem?_cons_succ, List.getElem?_cons_zero]; exact rfl) (by kernel_rfl) (by kernel_rfl) (by kernel_rfl) (fun _ _ _ h => h) (Or.inl ⟨by rfl, ?_⟩) (by assumption) ?_
          rotate_left 1
          · (intro w hSw; (try dsimp only at hSw); go_simp; try with_reducible rfl)
          try simp only [Act.put, List.setIfInBounds_toArray, List.set_cons_zero, List.set_cons_succ]
          refine wpAnyH_take (i := 4) (v := ?_) (by simp only [List.getElem?_toArray, List.getElem?_cons_succ, List.getElem?_cons_zero]; exact rfl) (by kernel_rfl) (by kernel_rfl) (by kernel_rfl) (fun _ _ _ h => h) (Or.inl ⟨by rfl, ?_⟩) (by assumption) ?_
          rotate_left 1
          · (intro w hSw; (try dsimp only at hSw); go_simp; try with_reducible rfl)
          try simp only [Act.put, List.setIfInBounds_toArray, List.set_cons_zero, List.set_cons_succ]
          refine wpAnyH_ready (rs := [8]) (by kernel_rfl) (by simp) ?_
          refine (AllReadyH.cons (by simp only [List.getElem?_toArray, List.getElem?_cons_succ, List.getElem?_cons_zero]; exact rfl) (fun K hK => ?_) AllReadyH.nil)
          go_simp
          refine (HD2.out _).mono ?_
          rintro e vW ⟨rfl, hB⟩
          go_wp2_with fail
          refine hK.out _ _ (HSS.out _ (hHeld.2.trans (hB.mono hHeld.2.size))) (fun hHeld => ?_)
          clear hK K
          try simp only [Act.put, List.setIfInBounds_toArray, List.set_cons_zero, List.set_cons_succ]
          refine wpAnyH_take (i := 9) (v := ?_) (by simp only [List.getElem?_toArray, List.getElem?_cons_succ, List.getElem?_cons_zero]; exact rfl) (by kernel_rfl) (by kernel_rfl) (by kernel_rfl) (fun _ _ _ h => h) (Or.inl ⟨by rfl, ?_⟩) (by assumption) ?_
          rotate_left 1
          · (intro w hSw; (try dsimp only at hSw); go_simp; try with_reducible rfl)
          try simp only [Act.put, List.setIfInBounds_toArray, List.set_cons_zero, List.set_cons_succ]
          refine wpAnyH_take (i := 10) (v := ?_) (by simp only [List.getElem?_toArray, List.getElem?_cons_succ, List.getElem?_cons_zero]; exact rfl) (by kernel_rfl) (by kernel_rfl) (by kernel_rfl) (fun _ _ _ h => h) (Or.inl ⟨by rfl, ?_⟩) (by assumption) ?_
          rotate_left 1
          · (intro w hSw; (try dsimp only at hSw); go_simp; try with_reducible rfl)
          try simp only [Act.put, List.setIfInBounds_toArray, List.set_cons_zero, List.set_cons_succ]
          refine wpAnyH_done (by kernel_rfl) ?_ _
          refine NoPanic.normal ?_
          go_wp2
          go_roundw
          case rel => exact ⟨i + 1, by omega, by go_num, by rw [HTX.out], HRW.out.of_below hHeld.2, HBW.out.trans (hHeld.2.mono HBW.out.size)⟩
          case measure => simp [intOf]; omega
        · have hsp : sepL s = cat s [32] := if_neg hse
          obtain ⟨-, ha1, ha2, ha3⟩ := KEY.out (cat s [32]) hsp
          have ha0 : ∀ u : World, (Op.stringOp .add (mkS s) ⟨#[32]⟩).run Tryd.prog u = .ok (.string (mkS (cat s [32]))) u := fun u => add_SL s [32] u (fit (by simp; omega))
          rw [hsp] at htx
          have HTX := Lib.hid htx
          have hne : s.isEmpty = false := by cases s with
            | nil => exact absurd rfl hse
            | cons => rfl
          clear hR hfi h0 hm hm40 htx hs hsp key htl
          go_wp2
          refine wp_region_noPanic ?_
          refine wp_region_held_drew (S := (fun u : World => u.cell? ⟨w.heap.size, i, none⟩ = some (.int .i64 (m : Int)) ∧ Below wr.heap.size wr u)) (by kernel_rfl) (HSS.out _ (Below.refl _ _).drew) (fun hHeld => ?_)
          refine wpAnyH_take (i := 0) (v := ?_) (by simp only [List.getElem?_toArray, List.getElem?_cons_succ, List.getElem?_cons_zero]; exact rfl) (by kernel_rfl) (by kernel_rfl) (by kernel_rfl) (fun _ _ _ h => h) (Or.inl ⟨by rfl, ?_⟩) (by assumption) ?_
          rotate_left 1
          · (intro w hSw; (try dsimp only at hSw); go_simp; try with_reducible rfl)
          try simp only [Act.put, List.setIfInBounds_toArray, List.set_cons_zero, List.set_cons_succ]
          refine wpAnyH_take (i := 1) (v := ?_) (by simp only [List.getElem?_toArray, List.getElem?_cons_succ, List.getElem?_cons_zero]; exact rfl) (by kernel_rfl) (by kernel_rfl) (by kernel_rfl) (fun _ _ _ h => h) (Or.inl ⟨by rfl, ?_⟩) (by assumption) ?_
          rotate_left 1
          · (intro w hSw; (try dsimp only at hSw); go_simp; try with_reducible rfl)
          try simp only [Act.put, List.setIfInBounds_toArray, List.set_cons_zero, List.set_cons_succ]
          refine wpAnyH_take (i := 5) (v := ?_) (by simp only [List.getElem?_toArray, List.getElem?_cons_succ, List.getElem?_cons_zero]; exact rfl) (by kernel_rfl) (by kernel_rfl) (by kernel_rfl) (fun _ _ _ h => h) (Or.inl ⟨by rfl, ?_⟩) (by assumption) ?_
          rotate_left 1
          · (intro w hSw; (try dsimp only at hSw); go_simp; try with_reducible rfl)
          try simp only [Act.put, List.setIfInBounds_toArray, List.set_cons_zero, List.set_cons_succ]
          refine wpAnyH_take (i := 6) (v := ?_) (by simp only [List.getElem?_toArray, List.getElem?_cons_succ, List.getElem?_cons_zero]; exact rfl) (by kernel_rfl) (by kernel_rfl) (by kernel_rfl) (fun _ _ _ h => h) (Or.inl ⟨by rfl, ?_⟩) (by assumption) ?_
          rotate_left 1
          · (intro w hSw; (try dsimp only at hSw); go_simp; try with_reducible rfl)
          try simp only [Act.put, List.setIfInBounds_toArray, List.set_cons_zero, List.set_cons_succ]
          refine wpAnyH_take (i := 7) (v := ?_) (by simp only [List.getElem?_toArray, List.getElem?_cons_succ, List.getElem?_cons_zero]; exact rfl) (by kernel_rfl) (by kernel_rfl) (by kernel_rfl) (fun _ _ _ h => h) (Or.inl ⟨by rfl, ?_⟩) (by assumption) ?_
          rotate_left 1
          · (intro w hSw; (try dsimp only at hSw); go_simp; try with_reducible rfl)
          try simp only [Act.put, List.setIfInBounds_toArray, List.set_cons_zero, List.set_cons_succ]
          refine wpAnyH_ready (rs := [2]) (by kernel_rfl) (by simp) ?_
          refine (AllReadyH.cons (by simp only [List.getElem?_toArray, List.getElem?_cons_succ, List.getElem?_cons_zero]; exact rfl) (fun K hK => ?_) AllReadyH.nil)
          go_simp
          refine (HD1.out _).mono ?_
          rintro e vW ⟨rfl, hB⟩
          go_wp2_with fail
          refine hK.out _ _ (HSS.out _ (hHeld.2.trans (hB.mono hHeld.2.size))) (fun hHeld => ?_)
          clear hK K
          try simp only [Act.put, List.setIfInBounds_toArray, List.set_cons_zero, List.set_cons_succ]
          refine wpAnyH_take (i := 3) (v := ?_) (by simp only [List.getElem?_toArray, List.getElem?_cons_succ, List.getElem?_cons_zero]; exact rfl) (by kernel_rfl) (by kernel_rfl) (by kernel_rfl) (fun _ _ _ h => h) (Or.inl ⟨by rfl, ?_⟩) (by assumption) ?_
          rotate_left 1
          · (intro w hSw; (try dsimp only at hSw); go_simp; try with_reducible rfl)
          try simp only [Act.put, List.setIfInBounds_toArray, List.set_cons_zero, List.set_cons_succ]
          refine wpAnyH_take (i := 4) (v := ?_) (by simp only [List.getElem?_toArray, List.getElem?_cons_succ, List.getElem?_cons_zero]; exact rfl) (by kernel_rfl) (by kernel_rfl) (by kernel_rfl) (fun _ _ _ h => h) (Or.inl ⟨by rfl, ?_⟩) (by assumption) ?_
          rotate_left 1
          · (intro w hSw; (try dsimp only at hSw); go_simp; try with_reducible rfl)
          try simp only [Act.put, List.setIfInBounds_toArray, List.set_cons_zero, List.set_cons_succ]
          refine wpAnyH_ready (rs := [8]) (by kernel_rfl) (by simp) ?_
          refine (AllReadyH.cons (by simp only [List.getElem?_toArray, List.getElem?_cons_succ, List.getElem?_cons_zero]; exact rfl) (fun K hK => ?_) AllReadyH.nil)
          go_simp
          refine (HD2.out _).mono ?_
          rintro e vW ⟨rfl, hB⟩
          go_wp2_with fail
          refine hK.out _ _ (HSS.out _ (hHeld.2.trans (hB.mono hHeld.2.size))) (fun hHeld => ?_)
          clear hK K
          try simp only [Act.put, List.setIfInBounds_toArray, List.set_cons_zero, List.set_cons_succ]
          refine wpAnyH_take (i := 9) (v := ?_) (by simp only [List.getElem?_toArray, List.getElem?_cons_succ, List.getElem?_cons_zero]; exact rfl) (by kernel_rfl) (by kernel_rfl) (by kernel_rfl) (fun _ _ _ h => h) (Or.inl ⟨by rfl, ?_⟩) (by assumption) ?_
          rotate_left 1
          · (intro w hSw; (try dsimp only at hSw); go_simp; try with_reducible rfl)
          try simp only [Act.put, List.setIfInBounds_toArray, List.set_cons_zero, List.set_cons_succ]
          refine wpAnyH_take (i := 10) (v := ?_) (by simp only [List.getElem?_toArray, List.getElem?_cons_succ, List.getElem?_cons_zero]; exact rfl) (by kernel_rfl) (by kernel_rfl) (by kernel_rfl) (fun _ _ _ h => h) (Or.inl ⟨by rfl, ?_⟩) (by assumption) ?_
          rotate_left 1
          · (intro w hSw; (try dsimp only at hSw); go_simp; try with_reducible rfl)
          try simp only [Act.put, List.setIfInBounds_toArray, List.set_cons_zero, List.set_cons_succ]
          refine wpAnyH_done (by kernel_rfl) ?_ _
          refine NoPanic.normal ?_
          go_wp2
          go_roundw
          case rel => exact ⟨i + 1, by omega, by go_num, by rw [HTX.out], HRW.out.of_below hHeld.2, HBW.out.trans (hHeld.2.mono HBW.out.size)⟩
          case measure => simp [intOf]; omega
    · have z1 : ¬ (i : Int) < 16 := by omega
      have z2 : decide ((i : Int) < 16) = false := decide_eq_false z1
      obtain rfl : i = 16 := by omega
      go_wp2
      go_ret
      exact ⟨rfl, HBW.out⟩
end Go.Proofs.YtjpennbmphhipaaDoor
