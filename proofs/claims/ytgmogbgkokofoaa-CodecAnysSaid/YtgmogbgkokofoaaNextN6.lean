/- The reference's items that begin with a number, read. -/
import Derived.Test.YtgmogbgkokofoaaNext6
set_option linter.unusedSimpArgs false
set_option linter.unusedVariables false
namespace Go.Proofs.Ytgmogbgkokofoaa
open Go Go.RowKit

theorem takeI_ok {l : List (BitVec 8)} {most : Int} (h : (takeI l most).2.2 = 0) : (takeI l most).2.1 ≤ l.length ∧ (takeI l most).1 < 9223372036854775808 := by
  unfold takeI at h ⊢
  cases e : num7 l with
  | none => rw [e] at h; simp at h
  | some x =>
    obtain ⟨n, k⟩ := x
    rw [e] at h
    dsimp only at h ⊢
    have hi := num7_inv e
    split
    · rename_i hm; rw [if_pos hm] at h; simp at h
    · exact ⟨hi.2.1, hi.1⟩
theorem takeI_code (l : List (BitVec 8)) (most : Int) : (takeI l most).2.2 = 0 ∨ (takeI l most).2.2 = 6 ∨ (takeI l most).2.2 = 14 := by
  unfold takeI
  split
  · exact .inr (.inl rfl)
  · split
    · exact .inr (.inr rfl)
    · exact .inl rfl
theorem sl_lhB (q : Option Addr) (n cap a b : Nat) (w : World) (hab : a ≤ b) (hb : b ≤ cap) :
    (slT 23 (.slice q n cap) (some (.int .i64 (a : Int))) (some (.int .i64 (b : Int))) none).run Try.prog w = .ok (.value (.slice (cutA q cap a) (b - a) (cap - a))) w := by
  have h1 := run_sliceAt_slice (P := Try.prog) w 23 (.slice q n cap) (some (.int .i64 (a : Int))) (some (.int .i64 (b : Int))) none und35
  rw [run_slice_lh (P := Try.prog) w 23 q n cap und35 .i64 .i64 (a : Int) (b : Int) (by omega) (by omega) (by omega), sizeB] at h1
  simp only [slT, Sem.run_bind, h1, Result.andThen_ok, Sem.run_pure]
  simp only [sliced, Int.toNat_natCast, Nat.mul_one, cutA]
attribute [local go_sem ↓] exec_bs exec_slice
attribute [local go_sem] convIB6 bsB0 bsB1 bsb1
set_option maxRecDepth 100000 in
set_option maxHeartbeats 4000000 in
theorem refNextN (l : List (BitVec 8)) (k : Nat) (most : Int) (p : Option Addr) (n cap : Nat) (w : World) (hl : l.length = n) (hs : Sl w p l) (hp : p = none → cap = 0) (hc : n ≤ cap) (hn : n < 1000000) (k3 : k ≠ 3) (k4 : k ≠ 4) : Calls Try.prog 18 #[.slice p n cap, .int .i64 (k : Int), .int .i64 most] w (NextR w (nextI l k most)) := by
  have HL := Lib.hid hl
  have HS := Lib.hid hs
  have HP := Lib.hid hp
  have HB1 := Lib.hid (show Below w.heap.size w (w.alloc (.cells #[.int .i64 0, .int .i64 0, .slice none 0 0] 29)) from (Below.refl _ _).alloc (Nat.le_refl _) _)
  have HT := refTake_any l most p n cap (w.alloc (.cells #[.int .i64 0, .int .i64 0, .slice none 0 0] 29)) hl (hs.of_below HB1.out)
  have HE := nextI_take (l := l) (most := most) k3 k4
  have hcode := takeI_code l most
  have hok := takeI_ok (l := l) (most := most)
  rw [hl] at hok HE
  have k3e : ((k : Int) == 3) = false := by simp; omega
  have k4e : ((k : Int) == 4) = false := by simp; omega
  generalize takeI l most = x at *
  obtain ⟨tn, tk, tc⟩ := x
  dsimp only at HE hcode hok
  have HT := Lib.hid (show Calls Try.prog 40 #[.slice p n cap, .int .i64 most] (w.alloc (.cells #[.int .i64 0, .int .i64 0, .slice none 0 0] 29)) fun e w' => e = .returned (.tuple #[.int .i64 (tn : Int), .int .i64 (tk : Int), .int .i64 (tc : Int)]) ∧ (w.alloc (.cells #[.int .i64 0, .int .i64 0, .slice none 0 0] 29)) = w' from HT)
  clear hl hs hp
  by_cases h0 : tc = 0
  · subst h0
    obtain ⟨o1, o2⟩ := hok rfl
    rw [if_neg (by simp)] at HE
    by_cases h12 : k ≠ 1 ∧ k ≠ 2
    · rw [if_pos h12] at HE
      have hN := Lib.hid HE
      have e1 : ((k : Int) != 1) = true := by simp; omega
      have e2 : ((k : Int) != 2) = true := by simp; omega
      clear HE hok hcode k3 k4 h12
      go_enter Try.func18, Try.ntmps18
      go_wp2_with fail
      refine HT.out.mono ?_
      rintro e w' ⟨rfl, rfl⟩
      go_wp2
      refine bodyPost_ret (v := .tuple #[(It.mk k tn []).v none 0, .int .i64 (tk : Int), .int .i64 0]) (by simp [results, Try.results18, go_sem]; try rfl) rfl ?_
      rw [hN.out]
      exact ⟨none, 0, rfl, Sl.nil _ _, fun _ => rfl, Nat.le_refl _, (fun k hk => by cases hk), (Below.refl _ _).alloc (Nat.le_refl _) _⟩
    · rw [if_neg h12] at HE
      have h12 : k = 1 ∨ k = 2 := by omega
      by_cases hm : n - tk < tn
      · rw [if_pos hm] at HE
        have hN := Lib.hid HE
        have s1 : IntKind.i64.wrap ((n : Int) - (tk : Int)) = (n : Int) - (tk : Int) := i64w _ (by omega) (by omega)
        have s2 : wrap64 ((n : Int) - (tk : Int)) = (n : Int) - (tk : Int) := w64 _ (by omega) (by omega)
        have s3 : (n : Int) - (tk : Int) < (tn : Int) := by omega
        have s4 : decide ((n : Int) - (tk : Int) < (tn : Int)) = true := decide_eq_true s3
        clear HE hok hcode k3 k4 hm
        rcases h12 with rfl | rfl
        all_goals
          go_enter Try.func18, Try.ntmps18
          go_wp2_with fail
          refine HT.out.mono ?_
          rintro e w' ⟨rfl, rfl⟩
          go_wp2
          refine bodyPost_ret (v := .tuple #[(It.mk 0 0 []).v none 0, .int .i64 0, .int .i64 6]) (by simp [results, Try.results18, go_sem]; try rfl) rfl ?_
          rw [hN.out]
          exact ⟨none, 0, rfl, Sl.nil _ _, fun _ => rfl, Nat.le_refl _, (fun k hk => by cases hk), (Below.refl _ _).alloc (Nat.le_refl _) _⟩
      · have hm2 : tk + tn ≤ n := by omega
        rw [if_neg hm] at HE
        have hN := Lib.hid HE
        have s1 : IntKind.i64.wrap ((n : Int) - (tk : Int)) = (n : Int) - (tk : Int) := i64w _ (by omega) (by omega)
        have s2 : wrap64 ((n : Int) - (tk : Int)) = (n : Int) - (tk : Int) := w64 _ (by omega) (by omega)
        have s3 : ¬ (n : Int) - (tk : Int) < (tn : Int) := by omega
        have s4 : decide ((n : Int) - (tk : Int) < (tn : Int)) = false := decide_eq_false s3
        have s5 : IntKind.i64.wrap ((tk : Int) + (tn : Int)) = (tk : Int) + (tn : Int) := i64w _ (by omega) (by omega)
        have s6 : wrap64 ((tk : Int) + (tn : Int)) = (tk : Int) + (tn : Int) := w64 _ (by omega) (by omega)
        have hsl : ∀ w, (slT 23 (.slice p n cap) (some (.int .i64 (tk : Int))) (some (.int .i64 ((tk : Int) + (tn : Int)))) none).run Try.prog w = .ok (.value (.slice (cutA p cap tk) tn (cap - tk))) w := fun w => by
          have h := sl_lhB p n cap tk (tk + tn) w (by omega) (by omega)
          rw [show ((tk + tn : Nat) : Int) = (tk : Int) + (tn : Int) by omega, show tk + tn - tk = tn by omega] at h
          exact h
        obtain ⟨bl, hbl⟩ : ∃ bl, bl = (l.drop tk).take tn := ⟨_, rfl⟩
        rw [← hbl] at hN
        have HLT := Lib.hid (show bl.length = tn from by rw [hbl, List.length_take, List.length_drop, HL.out]; omega)
        have HB2 := Lib.hid (show Below w.heap.size w ((w.alloc (.cells #[.int .i64 0, .int .i64 0, .slice none 0 0] 29)).alloc (.cells #[] 5)) from HB1.out.alloc HB1.out.size _)
        have HO := Lib.hid (show OwnB ((w.alloc (.cells #[.int .i64 0, .int .i64 0, .slice none 0 0] 29)).alloc (.cells #[] 5)) (w.heap.size + 1) (.slice (some ⟨w.heap.size + 1, 0, none⟩) 0 0) [] from by have := OwnB.empty (w.alloc (.cells #[.int .i64 0, .int .i64 0, .slice none 0 0] 29)) (w.heap.size + 1) (by rw [World.size_alloc]; exact Nat.le_refl _); rw [World.size_alloc] at this; exact this)
        have HST := Lib.hid (show Sl ((w.alloc (.cells #[.int .i64 0, .int .i64 0, .slice none 0 0] 29)).alloc (.cells #[] 5)) (cutA p cap tk) bl from by rw [hbl]; exact ((HS.out.drop (by rw [HL.out]; exact hc) tk).take tn).of_below HB2.out)
        have HPT := Lib.hid (show cutA p cap tk = none → cap - tk = 0 from cutA_none HP.out)
        have hsz : w.heap.size + 1 ≤ ((w.alloc (.cells #[.int .i64 0, .int .i64 0, .slice none 0 0] 29)).alloc (.cells #[] 5)).heap.size := by rw [World.size_alloc, World.size_alloc]; omega
        have HZ := Lib.hid (show ∀ i v, (#[.int .i64 0, .int .i64 0, .slice none 0 0] : Array Value)[i]? = some v → ((w.alloc (.cells #[.int .i64 0, .int .i64 0, .slice none 0 0] 29)).alloc (.cells #[] 5)).cell? ⟨w.heap.size, i, none⟩ = some v from fun i v h => by
          rw [World.cell?_alloc_lt _ _ _ (by rw [World.size_alloc]; exact Nat.lt_succ_self _), World.cell?_alloc_new]
          exact h)
        have HFZ := Lib.hid (show ∀ i, ((w.alloc (.cells #[.int .i64 0, .int .i64 0, .slice none 0 0] 29)).alloc (.cells #[] 5)).frozen? ⟨w.heap.size, i, none⟩ = false from fun i => by
          have hb : ((w.alloc (.cells #[.int .i64 0, .int .i64 0, .slice none 0 0] 29)).alloc (.cells #[] 5)).heap[w.heap.size]? = some (.cells #[.int .i64 0, .int .i64 0, .slice none 0 0] 29 (0, 0)) := by
            rw [((Below.refl _ (w.alloc (.cells #[.int .i64 0, .int .i64 0, .slice none 0 0] 29))).alloc (Nat.le_refl _) (.cells #[] 5)).block w.heap.size (by rw [World.size_alloc]; exact Nat.lt_succ_self _)]
            exact heap_alloc_last w _
          simp [World.frozen?, hb])
        have htn : tn < 1000000 := by omega
        clear HE hok hcode k3 k4 hm hbl
        rcases h12 with rfl | rfl
        · go_enter Try.func18, Try.ntmps18
          go_wp2_with fail
          refine HT.out.mono ?_
          rintro e w' ⟨rfl, rfl⟩
          go_wp2_with (first | (refine wpl_append _ rfl (.tmp 70) (.tmp 76) rfl (w.heap.size + 1) (.slice (some ⟨w.heap.size + 1, 0, none⟩) 0 0) [] rfl HO.out (cutA p cap tk) tn (cap - tk) bl HLT.out rfl HST.out HPT.out (by simp; omega) hsz ?_; rintro v3 w3 hO3 hg3; rw [List.nil_append] at hO3; obtain ⟨q3, d3, hv3, hS3, hp3, hd3⟩ := hO3.shape; rw [HLT.out] at hv3 hd3; subst hv3; have HO4 := Lib.hid (show ∀ k, (Value.slice q3 tn d3).ownBlock = some k → w.heap.size ≤ k from fun k hk => Nat.le_of_succ_le (hO3.lt k hk).1); have c0 : w3.cell? ⟨w.heap.size, 0, none⟩ = some (.int .i64 0) := (hg3.cell_far _ (by exact Nat.lt_of_succ_le hsz) (by simp [Value.ownBlock])).trans (HZ.out 0 _ rfl); have c1 : w3.cell? ⟨w.heap.size, 1, none⟩ = some (.int .i64 0) := (hg3.cell_far _ (by exact Nat.lt_of_succ_le hsz) (by simp [Value.ownBlock])).trans (HZ.out 1 _ rfl); have c2 : w3.cell? ⟨w.heap.size, 2, none⟩ = some (.slice none 0 0) := (hg3.cell_far _ (by exact Nat.lt_of_succ_le hsz) (by simp [Value.ownBlock])).trans (HZ.out 2 _ rfl); have ff : ∀ i, w3.frozen? ⟨w.heap.size, i, none⟩ = false := (fun i => (hg3.frozen_far _ (by exact Nat.lt_of_succ_le hsz) (by simp [Value.ownBlock])).trans (HFZ.out i)); have HO3 := Lib.hid hO3; have HB3 := Lib.hid (HB2.out.grown hg3 (Nat.le_of_succ_le hsz) (fun k hk => by have : w.heap.size + 1 = k := (by simpa [Value.ownBlock] using hk); omega)); clear hO3 hg3 hS3 hp3))
          refine bodyPost_ret (v := .tuple #[.agg #[.int .i64 1, .int .i64 0, .slice q3 tn d3], .int .i64 ((tk : Int) + (tn : Int)), .int .i64 0]) (by simp [results, Try.results18, go_sem, c0, c1, c2, ff]) rfl ?_
          have hv : (It.mk 1 0 bl).v q3 d3 = .agg #[.int .i64 1, .int .i64 0, .slice q3 tn d3] := by unfold It.v; dsimp only; rw [HLT.out]; rfl
          rw [hN.out]
          obtain ⟨t1, t2, t3⟩ := HO3.out.set3 (Nat.lt_succ_self _) (.int .i64 1) (.int .i64 0) (.slice q3 tn d3)
          exact ⟨q3, d3, by dsimp only; rw [hv, show ((tk + tn : Nat) : Int) = (tk : Int) + (tn : Int) by omega]; rfl, t1, t2, t3, fun k hk => HO4.out k (by dsimp only at hk; rw [HLT.out] at hk; exact hk), ((HB3.out.setCell (Nat.le_refl _) _).setCell (Nat.le_refl _) _).setCell (Nat.le_refl _) _⟩
        · go_enter Try.func18, Try.ntmps18
          go_wp2_with fail
          refine HT.out.mono ?_
          rintro e w' ⟨rfl, rfl⟩
          go_wp2_with (first | (refine wpl_append _ rfl (.tmp 70) (.tmp 76) rfl (w.heap.size + 1) (.slice (some ⟨w.heap.size + 1, 0, none⟩) 0 0) [] rfl HO.out (cutA p cap tk) tn (cap - tk) bl HLT.out rfl HST.out HPT.out (by simp; omega) hsz ?_; rintro v3 w3 hO3 hg3; rw [List.nil_append] at hO3; obtain ⟨q3, d3, hv3, hS3, hp3, hd3⟩ := hO3.shape; rw [HLT.out] at hv3 hd3; subst hv3; have HO4 := Lib.hid (show ∀ k, (Value.slice q3 tn d3).ownBlock = some k → w.heap.size ≤ k from fun k hk => Nat.le_of_succ_le (hO3.lt k hk).1); have c0 : w3.cell? ⟨w.heap.size, 0, none⟩ = some (.int .i64 0) := (hg3.cell_far _ (by exact Nat.lt_of_succ_le hsz) (by simp [Value.ownBlock])).trans (HZ.out 0 _ rfl); have c1 : w3.cell? ⟨w.heap.size, 1, none⟩ = some (.int .i64 0) := (hg3.cell_far _ (by exact Nat.lt_of_succ_le hsz) (by simp [Value.ownBlock])).trans (HZ.out 1 _ rfl); have c2 : w3.cell? ⟨w.heap.size, 2, none⟩ = some (.slice none 0 0) := (hg3.cell_far _ (by exact Nat.lt_of_succ_le hsz) (by simp [Value.ownBlock])).trans (HZ.out 2 _ rfl); have ff : ∀ i, w3.frozen? ⟨w.heap.size, i, none⟩ = false := (fun i => (hg3.frozen_far _ (by exact Nat.lt_of_succ_le hsz) (by simp [Value.ownBlock])).trans (HFZ.out i)); have HO3 := Lib.hid hO3; have HB3 := Lib.hid (HB2.out.grown hg3 (Nat.le_of_succ_le hsz) (fun k hk => by have : w.heap.size + 1 = k := (by simpa [Value.ownBlock] using hk); omega)); clear hO3 hg3 hS3 hp3))
          refine bodyPost_ret (v := .tuple #[.agg #[.int .i64 2, .int .i64 0, .slice q3 tn d3], .int .i64 ((tk : Int) + (tn : Int)), .int .i64 0]) (by simp [results, Try.results18, go_sem, c0, c1, c2, ff]) rfl ?_
          have hv : (It.mk 2 0 bl).v q3 d3 = .agg #[.int .i64 2, .int .i64 0, .slice q3 tn d3] := by unfold It.v; dsimp only; rw [HLT.out]; rfl
          rw [hN.out]
          obtain ⟨t1, t2, t3⟩ := HO3.out.set3 (Nat.lt_succ_self _) (.int .i64 2) (.int .i64 0) (.slice q3 tn d3)
          exact ⟨q3, d3, by dsimp only; rw [hv, show ((tk + tn : Nat) : Int) = (tk : Int) + (tn : Int) by omega]; rfl, t1, t2, t3, fun k hk => HO4.out k (by dsimp only at hk; rw [HLT.out] at hk; exact hk), ((HB3.out.setCell (Nat.le_refl _) _).setCell (Nat.le_refl _) _).setCell (Nat.le_refl _) _⟩
  · rw [if_pos h0] at HE
    have hN := Lib.hid HE
    have e1 : ((tc : Int) != 0) = true := by simp; omega
    clear HE hok hcode k3 k4
    go_enter Try.func18, Try.ntmps18
    go_wp2_with fail
    refine HT.out.mono ?_
    rintro e w' ⟨rfl, rfl⟩
    go_wp2
    refine bodyPost_ret (v := .tuple #[(It.mk 0 0 []).v none 0, .int .i64 0, .int .i64 (tc : Int)]) (by simp [results, Try.results18, go_sem]; try rfl) rfl ?_
    rw [hN.out]
    exact ⟨none, 0, rfl, Sl.nil _ _, fun _ => rfl, Nat.le_refl _, (fun k hk => by cases hk), (Below.refl _ _).alloc (Nat.le_refl _) _⟩
end Go.Proofs.Ytgmogbgkokofoaa
