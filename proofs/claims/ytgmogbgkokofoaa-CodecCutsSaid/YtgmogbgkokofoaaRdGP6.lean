/- The reader's digests. -/
import Derived.Test.YtgmogbgkokofoaaRdDP6
set_option linter.unusedSimpArgs false
set_option linter.unusedVariables false
namespace Go.Proofs.Ytgmogbgkokofoaa
open Go Go.RowKit

theorem st_row32 {w : World} {E : Nat} {T : TypeId} {g : Nat → Value} (hR : Row w E T 32 g) (l : List (BitVec 8)) :
    ∃ w', (stT 51 (.pointer (some ⟨E, 0, none⟩)) (digV l)).run Try.prog w = .ok .skip w' ∧ Row w' E T 32 (dgF l) ∧ Kp E w w' := by
  have h := run_storeVar_row (P := Try.prog) w E T 51 (tab 32 g) (tab 32 (dgF l)) hR (by rw [size32, tab_size]) (by rw [tab_size, tab_size]) (by simp [tab, dgF, one_B])
  refine ⟨w.setRow E (tab 32 (dgF l)), ?_, setRow_heap w E _ _ T _ hR, ⟨rfl, rfl, rfl, by simp [World.setRow], fun k _ hk => setRow_other w E k _ hk⟩⟩
  unfold digV
  simp only [stT, Instr.storeAt, Instr.sureAddr, Sem.run_bind, Sem.run_pure, Result.andThen, h]
attribute [local go_sem] sl_arr
attribute [local go_sem ↓] exec_slice exec_alloc32 exec_load32 exec_store32
set_option maxRecDepth 100000 in
set_option maxHeartbeats 1000000 in
theorem rdP_digest (p : Option Addr) (N : Nat) (w : World) (a : Addr) (l : List (BitVec 8)) (h : RdP p N w a l) : Calls Try.prog 38 #[.pointer (some a)] w (RdPost RdP ThrP p N w a l (nextI l 4 0).2.2 (nextI l 4 0).2.1 fun v _ => v = digV (nextI l 4 0).1.b) := by
  have hL := rdP_lie _ _ _ _ _ h
  have HL := Lib.hid hL
  have hB1 : Below w.heap.size w ((w.alloc (.cells (zb 32) 51)).alloc (.cells (zb 32) 51)) := ((Below.refl _ _).alloc (Nat.le_refl _) _).alloc (by simp [World.size_alloc]) _
  have HB1 := Lib.hid hB1
  have HR1 := Lib.hid (rdP_below (rdP_below h hB1) ((Dr.refl _).drew.below _))
  have e0 : zb 32 = tab 32 (fun _ => B 0#8) := by unfold zb; exact tab_congr fun j hj => by rw [B_eq']
  have HROW := Lib.hid (show Row ((w.alloc (.cells (zb 32) 51)).alloc (.cells (zb 32) 51)).drew w.heap.size 51 32 (fun _ => B 0#8) ∧ Row ((w.alloc (.cells (zb 32) 51)).alloc (.cells (zb 32) 51)).drew (w.heap.size + 1) 51 32 (fun _ => B 0#8) from by
    rw [e0]
    refine ⟨((Row.new w _ 32 _).of_below ((Below.refl _ _).alloc (Nat.le_refl _) _)).drew, ?_⟩
    have := Row.new (w.alloc (.cells (tab 32 (fun _ => B 0#8)) 51)) 51 32 (fun _ => B 0#8)
    rw [World.size_alloc] at this
    exact this.drew)
  obtain ⟨X, hX⟩ : ∃ X, nextI l 4 0 = X := ⟨_, rfl⟩
  rw [hX]
  by_cases hlt : l.length < 32
  · obtain rfl : X = (⟨0, 0, []⟩, 0, 6) := by rw [← hX]; unfold nextI; rw [if_neg (by decide), if_pos rfl, if_pos hlt]
    have HC := Lib.hid (cut_no p N _ a l 32 HR1.out hlt)
    clear h hlt hX hL hB1 e0
    go_enter Try.func38, Try.ntmps38
    go_wp2
    refine wp_region_any (by kernel_rfl) ?_
    change wpAny _ _ _ _ _ _ _ (World.drew _)
    refine wpAny_take (i := 0) (v := .slice (some ⟨w.heap.size + 1, 0, none⟩) 32 32) rfl (by kernel_rfl) (by kernel_rfl) (by kernel_rfl) (fun _ _ _ h => h) (Or.inl ⟨by rfl, ?_⟩) ?_
    · intro u; go_simp
    refine wpAny_take (i := 1) (v := .pointer (some a)) rfl (by kernel_rfl) (by kernel_rfl) (by kernel_rfl) (fun _ _ _ h => h) (Or.inl ⟨by rfl, ?_⟩) ?_
    · intro u; go_simp
    refine wpAny_ready (rs := [2]) (by kernel_rfl) (by simp) ?_
    refine AllReady.cons rfl (fun K hK => ?_) AllReady.nil
    go_simp
    go_at_call 43
    refine HC.out.mono ?_
    rintro e w3 ⟨hK, v, hv, rfl⟩
    exact ⟨rfl, (((Kp.refl _ w).of_below HB1.out).drewN 1).trans hK, .inr ⟨by decide, v, hv, rfl⟩⟩
  · obtain rfl : X = (⟨4, 0, l.take 32⟩, 32, 0) := by rw [← hX]; unfold nextI; rw [if_neg (by decide), if_pos rfl, if_neg hlt]
    have HC := Lib.hid (cut_ok p N _ a l 32 HR1.out (by omega))
    have hl32 : (l.take 32).length = 32 := by rw [List.length_take]; omega
    have HLN := Lib.hid hl32
    generalize l.take 32 = d at *
    clear h hlt hX hL hB1 e0 hl32
    go_enter Try.func38, Try.ntmps38
    go_wp2
    go_region_law (first
      | (go_simp; go_at_call 43; refine HC.out.mono ?_; rintro e w3 ⟨hK, ⟨q, rfl, hS, hq, hqb⟩, hR⟩
         have HK3 := Lib.hid hK
         have HR3 := Lib.hid hR
         have HS3 := Lib.hid hS
         have HROW3 := Lib.hid (And.intro (HROW.out.1.of_kp hK (by have := HL.out.2; omega)) (HROW.out.2.of_kp hK (by have := HL.out.2; omega)))
         clear hK hR hS hq hqb)
      | (refine step_copyT _ rfl (.tmp 4) (.tmp 6) rfl 51 (w.heap.size + 1) 32 32 (fun _ => B 0#8) q 32 32 d rfl rfl HROW3.out.2 HLN.out HS3.out 32 rfl ?_; rintro w4 hR4 hK4
         have HR4 := Lib.hid hR4
         have HK4 := Lib.hid hK4
         clear hR4 hK4))
    have hsl : Sl w4 (some ⟨w.heap.size + 1, 0, none⟩) d := by
      have := Sl.padded HR4.out HLN.out rfl
      rwa [pad32_same HLN.out] at this
    have hld := ld_dig hsl HLN.out
    obtain ⟨w5, hst, hR5, hK5⟩ := st_row32 (HROW3.out.1.of_kp HK4.out (by omega)) d
    have HR5 := Lib.hid hR5
    have HX := Lib.hid (rdP_high (rdP_high HR3.out HK4.out (by have := HL.out.2; omega)) hK5 HL.out.2)
    have HKW := Lib.hid ((((((Kp.refl _ w).of_below HB1.out).drewN 1).trans HK3.out).high HK4.out (Nat.le_succ _)).high hK5 (Nat.le_refl _))
    clear hsl hR5 hK5 HK4 HR4 HROW3 HS3 HR3 HK3 HC
    go_wp2
    refine bodyPost_ret (results_cell_row rfl _ w5 w.heap.size 51 (tab 32 (dgF d)) (0, 0) _ rfl HR5.out und32 rfl (by rw [size32, tab_size])) rfl ?_
    exact ⟨HKW.out, .inl ⟨rfl, ⟨_, rfl, by unfold digV; rfl⟩, HX.out⟩⟩
end Go.Proofs.Ytgmogbgkokofoaa
