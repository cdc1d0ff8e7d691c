/- The reader's truths and digests. -/
import Derived.Test.YtgmogbgkokofoaaRdBP6
import Derived.Test.YtgmogbgkokofoaaDig6
import Derived.Deep.RegionLaw
set_option linter.unusedSimpArgs false
set_option linter.unusedVariables false
namespace Go.Proofs.Ytgmogbgkokofoaa
open Go Go.RowKit

theorem step_copyT {ops : Array Oper} {o : Oper} {a : Act} {K : Act → World → Prop} {Q : Exit → Act → World → Prop} {F : Prop} (w : World) (hgd : o.guard = none) (d s : Operand)
    (ho : o.op = .call { callee := .builtin .copy, args := #[d, s], argTypes := #[23, 23] }) (T : TypeId) (E m c : Nat) (g : Nat → Value) (q : Option Addr) (n c' : Nat) (l : List (BitVec 8))
    (hd : a.eval d = .slice (some ⟨E, 0, none⟩) m c) (hs : a.eval s = .slice q n c') (hR : Row w E T m g) (hl : l.length = n) (hsl : Sl w q l) (t : Nat) (ht : t = min m n)
    (h : ∀ w', Row w' E T m (copiedT l t g) → Kp E w w' → K (a.put o.dst (.int .i64 (t : Int))) w') :
    if Region.wanted o (yielded ops a.tmps) = true then Oper.wp Try.prog o a w K Q else F := by
  have hw : Region.wanted o (yielded ops a.tmps) = true := by simp [Region.wanted, hgd]
  rw [if_pos hw]
  obtain ⟨w', hr, h2, h3⟩ := run_copyT w o.type T E m c g q n c' l hR hl hsl t ht
  unfold Oper.wp execOp
  simp only [ho, resolve, invoke, builtin, Sem.run_bind, Sem.run_pure, Result.andThen_ok, List.map_toArray, List.map_cons, List.map_nil, hd, hs, hr]
  exact h w' h2 h3
/-- What changes a block of the call's own leaves all else alone. -/
theorem Kp.high {b d : Nat} {x y z : World} (h : Kp b x y) (k : Kp d y z) (hd : x.heap.size ≤ d) : Kp b x z :=
  ⟨k.os.trans h.os, k.tape.trans h.tape, k.output.trans h.output, Nat.le_trans h.size k.size, fun i hi hb => (k.block i (Nat.lt_of_lt_of_le hi h.size) (by omega)).trans (h.block i hi hb)⟩
/-- Nor does it touch the reader. -/
theorem rdP_high {p : Option Addr} {N : Nat} {w w' : World} {a : Addr} {l : List (BitVec 8)} {d : Nat} (h : RdP p N w a l) (k : Kp d w w') (hd : a.block < d) : RdP p N w' a l :=
  rdP_stay _ _ _ _ _ _ h k.size (k.block _ (rdP_lie _ _ _ _ _ h).2 (by omega)) fun c o _ hc => k.block _ (by have := rdP_lie _ _ _ _ _ h; omega) (by have := rdP_lie _ _ _ _ _ h; omega)
theorem rdP_below {p : Option Addr} {N : Nat} {w w' : World} {a : Addr} {l : List (BitVec 8)} (h : RdP p N w a l) (k : Below w.heap.size w w') : RdP p N w' a l :=
  rdP_stay _ _ _ _ _ _ h k.size (k.block _ (rdP_lie _ _ _ _ _ h).2) fun c o _ hc => k.block _ (by have := rdP_lie _ _ _ _ _ h; omega)
theorem sl_arr1 (E : Nat) (w : World) : (slT 71 (.pointer (some ⟨E, 0, none⟩)) none none none).run Try.prog w = .ok (.value (.slice (some ⟨E, 0, none⟩) 1 1)) w := by
  first
  | kernel_rfl
  | (unfold slT; simp [go_sem, Instr.sliceAt])
attribute [local go_sem] sl_arr1 sl_arr
attribute [local go_sem ↓] exec_slice
set_option maxRecDepth 100000 in
set_option maxHeartbeats 1000000 in
theorem rdP_truth (p : Option Addr) (N : Nat) (w : World) (a : Addr) (l : List (BitVec 8)) (h : RdP p N w a l) : Calls Try.prog 37 #[.pointer (some a)] w (RdPost RdP ThrP p N w a l (nextI l 3 0).2.2 (nextI l 3 0).2.1 fun v _ => v = .bool (decide ((nextI l 3 0).1.n = 1))) := by
  have hL := rdP_lie _ _ _ _ _ h
  have HL := Lib.hid hL
  have HB1 := Lib.hid (show Below w.heap.size w (w.alloc (.cells #[.int .u8 0] 71)) from (Below.refl _ _).alloc (Nat.le_refl _) _)
  have HR1 := Lib.hid (rdP_below (rdP_below h HB1.out) ((Dr.refl _).drew.below _))
  have HROW := Lib.hid (show Row (w.alloc (.cells #[.int .u8 0] 71)).drew w.heap.size 71 1 (fun _ => B 0#8) from by
    have e : (#[.int .u8 0] : Array Value) = tab 1 (fun _ => B 0#8) := by rw [B_eq']; rfl
    rw [e]
    exact (Row.new w _ 1 _).drew)
  by_cases hlt : l.length < 1
  · have hN : nextI l 3 0 = (⟨0, 0, []⟩, 0, 6) := by unfold nextI; rw [if_pos rfl, if_pos (.inl hlt)]
    rw [hN]
    have HC := Lib.hid (cut_no p N _ a l 1 HR1.out hlt)
    clear h hlt hN hL
    go_enter Try.func37, Try.ntmps37
    go_wp2
    refine wp_region_any (by kernel_rfl) ?_
    change wpAny _ _ _ _ _ _ _ (World.drew _)
    refine wpAny_take (i := 0) (v := .slice (some ⟨w.heap.size, 0, none⟩) 1 1) rfl (by kernel_rfl) (by kernel_rfl) (by kernel_rfl) (fun _ _ _ h => h) (Or.inl ⟨by rfl, ?_⟩) ?_
    · intro u; go_simp
    refine wpAny_take (i := 1) (v := .pointer (some a)) rfl (by kernel_rfl) (by kernel_rfl) (by kernel_rfl) (fun _ _ _ h => h) (Or.inl ⟨by rfl, ?_⟩) ?_
    · intro u; go_simp
    refine wpAny_ready (rs := [2]) (by kernel_rfl) (by simp) ?_
    refine AllReady.cons rfl (fun K hK => ?_) AllReady.nil
    go_simp
    go_at_call 43
    refine HC.out.mono ?_
    rintro e w3 ⟨hK, v, hv, rfl⟩
    exact ⟨rfl, (((Kp.refl _ w).of_below HB1.out).drewN 1).trans hK, .inr ⟨by decide, v, hv, rfl⟩⟩
  · obtain ⟨c, hc⟩ : ∃ c, (l.getD 0 0#8).toNat = c := ⟨_, rfl⟩
    have HC := Lib.hid (cut_ok p N _ a l 1 HR1.out (by omega))
    have HCC := Lib.hid hc
    have hcl := (l.getD 0 0#8).isLt
    rw [hc] at hcl
    have hN : nextI l 3 0 = if 1 < c then (⟨0, 0, []⟩, 0, 6) else (⟨3, c, []⟩, 1, 0) := by
      unfold nextI
      rw [if_pos rfl, hc]
      by_cases h1 : 1 < c
      · rw [if_pos (.inr h1), if_pos h1]
      · rw [if_neg (by omega), if_neg h1]
    obtain ⟨X, hX⟩ : ∃ X, nextI l 3 0 = X := ⟨_, rfl⟩
    rw [hX]
    have HXE := Lib.hid (hX.symm.trans hN)
    clear hX
    have HLT := Lib.hid hlt
    clear h hlt hN hL hc
    go_enter Try.func37, Try.ntmps37
    go_wp2
    go_region_law (first
      | (go_simp; go_at_call 43; refine HC.out.mono ?_; rintro e w3 ⟨hK, ⟨q, rfl, hS, hq, hqb⟩, hR⟩
         have HK3 := Lib.hid hK
         have HR3 := Lib.hid hR
         have HS3 := Lib.hid hS
         have HROW3 := Lib.hid (HROW.out.of_kp hK (by have := HL.out.2; omega))
         clear hK hR hS hq hqb)
      | (refine step_copyT _ rfl (.tmp 4) (.tmp 6) rfl 71 w.heap.size 1 1 (fun _ => B 0#8) q 1 1 (l.take 1) rfl rfl HROW3.out (by rw [List.length_take]; have := HLT.out; omega) HS3.out 1 rfl ?_; rintro w4 hR4 hK4
         have HR4 := Lib.hid hR4
         have HK4 := Lib.hid hK4
         clear hR4 hK4))
    have hx : w4.cell? ⟨w.heap.size, 0, none⟩ = some (.int .u8 (c : Int)) := by
      rw [HR4.out.cell 0 (by decide)]
      have e : (l.take 1).getD 0 0#8 = l.getD 0 0#8 := by simp [List.getD_eq_getElem?_getD]
      show some (copiedT (l.take 1) 1 (fun _ => B 0#8) 0) = _
      unfold copiedT
      rw [if_pos (by decide), e, B_eq', HCC.out]
    have HX := Lib.hid (rdP_high HR3.out HK4.out HL.out.2)
    have HKW := Lib.hid (((((Kp.refl _ w).of_below HB1.out).drewN 1).trans HK3.out).high HK4.out (Nat.le_refl _))
    clear HK4 HR4 HROW3 HS3 HR3 HK3 HC
    by_cases h1 : 1 < c
    · have h1z : (1 : Int) < (c : Int) := by omega
      have h1d : decide ((1 : Int) < (c : Int)) = true := decide_eq_true h1z
      obtain rfl : X = (⟨0, 0, []⟩, 0, 6) := by rw [HXE.out, if_pos h1]
      have HF := Lib.hid (rdP_fail _ _ _ _ _ 6 HX.out (by decide))
      clear h1
      go_wp2_with fail
      refine HF.out.mono ?_
      rintro e w5 ⟨⟨v, hv, rfl⟩, hK5⟩
      exact ⟨rfl, HKW.out.trans hK5, .inr ⟨by decide, v, hv, rfl⟩⟩
    · obtain rfl : X = (⟨3, c, []⟩, 1, 0) := by rw [HXE.out, if_neg h1]
      rcases (show c = 0 ∨ c = 1 by omega) with rfl | rfl
      · have hx0 : w4.cell? ⟨w.heap.size, 0, none⟩ = some (.int .u8 0) := hx
        clear hx h1
        go_wp2
        go_ret
        exact ⟨HKW.out, .inl ⟨rfl, ⟨_, rfl, rfl⟩, HX.out⟩⟩
      · have hx0 : w4.cell? ⟨w.heap.size, 0, none⟩ = some (.int .u8 1) := hx
        clear hx h1
        go_wp2
        go_ret
        exact ⟨HKW.out, .inl ⟨rfl, ⟨_, rfl, rfl⟩, HX.out⟩⟩
end Go.Proofs.Ytgmogbgkokofoaa
