/- The reference's digest. -/
import Derived.Test.YtllpcllgliknpaaGreatDoorShRefP
set_option linter.unusedSimpArgs false
set_option maxRecDepth 100000
set_option linter.unusedVariables false
namespace Go.Proofs.YtllpcllgliknpaaGreatDoor.Sha
open Go Go.RowKit

/-- A load of a whole row, its operand reckoned first. -/
def ldT (t : TypeId) (p : Value) : Sem Next := do pure (.value (← Instr.loadAt t p))
theorem exec_load38 (r : Operand → Value) (dst : Option Tmp) (p : Operand) (ty : TypeId) (pos : String) (after : Array Edge) (guard : Option (Nat × Bool)) :
    execOp r ⟨dst, .load 94 p, ty, pos, after, guard⟩ = ldT 94 (r p) := rfl
theorem ld_row38 {w : World} {b : Nat} {T : TypeId} {s : S8} (h : Row w b T 8 (fun i => U (s.get i))) : (ldT 94 (.pointer (some ⟨b, 0, none⟩))).run Tryz.prog w = .ok (.value (g8 s)) w := by
  have := run_loadAt_mid (P := Tryz.prog) w b 0 94 _ _ h.range und38 rfl (by rw [size38]; simp [tab])
  simp only [ldT, Sem.run_bind, this, Result.andThen, Sem.run_pure, Array.toArray_toList]
  rfl
theorem st_g8' {w : World} {b : Nat} {T : TypeId} {g : Nat → Value} (h : Row w b T 8 g) (x : S8) :
    (stT 94 (.pointer (some ⟨b, 0, none⟩)) (g8 x)).run Tryz.prog w = .ok .skip (w.setRow b (tab 8 fun i => U (x.get i))) :=
  st_row w b T 94 8 g h (tab 8 fun i => U (x.get i)) (tab_size _ _) size38 (by simp [tab, one_U])
theorem st_new38' (w : World) (N : Nat) (x : S8) (hN : N = w.heap.size) : (stT 94 (.pointer (some ⟨N, 0, none⟩)) (g8 x)).run Tryz.prog (w.alloc (.cells (zw 8) 94)) = .ok .skip (w.alloc (.cells (tab 8 fun i => U (x.get i)) 94)) := by
  subst hN; exact st_new38 w x.get
theorem bd24 (w : World) : (bdT 72 #[]).run Tryz.prog w = .ok (.value (.agg (zb 32))) w := by
  rw [zb_eq]; kernel_rfl
theorem st_new24 (w : World) : (stT 72 (.pointer (some ⟨w.heap.size, 0, none⟩)) (.agg (zb 32))).run Tryz.prog (w.alloc (.cells (zb 32) 72)) = .ok .skip (w.alloc (.cells (zb 32) 72)) := by
  have h := run_storeAt_new' (P := Tryz.prog) w 72 72 (zb 32) (zb 32) (by rw [size24, zb, tab_size]) rfl (by simp [zb, tab, one_B])
  simp only [stT, Sem.run_bind, h, Result.andThen, Sem.run_pure]
theorem byte_low (x : BitVec 32) : (x % 256#32).setWidth 8 = x.setWidth 8 := by
  apply BitVec.eq_of_toNat_eq
  simp [BitVec.toNat_umod]
theorem quo_256 (x : BitVec 32) (k : Nat) : x >>> k / 256#32 = x >>> (k + 8) := by
  apply BitVec.eq_of_toNat_eq
  simp [BitVec.toNat_udiv, Nat.shiftRight_eq_div_pow, Nat.pow_add, Nat.div_div_eq_div_mul]
attribute [local go_sem ↓] exec_alloc24 exec_alloc38 exec_load38 exec_build
attribute [local go_sem] st_new38' bd24 st_new24
/-- The digest's bytes behind i words, and of the next one those from t on. -/
def cur6 (s : S8) (i t j : Nat) : BitVec 8 := if j < 4 * i ∨ (4 * i + t ≤ j ∧ j < 4 * i + 4) then dgB s j else 0#8
set_option maxRecDepth 100000 in
set_option maxHeartbeats 4000000 in
theorem refSum_any (l : List (BitVec 8)) (p : Option Addr) (cap : Nat) (w : World) (hs : Sl w p l) (hc : p = none → cap = 0) (hF : Ft w) (hk : Kt w) (h1w : 1 < w.heap.size) (hn : l.length < 100000000000) :
    Calls Tryz.prog 35 #[.slice p l.length cap] w fun e w' => e = .returned (dgV (dg l)) ∧ Below w.heap.size w w' := by
  have hb1 : Below w.heap.size w (w.alloc (.cells (zb 32) 72)) := (Below.refl _ _).alloc (Nat.le_refl _) _
  have hG0 : Row ((w.alloc (.cells (zb 32) 72))) 0 94 8 (fun i => U (H0.get i)) → True := fun _ => trivial
  have hld : (ldT 94 (.pointer (some ⟨0, 0, none⟩))).run Tryz.prog (w.alloc (.cells (zb 32) 72)) = .ok (.value (g8 H0)) (w.alloc (.cells (zb 32) 72)) := by
    have hr : (w.alloc (.cells (zb 32) 72)).rangeAt 0 0 (tab 8 fun i => U (H0.get i)).toList := by
      intro j v hv
      have hj : j < 8 := by have := (List.getElem?_eq_some_iff.1 hv).1; simpa [tab] using this
      have := (hF.of_below hb1) j hj
      rw [Nat.zero_add, this, ← hv]
      simp [tab, hj]
    have := run_loadAt_mid (P := Tryz.prog) _ 0 0 94 _ _ hr und38 rfl (by rw [size38]; simp [tab])
    simp only [ldT, Sem.run_bind, this, Result.andThen, Sem.run_pure, Array.toArray_toList]
    rfl
  clear hG0
  have HS := Lib.hid hs
  have HK := Lib.hid hk
  have HB1 := Lib.hid hb1
  have hb2 : Below w.heap.size w ((w.alloc (.cells (zb 32) 72)).alloc (.cells (tab 8 fun i => U (H0.get i)) 94)) := hb1.alloc (by simp) _
  have hr1 : Row ((w.alloc (.cells (zb 32) 72)).alloc (.cells (tab 8 fun i => U (H0.get i)) 94)) (w.heap.size + 1) 94 8 (fun i => U (H0.get i)) := by
    have := Row.new (w.alloc (.cells (zb 32) 72)) 94 8 (fun i => U (H0.get i))
    rwa [World.size_alloc] at this
  have hr0 : Row ((w.alloc (.cells (zb 32) 72)).alloc (.cells (tab 8 fun i => U (H0.get i)) 94)) w.heap.size 72 32 (fun _ => B 0#8) :=
    (Row.new w 72 32 _).of_below ((Below.refl _ _).alloc (Nat.le_refl _) _)
  have hs2 : ((w.alloc (.cells (zb 32) 72)).alloc (.cells (tab 8 fun i => U (H0.get i)) 94)).heap.size = w.heap.size + 2 := by simp
  have HB2 := Lib.hid hb2
  have HR1 := Lib.hid hr1
  have HR0 := Lib.hid hr0
  have HS2 := Lib.hid hs2
  clear hs hF hk hb1 hb2 hr1 hr0 hs2
  generalize hL : l.length = n at *
  have HL := Lib.hid hL
  clear hL
  go_enter Tryz.func35, Tryz.ntmps35
  go_wp2_with fail
  generalize ((w.alloc (.cells (zb 32) 72)).alloc (.cells (tab 8 fun i => U (H0.get i)) 94)) = w2 at *
  have e := HL.out
  subst e
  refine (padded_any l p cap w2 (HS.out.of_below HB2.out) hc hn).mono ?_
  rintro e w3 ⟨q, cq, rfl, hSq, hqc, hle, hlo, hB3⟩
  have hpl : (padl l).length = l.length + 1 + nz l.length + 8 := padl_length l
  have hnz := nz_le l.length
  have hpm := padl_mod l
  obtain ⟨c, o, rfl, _⟩ := hSq 0 (by omega)
  have hcl : c < w3.heap.size := by
    obtain ⟨c', o', e, hc'⟩ := hSq 0 (by omega)
    injection e with e
    injection e with e1 e2 e3
    subst e1
    exact World.block_lt_of_cell? w3 _ hc'
  have HSQ := Lib.hid hSq
  have HB3 := Lib.hid (HB2.out.trans (hB3.mono (by rw [HS2.out]; omega)))
  have HR13 := Lib.hid (HR1.out.of_below hB3)
  have HR03 := Lib.hid (HR0.out.of_below hB3)
  have hs3 : w.heap.size + 2 ≤ w3.heap.size := by have := hB3.size; rw [HS2.out] at this; exact this
  have hcN : c ≠ w.heap.size + 1 := by
    have : w2.heap.size ≤ c := hlo _ rfl
    rw [HS2.out] at this
    omega
  generalize hN : w.heap.size = N at *
  have HN := Lib.hid hN
  generalize hPP : (padl l).length = PP at *
  have HPP := Lib.hid hPP
  have HM := Lib.hid hpm
  have hPb : (PP : Int) < 1000000000000 := by omega
  clear hSq hqc hlo hB3 HB1 HB2 HR1 HR0 HS2 hN hPP hpl hnz hpm hld
  go_wp2_with fail
  go_loopw [5] (fun t wr => ∃ k : Nat, 64 * k ≤ PP ∧ t = .int .i64 ((64 * k : Nat) : Int) ∧ Row wr (N + 1) 94 8 (fun i => U ((hB (padl l) k).get i)) ∧ Kp (N + 1) w3 wr) (fun t _ => PP - (intOf t).toNat)
  case atStart => exact ⟨0, by omega, rfl, HR13.out, Kp.refl _ _⟩
  case round =>
    obtain ⟨k, hk, rfl, hR, hKp⟩ := hrel
    have HR := Lib.hid hR
    have HKp := Lib.hid hKp
    by_cases hlt : 64 * k < PP
    · have ha64 : 64 * k + 64 ≤ PP := by have := HM.out; omega
      have hst : ∀ n, (ldT 94 (.pointer (some ⟨N + 1, 0, none⟩))).run Tryz.prog (wr.drewN n) = .ok (.value (g8 (hB (padl l) k))) (wr.drewN n) := fun n => ld_row38 (hR.drewN n)
      have hst1 : (ldT 94 (.pointer (some ⟨N + 1, 0, none⟩))).run Tryz.prog wr.drew = .ok (.value (g8 (hB (padl l) k))) wr.drew := ld_row38 hR.drew
      have HD := Lib.hid (show ∀ j, j < 64 → wr.drew.cell? ⟨c, o + 64 * k + j, none⟩ = some (B ((padl l).getD (64 * k + j) 0#8)) from fun j hj => by
        obtain ⟨c', o', e, hc'⟩ := HSQ.out (64 * k + j) (by rw [HPP.out]; omega)
        injection e with e
        injection e with e1 e2 e3
        subst e1; subst e2
        rw [World.cell?_drew, hKp.cell (p := ⟨c, o + 64 * k + j, none⟩) hcl hcN, Nat.add_assoc]
        exact hc')
      have HKt := Lib.hid (show Kt wr.drew from (HK.out.of_below (by rw [HN.out]; exact HB3.out)).of_kp (hKp.drewN 1) (by omega))
      have hsz := hKp.size
      generalize hA : 64 * k = A at *
      have HA := Lib.hid hA
      have g1 : (A : Int) + 64 ≤ PP := by omega
      have g2 : (A : Int) < PP := by omega
      have g3 : (A : Int) + 64 ≤ cq := by omega
      have g4 : (A : Int) ≤ (A : Int) + 64 := by omega
      have g5 : ¬ cq = A := by omega
      have g6 : ((A : Int) + 64).toNat = A + 64 := by omega
      have g7 : A + 64 - A = 64 := by omega
      clear hR hKp hA hcN
      go_wp2
      refine wp_region_still_tail 6 (by kernel_rfl) (by kernel_rfl) ?_
      simp only [List.take_succ_cons, List.take_zero, List.drop_succ_cons, List.drop_zero, World.drew_eq]
      repeat (refine wpStill_step (fun K hK => ?_); go_simp; (try go_bits); refine hK _ ?_; clear hK K)
      try refine wpStill_nil ?_
      go_wp2_with fail
      refine (block_any (hB (padl l) k) (fun j => (padl l).getD (A + j) 0#8) c (o + A) (cq - A) wr.drew HD.out HKt.out (by show 1 < wr.heap.size; omega)).mono ?_
      rintro e w4 ⟨rfl, hw4⟩
      have hR4 := HR.out.drew.of_below hw4
      have HR4 := Lib.hid hR4
      have HK4 := Lib.hid ((HKp.out.drewN 1).of_below hw4)
      have hst4 := fun x => st_g8' hR4 x
      clear hw4 hR4
      go_wp2
      go_roundw
      case rel =>
        refine ⟨k + 1, by have := HA.out; omega, ?_, ?_, HK4.out.setRow _⟩
        · have := HA.out
          congr 1
          omega
        · have := HR4.out.setRow fun i => U ((comp (hB (padl l) k) fun j => (padl l).getD (A + j) 0#8).get i)
          rw [← HA.out] at this ⊢
          exact this
      case measure => simp [intOf]; omega
    · have hkk : k = PP / 64 := by omega
      have hAge : PP ≤ 64 * k := by omega
      have HRk := Lib.hid hR
      have HB4 := Lib.hid (show Below N w wr from HB3.out.trans (hKp.below (by omega) (by omega)))
      have HR0k := Lib.hid (HR03.out.of_kp hKp (by omega))
      have hs4 : N + 2 ≤ wr.heap.size := by have := hKp.size; omega
      have HSS := Lib.hid (show hB (padl l) k = hB (padl l) ((padl l).length / 64) by rw [hkk, HPP.out])
      clear hR hKp HR HKp HR13 HB3 HR03 hkk hk hlt
      generalize hB (padl l) k = s at *
      generalize 64 * k = A at *
      have hdf : decide ((A : Int) < PP) = false := decide_eq_false (by omega)
      clear hPb hn
      go_wp2_with fail
      have hal : Below wr.heap.size wr (wr.alloc (.cells (zb 32) 72)) := (Below.refl _ _).alloc (Nat.le_refl _) _
      have HRO := Lib.hid (show Row (wr.alloc (.cells (zb 32) 72)) wr.heap.size 72 32 (fun _ => B 0#8) from Row.new wr 72 32 _)
      have HR6 := Lib.hid (HRk.out.of_below hal)
      have HR06 := Lib.hid (HR0k.out.of_below hal)
      have HB6 := Lib.hid (HB4.out.trans (hal.mono (by omega)))
      have HS6 := Lib.hid (show (wr.alloc (.cells (zb 32) 72)).heap.size = wr.heap.size + 1 by simp)
      clear hal HRk HR0k HB4 hdf hAge
      generalize wr.alloc (.cells (zb 32) 72) = w6 at *
      generalize wr.heap.size = O at *
      go_loopw [27] (fun i wv => ∃ k : Nat, k ≤ 8 ∧ i = .int .i64 k ∧ Row wv O 72 32 (fun j => B (cur6 s k 4 j)) ∧ Kp O w6 wv) (fun i _ => 8 - (intOf i).toNat)
      case atStart => exact ⟨0, by decide, rfl, HRO.out.congr (fun j _ => by rw [cur6, if_neg (by omega)]), Kp.refl _ _⟩
      case round =>
        obtain ⟨k, hk, rfl, hR, hKp⟩ := hrel
        have HR := Lib.hid hR
        have HKp := Lib.hid hKp
        by_cases hlt : k < 8
        · have hd8 : decide ((k : Int) < 8) = true := decide_eq_true (by omega)
          have hl8 : (k : Int) < 8 := by omega
          have cN : wr.cell? ⟨N + 1, k, none⟩ = some (U (s.get k)) := (HR6.out.of_kp hKp (by omega)).cell k hlt
          clear hR hKp
          go_wp2
          go_loopw [8, 9] (fun x i wv => ∃ t : Nat, t ≤ 4 ∧ i = .int .i64 ((t : Int) - 1) ∧ x = U (s.get k >>> (8 * (4 - t))) ∧ Row wv O 72 32 (fun j => B (cur6 s k t j)) ∧ Kp O w6 wv) (fun _ i _ => (intOf i + 1).toNat)
          case atStart => exact ⟨4, by decide, rfl, rfl, HR.out, HKp.out⟩
          case round =>
            clear cN HR HKp
            obtain ⟨t, ht, rfl, rfl, hR, hKp⟩ := hrel
            have HR := Lib.hid hR
            have HKp := Lib.hid hKp
            by_cases ht0 : t = 0
            · subst ht0
              clear hR hKp
              go_wp2
              go_roundw
              case rel =>
                refine ⟨k + 1, by omega, by go_num, HR.out.congr (fun j _ => ?_), HKp.out⟩
                unfold cur6
                by_cases e : j < 4 * k ∨ (4 * k + 0 ≤ j ∧ j < 4 * k + 4)
                · rw [if_pos e, if_pos (by omega)]
                · rw [if_neg e, if_neg (by omega)]
              case measure => simp [intOf]; omega
            · obtain ⟨u, rfl⟩ : ∃ u, t = u + 1 := ⟨t - 1, by omega⟩
              have e1 : (((u + 1 : Nat) : Int) - 1) = (u : Int) := by omega
              rw [e1]
              have cO : wr.cell? ⟨O, 4 * k + u, none⟩ = some (B (cur6 s k (u + 1) (4 * k + u))) := hR.cell (4 * k + u) (by omega)
              have fO : wr.frozen? ⟨O, 4 * k + u, none⟩ = false := hR.free _
              have g1 : 4 * (k : Int) + u < 32 := by omega
              have g2 : 0 ≤ 4 * (k : Int) + u := by omega
              have HX := Lib.hid (show (s.get k >>> (8 * (4 - (u + 1))) % 256#32).setWidth 8 = dgB s (4 * k + u) by
                rw [byte_low, dgB, show (4 * k + u) / 4 = k by omega, show (4 * k + u) % 4 = u by omega, show 8 * (4 - (u + 1)) = 24 - 8 * u by omega])
              have HY := Lib.hid (show s.get k >>> (8 * (4 - (u + 1))) / 256#32 = s.get k >>> (8 * (4 - u)) by
                rw [quo_256, show 8 * (4 - (u + 1)) + 8 = 8 * (4 - u) by omega])
              clear hR hKp e1
              generalize s.get k >>> (8 * (4 - (u + 1))) = x at *
              go_wp2
              go_roundw
              case rel =>
                refine ⟨u, by omega, rfl, by rw [HY.out], (HR.out.set (4 * k + u) _).congr (fun j _ => ?_), HKp.out.setCell _ _⟩
                by_cases e : j = 4 * k + u
                · rw [if_pos e, HX.out, cur6, if_pos (by omega), e]
                · rw [if_neg e]
                  unfold cur6
                  by_cases e2 : j < 4 * k ∨ (4 * k + (u + 1) ≤ j ∧ j < 4 * k + 4)
                  · rw [if_pos e2, if_pos (by omega)]
                  · rw [if_neg e2, if_neg (by omega)]
              case measure => simp [intOf]
        · have hd8 : decide ((k : Int) < 8) = false := decide_eq_false (by omega)
          have HX := Lib.hid (hR.congr (fun j (hj : j < 32) => show B (cur6 s k 4 j) = B (dg l j) by rw [cur6, if_pos (by omega), dg, ← HSS.out]))
          have HT := Lib.hid (HR06.out.of_kp hKp (by omega)).there
          have HB7 := Lib.hid (show Below N w wr from HB6.out.trans (hKp.below (by omega) (by rw [HS6.out]; omega)))
          clear hR hKp HR HKp HR6 HR06 HB6
          go_wp2_with (first | (refine wpList_load_mid rfl 72 (.tmp 6) rfl O 0 rfl _ _ HX.out.range und24 rfl (by rw [size24]; simp [tab]) ?_) | (refine wpList_store_mid rfl 72 (.tmp 2) (.tmp 48) rfl N 0 (tab 32 fun i => B (dg l i)) rfl (by simp [Act.put, Act.eval]) (by rw [tab_size]; exact HT.out) (by rw [size24, tab_size]) (by simp [tab, one_B]) ?_))
          refine body_cell rfl rfl (World.rangeAt_setCells_same _ N 0 (tab 32 fun i => B (dg l i)).toList (by have := HT.out; simpa [tab] using this)) und24 rfl (by rw [size24]; simp [tab]) rfl ⟨by rw [Array.toArray_toList]; rfl, ?_⟩
          rw [HN.out]
          exact below_setCells _ _ HB7.out (Nat.le_refl _)
end Go.Proofs.YtllpcllgliknpaaGreatDoor.Sha
