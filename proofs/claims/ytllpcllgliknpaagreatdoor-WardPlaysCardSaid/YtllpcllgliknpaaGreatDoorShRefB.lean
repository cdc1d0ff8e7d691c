/- What the reference does with a block. -/
import Derived.Test.YtllpcllgliknpaaGreatDoorShRow
set_option linter.unusedSimpArgs false
set_option maxRecDepth 100000
set_option linter.unusedVariables false
namespace Go.Proofs.YtllpcllgliknpaaGreatDoor.Sha
open Go Go.RowKit

/-- Eight words as a value. -/
def g8 (s : S8) : Value := .agg (tab 8 fun i => U (s.get i))
theorem g8_eq (s : S8) : g8 s = .agg #[U s.a, U s.b, U s.c, U s.d, U s.e, U s.f, U s.g, U s.h] := rfl
theorem exec_alloc38 (r : Operand → Value) (dst : Option Tmp) (ty : TypeId) (pos : String) (after : Array Edge) (guard : Option (Nat × Bool)) (w : World) :
    (execOp r ⟨dst, .alloc 94, ty, pos, after, guard⟩).run Tryz.prog w = .ok (.value (.pointer (some ⟨w.heap.size, 0, none⟩))) (w.alloc (.cells (zw 8) 94)) := by
  have h := (zero_of_info info38).1 w
  rw [← zw_eq] at h
  simp [execOp, Instr.alloc, h, newVar, newRow, Value.cells]
theorem bx38 (s : S8) (w : World) : (bxT 94 (g8 s)).run Tryz.prog w = .ok (.value (.pointer (some ⟨w.heap.size, 0, none⟩))) (w.alloc (.cells (tab 8 fun i => U (s.get i)) 94)) := rfl
/-- A make, its operands reckoned first. -/
def mkT (t : TypeId) (l c : Value) : Sem Next := do pure (.value (← Instr.makeSlice t l c))
theorem exec_make (r : Operand → Value) (dst : Option Tmp) (t : TypeId) (l c : Operand) (ty : TypeId) (pos : String) (after : Array Edge) (guard : Option (Nat × Bool)) :
    execOp r ⟨dst, .makeSlice t l c, ty, pos, after, guard⟩ = mkT t (r l) (r c) := rfl
theorem mk48 (w : World) : (mkT 109 (.int .i64 64) (.int .i64 64)).run Tryz.prog w = .ok (.value (.slice (some ⟨w.heap.size, 0, none⟩) 64 64)) (w.alloc (.cells (zw 64) 93)) := by
  rw [zw_eq]
  kernel_rfl
theorem st_new38 (w : World) (f : Nat → BitVec 32) : (stT 94 (.pointer (some ⟨w.heap.size, 0, none⟩)) (.agg (tab 8 fun i => U (f i)))).run Tryz.prog (w.alloc (.cells (zw 8) 94)) = .ok .skip (w.alloc (.cells (tab 8 fun i => U (f i)) 94)) := by
  have h := run_storeAt_new' (P := Tryz.prog) w 94 94 (zw 8) (tab 8 fun i => U (f i)) (by rw [size38, tab_size]) (by rw [zw, tab_size, tab_size]) (by simp [tab, one_U])
  simp only [stT, Sem.run_bind, h, Result.andThen, Sem.run_pure]
theorem st_g8 {w : World} {b : Nat} {T : TypeId} {g : Nat → Value} (h : Row w b T 8 g) (n : Nat) (x : S8) :
    (stT 94 (.pointer (some ⟨b, 0, none⟩)) (.agg #[U x.a, U x.b, U x.c, U x.d, U x.e, U x.f, U x.g, U x.h])).run Tryz.prog (w.drewN n) = .ok .skip ((w.setRow b (tab 8 fun i => U (x.get i))).drewN n) := by
  rw [← setRow_drewN]
  exact st_row (w.drewN n) b T 94 8 g (h.drewN n) (tab 8 fun i => U (x.get i)) (tab_size _ _) size38 (by simp [tab, one_U])
attribute [local go_sem] st_new38
attribute [local go_sem ↓] exec_alloc38 exec_make exec_box exec_build
attribute [local go_sem] bx38 mk48 bd_U8
/-- The words while number t is reckoned out of its first i bytes. -/
def cur5 (m : Nat → BitVec 8) (t i j : Nat) : BitVec 32 := if j = t then pw m t i else cur2 m t j
theorem cur5_zero (m : Nat → BitVec 8) (t j : Nat) : cur5 m t 0 j = cur2 m t j := by
  unfold cur5 cur2 pw
  by_cases h : j = t
  · subst h; rw [if_pos rfl, if_neg (Nat.lt_irrefl _)]
  · rw [if_neg h]
theorem cur5_four (m : Nat → BitVec 8) (t j : Nat) (ht : t < 16) : cur5 m t 4 j = cur2 m (t + 1) j := by
  unfold cur5 cur2
  by_cases h : j = t
  · subst h; rw [if_pos rfl, if_pos (by omega), W_lo m j ht]
  · rw [if_neg h]
    by_cases h1 : j < t
    · rw [if_pos h1, if_pos (by omega)]
    · rw [if_neg h1, if_neg (by omega)]
theorem cur5_succ (m : Nat → BitVec 8) (t i j : Nat) : (if j = t then U (pw m t i * 256#32 + BitVec.setWidth 32 (m (4 * t + i))) else U (cur5 m t i j)) = U (cur5 m t (i + 1) j) := by
  by_cases h : j = t
  · rw [if_pos h, cur5, if_pos h, pw, or_mul]
  · rw [if_neg h, cur5, cur5, if_neg h, if_neg h]

set_option maxRecDepth 100000 in
set_option maxHeartbeats 4000000 in
theorem block_any (s : S8) (m : Nat → BitVec 8) (c o cap : Nat) (w : World) (hm : ∀ j, j < 64 → w.cell? ⟨c, o + j, none⟩ = some (B (m j))) (hk : Kt w) (h1w : 1 < w.heap.size) :
    Calls Tryz.prog 52 #[g8 s, .slice (some ⟨c, o, none⟩) 64 cap] w fun e w' => e = .returned (g8 (comp s m)) ∧ Below w.heap.size w w' := by
  have hcl : c < w.heap.size := World.block_lt_of_cell? w _ (hm 0 (by decide))
  have HM := Lib.hid hm
  have HK := Lib.hid hk
  clear hm hk
  go_enter Tryz.func52, Tryz.ntmps52
  go_wp2_with fail
  have hb : Below w.heap.size w (((w.alloc (.cells (tab 8 fun i => U (s.get i)) 94)).alloc (.cells (zw 8) 94)).alloc (.cells (zw 64) 93)) := (((Below.refl _ _).alloc (Nat.le_refl _) _).alloc (by simp) _).alloc (by simp; omega) _
  have hr0 : Row (((w.alloc (.cells (tab 8 fun i => U (s.get i)) 94)).alloc (.cells (zw 8) 94)).alloc (.cells (zw 64) 93)) w.heap.size 94 8 (fun i => U (s.get i)) :=
    ((Row.new w 94 8 _).of_below ((Below.refl _ _).alloc (Nat.le_refl _) _)).of_below ((Below.refl _ _).alloc (Nat.le_refl _) _)
  have hr1 : Row (((w.alloc (.cells (tab 8 fun i => U (s.get i)) 94)).alloc (.cells (zw 8) 94)).alloc (.cells (zw 64) 93)) (w.heap.size + 1) 94 8 (fun _ => U 0#32) := by
    have := (Row.new (w.alloc (.cells (tab 8 fun i => U (s.get i)) 94)) 94 8 (fun _ => U 0#32)).of_below ((Below.refl _ _).alloc (Nat.le_refl _) (.cells (zw 64) 93))
    rwa [World.size_alloc] at this
  have hr2 : Row (((w.alloc (.cells (tab 8 fun i => U (s.get i)) 94)).alloc (.cells (zw 8) 94)).alloc (.cells (zw 64) 93)) (w.heap.size + 2) 93 64 (fun _ => U 0#32) := by
    have := Row.new ((w.alloc (.cells (tab 8 fun i => U (s.get i)) 94)).alloc (.cells (zw 8) 94)) 93 64 (fun _ => U 0#32)
    rwa [World.size_alloc, World.size_alloc] at this
  have hsz : (((w.alloc (.cells (tab 8 fun i => U (s.get i)) 94)).alloc (.cells (zw 8) 94)).alloc (.cells (zw 64) 93)).heap.size = w.heap.size + 3 := by simp
  generalize (((w.alloc (.cells (tab 8 fun i => U (s.get i)) 94)).alloc (.cells (zw 8) 94)).alloc (.cells (zw 64) 93)) = w2 at *
  have HB := Lib.hid hb
  have HR0 := Lib.hid hr0
  have HR1 := Lib.hid hr1
  have HR2 := Lib.hid hr2
  have HSZ := Lib.hid hsz
  clear hb hr0 hr1 hr2 hsz
  generalize hN : w.heap.size = N at *
  have HN := Lib.hid hN
  clear hN
  go_loopw [6] (fun t wr => ∃ k : Nat, k ≤ 64 ∧ t = .int .i64 k ∧ Row wr (N + 2) 93 64 (fun j => U (cur2 m k j)) ∧ Kp (N + 2) w2 wr) (fun t _ => 64 - (intOf t).toNat)
  case atStart => exact ⟨0, by decide, rfl, HR2.out.congr (fun j _ => by rw [cur2, if_neg (by omega)]), Kp.refl _ _⟩
  case round =>
    obtain ⟨k, hk, rfl, hR, hKp⟩ := hrel
    have HR := Lib.hid hR
    have HKp := Lib.hid hKp
    clear hR hKp
    by_cases hlt : k < 64
    · have hd0 : decide ((k : Int) < 64) = true := decide_eq_true (by omega)
      have hl0 : (k : Int) < 64 := by omega
      by_cases h16 : k < 16
      · have hd1 : decide ((k : Int) < 16) = true := decide_eq_true (by omega)
        go_wp2
        go_loopw [7] (fun i wv => ∃ t : Nat, t ≤ 4 ∧ i = .int .i64 t ∧ Row wv (N + 2) 93 64 (fun j => U (cur5 m k t j)) ∧ Kp (N + 2) w2 wv) (fun i _ => 4 - (intOf i).toNat)
        case atStart => exact ⟨0, by decide, rfl, HR.out.congr (fun j _ => by rw [cur5_zero]), HKp.out⟩
        case round =>
          clear HR HKp
          obtain ⟨t, ht, rfl, hR, hKp⟩ := hrel
          have HR := Lib.hid hR
          have HKp := Lib.hid hKp
          by_cases htl : t < 4
          · have cw : wr.cell? ⟨N + 2, k, none⟩ = some (U (pw m k t)) := by
              have := hR.cell k hlt
              rwa [cur5, if_pos rfl] at this
            have fw : wr.frozen? ⟨N + 2, k, none⟩ = false := hR.free k
            have cm : wr.cell? ⟨c, o + (4 * k + t), none⟩ = some (B (m (4 * k + t))) := by
              rw [hKp.cell (p := ⟨c, o + (4 * k + t), none⟩) (by rw [HSZ.out]; show c < _; omega) (by show c ≠ _; omega), HB.out.cell (by show c < N; exact hcl)]
              exact HM.out _ (by omega)
            have g1 : 4 * (k : Int) + t < 64 := by omega
            have g2 : 0 ≤ 4 * (k : Int) + t := by omega
            clear hR hKp
            go_wp2
            refine wp_region_still_tail 17 (by kernel_rfl) (by kernel_rfl) ?_
            simp only [List.take_succ_cons, List.take_zero, List.drop_succ_cons, List.drop_zero, World.drew_eq]
            repeat (refine wpStill_step (fun K hK => ?_); go_simp; (try go_bits); refine hK _ ?_; clear hK K)
            refine wpStill_nil ?_
            go_wp2
            go_roundw
            case rel =>
              exact ⟨t + 1, by omega, by go_num, ((HR.out.set k _).drew).congr (fun j _ => cur5_succ m k t j), (HKp.out.setCell _ _).drewN 1⟩
            case measure => simp [intOf]; omega
          · have e4 : Hid (t = 4) := by show t = 4; omega
            clear hR hKp
            go_wp2
            go_roundw
            case rel =>
              refine ⟨k + 1, by omega, by go_num, HR.out.congr (fun j _ => ?_), HKp.out⟩
              rw [e4.out, cur5_four m k j h16]
            case measure => simp [intOf]; omega
      · have c2 : wr.cell? ⟨N + 2, k - 2, none⟩ = some (U (W m (k - 2))) := by
          have := HR.out.cell (k - 2) (by omega); rwa [cur2_lt m (by omega)] at this
        have c7 : wr.cell? ⟨N + 2, k - 7, none⟩ = some (U (W m (k - 7))) := by
          have := HR.out.cell (k - 7) (by omega); rwa [cur2_lt m (by omega)] at this
        have c15 : wr.cell? ⟨N + 2, k - 15, none⟩ = some (U (W m (k - 15))) := by
          have := HR.out.cell (k - 15) (by omega); rwa [cur2_lt m (by omega)] at this
        have c16 : wr.cell? ⟨N + 2, k - 16, none⟩ = some (U (W m (k - 16))) := by
          have := HR.out.cell (k - 16) (by omega); rwa [cur2_lt m (by omega)] at this
        have ck : wr.cell? ⟨N + 2, k, none⟩ = some (U (cur2 m k k)) := HR.out.cell k hlt
        have fk : wr.frozen? ⟨N + 2, k, none⟩ = false := HR.out.free k
        have g1 : (k : Int) - 2 < 64 := by omega
        have g2 : (k : Int) - 7 < 64 := by omega
        have g3 : (k : Int) - 15 < 64 := by omega
        have g4 : (k : Int) - 16 < 64 := by omega
        have g5 : (2 : Int) ≤ k := by omega
        have g6 : (7 : Int) ≤ k := by omega
        have g7 : (15 : Int) ≤ k := by omega
        have g8 : (16 : Int) ≤ k := by omega
        have i2 : IntKind.i64.wrap ((k : Int) - 2) = (k : Int) - 2 := IntWalk.i64_in _ (by omega)
        have i7 : IntKind.i64.wrap ((k : Int) - 7) = (k : Int) - 7 := IntWalk.i64_in _ (by omega)
        have i15 : IntKind.i64.wrap ((k : Int) - 15) = (k : Int) - 15 := IntWalk.i64_in _ (by omega)
        have i16 : IntKind.i64.wrap ((k : Int) - 16) = (k : Int) - 16 := IntWalk.i64_in _ (by omega)
        have t2' : ((k : Int) - 2).toNat = k - 2 := by omega
        have t7' : ((k : Int) - 7).toNat = k - 7 := by omega
        have t15' : ((k : Int) - 15).toNat = k - 15 := by omega
        have t16' : ((k : Int) - 16).toNat = k - 16 := by omega
        have hd1 : decide ((k : Int) < 16) = false := decide_eq_false (by omega)
        go_wp2
        go_quiet ((first | (go_at_call 68; exact quiet_same (turn_at _ _ (by decide) (by decide) _) (by first | exact ⟨_, rfl⟩ | exact draws _ _ _)) | (go_at_call 69; exact quiet_same (moved_at _ _ (by decide) (by decide) _) (by first | exact ⟨_, rfl⟩ | exact draws _ _ _))))
        have HRq := Lib.hid (HR.out.drewN nq)
        have HKq := Lib.hid (HKp.out.drewN nq)
        have k7 : (wr.drewN nq).cell? ⟨N + 2, k - 7, none⟩ = some (U (W m (k - 7))) := c7
        have k15 : (wr.drewN nq).cell? ⟨N + 2, k - 15, none⟩ = some (U (W m (k - 15))) := c15
        have k16 : (wr.drewN nq).cell? ⟨N + 2, k - 16, none⟩ = some (U (W m (k - 16))) := c16
        have kk : (wr.drewN nq).cell? ⟨N + 2, k, none⟩ = some (U (cur2 m k k)) := ck
        have kf : (wr.drewN nq).frozen? ⟨N + 2, k, none⟩ = false := fk
        clear c2 c7 c15 c16 ck fk HR HKp
        generalize wr.drewN nq = wq at *
        go_wp2
        go_quiet ((first | (go_at_call 68; exact quiet_same (turn_at _ _ (by decide) (by decide) _) (by first | exact ⟨_, rfl⟩ | exact draws _ _ _)) | (go_at_call 69; exact quiet_same (moved_at _ _ (by decide) (by decide) _) (by first | exact ⟨_, rfl⟩ | exact draws _ _ _))))
        go_wp2
        refine wp_region_still_tail 18 (by kernel_rfl) (by kernel_rfl) ?_
        simp only [List.take_succ_cons, List.take_zero, List.drop_succ_cons, List.drop_zero, World.drew_eq]
        repeat (refine wpStill_step (fun K hK => ?_); go_simp; (try go_bits); refine hK _ ?_; clear hK K)
        refine wpStill_nil ?_
        go_wp2
        go_roundw
        case rel =>
          refine ⟨k + 1, by omega, by go_num, ?_, ?_⟩
          · refine ((HRq.out.set k (U (s1 (W m (k - 2)) + W m (k - 7) + s0 (W m (k - 15)) + W m (k - 16)))).congr fun j _ => ?_)
            rw [← W_hi m k (by omega)]
            by_cases e : j = k
            · subst e; rw [if_pos rfl, cur2_lt m (by omega)]
            · rw [if_neg e]
              unfold cur2
              by_cases e1 : j < k
              · rw [if_pos e1, if_pos (by omega)]
              · rw [if_neg e1, if_neg (by omega)]
          · exact ((HKq.out.setCell k (U (s1 (W m (k - 2)) + W m (k - 7) + s0 (W m (k - 15)) + W m (k - 16)))).drewN _)
        case measure => simp [intOf]; omega
    · have e64 : Hid (k = 64) := by show k = 64; omega
      have hd0 : decide ((k : Int) < 64) = false := decide_eq_false (by omega)
      have HRW := Lib.hid (HR.out.congr (fun j (hj : j < 64) => show U (cur2 m k j) = U (W m j) by rw [cur2_lt m (by omega)]))
      have hs : wr.heap.size ≥ N + 3 := by have := HKp.out.size; rw [HSZ.out] at this; omega
      have HR0' := Lib.hid (HR0.out.of_kp HKp.out (by omega))
      have HR1' := Lib.hid (HR1.out.of_kp HKp.out (by omega))
      have HB' := Lib.hid (show Below N w wr from HB.out.trans (HKp.out.below (by omega) (by rw [HSZ.out]; omega)))
      clear HR HKp hk hlt HR0 HR1 HB HR2 HSZ
      go_wp2_with (refine wpList_load_mid rfl 94 (.tmp 2) rfl N 0 rfl _ _ HR0'.out.range und38 rfl (by rw [size38]; simp [tab]) ?_)
      have hV0 : Row (wr.alloc (.cells (tab 8 fun i => U (s.get i)) 94)) wr.heap.size 94 8 (fun i => U (s.get i)) := Row.new wr 94 8 _
      have hal : Below wr.heap.size wr (wr.alloc (.cells (tab 8 fun i => U (s.get i)) 94)) := (Below.refl _ _).alloc (Nat.le_refl _) _
      have HV := Lib.hid hV0
      have HW5 := Lib.hid (HRW.out.of_below hal)
      have H05 := Lib.hid (HR0'.out.of_below hal)
      have H15 := Lib.hid (HR1'.out.of_below hal)
      have HB5 := Lib.hid (HB'.out.trans (hal.mono (by omega)))
      have HS5 := Lib.hid (show (wr.alloc (.cells (tab 8 fun i => U (s.get i)) 94)).heap.size = wr.heap.size + 1 by simp)
      clear hV0 hal HRW HR0' HR1' HB'
      generalize wr.alloc (.cells (tab 8 fun i => U (s.get i)) 94) = w5 at *
      generalize hVV : wr.heap.size = V at *
      clear hVV
      go_loopw [11] (fun t wv => ∃ k : Nat, k ≤ 64 ∧ t = .int .i64 k ∧ Row wv V 94 8 (fun i => U ((rnds m s k).get i)) ∧ Kp V w5 wv) (fun t _ => 64 - (intOf t).toNat)
      case atStart => exact ⟨0, by decide, rfl, HV.out, Kp.refl _ _⟩
      case round =>
        clear hd0 e64
        obtain ⟨k, hk, rfl, hR, hKp⟩ := hrel
        have HR := Lib.hid hR
        have HKp := Lib.hid hKp
        by_cases hlt : k < 64
        · have hd0 : decide ((k : Int) < 64) = true := decide_eq_true (by omega)
          have hl0 : (k : Int) < 64 := by omega
          have hRN : Hid (rnds m s (k + 1) = rnd (rnds m s k) (K k) (W m k)) := rfl
          have cK : wr.cell? ⟨1, k, none⟩ = some (U (K k)) := by
            have := HK.out k hlt
            rw [hKp.cell (p := ⟨1, k, none⟩) (by rw [HS5.out]; show 1 < _; omega) (by show 1 ≠ _; omega), HB5.out.cell (by show 1 < N; exact h1w)]
            exact this
          have cW : wr.cell? ⟨N + 2, k, none⟩ = some (U (W m k)) := (HW5.out.of_kp hKp (by omega)).cell k hlt
          generalize rnds m s k = r at *
          have v0 : wr.cell? ⟨V, 0, none⟩ = some (U r.a) := HR.out.cell 0 (by decide)
          have v1 : wr.cell? ⟨V, 1, none⟩ = some (U r.b) := HR.out.cell 1 (by decide)
          have v2 : wr.cell? ⟨V, 2, none⟩ = some (U r.c) := HR.out.cell 2 (by decide)
          have v3 : wr.cell? ⟨V, 3, none⟩ = some (U r.d) := HR.out.cell 3 (by decide)
          have v4 : wr.cell? ⟨V, 4, none⟩ = some (U r.e) := HR.out.cell 4 (by decide)
          have v5 : wr.cell? ⟨V, 5, none⟩ = some (U r.f) := HR.out.cell 5 (by decide)
          have v6 : wr.cell? ⟨V, 6, none⟩ = some (U r.g) := HR.out.cell 6 (by decide)
          have v7 : wr.cell? ⟨V, 7, none⟩ = some (U r.h) := HR.out.cell 7 (by decide)
          clear hR hKp
          go_wp2
          go_quiet ((first | (go_at_call 68; exact quiet_same (turn_at _ _ (by decide) (by decide) _) (by first | exact ⟨_, rfl⟩ | exact draws _ _ _)) | (go_at_call 69; exact quiet_same (moved_at _ _ (by decide) (by decide) _) (by first | exact ⟨_, rfl⟩ | exact draws _ _ _))))
          have HRq := Lib.hid (HR.out.drewN nq)
          have HKq := Lib.hid (HKp.out.drewN nq)
          have x0 : (wr.drewN nq).cell? ⟨V, 0, none⟩ = some (U r.a) := v0
          have x1 : (wr.drewN nq).cell? ⟨V, 1, none⟩ = some (U r.b) := v1
          have x2 : (wr.drewN nq).cell? ⟨V, 2, none⟩ = some (U r.c) := v2
          have x3 : (wr.drewN nq).cell? ⟨V, 3, none⟩ = some (U r.d) := v3
          have x4 : (wr.drewN nq).cell? ⟨V, 4, none⟩ = some (U r.e) := v4
          have x5 : (wr.drewN nq).cell? ⟨V, 5, none⟩ = some (U r.f) := v5
          have x6 : (wr.drewN nq).cell? ⟨V, 6, none⟩ = some (U r.g) := v6
          have x7 : (wr.drewN nq).cell? ⟨V, 7, none⟩ = some (U r.h) := v7
          clear v0 v1 v2 v3 v4 v5 v6 v7 cK cW HR HKp
          generalize wr.drewN nq = wq at *
          have hst := fun n a b c d e f g h => st_g8 HRq.out n ⟨a, b, c, d, e, f, g, h⟩
          go_wp2
          go_quiet ((first | (go_at_call 68; exact quiet_same (turn_at _ _ (by decide) (by decide) _) (by first | exact ⟨_, rfl⟩ | exact draws _ _ _)) | (go_at_call 69; exact quiet_same (moved_at _ _ (by decide) (by decide) _) (by first | exact ⟨_, rfl⟩ | exact draws _ _ _))))
          go_wp2
          go_roundw
          case rel =>
            refine ⟨k + 1, by omega, by go_num, ?_, (HKq.out.setRow _).drewN _⟩
            rw [hRN.out]
            exact (HRq.out.setRow fun i => U ((rnd r (K k) (W m k)).get i)).drewN _
          case measure => simp [intOf]; omega
        · have e64 : Hid (k = 64) := by show k = 64; omega
          have hd0 : decide ((k : Int) < 64) = false := decide_eq_false (by omega)
          have hsz : w5.heap.size ≤ wr.heap.size := hKp.size
          have H06 := Lib.hid (H05.out.of_kp hKp (by omega))
          have H16 := Lib.hid (H15.out.of_kp hKp (by omega))
          have HB6 := Lib.hid (show Below N w wr from HB5.out.trans (hKp.below (by omega) (by rw [HS5.out]; omega)))
          have h16 : N + 1 < wr.heap.size := H16.out.lt
          have h06 : N < wr.heap.size := H06.out.lt
          have HHk := Lib.hid (show rnds m s 64 = rnds m s k by rw [e64.out])
          generalize rnds m s k = r at *
          clear hR hKp HKp H05 H15 HB5 HW5 HV hk hlt e64
          obtain ⟨w6, rfl⟩ : ∃ x, x = wr := ⟨_, rfl⟩
          go_wp2
          go_loopw [191] (fun t wv => ∃ k : Nat, k ≤ 8 ∧ t = .int .i64 k ∧ Row wv N 94 8 (fun i => U (if i < k then s.get i + r.get i else s.get i)) ∧ Kp N w6 wv) (fun t _ => 8 - (intOf t).toNat)
          case atStart => exact ⟨0, by decide, rfl, H06.out, Kp.refl _ _⟩
          case round =>
            clear hd0
            obtain ⟨k, hk, rfl, hR2, hKp2⟩ := hrel
            have HR2 := Lib.hid hR2
            have HKp2 := Lib.hid hKp2
            by_cases hlt : k < 8
            · have cN : wr.cell? ⟨N, k, none⟩ = some (U (s.get k)) := by
                have := hR2.cell k hlt
                rwa [if_neg (Nat.lt_irrefl k)] at this
              have fN : wr.frozen? ⟨N, k, none⟩ = false := hR2.free k
              have cV : wr.cell? ⟨V, k, none⟩ = some (U (r.get k)) := (HR.out.of_kp hKp2 (by omega)).cell k hlt
              clear hR2 hKp2
              go_wp2
              refine wp_region_still_tail 9 (by kernel_rfl) (by kernel_rfl) ?_
              simp only [List.take_succ_cons, List.take_zero, List.drop_succ_cons, List.drop_zero, World.drew_eq]
              repeat (refine wpStill_step (fun K hK => ?_); go_simp; (try go_bits); refine hK _ ?_; clear hK K)
              refine wpStill_nil ?_
              go_wp2
              go_roundw
              case rel =>
                refine ⟨k + 1, by omega, by go_num, ((HR2.out.set k _).drew).congr (fun i _ => ?_), (HKp2.out.setCell _ _).drewN 1⟩
                by_cases e : i = k
                · subst e; rw [if_pos rfl, if_pos (by omega)]
                · rw [if_neg e]
                  by_cases e2 : i < k
                  · rw [if_pos e2, if_pos (by omega)]
                  · rw [if_neg e2, if_neg (by omega)]
              case measure => simp [intOf]; omega
            · have e8 : Hid (k = 8) := by show k = 8; omega
              have hd8 : decide ((k : Int) < 8) = false := decide_eq_false (by omega)
              have HX := Lib.hid (HR2.out.congr (fun i (hi : i < 8) => show _ = U ((comp s m).get i) by rw [e8.out, if_pos hi, comp, get_add8, HHk.out]))
              have HT := Lib.hid (H16.out.of_kp hKp2 (by omega)).there
              have HB7 := Lib.hid (show Below N w wr from HB6.out.trans (hKp2.below (Nat.le_refl _) (by omega)))
              clear hR2 hKp2 HR2 HKp2 hk hlt e8 H06 H16 HB6 HR
              go_wp2_with (first | (refine wpList_load_mid rfl 94 (.tmp 2) rfl N 0 rfl _ _ HX.out.range und38 rfl (by rw [size38]; simp [tab]) ?_) | (refine wpList_store_mid rfl 94 (.tmp 4) (.tmp 204) rfl (N + 1) 0 (tab 8 fun i => U ((comp s m).get i)) rfl (by simp [Act.put, Act.eval]) (by rw [tab_size]; exact HT.out) (by rw [size38, tab_size]) (by simp [tab, one_U]) ?_))
              refine body_cell rfl rfl (World.rangeAt_setCells_same _ (N + 1) 0 (tab 8 fun i => U ((comp s m).get i)).toList (by have := HT.out; simpa [tab] using this)) und38 rfl (by rw [size38]; simp [tab]) rfl ⟨by rw [Array.toArray_toList]; rfl, ?_⟩
              rw [HN.out]
              exact below_setCells _ _ HB7.out (by omega)
end Go.Proofs.YtllpcllgliknpaaGreatDoor.Sha
