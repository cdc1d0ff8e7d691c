/- What the program does with a complete block. -/
import Derived.Test.YtllpcllgliknpaaGreatDoorShMem
set_option linter.unusedSimpArgs false
set_option maxRecDepth 100000
set_option linter.unusedVariables false
namespace Go.Proofs.YtllpcllgliknpaaGreatDoor.Sha
open Go Go.RowKit

theorem st_new50 (w : World) (f : Nat → BitVec 32) : (stT 111 (.pointer (some ⟨w.heap.size, 0, none⟩)) (.agg (tab 64 fun t => U (f t)))).run Tryz.prog (w.alloc (.cells (zw 64) 111)) = .ok .skip (w.alloc (.cells (tab 64 fun t => U (f t)) 111)) := by
  have h := run_storeAt_new (P := Tryz.prog) w 111 (zw 64) (tab 64 fun t => U (f t)) (by rw [size50, tab_size]) (by rw [zw, tab_size, tab_size]) (by simp [tab, one_U])
  simp only [stT, Sem.run_bind, h, Result.andThen, Sem.run_pure]
attribute [local go_sem ↓] exec_alloc50
attribute [local go_sem] st_new50 tab_get

/-- A build, its operands reckoned first. -/
def bdT (t : TypeId) (parts : Array (Nat × Value)) : Sem Next := do pure (.value (← Instr.build t parts))
theorem exec_build (r : Operand → Value) (dst : Option Tmp) (t : TypeId) (parts : Array (Nat × Operand)) (ty : TypeId) (pos : String) (after : Array Edge) (guard : Option (Nat × Bool)) :
    execOp r ⟨dst, .build t parts, ty, pos, after, guard⟩ = bdT t (parts.map fun x => (x.1, r x.2)) := rfl
theorem info38 : (Tryz.prog.info? 94).map (fun i => (i.zero, i.size)) = some (some (.agg (Array.replicate 8 (Value.int .u32 0))), 8) := by kernel_rfl
theorem und38 : Tryz.prog.underlying 94 = some (.array 8 93) := by kernel_rfl
theorem sizeOf37 (w : World) : (sizeOf 93).run Tryz.prog w = .ok 1 w := by
  have h := size37
  cases hq : Tryz.prog.info? 93 with
  | none => simp [hq] at h
  | some i =>
    have hi : i.size = 1 := by simpa [hq] using h
    simp [sizeOf, typeInfo, hq, hi]
theorem fill8 (z a b c d e f g h : Value) (ha : a.cells = #[a]) (hb : b.cells = #[b]) (hc : c.cells = #[c]) (hd : d.cells = #[d]) (he : e.cells = #[e]) (hf : f.cells = #[f]) (hg : g.cells = #[g]) (hh : h.cells = #[h]) :
    Instr.fill (fun i => some (i * 1, 1)) (Array.replicate 8 z) [(0, a), (1, b), (2, c), (3, d), (4, e), (5, f), (6, g), (7, h)] = some #[a, b, c, d, e, f, g, h] := by
  rw [show Array.replicate 8 z = #[z, z, z, z, z, z, z, z] from rfl]
  simp [Instr.fill, ha, hb, hc, hd, he, hf, hg, hh]
theorem bd_U8 (a b c d e f g h : BitVec 32) (w : World) :
    (bdT 94 #[(0, U a), (1, U b), (2, U c), (3, U d), (4, U e), (5, U f), (6, U g), (7, U h)]).run Tryz.prog w = .ok (.value (.agg #[U a, U b, U c, U d, U e, U f, U g, U h])) w := by
  have hz := (zero_of_info info38).1 w
  have hc : Value.cells (.agg (Array.replicate 8 (Value.int .u32 0))) = Array.replicate 8 (Value.int .u32 0) := rfl
  have hf := fill8 (Value.int .u32 0) (U a) (U b) (U c) (U d) (U e) (U f) (U g) (U h) (cells_U _) (cells_U _) (cells_U _) (cells_U _) (cells_U _) (cells_U _) (cells_U _) (cells_U _)
  simp only [bdT, Instr.build, Sem.run_bind, hz, Result.andThen, hc, run_underlying und38, sizeOf37, hf, Sem.run_pure]
/-- An element, its operands reckoned first. -/
def ixT (t : TypeId) (x i : Value) : Sem Next := do pure (.value (← Instr.index t x i))
theorem exec_index (r : Operand → Value) (dst : Option Tmp) (t : TypeId) (x i : Operand) (ty : TypeId) (pos : String) (after : Array Edge) (guard : Option (Nat × Bool)) :
    execOp r ⟨dst, .index t x i, ty, pos, after, guard⟩ = ixT t (r x) (r i) := rfl
theorem isAgg37 (w : World) : (isAgg 93).run Tryz.prog w = .ok false w := by
  simp only [isAgg, Sem.run_bind, run_underlying (show Tryz.prog.underlying 93 = some (.int .u32) by kernel_rfl), Result.andThen, Sem.run_pure]
theorem ix_run (cs : Array Value) (k : Nat) (hk : k < 8) (v : Value) (hv : cs[k]? = some v) (w : World) : (ixT 94 (.agg cs) (.int .i64 k)).run Tryz.prog w = .ok (.value v) w := by
  have h0 : (0 : Int) ≤ (k : Int) ∧ (k : Int) < (8 : Nat) := by omega
  simp only [ixT, Instr.index, asIntOf, Sem.run_bind, Sem.run_pure, Result.andThen, run_underlying und38, sizeOf37, h0, and_self, if_true, part, isAgg37, Int.toNat_natCast, Nat.mul_one, hv, Bool.false_eq_true, if_false]
theorem ix_U8 (s : S8) (k : Nat) (hk : k < 8) (w : World) :
    (ixT 94 (.agg #[U s.a, U s.b, U s.c, U s.d, U s.e, U s.f, U s.g, U s.h]) (.int .i64 k)).run Tryz.prog w = .ok (.value (U (s.get k))) w := by
  refine ix_run _ k hk _ ?_ w
  match k, hk with
  | 0, _ | 1, _ | 2, _ | 3, _ | 4, _ | 5, _ | 6, _ | 7, _ => rfl
attribute [local go_sem ↓] exec_build exec_index
attribute [local go_sem] ix_U8
attribute [local go_sem] bd_U8
/-- The table of the constants lies where the program has it. -/
def Kt (w : World) : Prop := ∀ t, t < 64 → w.cell? ⟨1, t, none⟩ = some (U (K t))
set_option maxRecDepth 100000 in
set_option maxHeartbeats 1000000 in
theorem mix_any (b : Nat) (T : TypeId) (s : S8) (m : Nat → BitVec 8) (n : Nat) (w : World) (h : Blk w b T s.get m n) (hk : Kt w) (hb : 1 < b) :
    Calls Tryz.prog 79 #[.pointer (some ⟨b, 0, none⟩)] w fun e w' => e = .returned (.tuple #[]) ∧ Blk w' b T (comp s m).get m n ∧ Kp b w w' := by
  have hH := Lib.hid h
  have hK := Lib.hid hk
  clear h hk
  go_enter Tryz.func79, Tryz.ntmps79
  go_wp2_with (first | (go_at_call 107; refine (schedule_any b 8 m _ hH.out.byte).mono ?_; rintro e w1 ⟨rfl, hw1⟩))
  have hB1 : Blk w1 b T s.get m n := hH.out.of_below hw1
  have hbl : b < w1.heap.size := hB1.lt
  have hkp := Lib.hid ((Kp.refl b w).of_below hw1)
  have c0 : w1.cell? ⟨b, 0, none⟩ = some (U s.a) := hB1.word 0 (by decide)
  have c1 : w1.cell? ⟨b, 1, none⟩ = some (U s.b) := hB1.word 1 (by decide)
  have c2 : w1.cell? ⟨b, 2, none⟩ = some (U s.c) := hB1.word 2 (by decide)
  have c3 : w1.cell? ⟨b, 3, none⟩ = some (U s.d) := hB1.word 3 (by decide)
  have c4 : w1.cell? ⟨b, 4, none⟩ = some (U s.e) := hB1.word 4 (by decide)
  have c5 : w1.cell? ⟨b, 5, none⟩ = some (U s.f) := hB1.word 5 (by decide)
  have c6 : w1.cell? ⟨b, 6, none⟩ = some (U s.g) := hB1.word 6 (by decide)
  have c7 : w1.cell? ⟨b, 7, none⟩ = some (U s.h) := hB1.word 7 (by decide)
  have hK1 : Kt w1 := fun t ht => by
    have := hK.out t ht
    rw [hw1.cell (World.block_lt_of_cell? w _ this)]; exact this
  have hKK := Lib.hid hK1
  have hBB := Lib.hid hB1
  clear hw1 hH hK hB1 hK1
  go_quiet (fail)
  go_wp2
  go_quiet (fail)
  go_wp2
  clear c0 c1 c2 c3 c4 c5 c6 c7
  have hN : ∀ t, t < 64 → (w1.alloc (.cells (tab 64 fun t => U (W m t)) 111)).cell? ⟨w1.heap.size, t, none⟩ = some (U (W m t)) := fun t ht => by
    rw [World.cell?_alloc_new]; exact tab_get _ _ _ ht
  have hO : ∀ c i, c < w1.heap.size → (w1.alloc (.cells (tab 64 fun t => U (W m t)) 111)).cell? ⟨c, i, none⟩ = w1.cell? ⟨c, i, none⟩ := fun c i hc => World.cell?_alloc_lt _ _ _ hc
  have HN := Lib.hid hN
  have HO := Lib.hid hO
  have hkp2 := Lib.hid (hkp.out.alloc (.cells (tab 64 fun t => U (W m t)) 111))
  have hB2 : Blk (w1.alloc (.cells (tab 64 fun t => U (W m t)) 111)) b T s.get m n := hBB.out.of_below ((Below.refl _ _).alloc (Nat.le_refl _) _)
  have HB2 := Lib.hid hB2
  clear hN hO hB2 hkp hBB
  have hD0 : ∀ n1 n2, Dr (w1.alloc (.cells (tab 64 fun t => U (W m t)) 111)) (((w1.alloc (.cells (tab 64 fun t => U (W m t)) 111)).drewN n1).drewN n2) := fun n1 n2 => ((Dr.refl _).drewN n1).drewN n2
  generalize w1.alloc (.cells (tab 64 fun t => U (W m t)) 111) = w2 at *
  go_loopw [3, 4, 5, 6, 7, 8, 9, 10, 60] (fun a' b' c' d' e' f' g' h' i wr => ∃ (k : Nat), k ≤ 64 ∧ i = .int .i64 k ∧ a' = U (rnds m s k).a ∧ b' = U (rnds m s k).b ∧ c' = U (rnds m s k).c ∧ d' = U (rnds m s k).d ∧ e' = U (rnds m s k).e ∧ f' = U (rnds m s k).f ∧ g' = U (rnds m s k).g ∧ h' = U (rnds m s k).h ∧
    Dr w2 wr) (fun _ _ _ _ _ _ _ _ i _ => 64 - (intOf i).toNat)
  case atStart => exact ⟨0, by decide, rfl, rfl, rfl, rfl, rfl, rfl, rfl, rfl, rfl, hD0 _ _⟩
  case round =>
    clear hD0
    obtain ⟨k, hk, rfl, rfl, rfl, rfl, rfl, rfl, rfl, rfl, rfl, hD⟩ := hrel
    have HD := Lib.hid hD
    by_cases hlt : k < 64
    · have ck : wr.cell? ⟨1, k, none⟩ = some (U (K k)) := by rw [hD.cell, HO.out 1 k (by omega)]; exact hKK.out k hlt
      have cw : wr.cell? ⟨w1.heap.size, k, none⟩ = some (U (W m k)) := by rw [hD.cell]; exact HN.out k hlt
      clear hD
      have hR : Hid (rnds m s (k + 1) = rnd (rnds m s k) (K k) (W m k)) := rfl
      generalize rnds m s k = r at *
      go_wp2
      go_quiet ((go_at_call 108; exact Calls.quiet_of_same (bigSigma1_any _ _)))
      go_wp2_with (go_at_call 109; refine (bigSigma0_any _ _).mono ?_; rintro e w' ⟨rfl, rfl⟩)
      go_roundw
      case rel =>
        refine ⟨k + 1, by omega, by go_num, ?_⟩
        rw [hR.out]
        exact ⟨rfl, rfl, rfl, rfl, rfl, rfl, rfl, rfl, HD.out.drewN _⟩
      case measure => simp [intOf]; omega
    · have hd : decide ((k : Int) < 64) = false := decide_eq_false (by omega)
      obtain ⟨N, rfl⟩ := hD
      clear HD
      generalize hr : rnds m s k = r at *
      have HR := Lib.hid hr
      have Hk : Hid (k = 64) := by show k = 64; omega
      clear hr hk hlt
      go_wp2
      go_loopw [120] (fun i wr => ∃ k : Nat, k ≤ 8 ∧ i = .int .i64 k ∧ Blk wr b T (fun j => if j < k then s.get j + r.get j else s.get j) m n ∧ Kp b w wr) (fun i _ => 8 - (intOf i).toNat)
      case atStart => exact ⟨0, by decide, rfl, (HB2.out.drewN _).congr (fun i _ => rfl) (fun j _ => rfl), hkp2.out.drewN _⟩
      case round =>
        clear hd
        obtain ⟨k, hk, rfl, hB, hKp⟩ := hrel
        have HB := Lib.hid hB
        have HKp := Lib.hid hKp
        by_cases hlt : k < 8
        · have ck : wr.cell? ⟨b, k, none⟩ = some (U (s.get k)) := by
            have := hB.word k hlt
            rwa [if_neg (Nat.lt_irrefl k)] at this
          have fk : wr.frozen? ⟨b, k, none⟩ = false := hB.free k
          clear hB hKp hbl
          go_wp2
          refine wp_region_still_tail 11 (by kernel_rfl) (by kernel_rfl) ?_
          simp only [List.take_succ_cons, List.take_zero, List.drop_succ_cons, List.drop_zero, World.drew_eq]
          repeat (refine wpStill_step (fun K hK => ?_); go_simp; (try go_bits); refine hK _ ?_; clear hK K)
          refine wpStill_nil ?_
          go_wp2
          go_roundw
          case rel =>
            refine ⟨k + 1, by omega, by go_num, ?_, ?_⟩
            · refine ((HB.out.setWord k hlt _).drewN 1).congr (fun i _ => ?_) (fun j _ => rfl)
              by_cases e : i = k
              · subst e; simp
              · rw [if_neg e]
                by_cases e2 : i < k
                · rw [if_pos e2, if_pos (by omega)]
                · rw [if_neg e2, if_neg (by omega)]
            · exact (HKp.out.setCell _ _).drewN 1
          case measure => simp [intOf]; omega
        · clear hbl
          go_wp2
          go_end0
          have e8 : k = 8 := by omega
          subst e8
          refine ⟨rfl, HB.out.congr (fun i hi => ?_) (fun _ _ => rfl), HKp.out⟩
          rw [if_pos hi, comp, get_add8, ← Hk.out, HR.out]
end Go.Proofs.YtllpcllgliknpaaGreatDoor.Sha
