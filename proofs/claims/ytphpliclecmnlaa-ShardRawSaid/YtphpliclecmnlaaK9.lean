/- Merged texts: Lift, LiftM, LiftB, Par4, JoinP. -/
import Derived.Test.YtphpliclecmnlaaRows
import Derived.ProofKit
import Derived.OpenShut
import Derived.Deep.DeepHandedRow
import Derived.Test.YtphpliclecmnlaaK1
import Derived.Deep.Matrix
import Derived.Test.YtphpliclecmnlaaK2
import Derived.Deep.Grids
import Derived.Test.YtphpliclecmnlaaK5
import Derived.Test.YtphpliclecmnlaaK4
import Derived.Test.YtphpliclecmnlaaK6
set_option linter.unusedSimpArgs false
set_option linter.unusedVariables false
/- What the statements' arguments read as, in the walks' words. -/
namespace Go.Proofs.Ytphpliclecmnlaa
open Go Go.ChangeShapes Go.WideShapes Go.ChangeAt Go.RowKit

theorem own : ownKnob Try.prog.godebug = none := by kernel_rfl
theorem laidOut : laidOutB Try.prog = true := by kernel_rfl
theorem cellsByte : Try.prog.cellsOf 5 = 1 := by kernel_rfl
theorem undByte : Try.prog.underlying 5 = some (.int .u8) := by kernel_rfl
theorem undBytes : Try.prog.underlying 38 = some (.slice 5) := by kernel_rfl
/-- The bytes of a slice of numbers. -/
def bytesOf (zs : List Int) : List (BitVec 8) := zs.map fun z => BitVec.ofInt 8 z
theorem B_ofInt {z : Int} (h : (Lit.int .u8 z).wf = true) : B (BitVec.ofInt 8 z) = .int .u8 z := by
  have := bounds_u8 h
  rw [B_eq']
  congr 1
  rw [BitVec.toNat_ofInt]
  omega
theorem Sl_of_ints {W : World} {a : Addr} {len : Nat} {zs : List Int} (hz : len ≤ zs.length) (hc : ∀ i, i < zs.length → W.cell? (a.add i) = some (.int .u8 (zs.getD i 0))) (hw : ∀ n ∈ zs, (Lit.int .u8 n).wf = true) :
    Sl W (some a) (bytesOf (zs.take len)) := fun j hj => by
  have hj' : j < len := by simp [bytesOf] at hj; omega
  have h0 := hc 0 (by omega)
  rw [Addr.add_zero'] at h0
  have hs : a.spot = none := by
    cases h : a.spot with
    | none => rfl
    | some s =>
      unfold World.cell? at h0
      split at h0
      · simp [h] at h0
      · cases h0
  obtain ⟨c, o, sp⟩ := a
  obtain rfl : sp = none := hs
  refine ⟨c, o, rfl, ?_⟩
  have hj2 := hc j (by omega)
  rw [Addr.add_mid] at hj2
  rw [hj2]
  have hjz : j < zs.length := by omega
  have e : (bytesOf (zs.take len)).getD j 0#8 = BitVec.ofInt 8 zs[j] := by
    simp [bytesOf, List.getD_eq_getElem?_getD, hj', hjz]
  rw [e, B_ofInt (hw _ (List.getElem_mem hjz))]
  simp [List.getD_eq_getElem?_getD, hjz]
theorem bytesOf_length (zs : List Int) : (bytesOf zs).length = zs.length := by simp [bytesOf]
/-- An argument that is a slice of bytes. -/
theorem open_bytes {H : Type} {enc : TypeId × Value → H} {W : World} {a0 : Option Addr} {len cap : Nat} {d : DataW H} {ps : List MemPlace}
    (h : DataW.Trod enc Try.prog W 0 (fun _ => true) true 38 (.slice a0 len cap) d ps) : ∃ l : List (BitVec 8), Sl W a0 l ∧ l.length = len ∧ (a0 = none → cap = 0) := by
  obtain ⟨fuel, hfu⟩ := h
  rcases open_ints undBytes undByte cellsByte hfu with ⟨hcs, _⟩ | ⟨a, len', cap', zs, hcs, _, hl, hm, hz, hx, hcell, hwz⟩
  · simp [Value.cells] at hcs
    obtain ⟨rfl, rfl, rfl⟩ := hcs
    exact ⟨[], fun j hj => absurd hj (by simp), rfl, fun _ => rfl⟩
  · simp [Value.cells] at hcs
    obtain ⟨rfl, rfl, rfl⟩ := hcs
    have hzl : len ≤ zs.length := by rw [hz]; split <;> omega
    have hln : (bytesOf (zs.take len)).length = len := by rw [bytesOf_length, List.length_take]; omega
    exact ⟨bytesOf (zs.take len), Sl_of_ints hzl hcell hwz, hln, fun h => by cases h⟩
end Go.Proofs.Ytphpliclecmnlaa
/- Arguments that are slices of slices of bytes, in the walks' words. -/
namespace Go.Proofs.Ytphpliclecmnlaa
open Go Go.ChangeShapes Go.WideShapes Go.ChangeAt Go.RowKit

theorem cellsBytes : Try.prog.cellsOf 38 = 1 := by kernel_rfl
theorem Prt_of_rows {W : World} {a : Addr} {len : Nat} {A : Nat → Option Addr} {L C : Nat → Nat} {Z : Nat → List Int}
    (h : ∀ r, r < len → W.cell? (a.add r) = some (.slice (A r) (L r) (C r)) ∧ L r ≤ C r ∧ (Z r).length = C r ∧ (∀ n ∈ Z r, (Lit.int .u8 n).wf = true) ∧ (A r = none → C r = 0) ∧ ∀ a', A r = some a' → ∀ c, c < C r → W.cell? (a'.add c) = some (.int .u8 ((Z r).getD c 0))) :
    Prt W (some a) ((List.range len).map fun r => bytesOf ((Z r).take (L r))) := fun r hr => by
  have hr' : r < len := by simpa using hr
  obtain ⟨h1, h2, h3, h4, h5, h6⟩ := h r hr'
  have hs : a.spot = none := by
    have h0 := (h 0 (by omega)).1
    rw [Addr.add_zero'] at h0
    cases h : a.spot with
    | none => rfl
    | some s =>
      unfold World.cell? at h0
      split at h0
      · simp [h] at h0
      · cases h0
  obtain ⟨c, o, sp⟩ := a
  obtain rfl : sp = none := hs
  have e : ((List.range len).map fun r => bytesOf ((Z r).take (L r))).getD r [] = bytesOf ((Z r).take (L r)) := by
    simp [List.getD_eq_getElem?_getD, hr']
  rw [e]
  have el : (bytesOf ((Z r).take (L r))).length = L r := by rw [bytesOf_length, List.length_take]; omega
  refine ⟨c, o, A r, C r, rfl, ?_, ?_, h5, by rw [el]; exact h2⟩
  · rw [el, ← Addr.add_mid]; exact h1
  · cases hA : A r with
    | none =>
      have := h5 hA
      intro j hj
      omega
    | some a' => exact Sl_of_ints (by omega) (fun i hi => h6 a' hA i (by omega)) h4
/-- An argument that is a slice of slices of bytes. -/
theorem open_rows {H : Type} {enc : TypeId × Value → H} {W : World} {a0 : Option Addr} {len cap : Nat} {d : DataW H} {ps : List MemPlace}
    (h : DataW.Trod enc Try.prog W 0 (fun _ => true) true 23 (.slice a0 len cap) d ps) : ∃ ls : List (List (BitVec 8)), Prt W a0 ls ∧ ls.length = len ∧ (a0 = none → cap = 0) ∧ len < 9223372036854775808 := by
  obtain ⟨fuel, hfu⟩ := h
  rcases Go.Deep.open_int_rows undRows undBytes undByte cellsBytes cellsByte hfu with ⟨hcs, _⟩ | ⟨a, len', cap', A, L, C, Z, hcs, _, hl, hmx, _, hx⟩
  · simp [Value.cells] at hcs
    obtain ⟨rfl, rfl, rfl⟩ := hcs
    exact ⟨[], fun j hj => absurd hj (by simp), rfl, fun _ => rfl, by omega⟩
  · simp [Value.cells] at hcs
    obtain ⟨rfl, rfl, rfl⟩ := hcs
    exact ⟨(List.range len).map fun r => bytesOf ((Z r).take (L r)), Prt_of_rows fun r hr => by
      obtain ⟨g1, g2, _, g3, g4, g5, g6⟩ := hx r (by omega)
      exact ⟨g1, g2, g3, g4, g5, fun a' ha => (g6 a' ha).2⟩, by simp, (fun h => by cases h), by simp only [maxLen] at hmx; omega⟩
end Go.Proofs.Ytphpliclecmnlaa
/- Arguments that are arrays of two bytes, or slices of bools, in the walks' words. -/
namespace Go.Proofs.Ytphpliclecmnlaa
open Go Go.ChangeShapes Go.WideShapes Go.ChangeAt Go.RowKit

theorem undArrB : Try.prog.underlying 22 = some (.array 2 5) := by kernel_rfl
theorem cellsArrB : Try.prog.cellsOf 22 = 2 := by kernel_rfl
/-- An argument that is an array of two bytes. -/
theorem open_arrB {H : Type} {enc : TypeId × Value → H} {W : World} {r : _root_.Go.Reach} {b0 : Nat} {v : Value} {d : DataW H} {ps : List MemPlace} (hval : Value.okWide Try.prog W r b0 22 v)
    (h : DataW.Trod enc Try.prog W 0 (fun _ => true) true 22 v d ps) : ∃ a b : Int, v = .agg #[.int .u8 a, .int .u8 b] ∧ ps = [] ∧ (Lit.int .u8 a).wf = true ∧ (Lit.int .u8 b).wf = true := by
  simp only [Value.okWide, undArrB] at hval
  obtain ⟨cs, rfl, hsz, -⟩ := hval
  rw [cellsArrB] at hsz
  obtain ⟨fuel, hf⟩ := h
  obtain ⟨xs, m, -, hx, hl, hn, hi⟩ := DataW.trod_array undArrB hf
  rw [cellsByte] at hi
  have hc : ((Value.agg cs).cells.toList) = cs.toList := rfl
  rw [hc] at hi
  obtain ⟨l⟩ := cs
  match l, hsz with
  | [u, v], _ =>
    have e0 := hi 0 (by decide)
    have e1 := hi 1 (by decide)
    simp at e0 e1
    match xs, hn with
    | [y0, y1], _ =>
      simp at e0 e1
      obtain ⟨a, ha, hya, hwa⟩ := DataW.trod_int undByte e0
      obtain ⟨b, hb, hyb, hwb⟩ := DataW.trod_int undByte e1
      simp at ha hb
      subst ha hb
      refine ⟨a, b, rfl, ?_, hwa, hwb⟩
      simp only [Prod.mk.injEq] at hx
      rw [hx.2, hya, hyb]
      rfl
theorem undBools : Try.prog.underlying 40 = some (.slice 4) := by kernel_rfl
theorem undBool : Try.prog.underlying 4 = some .bool := by kernel_rfl
theorem cellsBool : Try.prog.cellsOf 4 = 1 := by kernel_rfl
theorem Bl_of {W : World} {a : Addr} {len cap : Nat} {f : Nat → Bool} (hl : len ≤ cap) (hc : ∀ i, i < cap → W.cell? (a.add i) = some (.bool (f i))) : Bl W (some a) ((List.range len).map f) := fun j hj => by
  have hj' : j < len := by simpa using hj
  have h0 := hc 0 (by omega)
  rw [Addr.add_zero'] at h0
  have hs : a.spot = none := by
    cases h : a.spot with
    | none => rfl
    | some s =>
      unfold World.cell? at h0
      split at h0
      · simp [h] at h0
      · cases h0
  obtain ⟨c, o, sp⟩ := a
  obtain rfl : sp = none := hs
  refine ⟨c, o, rfl, ?_⟩
  have hj2 := hc j (by omega)
  rw [Addr.add_mid] at hj2
  rw [hj2]
  simp [List.getD_eq_getElem?_getD, hj']
/-- An argument that is a slice of bools. -/
theorem open_bls {H : Type} {enc : TypeId × Value → H} {W : World} {a0 : Option Addr} {len cap : Nat} {d : DataW H} {ps : List MemPlace}
    (h : DataW.Trod enc Try.prog W 0 (fun _ => true) true 40 (.slice a0 len cap) d ps) : ∃ th : List Bool, Bl W a0 th ∧ th.length = len ∧ (a0 = none → cap = 0) := by
  obtain ⟨fuel, hfu⟩ := h
  rcases Go.Deep.open_bools undBools undBool cellsBool hfu with ⟨hcs, _⟩ | ⟨a, len', cap', f, hcs, _, hl, _, _, hcell⟩
  · simp [Value.cells] at hcs
    obtain ⟨rfl, rfl, rfl⟩ := hcs
    exact ⟨[], fun j hj => absurd hj (by simp), rfl, fun _ => rfl⟩
  · simp [Value.cells] at hcs
    obtain ⟨rfl, rfl, rfl⟩ := hcs
    exact ⟨(List.range len).map f, Bl_of hl hcell, by simp, fun h => by cases h⟩
/-- Such an argument's capacity. -/
theorem open_cap {H : Type} {enc : TypeId × Value → H} {W : World} {a0 : Option Addr} {len cap : Nat} {d : DataW H} {ps : List MemPlace}
    (h : DataW.Trod enc Try.prog W 0 (fun _ => true) true 38 (.slice a0 len cap) d ps) : len ≤ cap := by
  obtain ⟨fuel, hfu⟩ := h
  rcases open_ints undBytes undByte cellsByte hfu with ⟨hcs, _⟩ | ⟨a, len', cap', zs, hcs, _, hl, hm, hz, hx, hcell, hwz⟩
  · simp [Value.cells] at hcs
    obtain ⟨rfl, rfl, rfl⟩ := hcs
    exact Nat.le_refl _
  · simp [Value.cells] at hcs
    obtain ⟨rfl, rfl, rfl⟩ := hcs
    exact hl
end Go.Proofs.Ytphpliclecmnlaa
/- The reference's parity. -/
namespace Go.Proofs.Ytphpliclecmnlaa
open Go Go.RowKit

/-- One number of the parity, as far as j data shards. -/
def pp (k : Nat) (ls : List (List (BitVec 8))) (i j x : Nat) : BitVec 8 := xs j (fun l => gm (cau k i l) (mx ls l x))
attribute [local go_sem ↓] exec_bs exec_make exec_store
attribute [local go_sem] bs0 bsR st_B st_I st_b mkB
set_option maxRecDepth 100000 in
set_option maxHeartbeats 8000000 in
theorem refParity_any (ls : List (List (BitVec 8))) (p : Option Addr) (k m cap L : Nat) (w : World) (hs : Prt w p ls) (hl : ls.length = k) (hr : ∀ i, i < k → (ls.getD i []).length = L) (hk0 : 1 ≤ k) (hkm : k + m ≤ 200) (hL : L < 1000000) :
    Calls Try.prog 17 #[.slice p k cap, .int .i64 (m : Int)] w (RetM w.heap.size w (rowsL m L (mm k (cau k) (mx ls)))) := by
  have HS := Lib.hid hs
  have HL := Lib.hid hl
  have HR := Lib.hid hr
  have hL4 : L < 4294967296 := by omega
  have hk00 : (0 : Int) < (k : Int) := by omega
  obtain ⟨c0, o0, q0, cap0, rfl, hcb0, hcb1, -, -⟩ := hs.at_ 0 (by omega)
  rw [Nat.add_zero, hr 0 (by omega)] at hcb1
  have HCB := Lib.hid hcb1
  clear hs hl hr hcb1
  go_enter Try.func17, Try.ntmps17
  go_wp2
  generalize hN : w.heap.size = N at *
  have HN := Lib.hid hN
  clear hN
  go_loopw [5, 6] (fun v i wr => ∃ i0 : Nat, i0 ≤ m ∧ i = .int .i64 i0 ∧ (∃ q c, v = .slice q i0 c) ∧ OwnM wr N v ((List.range i0).map (rowL L (mm k (cau k) (mx ls)))) ∧ Below N w wr) (fun _ i _ => m - (intOf i).toNat)
  case atStart => exact ⟨0, Nat.zero_le _, rfl, ⟨none, 0, rfl⟩, by simpa using OwnM.nil w N, Below.refl _ _⟩
  case round =>
    obtain ⟨i0, hi0, rfl, ⟨qv, cv, rfl⟩, hO, hB⟩ := hrel
    rename World => WO
    have HO := Lib.hid hO
    have HBr := Lib.hid hB
    have hNle : N ≤ WO.heap.size := by have := hB.size; have := HN.out; omega
    clear hO hB
    by_cases hlt : i0 < m
    · have hd0 : decide ((i0 : Int) < (m : Int)) = true := decide_eq_true (by omega)
      have hl0 : (i0 : Int) < (m : Int) := by omega
      have hxb : WO.cell? ⟨c0, o0, none⟩ = some (.slice q0 L cap0) := by
        rw [HBr.out.cell (by exact hcb0)]; exact HCB.out
      have hr : Row (WO.alloc (.cells (zb L) 5)) WO.heap.size 5 L (fun j => B 0#8) := Row.new WO _ L _
      have HR0 := Lib.hid (hr.congr (g' := fun x => B (pp k ls i0 0 x)) fun x _ => rfl)
      have HB1 := Lib.hid (show Below WO.heap.size WO (WO.alloc (.cells (zb L) 5)) from (Below.refl _ _).alloc (Nat.le_refl _) _)
      clear hr
      go_wp2
      generalize WO.alloc (.cells (zb L) 5) = w1 at *
      generalize hRR : WO.heap.size = R at *
      have HRR := Lib.hid hRR
      clear hRR
      go_loopw [23] (fun i wr => ∃ j : Nat, j ≤ k ∧ i = .int .i64 j ∧ Row wr R 5 L (fun x => B (pp k ls i0 j x)) ∧ Below R WO wr) (fun i _ => k - (intOf i).toNat)
      case atStart => exact ⟨0, Nat.zero_le _, rfl, HR0.out, HB1.out⟩
      case round =>
        clear HR0 HB1
        obtain ⟨j, hj, rfl, hR, hB⟩ := hrel
        rename World => WP
        have HR0 := Lib.hid (hR.congr (g' := fun x => B (if x < 0 then pp k ls i0 (j + 1) x else pp k ls i0 j x)) fun x _ => by rw [if_neg (by omega)])
        have HB1 := Lib.hid hB
        have HRJ := Lib.hid hR
        clear hR hB
        by_cases hjk : j < k
        · have hdj : decide ((j : Int) < (k : Int)) = true := decide_eq_true (by omega)
          have hj0 : (j : Int) < (k : Int) := by omega
          obtain ⟨cb', ob', qb, cbj, eb, hcbl, hcbj, hsb, -, -⟩ := HS.out.at_ j (by rw [HL.out]; exact hjk)
          injection eb with eb
          injection eb with eb1 eb2
          subst eb1 eb2
          rw [HR.out j hjk] at hcbj
          have HCJ := Lib.hid hcbj
          have HSB := Lib.hid hsb
          clear hcbj hsb
          go_wp2_with fail
          refine (refCauchy_any k i0 j (by omega) (by omega) (by omega) WP).mono ?_
          rintro e w' ⟨rfl, rfl⟩
          have hcau : gi (BitVec.ofNat 8 (k + i0) ^^^ BitVec.ofNat 8 j) = cau k i0 j := rfl
          rw [hcau]
          generalize hcc : cau k i0 j = cc at *
          have HCC := Lib.hid hcc
          clear hcau hcc
          go_wp2
          go_loopw [33] (fun i wr => ∃ x : Nat, x ≤ L ∧ i = .int .i64 x ∧ Row wr R 5 L (fun y => B (if y < x then pp k ls i0 (j + 1) y else pp k ls i0 j y)) ∧ Below R WO wr) (fun i _ => L - (intOf i).toNat)
          case atStart => exact ⟨0, Nat.zero_le _, rfl, HR0.out, HB1.out⟩
          case round =>
            clear HR0 HB1 HRJ
            obtain ⟨x, hx, rfl, hR, hB⟩ := hrel
            have HR0 := Lib.hid hR
            have HB1 := Lib.hid hB
            by_cases hxL : x < L
            · have hdx : decide ((x : Int) < (L : Int)) = true := decide_eq_true (by omega)
              have hx0 : (x : Int) < (L : Int) := by omega
              have hBw : Below N w wr := HBr.out.trans (hB.mono hNle)
              obtain ⟨db, pb, rfl, hyb⟩ := HSB.out x (by rw [HR.out j hjk]; exact hxL)
              have kp : ∀ a : Addr, ∀ v, w.cell? a = some v → wr.cell? a = some v := fun a v h => by
                rw [hBw.cell (by rw [← HN.out]; exact World.block_lt_of_cell? w a h)]; exact h
              have x2 := kp _ _ HCJ.out
              have x4 := kp _ _ hyb
              have x1 : wr.cell? ⟨R, x, none⟩ = some (B (pp k ls i0 j x)) := by
                have := hR.cell x hxL
                rwa [if_neg (by omega)] at this
              have xf : wr.frozen? ⟨R, x, none⟩ = false := hR.free x
              have HST := Lib.hid (show pp k ls i0 (j + 1) x = pp k ls i0 j x ^^^ gm cc ((ls.getD j []).getD x 0#8) from by rw [← HCC.out]; rfl)
              generalize (ls.getD j []).getD x 0#8 = yb at *
              generalize hs0 : pp k ls i0 j x = s0 at *
              have HS0 := Lib.hid hs0
              clear hs0 kp hBw hR hB hyb
              go_wp2
              refine wp_region_still_tail 17 (by kernel_rfl) (by kernel_rfl) ?_
              simp only [List.take_succ_cons, List.take_zero, List.drop_succ_cons, List.drop_zero, World.drew_eq]
              repeat (refine wpStill_step (fun K hK => ?_); go_simp; refine hK _ ?_; clear hK K)
              refine wpStill_step (fun K hK => ?_)
              go_simp
              refine ⟨_, (refMul_any cc yb _).mono (fun e w' ⟨h, h2⟩ => ⟨h, h2.symm⟩), hK _ ?_⟩
              clear hK K
              repeat (refine wpStill_step (fun K hK => ?_); go_simp; refine hK _ ?_; clear hK K)
              refine wpStill_nil ?_
              go_wp2
              go_roundw
              case rel =>
                refine ⟨x + 1, by omega, by go_num, ((HR0.out.set x (B (s0 ^^^ gm cc yb))).congr fun y _ => ?_).drewN 1, below_drewN (HB1.out.setCell (Nat.le_refl _) _) 1⟩
                by_cases h : y = x
                · rw [if_pos h, if_pos (by omega), h, HST.out]
                · rw [if_neg h]
                  by_cases h2 : y < x
                  · rw [if_pos h2, if_pos (by omega)]
                  · rw [if_neg h2, if_neg (by omega)]
              case measure => simp [intOf]; omega
            · have hdx : decide ((x : Int) < (L : Int)) = false := decide_eq_false (by omega)
              obtain rfl : x = L := by omega
              clear hR hB
              go_wp2
              go_roundw
              case rel => exact ⟨j + 1, by omega, by go_num, HR0.out.congr fun y hy => by rw [if_pos hy], HB1.out⟩
              case measure => simp [intOf]; omega
        · have hdj : decide ((j : Int) < (k : Int)) = false := decide_eq_false (by omega)
          obtain rfl : j = k := by omega
          have hrow : Sl WP (some ⟨R, 0, none⟩) (rowL L (mm j (cau j) (mx ls)) i0) := Sl.row HRJ.out (by rw [rowL_length]; exact Nat.le_refl _) (fun x hx => by
            rw [rowL_length] at hx
            rw [rowL_get _ _ _ _ hx]; rfl)
          have hRP : R < WP.heap.size := HRJ.out.lt
          have hB4 : Below WP.heap.size WP (WP.alloc (.cells #[.slice (some ⟨R, 0, none⟩) L L] 38)) := (Below.refl _ _).alloc (Nat.le_refl _) _
          have HO3 := Lib.hid ((HO.out.of_below (show Below WO.heap.size WO WP by rw [HRR.out]; exact HB1.out)).of_below hB4)
          have HCELL := Lib.hid (show (WP.alloc (.cells #[.slice (some ⟨R, 0, none⟩) L L] 38)).cell? ⟨WP.heap.size, 0, none⟩ = some (.slice (some ⟨R, 0, none⟩) L L) by rw [World.cell?_alloc_new]; rfl)
          have HS4 := Lib.hid (hrow.of_below hB4)
          have HQB := Lib.hid (show ∀ b, (some ⟨R, 0, none⟩ : Option Addr) = some b → N ≤ b.block ∧ b.block < (WP.alloc (.cells #[.slice (some ⟨R, 0, none⟩) L L] 38)).heap.size ∧ (Value.slice qv i0 cv).ownBlock ≠ some b.block from fun b hb => by
            injection hb with hb
            subst hb
            refine ⟨hNle, by rw [World.size_alloc]; exact Nat.lt_succ_of_lt hRP, fun e => ?_⟩
            have h2 := (HO.out.lt _ e).2
            rw [HRR.out] at h2
            exact Nat.lt_irrefl _ h2)
          have hN4 : N ≤ (WP.alloc (.cells #[.slice (some ⟨R, 0, none⟩) L L] 38)).heap.size := by rw [World.size_alloc]; omega
          have HB4 := Lib.hid (show Below N w (WP.alloc (.cells #[.slice (some ⟨R, 0, none⟩) L L] 38)) from (HBr.out.trans (HB1.out.mono hNle)).alloc (by omega) _)
          have HLR := Lib.hid (show ((List.range i0).map (rowL L (mm j (cau j) (mx ls)))).length = i0 by simp)
          have HSN := Lib.hid (range_snoc (rowL L (mm j (cau j) (mx ls))) i0)
          clear hrow hB4 HR0
          go_wp2_with (first | (refine wpl_push _ rfl (.tmp 55) (.tmp 57) rfl N (.slice qv i0 cv) _ rfl HO3.out ⟨WP.heap.size, 0, none⟩ rfl (some ⟨R, 0, none⟩) (rowL L (mm j (cau j) (mx ls)) i0) L L HCELL.out (rowL_length _ _ _) HS4.out (fun h => by cases h) (Nat.le_refl _) HQB.out i0 HLR.out (by omega) hN4 ?_; rintro g5 c5 w5 hM5 hg5 ho5 hl5; have HM5 := Lib.hid hM5; have HB5 := Lib.hid (HB4.out.grown hg5 hN4 (fun g hg => (hl5 g hg).1)); clear hM5 hg5 ho5 hl5))
          go_roundw
          case rel => exact ⟨i0 + 1, by omega, by go_num, ⟨_, _, rfl⟩, by rw [HSN.out]; exact HM5.out, HB5.out⟩
          case measure => simp [intOf]; omega
    · have hd0 : decide ((i0 : Int) < (m : Int)) = false := decide_eq_false (by omega)
      obtain rfl : i0 = m := by omega
      go_wp2
      go_ret
      exact ⟨_, rfl, HO.out, HBr.out⟩
end Go.Proofs.Ytphpliclecmnlaa
/- Rows that lie somewhere, appended to a slice of rows of the call's own. -/
namespace Go.Proofs.Ytphpliclecmnlaa
open Go Go.RowKit

theorem prt_news {w : World} {p : Option Addr} {ms : List (List (BitVec 8))} (h : Prt w p ms) (hpos : 0 < ms.length) : ∃ (ad : Addr) (us : List Value), p = some ad ∧ us.length = ms.length ∧ (∀ j u, us[j]? = some u → w.cell? (ad.add j) = some u) ∧ (∀ u ∈ us, u.oneCell' = true) ∧
    ∀ i, i < ms.length → ∃ q cap, us[i]? = some (.slice q (ms.getD i []).length cap) ∧ Sl w q (ms.getD i []) ∧ (q = none → cap = 0) ∧ (ms.getD i []).length ≤ cap := by
  obtain ⟨c, o, q0, cap0, rfl, -, -⟩ := h 0 hpos
  have hall : ∀ i, i < ms.length → ∃ q cap, w.cell? ⟨c, o + i, none⟩ = some (.slice q (ms.getD i []).length cap) ∧ Sl w q (ms.getD i []) ∧ (q = none → cap = 0) ∧ (ms.getD i []).length ≤ cap := fun i hi => by
    obtain ⟨c', o', q, cap, e, h1, h2, h3, h4⟩ := h i hi
    injection e with e
    injection e with e1 e2
    subst e1 e2
    exact ⟨q, cap, h1, h2, h3, h4⟩
  let f : Nat → Value := fun i => (w.cell? ⟨c, o + i, none⟩).getD (.bool false)
  have hf : ∀ i, i < ms.length → w.cell? ⟨c, o + i, none⟩ = some (f i) := fun i hi => by
    obtain ⟨q, cap, h1, _⟩ := hall i hi
    show _ = some ((w.cell? ⟨c, o + i, none⟩).getD (.bool false))
    rw [h1]; rfl
  refine ⟨⟨c, o, none⟩, (List.range ms.length).map f, rfl, by simp, fun j u hu => ?_, fun u hu => ?_, fun i hi => ?_⟩
  · have hj : j < ms.length := by
      have := (List.getElem?_eq_some_iff.1 hu).1
      simpa using this
    rw [Addr.add_mid, hf j hj]
    simpa [hj] using hu
  · obtain ⟨i, hi, rfl⟩ := List.mem_map.1 hu
    have hi' : i < ms.length := by simpa using hi
    obtain ⟨q, cap, h1, _⟩ := hall i hi'
    have := hf i hi'
    rw [h1] at this
    injection this with this
    rw [← this]; rfl
  · obtain ⟨q, cap, h1, h2⟩ := hall i hi
    have := hf i hi
    rw [h1] at this
    injection this with this
    exact ⟨q, cap, by simp [hi, ← this], h2⟩
/-- The rows appended lay there before base. -/
theorem join_prt {w wb : World} {base : Nat} {v : Value} {ls ms : List (List (BitVec 8))} {p : Option Addr} (h : OwnX w base v ls) (hp : Prt wb p ms) (hk : Below wb.heap.size wb w) (hb : base = wb.heap.size) (ty : TypeId) (c : Nat) (hpos : 0 < ms.length) (hlen : ls.length + ms.length < 1000000) :
    ∃ g cap' w', (Builtin.append_ #[23, 23] ty #[v, .slice p ms.length c]).run Try.prog w = .ok (.slice (some ⟨g, 0, none⟩) (ls.length + ms.length) cap') w' ∧ Prt w' (some ⟨g, 0, none⟩) (ls ++ ms) ∧ Below base w w' ∧ base ≤ g := by
  have hpw := hp.of_below hk
  obtain ⟨ad, us, rfl, hul, hnews, hone, hus⟩ := prt_news hpw hpos
  obtain ⟨ad', us', e', _, hnews', _, hus'⟩ := prt_news hp hpos
  have hlt := h.lt
  obtain ⟨vs, a1, a2, a3, a4, a5⟩ := h
  obtain ⟨i0, hi, hz0, hz1, hz2⟩ := info_parts infoB
  have hsz := hk.size
  obtain ⟨g, cap', w', r1, r2, r3, r4, r5⟩ := run_append_lies (P := Try.prog) w 23 ty base 38 i0 (.slice none 0 0) 1 24 undRows hi hz0 hz1 hz2 rfl (by decide) v ls.length vs a2 ad ms.length c us (by rw [hul]; omega) hnews hone hpos (by simp only [maxLen]; omega) (by omega) (by omega) w.heap.size rfl
  have hbel : Below base w w' := (Below.refl base w).grown r3 (by omega) (fun k hk => (hlt k hk).1)
  refine ⟨g, cap', w', r1, ?_, hbel, by rcases r4 with r4 | r4; exact (hlt g r4).1; omega⟩
  rcases r2.2 with ⟨hv, hl⟩ | ⟨g', cap2, cur, hv, hb2, hg, hle, _, hsz2, ht⟩
  · omega
  injection hv with e1 _ _
  injection e1 with e1
  injection e1 with e1 _
  subst e1
  intro i hi
  have hcell : ∀ j u, (vs ++ us)[j]? = some u → w'.cell? ⟨g, 0 + j, none⟩ = some u := fun j u hu => by
    have hj : j < (vs ++ us).length := (List.getElem?_eq_some_iff.1 hu).1
    rw [List.length_append, a1, hul] at hj
    rw [Nat.zero_add, cell_of_row w' g j cur 38 (0, 0) hg]
    have e : (cur.toList.take ((ls.length + ms.length) * 1))[j]? = (vs ++ us)[j]? := by rw [ht]
    rw [List.getElem?_take, if_pos (by omega), hu] at e
    simpa using e
  rw [List.length_append] at hi
  by_cases hil : i < ls.length
  · rw [ls_left _ _ _ hil]
    have hown : OwnB w' base (vd vs i) (ls.getD i []) := (a3 i hil).keep fun k' hk' => r3.block k' ((a3 i hil).lt k' hk').2 fun e => a4 i k' hil hk' e.symm
    obtain ⟨q, cc, e, hs, hq, hlc⟩ := hown.shape
    refine ⟨g, 0, q, cc, rfl, hcell i _ ?_, hs, hq, hlc⟩
    rw [List.getElem?_append_left (by omega), vd_get (by omega), e]
  · rw [ls_right _ _ _ (by omega)]
    obtain ⟨q, cc, e, hs, hq, hlc⟩ := hus (i - ls.length) (by omega)
    refine ⟨g, 0, q, cc, rfl, hcell i _ ?_, fun j hj => ?_, hq, hlc⟩
    · rw [List.getElem?_append_right (by omega), a1]; exact e
    · -- the row lay there before base
      obtain ⟨c1, o1, e1, hc1⟩ := hs j hj
      refine ⟨c1, o1, e1, ?_⟩
      have hold : c1 < wb.heap.size := by
        obtain ⟨q2, cc2, e2, hs2, -, -⟩ := hus' (i - ls.length) (by omega)
        have hq2 : q2 = q := by
          have h1 := hnews' _ _ e2
          have h2 := hnews _ _ e
          have h3 : ad' = ad := by injection e' with e'; exact e'.symm
          rw [h3] at h1
          rw [hk.cell (World.block_lt_of_cell? wb _ h1), h1] at h2
          injection h2 with h2
          injection h2
        subst hq2
        obtain ⟨c3, o3, e3, hc3⟩ := hs2 j hj
        rw [e1] at e3
        injection e3 with e3
        injection e3 with e3 _
        subst e3
        exact World.block_lt_of_cell? wb _ hc3
      rw [hbel.cell (by show c1 < base; omega)]
      exact hc1
theorem wpl_joinP {ops : Array Oper} {rest : List Oper} {o : Oper} {a : Act} {Q : Exit → Act → World → Prop} (w : World) (hgd : o.guard = none) (s x : Operand)
    (ho : o.op = .call { callee := .builtin .append, args := #[s, x], argTypes := #[23, 23] })
    (base : Nat) (v : Value) (ls : List (List (BitVec 8))) (hs : a.eval s = v) (h : OwnX w base v ls) (wb : World) (p : Option Addr) (ms : List (List (BitVec 8))) (hp : Prt wb p ms) (hk : Below wb.heap.size wb w) (hb : base = wb.heap.size)
    (n0 m0 c : Nat) (hn0 : ls.length = n0) (hm0 : ms.length = m0) (hx : a.eval x = .slice p m0 c) (hpos : 0 < m0) (hlen : n0 + m0 < 1000000)
    (hK : ∀ g cap' w', Prt w' (some ⟨g, 0, none⟩) (ls ++ ms) → Below base w w' → base ≤ g → wpList Try.prog ops Q rest (a.put o.dst (.slice (some ⟨g, 0, none⟩) (n0 + m0) cap')) w') : wpList Try.prog ops Q (o :: rest) a w := by
  subst hn0 hm0
  refine wpList_plain hgd fun K hKK => ?_
  obtain ⟨g, cap', w', hr, h2, h3, h4⟩ := join_prt h hp hk hb o.type c hpos hlen
  unfold Oper.wp execOp
  simp only [ho, resolve, invoke, builtin, Sem.run_bind, Sem.run_pure, Result.andThen_ok, List.map_toArray, List.map_cons, List.map_nil, hs, hx, hr]
  exact hKK _ _ (hK g cap' w' h2 h3 h4)
end Go.Proofs.Ytphpliclecmnlaa
