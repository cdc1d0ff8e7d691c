/- The reference's determinant. -/
import Derived.Test.YtfilicbbkaifcaaCopy3
import Derived.Test.YtfilicbbkaifcaaDet
import Derived.Deep.RegionHeld3
set_option linter.unusedSimpArgs false
set_option linter.unusedVariables false
namespace Go.Proofs.Ytfilicbbkaifcaa
open Go Go.RowKit

/-- A cut of a slice, its operands reckoned first. -/
def slT (t : TypeId) (x : Value) (lo hi mx : Option Value) : Sem Next := do pure (.value (← Instr.sliceAt t x lo hi mx))
theorem exec_slice (r : Operand → Value) (dst : Option Tmp) (t : TypeId) (x : Operand) (lo hi m : Option Operand) (ty : TypeId) (pos : String) (after : Array Edge) (guard : Option (Nat × Bool)) :
    execOp r ⟨dst, .slice t x lo hi m, ty, pos, after, guard⟩ = slT t (r x) (lo.map r) (hi.map r) (m.map r) := rfl
/-- Where the bytes from number l on lie. -/
def cutA (q : Option Addr) (cap l : Nat) : Option Addr := if cap = l then q else q.map (·.add l)
theorem cutA_zero (q : Option Addr) (cap : Nat) : cutA q cap 0 = q := by
  unfold cutA
  split
  · rfl
  · cases q with
    | none => rfl
    | some a => show some (a.add 0) = some a; rw [Addr.add_zero']
theorem sizeB (w : World) : (sizeOf (Try.prog.elem 35)).run Try.prog w = .ok 1 w := by kernel_rfl
theorem sl_hi (q : Option Addr) (n cap k : Nat) (w : World) (hk : k ≤ cap) :
    (slT 35 (.slice q n cap) none (some (.int .i64 (k : Int))) none).run Try.prog w = .ok (.value (.slice q k cap)) w := by
  have h1 := run_sliceAt_slice (P := Try.prog) w 35 (.slice q n cap) none (some (.int .i64 (k : Int))) none und35
  rw [run_slice_h (P := Try.prog) w 35 q n cap und35 .i64 (k : Int) (by omega) (by omega), sizeB] at h1
  simp only [slT, Sem.run_bind, h1, Result.andThen_ok, Sem.run_pure]
  simp only [sliced, Int.toNat_natCast, Nat.zero_mul, Nat.sub_zero]
  have := cutA_zero q cap
  unfold cutA at this
  rw [this]
theorem sl_lo (q : Option Addr) (n cap k : Nat) (w : World) (hk : k + 1 ≤ n) :
    (slT 35 (.slice q n cap) (some (.int .i64 ((k : Int) + 1))) none none).run Try.prog w = .ok (.value (.slice (cutA q cap (k + 1)) (n - (k + 1)) (cap - (k + 1)))) w := by
  have h1 := run_sliceAt_slice (P := Try.prog) w 35 (.slice q n cap) (some (.int .i64 ((k : Int) + 1))) none none und35
  rw [run_slice_l (P := Try.prog) w 35 q n cap und35 .i64 ((k : Int) + 1) (by omega) (by omega), sizeB] at h1
  simp only [slT, Sem.run_bind, h1, Result.andThen_ok, Sem.run_pure]
  have e : ((k : Int) + 1).toNat = k + 1 := by omega
  simp only [sliced, e, Nat.mul_one, cutA]
theorem Sl.take {w : World} {q : Option Addr} {l : List (BitVec 8)} (h : Sl w q l) (k : Nat) : Sl w q (l.take k) := fun j hj => by
  have hj' : j < k ∧ j < l.length := by simp [List.length_take] at hj; omega
  obtain ⟨c, o, e, hc⟩ := h j hj'.2
  refine ⟨c, o, e, ?_⟩
  rw [hc]
  simp [List.getD_eq_getElem?_getD, hj'.1]
theorem Sl.drop {w : World} {q : Option Addr} {l : List (BitVec 8)} {cap : Nat} (h : Sl w q l) (hc : l.length ≤ cap) (k : Nat) : Sl w (cutA q cap k) (l.drop k) := fun j hj => by
  have hj' : k + j < l.length := by simp at hj; omega
  obtain ⟨c, o, e, hx⟩ := h (k + j) hj'
  subst e
  refine ⟨c, o + k, ?_, ?_⟩
  · unfold cutA
    rw [if_neg (by omega)]
    show some (Addr.add _ k) = _
    rw [Addr.add_mid]
  · rw [Nat.add_assoc, hx]
    simp [List.getD_eq_getElem?_getD, List.getElem?_drop]
theorem cutA_none {q : Option Addr} {cap k : Nat} (h : q = none → cap = 0) (e : cutA q cap k = none) : cap - k = 0 := by
  cases q with
  | none => rw [h rfl, Nat.zero_sub]
  | some a =>
    unfold cutA at e
    split at e <;> cases e
/-- A row without its number k; the rows from the second on, so. -/
def cutRow (l : List (BitVec 8)) (k : Nat) : List (BitVec 8) := l.take k ++ l.drop (k + 1)
def restL (ls : List (List (BitVec 8))) (k m : Nat) : List (List (BitVec 8)) := (List.range m).map fun t => cutRow (ls.getD (t + 1) []) k
theorem restL_length (ls : List (List (BitVec 8))) (k m : Nat) : (restL ls k m).length = m := by simp [restL]
theorem restL_succ (ls : List (List (BitVec 8))) (k m : Nat) : restL ls k (m + 1) = restL ls k m ++ [cutRow (ls.getD (m + 1) []) k] := by
  unfold restL; rw [List.range_succ, List.map_append]; rfl
theorem restL_get (ls : List (List (BitVec 8))) (k m i : Nat) (h : i < m) : (restL ls k m).getD i [] = cutRow (ls.getD (i + 1) []) k := by
  simp [restL, List.getD_eq_getElem?_getD, h]
theorem cutRow_length (l : List (BitVec 8)) (k n : Nat) (hl : l.length = n + 1) (hk : k < n + 1) : (cutRow l k).length = n := by
  simp [cutRow, hl]; omega
theorem cutRow_get (l : List (BitVec 8)) (k n j : Nat) (hl : l.length = n + 1) (hk : k < n + 1) (hj : j < n) : (cutRow l k).getD j 0#8 = l.getD (skip k j) 0#8 := by
  unfold cutRow skip
  rw [List.getD_eq_getElem?_getD, List.getD_eq_getElem?_getD]
  by_cases h : j < k
  · rw [if_pos h, List.getElem?_append_left (by simp; omega), List.getElem?_take, if_pos h]
  · rw [if_neg h, List.getElem?_append_right (by simp; omega)]
    have e : (l.take k).length = k := by simp; omega
    rw [e, List.getElem?_drop]
    congr 2
    omega
theorem det_rest (ls : List (List (BitVec 8))) (n k : Nat) (hr : ∀ i, i < n + 1 → (ls.getD i []).length = n + 1) (hk : k < n + 1) : det n (mx (restL ls k n)) = det n (minor (mx ls) k) :=
  det_congr fun i j hi hj => by
    show ((restL ls k n).getD i []).getD j 0#8 = (ls.getD (i + 1) []).getD (skip k j) 0#8
    rw [restL_get _ _ _ _ hi, cutRow_get _ k n j (hr _ (by omega)) hk hj]
attribute [local go_sem ↓] exec_bs exec_slice
attribute [local go_sem] bs0 bsR sl_hi sl_lo
/-- What a call of the determinant gives. -/
def RetD (N : Nat) (w : World) (x : BitVec 8) (e : Ending) (w' : World) : Prop := e = .returned (B x) ∧ Below N w w'
set_option maxHeartbeats 1000000 in
theorem refDet_zero (ls : List (List (BitVec 8))) (p : Option Addr) (cap : Nat) (w : World) : Calls Try.prog 20 #[.slice p 0 cap] w fun e w' => e = .returned (B 1#8) ∧ w = w' := by
  go_enter Try.func20, Try.ntmps20
  go_wp2
  go_ret
  exact ⟨by rw [B_1]; rfl, rfl⟩
set_option maxRecDepth 100000 in
set_option maxHeartbeats 8000000 in
theorem refDet_succ (n : Nat) (hn : n < 1000) (ih : ∀ (ls : List (List (BitVec 8))) (p : Option Addr) (cap : Nat) (w : World), Prt w p ls → ls.length = n → (∀ i, i < n → (ls.getD i []).length = n) → Calls Try.prog 20 #[.slice p n cap] w (RetD w.heap.size w (det n (mx ls))))
    (ls : List (List (BitVec 8))) (p : Option Addr) (cap : Nat) (w : World) (hs : Prt w p ls) (hl : ls.length = n + 1) (hr : ∀ i, i < n + 1 → (ls.getD i []).length = n + 1) :
    Calls Try.prog 20 #[.slice p (n + 1) cap] w (RetD w.heap.size w (det (n + 1) (mx ls))) := by
  have HS := Lib.hid hs
  have HL := Lib.hid hl
  have HR := Lib.hid hr
  have IH := Lib.hid ih
  obtain ⟨c, o, q0, cap0, rfl, hcl, hc0, hs0, _⟩ := hs.at_ 0 (by omega)
  rw [Nat.add_zero, hr 0 (by omega)] at hc0
  have HC0 := Lib.hid hc0
  have HS0 := Lib.hid hs0
  have HDR := Lib.hid (fun k hk => det_rest ls n k hr hk)
  clear hs hl hr ih hc0 hs0
  generalize hN1 : n + 1 = m at *
  have HN1 := Lib.hid hN1
  have hm0 : 0 < m := by omega
  have hm1 : m ≤ 1000 := by omega
  clear hN1
  have hz : ((m : Int) == 0) = false := by simp; omega
  have hm0' : (0 : Int) < (m : Int) := by omega
  go_enter Try.func20, Try.ntmps20
  have hc0 := HC0.out
  go_wp2
  clear hc0
  generalize hN : w.heap.size = N at *
  have HN := Lib.hid hN
  clear hN
  go_loopw [3, 15] (fun v i wr => ∃ k : Nat, k ≤ m ∧ i = .int .i64 k ∧ v = B (xs k (fun c => gm (mx ls 0 c) (det n (minor (mx ls) c)))) ∧ Below N w wr) (fun _ i _ => m - (intOf i).toNat)
  case atStart => exact ⟨0, Nat.zero_le _, rfl, B_0.symm, Below.refl _ _⟩
  case round =>
    obtain ⟨k, hk, rfl, rfl, hB⟩ := hrel
    rename World => WO
    have HB := Lib.hid hB
    have hNle : N ≤ WO.heap.size := by have := hB.size; have := HN.out; omega
    clear hB
    by_cases hkm : k < m
    · have hd0 : decide ((k : Int) < (m : Int)) = true := decide_eq_true (by omega)
      have hk0 : (k : Int) < (m : Int) := by omega
      go_wp2
      generalize hMM : WO.heap.size = M at *
      have HMM := Lib.hid hMM
      clear hMM
      go_loopw [5, 6] (fun v i wr => ∃ i0 : Nat, 1 ≤ i0 ∧ i0 ≤ m ∧ i = .int .i64 i0 ∧ (∃ q c, v = .slice q (i0 - 1) c) ∧ OwnM wr M v (restL ls k (i0 - 1)) ∧ Below M WO wr) (fun _ i _ => m - (intOf i).toNat)
      case atStart => exact ⟨1, by decide, by omega, rfl, ⟨none, 0, rfl⟩, by simpa [restL] using OwnM.nil WO M, Below.refl _ _⟩
      case round =>
        obtain ⟨i0, hi1, him, rfl, ⟨qv, cv, rfl⟩, hO, hB1⟩ := hrel
        have HO := Lib.hid hO
        have HB1 := Lib.hid hB1
        have hMle : M ≤ wr.heap.size := by have := hB1.size; have := HMM.out; omega
        clear hO hB1
        by_cases hil : i0 < m
        · have hdi : decide ((i0 : Int) < (m : Int)) = true := decide_eq_true (by omega)
          have hi0 : (i0 : Int) < (m : Int) := by omega
          obtain ⟨c', o', q, cap', e', hcl', hci, hsi, hqi, hlei⟩ := HS.out.at_ i0 (by rw [HL.out]; exact hil)
          injection e' with e'
          injection e' with e1 e2
          subst e1 e2
          rw [HR.out i0 hil] at hci hlei
          have hBw : Below N w wr := HB.out.trans (HB1.out.mono hNle)
          have x1 : wr.cell? ⟨c, o + i0, none⟩ = some (.slice q m cap') := by
            rw [hBw.cell (by rw [← HN.out]; exact hcl')]; exact hci
          have HSI := Lib.hid (show Sl wr q (ls.getD i0 []) from hsi.of_below (by rw [HN.out]; exact hBw))
          have HQI := Lib.hid hqi
          have HRL := Lib.hid (HR.out i0 hil)
          have HSC := Lib.hid (show restL ls k (i0 - 1 + 1) = restL ls k (i0 - 1) ++ [cutRow (ls.getD i0 []) k] by
            rw [restL_succ, Nat.sub_add_cancel hi1])
          have hk1 : k + 1 ≤ m := by omega
          have hkc : k ≤ cap' := by omega
          generalize ls.getD i0 [] = r at *
          have HTK := Lib.hid (show (r.take k).length = k by rw [List.length_take, HRL.out]; omega)
          have HDK := Lib.hid (show (r.drop (k + 1)).length = m - (k + 1) by rw [List.length_drop, HRL.out])
          have HCK := Lib.hid (show (r.take k ++ r.drop (k + 1)).length = n from cutRow_length r k n (by rw [HRL.out, HN1.out]) (by rw [HN1.out]; exact hkm))
          have hsd : Sl wr (cutA q cap' (k + 1)) (r.drop (k + 1)) := HSI.out.drop (by rw [HRL.out]; exact hlei) (k + 1)
          have HSD := Lib.hid hsd
          have HO1 := Lib.hid (OwnB.empty wr wr.heap.size (Nat.le_refl _))
          have HBe := Lib.hid (show Below wr.heap.size wr (wr.alloc (.cells #[] 5)) from (Below.refl _ _).alloc (Nat.le_refl _) _)
          have x1a : (wr.alloc (.cells #[] 5)).cell? ⟨c, o + i0, none⟩ = some (.slice q m cap') := by
            rw [HBe.out.cell (World.block_lt_of_cell? wr _ x1)]; exact x1
          clear hci hsi hqi hBw hsd
          go_wp2_with (first | (refine wpl_append _ rfl (.tmp 24) (.tmp 30) rfl wr.heap.size (.slice (some ⟨wr.heap.size, 0, none⟩) 0 0) [] rfl HO1.out q k cap' (r.take k) HTK.out rfl ((HSI.out.take k).of_below HBe.out) HQI.out (by show 0 + k < _; omega) HBe.out.size ?_; rintro v3 w3 hv3 hg3; have hB3 := HBe.out.grown hg3 HBe.out.size (fun g hg => (HO1.out.lt g hg).1); rw [List.nil_append] at hv3; obtain ⟨q3, c3, e3, hs3, hc3, hle3⟩ := hv3.shape; rw [HTK.out] at e3; subst e3; have x2 : w3.cell? ⟨c, o + i0, none⟩ = some (.slice q m cap') := (by rw [hB3.cell (World.block_lt_of_cell? wr _ x1)]; exact x1); have HV3 := Lib.hid hv3; have HB3 := Lib.hid hB3; clear hv3 hg3 hs3 hc3 hB3 hle3) | (refine wpl_append _ rfl (.tmp 33) (.tmp 40) rfl wr.heap.size (.slice q3 k c3) (r.take k) rfl HV3.out (cutA q cap' (k + 1)) (m - (k + 1)) (cap' - (k + 1)) (r.drop (k + 1)) HDK.out rfl (HSD.out.of_below HB3.out) (cutA_none HQI.out) (by rw [HTK.out]; omega) HB3.out.size ?_; rintro v5 w5 hv5 hg5; have hB5 := HB3.out.grown hg5 HB3.out.size (fun g hg => (HV3.out.lt g hg).1); have hlt5 := OwnB.lt hv5; obtain ⟨q5, c5, e5, hs5, hc5, hle5⟩ := hv5.shape; rw [HCK.out] at e5 hle5; subst e5; have HC5 := Lib.hid hc5; have hB6 : Below wr.heap.size wr (w5.alloc (.cells #[.slice q5 n c5] 35)) := hB5.alloc hB5.size _; have HO6 := Lib.hid (HO.out.of_below hB6); have HCELL := Lib.hid (show (w5.alloc (.cells #[.slice q5 n c5] 35)).cell? ⟨w5.heap.size, 0, none⟩ = some (.slice q5 n c5) from (by rw [World.cell?_alloc_new]; rfl)); have HS6 := Lib.hid (hs5.of_below (show Below w5.heap.size w5 (w5.alloc (.cells #[.slice q5 n c5] 35)) from (Below.refl _ _).alloc (Nat.le_refl _) _)); have HQB := Lib.hid (show ∀ b, q5 = some b → M ≤ b.block ∧ b.block < (w5.alloc (.cells #[.slice q5 n c5] 35)).heap.size ∧ (Value.slice qv (i0 - 1) cv).ownBlock ≠ some b.block from fun b hb => (by subst hb; have h1 := hlt5 b.block rfl; refine ⟨by omega, by rw [World.size_alloc]; omega, fun e => ?_⟩; have h2 := (HO.out.lt _ e).2; omega)); have hM6 : M ≤ (w5.alloc (.cells #[.slice q5 n c5] 35)).heap.size := Nat.le_trans hMle hB6.size; have HB6 := Lib.hid hB6; have HLE5 := Lib.hid hle5; clear hv5 hg5 hs5 hc5 hB5 hB6 hlt5 hle5) | (refine wpl_push _ rfl (.tmp 32) (.tmp 42) rfl M (.slice qv (i0 - 1) cv) (restL ls k (i0 - 1)) rfl HO6.out ⟨w5.heap.size, 0, none⟩ rfl q5 (r.take k ++ r.drop (k + 1)) n c5 HCELL.out HCK.out HS6.out HC5.out HLE5.out HQB.out (i0 - 1) (restL_length _ _ _) (by omega) hM6 ?_; rintro g7 c7 w7 hM7 hg7 ho7 hl7; have HM7 := Lib.hid hM7; have HB7 := Lib.hid ((HB1.out.trans (HB6.out.mono hMle)).grown hg7 hM6 (fun g hg => (hl7 g hg).1)); clear hM7 hg7 ho7 hl7))
          go_roundw
          case rel =>
            refine ⟨i0 + 1, by omega, by omega, by go_num, ⟨some ⟨g7, 0, none⟩, c7, by rw [Nat.add_sub_cancel]⟩, ?_, HB7.out⟩
            rw [show i0 + 1 - 1 = i0 - 1 + 1 by omega, HSC.out]
            have h := HM7.out
            rw [Nat.sub_add_cancel hi1] at h
            exact h
          case measure => simp [intOf]; omega
        · have hdi : decide ((i0 : Int) < (m : Int)) = false := decide_eq_false (by omega)
          have hin : i0 - 1 = n := by have := HN1.out; omega
          rw [hin] at HO
          obtain ⟨p', cap'', e, hP, _, _⟩ := HO.out.prt
          rw [restL_length] at e
          rw [hin]
          injection e with e1 e2 e3
          subst e1 e3
          have HP := Lib.hid hP
          have hBw : Below N w wr := HB.out.trans (HB1.out.mono hNle)
          have hkl : k < (ls.getD 0 []).length := by rw [HR.out 0 hm0]; exact hkm
          obtain ⟨d0, p0, rfl, hx⟩ := HS0.out k hkl
          have y0 : wr.cell? ⟨c, o, none⟩ = some (.slice (some ⟨d0, p0, none⟩) m cap0) := by
            rw [hBw.cell (by exact hcl)]; exact HC0.out
          have y1 : wr.cell? ⟨d0, p0 + k, none⟩ = some (B (mx ls 0 k)) := by
            rw [hBw.cell (by rw [← HN.out]; exact World.block_lt_of_cell? w _ hx)]; exact hx
          have HFIN := Lib.hid (show xs (k + 1) (fun c => gm (mx ls 0 c) (det n (minor (mx ls) c))) = xs k (fun c => gm (mx ls 0 c) (det n (minor (mx ls) c))) ^^^ gm (mx ls 0 k) (det n (mx (restL ls k n))) by rw [HDR.out k hkm]; rfl)
          have HLR := Lib.hid (fun i (hi : i < n) => show ((restL ls k n).getD i []).length = n by rw [restL_get _ _ _ _ hi, cutRow_length _ k n (by rw [HR.out _ (by have := HN1.out; omega), HN1.out]) (by rw [HN1.out]; exact hkm)])
          have hNw : N ≤ wr.heap.size := Nat.le_trans hNle hMle
          have HBW := Lib.hid hBw
          generalize hxv : mx ls 0 k = x at *
          generalize hdv : det n (mx (restL ls k n)) = dv at *
          generalize hsv : xs k (fun c => gm (mx ls 0 c) (det n (minor (mx ls) c))) = sv at *
          have HDV := Lib.hid hdv
          clear hxv hdv hsv hx hBw hP
          go_wp2
          go_region_held3 (fun w' : World => w'.cell? ⟨c, o, none⟩ = some (.slice (some ⟨d0, p0, none⟩) m cap0) ∧ w'.cell? ⟨d0, p0 + k, none⟩ = some (B x)) (first | go_keep | exact ⟨z0, z1⟩) ((first | (go_at_call 20; refine (IH.out (restL ls k n) _ _ _ (by exact HP.out) (restL_length _ _ _) HLR.out).mono ?_; rintro e w2 ⟨rfl, hb2⟩; rw [HDV.out]; have z0 : w2.cell? ⟨c, o, none⟩ = some (.slice (some ⟨d0, p0, none⟩) m cap0) := (by rw [hb2.cell (World.block_lt_of_cell? wr _ y0)]; exact y0); have z1 : w2.cell? ⟨d0, p0 + k, none⟩ = some (B x) := (by rw [hb2.cell (World.block_lt_of_cell? wr _ y1)]; exact y1); have HB2 := Lib.hid (show Below N w w2 from HBW.out.drew.trans (hb2.mono (by exact hNw))); clear hb2) | (go_at_call 31; refine (refMul_any x dv _).mono ?_; rintro e w3 ⟨rfl, rfl⟩)))
          go_wp2
          go_roundw
          case rel => exact ⟨k + 1, by omega, by go_num, by rw [HFIN.out], HB2.out⟩
          case measure => simp [intOf]; omega
    · have hd0 : decide ((k : Int) < (m : Int)) = false := decide_eq_false (by omega)
      obtain rfl : k = m := by omega
      have HF := Lib.hid (show xs k (fun c => gm (mx ls 0 c) (det n (minor (mx ls) c))) = det k (mx ls) by rw [← HN1.out]; rfl)
      go_wp2
      go_ret
      exact ⟨by rw [← HF.out]; rfl, HB.out⟩
theorem refDet_any (n : Nat) (hn : n ≤ 1000) : ∀ (ls : List (List (BitVec 8))) (p : Option Addr) (cap : Nat) (w : World), Prt w p ls → ls.length = n → (∀ i, i < n → (ls.getD i []).length = n) →
    Calls Try.prog 20 #[.slice p n cap] w (RetD w.heap.size w (det n (mx ls))) := by
  induction n with
  | zero => exact fun ls p cap w _ _ _ => (refDet_zero ls p cap w).mono fun e w' ⟨he, hw⟩ => ⟨he, by rw [← hw]; exact Below.refl _ _⟩
  | succ n ih => exact fun ls p cap w hs hl hr => refDet_succ n (by omega) (ih (by omega)) ls p cap w hs hl hr
end Go.Proofs.Ytfilicbbkaifcaa
