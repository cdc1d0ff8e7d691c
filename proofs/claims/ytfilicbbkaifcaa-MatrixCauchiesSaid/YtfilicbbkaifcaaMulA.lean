/- The program's Mul and Apply. -/
import Derived.Test.YtfilicbbkaifcaaProd
import Derived.Test.YtfilicbbkaifcaaGood
set_option linter.unusedSimpArgs false
set_option linter.unusedVariables false
namespace Go.Proofs.Ytfilicbbkaifcaa
open Go Go.RowKit

/-- A matrix of the call's own and OK are returned; nothing that was there has changed. -/
def RetOk (N : Nat) (w : World) (n m : Nat) (a : Mx) (e : Ending) (w' : World) : Prop :=
  ∃ G D, e = .returned (.tuple #[.slice (some ⟨G, 0, none⟩) n n, .int .i64 0]) ∧ Mp w' N G n n m D a ∧ Below N w w'
/-- Nothing and an error are returned. -/
def RetNo (N : Nat) (w : World) (t : Int) (e : Ending) (w' : World) : Prop := e = .returned (.tuple #[.slice none 0 0, .int .i64 t]) ∧ Below N w w'
theorem Prt.head {w : World} {p : Option Addr} {ls : List (List (BitVec 8))} (h : Prt w p ls) (h0 : 0 < ls.length) : ∃ c o q cap, p = some ⟨c, o, none⟩ ∧ c < w.heap.size ∧ w.cell? ⟨c, o, none⟩ = some (.slice q (ls.getD 0 []).length cap) := by
  obtain ⟨c, o, q, cap, h1, h2, h3, -, -⟩ := h.at_ 0 h0
  exact ⟨c, o, q, cap, h1, h2, by rwa [Nat.add_zero] at h3⟩
structure Good (ls : List (List (BitVec 8))) (n m : Nat) : Prop where
  len : ls.length = n
  lo : 1 ≤ n
  hi : n ≤ 64
  mlo : 1 ≤ m
  mhi : m ≤ 64
  rows : ∀ i, i < n → (ls.getD i []).length = m
theorem Good.of {ls : List (List (BitVec 8))} (h : goodB ls = true) : Good ls ls.length (ls.getD 0 []).length := by
  obtain ⟨h1, h2, h3, h4, h5⟩ := of_decide_eq_true h
  exact ⟨rfl, h1, h2, h3, h4, h5⟩
theorem Good.true_ {ls : List (List (BitVec 8))} {n m : Nat} (h : Good ls n m) : goodB ls = true := by
  obtain ⟨rfl, h1, h2, h3, h4, h5⟩ := h
  have h0 := h5 0 (by omega)
  exact decide_eq_true ⟨h1, h2, by omega, by omega, fun i hi => by rw [h5 i hi, h0]⟩
theorem Good.head {ls : List (List (BitVec 8))} {n m : Nat} (h : Good ls n m) : (ls.getD 0 []).length = m := h.rows 0 (by have := h.lo; omega)
theorem Good.eq {ls : List (List (BitVec 8))} {n m : Nat} (h : Good ls n m) : eqB ls = true := decide_eq_true fun i hi => by rw [h.head]; exact h.rows i (by rw [← h.len]; exact hi)
theorem Good.mats {n m : Nat} (a : Mx) (h1 : 1 ≤ n) (h2 : n ≤ 64) (h3 : 1 ≤ m) (h4 : m ≤ 64) : Good (rowsL n m a) n m := ⟨rowsL_length _ _ _, h1, h2, h3, h4, fun i hi => rowsL_len _ _ _ _ hi⟩
section
variable (b : Nat) (la lb : List (List (BitVec 8))) (p q : Option Addr) (n k m k' cap cap' : Nat) (w : World)
set_option maxHeartbeats 2000000 in
theorem mul_ok (hF : Fld w b) (ha : Prt w p la) (hb : Prt w q lb) (ga : Good la n k) (gb : Good lb k m) :
    Calls Try.prog 12 #[.pointer (some ⟨b, 0, none⟩), .slice p n cap, .slice q k cap'] w (RetOk w.heap.size w n m (mm k (mx la) (mx lb))) := by
  have g1 := ga.lo
  have g2 := ga.hi
  have g3 := gb.lo
  have g4 := gb.hi
  have g5 := gb.mhi
  have HF := Lib.hid hF
  have HA := Lib.hid ha
  have HB := Lib.hid hb
  have GA := Lib.hid ga
  have GB := Lib.hid gb
  obtain ⟨c, o, q0, cap0, rfl, hc0, hc⟩ := ha.head (by rw [ga.len]; omega)
  rw [ga.head] at hc
  have ta := ga.true_
  have tb := gb.true_
  have hn0 : (0 : Int) < (n : Int) := by omega
  clear hF ha hb ga gb
  go_enter Try.func12, Try.ntmps12
  go_wp2_with fail
  refine (good_any la _ n cap w HA.out GA.out.len (by omega)).mono ?_
  rintro e w1 ⟨rfl, hB1⟩
  have HB1 := Lib.hid hB1
  clear hB1
  go_wp2_with fail
  refine (good_any lb q k cap' w1 (HB.out.of_below HB1.out) GB.out.len (by omega)).mono ?_
  rintro e w2 ⟨rfl, hB2⟩
  have hB := HB1.out.trans (hB2.mono HB1.out.size)
  have hx : w2.cell? ⟨c, o, none⟩ = some (.slice q0 k cap0) := by rw [hB.cell (by exact hc0)]; exact hc
  have HB2 := Lib.hid hB
  have hk : ((k : Int) != (k : Int)) = false := by simp
  clear hB2 hB HB1
  go_wp2_with fail
  refine (product_any b la lb _ q n k m cap cap' w2 (HF.out.of_below HB2.out) (HA.out.of_below HB2.out) (HB.out.of_below HB2.out) GA.out.len GB.out.len GA.out.rows GB.out.rows (by omega) (by omega) (by omega) (by omega)).mono ?_
  rintro e w3 ⟨G, D, rfl, hM, hB3⟩
  have hN := HB2.out.size
  have HM := Lib.hid hM
  have HB3 := Lib.hid (HB2.out.trans (hB3.mono HB2.out.size))
  clear hM hB3
  go_wp2
  go_ret2
  exact ⟨G, D, rfl, ⟨HM.out.hds, HM.out.row, HM.out.inj, HM.out.ne, fun i hi => Nat.le_trans hN (HM.out.lo i hi), Nat.le_trans hN HM.out.loG⟩, HB3.out⟩
set_option maxHeartbeats 2000000 in
theorem mul_no1 (f : Value) (ha : Prt w p la) (hla : la.length = n) (hn : n < 4294967296) (ta : goodB la = false) :
    Calls Try.prog 12 #[f, .slice p n cap, .slice q k cap'] w (RetNo w.heap.size w 1) := by
  have HA := Lib.hid ha
  have HL := Lib.hid hla
  clear ha hla
  go_enter Try.func12, Try.ntmps12
  go_wp2_with fail
  refine (good_any la _ n cap w HA.out HL.out hn).mono ?_
  rintro e w1 ⟨rfl, hB1⟩
  have HB1 := Lib.hid hB1
  clear hB1
  go_wp2
  go_ret2
  exact ⟨rfl, HB1.out⟩
set_option maxHeartbeats 2000000 in
theorem mul_no2 (f : Value) (ha : Prt w p la) (hb : Prt w q lb) (hla : la.length = n) (hlb : lb.length = k) (hn : n < 4294967296) (hk : k < 4294967296) (ta : goodB la = true) (tb : goodB lb = false) :
    Calls Try.prog 12 #[f, .slice p n cap, .slice q k cap'] w (RetNo w.heap.size w 1) := by
  have HA := Lib.hid ha
  have HB := Lib.hid hb
  have HL := Lib.hid hla
  have HLB := Lib.hid hlb
  clear ha hla hb hlb
  go_enter Try.func12, Try.ntmps12
  go_wp2_with fail
  refine (good_any la _ n cap w HA.out HL.out hn).mono ?_
  rintro e w1 ⟨rfl, hB1⟩
  have HB1 := Lib.hid hB1
  clear hB1
  go_wp2_with fail
  refine (good_any lb q k cap' w1 (HB.out.of_below HB1.out) HLB.out hk).mono ?_
  rintro e w2 ⟨rfl, hB2⟩
  have HB2 := Lib.hid (HB1.out.trans (hB2.mono HB1.out.size))
  clear hB2
  go_wp2
  go_ret2
  exact ⟨rfl, HB2.out⟩
set_option maxHeartbeats 2000000 in
theorem mul_len (f : Value) (ha : Prt w p la) (hb : Prt w q lb) (ga : Good la n k') (gb : Good lb k m) (hne : k' ≠ k) :
    Calls Try.prog 12 #[f, .slice p n cap, .slice q k cap'] w (RetNo w.heap.size w 2) := by
  have g1 := ga.lo
  have g2 := ga.hi
  have g3 := gb.lo
  have g4 := gb.hi
  have HA := Lib.hid ha
  have HB := Lib.hid hb
  have GA := Lib.hid ga
  have GB := Lib.hid gb
  obtain ⟨c, o, q0, cap0, rfl, hc0, hc⟩ := ha.head (by rw [ga.len]; omega)
  rw [ga.head] at hc
  have ta := ga.true_
  have tb := gb.true_
  have hn0 : (0 : Int) < (n : Int) := by omega
  have hd1 : ((k' : Int) != (k : Int)) = true := by simp; omega
  have hd2 : ((k' : Int) == (k : Int)) = false := by simp; omega
  have hd3 : decide (k' = k) = false := by simp; omega
  clear ha hb ga gb hne
  go_enter Try.func12, Try.ntmps12
  go_wp2_with fail
  refine (good_any la _ n cap w HA.out GA.out.len (by omega)).mono ?_
  rintro e w1 ⟨rfl, hB1⟩
  have HB1 := Lib.hid hB1
  clear hB1
  go_wp2_with fail
  refine (good_any lb q k cap' w1 (HB.out.of_below HB1.out) GB.out.len (by omega)).mono ?_
  rintro e w2 ⟨rfl, hB2⟩
  have hB := HB1.out.trans (hB2.mono HB1.out.size)
  have hx : w2.cell? ⟨c, o, none⟩ = some (.slice q0 k' cap0) := by rw [hB.cell (by exact hc0)]; exact hc
  have HB2 := Lib.hid hB
  clear hB2 hB HB1
  go_wp2
  go_ret2
  exact ⟨rfl, HB2.out⟩
set_option maxHeartbeats 2000000 in
/-- Rows of any common length, as many as the matrix has columns. -/
theorem apply_ok (hF : Fld w b) (ha : Prt w p la) (hb : Prt w q lb) (ga : Good la n k) (hlb : lb.length = k) (hrb : ∀ i, i < k → (lb.getD i []).length = m) (hm : m < 4294967296) :
    Calls Try.prog 17 #[.pointer (some ⟨b, 0, none⟩), .slice p n cap, .slice q k cap'] w (RetOk w.heap.size w n m (mm k (mx la) (mx lb))) := by
  have g1 := ga.lo
  have g2 := ga.hi
  have g3 := ga.mlo
  have g4 := ga.mhi
  have HF := Lib.hid hF
  have HA := Lib.hid ha
  have HB := Lib.hid hb
  have GA := Lib.hid ga
  have HLB := Lib.hid hlb
  have HRB := Lib.hid hrb
  obtain ⟨c, o, q0, cap0, rfl, hc0, hc⟩ := ha.head (by rw [ga.len]; omega)
  rw [ga.head] at hc
  have ta := ga.true_
  have te : eqB lb = true := decide_eq_true fun i hi => by rw [hrb i (by omega), hrb 0 (by omega)]
  have hn0 : (0 : Int) < (n : Int) := by omega
  clear hF ha hb ga hlb hrb
  go_enter Try.func17, Try.ntmps17
  go_wp2_with fail
  refine (good_any la _ n cap w HA.out GA.out.len (by omega)).mono ?_
  rintro e w1 ⟨rfl, hB1⟩
  have hx : w1.cell? ⟨c, o, none⟩ = some (.slice q0 k cap0) := by rw [hB1.cell (by exact hc0)]; exact hc
  have HB1 := Lib.hid hB1
  have hk : ((k : Int) != (k : Int)) = false := by simp
  clear hB1
  go_wp2_with fail
  refine (eq_long_any lb q k cap' w1 (HB.out.of_below HB1.out) HLB.out (by omega)).mono ?_
  rintro e w2 ⟨rfl, hB2⟩
  have HB2 := Lib.hid (HB1.out.trans (hB2.mono HB1.out.size))
  clear hB2 HB1
  go_wp2_with fail
  refine (product_any b la lb _ q n k m cap cap' w2 (HF.out.of_below HB2.out) (HA.out.of_below HB2.out) (HB.out.of_below HB2.out) GA.out.len HLB.out GA.out.rows HRB.out (by omega) (by omega) (by omega) hm).mono ?_
  rintro e w3 ⟨G, D, rfl, hM, hB3⟩
  have hN := HB2.out.size
  have HM := Lib.hid hM
  have HB3 := Lib.hid (HB2.out.trans (hB3.mono HB2.out.size))
  clear hM hB3
  go_wp2
  go_ret2
  exact ⟨G, D, rfl, ⟨HM.out.hds, HM.out.row, HM.out.inj, HM.out.ne, fun i hi => Nat.le_trans hN (HM.out.lo i hi), Nat.le_trans hN HM.out.loG⟩, HB3.out⟩
set_option maxHeartbeats 2000000 in
theorem apply_len (f : Value) (ha : Prt w p la) (ga : Good la n k') (hk : k < 9223372036854775808) (hne : k' ≠ k) :
    Calls Try.prog 17 #[f, .slice p n cap, .slice q k cap'] w (RetNo w.heap.size w 2) := by
  have g1 := ga.lo
  have g2 := ga.hi
  have g3 := ga.mlo
  have g4 := ga.mhi
  have HA := Lib.hid ha
  have GA := Lib.hid ga
  obtain ⟨c, o, q0, cap0, rfl, hc0, hc⟩ := ha.head (by rw [ga.len]; omega)
  rw [ga.head] at hc
  have ta := ga.true_
  have hn0 : (0 : Int) < (n : Int) := by omega
  have hd1 : ((k' : Int) != (k : Int)) = true := by simp; omega
  have hd2 : ((k' : Int) == (k : Int)) = false := by simp; omega
  have hd3 : decide (k' = k) = false := by simp; omega
  clear ha ga hne
  go_enter Try.func17, Try.ntmps17
  go_wp2_with fail
  refine (good_any la _ n cap w HA.out GA.out.len (by omega)).mono ?_
  rintro e w1 ⟨rfl, hB1⟩
  have hx : w1.cell? ⟨c, o, none⟩ = some (.slice q0 k' cap0) := by rw [hB1.cell (by exact hc0)]; exact hc
  have HB1 := Lib.hid hB1
  clear hB1
  go_wp2
  go_ret2
  exact ⟨rfl, HB1.out⟩
set_option maxHeartbeats 2000000 in
theorem apply_odd (f : Value) (ha : Prt w p la) (hb : Prt w q lb) (ga : Good la n k) (hlb : lb.length = k) (te : eqB lb = false) :
    Calls Try.prog 17 #[f, .slice p n cap, .slice q k cap'] w (RetNo w.heap.size w 2) := by
  have g1 := ga.lo
  have g2 := ga.hi
  have g3 := ga.mlo
  have g4 := ga.mhi
  have HA := Lib.hid ha
  have HB := Lib.hid hb
  have GA := Lib.hid ga
  have HLB := Lib.hid hlb
  obtain ⟨c, o, q0, cap0, rfl, hc0, hc⟩ := ha.head (by rw [ga.len]; omega)
  rw [ga.head] at hc
  have ta := ga.true_
  have hn0 : (0 : Int) < (n : Int) := by omega
  clear ha hb ga hlb
  go_enter Try.func17, Try.ntmps17
  go_wp2_with fail
  refine (good_any la _ n cap w HA.out GA.out.len (by omega)).mono ?_
  rintro e w1 ⟨rfl, hB1⟩
  have hx : w1.cell? ⟨c, o, none⟩ = some (.slice q0 k cap0) := by rw [hB1.cell (by exact hc0)]; exact hc
  have HB1 := Lib.hid hB1
  have hk : ((k : Int) != (k : Int)) = false := by simp
  clear hB1
  go_wp2_with fail
  refine (eq_long_any lb q k cap' w1 (HB.out.of_below HB1.out) HLB.out (by omega)).mono ?_
  rintro e w2 ⟨rfl, hB2⟩
  have HB2 := Lib.hid (HB1.out.trans (hB2.mono HB1.out.size))
  clear hB2 HB1
  go_wp2
  go_ret2
  exact ⟨rfl, HB2.out⟩
end
end Go.Proofs.Ytfilicbbkaifcaa
