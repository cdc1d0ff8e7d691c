/- The statement ShaSums, walked. -/
import Derived.Test.YteckafiedpjpgaaDoorTextW
import Derived.Deep.RegionWith
import Derived.Deep.RegionHeld3
set_option linter.unusedSimpArgs false
set_option linter.unusedVariables false
namespace Go.Proofs.YteckafiedpjpgaaDoor
open Go Go.RowKit

theorem exec_load24 (r : Operand → Value) (dst : Option Tmp) (p : Operand) (ty : TypeId) (pos : String) (after : Array Edge) (guard : Option (Nat × Bool)) :
    execOp r ⟨dst, .load 24 p, ty, pos, after, guard⟩ = ldT 24 (r p) := rfl
theorem ld_row24 {w : World} {b : Nat} {T : TypeId} {f : Nat → BitVec 8} (h : Row w b T 32 (fun i => B (f i))) : (ldT 24 (.pointer (some ⟨b, 0, none⟩))).run Tryd.prog w = .ok (.value (dgV f)) w := by
  have := run_loadAt_mid (P := Tryd.prog) w b 0 24 _ _ h.range und24 rfl (by rw [size24]; simp [tab])
  simp only [ldT, Sem.run_bind, this, Result.andThen, Sem.run_pure, Array.toArray_toList]
  rfl
/-- A comparison of two digests, its operands reckoned first. -/
def nqT (op : BinOp) (x y : Operand) (a b : Value) : Sem Next := do pure (.value (← (do eqGuard op 24 x y a b; binOp op 24 a b)))
theorem exec_nq (r : Operand → Value) (dst : Option Tmp) (x y : Operand) (z : TypeId) (ty : TypeId) (pos : String) (after : Array Edge) (guard : Option (Nat × Bool)) :
    execOp r ⟨dst, .binOp .neq 24 x y z, ty, pos, after, guard⟩ = nqT .neq x y (r x) (r y) := rfl
theorem exec_eq (r : Operand → Value) (dst : Option Tmp) (x y : Operand) (z : TypeId) (ty : TypeId) (pos : String) (after : Array Edge) (guard : Option (Nat × Bool)) :
    execOp r ⟨dst, .binOp .eql 24 x y z, ty, pos, after, guard⟩ = nqT .eql x y (r x) (r y) := rfl
theorem nq_same (x y : Operand) (f : Nat → BitVec 8) (w : World) : (nqT .neq x y (dgV f) (dgV f)).run Tryd.prog w = .ok (.value (.bool false)) w := by
  have := exec_neq24 (fun _ => dgV f) none x y 24 4 "" #[] none f f rfl rfl w
  rw [all_same] at this
  exact this
theorem eq_same (x y : Operand) (f : Nat → BitVec 8) (w : World) : (nqT .eql x y (dgV f) (dgV f)).run Tryd.prog w = .ok (.value (.bool true)) w := by
  have := exec_eql24 (fun _ => dgV f) none x y 24 4 "" #[] none f f rfl rfl w
  rw [all_same] at this
  exact this
theorem run_nq (f : Nat → BitVec 8) (w : World) : (binOp .neq 24 (dgV f) (dgV f)).run Tryd.prog w = .ok (.bool false) w := by
  have := run_neq_struct (P := Tryd.prog) w 24 (tab 32 fun i => B (f i)) (tab 32 fun i => B (f i))
  rw [show Value.agg (tab 32 fun i => B (f i)) = dgV f from rfl, eq_digest 9998 f f w, all_same] at this
  exact this
theorem run_gd (op : BinOp) (x y : Operand) (f g : Nat → BitVec 8) (w : World) : (eqGuard op 24 x y (dgV f) (dgV g)).run Tryd.prog w = .ok () w := run_eqGuard_agg (P := Tryd.prog) w op 24 x y _ _ (by kernel_rfl)
theorem size_txt (f : Nat → BitVec 8) : (txt f).size = 64 := by
  show ((List.range 64).map fun j => UInt8.ofBitVec (tb f j)).toArray.size = 64
  simp
theorem ix24 (f : Nat → BitVec 8) (k : Nat) (hk : k < 32) (w : World) : (ixT 24 (dgV f) (.int .i64 k)).run Tryd.prog w = .ok (.value (B (f k))) w := by
  have h0 : (0 : Int) ≤ (k : Int) ∧ (k : Int) < (32 : Nat) := by omega
  have hp := part5 (tab 32 fun i => B (f i)) k _ (tab_get _ _ _ hk) w
  rw [Nat.mul_one] at hp
  simp only [ixT, dgV, Instr.index, asIntOf, Sem.run_bind, Sem.run_pure, Result.andThen_ok, run_underlying und24, h0, and_self, if_true, sizeOf5, Int.toNat_natCast, Nat.mul_one, hp]
theorem bB_neq (t : TypeId) (x y : BitVec 8) : binOp .neq t (B x) (B y) = pure (.bool (x != y)) := by
  have h : ((x.toNat : Int) != (y.toNat : Int)) = (x != y) := by
    rw [Bool.eq_iff_iff]; simp only [bne_iff_ne]
    constructor
    · intro h e; exact h (by rw [e])
    · intro h e; exact h (BitVec.eq_of_toNat_eq (by omega))
  rw [B_eq', B_eq', binOp_neq, h]
theorem tb_lo (f : Nat → BitVec 8) (k : Nat) : tb f (2 * k) = hx ((f k).toNat / 16) := by rw [tb, if_pos (by omega), show 2 * k / 2 = k by omega]
theorem tb_hi (f : Nat → BitVec 8) (k : Nat) : tb f (2 * k + 1) = hx ((f k).toNat % 16) := by rw [tb, if_neg (by omega), show (2 * k + 1) / 2 = k by omega]
attribute [local go_sem ↓] exec_alloc24 exec_index exec_load24
attribute [local go_sem] run_nq run_gd st_newdg bB_quo16 bB_rem16 ix_hi' ix_lo' size_txt ix24 bB_neq
set_option maxRecDepth 100000 in
set_option maxHeartbeats 1000000 in
theorem sums_big (p : Option Addr) (n cap : Nat) (w : World) (hF : Ft w) (hk : Kt w) (h1w : 1 < w.heap.size) (hn : 400 < n) :
    Calls Tryd.prog 3 #[.slice p n cap] w fun e w' => e = .returned (.bool true) ∧ Below w.heap.size w w' := by
  have HF := Lib.hid hF
  have HK := Lib.hid hk
  have hd : decide ((400 : Int) < (n : Int)) = true := decide_eq_true (by omega)
  clear hF hk
  go_enter Tryd.func3, Tryd.ntmps3
  go_wp2_with fail
  refine (awake_any w HF.out HK.out h1w).mono ?_
  rintro e w1 ⟨rfl, hw1⟩
  have HB := Lib.hid hw1
  have hs1 := hw1.size
  clear hw1
  go_wp2_with fail
  refine (awake_any w1 (HF.out.of_below HB.out) (HK.out.of_below HB.out) (by omega)).mono ?_
  rintro e w2 ⟨rfl, hw2⟩
  have HB2 := Lib.hid (HB.out.trans (hw2.mono hs1))
  clear hw2
  go_wp2
  go_ret
  exact ⟨rfl, HB2.out⟩
set_option maxRecDepth 100000 in
set_option maxHeartbeats 4000000 in
theorem sums_small (l : List (BitVec 8)) (p : Option Addr) (cap : Nat) (w : World) (hs : Sl w p l) (hc : p = none → cap = 0) (hF : Ft w) (hk : Kt w) (h1w : 1 < w.heap.size) (hn : l.length ≤ 400) :
    Calls Tryd.prog 3 #[.slice p l.length cap] w fun e w' => e = .returned (.bool true) ∧ Below w.heap.size w w' := by
  have HF := Lib.hid hF
  have HK := Lib.hid hk
  have HS := Lib.hid hs
  have HC := Lib.hid hc
  clear hF hk hs hc
  generalize hL : l.length = n at *
  have HL := Lib.hid hL
  have hd : decide ((400 : Int) < (n : Int)) = false := decide_eq_false (by omega)
  clear hL
  go_enter Tryd.func3, Tryd.ntmps3
  go_wp2_with fail
  refine (awake_any w HF.out HK.out h1w).mono ?_
  rintro e w1 ⟨rfl, hw1⟩
  have HB := Lib.hid hw1
  have hs1 := hw1.size
  clear hw1
  go_wp2_with fail
  have hS0 : Sls0 (w1.alloc (.cells #[.slice p n cap] 22)) (some ⟨w1.heap.size, 0, none⟩) [l] := Sls0_one cap n HL.out (HS.out.of_below HB.out)
  have hb2 := HB.out.alloc hs1 (.cells #[.slice p n cap] 22)
  refine (shaSum_any [l] _ 1 _ hS0 (HF.out.of_below hb2) (HK.out.of_below hb2) (by simp; omega) (by simp [HL.out]; omega) (by simp)).mono ?_
  rintro e w2 ⟨rfl, hw2⟩
  have hfl : [l].flatten = l := by simp
  rw [hfl]
  have HB2 := Lib.hid (hb2.trans (hw2.mono hb2.size))
  have hs2 := HB2.out.size
  clear hw2 hb2 hS0 hfl
  have hr3 : Row (w2.alloc (.cells (tab 32 fun i => B (dg l i)) 24)) w2.heap.size 24 32 (fun i => B (dg l i)) := Row.new w2 24 32 _
  have hld3 := ld_row24 hr3
  have HR3 := Lib.hid hr3
  have HB3 := Lib.hid (HB2.out.alloc hs2 (.cells (tab 32 fun i => B (dg l i)) 24))
  clear hr3
  go_wp2_with fail
  generalize w2.alloc (.cells (tab 32 fun i => B (dg l i)) 24) = w3 at *
  generalize w2.heap.size = D at *
  refine (text_any (dg l) w3).mono ?_
  rintro e w4 ⟨rfl, hw4⟩
  have HB4 := Lib.hid (HB3.out.trans (hw4.mono HB3.out.size))
  have hr4 := HR3.out.of_below hw4
  have hld4 := ld_row24 hr4.drew
  have HR4 := Lib.hid hr4
  have hs4 := HB4.out.size
  clear hw4 hr4 hld3
  go_wp2_with fail
  clear hld4
  have hundL : Tryd.prog.underlying 24 = some (.array 32 5) := und24
  have hrL : w4.drew.rangeAt D 0 (tab 32 fun i => B (dg l i)).toList := HR4.out.drew.range
  have hrL5 : ∀ w', Row w' D 24 32 (fun i => B (dg l i)) → w'.rangeAt D 0 (tab 32 fun i => B (dg l i)).toList := fun w' h => h.range
  have hszL : (Tryd.prog.info? 24).map (·.size) = some (tab 32 fun i => B (dg l i)).toList.length := by rw [size24]; simp [tab]
  have hnqL : ∀ w, (binOp .neq 24 (.agg (tab 32 fun i => B (dg l i)).toList.toArray) (dgV (dg l))).run Tryd.prog w = .ok (.bool false) w := fun w => by rw [Array.toArray_toList]; exact run_nq (dg l) w
  have hgdL : ∀ x y w, (eqGuard .neq 24 x y (.agg (tab 32 fun i => B (dg l i)).toList.toArray) (dgV (dg l))).run Tryd.prog w = .ok () w := fun x y w => by rw [Array.toArray_toList]; exact run_gd .neq x y (dg l) (dg l) w
  have HRL := Lib.hid hrL
  have HRL5 := Lib.hid hrL5
  clear hrL hrL5
  generalize (tab 32 fun i => B (dg l i)).toList = LL at *
  go_region_held3 (fun w' : World => w'.rangeAt D 0 LL) (first | exact HRL.out | exact HRL5.out _ HR5.out) ((first | (go_at_call 8; have e := HL.out; subst e; refine (refSum_any l p cap _ (HS.out.of_below HB4.out.drew) HC.out (HF.out.of_below HB4.out.drew) (HK.out.of_below HB4.out.drew) (by show 1 < w4.heap.size; omega) (by omega)).mono ?_; rintro e w5 ⟨rfl, hw5⟩; have hr5 := HR4.out.drew.of_below hw5; have HR5 := Lib.hid hr5; have HB5 := Lib.hid (HB4.out.drew.trans (hw5.mono (by show w.heap.size ≤ w4.heap.size; omega))); clear hw5 hr5)))
  rename_i hHeld
  clear hHeld hundL hszL hnqL hgdL
  have hld5 := ld_row24 HR5.out
  generalize hLV : Value.agg LL.toArray = LV at *
  clear hLV
  go_wp2_with fail
  clear hld5 hd
  go_loopw [30] (fun i wr => ∃ k : Nat, k ≤ 32 ∧ i = .int .i64 k ∧ Below w.heap.size w wr) (fun i _ => 32 - (intOf i).toNat)
  case atStart => exact ⟨0, by decide, rfl, HB5.out⟩
  case round =>
    obtain ⟨k, hk, rfl, hB⟩ := hrel
    have HBr := Lib.hid hB
    clear hB
    by_cases hlt : k < 32
    · have hd0 : decide ((k : Int) < 32) = true := decide_eq_true (by omega)
      have hl0 : (k : Int) < 32 := by omega
      have hx0 : ∀ w, (ixT 9 (.string (txt (dg l))) (.int .i64 (2 * (k : Int)))).run Tryd.prog w = .ok (.value (B (hx ((dg l k).toNat / 16)))) w := fun w => by
        have := ix_txt (dg l) (2 * k) (by omega) w
        rw [tb_lo] at this
        exact this
      have hx1 : ∀ w, (ixT 9 (.string (txt (dg l))) (.int .i64 (2 * (k : Int) + 1))).run Tryd.prog w = .ok (.value (B (hx ((dg l k).toNat % 16)))) w := fun w => by
        have := ix_txt (dg l) (2 * k + 1) (by omega) w
        rw [tb_hi] at this
        exact this
      have i2 : IntKind.i64.wrap (2 * (k : Int)) = 2 * (k : Int) := IntWalk.i64_in _ (by omega)
      have i3 : IntKind.i64.wrap (2 * (k : Int) + 1) = 2 * (k : Int) + 1 := IntWalk.i64_in _ (by omega)
      go_wp2
      go_quiet (fail)
      go_wp2
      go_roundw
      case rel => exact ⟨k + 1, by omega, by go_num, below_drewN HBr.out _⟩
      case measure => simp [intOf]; omega
    · have hd0 : decide ((k : Int) < 32) = false := decide_eq_false (by omega)
      go_wp2
      go_ret
      exact ⟨rfl, HBr.out⟩
end Go.Proofs.YteckafiedpjpgaaDoor
