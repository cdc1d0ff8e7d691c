/- The field's contracts in the form in which the statements' walks take them: the field stays, and nothing that was there changes. -/
import Derived.Test.YtbjmikgefekinaaRows2
import Derived.Test.YtbjmikgefekinaaRef
set_option linter.unusedSimpArgs false
set_option linter.unusedVariables false
namespace Go.Proofs.Ytbjmikgefekinaa
open Go Go.RowKit

/-- Block b is a field; of what w0 held nothing has changed. -/
def Gd (w0 : World) (b : Nat) (w : World) : Prop := Fld w b ∧ Below w0.heap.size w0 w
section
variable {w0 w w' : World} {b : Nat}
theorem Gd.bel (h : Gd w0 b w) : Below w0.heap.size w0 w := h.2
theorem Gd.size (h : Gd w0 b w) : w0.heap.size ≤ w.heap.size := h.2.size
theorem Gd.step (h : Gd w0 b w) (k : Below w.heap.size w w') : Gd w0 b w' := ⟨h.1.of_below k, h.2.trans (k.mono h.size)⟩
theorem Gd.alloc (h : Gd w0 b w) (o : Obj) : Gd w0 b (w.alloc o) := h.step ((Below.refl _ _).alloc (Nat.le_refl _) _)
theorem Gd.dr (h : Gd w0 b w) (k : Dr w w') : Gd w0 b w' := ⟨h.1.dr k, h.2.trans (k.below _)⟩
theorem Gd.drew (h : Gd w0 b w) : Gd w0 b w.drew := h.dr ((Dr.refl _).drew)
theorem Gd.drewN (h : Gd w0 b w) (n : Nat) : Gd w0 b (w.drewN n) := h.dr ((Dr.refl _).drewN n)
end
theorem Sl_lit (w : World) (l : List (BitVec 8)) (cs : Array Value) (T : TypeId) (h : cs = (l.map B).toArray) : Sl (w.alloc (.cells cs T)) (some ⟨w.heap.size, 0, none⟩) l := fun j hj => by
  refine ⟨w.heap.size, 0, rfl, ?_⟩
  rw [Nat.zero_add, World.cell?_alloc_new, h]
  simp [List.getD_eq_getElem?_getD, hj]
theorem pr_one (x : BitVec 8) : pr [x] = x := gm_one x
theorem pr_two (x y : BitVec 8) : pr [x, y] = gm x y := by show gm (gm 1#8 x) y = _; rw [gm_one]
theorem pr_three (x y z : BitVec 8) : pr [x, y, z] = gm (gm x y) z := by show gm (gm (gm 1#8 x) y) z = _; rw [gm_one]
theorem sm_one (x : BitVec 8) : sm [x] = x := by simp [sm]
theorem sm_three (x y z : BitVec 8) : sm [x, y, z] = x ^^^ y ^^^ z := by simp [sm]
section
variable (w0 w : World) (b : Nat) (h : Gd w0 b w)
include h
theorem mul0 : Calls Try.prog 11 #[.pointer (some ⟨b, 0, none⟩), .slice none 0 0] w fun e w' => e = .returned (B 1#8) ∧ Gd w0 b w' :=
  (mul_any b [] none 0 0 w h.1 (Sl.nil _ _) rfl (by decide)).mono fun e w' ⟨he, hd⟩ => ⟨he, h.dr hd⟩
theorem mul1 (x : BitVec 8) : Calls Try.prog 11 #[.pointer (some ⟨b, 0, none⟩), .slice (some ⟨w.heap.size, 0, none⟩) 1 1] (w.alloc (.cells #[B x] 5)) fun e w' => e = .returned (B x) ∧ Gd w0 b w' :=
  (mul_any b [x] _ 1 1 _ (h.alloc _).1 (Sl_lit w [x] _ _ rfl) rfl (by decide)).mono fun e w' ⟨he, hd⟩ => ⟨by rw [he, pr_one], (h.alloc _).dr hd⟩
theorem mul2 (x y : BitVec 8) : Calls Try.prog 11 #[.pointer (some ⟨b, 0, none⟩), .slice (some ⟨w.heap.size, 0, none⟩) 2 2] (w.alloc (.cells #[B x, B y] 5)) fun e w' => e = .returned (B (gm x y)) ∧ Gd w0 b w' :=
  (mul_any b [x, y] _ 2 2 _ (h.alloc _).1 (Sl_lit w [x, y] _ _ rfl) rfl (by decide)).mono fun e w' ⟨he, hd⟩ => ⟨by rw [he, pr_two], (h.alloc _).dr hd⟩
theorem mul3 (x y z : BitVec 8) : Calls Try.prog 11 #[.pointer (some ⟨b, 0, none⟩), .slice (some ⟨w.heap.size, 0, none⟩) 3 3] (w.alloc (.cells #[B x, B y, B z] 5)) fun e w' => e = .returned (B (gm (gm x y) z)) ∧ Gd w0 b w' :=
  (mul_any b [x, y, z] _ 3 3 _ (h.alloc _).1 (Sl_lit w [x, y, z] _ _ rfl) rfl (by decide)).mono fun e w' ⟨he, hd⟩ => ⟨by rw [he, pr_three], (h.alloc _).dr hd⟩
theorem add0 : Calls Try.prog 13 #[.pointer (some ⟨b, 0, none⟩), .slice none 0 0] w fun e w' => e = .returned (B 0#8) ∧ Gd w0 b w' :=
  (add_any _ [] none 0 0 w (Sl.nil _ _) rfl (by decide)).mono fun e w' ⟨he, hd⟩ => ⟨he, h.dr hd⟩
theorem add1 (x : BitVec 8) : Calls Try.prog 13 #[.pointer (some ⟨b, 0, none⟩), .slice (some ⟨w.heap.size, 0, none⟩) 1 1] (w.alloc (.cells #[B x] 5)) fun e w' => e = .returned (B x) ∧ Gd w0 b w' :=
  (add_any _ [x] _ 1 1 _ (Sl_lit w [x] _ _ rfl) rfl (by decide)).mono fun e w' ⟨he, hd⟩ => ⟨by rw [he, sm_one], (h.alloc _).dr hd⟩
theorem add2 (x y : BitVec 8) : Calls Try.prog 13 #[.pointer (some ⟨b, 0, none⟩), .slice (some ⟨w.heap.size, 0, none⟩) 2 2] (w.alloc (.cells #[B x, B y] 5)) fun e w' => e = .returned (B (x ^^^ y)) ∧ Gd w0 b w' :=
  (add_any _ [x, y] _ 2 2 _ (Sl_lit w [x, y] _ _ rfl) rfl (by decide)).mono fun e w' ⟨he, hd⟩ => ⟨by rw [he, sm_two], (h.alloc _).dr hd⟩
theorem add3 (x y z : BitVec 8) : Calls Try.prog 13 #[.pointer (some ⟨b, 0, none⟩), .slice (some ⟨w.heap.size, 0, none⟩) 3 3] (w.alloc (.cells #[B x, B y, B z] 5)) fun e w' => e = .returned (B (x ^^^ y ^^^ z)) ∧ Gd w0 b w' :=
  (add_any _ [x, y, z] _ 3 3 _ (Sl_lit w [x, y, z] _ _ rfl) rfl (by decide)).mono fun e w' ⟨he, hd⟩ => ⟨by rw [he, sm_three], (h.alloc _).dr hd⟩
theorem div0 (x : BitVec 8) : Calls Try.prog 14 #[.pointer (some ⟨b, 0, none⟩), B x, B 0#8] w fun e w' => e = .returned (.tuple #[B 0#8, .int .i64 3]) ∧ Gd w0 b w' :=
  (div_zero b x w).mono fun e w' ⟨he, hd⟩ => ⟨he.trans rfl, by rw [← hd]; exact h⟩
theorem divA (x y : BitVec 8) (hy : y ≠ 0#8) : Calls Try.prog 14 #[.pointer (some ⟨b, 0, none⟩), B x, B y] w fun e w' => e = .returned (.tuple #[B (gm x (gi y)), .int .i64 0]) ∧ Gd w0 b w' :=
  (div_any b x y w h.1 hy).mono fun e w' ⟨he, hd⟩ => ⟨he, h.dr hd⟩
theorem div1 (y : BitVec 8) (hy : y ≠ 0#8) : Calls Try.prog 14 #[.pointer (some ⟨b, 0, none⟩), .int .u8 1, B y] w fun e w' => e = .returned (.tuple #[B (gi y), .int .i64 0]) ∧ Gd w0 b w' := by
  have := divA w0 w b h 1#8 y hy
  rw [gm_one, B_1] at this
  exact this
theorem powN (x : BitVec 8) (n : Int) (hn : n < 0) : Calls Try.prog 16 #[.pointer (some ⟨b, 0, none⟩), B x, .int .i64 n] w fun e w' => e = .returned (.tuple #[B 0#8, .int .i64 1]) ∧ Gd w0 b w' :=
  (power_neg b x n w hn).mono fun e w' ⟨he, hd⟩ => ⟨he.trans rfl, by rw [← hd]; exact h⟩
theorem powA (x : BitVec 8) (n : Nat) : Calls Try.prog 16 #[.pointer (some ⟨b, 0, none⟩), B x, .int .i64 n] w fun e w' => e = .returned (.tuple #[B (gp x n), .int .i64 0]) ∧ Gd w0 b w' :=
  (Power_any b x n w h.1).mono fun e w' ⟨he, hd⟩ => ⟨he.trans rfl, by rw [← hd]; exact h⟩
end
/-- A new field, where nothing had changed before. -/
theorem newG (w0 w : World) (h : Below w0.heap.size w0 w) : Calls Try.prog 10 #[] w fun e w' => e = .returned (.pointer (some ⟨w.heap.size, 0, none⟩)) ∧ Gd w0 w.heap.size w' :=
  (new_any w).mono fun e w' ⟨he, hf, hb⟩ => ⟨he, hf, h.trans (hb.mono h.size)⟩
theorem bsl1 (x : BitVec 8) (w : World) : (bsT 35 1 #[(0, B x)]).run Try.prog w = .ok (.value (.slice (some ⟨w.heap.size, 0, none⟩) 1 1)) (w.alloc (.cells #[B x] 5)) := by kernel_rfl
theorem bsl3 (x y z : BitVec 8) (w : World) : (bsT 35 3 #[(0, B x), (1, B y), (2, B z)]).run Try.prog w = .ok (.value (.slice (some ⟨w.heap.size, 0, none⟩) 3 3)) (w.alloc (.cells #[B x, B y, B z] 5)) := by kernel_rfl
theorem bslA (w : World) : (bsT 35 2 #[(0, .int .u8 2), (1, .int .u8 128)]).run Try.prog w = .ok (.value (.slice (some ⟨w.heap.size, 0, none⟩) 2 2)) (w.alloc (.cells #[B 2#8, B 128#8] 5)) := by kernel_rfl
theorem gm_ex : (gm 2#8 128#8 == 29#8) = true := by decide
theorem gm_ex' : gm 2#8 128#8 = 29#8 := by decide
attribute [local go_sem ↓] exec_bs
attribute [local go_sem] bsl1 bs2 bsl3 bslA
set_option maxHeartbeats 1000000 in
theorem awake_any (w0 w : World) (h : Below w0.heap.size w0 w) : Calls Try.prog 9 #[] w fun e w' => e = .returned (.bool true) ∧ Below w0.heap.size w0 w' := by
  have HB := Lib.hid h
  have HX := gm_ex
  clear h
  go_enter Try.func9, Try.ntmps9
  go_wp2_with fail
  refine (newG w0 w HB.out).mono ?_
  rintro e w1 ⟨rfl, hG⟩
  have HG := Lib.hid hG
  clear hG
  go_wp2_with fail
  refine (mul2 w0 w1 _ HG.out 2#8 128#8).mono ?_
  rintro e w2 ⟨rfl, hG2⟩
  have HG2 := Lib.hid hG2
  clear hG2
  go_wp2
  go_ret
  exact ⟨rfl, HG2.out.2⟩
end Go.Proofs.Ytbjmikgefekinaa
