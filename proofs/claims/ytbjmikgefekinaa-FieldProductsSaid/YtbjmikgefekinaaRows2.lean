/- Rows scaled and added by the program's field. -/
import Derived.Test.YtbjmikgefekinaaNew
import Derived.Deep.RegionHeld3
set_option linter.unusedSimpArgs false
set_option linter.unusedVariables false
namespace Go.Proofs.Ytbjmikgefekinaa
open Go Go.RowKit

attribute [local go_sem ↓] exec_store exec_make exec_bs
attribute [local go_sem] st_B st_I st_b mkB
/-- What a row holds when k of its bytes are reckoned. -/
def upto (f : Nat → BitVec 8) (k j : Nat) : Value := if j < k then B (f j) else B 0#8
theorem upto_zero (f : Nat → BitVec 8) (j : Nat) : B 0#8 = upto f 0 j := by rw [upto, if_neg (by omega)]
theorem upto_step (f : Nat → BitVec 8) (k j : Nat) : (if j = k then B (f k) else upto f k j) = upto f (k + 1) j := by
  unfold upto
  by_cases h : j = k
  · subst h; rw [if_pos rfl, if_pos (by omega)]
  · rw [if_neg h]
    by_cases h1 : j < k
    · rw [if_pos h1, if_pos (by omega)]
    · rw [if_neg h1, if_neg (by omega)]
theorem upto_full (f : Nat → BitVec 8) (n j : Nat) (h : j < n) : upto f n j = B (f j) := by rw [upto, if_pos h]
set_option maxHeartbeats 2000000 in
theorem scale_any (b : Nat) (by_ : BitVec 8) (l : List (BitVec 8)) (p : Option Addr) (n cap : Nat) (w : World) (h : Fld w b) (hs : Sl w p l) (hl : l.length = n) (hn : n < 4294967296) :
    Calls Try.prog 17 #[.pointer (some ⟨b, 0, none⟩), B by_, .slice p n cap] w fun e w' =>
      e = .returned (.slice (some ⟨w.heap.size, 0, none⟩) n n) ∧ Row w' w.heap.size 5 n (fun j => B (gm by_ (l.getD j 0#8))) ∧ Below w.heap.size w w' := by
  have HF := Lib.hid h
  have HS := Lib.hid hs
  have HL := Lib.hid hl
  have hr : Row (w.alloc (.cells (zb n) 5)) w.heap.size 5 n (fun j => B 0#8) := Row.new w _ n _
  have hb : Below w.heap.size w (w.alloc (.cells (zb n) 5)) := (Below.refl _ _).alloc (Nat.le_refl _) _
  clear h hs hl
  go_enter Try.func17, Try.ntmps17
  go_wp2
  generalize w.alloc (.cells (zb n) 5) = w1 at *
  have HR := Lib.hid (hr.congr fun j _ => upto_zero (fun j => gm by_ (l.getD j 0#8)) j)
  have HB := Lib.hid hb
  clear hr hb
  generalize hN : w.heap.size = N at *
  have HN := Lib.hid hN
  clear hN
  go_loopw [15] (fun i wr => ∃ k : Nat, k ≤ n ∧ i = .int .i64 k ∧ Row wr N 5 n (upto (fun j => gm by_ (l.getD j 0#8)) k) ∧ Below N w wr) (fun i _ => n - (intOf i).toNat)
  case atStart => exact ⟨0, Nat.zero_le _, rfl, HR.out, HB.out⟩
  case round =>
    clear HR HB
    obtain ⟨k, hk, rfl, hR, hB⟩ := hrel
    have HB := Lib.hid hB
    have HR := Lib.hid hR
    by_cases hlt : k < n
    · obtain ⟨c, o, rfl, hc⟩ := HS.out k (by rw [HL.out]; exact hlt)
      have hx : wr.cell? ⟨c, o + k, none⟩ = some (B (l.getD k 0#8)) := by
        rw [hB.cell (by rw [← HN.out]; exact World.block_lt_of_cell? w _ hc)]; exact hc
      have hd0 : decide ((k : Int) < (n : Int)) = true := decide_eq_true (by omega)
      have hl0 : (k : Int) < (n : Int) := by omega
      have HST := Lib.hid (fun j (_ : j < n) => upto_step (fun j => gm by_ (l.getD j 0#8)) k j)
      generalize hxx : l.getD k 0#8 = x at *
      have HXX := Lib.hid hxx
      have hbN : b < N := by rw [← HN.out]; exact HF.out.lt
      have HFr := Lib.hid (HF.out.below hB hbN)
      clear hR hB hc hxx
      go_wp2_with fail
      refine (times_any b by_ x wr HFr.out).mono ?_
      rintro e w2 ⟨rfl, hD2⟩
      have hR2 := HR.out.dr hD2
      have c1 : (w2.cell? ⟨N, k, none⟩).isSome = true := by rw [hR2.cell k (by omega)]; rfl
      have f1 : ∀ i, w2.frozen? ⟨N, i, none⟩ = false := hR2.free
      have HR2 := Lib.hid (hR2.set k (B (gm by_ x)))
      have HB2 := Lib.hid (HB.out.trans (hD2.below N))
      clear hR2 hD2
      go_wp2
      go_roundw
      case rel => exact ⟨k + 1, by omega, by go_num, HR2.out.congr HST.out, HB2.out.setCell (Nat.le_refl _) _⟩
      case measure => simp [intOf]; omega
    · have hd0 : decide ((k : Int) < (n : Int)) = false := decide_eq_false (by omega)
      have he : Hid (k = n) := by show k = n; omega
      clear hR hB
      go_wp2
      go_ret
      refine ⟨by rw [HN.out]; rfl, ?_, by rw [HN.out]; exact HB.out⟩
      rw [HN.out]
      have := HR.out
      rw [he.out] at this
      exact this.congr fun j hj => upto_full _ _ _ hj
set_option maxHeartbeats 1000000 in
theorem plus_odd (f : Value) (p q : Option Addr) (m n c d : Nat) (w : World) (hm : m < 4294967296) (hn : n < 4294967296) (hne : m ≠ n) :
    Calls Try.prog 18 #[f, .slice p m c, .slice q n d] w fun e w' => e = .returned (.tuple #[.slice none 0 0, .int .i64 2]) ∧ w = w' := by
  have hd : ((m : Int) != (n : Int)) = true := by simp; omega
  have hd2 : ((m : Int) == (n : Int)) = false := by simp; omega
  have hd3 : decide (m = n) = false := by simp; omega
  clear hne
  go_enter Try.func18, Try.ntmps18
  go_wp2
  go_ret2
  exact ⟨rfl, rfl⟩

theorem bs2 (x y : BitVec 8) (w : World) : (bsT 35 2 #[(0, B x), (1, B y)]).run Try.prog w = .ok (.value (.slice (some ⟨w.heap.size, 0, none⟩) 2 2)) (w.alloc (.cells #[B x, B y] 5)) := by kernel_rfl
theorem Sl_two (w : World) (x y : BitVec 8) (T : TypeId) : Sl (w.alloc (.cells #[B x, B y] T)) (some ⟨w.heap.size, 0, none⟩) [x, y] := fun j hj => by
  refine ⟨w.heap.size, 0, rfl, ?_⟩
  rw [Nat.zero_add, World.cell?_alloc_new]
  match j, hj with
  | 0, _ => rfl
  | 1, _ => rfl
theorem sm_two (x y : BitVec 8) : sm [x, y] = x ^^^ y := by simp [sm]
theorem add_two (f : Value) (x y : BitVec 8) (p : Option Addr) (w : World) (hs : Sl w p [x, y]) :
    Calls Try.prog 13 #[f, .slice p 2 2] w fun e w' => e = .returned (B (x ^^^ y)) ∧ Dr w w' :=
  (add_any f [x, y] p 2 2 w hs rfl (by decide)).mono fun e w' ⟨he, hd⟩ => ⟨by rw [he, sm_two], hd⟩
attribute [local go_sem] bs2
set_option maxHeartbeats 4000000 in
theorem plus_any (b : Nat) (l m : List (BitVec 8)) (p q : Option Addr) (n cap cap' : Nat) (w : World) (hs : Sl w p l) (ht : Sl w q m) (hl : l.length = n) (hm : m.length = n) (hn : n < 4294967296) :
    Calls Try.prog 18 #[.pointer (some ⟨b, 0, none⟩), .slice p n cap, .slice q n cap'] w fun e w' =>
      e = .returned (.tuple #[.slice (some ⟨w.heap.size, 0, none⟩) n n, .int .i64 0]) ∧ Row w' w.heap.size 5 n (fun j => B (l.getD j 0#8 ^^^ m.getD j 0#8)) ∧ Below w.heap.size w w' := by
  have HS := Lib.hid hs
  have HT := Lib.hid ht
  have HL := Lib.hid hl
  have HM := Lib.hid hm
  have hr : Row (w.alloc (.cells (zb n) 5)) w.heap.size 5 n (fun j => B 0#8) := Row.new w _ n _
  have hb : Below w.heap.size w (w.alloc (.cells (zb n) 5)) := (Below.refl _ _).alloc (Nat.le_refl _) _
  clear hs ht hl hm
  go_enter Try.func18, Try.ntmps18
  go_wp2
  generalize w.alloc (.cells (zb n) 5) = w1 at *
  have HR := Lib.hid (hr.congr fun j _ => upto_zero (fun j => l.getD j 0#8 ^^^ m.getD j 0#8) j)
  have HB := Lib.hid hb
  clear hr hb
  generalize hN : w.heap.size = N at *
  have HN := Lib.hid hN
  clear hN
  go_loopw [20] (fun i wr => ∃ k : Nat, k ≤ n ∧ i = .int .i64 k ∧ Row wr N 5 n (upto (fun j => l.getD j 0#8 ^^^ m.getD j 0#8) k) ∧ Below N w wr) (fun i _ => n - (intOf i).toNat)
  case atStart => exact ⟨0, Nat.zero_le _, rfl, HR.out, HB.out⟩
  case round =>
    clear HR HB
    obtain ⟨k, hk, rfl, hR, hB⟩ := hrel
    have HB := Lib.hid hB
    have HR := Lib.hid hR
    by_cases hlt : k < n
    · obtain ⟨c, o, rfl, hc⟩ := HS.out k (by rw [HL.out]; exact hlt)
      obtain ⟨c', o', rfl, hc'⟩ := HT.out k (by rw [HM.out]; exact hlt)
      have hx : wr.cell? ⟨c, o + k, none⟩ = some (B (l.getD k 0#8)) := by
        rw [hB.cell (by rw [← HN.out]; exact World.block_lt_of_cell? w _ hc)]; exact hc
      have hy : wr.cell? ⟨c', o' + k, none⟩ = some (B (m.getD k 0#8)) := by
        rw [hB.cell (by rw [← HN.out]; exact World.block_lt_of_cell? w _ hc')]; exact hc'
      have hd0 : decide ((k : Int) < (n : Int)) = true := decide_eq_true (by omega)
      have hl0 : (k : Int) < (n : Int) := by omega
      have HST := Lib.hid (fun j (_ : j < n) => upto_step (fun j => l.getD j 0#8 ^^^ m.getD j 0#8) k j)
      generalize l.getD k 0#8 = x at *
      generalize m.getD k 0#8 = y at *
      have hNlt : N < wr.heap.size := hR.lt
      have hcN : c < N := by rw [← HN.out]; exact World.block_lt_of_cell? w _ hc
      have hcN' : c' < N := by rw [← HN.out]; exact World.block_lt_of_cell? w _ hc'
      clear hR hB hc hc'
      have HPOST : Hid (∀ w2, Dr (wr.alloc (.cells #[B x, B y] 5)).drew w2 → Row w2 N 5 n (upto (fun j => l.getD j 0#8 ^^^ m.getD j 0#8) k) ∧ Below N w w2 ∧
          w2.cell? ⟨c, o + k, none⟩ = some (B x) ∧ w2.cell? ⟨c', o' + k, none⟩ = some (B y)) := by
        intro w2 hD2
        have hb0 : Below wr.heap.size wr (wr.alloc (.cells #[B x, B y] 5)).drew := ((Below.refl _ _).alloc (Nat.le_refl _) _).drew
        refine ⟨(HR.out.of_below hb0).dr hD2, (HB.out.trans (hb0.mono (Nat.le_of_lt hNlt))).trans (hD2.below N), ?_, ?_⟩
        · rw [hD2.cell, hb0.cell (World.block_lt_of_cell? wr _ hx)]; exact hx
        · rw [hD2.cell, hb0.cell (World.block_lt_of_cell? wr _ hy)]; exact hy
      go_wp2_with fail
      go_region_held3 (fun w' : World => w'.cell? ⟨c, o + k, none⟩ = some (B x) ∧ w'.cell? ⟨c', o' + k, none⟩ = some (B y)) (first | go_keep | exact ⟨hs1 _, hs2 _⟩) ((first | (go_at_call 13; refine (add_two _ x y _ _ (by exact Sl_two _ x y _)).mono ?_; rintro e w2 ⟨rfl, hD2⟩; obtain ⟨hR2, hB2, hx2, hy2⟩ := HPOST.out w2 hD2; have c1 : (w2.cell? ⟨N, k, none⟩).isSome = true := (by rw [hR2.cell k (by omega)]; rfl); have f1 : w2.frozen? ⟨N, k, none⟩ = false := hR2.free k; have hs1 : ∀ v, (w2.setCell ⟨N, k, none⟩ v).cell? ⟨c, o + k, none⟩ = some (B x) := (fun v => by rw [World.cell?_setCell_other _ _ _ _ (by intro e; injection e; omega)]; exact hx2); have hs2 : ∀ v, (w2.setCell ⟨N, k, none⟩ v).cell? ⟨c', o' + k, none⟩ = some (B y) := (fun v => by rw [World.cell?_setCell_other _ _ _ _ (by intro e; injection e; omega)]; exact hy2); have HR2 := Lib.hid ((hR2.set k (B (x ^^^ y))).congr HST.out); have HB2 := Lib.hid hB2; clear hR2 hB2 hD2)))
      clear HPOST
      go_wp2
      go_roundw
      case rel => exact ⟨k + 1, by omega, by go_num, HR2.out, HB2.out.setCell (Nat.le_refl _) _⟩
      case measure => simp [intOf]; omega
    · have hd0 : decide ((k : Int) < (n : Int)) = false := decide_eq_false (by omega)
      have he : Hid (k = n) := by show k = n; omega
      clear hR hB
      go_wp2
      go_ret2
      refine ⟨by rw [HN.out]; rfl, ?_, by rw [HN.out]; exact HB.out⟩
      rw [HN.out]
      have := HR.out
      rw [he.out] at this
      exact this.congr fun j hj => upto_full _ _ _ hj
end Go.Proofs.Ytbjmikgefekinaa
