/- Rows scaled by the program's field. -/
import Derived.Test.YtfilicbbkaifcaaField
import Derived.Test.YtfilicbbkaifcaaStores
import Derived.Test.YtfilicbbkaifcaaUpto
set_option linter.unusedSimpArgs false
set_option linter.unusedVariables false
namespace Go.Proofs.Ytfilicbbkaifcaa
open Go Go.RowKit

attribute [local go_sem ↓] exec_store exec_make exec_bs
attribute [local go_sem] st_B st_I st_b mkB
set_option maxHeartbeats 2000000 in
theorem scale_any (b : Nat) (by_ : BitVec 8) (l : List (BitVec 8)) (p : Option Addr) (n cap : Nat) (w : World) (h : Fld w b) (hs : Sl w p l) (hl : l.length = n) (hn : n < 4294967296) :
    Calls Try.prog 42 #[.pointer (some ⟨b, 0, none⟩), B by_, .slice p n cap] w fun e w' =>
      e = .returned (.slice (some ⟨w.heap.size, 0, none⟩) n n) ∧ Row w' w.heap.size 5 n (fun j => B (gm by_ (l.getD j 0#8))) ∧ Below w.heap.size w w' := by
  have HF := Lib.hid h
  have HS := Lib.hid hs
  have HL := Lib.hid hl
  have hr : Row (w.alloc (.cells (zb n) 5)) w.heap.size 5 n (fun j => B 0#8) := Row.new w _ n _
  have hb : Below w.heap.size w (w.alloc (.cells (zb n) 5)) := (Below.refl _ _).alloc (Nat.le_refl _) _
  clear h hs hl
  go_enter Try.func42, Try.ntmps42
  go_wp2
  generalize w.alloc (.cells (zb n) 5) = w1 at *
  have HR := Lib.hid (hr.congr fun j _ => upto_zero (fun j => gm by_ (l.getD j 0#8)) j)
  have HB := Lib.hid hb
  clear hr hb
  generalize hN : w.heap.size = N at *
  have HN := Lib.hid hN
  clear hN
  go_loopw [15] (fun i wr => ∃ k : Nat, k ≤ n ∧ i = .int .i64 k ∧ Row wr N 5 n (upto (fun j => gm by_ (l.getD j 0#8)) k) ∧ Below N w wr) (fun i _ => n - (intOf i).toNat)
  case atStart => exact ⟨0, Nat.zero_le _, rfl, HR.out, HB.out⟩
  case round =>
    clear HR HB
    obtain ⟨k, hk, rfl, hR, hB⟩ := hrel
    have HB := Lib.hid hB
    have HR := Lib.hid hR
    by_cases hlt : k < n
    · obtain ⟨c, o, rfl, hc⟩ := HS.out k (by rw [HL.out]; exact hlt)
      have hx : wr.cell? ⟨c, o + k, none⟩ = some (B (l.getD k 0#8)) := by
        rw [hB.cell (by rw [← HN.out]; exact World.block_lt_of_cell? w _ hc)]; exact hc
      have hd0 : decide ((k : Int) < (n : Int)) = true := decide_eq_true (by omega)
      have hl0 : (k : Int) < (n : Int) := by omega
      have HST := Lib.hid (fun j (_ : j < n) => upto_step (fun j => gm by_ (l.getD j 0#8)) k j)
      generalize hxx : l.getD k 0#8 = x at *
      have HXX := Lib.hid hxx
      have hbN : b < N := by rw [← HN.out]; exact HF.out.lt
      have HFr := Lib.hid (HF.out.below hB hbN)
      clear hR hB hc hxx
      go_wp2_with fail
      refine (times_any b by_ x wr HFr.out).mono ?_
      rintro e w2 ⟨rfl, hD2⟩
      have hR2 := HR.out.dr hD2
      have c1 : (w2.cell? ⟨N, k, none⟩).isSome = true := by rw [hR2.cell k (by omega)]; rfl
      have f1 : ∀ i, w2.frozen? ⟨N, i, none⟩ = false := hR2.free
      have HR2 := Lib.hid (hR2.set k (B (gm by_ x)))
      have HB2 := Lib.hid (HB.out.trans (hD2.below N))
      clear hR2 hD2
      go_wp2
      go_roundw
      case rel => exact ⟨k + 1, by omega, by go_num, HR2.out.congr HST.out, HB2.out.setCell (Nat.le_refl _) _⟩
      case measure => simp [intOf]; omega
    · have hd0 : decide ((k : Int) < (n : Int)) = false := decide_eq_false (by omega)
      have he : Hid (k = n) := by show k = n; omega
      clear hR hB
      go_wp2
      go_ret
      refine ⟨by rw [HN.out]; rfl, ?_, by rw [HN.out]; exact HB.out⟩
      rw [HN.out]
      have := HR.out
      rw [he.out] at this
      exact this.congr fun j hj => upto_full _ _ _ hj
end Go.Proofs.Ytfilicbbkaifcaa
