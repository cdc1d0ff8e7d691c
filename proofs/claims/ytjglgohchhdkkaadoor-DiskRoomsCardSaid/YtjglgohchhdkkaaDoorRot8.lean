/- Rot of the program's disk. -/
import Derived.Test.YtjglgohchhdkkaaDoorCra8
set_option linter.unusedSimpArgs false
set_option linter.unusedVariables false
namespace Go.Proofs.YtjglgohchhdkkaaDoor
open Go Go.RowKit

theorem xor_bits (a b : UInt8) : bits .xor .u8 (a.toNat : Int) (b.toNat : Int) = ((a ^^^ b).toNat : Int) := by
  rw [u8_xor_nat _ _ (UInt8.toNat_lt a) (UInt8.toNat_lt b), UInt8.toNat_xor]
section
variable {w w' : World} {S S' : Nat → Prop} {b : Nat} {m : Dk} {mv md : Nat} {pv : Value} {vs : List Value} {sl : Nat → Hn}
theorem set_len (m : Dk) (i a : Nat) (mask : UInt8) (f : Fl) : (bodyL { m with bodies := m.bodies.set i (flipL (m.bodies.getD i []) a mask) } f).length = (bodyL m f).length := by
  unfold bodyL
  show ((m.bodies.set i _).getD f.body []).length = (m.bodies.getD f.body []).length
  by_cases h : f.body = i
  · subst h
    by_cases h2 : f.body < m.bodies.length
    · rw [List.getD_eq_getElem?_getD, List.getElem?_set_self h2]
      show (flipL _ _ _).length = _
      rw [flip_len]
    · rw [List.getD_eq_getElem?_getD, List.getD_eq_getElem?_getD, List.getElem?_eq_none (by rw [List.length_set]; omega), List.getElem?_eq_none (by omega)]
  · rw [List.getD_eq_getElem?_getD, List.getElem?_set_ne (fun e => h e.symm), ← List.getD_eq_getElem?_getD]
theorem Dp.flip (h : Dp w S b m mv md pv vs sl) (i : Nat) (hi : i < m.bodies.length) (a : Nat) (ha : a < (m.bodies.getD i []).length) (mask : UInt8) (g : Nat) (n c : Nat) (hv : (sl i).v = .slice (some ⟨g, 0, none⟩) n c) :
    Dp (w.setCell ⟨g, a, none⟩ (.int .u8 (((m.bodies.getD i []).getD a 0 ^^^ mask).toNat : Int))) S b { m with bodies := m.bodies.set i (flipL (m.bodies.getD i []) a mask) } mv md pv vs sl := by
  have ho := h.bod.own i hi
  have hg : (sl i).v.ownBlock = some g := by rw [hv]; rfl
  obtain ⟨cur, hc⟩ := own_type ho hg
  have hk : ∀ k, k ≠ g → (w.setCell ⟨g, a, none⟩ (.int .u8 (((m.bodies.getD i []).getD a 0 ^^^ mask).toNat : Int))).heap[k]? = w.heap[k]? := fun k hne => Below.heap_setCell _ _ _ _ hne
  have nty : ∀ k cs T, w.heap[k]? = some (.cells cs T (0, 0)) → T ≠ 5 → k ≠ g := fun k cs T h2 hT e => by
    rw [e, hc] at h2
    injection h2 with h2
    injection h2 with _ h2 _
    exact hT h2.symm
  have nmp : ∀ k es clock, w.heap[k]? = some (.map es clock) → k ≠ g := fun k es clock h2 e => by rw [e, hc] at h2; cases h2
  obtain ⟨e1, c1, hv1, _⟩ := id h.vis
  obtain ⟨e2, c2, hd1, _⟩ := id h.dur
  have hlen : (m.bodies.set i (flipL (m.bodies.getD i []) a mask)).length = m.bodies.length := List.length_set
  refine ⟨(hk b (nty b _ _ h.box (by decide))).trans h.box, h.sb, h.sv, h.sd, h.ne, h.vis.keep (hk mv (nmp _ _ _ hv1)), h.dur.keep (hk md (nmp _ _ _ hd1)), ⟨fun j hj => ?_, fun j hj => h.bod.in_ j (by rw [← hlen]; exact hj), fun j k hj hk2 => h.bod.ap j k (by rw [← hlen]; exact hj) (by rw [← hlen]; exact hk2)⟩, h.pd.keep (fun k T cs _ h2 hT => hk k (nty k cs T h2 (by rcases hT with rfl | rfl | rfl <;> decide))) (fun _ x => x), ⟨fun f hf => ?_, fun f hf => ?_, fun x hx hk2 => ?_⟩, fun k hk2 => by simpa using h.low k hk2⟩
  · replace hj : j < m.bodies.length := by rw [← hlen]; exact hj
    by_cases e : j = i
    · subst e
      have e1 : (m.bodies.set j (flipL (m.bodies.getD j []) a mask)).getD j [] = flipL (m.bodies.getD j []) a mask := by rw [List.getD_eq_getElem?_getD, List.getElem?_set_self hj]; rfl
      show World.ownsRow _ _ _ _ _ ((m.bodies.set j _).getD j []).length (bytC ((m.bodies.set j _).getD j []))
      rw [e1, flip_len, bytC_flip8]
      obtain ⟨q2, c2, hq⟩ := own_slice ho
      rw [hv] at ho hq
      injection hq with hq1 hq2 hq3
      rw [← hq2] at ho
      rw [hv, ← hq2]
      exact (ho.stored a _).1
    · have e1 : (m.bodies.set i (flipL (m.bodies.getD i []) a mask)).getD j [] = m.bodies.getD j [] := by rw [List.getD_eq_getElem?_getD, List.getElem?_set_ne (fun x => e x.symm), ← List.getD_eq_getElem?_getD]
      show World.ownsRow _ _ _ _ _ ((m.bodies.set i _).getD j []).length (bytC ((m.bodies.set i _).getD j []))
      rw [e1]
      exact ownsRow_setCell_other (h.bod.own j hj) (a := ⟨g, a, none⟩) (h.bod.ap i j hi hj (fun x => e x.symm) g hg) _
  · rw [set_len]; exact h.sz.seen f hf
  · rw [set_len]; exact h.sz.safe f hf
  · rw [set_len]; exact h.sz.waits x hx hk2
set_option maxRecDepth 100000 in
set_option maxHeartbeats 4000000 in
theorem rot_any (h : Dp w S b m mv md pv vs sl) (hok : DkOk 300 m) (p : S8) (at_ : Int) (mask : UInt8) : Calls Tryd.prog 12 #[.pointer (some ⟨b, 0, none⟩), .string (mkS p), .int .i64 at_, .int .u8 (mask.toNat : Int)] w fun e w' => e = .returned (.int .i64 ((rotL m p at_ mask).2 : Int)) ∧ DPost S b w (rotL m p at_ mask).1 w' := by
  have c2 := h.cell 2
  simp at c2
  have H := Lib.hid h
  have HOK := Lib.hid hok
  cases hf : findL m.seen p with
  | none =>
    have hl := look_none h.vis hf
    have HR := Lib.hid (show rotL m p at_ mask = (m, 8) by unfold rotL; rw [hf])
    have HB := Lib.hid ((Below.refl w.heap.size w).alloc (Nat.le_refl _) (.cells #[.int .i64 0, .int .i64 0, .int .i64 0, .slice none 0 0] 64))
    clear h hf hok
    go_enter Tryd.func12, Tryd.ntmps12
    go_wp2
    go_ret
    rw [HR.out]
    exact ⟨rfl, DPost.same H.out HB.out⟩
  | some i =>
    obtain ⟨x, hx⟩ : ∃ x, m.seen.getD i fl0 = x := ⟨_, rfl⟩
    have hl := look_some h.vis hf x hx
    have hxm : x.body < m.bodies.length := by rw [← hx]; exact hok.inS _ (findL_in hf)
    have hxs : x.size = ((m.bodies.getD x.body []).length : Int) := by rw [← hx]; exact h.sz.seen _ (findL_in hf)
    have hbb : (m.bodies.getD x.body []).length ≤ 300000 := hok.shortB x.body
    have HR := Lib.hid (show rotL m p at_ mask = if at_ < 0 ∨ ((m.bodies.getD x.body []).length : Int) ≤ at_ then (m, 1) else ({ m with bodies := m.bodies.set x.body (flipL (m.bodies.getD x.body []) at_.toNat mask) }, 0) by unfold rotL; rw [hf]; dsimp only; rw [hx]; rfl)
    have hB := ((Below.refl w.heap.size w).alloc (Nat.le_refl _) (.cells #[.int .i64 x.size, .int .i64 x.time, .int .i64 x.chg, .slice (sl x.body).q (sl x.body).n (sl x.body).c] 64))
    have HB := Lib.hid hB
    have k0 : (w.alloc (.cells #[.int .i64 x.size, .int .i64 x.time, .int .i64 x.chg, .slice (sl x.body).q (sl x.body).n (sl x.body).c] 64)).cell? ⟨w.heap.size, 0, none⟩ = some (.int .i64 x.size) := box4_cell w 64 (.int .i64 x.size) (.int .i64 x.time) (.int .i64 x.chg) (.slice (sl x.body).q (sl x.body).n (sl x.body).c) 0
    have k3 : (w.alloc (.cells #[.int .i64 x.size, .int .i64 x.time, .int .i64 x.chg, .slice (sl x.body).q (sl x.body).n (sl x.body).c] 64)).cell? ⟨w.heap.size, 3, none⟩ = some (.slice (sl x.body).q (sl x.body).n (sl x.body).c) := box4_cell w 64 (.int .i64 x.size) (.int .i64 x.time) (.int .i64 x.chg) (.slice (sl x.body).q (sl x.body).n (sl x.body).c) 3
    have HXM := Lib.hid hxm
    have HXS := Lib.hid hxs
    by_cases g1 : at_ < 0
    · have y1 : decide (at_ < 0) = true := decide_eq_true g1
      have HE := Lib.hid (show rotL m p at_ mask = (m, 1) by rw [HR.out, if_pos (.inl g1)])
      clear h hf hok hB hx hxm hxs
      go_enter Tryd.func12, Tryd.ntmps12
      go_wp2
      go_ret
      rw [HE.out]
      exact ⟨rfl, DPost.same H.out HB.out⟩
    · have y1 : decide (at_ < 0) = false := decide_eq_false g1
      by_cases g2 : x.size ≤ at_
      · have y2 : decide (x.size ≤ at_) = true := decide_eq_true g2
        have HE := Lib.hid (show rotL m p at_ mask = (m, 1) by rw [HR.out, if_pos (.inr (by rw [← hxs]; exact g2))])
        clear h hf hok hB hx hxm hxs
        go_enter Tryd.func12, Tryd.ntmps12
        go_wp2
        go_ret
        rw [HE.out]
        exact ⟨rfl, DPost.same H.out HB.out⟩
      · have y2 : decide (x.size ≤ at_) = false := decide_eq_false g2
        obtain ⟨a, rfl⟩ := Int.eq_ofNat_of_zero_le (show 0 ≤ at_ by omega)
        obtain ⟨bd, hbd⟩ : ∃ bd, m.bodies.getD x.body [] = bd := ⟨_, rfl⟩
        have hab : a < bd.length := by rw [← hbd]; omega
        have HE := Lib.hid (show rotL m p (a : Int) mask = ({ m with bodies := m.bodies.set x.body (flipL (m.bodies.getD x.body []) a mask) }, 0) by rw [HR.out, if_neg (by rw [← hxs]; omega), Int.toNat_natCast])
        have hw2 := h.of_below hB
        have ho := hw2.bod.own x.body hxm
        rw [hbd] at ho
        obtain ⟨g, cap, hv, _, hgl, hnc, hcs, hfr⟩ := own_full8 ho (by omega)
        have x1 := hcs a (by rw [bytC_len]; exact hab)
        rw [bytC_get bd a hab] at x1
        have hch : (chr bd a : Int) = ((bd.getD a 0).toNat : Int) := by unfold chr; rfl
        rw [hch] at x1
        have x2 := hfr a
        have hsv : (sl x.body).q = some ⟨g, 0, none⟩ ∧ (sl x.body).n = bd.length ∧ (sl x.body).c = cap := by
          unfold Hn.v at hv
          injection hv with e1 e2 e3
          exact ⟨e1, e2, e3⟩
        rw [hsv.1, hsv.2.1, hsv.2.2] at hl k0 k3 x1 x2
        have hfl := hw2.flip x.body hxm a (by rw [hbd]; exact hab) mask g _ _ hv
        rw [hbd] at hfl
        obtain ⟨by_, hby⟩ : ∃ y, bd.getD a 0 = y := ⟨_, rfl⟩
        rw [hby] at hfl x1
        rw [hsv.1, hsv.2.1, hsv.2.2] at hfl
        have HSV := Lib.hid hsv
        have HBD := Lib.hid hbd
        have hgw : g < w.heap.size := by
          have := hw2.bod.in_ x.body hxm g (by rw [hv]; rfl)
          exact h.low g this
        have hSg : S g := hw2.bod.in_ x.body hxm g (by rw [hv]; rfl)
        have HSG := Lib.hid hSg
        have hai : (a : Int) < (bd.length : Int) := by omega
        have hbits := xor_bits by_ mask
        obtain ⟨rr, hrr⟩ : ∃ r, by_ ^^^ mask = r := ⟨_, rfl⟩
        rw [hrr] at hbits hfl
        clear hrr
        have HFL := Lib.hid hfl
        clear hfl
        clear h hf hok hB hx hxm hxs hw2 ho hv hcs hfr hch hbd hby hSg hsv
        go_enter Tryd.func12, Tryd.ntmps12
        go_wp2
        go_ret
        have hgl2 : g < w.heap.size := hgw
        have HFL2 := HFL.out
        rw [World.setCell_alloc_past _ _ _ _ hgl2] at HFL2
        rw [HE.out]
        refine ⟨rfl, ⟨mv, md, pv, vs, sl, ?_⟩, ?_⟩
        · rw [HBD.out]
          exact HFL2.keep (fun _ _ => rfl) (fun k hk => .inl hk) (SN.low H.out.low (by rw [World.size_alloc]; simp))
        · have hBx := (Below.refl (w.setCell ⟨g, a, none⟩ (.int .u8 (rr.toNat : Int))).heap.size (w.setCell ⟨g, a, none⟩ (.int .u8 (rr.toNat : Int)))).alloc (Nat.le_refl _) (.cells #[.int .i64 x.size, .int .i64 x.time, .int .i64 x.chg, .slice (some ⟨g, 0, none⟩) bd.length cap] 64)
          have hs : (w.setCell ⟨g, a, none⟩ (.int .u8 (rr.toNat : Int))).heap.size = w.heap.size := by simp
          exact ⟨hBx.os, hBx.tape, hBx.output, by rw [← hs]; exact hBx.size, fun k hk hn => by
            rw [hBx.block k (by rw [hs]; exact hk)]
            exact Below.heap_setCell _ _ _ _ (fun e => hn (by rw [e]; exact HSG.out))⟩
end
end Go.Proofs.YtjglgohchhdkkaaDoor
