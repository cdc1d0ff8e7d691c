/- Slices of vectors; Merge of the program. -/
import Derived.Test.YtjpennbmphhipaaDoorBmp9
set_option linter.unusedSimpArgs false
set_option maxRecDepth 100000
set_option linter.unusedVariables false
namespace Go.Proofs.YtjpennbmphhipaaDoor
open Go Go.RowKit

/-- Vectors lie where a slice begins. -/
structure VecsAt (w : World) (p : Option Addr) (n : Nat) (l : List (Nat → Int)) : Prop where
  len : l.length = n
  at_ : 0 < n → ∃ c o, p = some ⟨c, o, none⟩ ∧ ∀ i (hi : i < l.length), VecAt w c (o + i * 16) l[i]
theorem VecsAt.of_below {w w' : World} {p : Option Addr} {n : Nat} {l : List (Nat → Int)} (h : VecsAt w p n l) (k : Below w.heap.size w w') : VecsAt w' p n l :=
  ⟨h.len, fun hn => by
    obtain ⟨c, o, e, h1⟩ := h.at_ hn
    exact ⟨c, o, e, fun i hi => (h1 i hi).of_below k⟩⟩
theorem VecsAt.nil (w : World) (p : Option Addr) : VecsAt w p 0 [] := ⟨rfl, fun h => absurd h (by decide)⟩
/-- The cells of vectors one after another. -/
def vfs (l : List (Nat → Int)) : Nat → Value := fun i => .int .i64 ((l.getD (i / 16) fun _ => 0) (i % 16))
theorem VecsAt.row {w : World} {b n : Nat} {T : TypeId} {l : List (Nat → Int)} (hl : l.length = n) (h : Row w b T (16 * n) (vfs l)) : VecsAt w (some ⟨b, 0, none⟩) n l :=
  ⟨hl, fun _ => ⟨b, 0, rfl, fun i hi j hj => by
    rw [show 0 + i * 16 + j = i * 16 + j by omega, h.cell (i * 16 + j) (by omega)]
    unfold vfs
    rw [show (i * 16 + j) / 16 = i by omega, show (i * 16 + j) % 16 = j by omega, List.getD_eq_getElem?_getD, List.getElem?_eq_getElem hi]
    rfl⟩⟩
theorem exec_bsV (r : Operand → Value) (dst : Option Tmp) (n : Nat) (parts : Array (Nat × Operand)) (ty : TypeId) (pos : String) (after : Array Edge) (guard : Option (Nat × Bool)) :
    execOp r ⟨dst, .buildSlice 98 n parts, ty, pos, after, guard⟩ = bsT 98 n (parts.map fun x => (x.1, r x.2)) := rfl
set_option maxRecDepth 100000 in
theorem bsV1 (f : Nat → Int) (w : World) : (bsT 98 1 #[(0, vcV f)]).run Tryd.prog w = .ok (.value (.slice (some ⟨w.heap.size, 0, none⟩) 1 1)) (w.alloc (.cells (tab (16 * 1) (vfs [f])) 28)) := by
  unfold vcV
  kernel_rfl
set_option maxRecDepth 100000 in
theorem bsV2 (f g : Nat → Int) (w : World) : (bsT 98 2 #[(0, vcV f), (1, vcV g)]).run Tryd.prog w = .ok (.value (.slice (some ⟨w.heap.size, 0, none⟩) 2 2)) (w.alloc (.cells (tab (16 * 2) (vfs [f, g])) 28)) := by
  unfold vcV
  kernel_rfl
set_option maxRecDepth 100000 in
theorem bsV3 (f g h : Nat → Int) (w : World) : (bsT 98 3 #[(0, vcV f), (1, vcV g), (2, vcV h)]).run Tryd.prog w = .ok (.value (.slice (some ⟨w.heap.size, 0, none⟩) 3 3)) (w.alloc (.cells (tab (16 * 3) (vfs [f, g, h])) 28)) := by
  unfold vcV
  kernel_rfl
/-- The greatest numbers. -/
def mgL : List (Nat → Int) → Nat → Int
  | [] => fun _ => 0
  | f :: r => r.foldl mxV f
def mgTo (f : Nat → Int) (r : List (Nat → Int)) (k : Nat) : Nat → Int := (r.take k).foldl mxV f
theorem mgTo_succ (f : Nat → Int) (r : List (Nat → Int)) (k : Nat) (hk : k < r.length) : mgTo f r (k + 1) = mxV (mgTo f r k) r[k] := by
  unfold mgTo
  rw [List.take_succ_eq_append_getElem hk, List.foldl_append]
  rfl
attribute [local go_sem ↓] exec_boxA exec_loadA exec_indexA exec_allocA exec_storeA exec_buildA exec_eqlA exec_neqA exec_boxV exec_loadV exec_indexV exec_allocV exec_storeV exec_buildV exec_eqlV exec_neqV
attribute [local go_sem] boxA indexA storeNewA buildA eqlA neqA boxV indexV storeNewV buildV eqlV neqV

attribute [local go_sem ↓] exec_bsV
attribute [local go_sem] bsV1 bsV2 bsV3
set_option maxRecDepth 100000 in
set_option maxHeartbeats 4000000 in
theorem merge_any (l : List (Nat → Int)) (p : Option Addr) (n cap : Nat) (w : World) (h : VecsAt w p n l) (hn : n < 100000) (hc : n ≤ cap) : Calls Tryd.prog 33 #[.slice p n cap] w fun e w' => e = .returned (vcV (mgL l)) ∧ Below w.heap.size w w' := by
  cases l with
  | nil =>
    have hn0 : n = 0 := h.len.symm
    subst hn0
    have HR := Lib.hid (Row.new w 28 16 (vf fun _ => 0))
    have HB := Lib.hid ((Below.refl w.heap.size w).alloc (Nat.le_refl _) (.cells (tab 16 (vf fun _ => 0)) 28))
    clear h
    go_enter Tryd.func33, Tryd.ntmps33
    go_wp2
    refine bodyPost_ret (resV vtV rfl _ _ w.heap.size 28 (fun _ => 0) rfl HR.out) rfl ?_
    exact ⟨rfl, HB.out⟩
  | cons f r =>
    have hrl : r.length + 1 = n := h.len
    obtain ⟨c, o, rfl, hat⟩ := h.at_ (by omega)
    have HAT := Lib.hid (fun (u : World) (hu : Below w.heap.size w u) i (hi : i < (f :: r).length) => (hat i hi).of_below hu)
    have ha1 := (Below.refl w.heap.size w).alloc (Nat.le_refl _) (.cells (tab 16 (vf fun _ => 0)) 28)
    have v0 := HAT.out _ ha1 0 (by simp)
    rw [Nat.zero_mul, Nat.add_zero] at v0
    have l0 := loadVT vtV v0
    have hz : ¬ (n : Int) = 0 := by omega
    have hz2 : ((n : Int) == 0) = false := by rw [beq_eq_false_iff_ne]; exact hz
    have hz3 : n ≠ 0 := by omega
    have hsl : (1 : Int) ≤ (n : Int) := by omega
    have hs2 : (1 : Int) ≤ (cap : Int) := by omega
    have hs3 : 1 ≤ n := by omega
    have hs4 : 1 ≤ cap := by omega
    have HS : Hid (Row ((w.alloc (.cells (tab 16 (vf fun _ => 0)) 28)).alloc (.cells (tab 16 (vf f)) 28)) w.heap.size 28 16 (vf fun _ => 0) ∧ Row ((w.alloc (.cells (tab 16 (vf fun _ => 0)) 28)).alloc (.cells (tab 16 (vf f)) 28)) (w.heap.size + 1) 28 16 (vf f) ∧ Below w.heap.size w ((w.alloc (.cells (tab 16 (vf fun _ => 0)) 28)).alloc (.cells (tab 16 (vf f)) 28))) := Lib.hid (twoRows w 28 (vf fun _ => 0) (vf f) 16)
    clear h hat ha1 v0
    go_enter Tryd.func33, Tryd.ntmps33
    go_wp2
    all_goals (
      clear l0 hz hz2 hz3 hsl hs2 hs3 hs4
      go_loopw [18] (fun i wr => ∃ k : Nat, k ≤ n - 1 ∧ i = .int .i64 k ∧ Row wr w.heap.size 28 16 (vf fun _ => 0) ∧ Row wr (w.heap.size + 1) 28 16 (vf (mgTo f r k)) ∧ Below w.heap.size w wr) (fun i _ => n - 1 - (intOf i).toNat)
      case atStart => exact ⟨0, Nat.zero_le _, rfl, HS.out.1, HS.out.2.1, HS.out.2.2⟩
      case round =>
        clear HS
        obtain ⟨k, hk, rfl, hR0, hR1, hB⟩ := hrel
        have HB := Lib.hid hB
        have HR0 := Lib.hid hR0
        have HR1 := Lib.hid hR1
        by_cases hlt : k < n - 1
        · have hkr : k < r.length := by omega
          obtain ⟨g, hg⟩ : ∃ g, r[k] = g := ⟨_, rfl⟩
          have vk := HAT.out wr hB (k + 1) (by simpa using hkr)
          rw [show o + (k + 1) * 16 = o + 16 + k * 16 by omega, List.getElem_cons_succ, hg] at vk
          have l1 := loadVT vtV vk
          have l2 := loadVT vtV (VecAt.of_row (Row.new wr 28 16 (vf g)) (Nat.le_refl _))
          obtain ⟨m, hm⟩ : ∃ m, mgTo f r k = m := ⟨_, rfl⟩
          have HM := Lib.hid (show mgTo f r (k + 1) = mxV m g by rw [mgTo_succ f r k hkr, hm, hg])
          rw [hm] at HR1
          have ha := (Below.refl wr.heap.size wr).alloc (Nat.le_refl _) (.cells (tab 16 (vf g)) 28)
          have HS2 := Lib.hid (show Row (wr.alloc (.cells (tab 16 (vf g)) 28)) w.heap.size 28 16 (vf fun _ => 0) ∧ Row (wr.alloc (.cells (tab 16 (vf g)) 28)) (w.heap.size + 1) 28 16 (vf (mxTo m g 0)) ∧ Below w.heap.size w (wr.alloc (.cells (tab 16 (vf g)) 28)) from ⟨HR0.out.of_below ha, (HR1.out.of_below ha).congr fun i _ => by unfold vf mxTo; rw [if_neg (by omega)], HB.out.trans (ha.mono HB.out.size)⟩)
          have z1 : (k : Int) < ((n - 1 : Nat) : Int) := by omega
          have z2 : decide ((k : Int) < ((n - 1 : Nat) : Int)) = true := decide_eq_true z1
          have hw6 : IntKind.i64.wrap ((k : Int) + 1) = (k : Int) + 1 := by rw [IntKind.wrap_i64]; omega
          clear hR0 hR1 hB vk ha hm hg
          first
          | (exfalso; omega)
          | (go_wp2
             go_loopw [23] (fun i wq => ∃ j : Nat, j ≤ 16 ∧ i = .int .i64 j ∧ Row wq w.heap.size 28 16 (vf fun _ => 0) ∧ Row wq (w.heap.size + 1) 28 16 (vf (mxTo m g j)) ∧ Below w.heap.size w wq) (fun i _ => 16 - (intOf i).toNat)
             case atStart => exact ⟨0, Nat.zero_le _, rfl, HS2.out.1, HS2.out.2.1, HS2.out.2.2⟩
             case round =>
               clear HS2 l1 l2
               obtain ⟨j, hj, rfl, hQ0, hQ1, hBQ⟩ := hrel
               have HBQ := Lib.hid hBQ
               have HQ0 := Lib.hid hQ0
               have HQ1 := Lib.hid hQ1
               by_cases h16 : j < 16
               · have y1 : (j : Int) < 16 := by omega
                 have y2 : decide ((j : Int) < 16) = true := decide_eq_true y1
                 have hw7 := i64v j h16
                 have x1 : wr.cell? ⟨w.heap.size + 1, j, none⟩ = some (.int .i64 (m j)) := by rw [hQ1.cell j h16]; unfold vf mxTo; rw [if_neg (by omega)]
                 have x3 := hQ1.free j
                 clear hQ0 hQ1 hBQ
                 go_wp2
                 go_roundw
                 case rel => exact ⟨j + 1, by omega, by go_num, HQ0.out.of_block (Below.heap_setCell _ _ _ _ (by show w.heap.size ≠ w.heap.size + 1; omega)), (HQ1.out.set j (.int .i64 (max (m j) (g j)))).congr fun i hi => by
                   unfold vf mxTo
                   by_cases e : i = j
                   · subst e
                     simp
                   · by_cases e2 : i < j
                     · simp [e, e2, show i < j + 1 by omega]
                     · simp [e, e2, show ¬ i < j + 1 by omega], HBQ.out.setCell (by show w.heap.size ≤ w.heap.size + 1; omega) _⟩
                 case measure => simp [intOf]; omega
               · have y1 : ¬ (j : Int) < 16 := by omega
                 have y2 : decide ((j : Int) < 16) = false := decide_eq_false y1
                 obtain rfl : j = 16 := by omega
                 go_wp2
                 go_roundw
                 case rel => exact ⟨k + 1, by omega, by go_num, hQ0, hQ1.congr fun i hi => by rw [HM.out]; unfold vf; rw [mxTo_all m g i hi], hBQ⟩
                 case measure => simp [intOf]; omega)
        · have z1 : ¬ (k : Int) < ((n - 1 : Nat) : Int) := by omega
          have z2 : decide ((k : Int) < ((n - 1 : Nat) : Int)) = false := decide_eq_false z1
          have hkn : k = r.length := by omega
          have HM := Lib.hid (show mgTo f r k = mgL (f :: r) by rw [hkn]; unfold mgTo; rw [List.take_length]; rfl)
          have l3 := loadVT vtV (VecAt.of_row hR1 (Nat.le_refl _))
          obtain ⟨w5, hs, hR5, hK5⟩ := storeVT vtV hR0 (mgTo f r k)
          have HR5 := Lib.hid hR5
          have HB5 := Lib.hid (hB.trans (hK5.below (Nat.le_refl _) hB.size))
          clear hR0 hR1 hB hR5 hK5 hkn
          go_wp2
          refine bodyPost_ret (resV vtV rfl _ w5 w.heap.size 28 (mgTo f r k) rfl HR5.out) rfl ?_
          exact ⟨by rw [HM.out], HB5.out⟩)
end Go.Proofs.YtjpennbmphhipaaDoor
