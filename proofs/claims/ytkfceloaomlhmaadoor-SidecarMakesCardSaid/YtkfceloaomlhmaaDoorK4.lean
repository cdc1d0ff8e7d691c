/- Merged texts: CopyM, Pad12, Mak12, Mkr12. -/
import Derived.Deep.RegionLaw
import Derived.Test.YtkfceloaomlhmaaDoorK1
import Derived.Test.YtkfceloaomlhmaaDoorCuts
import Derived.Test.YtkfceloaomlhmaaDoorK3
import Derived.LoopIn
import Derived.Test.YtkfceloaomlhmaaDoorK2
set_option linter.unusedSimpArgs false
set_option linter.unusedVariables false
/- copy of bytes into a row of the call's own: as many as the shorter one has. -/
set_option maxRecDepth 100000
namespace Go.Proofs.YtkfceloaomlhmaaDoor
open Go Go.RowKit
attribute [-go_sem] Sha.exec_store

/-- A cut of bytes from any number of them on. -/
theorem slb_lo (q : Option Addr) (n cap k : Nat) (w : World) (hk : k ≤ n) :
    (slT 22 (.slice q n cap) (some (.int .i64 (k : Int))) none none).run Tryd.prog w = .ok (.value (.slice (cutA q cap k) (n - k) (cap - k))) w := by
  have h1 := run_sliceAt_slice (P := Tryd.prog) w 22 (.slice q n cap) (some (.int .i64 (k : Int))) none none und35
  rw [run_slice_l (P := Tryd.prog) w 22 q n cap und35 .i64 (k : Int) (by omega) (by omega), sizeB] at h1
  simp only [slT, Sem.run_bind, h1, Result.andThen_ok, Sem.run_pure]
  simp only [sliced, Int.toNat_natCast, Nat.mul_one, cutA]
/-- What the copy leaves. -/
def copied1 (l : List (BitVec 8)) (t : Nat) (g : Nat → Value) : Nat → Value := fun j => if j < t then B (l.getD j 0#8) else g j
theorem run_copyM (w : World) (ty : TypeId) (E m c : Nat) (g : Nat → Value) (q : Option Addr) (n c' : Nat) (l : List (BitVec 8)) (hR : Row w E 5 m g) (hl : l.length = n) (hsl : Sl w q l) (t : Nat) (ht : t = min m n) :
    ∃ w', (Builtin.copy_ #[22, 22] ty #[.slice (some ⟨E, 0, none⟩) m c, .slice q n c']).run Tryd.prog w = .ok (.int .i64 (t : Int)) w' ∧ Row w' E 5 m (copied1 l t g) ∧ Kp E w w' := by
  by_cases h0 : t = 0
  · subst h0
    have hn : Nat.min n m = 0 := by show min n m = 0; omega
    refine ⟨w, ?_, hR.congr fun j _ => by rw [copied1, if_neg (by omega)], Kp.refl _ _⟩
    have := run_copy_none (P := Tryd.prog) w 22 22 ty 5 (some ⟨E, 0, none⟩) q m c n c' und35 (by kernel_rfl) hn
    rw [this]
    rfl
  · obtain ⟨c0, o0, rfl, hc⟩ := hsl 0 (by omega)
    have hlen : ((l.take t).map B).length = t := by rw [List.length_map, List.length_take]; omega
    have key := run_copy_row (P := Tryd.prog) w 22 22 ty 5 E 0 m c ⟨c0, o0, none⟩ n c' (tab m g) 5 ((l.take t).map B) und35 (by kernel_rfl) hR (by rw [hlen, ht]; exact Nat.min_comm _ _)
      (fun j v hv => by
        have hj : j < t := by
          have := (List.getElem?_eq_some_iff.1 hv).1
          rw [hlen] at this; exact this
        refine hsl.news j v ?_
        rw [List.getElem?_map] at hv ⊢
        rw [List.getElem?_take, if_pos hj] at hv
        exact hv) (by rw [tab_size, hlen]; omega) (one_map _)
    have e : ((tab m g).toList.take 0 ++ (l.take t).map B ++ (tab m g).toList.drop (0 + ((l.take t).map B).length)).toArray = tab m (copied1 l t g) := by
      have := tab_splice m t g (l.take t) (by rw [List.length_take]; omega) (by omega)
      rw [List.append_assoc, this]
      refine tab_congr fun j _ => ?_
      unfold copied1
      by_cases hj : j < t
      · rw [if_pos hj, if_pos hj]; congr 1; simp [List.getD_eq_getElem?_getD, hj]
      · rw [if_neg hj, if_neg hj]
    rw [e, hlen] at key
    exact ⟨_, key, setRow_heap w E _ _ 5 _ hR, ⟨rfl, rfl, rfl, by simp [World.setRow], fun k _ hk => setRow_other w E k _ hk⟩⟩
section
variable {ops : Array Oper} {rest : List Oper} {o : Oper} {a : Act} {Q : Exit → Act → World → Prop} (w : World) (hgd : o.guard = none) (d s : Operand)
    (ho : o.op = .call { callee := .builtin .copy, args := #[d, s], argTypes := #[22, 22] }) (E m c : Nat) (g : Nat → Value) (q : Option Addr) (n c' : Nat) (l : List (BitVec 8))
    (hd : a.eval d = .slice (some ⟨E, 0, none⟩) m c) (hs : a.eval s = .slice q n c') (hR : Row w E 5 m g) (hl : l.length = n) (hsl : Sl w q l) (t : Nat) (ht : t = min m n)
include hgd ho hd hs hR hl hsl ht
theorem wpl_copyM (h : ∀ w', Row w' E 5 m (copied1 l t g) → Kp E w w' → wpList Tryd.prog ops Q rest (a.put o.dst (.int .i64 (t : Int))) w') : wpList Tryd.prog ops Q (o :: rest) a w := by
  refine wpList_plain hgd fun K hK => ?_
  obtain ⟨w', hr, h2, h3⟩ := run_copyM w o.type E m c g q n c' l hR hl hsl t ht
  unfold Oper.wp execOp
  simp only [ho, resolve, invoke, builtin, Sem.run_bind, Sem.run_pure, Result.andThen_ok, List.map_toArray, List.map_cons, List.map_nil, hd, hs, hr]
  exact hK _ _ (h w' h2 h3)
theorem step_copyM {K : Act → World → Prop} {Q : Exit → Act → World → Prop} {F : Prop} (h : ∀ w', Row w' E 5 m (copied1 l t g) → Kp E w w' → K (a.put o.dst (.int .i64 (t : Int))) w') :
    if Region.wanted o (yielded ops a.tmps) = true then Oper.wp Tryd.prog o a w K Q else F := by
  have hw : Region.wanted o (yielded ops a.tmps) = true := by simp [Region.wanted, hgd]
  rw [if_pos hw]
  obtain ⟨w', hr, h2, h3⟩ := run_copyM w o.type E m c g q n c' l hR hl hsl t ht
  unfold Oper.wp execOp
  simp only [ho, resolve, invoke, builtin, Sem.run_bind, Sem.run_pure, Result.andThen_ok, List.map_toArray, List.map_cons, List.map_nil, hd, hs, hr]
  exact h w' h2 h3
end
end Go.Proofs.YtkfceloaomlhmaaDoor
/- sidecar: complete blocks, the parity of a stripe, a digest appended. -/
set_option maxRecDepth 100000
namespace Go.Proofs.YtkfceloaomlhmaaDoor
open Go Go.RowKit

attribute [-go_sem] Sha.exec_store
theorem mk256 (w : World) : (mkT 22 (.int .i64 256) (.int .i64 256)).run Tryd.prog w = .ok (.value (.slice (some ⟨w.heap.size, 0, none⟩) 256 256)) (w.alloc (.cells (zb 256) 5)) := mkB 256 w (by decide)
/-- The numbers of complete blocks. -/
def padM (bs : List (List (BitVec 8))) : Mx := fun i j => (bs.getD i []).getD j 0#8
theorem pad_rowsL (bs : List (List (BitVec 8))) (hb : ∀ i, i < bs.length → (bs.getD i []).length ≤ 256) : rowsL bs.length 256 (padM bs) = bs.map padL := by
  apply rows_ext
  · rw [rowsL_length, List.length_map]
  · intro i hi
    rw [rowsL_length] at hi
    rw [rowsL_get _ _ _ _ hi]
    have hp : (bs.map padL).getD i [] = padL (bs.getD i []) := by
      rw [List.getD_eq_getElem?_getD, List.getElem?_map, List.getElem?_eq_getElem hi, List.getD_eq_getElem?_getD, List.getElem?_eq_getElem hi]; rfl
    rw [hp]
    have hl := hb i hi
    have hpl := padL_len hl
    apply List.ext_getElem?
    intro j
    by_cases hj : j < 256
    · have h1 := rowL_get 256 (padM bs) i j hj
      rw [List.getElem?_eq_getElem (by rw [rowL_length]; exact hj)]
      rw [List.getElem?_eq_getElem (by rw [hpl]; exact hj)]
      rw [List.getD_eq_getElem?_getD, List.getElem?_eq_getElem (by rw [rowL_length]; exact hj)] at h1
      congr 1
      refine Eq.trans h1 ?_
      unfold padM padL zs12
      by_cases h2 : j < (bs.getD i []).length
      · rw [List.getElem_append_left h2]; generalize bs.getD i [] = r at h2 ⊢; simp [List.getD_eq_getElem?_getD, h2]
      · rw [List.getElem_append_right (by omega), List.getElem_replicate]; generalize bs.getD i [] = r at h2 ⊢; simp [List.getD_eq_getElem?_getD, List.getElem?_eq_none (show r.length ≤ j by omega)]
    · rw [List.getElem?_eq_none (by rw [rowL_length]; omega), List.getElem?_eq_none (by rw [hpl]; omega)]
section
attribute [local go_sem ↓] exec_store exec_make
attribute [local go_sem] st_H mk256 mkR
set_option maxRecDepth 100000 in
set_option maxHeartbeats 8000000 in
theorem padded12_any (bs : List (List (BitVec 8))) (p : Option Addr) (k cap : Nat) (w : World) (hs : Lay w p bs) (hk : bs.length = k) (hk4 : k ≤ 1000) (hb : ∀ i, i < bs.length → (bs.getD i []).length ≤ 256) :
    Calls Tryd.prog 26 #[.slice p k cap] w fun e w' => e = .returned (.slice (some ⟨w.heap.size, 0, none⟩) k k) ∧ (∃ D, Mp w' w.heap.size w.heap.size k k 256 D (padM bs)) ∧ Below w.heap.size w w' := by
  have hkn : k < 100000000 := by omega
  have HS := Lib.hid hs
  have HKL := Lib.hid hk
  have HBL := Lib.hid hb
  have hmat : Mp (w.alloc (.cells (tab k (fun _ => .slice none 0 0)) 22)) w.heap.size w.heap.size k 0 256 (fun _ => 0) (padM bs) := Mp.zero (Row.new w _ k _) (Nat.le_refl _)
  have hb0 : Below w.heap.size w (w.alloc (.cells (tab k (fun _ => .slice none 0 0)) 22)) := (Below.refl _ _).alloc (Nat.le_refl _) _
  clear hs hk hb
  go_enter Tryd.func26, Tryd.ntmps26
  go_wp2
  generalize w.alloc (.cells (tab k (fun _ => .slice none 0 0)) 22) = w1 at *
  have HM := Lib.hid hmat
  have HB0 := Lib.hid hb0
  clear hmat hb0
  generalize hN : w.heap.size = N at *
  have HN := Lib.hid hN
  clear hN
  go_loopw [11] (fun i wr => ∃ i0 : Nat, i0 ≤ k ∧ i = .int .i64 i0 ∧ ∃ D, Mp wr N N k i0 256 D (padM bs) ∧ Below N w wr) (fun i _ => k - (intOf i).toNat)
  case atStart => exact ⟨0, Nat.zero_le _, rfl, _, HM.out, HB0.out⟩
  case round =>
    clear HM HB0
    obtain ⟨i0, hi0, rfl, D, hM, hB⟩ := hrel
    rename World => WO
    have HM := Lib.hid hM
    have HBr := Lib.hid hB
    have hNlt : N < WO.heap.size := hM.ltG
    by_cases hlt : i0 < k
    · have hd0 : decide ((i0 : Int) < (k : Int)) = true := decide_eq_true (by omega)
      have hl0 : (i0 : Int) < (k : Int) := by omega
      obtain ⟨cb, ob, qb, db, e0, hcb, hsb, -⟩ := HS.out i0 (by rw [HKL.out]; exact hlt)
      have hbw : Below w.heap.size w WO := by rw [HN.out]; exact hB
      have hcb0 : WO.cell? ⟨cb, ob + i0, none⟩ = some (.slice qb (bs.getD i0 []).length db) := by rw [hbw.cell (by exact World.block_lt_of_cell? w _ hcb)]; exact hcb
      obtain ⟨bk, hbk⟩ : ∃ x, bs.getD i0 [] = x := ⟨_, rfl⟩
      obtain ⟨nk, hnk⟩ : ∃ x, bk.length = x := ⟨_, rfl⟩
      have hn256 : nk ≤ 256 := by rw [← hnk, ← hbk]; exact HBL.out i0 (by rw [HKL.out]; exact hlt)
      rw [hbk, hnk] at hcb0
      rw [hbk] at hsb
      have hbA : Below WO.heap.size WO (WO.alloc (.cells (zb 256) 5)) := (Below.refl _ _).alloc (Nat.le_refl _) _
      have hr : Row (WO.alloc (.cells (zb 256) 5)) WO.heap.size 5 256 (fun j => B 0#8) := Row.new WO _ 256 _
      have hMA := hM.of_below hbA
      have hc2 : WO.cell? ⟨N, i0, none⟩ = some (hdr i0 256 D i0) := hM.hds.cell i0 hlt
      have hf2 : WO.frozen? ⟨N, i0, none⟩ = false := hM.free i0
      have hMB := hMA.put i0 WO.heap.size (fun _ => 0#8) hr (i0 + 1) (.inr ⟨rfl, rfl⟩) (fun j hj _ => by have := hM.lt j hj; omega) (by omega) (by omega)
      have HB1 := Lib.hid (show Below N w ((WO.setCell ⟨N, i0, none⟩ (.slice (some ⟨WO.heap.size, 0, none⟩) 256 256)).alloc (.cells (zb 256) 5)) from ((hB.setCell (Nat.le_refl _) _).alloc (by simp; omega) _))
      have hcomm : (WO.alloc (.cells (zb 256) 5)).setCell ⟨N, i0, none⟩ (.slice (some ⟨WO.heap.size, 0, none⟩) 256 256) = (WO.setCell ⟨N, i0, none⟩ (.slice (some ⟨WO.heap.size, 0, none⟩) 256 256)).alloc (.cells (zb 256) 5) := World.setCell_alloc_past _ N i0 _ hNlt
      rw [hcomm] at hMB
      have HM1 := Lib.hid hMB
      have hcm : (WO.alloc (.cells (zb 256) 5)).cell? ⟨N, i0, none⟩ = some (hdr i0 256 D i0) := hMA.hds.cell i0 hlt
      have e1 : setD D i0 WO.heap.size i0 = WO.heap.size := if_pos rfl
      have hx1 := hMB.cellH i0 (Nat.lt_succ_self _) hlt
      rw [e1] at hx1
      have hrowE := hMB.row i0 (Nat.lt_succ_self _)
      rw [e1] at hrowE
      have HE1 := Lib.hid e1
      have HRE := Lib.hid hrowE
      have HNW := Lib.hid hNlt
      have HSL := Lib.hid (show Sl ((WO.setCell ⟨N, i0, none⟩ (.slice (some ⟨WO.heap.size, 0, none⟩) 256 256)).alloc (.cells (zb 256) 5)) qb bk from hsb.of_below (by rw [HN.out]; exact HB1.out))
      have HBK := Lib.hid (And.intro hbk hnk)
      subst e0
      clear hbA hr hMA hMB hM hB hcomm e1 hrowE hcb hsb hbw hbk hnk
      go_wp2_with (first | (refine wpl_copyM _ rfl (.tmp 23) (.tmp 24) rfl WO.heap.size 256 256 (fun j => B (setr (padM bs) i0 (fun _ => 0#8) i0 j)) qb nk db bk rfl rfl HRE.out HBK.out.2 HSL.out nk (by omega) ?_; rintro w5 hR5 hK5; have HR5 := Lib.hid hR5; have HK5 := Lib.hid hK5; clear hR5 hK5))
      go_roundw
      case rel =>
        have hk := HK5.out
        have hr := HR5.out.congr (g' := fun j => B (padM bs i0 j)) fun j hj => by
          show copied1 _ _ _ j = B (padM bs i0 j)
          unfold copied1 padM
          rw [HBK.out.1]
          by_cases h1 : j < nk
          · rw [if_pos h1]
          · rw [if_neg h1]
            show B (setr (padM bs) i0 (fun _ => 0#8) i0 j) = _
            rw [setr, if_pos rfl]
            congr 1
            rw [List.getD_eq_getElem?_getD, List.getElem?_eq_none (by have := HBK.out.2; omega)]; rfl
        have e1 := HE1.out
        have hm := HM1.out.alter (D := setD D i0 WO.heap.size) i0 (Nat.lt_succ_self _) _ (by rw [e1]; exact hk) (by rw [e1]; exact hr)
        refine ⟨i0 + 1, by omega, by go_num, _, hm.congr fun x y hx hy => ?_, HB1.out.trans (hk.below (Nat.le_of_lt HNW.out) (Nat.le_of_lt HM1.out.ltG))⟩
        by_cases h1 : x = i0
        · rw [setr, if_pos h1, h1]
        · rw [setr, if_neg h1, setr, if_neg h1]
      case measure => simp [intOf]; omega
    · have hd0 : decide ((i0 : Int) < (k : Int)) = false := decide_eq_false (by omega)
      obtain rfl : i0 = k := by omega
      clear hM hB
      go_wp2
      go_ret
      rw [HN.out]
      exact ⟨rfl, ⟨_, HM.out⟩, HBr.out⟩
end
theorem below_thenGrown {w w1 w2 : World} {own : Option Nat} (h : Below w.heap.size w w1) (g : w1.grownBy w2 own) : w.grownBy w2 own :=
  ⟨g.os.trans h.os, g.tape.trans h.tape, g.output.trans h.output, Nat.le_trans h.size g.size, fun k hk hne => (g.block k (Nat.lt_of_lt_of_le hk h.size) hne).trans (h.block k hk)⟩
/-- What stands behind bytes that a call has appended to: the block is the old one or a new one, nothing else has changed. -/
def AppR (w : World) (base : Nat) (v : Value) (l : List (BitVec 8)) (e : Ending) (w' : World) : Prop :=
  ∃ v', e = .returned v' ∧ OwnB w' base v' l ∧ w.grownBy w' v.ownBlock ∧ (v'.ownBlock = v.ownBlock ∨ ∃ g, v'.ownBlock = some g ∧ w.heap.size ≤ g)
attribute [local go_sem ↓] exec_alloc32 exec_store exec_slice exec_bs
attribute [local go_sem] st_dig sl_arr bsR
set_option maxRecDepth 100000 in
set_option maxHeartbeats 4000000 in
theorem appendDigest_any (base : Nat) (v : Value) (L : List (BitVec 8)) (b : List (BitVec 8)) (q : Option Addr) (n cap : Nat) (w : World) (hO : OwnB w base v L) (hL : L.length < 1000000000) (hbw : base ≤ w.heap.size) (hb : b.length = n) (hs : Sl w q b) (hn : n < 100000000) (hT : Tb w) :
    Calls Tryd.prog 12 #[v, .slice q n cap] w (AppR w base v (L ++ digL b)) := by
  obtain ⟨p0, c0, hv, -⟩ := hO.shape
  subst hv
  have hbn := below_newR w (.cells #[.slice q n cap] 22)
  have hcx : (w.alloc (.cells #[.slice q n cap] 22)).cell? ⟨w.heap.size, 0, none⟩ = some (.slice q n cap) := World.cell?_alloc_new _ _ _ _
  have HSM := Lib.hid (sum1_any b w.heap.size 0 q n cap (w.alloc (.cells #[.slice q n cap] 22)) hb hcx (hs.of_below hbn) (hT.on hbn) hn)
  have HO := Lib.hid hO
  have HBN := Lib.hid hbn
  have HBW := Lib.hid hbw
  obtain ⟨d, hd⟩ : ∃ d, digL b = d := ⟨_, rfl⟩
  have HDL := Lib.hid (show d.length = 32 from by rw [← hd]; exact digL_len _)
  rw [hd] at HSM ⊢
  clear hO hbn hcx hs hT hd hbw
  go_enter Tryd.func12, Tryd.ntmps12
  go_wp2_with fail
  refine HSM.out.mono ?_
  rintro e w1 ⟨rfl, hB1⟩
  have st := st_dig w1 w1.heap.size d rfl
  obtain ⟨y, hy⟩ : ∃ y, w1.alloc (.cells (tab 32 (dgF d)) 31) = y := ⟨_, rfl⟩
  have hby := below_newR w1 (.cells (tab 32 (dgF d)) 31)
  have hrd := Row.new w1 31 32 (dgF d)
  rw [hy] at st hby hrd
  have hb1 := HBN.out.trans (hB1.mono HBN.out.size)
  have HB := Lib.hid (hb1.trans (hby.mono hb1.size))
  have HSD := Lib.hid (dgF_sl12 hrd HDL.out)
  have HOY := Lib.hid (HO.out.of_below HB.out)
  clear hby hrd hb1 hB1 hy HSM
  go_wp2_with (first
    | (refine wpl_appendL y rfl (.tmp 9) (.tmp 10) rfl base (.slice p0 L.length c0) L rfl HOY.out (some ⟨w1.heap.size, 0, none⟩) 32 32 d HDL.out rfl HSD.out (fun e => by cases e) (by omega) (Nat.le_trans HBW.out HB.out.size) ?_
       rintro v3 w3 hO3 hg3 ho3
       obtain ⟨LL, hLL, hO3⟩ : ∃ LL, L ++ d = LL ∧ OwnB w3 base v3 LL := ⟨_, rfl, hO3⟩
       have HLL := Lib.hid hLL
       have HO3 := Lib.hid hO3
       have HG3 := Lib.hid (below_thenGrown HB.out hg3)
       have HR3 := Lib.hid (ho3.imp id fun h => (⟨_, h, HB.out.size⟩ : ∃ g, v3.ownBlock = some g ∧ w.heap.size ≤ g))
       obtain ⟨p3, c3, hv3, -⟩ := hO3.shape
       subst hv3
       clear hO3 hg3 ho3 hLL))
  go_ret
  rw [HLL.out]
  exact ⟨_, rfl, HO3.out, HG3.out, HR3.out⟩
/-- The numbers of a stripe's parity. -/
def parX (bs : List (List (BitVec 8))) : Mx := mm bs.length (cau bs.length) (mx (bs.map padL))
theorem parX_row (bs : List (List (BitVec 8))) (i : Nat) (h : i < 2) : rowL 256 (parX bs) i = (parB bs).getD i [] := by
  unfold parB
  rw [rowsL_get _ _ _ _ h]
  rfl
theorem Mp.fr12 {w u : World} {N G n k m : Nat} {D : Nat → Nat} {a : Mx} (h : Mp w N G n k m D a) (hu : Fr12 w u N w.heap.size) : Mp u N G n k m D a :=
  ⟨h.hds.of_block (hu.2 G h.loG h.ltG), fun i hi => (h.row i hi).of_block (hu.2 _ (h.lo i hi) (h.lt i hi)), h.inj, h.ne, h.lo, h.loG⟩
set_option maxHeartbeats 4000000 in
theorem parity12_any (bs : List (List (BitVec 8))) (p : Option Addr) (k cap : Nat) (w : World) (hs : Lay w p bs) (hk : bs.length = k) (hk1 : 1 ≤ k) (hk4 : k ≤ 4) (hb : ∀ i, i < bs.length → (bs.getD i []).length ≤ 256) :
    Calls Tryd.prog 14 #[.slice p k cap] w fun e w' => ∃ G D, e = .returned (.slice (some ⟨G, 0, none⟩) 2 2) ∧ Mp w' w.heap.size G 2 2 256 D (parX bs) ∧ Below w.heap.size w w' := by
  have HS := Lib.hid hs
  have HK := Lib.hid (And.intro hk (And.intro hk1 hk4))
  have HBL := Lib.hid hb
  have HN := Lib.hid (new_ok k 2 w hk1 (by decide) (by omega))
  have hpl : (bs.map padL).length = k := by rw [List.length_map]; exact hk
  have hrow := pad_rows bs hb
  rw [hk] at hrow
  have hrl := pad_rowsL bs hb
  rw [hk] at hrl
  have HP := Lib.hid (And.intro hpl (And.intro hrow hrl))
  clear hs hk hk1 hk4 hb hpl hrow hrl
  go_enter Tryd.func14, Tryd.ntmps14
  go_wp2_with fail
  refine HN.out.mono ?_
  rintro e w1 ⟨b, rfl, hC, hB1⟩
  have HC := Lib.hid hC
  have HB1 := Lib.hid hB1
  have HPD := Lib.hid (padded12_any bs p k cap w1 (HS.out.of_below hB1) HK.out.1 (by have := HK.out; omega) HBL.out)
  clear hC hB1 HN
  go_wp2_with fail
  refine HPD.out.mono ?_
  rintro e w2 ⟨rfl, ⟨D, hM⟩, hB2⟩
  have hprt := hM.prt
  rw [HP.out.2.2] at hprt
  have HE := Lib.hid (encode_ok b k 2 (bs.map padL) (some ⟨w1.heap.size, 0, none⟩) k w2 256 (HC.out.keep hB2) hprt HP.out.1 HP.out.2.1 (by decide))
  have HB2 := Lib.hid (HB1.out.trans (hB2.mono HB1.out.size))
  clear hM hB2 hprt HPD
  go_wp2_with fail
  refine HE.out.mono ?_
  rintro e w3 ⟨G, D2, rfl, hM3, hB3⟩
  have HM3 := Lib.hid (hM3.low HB2.out.size)
  have HB3 := Lib.hid (HB2.out.trans (hB3.mono HB2.out.size))
  clear hM3 hB3
  go_wp2
  go_ret
  refine ⟨G, D2, rfl, ?_, HB3.out⟩
  have h := HM3.out
  unfold parX
  rw [HK.out.1]
  exact h
end Go.Proofs.YtkfceloaomlhmaaDoor
/- sidecar.Make. -/
set_option maxRecDepth 100000
namespace Go.Proofs.YtkfceloaomlhmaaDoor
open Go Go.RowKit Go.Shelf

attribute [-go_sem] Sha.exec_store
theorem wplIn_appendL {F : Fence} {m : Nat} {ops : Array Oper} {rest : List Oper} {o : Oper} {a : Act} {Q : Exit → Act → World → Prop} (w : World) (hgd : o.guard = none) (s x : Operand)
    (ho : o.op = .call { callee := .builtin .append, args := #[s, x], argTypes := #[22, 22] })
    (base : Nat) (v : Value) (l : List (BitVec 8)) (hs : a.eval s = v) (hown : OwnB w base v l) (p : Option Addr) (n cap : Nat) (bs : List (BitVec 8)) (hbl : bs.length = n) (hx : a.eval x = .slice p n cap) (hsl : Sl w p bs) (hc : p = none → cap = 0)
    (hn : l.length + n < 1000000000000) (hb : base ≤ w.heap.size)
    (h : ∀ v' w', OwnB w' base v' (l ++ bs) → w.grownBy w' v.ownBlock → (v'.ownBlock = v.ownBlock ∨ v'.ownBlock = some w.heap.size) → wpListIn F m Tryd.prog ops Q rest (a.put o.dst v') w') : wpListIn F m Tryd.prog ops Q (o :: rest) a w := by
  refine wpListIn_plain hgd fun K hK => ?_
  obtain ⟨v', w', hr, h2, h3, h4⟩ := append_ownL w base o.type v l hown p n cap bs hbl hsl hc hn hb
  have hsem : o.semAt F.round a.eval = execOp a.eval o := Oper.semAt_eq _ _ _ (fun c e => by rw [ho] at e; cases e)
  unfold Oper.wpIn
  refine ⟨fun f hf => ?_, ?_⟩
  · exfalso
    unfold Oper.about at hf
    simp only [ho, resolve, Sem.run_bind, Sem.run_pure, Result.andThen_ok, Target.leads] at hf
    cases hf
  · rw [hsem]
    unfold execOp
    simp only [ho, resolve, invoke, builtin, Sem.run_bind, Sem.run_pure, Result.andThen_ok, List.map_toArray, List.map_cons, List.map_nil, hs, hx, hr]
    exact hK _ _ (h v' w' h2 h3 h4)
theorem mk0_12 (M : Nat) (w : World) (hM : M < 4294967296) : (mkT 22 (.int .i64 0) (.int .i64 (M : Int))).run Tryd.prog w = .ok (.value (.slice (some ⟨w.heap.size, 0, none⟩) 0 M)) (w.alloc (.cells (zb M) 5)) := by
  have hi : (Tryd.prog.info? 5).map (fun i => (i.zero, i.size, i.bytes)) = some (some (.int .u8 0), 1, 1) := by kernel_rfl
  cases hq : Tryd.prog.info? 5 with
  | none => simp [hq] at hi
  | some i =>
    rw [hq] at hi
    simp only [Option.map_some, Option.some.injEq, Prod.mk.injEq] at hi
    obtain ⟨h1, h2, h3⟩ := hi
    have := run_make (P := Tryd.prog) w 22 5 i (.int .u8 0) (by kernel_rfl) hq h1 .i64 .i64 0 (M : Int) (by omega) (by omega) (by rw [h3]; omega) (by omega)
    rw [h2] at this
    simp only [Int.toNat_natCast, Nat.mul_one, Int.toNat_zero] at this
    simp only [mkT, Sem.run_bind, this, Result.andThen_ok, Sem.run_pure]
    congr 2
    rw [zb_eq]
    congr 1
    apply Array.ext_getElem?
    intro j
    by_cases hj : j < M <;> simp [madeCells, Value.cells, hj, Nat.mod_one]
theorem own_made12 (w : World) (M base : Nat) (hb : base ≤ w.heap.size) (hM : M ≤ 1000000) : OwnB (w.alloc (.cells (zb M) 5)) base (.slice (some ⟨w.heap.size, 0, none⟩) 0 M) [] :=
  ⟨rfl, .inr ⟨w.heap.size, M, zb M, rfl, hb, World.alloc_heap_new _ _, Nat.zero_le _, by simp only [maxLen]; omega, by simp [zb, tab_size], rfl⟩⟩
/-- What the walk of Make carries: the bytes so far, whose block lies outside of what others rely on. -/
def MkI (w : World) (N0 G4 N1 hi MP hP : Nat) (L : List (BitVec 8)) (A : World) : Prop :=
  ∃ v, A.cell? ⟨G4, 0, none⟩ = some v ∧ A.frozen? ⟨G4, 0, none⟩ = false ∧ OwnB A N0 v L ∧ Below N0 w A ∧ ∀ g, v.ownBlock = some g → g ≠ G4 ∧ (g < N1 ∨ hi ≤ g) ∧ (g < MP ∨ hP ≤ g)
def MkJ (w : World) (N0 G4 N1 : Nat) (d l : List (BitVec 8)) (lo hi s : Nat) (A : World) : Prop := (lo ≤ hi ∧ N1 + 2 ≤ lo) ∧ hi ≤ A.heap.size ∧ MkI w N0 G4 N1 hi 0 0 (d ++ ((List.range s).map (strE l)).flatten) A
theorem MkI.of_below {w A A' : World} {N0 G4 N1 hi MP hP : Nat} {L : List (BitVec 8)} (h : MkI w N0 G4 N1 hi MP hP L A) (hN : N0 ≤ A.heap.size) (k : Below A.heap.size A A') : MkI w N0 G4 N1 hi MP hP L A' := by
  obtain ⟨v, h1, h2, h3, h4, h5⟩ := h
  have hlt := World.block_lt_of_cell? A _ h1
  exact ⟨v, by rw [k.cell (by exact hlt)]; exact h1, by rw [k.frozen (by exact hlt)]; exact h2, h3.of_below k, h4.trans (k.mono hN), h5⟩
theorem MkI.drewN {w A : World} {N0 G4 N1 hi MP hP : Nat} {L : List (BitVec 8)} (h : MkI w N0 G4 N1 hi MP hP L A) (hN : N0 ≤ A.heap.size) (k : Nat) : MkI w N0 G4 N1 hi MP hP L (A.drewN k) :=
  h.of_below hN ((show Dr A (A.drewN k) from ⟨k, rfl⟩).below _)
theorem MkI.put {w A : World} {N0 G4 N1 hi MP hP k : Nat} {L : List (BitVec 8)} {o : Obj} (h : MkI w N0 G4 N1 hi MP hP L A) (hG : G4 < N1) (hN : N0 ≤ k) (hk : N1 ≤ k) (hk2 : k < hi) (hlt : k < A.heap.size) : MkI w N0 G4 N1 hi MP hP L (A.putObj k o) := by
  obtain ⟨v, h1, h2, h3, h4, h5⟩ := h
  have hne : (A.putObj k o).heap[G4]? = A.heap[G4]? := World.putObj_heap_other (by omega)
  exact ⟨v, by rw [World.cell?_of_block (w := A) (a := ⟨G4, 0, none⟩) hne]; exact h1, by rw [World.frozen?_of_block (w := A) (a := ⟨G4, 0, none⟩) hne]; exact h2, h3.keep (fun g hg => World.putObj_heap_other (by have := h5 g hg; omega)), h4.trans (below_putP o hN hlt), h5⟩
theorem MkI.re {w A : World} {N0 G4 N1 hi MP hP MP' hP' : Nat} {L : List (BitVec 8)} (h : MkI w N0 G4 N1 hi MP hP L A) (h' : ∀ g, g < A.heap.size → g < MP' ∨ hP' ≤ g) : MkI w N0 G4 N1 hi MP' hP' L A := by
  obtain ⟨v, h1, h2, h3, h4, h5⟩ := h
  exact ⟨v, h1, h2, h3, h4, fun g hg => ⟨(h5 g hg).1, (h5 g hg).2.1, h' g (h3.lt g hg).2⟩⟩
theorem MkI.step {w A A2 : World} {N0 G4 N1 hi MP hP : Nat} {L L' : List (BitVec 8)} {v v' : Value} (hc : A.cell? ⟨G4, 0, none⟩ = some v) (hf : A.frozen? ⟨G4, 0, none⟩ = false) (hO : OwnB A N0 v L) (hB : Below N0 w A)
    (hown : ∀ g, v.ownBlock = some g → g ≠ G4 ∧ (g < N1 ∨ hi ≤ g) ∧ (g < MP ∨ hP ≤ g)) (hO2 : OwnB A2 N0 v' L') (hg : A.grownBy A2 v.ownBlock) (hor : v'.ownBlock = v.ownBlock ∨ ∃ g, v'.ownBlock = some g ∧ A.heap.size ≤ g) (hN : N0 ≤ G4) (h1 : hi ≤ A.heap.size) (h2 : hP ≤ A.heap.size) :
    A2.cell? ⟨G4, 0, none⟩ = some v ∧ A2.frozen? ⟨G4, 0, none⟩ = false ∧ (A2.setCell ⟨G4, 0, none⟩ v').cell? ⟨G4, 0, none⟩ = some v' ∧ (A2.setCell ⟨G4, 0, none⟩ v').frozen? ⟨G4, 0, none⟩ = false ∧ OwnB (A2.setCell ⟨G4, 0, none⟩ v') N0 v' L' ∧ Below N0 w (A2.setCell ⟨G4, 0, none⟩ v') ∧
      (∀ g, v'.ownBlock = some g → g ≠ G4 ∧ (g < N1 ∨ hi ≤ g) ∧ (g < MP ∨ hP ≤ g)) ∧ KeepsOthers A (A2.setCell ⟨G4, 0, none⟩ v') ∧ A.heap.size ≤ (A2.setCell ⟨G4, 0, none⟩ v').heap.size ∧
      (∀ W a b, Fr12 W A a b → (∀ g, v.ownBlock = some g → g < a ∨ b ≤ g) → (G4 < a ∨ b ≤ G4) → Fr12 W (A2.setCell ⟨G4, 0, none⟩ v') a b) := by
  have hlt := World.block_lt_of_cell? A _ hc
  have hlt : G4 < A.heap.size := hlt
  have hne : some G4 ≠ v.ownBlock := fun e => (hown G4 e.symm).1 rfl
  have hblk := hg.block G4 hlt hne
  have hc2 : A2.cell? ⟨G4, 0, none⟩ = some v := by rw [World.cell?_of_block (w := A) (a := ⟨G4, 0, none⟩) hblk]; exact hc
  have hf2 : A2.frozen? ⟨G4, 0, none⟩ = false := by rw [World.frozen?_of_block (w := A) (a := ⟨G4, 0, none⟩) hblk]; exact hf
  have hown2 : ∀ g, v'.ownBlock = some g → g ≠ G4 ∧ (g < N1 ∨ hi ≤ g) ∧ (g < MP ∨ hP ≤ g) := fun g e => by
    rcases hor with h | ⟨g', e', h'⟩
    · rw [h] at e; exact hown g e
    · rw [e'] at e; injection e with e; omega
  have hB2 : Below N0 w A2 := hB.grown hg (by have := hB.size; omega) (fun k hk => (hO.lt k hk).1)
  refine ⟨hc2, hf2, World.cell?_setCell_same _ _ _ hc2, by rw [World.frozen?_setCell]; exact hf2, hO2.keep (fun g hg' => Below.heap_setCell _ _ _ _ (show g ≠ G4 from (hown2 g hg').1)), hB2.setCell (show N0 ≤ (⟨G4, 0, none⟩ : Addr).block from hN) _, hown2,
    (KeepsOthers.grown_own hO hg).trans (KeepsOthers.setCell _ _ _), by simp; exact hg.size, fun W a b hF ho hgg => ?_⟩
  have h3 := hF.grown hg ho
  exact ⟨by simp; exact h3.1, fun g h4 h5 => (Below.heap_setCell _ _ _ _ (show g ≠ G4 by omega)).trans (h3.2 g h4 h5)⟩
attribute [local go_sem ↓] exec_make
attribute [local go_sem] mk0_12
attribute [local go_sem] Oper.semAt_some
set_option maxRecDepth 100000 in
set_option maxHeartbeats 8000000 in
theorem make12_ok (l : List (BitVec 8)) (q : Option Addr) (n cap : Nat) (w : World) (hl : l.length = n) (hs : Sl w q l) (hq : q = none → cap = 0) (hc : n ≤ cap) (hn : n ≤ 16384) (hT : Tb w) :
    Calls Tryd.prog 6 #[.slice q n cap] w fun e w' => ∃ v, e = .returned (.tuple #[v, .int .i64 0]) ∧ OwnB w' w.heap.size v (mkS l) ∧ Below w.heap.size w w' := by
  refine (callsIn_wide (n := 9)).1 ?_
  refine callsIn_of_wp_marks Tryd.func6 rfl trivial ?_ rfl
  simp only [Tryd.ntmps6, List.size_toArray, List.length_cons, List.length_nil, Nat.reduceAdd, Nat.reduceSub, Array.replicate_succ, Array.replicate_zero, List.push_toArray, List.append_toArray, List.nil_append, List.cons_append]
  have HSL := Lib.hid hs
  have HLN := Lib.hid hl
  have HQ := Lib.hid hq
  have HC := Lib.hid hc
  have HT := Lib.hid hT
  obtain ⟨N0, hN⟩ : ∃ N, w.heap.size = N := ⟨_, rfl⟩
  have HN := Lib.hid hN
  have d0 : decide ((16384 : Int) < (n : Int)) = false := decide_eq_false (by omega)
  have d1 : ¬ (16384 : Int) < (n : Int) := by omega
  have HLN2 := Lib.hid (Len_any (n : Int) w (by omega) (by omega))
  rw [Int.toNat_natCast] at HLN2
  obtain ⟨M, hM⟩ : ∃ m, 32 + 576 * nstr n = m := ⟨_, rfl⟩
  have hM2 : M ≤ 10000 := by rw [← hM]; unfold nstr; omega
  rw [hM] at HLN2
  have mk := mk0_12 M w (by omega)
  obtain ⟨W1, hW1⟩ : ∃ W, w.alloc (.cells (zb M) 5) = W := ⟨_, rfl⟩
  have hO1 := own_made12 w M N0 (by omega) (by omega)
  have hb1 := below_newR w (.cells (zb M) 5)
  have hs1 : W1.heap.size = N0 + 1 := by rw [← hW1, World.size_alloc, hN]
  rw [hW1] at mk hO1 hb1
  rw [hN] at mk hO1 hb1
  obtain ⟨W2, hW2⟩ : ∃ W, W1.alloc (.cells #[.slice (some ⟨N0, 0, none⟩) 0 M] 22) = W := ⟨_, rfl⟩
  have hb2 := below_newR W1 (.cells #[.slice (some ⟨N0, 0, none⟩) 0 M] 22)
  obtain ⟨c2, f2⟩ := new_cP W1 (.slice (some ⟨N0, 0, none⟩) 0 M) 22
  rw [hW2] at hb2 c2 f2
  rw [hs1] at c2 f2
  have hs2 : W2.heap.size = N0 + 2 := by rw [← hW2, World.size_alloc, hs1]
  have hB2 : Below N0 w W2 := by rw [← hN]; rw [← hN] at hb1; exact hb1.trans (hb2.mono hb1.size)
  have hO2 : OwnB W2 N0 (.slice (some ⟨N0, 0, none⟩) 0 M) [] := hO1.of_below hb2
  have hB2w : Below w.heap.size w W2 := by rw [hN]; exact hB2
  have HAD := Lib.hid (appendDigest_any N0 (.slice (some ⟨N0, 0, none⟩) 0 M) [] l q n cap W2 hO2 (by simp) (by omega) hl (hs.of_below hB2w) (by omega) (hT.on hB2w))
  obtain ⟨d, hd⟩ : ∃ d, digL l = d := ⟨_, rfl⟩
  have HDL := Lib.hid (And.intro hd (show d.length = 32 from by rw [← hd]; exact digL_len _))
  rw [hd, List.nil_append] at HAD
  have HS2 := Lib.hid (fun (w3 : World) (v3 : Value) (hO3 : OwnB w3 N0 v3 d) (hg3 : W2.grownBy w3 (Value.slice (some ⟨N0, 0, none⟩) 0 M).ownBlock) (ho3 : v3.ownBlock = (Value.slice (some ⟨N0, 0, none⟩) 0 M).ownBlock ∨ ∃ g, v3.ownBlock = some g ∧ W2.heap.size ≤ g) =>
    (MkI.step (w := w) (N1 := 0) (hi := 0) (MP := 0) (hP := 0) c2 f2 hO2 hB2 (fun g e => by
      have e : some N0 = some g := e
      injection e with e
      omega) hO3 hg3 ho3 (show N0 ≤ N0 + 1 by omega) (Nat.zero_le _) (Nat.zero_le _)))
  have HSZ := Lib.hid hs2
  clear hs hl hq hc hT hM hB2 hO2 hB2w hd hO1 hs2
  gi_wp2_with (first
    | (refine ⟨trivial, ?_⟩; gi_at_call 7; refine (callsIn_wide.2 HLN2.out).mono ?_; rintro e w' ⟨rfl, rfl⟩)
    | (refine ⟨trivial, ?_⟩; gi_at_call 12; refine (callsIn_wide.2 HAD.out).mono ?_; rintro e w3 ⟨v3, rfl, hO3, hg3, ho3⟩
       have hst3 := HS2.out w3 v3 hO3 hg3 ho3
       obtain ⟨k1, k2, k3, k4, k5, k6, k7, -, k8, -⟩ := hst3
       have HO3 := Lib.hid (And.intro hO3 ho3)
       obtain ⟨pz, cz, hvz, -, -, -⟩ := hO3.shape
       subst hvz
       rw [HDL.out.2] at k3 k4 k5 k6 HO3 ⊢
       have HK := Lib.hid (And.intro k5 (And.intro k6 k4))
       clear hO3 hg3 ho3 c2 f2 k5 k6 k7 k8 k4)
    | (refine ⟨trivial, ?_⟩; gi_at_call 13; refine (callsIn_wide.2 (stripes_any q n cap _)).mono ?_; rintro e w' ⟨rfl, rfl⟩))
  obtain ⟨w4, hw4⟩ : ∃ x, w3.setCell ⟨N0 + 1, 0, none⟩ (.slice pz 32 cz) = x := ⟨_, rfl⟩
  rw [hw4] at k3 HK ⊢
  have hs4 : w4.heap.size = w3.heap.size := by rw [← hw4]; simp
  have hb5 := below_newR w4 (.cells #[.slice q n cap] 22)
  have c5 : (w4.alloc (.cells #[.slice q n cap] 22)).cell? ⟨w4.heap.size, 0, none⟩ = some (.slice q n cap) := World.cell?_alloc_new _ _ _ _
  have hs5 : (w4.alloc (.cells #[.slice q n cap] 22)).heap.size = w3.heap.size + 1 := by rw [World.size_alloc, hs4]
  obtain ⟨w5, hw5⟩ : ∃ x, w4.alloc (.cells #[.slice q n cap] 22) = x := ⟨_, rfl⟩
  rw [hw5] at hb5 c5 hs5 ⊢
  rw [hs4] at c5
  obtain ⟨N1, hN1⟩ : ∃ x, w5.heap.size = x := ⟨_, rfl⟩
  rw [hN1] at hs5
  have hk := HK.out
  have hG4lt : N0 + 1 < w3.heap.size := World.block_lt_of_cell? w3 _ k1
  have hG4 : N0 + 1 < N1 := by omega
  have hI5 : ∀ hi, MkI w N0 (N0 + 1) N1 hi 0 0 d w5 := fun hi =>
    MkI.of_below ⟨_, k3, hk.2.2, hk.1, hk.2.1, fun g e => by
      have h1 := (HO3.out.1.lt g e).2
      rcases HO3.out.2 with h | ⟨g', h, h'⟩
      · rw [h] at e
        have e : some N0 = some g := e
        injection e with e
        omega
      · rw [h] at e; injection e with e; have := HSZ.out; omega⟩ (by omega) hb5
  have hB5 : Below w.heap.size w w5 := by rw [HN.out]; exact hk.2.1.trans (hb5.mono (by omega))
  have HSEQ := Lib.hid (stripes_seq 8 (by decide) w3.heap.size l q n cap w5 c5 HLN.out (HSL.out.of_below hB5) HQ.out (by omega) HC.out)
  have HB5 := Lib.hid hB5
  have HI5 := Lib.hid hI5
  clear hk hI5 hB5 hb5 c5 hs4 hw4 hw5 k1 k2 k3 mk hW1 hW2 hb1 hb2 hs1 d0 d1 hs5
  refine range_made (m := 9) (by decide) (bb := w3.heap.size) rfl rfl HSEQ.out (fun A => N1 ≤ A.heap.size ∧ ∀ hi, MkI w N0 (N0 + 1) N1 hi 0 0 d A)
    (MkJ w N0 (N0 + 1) N1 d l)
    (fun B B' h k => ⟨Nat.le_trans h.1 k.size, fun hi => (h.2 hi).of_below (by have := h.1; omega) k⟩)
    (fun A B hA hAB h1 h2 => ⟨⟨hAB.size, by rw [← hN1]; exact hA⟩, Nat.le_refl _, by have := h2.2 B.heap.size; simpa using this⟩)
    (fun lo hi s A k h => ⟨h.1, h.2.1, h.2.2.drewN (by obtain ⟨v, -, -, -, h4, -⟩ := h.2.2; have := h4.size; omega) k⟩)
    (fun lo hi s A o h1 h2 h => ⟨h.1, Nat.le_trans h.2.1 (below_putP (N := 0) o (Nat.zero_le _) h2).size, h.2.2.put hG4 (by omega) (by omega) (by have := h.1.1; omega) h2⟩)
    ⟨by omega, HI5.out⟩
    (fun s v => { tmps := #[.slice q n cap, undef, .slice none 0 0, .int .i64 0, .pointer (some ⟨N0 + 1, 0, none⟩), undef, v, undef, undef, .slice q n cap, .int .i64 (n : Int), .bool false, .slice q n cap, .int .i64 (n : Int), .int .i64 (M : Int), .slice (some ⟨N0, 0, none⟩) 0 M, .slice (some ⟨N0, 0, none⟩) 0 M, .slice q n cap, .slice pz 32 cz, .slice q n cap, .func (.func 22) #[] #[.pointer (some ⟨w3.heap.size, 0, none⟩)], .int .i64 ((4 * s : Nat) : Int), v, undef, undef, undef, undef, undef, undef, undef, undef, undef, undef, undef, undef, undef, undef, undef], defers := [] }) ?assign ?body ?done
  case assign =>
    intro L s v W K hK
    gi_wp2
    exact hK
  case body =>
    rintro L lo hi s q2 c2 A hs hlo hhA ⟨⟨hlh, -⟩, hhA', hmk⟩ hLay hcc
    rw [hN1] at hlo
    obtain ⟨bs, hbs⟩ : ∃ x, strB l s = x := ⟨_, rfl⟩
    obtain ⟨k, hk⟩ : ∃ k, bs.length = k := ⟨_, rfl⟩
    have hk1 : 1 ≤ k ∧ k ≤ 4 := by
      have h1 := strB_len l s
      rw [hbs, hk] at h1
      have := (nstr_blk l.length s).1 hs
      omega
    have hLA := hLay A ⟨hhA, fun _ _ _ => rfl⟩
    rw [hbs] at hLA hcc ⊢
    rw [hk] at hcc ⊢
    obtain ⟨Ls, hLs⟩ : ∃ x, d ++ ((List.range s).map (strE l)).flatten = x := ⟨_, rfl⟩
    rw [hLs] at hmk
    have hLsl : Ls.length ≤ 100000 := by
      have := flat_str l s
      have h2 : s ≤ 16 := by have := HLN.out; unfold nstr at hs; omega
      rw [← hLs, List.length_append, HDL.out.2, this]
      omega
    have HPA := Lib.hid (parity12_any bs q2 k c2 A hLA hk hk1.1 hk1.2 (fun i _ => by rw [← hbs]; exact strB_row l s i))
    have HMK := Lib.hid hmk
    have HFA := Lib.hid (And.intro hhA (And.intro hlh hlo))
    have HBS := Lib.hid (And.intro hbs hk)
    have HLS := Lib.hid (And.intro hLs (And.intro hLsl hs))
    clear hmk hLay hLA hbs hk hk1 hLs hLsl hhA' hs hcc hlo hhA hlh
    gi_wp2_with (first
      | (refine ⟨trivial, ?_⟩; gi_at_call 14; refine (CallsIn.inRound L (callsIn_wide.2 HPA.out)).mono ?_; rintro e wP ⟨GP, D, rfl, hM, hBP⟩))
    obtain ⟨MP, hMP⟩ : ∃ x, A.heap.size = x := ⟨_, rfl⟩
    obtain ⟨hP, hhP⟩ : ∃ x, wP.heap.size = x := ⟨_, rfl⟩
    have hMPP : MP ≤ hP := by rw [← hMP, ← hhP]; exact hBP.size
    have hN1A : N1 ≤ A.heap.size := by have := HFA.out; omega
    have hmkP : MkI w N0 (N0 + 1) N1 hi MP hP Ls wP := (HMK.out.re (MP' := MP) (hP' := hP) (fun g hg => .inl (by omega))).of_below (by omega) hBP
    have HMP := Lib.hid hmkP
    have HM := Lib.hid hM
    have HKA := Lib.hid (others_belowP hBP)
    have HFA0 := Lib.hid (show Fr12 A wP lo hi from ⟨Nat.le_trans HFA.out.1 hBP.size, fun g h1 h2 => hBP.block g (by have := HFA.out.1; omega)⟩)
    have HSZP := Lib.hid (And.intro hMP (And.intro hhP (And.intro hMPP hN1A)))
    clear hmkP hM hBP HMK HPA hMP hhP hMPP hN1A
    gi_loopw [26] (fun f wr => ∃ j : Nat, j ≤ 2 ∧ f = .int .i64 (j : Int) ∧ MkI w N0 (N0 + 1) N1 hi MP hP (Ls ++ (((parB bs).take j).map entL).flatten) wr ∧ KeepsOthers A wr ∧ Fr12 A wr lo hi ∧ Fr12 wP wr MP hP) (fun f _ => 2 - (intOf f).toNat)
    case atStart => exact ⟨0, Nat.zero_le _, rfl, by simpa using HMP.out, HKA.out, HFA0.out, ⟨Nat.le_of_eq HSZP.out.2.1.symm, fun _ _ _ => rfl⟩⟩
    case round =>
      obtain ⟨j, hj, rfl, ⟨v, e1, e2, e3, e4, e5⟩, hKO, hFr, hFP⟩ := hrel
      obtain ⟨Lr, hLr⟩ : ∃ x, Ls ++ (((parB bs).take j).map entL).flatten = x := ⟨_, rfl⟩
      rw [hLr] at e3
      have HLR := Lib.hid (And.intro hLr (show Lr.length ≤ 200000 from by rw [← hLr, List.length_append]; have := ent_len (bs := bs) j; have := HLS.out.2.1; omega))
      obtain ⟨pv, cv, hv, -⟩ := e3.shape
      subst hv
      have HFP := Lib.hid hFP
      have HFR := Lib.hid hFr
      have HKO := Lib.hid hKO
      have hhi : hi ≤ wr.heap.size := hFr.1
      have hhP : hP ≤ wr.heap.size := hFP.1
      by_cases hj2 : j < 2
      · have z1 : (j : Int) < (2 : Int) := by omega
        have z2 : decide ((j : Int) < (2 : Int)) = true := decide_eq_true z1
        have HMR := Lib.hid (fun u (hu : Fr12 wP u MP hP) => HM.out.fr12 (show Fr12 wP u A.heap.size wP.heap.size from by rw [HSZP.out.1, HSZP.out.2.1]; exact hu))
        have hx := (HMR.out wr hFP).cellH j hj2 hj2
        obtain ⟨row, hrow⟩ : ∃ x, (parB bs).getD j [] = x := ⟨_, rfl⟩
        have HROW := Lib.hid (show row.length = 256 from by rw [← hrow]; exact parB_row bs j hj2)
        have HSR := Lib.hid (fun u (hu : Fr12 wP u MP hP) => (show Sl u (some ⟨D j, 0, none⟩) row from by rw [← hrow, ← parX_row bs j hj2]; exact (HMR.out u hu).sl j hj2))
        have HEN := Lib.hid (show Ls ++ (((parB bs).take (j + 1)).map entL).flatten = (Lr ++ row) ++ digL row from by rw [ent_take _ _ (by rw [parB_len]; exact hj2), hrow, ← List.append_assoc, hLr, List.append_assoc]; rfl)
        have HO := Lib.hid e3
        have HB := Lib.hid e4
        have HOWN := Lib.hid e5
        have HC1 := Lib.hid e1
        have HC2 := Lib.hid e2
        have HHI := Lib.hid (And.intro hhi hhP)
        have HNR := Lib.hid (show N0 ≤ wr.heap.size from by have := e4.size; omega)
        clear hKO hFr hFP e3 e4 e5 hLr hrow hhi hhP HMP HKA HFA0
        gi_wp2_with (first
          | (refine wplIn_appendL wr rfl (.tmp 30) (.tmp 31) rfl N0 (.slice pv Lr.length cv) Lr rfl HO.out (some ⟨D j, 0, none⟩) 256 256 row HROW.out rfl (HSR.out wr HFP.out) (fun e => by cases e) (by have := HLR.out.2; omega) HNR.out ?_
             rintro v1 A1 hO1 hg1 ho1
             obtain ⟨L1, hL1, hO1⟩ : ∃ x, Lr ++ row = x ∧ OwnB A1 N0 v1 x := ⟨_, rfl, hO1⟩
             have HL1 := Lib.hid (And.intro hL1 (show L1.length ≤ 200256 from by rw [← hL1, List.length_append, HROW.out]; have := HLR.out.2; omega))
             have hst := MkI.step HC1.out HC2.out HO.out HB.out HOWN.out hO1 hg1 (ho1.imp id fun h => ⟨_, h, Nat.le_refl _⟩) (show N0 ≤ N0 + 1 by omega) HHI.out.1 HHI.out.2
             obtain ⟨k1, k2, k3, k4, k5, k6, k7, k8, k9, k10⟩ := hst
             obtain ⟨p1, c1, hv1, -⟩ := hO1.shape
             subst hv1
             obtain ⟨s1, hs1⟩ : ∃ x, A1.setCell ⟨N0 + 1, 0, none⟩ (.slice p1 L1.length c1) = x := ⟨_, rfl⟩
             rw [hs1] at k3 k4 k5 k6 k8 k9 k10
             have HFR1 := Lib.hid (k10 A lo hi HFR.out (fun g e => by have := HOWN.out g e; have := HFA.out; omega) (by have := HFA.out; omega))
             have HFP1 := Lib.hid (k10 wP MP hP HFP.out (fun g e => (HOWN.out g e).2.2) (by have := HSZP.out; omega))
             have HK1 := Lib.hid (HKO.out.trans k8)
             have HO1 := Lib.hid k5
             have HB1 := Lib.hid k6
             have HOW1 := Lib.hid k7
             have HC31 := Lib.hid k3
             have HC41 := Lib.hid k4
             have HZ1 := Lib.hid k9
             have HNS := Lib.hid (show N0 ≤ s1.heap.size from by have := HNR.out; omega)
             have HAD := Lib.hid (appendDigest_any N0 (.slice p1 L1.length c1) L1 row (some ⟨D j, 0, none⟩) 256 256 s1 k5 (by have := HL1.out.2; omega) HNS.out HROW.out (HSR.out s1 HFP1.out) (by decide) (HT.out.on (by rw [HN.out]; exact k6)))
             clear hO1 hg1 ho1 k5 k6 k7 k8 k9 k10 hL1)
          | (refine ⟨trivial, ?_⟩; gi_at_call 12; refine (CallsIn.inRound L (callsIn_wide.2 HAD.out)).mono ?_; rintro e A2 ⟨v2, rfl, hO2, hg2, ho2⟩
             obtain ⟨L2, hL2, hO2⟩ : ∃ x, L1 ++ digL row = x ∧ OwnB A2 N0 v2 x := ⟨_, rfl, hO2⟩
             have HL2 := Lib.hid hL2
             have hst := MkI.step HC31.out HC41.out HO1.out HB1.out HOW1.out hO2 hg2 ho2 (show N0 ≤ N0 + 1 by omega) HFR1.out.1 HFP1.out.1
             obtain ⟨m1, m2, m3, m4, m5, m6, m7, m8, m9, m10⟩ := hst
             obtain ⟨p2, c2', hv2, -⟩ := hO2.shape
             subst hv2
             have HFR2 := Lib.hid (m10 A lo hi HFR1.out (fun g e => by have := HOW1.out g e; have := HFA.out; omega) (by have := HFA.out; omega))
             have HFP2 := Lib.hid (m10 wP MP hP HFP1.out (fun g e => (HOW1.out g e).2.2) (by have := HSZP.out; omega))
             have HK2 := Lib.hid (HK1.out.trans m8)
             have HI2 := Lib.hid (show MkI w N0 (N0 + 1) N1 hi MP hP L2 _ from ⟨_, m3, m4, m5, m6, m7⟩)
             clear hO2 hg2 ho2 m3 m4 m5 m6 m7 m8 m9 m10 hL2))
        go_roundw
        case rel => exact ⟨j + 1, by omega, by go_num, by rw [HEN.out, HL1.out.1, HL2.out]; exact HI2.out, HK2.out, HFR2.out, HFP2.out⟩
        case measure => simp [intOf]; omega
      · have z1 : ¬ (j : Int) < (2 : Int) := by omega
        have z2 : decide ((j : Int) < (2 : Int)) = false := decide_eq_false z1
        have hj2' : j = 2 := by omega
        have hfin : Lr = d ++ ((List.range (s + 1)).map (strE l)).flatten := by
          have h1 : (parB bs).take j = parB bs := by rw [hj2', List.take_of_length_le (by rw [parB_len]; exact Nat.le_refl _)]
          rw [← hLr, h1, ← HLS.out.1, flat_snoc, List.append_assoc]
          unfold strE
          rw [HBS.out.1]
        have HI := Lib.hid (show MkI w N0 (N0 + 1) N1 hi 0 0 (d ++ ((List.range (s + 1)).map (strE l)).flatten) wr from by rw [← hfin]; exact MkI.re ⟨_, e1, e2, e3, e4, e5⟩ (fun g _ => .inr (Nat.zero_le _)))
        have HJF := Lib.hid (show MkJ w N0 (N0 + 1) N1 d l lo hi (s + 1) wr from ⟨⟨HFA.out.2.1, HFA.out.2.2⟩, hhi, HI.out⟩)
        clear e1 e2 e3 e4 e5 hLr hfin hFr hFP hKO hhi hhP
        gi_wp2
        exact ⟨HKO.out, HFR.out, HJF.out⟩
  case done =>
    rintro D lo hi A hD ⟨⟨hlh, hlo2⟩, hhA, v, e1, e2, e3, e4, e5⟩ hK
    have hfin : d ++ ((List.range (nstr l.length)).map (strE l)).flatten = mkS l := by unfold mkS; rw [HDL.out.1]
    rw [hfin] at e3
    obtain ⟨pv, cv, hv, -⟩ := e3.shape
    subst hv
    have HO := Lib.hid e3
    have HB := Lib.hid e4
    have HOW := Lib.hid e5
    rw [hN1] at hD
    have HDD := Lib.hid (And.intro hD (And.intro hlh hlo2))
    clear e3 e4 hfin e2 e5 hD
    gi_wp2
    refine ⟨by simp, .inl ⟨_, _, rfl, run_takeDeferred hK, ?_⟩⟩
    have hDl := (Array.getElem?_eq_some_iff.1 hK).1
    refine ⟨.tuple #[.slice pv (mkS l).length cv, .int .i64 0], ?_, .slice pv (mkS l).length cv, rfl, ?_, ?_⟩
    · simp [results, Tryd.f6, go_sem]
    · rw [HN.out]; exact HO.out.keep (fun g hg => World.putObj_heap_other (by have := HOW.out g hg; have := HDD.out; omega))
    · rw [HN.out]; exact HB.out.trans (below_putP _ (by have := HDD.out; omega) hDl)
theorem make12_no (q : Option Addr) (n cap : Nat) (w : World) (hn : 16384 < n) (hn2 : n < 1000000) : Calls Tryd.prog 6 #[.slice q n cap] w fun e w' => e = .returned (.tuple #[.slice none 0 0, .int .i64 1]) ∧ w = w' := by
  have d0 : decide ((16384 : Int) < (n : Int)) = true := decide_eq_true (by omega)
  have d1 : (16384 : Int) < (n : Int) := by omega
  go_enter Tryd.func6, Tryd.ntmps6
  go_wp2
  go_ret2
  exact ⟨rfl, rfl⟩
end Go.Proofs.YtkfceloaomlhmaaDoor
/- The reference's sidecar. -/
set_option maxRecDepth 100000
namespace Go.Proofs.YtkfceloaomlhmaaDoor
open Go Go.RowKit

attribute [-go_sem] Sha.exec_store
theorem exec_storeR12 (r : Operand → Value) (dst : Option Tmp) (p v : Operand) (ty : TypeId) (pos : String) (after : Array Edge) (guard : Option (Nat × Bool)) :
    execOp r ⟨dst, .store 31 p v, ty, pos, after, guard⟩ = stT 31 (r p) (r v) := rfl
attribute [local go_sem ↓] exec_alloc32 exec_storeR12 exec_slice exec_bs
attribute [local go_sem] sl_arr st_dig bs0 bsR
set_option maxRecDepth 100000 in
set_option maxHeartbeats 16000000 in
theorem refMake12_any (l : List (BitVec 8)) (q : Option Addr) (n cap : Nat) (w : World) (hl : l.length = n) (hs : Sl w q l) (hq : q = none → cap = 0) (hc : n ≤ cap) (hn : n ≤ 20000) (hT : Tb w) :
    Calls Tryd.prog 8 #[.slice q n cap] w (GivesB w (mkS l)) := by
  obtain ⟨N, hN⟩ : ∃ N, w.heap.size = N := ⟨_, rfl⟩
  have HSL := Lib.hid hs
  have HLN := Lib.hid hl
  have HQ := Lib.hid hq
  have HC := Lib.hid hc
  have HT := Lib.hid hT
  have HN := Lib.hid hN
  have HD1 := Lib.hid (refSum1_any l q n cap w hl hs hq hT (by omega))
  clear hs hl hq hc hT
  go_enter Tryd.func8, Tryd.ntmps8
  go_wp2_with fail
  refine HD1.out.mono ?_
  rintro e w1 ⟨rfl, hB1⟩
  obtain ⟨dg, hdg⟩ : ∃ x, digL l = x := ⟨_, rfl⟩
  have HDG := Lib.hid hdg
  have hdl : dg.length = 32 := by rw [← hdg]; exact digL_len _
  rw [hdg]
  have st9 := st_dig w1 w1.heap.size dg rfl
  have hA := below_newR w1 (.cells (tab 32 (dgF dg)) 31)
  have hs2 : Sl (w1.alloc (.cells (tab 32 (dgF dg)) 31)) (some ⟨w1.heap.size, 0, none⟩) dg := Sl.row (Row.new w1 31 32 (dgF dg)) (by rw [hdl]; exact Nat.le_refl _) (fun j hj => rfl)
  have hA2 := below_newR (w1.alloc (.cells (tab 32 (dgF dg)) 31)) (.cells #[] 5)
  have hO2 := own_emptyB (w1.alloc (.cells (tab 32 (dgF dg)) 31))
  have hX2 := hB1.trans ((hA.trans (hA2.mono hA.size)).mono hB1.size)
  have HO2 := Lib.hid (hO2.lower (Nat.le_trans hB1.size hA.size))
  rw [show (w1.alloc (.cells (tab 32 (dgF dg)) 31)).heap.size = w1.heap.size + 1 from World.size_alloc ..] at HO2
  rw [hN] at HO2 hX2
  have HX2 := Lib.hid hX2
  have HS2 := Lib.hid (hs2.of_below hA2)
  have HDL := Lib.hid hdl
  clear hB1 hA hs2 hA2 hO2 hX2 hdg HD1 hdl
  go_wp2_with (first
    | (refine wpl_appendL ((w1.alloc (.cells (tab 32 (dgF dg)) 31)).alloc (.cells #[] 5)) rfl (.tmp 14) (.tmp 15) rfl N (.slice (some ⟨w1.heap.size + 1, 0, none⟩) 0 0) [] rfl HO2.out (some ⟨w1.heap.size, 0, none⟩) 32 32 dg HDL.out rfl HS2.out (fun e => by cases e) (by simp) (by have := HX2.out.size; omega) ?_
       rintro v3 w3 hO3 hg3 -
       rw [List.nil_append] at hO3
       have HX3 := Lib.hid (HX2.out.grown hg3 (by have := HX2.out.size; omega) (fun k hk => (HO2.out.lt k hk).1))
       have HO3 := Lib.hid hO3
       clear hO3 hg3 HO2 HS2 HX2))
  have HXw := Lib.hid (show Below w.heap.size w w3 from by rw [HN.out]; exact HX3.out)
  have HCU := Lib.hid (refCut10_any l q n cap w3 HLN.out (HSL.out.of_below HXw.out) HQ.out HC.out (by omega))
  clear st9
  refine HCU.out.mono ?_
  rintro e w4 ⟨vl, rfl, hH, hB4⟩
  obtain ⟨pl, cl, rfl, hpl, hcl, hLay⟩ := hH.lay
  rw [show ((List.range (nblk n)).map (blkL l)) = allB l from by unfold allB; rw [HLN.out]] at hLay hcl ⊢
  have hl4 : ((List.range (nblk n)).map (blkL l)) = allB l := by unfold allB; rw [HLN.out]
  have hab : (allB l).length = nblk n := by rw [allB_len, HLN.out]
  rw [hab] at hcl ⊢
  have HAB := Lib.hid hab
  have HH := Lib.hid (show Hds w4 w3.heap.size (.slice pl (nblk n) cl) (allB l) from by rw [← hab, ← hl4]; exact hH)
  have HX4 := Lib.hid (HX3.out.trans (hB4.mono (by have := HX3.out.size; omega)))
  have HO4 := Lib.hid (HO3.out.of_below hB4)
  have HOW0 := Lib.hid (show ∀ g, v3.ownBlock = some g → g < w3.heap.size ∨ w4.heap.size ≤ g from fun g e => .inl (HO3.out.lt g e).2)
  obtain ⟨p3, c3, rfl, -, -, -⟩ := HO3.out.shape
  have hdl := HDL.out
  rw [hdl] at HOW0 ⊢
  have hnb : nblk n ≤ 80 := by unfold nblk; omega
  rw [hdl] at HO4
  clear hLay hpl hH hB4 HO3 HX3 HCU HXw hab hdl hl4
  go_wp2
  go_loopw [4, 6] (fun v f wr => ∃ s ff : Nat, s ≤ nstr n ∧ ff = 4 * s ∧ f = .int .i64 (ff : Int) ∧ OwnB wr N v (dg ++ ((List.range s).map (strE l)).flatten) ∧ Below N w wr ∧ Fr12 w4 wr w3.heap.size w4.heap.size ∧ (∀ g, v.ownBlock = some g → g < w3.heap.size ∨ w4.heap.size ≤ g)) (fun _ f _ => nblk n + 4 - (intOf f).toNat)
  case atStart => exact ⟨0, 0, Nat.zero_le _, rfl, rfl, by simpa using HO4.out, HX4.out, ⟨Nat.le_refl _, fun _ _ _ => rfl⟩, HOW0.out⟩
  case round =>
    obtain ⟨s, ff, hs, hff, rfl, hO, hB, hF4, hO4w⟩ := hrel
    have HFF := Lib.hid hff
    rename World => WO
    obtain ⟨Ls, hLs⟩ : ∃ x, dg ++ ((List.range s).map (strE l)).flatten = x := ⟨_, rfl⟩
    rw [hLs] at hO
    have hLsl : Ls.length = 32 + 576 * s := by rw [← hLs, List.length_append, HDL.out, flat_str]
    have HLS := Lib.hid (And.intro hLs hLsl)
    have HO := Lib.hid hO
    have HB := Lib.hid hB
    have HF4 := Lib.hid hF4
    have HO4w := Lib.hid hO4w
    have hHw := HH.out.keep hF4.1 hF4.2
    obtain ⟨pl', cl', eh, -, -, hLay⟩ := hHw.lay
    rw [HAB.out] at eh
    injection eh with eh1 eh2 eh3
    subst eh1
    have HLY := Lib.hid hLay
    obtain ⟨pv, cv, rfl, hsq, hpv, hcv⟩ := hO.shape
    have HSQ := Lib.hid hsq
    have hns : nstr n ≤ 20 := by unfold nstr; omega
    clear hLs hLsl hO hB hF4 hO4w HO4 HX4 hsq hcv hff hHw eh2 eh3 hLay
    by_cases hlt : ff < nblk n
    · have z1 : (ff : Int) < ((nblk n : Nat) : Int) := by omega
      have z2 : decide ((ff : Int) < ((nblk n : Nat) : Int)) = true := decide_eq_true z1
      have hsn : s < nstr n := (nstr_blk n s).2 (by have := HFF.out; omega)
      obtain ⟨bs, hbs⟩ : ∃ x, strB l s = x := ⟨_, rfl⟩
      obtain ⟨k, hk⟩ : ∃ k, bs.length = k := ⟨_, rfl⟩
      have hkm : k = min 4 (nblk n - 4 * s) := by rw [← hk, ← hbs, strB_len, HLN.out]
      have HBS := Lib.hid (And.intro hbs hk)
      have HKM := Lib.hid hkm
      obtain ⟨M, hM⟩ : ∃ M, WO.heap.size = M := ⟨_, rfl⟩
      have HM := Lib.hid hM
      have HNM := Lib.hid (show N ≤ M from by rw [← hM]; have := HB.out.size; have := HN.out; omega)
      clear hbs hk hkm hM
      go_wp2
      go_loopw [7, 8] (fun v f wr => ∃ i kk : Nat, i ≤ k ∧ kk = ff + i ∧ f = .int .i64 (kk : Int) ∧ OwnM wr M v ((bs.take i).map padL) ∧ Below M WO wr) (fun _ f _ => nblk n + 4 - (intOf f).toNat)
      case atStart => exact ⟨0, ff, Nat.zero_le _, rfl, rfl, by simpa using OwnM.nil WO M, Below.refl _ _⟩
      case round =>
        obtain ⟨i, kk, hi, hkk, rfl, hD, hBM⟩ := hrel
        have HKK := Lib.hid (show kk = 4 * s + i from by have := HFF.out; omega)
        have HKI := Lib.hid hkk
        clear hkk
        have hdn : ((bs.take i).map padL).length = i := by rw [List.length_map, List.length_take, HBS.out.2]; omega
        obtain ⟨pd, cd, rfl, hPd, hpd, hcd⟩ := hD.prt
        rw [hdn] at hcd hD ⊢
        have HIL := Lib.hid hdn
        have HDT := Lib.hid hD
        have HPD := Lib.hid (And.intro hPd (And.intro hpd hcd))
        have HBX := Lib.hid hBM
        have hkm := HKM.out
        by_cases hik : i < k
        · have y1 : (kk : Int) < ((nblk n : Nat) : Int) := by have := HKK.out; have := HFF.out; omega
          have y2 : decide ((kk : Int) < ((nblk n : Nat) : Int)) = true := decide_eq_true y1
          have y3 : (kk : Int) < (ff : Int) + 4 := by have := HKI.out; omega
          have y4 : decide ((kk : Int) < (ff : Int) + 4) = true := decide_eq_true y3
          have y5 : IntKind.i64.wrap ((ff : Int) + 4) = (ff : Int) + 4 := by rw [IntKind.wrap_i64]; omega
          obtain ⟨hc0, ho0, qk, dk, e0, hcell, hsk, hqk⟩ := HLY.out kk (by rw [HAB.out]; have := HKK.out; have := HFF.out; omega)
          have HLEN := Lib.hid hi
          have hgb : (allB l).getD kk [] = blkL l kk := allB_get l _ (by rw [HLN.out]; omega)
          rw [hgb] at hcell hsk
          have hbi : bs.getD i [] = blkL l kk := by rw [← HBS.out.1, HKK.out]; exact strB_get l s i (by rw [HBS.out.1, HBS.out.2]; exact hik)
          obtain ⟨bk, hbk⟩ : ∃ x, blkL l kk = x := ⟨_, rfl⟩
          obtain ⟨nk, hnk⟩ : ∃ x, bk.length = x := ⟨_, rfl⟩
          have hk256 : nk ≤ 256 := by rw [← hnk, ← hbk]; exact blk_le l _
          rw [hbk] at hcell hsk hbi
          rw [hnk] at hcell
          have HBK := Lib.hid (And.intro hnk (And.intro hqk hk256))
          obtain ⟨pb, hpb⟩ : ∃ x, padL bk = x := ⟨_, rfl⟩
          have HPB := Lib.hid (show bk ++ zs12 (256 - nk) = pb ∧ pb.length = 256 from ⟨by rw [← hpb, ← hnk]; rfl, by rw [← hpb]; exact padL_len (by omega)⟩)
          have HTK := Lib.hid (show (bs.take (i + 1)).map padL = (bs.take i).map padL ++ [pb] from by rw [← hpb, ← hbi]; exact take_map_pad bs i (by rw [HBS.out.2]; exact hik))
          have HS := Lib.hid (show ∀ u, Below M WO u → u.cell? ⟨hc0, ho0 + kk, none⟩ = some (.slice qk nk dk) from fun u hu => by
            rw [hu.cell (by rw [← HM.out]; exact World.block_lt_of_cell? WO _ hcell)]; exact hcell)
          have HSL := Lib.hid (show ∀ u, Below M WO u → Sl u qk bk from fun u hu => hsk.of_below (by rw [HM.out]; exact hu))
          have HMX := Lib.hid (show M ≤ wr.heap.size from by have := hBM.size; have := HM.out; omega)
          have w1 : IntKind.i64.wrap (256 - (nk : Int)) = ((256 - nk : Nat) : Int) := by rw [IntKind.wrap_i64]; omega
          have hc := HS.out _ hBM
          subst e0
          clear hD hPd hpd hcd hBM hcell hsk hqk hnk hbk hpb hbi hgb hdn HPD hkm
          go_wp2
          have HBX := Lib.hid (show Below M WO wr.drew from HBX.out.drew)
          have HDT := Lib.hid (show OwnM wr.drew M _ _ from HDT.out.dr (Dr.refl _).drew)
          have HMX := Lib.hid (show M ≤ wr.drew.heap.size from HMX.out)
          refine wp_region_noPanic ?_
          refine wp_region_held_drew (S := (fun u : World => u.cell? ⟨hc0, ho0 + kk, none⟩ = some (.slice qk nk dk))) (by kernel_rfl) (HS.out _ HBX.out) (fun hHeld => ?_)
          clear hc
          generalize wr.drew = x at hHeld HBX HMX HDT ⊢
          refine wpAnyH_take (i := 0) (v := ?_) (by simp only [List.getElem?_toArray, List.getElem?_cons_succ, List.getElem?_cons_zero]; exact rfl) (by kernel_rfl) (by kernel_rfl) (by kernel_rfl) (fun _ _ _ h => h) (Or.inl ⟨by rfl, ?_⟩) (by assumption) ?_
          rotate_left 1
          · (intro w hSw; (try dsimp only at hSw); go_simp; try with_reducible rfl)
          try simp only [Act.put, List.setIfInBounds_toArray, List.set_cons_zero, List.set_cons_succ]
          refine wpAnyH_take (i := 2) (v := ?_) (by simp only [List.getElem?_toArray, List.getElem?_cons_succ, List.getElem?_cons_zero]; exact rfl) (by kernel_rfl) (by kernel_rfl) (by kernel_rfl) (fun _ _ _ h => h) (Or.inl ⟨by rfl, ?_⟩) (by assumption) ?_
          rotate_left 1
          · (intro w hSw; (try dsimp only at hSw); go_simp; try with_reducible rfl)
          try simp only [Act.put, List.setIfInBounds_toArray, List.set_cons_zero, List.set_cons_succ]
          refine wpAnyH_take (i := 3) (v := ?_) (by simp only [List.getElem?_toArray, List.getElem?_cons_succ, List.getElem?_cons_zero]; exact rfl) (by kernel_rfl) (by kernel_rfl) (by kernel_rfl) (fun _ _ _ h => h) (Or.inl ⟨by rfl, ?_⟩) (by assumption) ?_
          rotate_left 1
          · (intro w hSw; (try dsimp only at hSw); go_simp; try with_reducible rfl)
          try simp only [Act.put, List.setIfInBounds_toArray, List.set_cons_zero, List.set_cons_succ]
          refine wpAnyH_take (i := 4) (v := ?_) (by simp only [List.getElem?_toArray, List.getElem?_cons_succ, List.getElem?_cons_zero]; exact rfl) (by kernel_rfl) (by kernel_rfl) (by kernel_rfl) (fun _ _ _ h => h) (Or.inl ⟨by rfl, ?_⟩) (by assumption) ?_
          rotate_left 1
          · (intro w hSw; (try dsimp only at hSw); go_simp; try with_reducible rfl)
          try simp only [Act.put, List.setIfInBounds_toArray, List.set_cons_zero, List.set_cons_succ]
          refine wpAnyH_take (i := 5) (v := ?_) (by simp only [List.getElem?_toArray, List.getElem?_cons_succ, List.getElem?_cons_zero]; exact rfl) (by kernel_rfl) (by kernel_rfl) (by kernel_rfl) (fun _ _ _ h => h) (Or.inl ⟨by rfl, ?_⟩) (by assumption) ?_
          rotate_left 1
          · (intro w hSw; (try dsimp only at hSw); go_simp; try with_reducible rfl)
          try simp only [Act.put, List.setIfInBounds_toArray, List.set_cons_zero, List.set_cons_succ]
          refine wpAnyH_take (i := 7) (v := ?_) (by simp only [List.getElem?_toArray, List.getElem?_cons_succ, List.getElem?_cons_zero]; exact rfl) (by kernel_rfl) (by kernel_rfl) (by kernel_rfl) (fun _ _ _ h => h) (Or.inl ⟨by rfl, ?_⟩) (by assumption) ?_
          rotate_left 1
          · (intro w hSw; (try dsimp only at hSw); go_simp; try with_reducible rfl)
          try simp only [Act.put, List.setIfInBounds_toArray, List.set_cons_zero, List.set_cons_succ]
          refine wpAnyH_take (i := 8) (v := ?_) (by simp only [List.getElem?_toArray, List.getElem?_cons_succ, List.getElem?_cons_zero]; exact rfl) (by kernel_rfl) (by kernel_rfl) (by kernel_rfl) (fun _ _ _ h => h) (Or.inl ⟨by rfl, ?_⟩) (by assumption) ?_
          rotate_left 1
          · (intro w hSw; (try dsimp only at hSw); go_simp; try with_reducible rfl)
          try simp only [Act.put, List.setIfInBounds_toArray, List.set_cons_zero, List.set_cons_succ]
          refine wpAnyH_take (i := 9) (v := ?_) (by simp only [List.getElem?_toArray, List.getElem?_cons_succ, List.getElem?_cons_zero]; exact rfl) (by kernel_rfl) (by kernel_rfl) (by kernel_rfl) (fun _ _ _ h => h) (Or.inl ⟨by rfl, ?_⟩) (by assumption) ?_
          rotate_left 1
          · (intro w hSw; (try dsimp only at hSw); go_simp; try with_reducible rfl)
          try simp only [Act.put, List.setIfInBounds_toArray, List.set_cons_zero, List.set_cons_succ]
          refine wpAnyH_take (i := 10) (v := ?_) (by simp only [List.getElem?_toArray, List.getElem?_cons_succ, List.getElem?_cons_zero]; exact rfl) (by kernel_rfl) (by kernel_rfl) (by kernel_rfl) (fun _ _ _ h => h) (Or.inl ⟨by rfl, ?_⟩) (by assumption) ?_
          rotate_left 1
          · (intro w hSw; (try dsimp only at hSw); go_simp; try with_reducible rfl)
          try simp only [Act.put, List.setIfInBounds_toArray, List.set_cons_zero, List.set_cons_succ]
          refine wpAnyH_take (i := 11) (v := ?_) (by simp only [List.getElem?_toArray, List.getElem?_cons_succ, List.getElem?_cons_zero]; exact rfl) (by kernel_rfl) (by kernel_rfl) (by kernel_rfl) (fun _ _ _ h => h) (Or.inl ⟨by rfl, ?_⟩) (by assumption) ?_
          rotate_left 1
          · (intro w hSw; (try dsimp only at hSw); go_simp; try with_reducible rfl)
          try simp only [Act.put, List.setIfInBounds_toArray, List.set_cons_zero, List.set_cons_succ]
          refine wpAnyH_take (i := 12) (v := ?_) (by simp only [List.getElem?_toArray, List.getElem?_cons_succ, List.getElem?_cons_zero]; exact rfl) (by kernel_rfl) (by kernel_rfl) (by kernel_rfl) (fun _ _ _ h => h) (Or.inl ⟨by rfl, ?_⟩) (by assumption) ?_
          rotate_left 1
          · (intro w hSw; (try dsimp only at hSw); go_simp; try with_reducible rfl)
          try simp only [Act.put, List.setIfInBounds_toArray, List.set_cons_zero, List.set_cons_succ]
          refine wpAnyH_ready (rs := [1]) (by kernel_rfl) (by simp) ?_
          refine (AllReadyH.cons (by simp only [List.getElem?_toArray, List.getElem?_cons_succ, List.getElem?_cons_zero]; exact rfl) (fun K hK => ?_) AllReadyH.nil)
          go_simp
          have HO := Lib.hid (own_emptyB x)
          have HX := Lib.hid (below_newR x (.cells #[] 5))
          refine hK.out _ _ (HS.out _ (HBX.out.trans (HX.out.mono HMX.out))) (fun hHeld => ?_)
          generalize hx1 : x.alloc (.cells #[] 5) = x1 at HO HX hHeld ⊢
          clear hK K
          try simp only [Act.put, List.setIfInBounds_toArray, List.set_cons_zero, List.set_cons_succ]
          refine wpAnyH_ready (rs := [6]) (by kernel_rfl) (by simp) ?_
          refine (AllReadyH.cons (by simp only [List.getElem?_toArray, List.getElem?_cons_succ, List.getElem?_cons_zero]; exact rfl) (fun K hK => ?_) AllReadyH.nil)
          refine step_appendL x1 rfl (.tmp 39) (.tmp 43) rfl x.heap.size _ [] rfl HO.out qk nk dk bk HBK.out.1 rfl (HSL.out _ (HBX.out.trans (HX.out.mono HMX.out))) HBK.out.2.1 (by simp only [List.length_nil]; have := HBK.out.2.2; omega) HX.out.size ?_
          rintro v2 x2 hO2 hg2 -
          rw [List.nil_append] at hO2
          have HX := Lib.hid (HX.out.grown hg2 HX.out.size (fun k hk => (HO.out.lt k hk).1))
          have HO := Lib.hid hO2
          clear hO2 hg2
          refine hK.out _ _ (HS.out _ (HBX.out.trans (HX.out.mono HMX.out))) (fun hHeld => ?_)
          clear hK K
          try simp only [Act.put, List.setIfInBounds_toArray, List.set_cons_zero, List.set_cons_succ]
          refine wpAnyH_ready (rs := [13]) (by kernel_rfl) (by simp) ?_
          refine (AllReadyH.cons (by simp only [List.getElem?_toArray, List.getElem?_cons_succ, List.getElem?_cons_zero]; exact rfl) (fun K hK => ?_) AllReadyH.nil)
          refine step_appendZ x2 rfl (.tmp 44) (.tmp 50) rfl x.heap.size v2 bk rfl HO.out (256 - nk) rfl (by have := HBK.out; omega) (by omega) HX.out.size ?_
          rintro v3 x3 hO3 hg3 -
          rw [HPB.out.1] at hO3
          have HX := Lib.hid (HX.out.grown hg3 HX.out.size (fun k hk => (HO.out.lt k hk).1))
          have HO := Lib.hid hO3
          obtain ⟨p3, c3, rfl, hs3, hp3, hc3⟩ := hO3.shape
          rw [HPB.out.2] at hc3 HO ⊢
          have H3 := Lib.hid (And.intro hs3 (And.intro hp3 hc3))
          clear hO3 hg3 hs3 hp3 hc3
          refine hK.out _ _ (HS.out _ (HBX.out.trans (HX.out.mono HMX.out))) (fun hHeld => ?_)
          clear hK K
          try simp only [Act.put, List.setIfInBounds_toArray, List.set_cons_zero, List.set_cons_succ]
          refine wpAnyH_ready (rs := [14]) (by kernel_rfl) (by simp) ?_
          refine (AllReadyH.cons (by simp only [List.getElem?_toArray, List.getElem?_cons_succ, List.getElem?_cons_zero]; exact rfl) (fun K hK => ?_) AllReadyH.nil)
          go_simp
          have HX := Lib.hid (HX.out.trans ((below_newR x3 (.cells #[.slice p3 256 c3] 22)).mono HX.out.size))
          have HC4 := Lib.hid (show (x3.alloc (.cells #[.slice p3 256 c3] 22)).cell? ⟨x3.heap.size, 0, none⟩ = some (.slice p3 256 c3) from World.cell?_alloc_new _ _ _ _)
          have H3 := Lib.hid (And.intro (H3.out.1.of_below (below_newR x3 (.cells #[.slice p3 256 c3] 22))) H3.out.2)
          have HO4 := Lib.hid (HO.out.lt)
          have HZ4 := Lib.hid (show x3.heap.size ≤ (x3.alloc (.cells #[.slice p3 256 c3] 22)).heap.size from by rw [World.size_alloc]; omega)
          refine hK.out _ _ (HS.out _ (HBX.out.trans (HX.out.mono HMX.out))) (fun hHeld => ?_)
          generalize hx4 : x3.alloc (.cells #[.slice p3 256 c3] 22) = x4 at HX HC4 H3 HZ4 hHeld ⊢
          clear hK K
          try simp only [Act.put, List.setIfInBounds_toArray, List.set_cons_zero, List.set_cons_succ]
          refine wpAnyH_ready (rs := [15]) (by kernel_rfl) (by simp) ?_
          refine (AllReadyH.cons (by simp only [List.getElem?_toArray, List.getElem?_cons_succ, List.getElem?_cons_zero]; exact rfl) (fun K hK => ?_) AllReadyH.nil)
          refine step_pushM x4 rfl (.tmp 38) (.tmp 52) rfl M _ ((bs.take i).map padL) rfl (HDT.out.of_below HX.out) ⟨x3.heap.size, 0, none⟩ rfl p3 pb 256 c3 HC4.out HPB.out.2 H3.out.1 H3.out.2.1 H3.out.2.2 (fun b e => by
            have h1 := HO4.out b.block (by rw [e]; rfl)
            have h2 := HZ4.out
            have h3 := HMX.out
            exact ⟨by omega, by omega, fun e2 => by have := (HDT.out.lt _ e2).2; omega⟩) i HIL.out (by have := HKM.out; omega) (Nat.le_trans HMX.out HX.out.size) ?_
          rintro g5 c5 x5 hM5 hg5 - -
          rw [← HTK.out] at hM5
          have HM5 := Lib.hid hM5
          have HBX5 := Lib.hid ((HBX.out.trans (HX.out.mono HMX.out)).grown hg5 (Nat.le_trans HMX.out HX.out.size) (fun k hk => ((HDT.out.of_below HX.out).lt k hk).1))
          clear hM5 hg5
          refine hK.out _ _ (HS.out _ HBX5.out) (fun hHeld => ?_)
          clear hK K
          try simp only [Act.put, List.setIfInBounds_toArray, List.set_cons_zero, List.set_cons_succ]
          refine wpAnyH_take (i := 16) (v := ?_) (by simp only [List.getElem?_toArray, List.getElem?_cons_succ, List.getElem?_cons_zero]; exact rfl) (by kernel_rfl) (by kernel_rfl) (by kernel_rfl) (fun _ _ _ h => h) (Or.inl ⟨by rfl, ?_⟩) (by assumption) ?_
          rotate_left 1
          · (intro w hSw; (try dsimp only at hSw); go_simp; try with_reducible rfl)
          try simp only [Act.put, List.setIfInBounds_toArray, List.set_cons_zero, List.set_cons_succ]
          refine wpAnyH_done (by kernel_rfl) ?_ _
          refine NoPanic.normal ?_
          clear hHeld
          go_wp2
          go_roundw
          case rel => exact ⟨i + 1, kk + 1, by omega, by have := HKI.out; omega, by go_num, HM5.out, HBX5.out⟩
          case measure => simp [intOf]; omega
        · have hik' : i = k := by omega
          have hki := HKI.out
          by_cases hz : kk < nblk n
          · have y1 : (kk : Int) < ((nblk n : Nat) : Int) := by omega
            have y2 : decide ((kk : Int) < ((nblk n : Nat) : Int)) = true := decide_eq_true y1
            have y3 : ¬ (kk : Int) < (ff : Int) + 4 := by have := HFF.out; omega
            have y4 : decide ((kk : Int) < (ff : Int) + 4) = false := decide_eq_false y3
            have y5 : IntKind.i64.wrap ((ff : Int) + 4) = (ff : Int) + 4 := by rw [IntKind.wrap_i64]; omega
            clear hD hPd hpd hcd hBM hdn hkm hki
            have hdk : (bs.take i).map padL = bs.map padL := by rw [hik', ← HBS.out.2, List.take_length]
            have hPk : Prt wr pd (bs.map padL) := by rw [← hdk]; exact HPD.out.1
            have hk1 : 1 ≤ k ∧ k ≤ 4 := by have := HKM.out; have := HFF.out; omega
            have hrows := fun j hj => pad_rows bs (fun a _ => by rw [← HBS.out.1]; exact strB_row l s a) j hj
            rw [HBS.out.2] at hrows
            have hPA := refParity_any (bs.map padL) pd i 2 cd 256 wr hPk (by rw [List.length_map, HBS.out.2, hik']) (by rw [hik']; exact hrows) (by omega) (by omega) (by decide)
            have hpe : rowsL 2 256 (mm i (cau i) (mx (bs.map padL))) = parB bs := by unfold parB; rw [HBS.out.2, hik']
            rw [hpe] at hPA
            have HPA := Lib.hid hPA
            have HIK := Lib.hid hik'
            have HK1 := Lib.hid hk1
            clear hdk hPk hk1 hrows hPA hpe hik'
            go_wp2_with fail
            refine HPA.out.mono ?_
            rintro e w5 ⟨v5, rfl, hM5, hB5⟩
            have hp2 : (parB bs).length = 2 := parB_len bs
            obtain ⟨pp, cp, rfl, -, -, -⟩ := hM5.prt
            rw [hp2] at hM5 ⊢
            obtain ⟨M5, hM5e⟩ : ∃ m, wr.heap.size = m := ⟨_, rfl⟩
            rw [hM5e] at hM5 hB5
            have hB5' : Below WO.heap.size WO w5 := by rw [HM.out]; exact HBX.out.trans (hB5.mono (by have := HBX.out.size; have := HM.out; omega))
            have HO5 := Lib.hid (HO.out.of_below hB5')
            have HB5 := Lib.hid (HB.out.trans (hB5'.mono (by have := HNM.out; have := HM.out; omega)))
            have HF45 := Lib.hid (HF4.out.of_below hB5')
            have HOW5 := Lib.hid (show ∀ g, (Value.slice pv Ls.length cv).ownBlock = some g → g < M5 ∨ w5.heap.size ≤ g from fun g e => .inl (by have := (HO.out.lt g e).2; have := HBX.out.size; have := HM.out; omega))
            have HM5 := Lib.hid hM5
            have HS5 := Lib.hid (show w.heap.size ≤ M5 from by have := HBX.out.size; have := HNM.out; have := HM.out; have := HN.out; omega)
            clear hM5 hB5 hB5' hp2 HPA HPD HDT hM5e
            go_wp2
            go_loopw [4, 58] (fun v f wx => ∃ j : Nat, j ≤ 2 ∧ f = .int .i64 (j : Int) ∧ OwnB wx N v (Ls ++ (((parB bs).take j).map entL).flatten) ∧ Below N w wx ∧ Fr12 w5 wx M5 w5.heap.size ∧ (∀ g, v.ownBlock = some g → g < M5 ∨ w5.heap.size ≤ g) ∧ Fr12 w4 wx w3.heap.size w4.heap.size ∧ (∀ g, v.ownBlock = some g → g < w3.heap.size ∨ w4.heap.size ≤ g)) (fun _ f _ => 2 - (intOf f).toNat)
            case atStart => exact ⟨0, Nat.zero_le _, rfl, by simpa using HO5.out, HB5.out, ⟨Nat.le_refl _, fun _ _ _ => rfl⟩, HOW5.out, HF45.out, HO4w.out⟩
            case round =>
              obtain ⟨j, hj, rfl, hO, hBw, hFr, hOw, hF4, hO4⟩ := hrel
              obtain ⟨Lr, hLr⟩ : ∃ x, Ls ++ (((parB bs).take j).map entL).flatten = x := ⟨_, rfl⟩
              rw [hLr] at hO
              have HLR := Lib.hid (show Lr.length ≤ 20000 from by rw [← hLr, List.length_append, HLS.out.2]; have := ent_len (bs := bs) j; omega)
              obtain ⟨pr, crr, rfl, hsq, hpr, -⟩ := hO.shape
              have HSQ := Lib.hid (And.intro hsq hpr)
              have HO := Lib.hid hO
              have HNY := Lib.hid hBw
              have HFR := Lib.hid hFr
              have HOW := Lib.hid hOw
              have HF4 := Lib.hid hF4
              have HO4w := Lib.hid hO4
              clear hsq hpr HO5 HB5 HOW5 HF45
              by_cases hj2 : j < 2
              · have hd0 : decide ((j : Int) < (2 : Int)) = true := decide_eq_true (by omega)
                have hl0 : (j : Int) < (2 : Int) := by omega
                obtain ⟨gc, qr, cr, e0, hqr, hcr, hall⟩ := HM5.out.row12 j (by rw [parB_len]; exact hj2)
                have HEN := Lib.hid (show Ls ++ (((parB bs).take (j + 1)).map entL).flatten = Lr ++ entL ((parB bs).getD j []) from by rw [← hLr, ent_take _ _ (by rw [parB_len]; exact hj2), List.append_assoc])
                have hrl : ((parB bs).getD j []).length = 256 := parB_row bs j hj2
                obtain ⟨row, hrow⟩ : ∃ x, (parB bs).getD j [] = x := ⟨_, rfl⟩
                rw [hrow] at HEN hall hrl hcr
                rw [hrl] at hall
                have HSR := Lib.hid hall
                have HRW := Lib.hid (And.intro hrl hqr)
                have hcell := (hall wr hFr).1
                subst e0
                have HD8 := Lib.hid (refSum1_any row qr 256 cr wr hrl (hall wr hFr).2 hqr (HT.out.on (by rw [HN.out]; exact hBw)) (by decide))
                clear hO hBw hFr hOw hF4 hO4 hall hrl hqr hrow hcr hLr
                go_wp2_with fail
                refine HD8.out.mono ?_
                rintro e w8 ⟨rfl, hB8⟩
                clear hcell
                obtain ⟨d2, hd2⟩ : ∃ x, digL row = x := ⟨_, rfl⟩
                have HDL2 := Lib.hid (show d2.length = 32 from by rw [← hd2]; exact digL_len _)
                have hent : entL row = row ++ d2 := by unfold entL; rw [hd2]
                rw [hent] at HEN
                rw [hd2]
                have st8 := st_dig w8 w8.heap.size d2 rfl
                obtain ⟨y0, hy0⟩ : ∃ y, w8.alloc (.cells (tab 32 (dgF d2)) 31) = y := ⟨_, rfl⟩
                have hb8 := below_newR w8 (.cells (tab 32 (dgF d2)) 31)
                have hsd : Sl (w8.alloc (.cells (tab 32 (dgF d2)) 31)) (some ⟨w8.heap.size, 0, none⟩) d2 := Sl.row (Row.new w8 31 32 (dgF d2)) (by rw [HDL2.out]; exact Nat.le_refl _) (fun j hj => rfl)
                rw [hy0] at st8 hb8 hsd
                have hb := hB8.trans (hb8.mono hB8.size)
                have HYL := Lib.hid (show ∀ g, (Value.slice pr Lr.length crr).ownBlock = some g → g < w8.heap.size from fun g e => Nat.lt_of_lt_of_le (HO.out.lt g e).2 hB8.size)
                have HD := Lib.hid (show Sl y0.drew (some ⟨w8.heap.size, 0, none⟩) d2 from hsd)
                have HO := Lib.hid (show OwnB y0.drew N (.slice pr Lr.length crr) Lr from (HO.out.of_below hb.drew))
                have HNY := Lib.hid (show Below N w y0.drew from (HNY.out.trans (hb.mono (by have := HNY.out.size; have := HN.out; omega))).drew)
                have HFR := Lib.hid (show Fr12 w5 y0.drew M5 w5.heap.size from HFR.out.of_below hb.drew)
                have HF4 := Lib.hid (show Fr12 w4 y0.drew w3.heap.size w4.heap.size from HF4.out.of_below hb.drew)
                clear hent hd2 hb8 hsd hb hB8 HD8 HSQ hy0
                have hcell := (HSR.out _ HFR.out).1
                go_wp2
                clear st8 hcell
                refine wp_region_noPanic ?_
                refine wp_region_held_drew (S := (fun u : World => u.cell? ⟨gc, j, none⟩ = some (.slice qr 256 cr))) (by kernel_rfl) ((HSR.out _ HFR.out).1) (fun hHeld => ?_)
                generalize y0.drew = y at hHeld HFR HF4 HNY HO HD ⊢
                refine wpAnyH_take (i := 0) (v := ?_) (by simp only [List.getElem?_toArray, List.getElem?_cons_succ, List.getElem?_cons_zero]; exact rfl) (by kernel_rfl) (by kernel_rfl) (by kernel_rfl) (fun _ _ _ h => h) (Or.inl ⟨by rfl, ?_⟩) (by assumption) ?_
                rotate_left 1
                · (intro w hSw; (try dsimp only at hSw); go_simp; try with_reducible rfl)
                try simp only [Act.put, List.setIfInBounds_toArray, List.set_cons_zero, List.set_cons_succ]
                refine wpAnyH_take (i := 1) (v := ?_) (by simp only [List.getElem?_toArray, List.getElem?_cons_succ, List.getElem?_cons_zero]; exact rfl) (by kernel_rfl) (by kernel_rfl) (by kernel_rfl) (fun _ _ _ h => h) (Or.inl ⟨by rfl, ?_⟩) (by assumption) ?_
                rotate_left 1
                · (intro w hSw; (try dsimp only at hSw); go_simp; try with_reducible rfl)
                try simp only [Act.put, List.setIfInBounds_toArray, List.set_cons_zero, List.set_cons_succ]
                refine wpAnyH_take (i := 2) (v := ?_) (by simp only [List.getElem?_toArray, List.getElem?_cons_succ, List.getElem?_cons_zero]; exact rfl) (by kernel_rfl) (by kernel_rfl) (by kernel_rfl) (fun _ _ _ h => h) (Or.inl ⟨by rfl, ?_⟩) (by assumption) ?_
                rotate_left 1
                · (intro w hSw; (try dsimp only at hSw); go_simp; try with_reducible rfl)
                try simp only [Act.put, List.setIfInBounds_toArray, List.set_cons_zero, List.set_cons_succ]
                refine wpAnyH_take (i := 3) (v := ?_) (by simp only [List.getElem?_toArray, List.getElem?_cons_succ, List.getElem?_cons_zero]; exact rfl) (by kernel_rfl) (by kernel_rfl) (by kernel_rfl) (fun _ _ _ h => h) (Or.inl ⟨by rfl, ?_⟩) (by assumption) ?_
                rotate_left 1
                · (intro w hSw; (try dsimp only at hSw); go_simp; try with_reducible rfl)
                try simp only [Act.put, List.setIfInBounds_toArray, List.set_cons_zero, List.set_cons_succ]
                refine wpAnyH_take (i := 4) (v := ?_) (by simp only [List.getElem?_toArray, List.getElem?_cons_succ, List.getElem?_cons_zero]; exact rfl) (by kernel_rfl) (by kernel_rfl) (by kernel_rfl) (fun _ _ _ h => h) (Or.inl ⟨by rfl, ?_⟩) (by assumption) ?_
                rotate_left 1
                · (intro w hSw; (try dsimp only at hSw); go_simp; try with_reducible rfl)
                try simp only [Act.put, List.setIfInBounds_toArray, List.set_cons_zero, List.set_cons_succ]
                refine wpAnyH_take (i := 6) (v := ?_) (by simp only [List.getElem?_toArray, List.getElem?_cons_succ, List.getElem?_cons_zero]; exact rfl) (by kernel_rfl) (by kernel_rfl) (by kernel_rfl) (fun _ _ _ h => h) (Or.inl ⟨by rfl, ?_⟩) (by assumption) ?_
                rotate_left 1
                · (intro w hSw; (try dsimp only at hSw); go_simp; try with_reducible rfl)
                try simp only [Act.put, List.setIfInBounds_toArray, List.set_cons_zero, List.set_cons_succ]
                refine wpAnyH_ready (rs := [5]) (by kernel_rfl) (by simp) ?_
                refine (AllReadyH.cons (by simp only [List.getElem?_toArray, List.getElem?_cons_succ, List.getElem?_cons_zero]; exact rfl) (fun K hK => ?_) AllReadyH.nil)
                refine step_appendL y rfl (.tmp 66) (.tmp 70) rfl N _ Lr rfl HO.out qr 256 cr row HRW.out.1 rfl (HSR.out _ HFR.out).2 HRW.out.2 (by have := HLR.out; have := HRW.out.1; have := HDL2.out; (try simp only [List.length_append]); omega) (by have := HNY.out.size; have := HN.out; omega) ?_
                rintro v5 y5 hO5 hg5 ho5
                have HD := Lib.hid (HD.out.keepP (fun c o e hlt => hg5.block c hlt (fun e2 => by injection e with e; injection e with e3 e4; have := HYL.out c e2.symm; omega)))
                have HFR1 := Lib.hid (HFR.out.grown hg5 HOW.out)
                have HF41 := Lib.hid (HF4.out.grown hg5 HO4w.out)
                have HO4w := Lib.hid (own_step HO4w.out HF4.out.1 ho5)
                have HOW := Lib.hid (own_step HOW.out HFR.out.1 ho5)
                have HFR := HFR1
                have HF4 := HF41
                have HNY := Lib.hid (HNY.out.grown hg5 (by have := HNY.out.size; have := HN.out; omega) (fun k hk => (HO.out.lt k hk).1))
                have HO := Lib.hid hO5
                clear hO5 hg5 ho5 HFR1 HF41
                refine hK.out _ _ (HSR.out _ HFR.out).1 (fun hHeld => ?_)
                clear hK K
                try simp only [Act.put, List.setIfInBounds_toArray, List.set_cons_zero, List.set_cons_succ]
                refine wpAnyH_ready (rs := [7]) (by kernel_rfl) (by simp) ?_
                refine (AllReadyH.cons (by simp only [List.getElem?_toArray, List.getElem?_cons_succ, List.getElem?_cons_zero]; exact rfl) (fun K hK => ?_) AllReadyH.nil)
                refine step_appendL y5 rfl (.tmp 71) (.tmp 72) rfl N v5 (Lr ++ row) rfl HO.out (some ⟨w8.heap.size, 0, none⟩) 32 32 d2 HDL2.out rfl HD.out (fun e => by cases e) (by have := HLR.out; have := HRW.out.1; have := HDL2.out; (try simp only [List.length_append]); omega) (by have := HNY.out.size; have := HN.out; omega) ?_
                rintro v7 y7 hO5 hg5 ho5
                have HFR1 := Lib.hid (HFR.out.grown hg5 HOW.out)
                have HF41 := Lib.hid (HF4.out.grown hg5 HO4w.out)
                have HO4w := Lib.hid (own_step HO4w.out HF4.out.1 ho5)
                have HOW := Lib.hid (own_step HOW.out HFR.out.1 ho5)
                have HFR := HFR1
                have HF4 := HF41
                have HNY := Lib.hid (HNY.out.grown hg5 (by have := HNY.out.size; have := HN.out; omega) (fun k hk => (HO.out.lt k hk).1))
                have HO := Lib.hid hO5
                clear hO5 hg5 ho5 HFR1 HF41
                refine hK.out _ _ (HSR.out _ HFR.out).1 (fun hHeld => ?_)
                clear hK K
                try simp only [Act.put, List.setIfInBounds_toArray, List.set_cons_zero, List.set_cons_succ]
                refine wpAnyH_take (i := 8) (v := ?_) (by simp only [List.getElem?_toArray, List.getElem?_cons_succ, List.getElem?_cons_zero]; exact rfl) (by kernel_rfl) (by kernel_rfl) (by kernel_rfl) (fun _ _ _ h => h) (Or.inl ⟨by rfl, ?_⟩) (by assumption) ?_
                rotate_left 1
                · (intro w hSw; (try dsimp only at hSw); go_simp; try with_reducible rfl)
                try simp only [Act.put, List.setIfInBounds_toArray, List.set_cons_zero, List.set_cons_succ]
                refine wpAnyH_done (by kernel_rfl) ?_ _
                refine NoPanic.normal ?_
                clear hHeld
                obtain ⟨p7, c7, rfl, -, -, -⟩ := HO.out.shape
                go_wp2
                go_roundw
                case rel => exact ⟨j + 1, by omega, by go_num, by rw [HEN.out, ← List.append_assoc]; exact HO.out, HNY.out, HFR.out, HOW.out, HF4.out, HO4w.out⟩
                case measure => simp [intOf]; omega
              · have hd0 : decide ((j : Int) < (2 : Int)) = false := decide_eq_false (by omega)
                have hj2' : j = 2 := by omega
                have hfin : Ls ++ (((parB bs).take j).map entL).flatten = dg ++ ((List.range (s + 1)).map (strE l)).flatten := by
                  have h1 : (parB bs).take j = parB bs := by rw [hj2', List.take_of_length_le (by rw [parB_len]; exact Nat.le_refl _)]
                  rw [h1, ← HLS.out.1, flat_snoc, List.append_assoc]
                  unfold strE
                  rw [HBS.out.1]
                have HFI := Lib.hid (hLr.symm.trans hfin)
                have hkm := HKM.out
                have hff := HFF.out
                have hsn' := hsn
                clear hO hBw hFr hOw hF4 hO4 hj2 hLr hfin HSQ
                have HFN := Lib.hid (And.intro hff hsn')
                clear hkm hff hsn'
                go_wp2
                go_roundw
                case rel => exact ⟨s + 1, ff + 4, hsn, by have := HFN.out.1; omega, by go_num, by rw [← HFI.out]; exact HO.out, HNY.out, HF4.out, HO4w.out⟩
                case measure => simp [intOf]; omega
          · have y1 : ¬ (kk : Int) < ((nblk n : Nat) : Int) := by omega
            have y2 : decide ((kk : Int) < ((nblk n : Nat) : Int)) = false := decide_eq_false y1
            clear hD hPd hpd hcd hBM hdn hkm hki
            have hdk : (bs.take i).map padL = bs.map padL := by rw [hik', ← HBS.out.2, List.take_length]
            have hPk : Prt wr pd (bs.map padL) := by rw [← hdk]; exact HPD.out.1
            have hk1 : 1 ≤ k ∧ k ≤ 4 := by have := HKM.out; have := HFF.out; omega
            have hrows := fun j hj => pad_rows bs (fun a _ => by rw [← HBS.out.1]; exact strB_row l s a) j hj
            rw [HBS.out.2] at hrows
            have hPA := refParity_any (bs.map padL) pd i 2 cd 256 wr hPk (by rw [List.length_map, HBS.out.2, hik']) (by rw [hik']; exact hrows) (by omega) (by omega) (by decide)
            have hpe : rowsL 2 256 (mm i (cau i) (mx (bs.map padL))) = parB bs := by unfold parB; rw [HBS.out.2, hik']
            rw [hpe] at hPA
            have HPA := Lib.hid hPA
            have HIK := Lib.hid hik'
            have HK1 := Lib.hid hk1
            clear hdk hPk hk1 hrows hPA hpe hik'
            go_wp2_with fail
            refine HPA.out.mono ?_
            rintro e w5 ⟨v5, rfl, hM5, hB5⟩
            have hp2 : (parB bs).length = 2 := parB_len bs
            obtain ⟨pp, cp, rfl, -, -, -⟩ := hM5.prt
            rw [hp2] at hM5 ⊢
            obtain ⟨M5, hM5e⟩ : ∃ m, wr.heap.size = m := ⟨_, rfl⟩
            rw [hM5e] at hM5 hB5
            have hB5' : Below WO.heap.size WO w5 := by rw [HM.out]; exact HBX.out.trans (hB5.mono (by have := HBX.out.size; have := HM.out; omega))
            have HO5 := Lib.hid (HO.out.of_below hB5')
            have HB5 := Lib.hid (HB.out.trans (hB5'.mono (by have := HNM.out; have := HM.out; omega)))
            have HF45 := Lib.hid (HF4.out.of_below hB5')
            have HOW5 := Lib.hid (show ∀ g, (Value.slice pv Ls.length cv).ownBlock = some g → g < M5 ∨ w5.heap.size ≤ g from fun g e => .inl (by have := (HO.out.lt g e).2; have := HBX.out.size; have := HM.out; omega))
            have HM5 := Lib.hid hM5
            have HS5 := Lib.hid (show w.heap.size ≤ M5 from by have := HBX.out.size; have := HNM.out; have := HM.out; have := HN.out; omega)
            clear hM5 hB5 hB5' hp2 HPA HPD HDT hM5e
            go_wp2
            go_loopw [4, 58] (fun v f wx => ∃ j : Nat, j ≤ 2 ∧ f = .int .i64 (j : Int) ∧ OwnB wx N v (Ls ++ (((parB bs).take j).map entL).flatten) ∧ Below N w wx ∧ Fr12 w5 wx M5 w5.heap.size ∧ (∀ g, v.ownBlock = some g → g < M5 ∨ w5.heap.size ≤ g) ∧ Fr12 w4 wx w3.heap.size w4.heap.size ∧ (∀ g, v.ownBlock = some g → g < w3.heap.size ∨ w4.heap.size ≤ g)) (fun _ f _ => 2 - (intOf f).toNat)
            case atStart => exact ⟨0, Nat.zero_le _, rfl, by simpa using HO5.out, HB5.out, ⟨Nat.le_refl _, fun _ _ _ => rfl⟩, HOW5.out, HF45.out, HO4w.out⟩
            case round =>
              obtain ⟨j, hj, rfl, hO, hBw, hFr, hOw, hF4, hO4⟩ := hrel
              obtain ⟨Lr, hLr⟩ : ∃ x, Ls ++ (((parB bs).take j).map entL).flatten = x := ⟨_, rfl⟩
              rw [hLr] at hO
              have HLR := Lib.hid (show Lr.length ≤ 20000 from by rw [← hLr, List.length_append, HLS.out.2]; have := ent_len (bs := bs) j; omega)
              obtain ⟨pr, crr, rfl, hsq, hpr, -⟩ := hO.shape
              have HSQ := Lib.hid (And.intro hsq hpr)
              have HO := Lib.hid hO
              have HNY := Lib.hid hBw
              have HFR := Lib.hid hFr
              have HOW := Lib.hid hOw
              have HF4 := Lib.hid hF4
              have HO4w := Lib.hid hO4
              clear hsq hpr HO5 HB5 HOW5 HF45
              by_cases hj2 : j < 2
              · have hd0 : decide ((j : Int) < (2 : Int)) = true := decide_eq_true (by omega)
                have hl0 : (j : Int) < (2 : Int) := by omega
                obtain ⟨gc, qr, cr, e0, hqr, hcr, hall⟩ := HM5.out.row12 j (by rw [parB_len]; exact hj2)
                have HEN := Lib.hid (show Ls ++ (((parB bs).take (j + 1)).map entL).flatten = Lr ++ entL ((parB bs).getD j []) from by rw [← hLr, ent_take _ _ (by rw [parB_len]; exact hj2), List.append_assoc])
                have hrl : ((parB bs).getD j []).length = 256 := parB_row bs j hj2
                obtain ⟨row, hrow⟩ : ∃ x, (parB bs).getD j [] = x := ⟨_, rfl⟩
                rw [hrow] at HEN hall hrl hcr
                rw [hrl] at hall
                have HSR := Lib.hid hall
                have HRW := Lib.hid (And.intro hrl hqr)
                have hcell := (hall wr hFr).1
                subst e0
                have HD8 := Lib.hid (refSum1_any row qr 256 cr wr hrl (hall wr hFr).2 hqr (HT.out.on (by rw [HN.out]; exact hBw)) (by decide))
                clear hO hBw hFr hOw hF4 hO4 hall hrl hqr hrow hcr hLr
                go_wp2_with fail
                refine HD8.out.mono ?_
                rintro e w8 ⟨rfl, hB8⟩
                clear hcell
                obtain ⟨d2, hd2⟩ : ∃ x, digL row = x := ⟨_, rfl⟩
                have HDL2 := Lib.hid (show d2.length = 32 from by rw [← hd2]; exact digL_len _)
                have hent : entL row = row ++ d2 := by unfold entL; rw [hd2]
                rw [hent] at HEN
                rw [hd2]
                have st8 := st_dig w8 w8.heap.size d2 rfl
                obtain ⟨y0, hy0⟩ : ∃ y, w8.alloc (.cells (tab 32 (dgF d2)) 31) = y := ⟨_, rfl⟩
                have hb8 := below_newR w8 (.cells (tab 32 (dgF d2)) 31)
                have hsd : Sl (w8.alloc (.cells (tab 32 (dgF d2)) 31)) (some ⟨w8.heap.size, 0, none⟩) d2 := Sl.row (Row.new w8 31 32 (dgF d2)) (by rw [HDL2.out]; exact Nat.le_refl _) (fun j hj => rfl)
                rw [hy0] at st8 hb8 hsd
                have hb := hB8.trans (hb8.mono hB8.size)
                have HYL := Lib.hid (show ∀ g, (Value.slice pr Lr.length crr).ownBlock = some g → g < w8.heap.size from fun g e => Nat.lt_of_lt_of_le (HO.out.lt g e).2 hB8.size)
                have HD := Lib.hid (show Sl y0.drew (some ⟨w8.heap.size, 0, none⟩) d2 from hsd)
                have HO := Lib.hid (show OwnB y0.drew N (.slice pr Lr.length crr) Lr from (HO.out.of_below hb.drew))
                have HNY := Lib.hid (show Below N w y0.drew from (HNY.out.trans (hb.mono (by have := HNY.out.size; have := HN.out; omega))).drew)
                have HFR := Lib.hid (show Fr12 w5 y0.drew M5 w5.heap.size from HFR.out.of_below hb.drew)
                have HF4 := Lib.hid (show Fr12 w4 y0.drew w3.heap.size w4.heap.size from HF4.out.of_below hb.drew)
                clear hent hd2 hb8 hsd hb hB8 HD8 HSQ hy0
                have hcell := (HSR.out _ HFR.out).1
                go_wp2
                clear st8 hcell
                refine wp_region_noPanic ?_
                refine wp_region_held_drew (S := (fun u : World => u.cell? ⟨gc, j, none⟩ = some (.slice qr 256 cr))) (by kernel_rfl) ((HSR.out _ HFR.out).1) (fun hHeld => ?_)
                generalize y0.drew = y at hHeld HFR HF4 HNY HO HD ⊢
                refine wpAnyH_take (i := 0) (v := ?_) (by simp only [List.getElem?_toArray, List.getElem?_cons_succ, List.getElem?_cons_zero]; exact rfl) (by kernel_rfl) (by kernel_rfl) (by kernel_rfl) (fun _ _ _ h => h) (Or.inl ⟨by rfl, ?_⟩) (by assumption) ?_
                rotate_left 1
                · (intro w hSw; (try dsimp only at hSw); go_simp; try with_reducible rfl)
                try simp only [Act.put, List.setIfInBounds_toArray, List.set_cons_zero, List.set_cons_succ]
                refine wpAnyH_take (i := 1) (v := ?_) (by simp only [List.getElem?_toArray, List.getElem?_cons_succ, List.getElem?_cons_zero]; exact rfl) (by kernel_rfl) (by kernel_rfl) (by kernel_rfl) (fun _ _ _ h => h) (Or.inl ⟨by rfl, ?_⟩) (by assumption) ?_
                rotate_left 1
                · (intro w hSw; (try dsimp only at hSw); go_simp; try with_reducible rfl)
                try simp only [Act.put, List.setIfInBounds_toArray, List.set_cons_zero, List.set_cons_succ]
                refine wpAnyH_take (i := 2) (v := ?_) (by simp only [List.getElem?_toArray, List.getElem?_cons_succ, List.getElem?_cons_zero]; exact rfl) (by kernel_rfl) (by kernel_rfl) (by kernel_rfl) (fun _ _ _ h => h) (Or.inl ⟨by rfl, ?_⟩) (by assumption) ?_
                rotate_left 1
                · (intro w hSw; (try dsimp only at hSw); go_simp; try with_reducible rfl)
                try simp only [Act.put, List.setIfInBounds_toArray, List.set_cons_zero, List.set_cons_succ]
                refine wpAnyH_take (i := 3) (v := ?_) (by simp only [List.getElem?_toArray, List.getElem?_cons_succ, List.getElem?_cons_zero]; exact rfl) (by kernel_rfl) (by kernel_rfl) (by kernel_rfl) (fun _ _ _ h => h) (Or.inl ⟨by rfl, ?_⟩) (by assumption) ?_
                rotate_left 1
                · (intro w hSw; (try dsimp only at hSw); go_simp; try with_reducible rfl)
                try simp only [Act.put, List.setIfInBounds_toArray, List.set_cons_zero, List.set_cons_succ]
                refine wpAnyH_take (i := 4) (v := ?_) (by simp only [List.getElem?_toArray, List.getElem?_cons_succ, List.getElem?_cons_zero]; exact rfl) (by kernel_rfl) (by kernel_rfl) (by kernel_rfl) (fun _ _ _ h => h) (Or.inl ⟨by rfl, ?_⟩) (by assumption) ?_
                rotate_left 1
                · (intro w hSw; (try dsimp only at hSw); go_simp; try with_reducible rfl)
                try simp only [Act.put, List.setIfInBounds_toArray, List.set_cons_zero, List.set_cons_succ]
                refine wpAnyH_take (i := 6) (v := ?_) (by simp only [List.getElem?_toArray, List.getElem?_cons_succ, List.getElem?_cons_zero]; exact rfl) (by kernel_rfl) (by kernel_rfl) (by kernel_rfl) (fun _ _ _ h => h) (Or.inl ⟨by rfl, ?_⟩) (by assumption) ?_
                rotate_left 1
                · (intro w hSw; (try dsimp only at hSw); go_simp; try with_reducible rfl)
                try simp only [Act.put, List.setIfInBounds_toArray, List.set_cons_zero, List.set_cons_succ]
                refine wpAnyH_ready (rs := [5]) (by kernel_rfl) (by simp) ?_
                refine (AllReadyH.cons (by simp only [List.getElem?_toArray, List.getElem?_cons_succ, List.getElem?_cons_zero]; exact rfl) (fun K hK => ?_) AllReadyH.nil)
                refine step_appendL y rfl (.tmp 66) (.tmp 70) rfl N _ Lr rfl HO.out qr 256 cr row HRW.out.1 rfl (HSR.out _ HFR.out).2 HRW.out.2 (by have := HLR.out; have := HRW.out.1; have := HDL2.out; (try simp only [List.length_append]); omega) (by have := HNY.out.size; have := HN.out; omega) ?_
                rintro v5 y5 hO5 hg5 ho5
                have HD := Lib.hid (HD.out.keepP (fun c o e hlt => hg5.block c hlt (fun e2 => by injection e with e; injection e with e3 e4; have := HYL.out c e2.symm; omega)))
                have HFR1 := Lib.hid (HFR.out.grown hg5 HOW.out)
                have HF41 := Lib.hid (HF4.out.grown hg5 HO4w.out)
                have HO4w := Lib.hid (own_step HO4w.out HF4.out.1 ho5)
                have HOW := Lib.hid (own_step HOW.out HFR.out.1 ho5)
                have HFR := HFR1
                have HF4 := HF41
                have HNY := Lib.hid (HNY.out.grown hg5 (by have := HNY.out.size; have := HN.out; omega) (fun k hk => (HO.out.lt k hk).1))
                have HO := Lib.hid hO5
                clear hO5 hg5 ho5 HFR1 HF41
                refine hK.out _ _ (HSR.out _ HFR.out).1 (fun hHeld => ?_)
                clear hK K
                try simp only [Act.put, List.setIfInBounds_toArray, List.set_cons_zero, List.set_cons_succ]
                refine wpAnyH_ready (rs := [7]) (by kernel_rfl) (by simp) ?_
                refine (AllReadyH.cons (by simp only [List.getElem?_toArray, List.getElem?_cons_succ, List.getElem?_cons_zero]; exact rfl) (fun K hK => ?_) AllReadyH.nil)
                refine step_appendL y5 rfl (.tmp 71) (.tmp 72) rfl N v5 (Lr ++ row) rfl HO.out (some ⟨w8.heap.size, 0, none⟩) 32 32 d2 HDL2.out rfl HD.out (fun e => by cases e) (by have := HLR.out; have := HRW.out.1; have := HDL2.out; (try simp only [List.length_append]); omega) (by have := HNY.out.size; have := HN.out; omega) ?_
                rintro v7 y7 hO5 hg5 ho5
                have HFR1 := Lib.hid (HFR.out.grown hg5 HOW.out)
                have HF41 := Lib.hid (HF4.out.grown hg5 HO4w.out)
                have HO4w := Lib.hid (own_step HO4w.out HF4.out.1 ho5)
                have HOW := Lib.hid (own_step HOW.out HFR.out.1 ho5)
                have HFR := HFR1
                have HF4 := HF41
                have HNY := Lib.hid (HNY.out.grown hg5 (by have := HNY.out.size; have := HN.out; omega) (fun k hk => (HO.out.lt k hk).1))
                have HO := Lib.hid hO5
                clear hO5 hg5 ho5 HFR1 HF41
                refine hK.out _ _ (HSR.out _ HFR.out).1 (fun hHeld => ?_)
                clear hK K
                try simp only [Act.put, List.setIfInBounds_toArray, List.set_cons_zero, List.set_cons_succ]
                refine wpAnyH_take (i := 8) (v := ?_) (by simp only [List.getElem?_toArray, List.getElem?_cons_succ, List.getElem?_cons_zero]; exact rfl) (by kernel_rfl) (by kernel_rfl) (by kernel_rfl) (fun _ _ _ h => h) (Or.inl ⟨by rfl, ?_⟩) (by assumption) ?_
                rotate_left 1
                · (intro w hSw; (try dsimp only at hSw); go_simp; try with_reducible rfl)
                try simp only [Act.put, List.setIfInBounds_toArray, List.set_cons_zero, List.set_cons_succ]
                refine wpAnyH_done (by kernel_rfl) ?_ _
                refine NoPanic.normal ?_
                clear hHeld
                obtain ⟨p7, c7, rfl, -, -, -⟩ := HO.out.shape
                go_wp2
                go_roundw
                case rel => exact ⟨j + 1, by omega, by go_num, by rw [HEN.out, ← List.append_assoc]; exact HO.out, HNY.out, HFR.out, HOW.out, HF4.out, HO4w.out⟩
                case measure => simp [intOf]; omega
              · have hd0 : decide ((j : Int) < (2 : Int)) = false := decide_eq_false (by omega)
                have hj2' : j = 2 := by omega
                have hfin : Ls ++ (((parB bs).take j).map entL).flatten = dg ++ ((List.range (s + 1)).map (strE l)).flatten := by
                  have h1 : (parB bs).take j = parB bs := by rw [hj2', List.take_of_length_le (by rw [parB_len]; exact Nat.le_refl _)]
                  rw [h1, ← HLS.out.1, flat_snoc, List.append_assoc]
                  unfold strE
                  rw [HBS.out.1]
                have HFI := Lib.hid (hLr.symm.trans hfin)
                have hkm := HKM.out
                have hff := HFF.out
                have hsn' := hsn
                clear hO hBw hFr hOw hF4 hO4 hj2 hLr hfin HSQ
                have HFN := Lib.hid (And.intro hff hsn')
                clear hkm hff hsn'
                go_wp2
                go_roundw
                case rel => exact ⟨s + 1, ff + 4, hsn, by have := HFN.out.1; omega, by go_num, by rw [← HFI.out]; exact HO.out, HNY.out, HF4.out, HO4w.out⟩
                case measure => simp [intOf]; omega
    · have z1 : ¬ (ff : Int) < ((nblk n : Nat) : Int) := by omega
      have z2 : decide ((ff : Int) < ((nblk n : Nat) : Int)) = false := decide_eq_false z1
      have hse : s = nstr n := by
        have h1 := HFF.out
        have h2 := nstr_blk n s
        rcases Nat.lt_or_ge s (nstr n) with h3 | h3
        · have := h2.1 h3; omega
        · omega
      have HFI := Lib.hid (show Ls = mkS l from by rw [← HLS.out.1, hse]; unfold mkS; rw [HDG.out, HLN.out])
      clear hlt hse
      go_wp2
      go_ret
      exact ⟨_, rfl, by rw [HN.out, ← HFI.out]; exact HO.out, by rw [HN.out]; exact HB.out⟩
end Go.Proofs.YtkfceloaomlhmaaDoor
