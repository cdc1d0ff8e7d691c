/- Merged texts: Sam10, Gon10, Ofp10, Bad10, Nmd12, Bdg12. -/
import Derived.Deep.RegionHeld3
import Derived.Test.YtnmopjefjpifoaaGreatDoorKR4
import Derived.Test.YtnmopjefjpifoaaGreatDoorKR8
import Derived.Test.YtnmopjefjpifoaaGreatDoorKR9
import Derived.Test.YtnmopjefjpifoaaGreatDoorKR6
set_option linter.unusedSimpArgs false
set_option linter.unusedVariables false
/- Records compared: the same ones. -/
set_option maxRecDepth 100000
namespace Go.Proofs.YtnmopjefjpifoaaGreatDoor
open Go Go.RowKit

attribute [-go_sem] Sha.exec_store
theorem DgAt.ldq {w : World} {r : Rc} {ds : List By} (h : DgAt w r ds) {c o : Nat} (hq : r.q = some ⟨c, o, none⟩) (i : Nat) (hi : i < ds.length) : (ldT 41 (.pointer (some ⟨c, o + i * 32, none⟩))).run Tryz.prog w = .ok (.value (digV (ds.getD i []))) w := by
  obtain ⟨c2, o2, e, -, hc, hl⟩ := h.at i hi
  rw [hq] at e
  injection e with e
  injection e with e1 e2
  subst e1 e2
  refine ld_dig (fun j hj => ⟨c, o + i * 32, rfl, ?_⟩) hl
  have := hc j (by omega)
  rw [Nat.mul_comm i 32]
  exact this
theorem veq_self10 (f : Nat → Int) : veq f f = true := veq_iff.2 fun _ _ => rfl
attribute [local go_sem ↓] exec_boxA exec_loadA exec_indexA exec_allocA exec_storeA exec_buildA exec_eqlA exec_neqA exec_boxV exec_loadV exec_indexV exec_allocV exec_storeV exec_buildV exec_eqlV exec_neqV
attribute [local go_sem] boxA indexA storeNewA buildA eqlA neqA boxV indexV storeNewV buildV eqlV neqV
attribute [local go_sem ↓] exec_loadS exec_boxS exec_boxP exec_boxM exec_load32 exec_build32 exec_eqlD exec_neqD
attribute [local go_sem] box_stamp boxP boxM bd32 eqlD neqD deq_self veq_self10

/-- Two records with the same fields, their digests wherever. -/
def Rc.mov (r : Rc) (q : Option Addr) (cap : Nat) : Rc := ⟨r.path, r.size, r.time, r.chg, r.ver, r.dead, r.whole, q, r.n, cap⟩
end Go.Proofs.YtnmopjefjpifoaaGreatDoor
/- The record of what is gone; a record in the words of the reference. -/
set_option maxRecDepth 100000
namespace Go.Proofs.YtnmopjefjpifoaaGreatDoor
open Go Go.RowKit

attribute [-go_sem] Sha.exec_store
theorem exec_storeP (r : Operand → Value) (dst : Option Tmp) (p v : Operand) (ty : TypeId) (pos : String) (after : Array Edge) (guard : Option (Nat × Bool)) :
    execOp r ⟨dst, .store 44 p v, ty, pos, after, guard⟩ = stT 44 (r p) (r v) := rfl
theorem exec_storeM (r : Operand → Value) (dst : Option Tmp) (p v : Operand) (ty : TypeId) (pos : String) (after : Array Edge) (guard : Option (Nat × Bool)) :
    execOp r ⟨dst, .store 49 p v, ty, pos, after, guard⟩ = stT 49 (r p) (r v) := rfl
theorem storeNewP (w : World) (N : Nat) (T2 : TypeId) (g : Nat → Value) (r : Rc) (hN : N = w.heap.size) : (stT 44 (.pointer (some ⟨N, 0, none⟩)) (rcV r)).run Tryz.prog (w.alloc (.cells (tab 54 g) T2)) = .ok .skip (w.alloc (.cells (tab 54 (rcF r)) T2)) := storeNewRT rtP w N T2 g r hN
theorem storeNewM (w : World) (N : Nat) (T2 : TypeId) (g : Nat → Value) (r : Rc) (hN : N = w.heap.size) : (stT 49 (.pointer (some ⟨N, 0, none⟩)) (rcV r)).run Tryz.prog (w.alloc (.cells (tab 54 g) T2)) = .ok .skip (w.alloc (.cells (tab 54 (rcF r)) T2)) := storeNewRT rtM w N T2 g r hN
theorem RT.undd {T : TypeId} (hT : RT T) : (∃ fs, Tryz.prog.underlying T = some (.struct fs)) ∨ ∃ n e, Tryz.prog.underlying T = some (.array n e) := by
  have hr := hT.und
  cases hq : Tryz.prog.underlying T with
  | none => rw [hq] at hr; cases hr
  | some d =>
    rw [hq] at hr
    cases d with
    | struct fs => exact .inl ⟨_, rfl⟩
    | array n e => exact .inr ⟨_, _, rfl⟩
    | _ => exact absurd hr (by simp [TypeDesc.isRow])
theorem resR {fn : Func} {p : Tmp} {T : TypeId} (hT : RT T) (h : fn.results = #[.cell p T]) (tmps : Array Value) (w : World) (b : Nat) (T2 : TypeId) (r : Rc) (hp : tmps.getD p undef = .pointer (some ⟨b, 0, none⟩)) (hR : Row w b T2 54 (rcF r)) : (results fn tmps).run Tryz.prog w = .ok (rcV r) w := by
  unfold rcV
  rcases hT.undd with ⟨d, hu⟩ | ⟨d, e, hu⟩
  · exact results_cell_row (P := Tryz.prog) h tmps w b T2 (tab 54 (rcF r)) (0, 0) _ hp hR hu rfl (by rw [hT.size, tab_size])
  · exact results_cell_row (P := Tryz.prog) h tmps w b T2 (tab 54 (rcF r)) (0, 0) _ hp hR hu rfl (by rw [hT.size, tab_size])
attribute [local go_sem ↓] exec_boxA exec_loadA exec_indexA exec_allocA exec_storeA exec_buildA exec_eqlA exec_neqA exec_boxV exec_loadV exec_indexV exec_allocV exec_storeV exec_buildV exec_eqlV exec_neqV
attribute [local go_sem] boxA indexA storeNewA buildA eqlA neqA boxV indexV storeNewV buildV eqlV neqV
attribute [local go_sem ↓] exec_loadS exec_boxS exec_boxP exec_boxM exec_allocP exec_allocM exec_storeP exec_storeM exec_buildP exec_buildM exec_buildS exec_load32 exec_build32 exec_eqlD exec_neqD
attribute [local go_sem] box_stamp boxP boxM storeNewP storeNewM bd32 eqlD neqD bdM0 bdP0 bdS3 bdM8 bdM5 bdP6 bdP5 bdP4

end Go.Proofs.YtnmopjefjpifoaaGreatDoor
/- record.Of. -/
set_option maxRecDepth 100000
namespace Go.Proofs.YtnmopjefjpifoaaGreatDoor
open Go Go.RowKit

attribute [-go_sem] Sha.exec_store
attribute [local go_sem ↓] exec_boxA exec_loadA exec_indexA exec_allocA exec_storeA exec_buildA exec_eqlA exec_neqA exec_boxV exec_loadV exec_indexV exec_allocV exec_storeV exec_buildV exec_eqlV exec_neqV
attribute [local go_sem] boxA indexA storeNewA buildA eqlA neqA boxV indexV storeNewV buildV eqlV neqV
attribute [local go_sem ↓] exec_loadS exec_boxS exec_boxP exec_boxM exec_allocP exec_allocM exec_storeP exec_storeM exec_buildP exec_buildM exec_buildS exec_load32 exec_build32 exec_eqlD exec_neqD
attribute [local go_sem] box_stamp boxP boxM storeNewP storeNewM bd32 eqlD neqD bdM0 bdP0 bdS3 bdM8 bdM5 bdP6 bdP4

theorem bsSl (q : Option Addr) (n cap : Nat) (w : World) : (bsT 73 1 #[(0, .slice q n cap)]).run Tryz.prog w = .ok (.value (.slice (some ⟨w.heap.size, 0, none⟩) 1 1)) (w.alloc (.cells #[.slice q n cap] 53)) := by kernel_rfl
attribute [local go_sem] bsSl
attribute [local go_sem ↓] exec_bs
end Go.Proofs.YtnmopjefjpifoaaGreatDoor
/- A record and its own bytes: has, Bad, Fits. -/
set_option maxRecDepth 100000
namespace Go.Proofs.YtnmopjefjpifoaaGreatDoor
open Go Go.RowKit Go.Shelf

attribute [-go_sem] Sha.exec_store
theorem exec_loadP (r : Operand → Value) (dst : Option Tmp) (p : Operand) (ty : TypeId) (pos : String) (after : Array Edge) (guard : Option (Nat × Bool)) :
    execOp r ⟨dst, .load 44 p, ty, pos, after, guard⟩ = ldT 44 (r p) := rfl
attribute [local go_sem ↓] exec_boxA exec_loadA exec_indexA exec_allocA exec_storeA exec_buildA exec_eqlA exec_neqA exec_boxV exec_loadV exec_indexV exec_allocV exec_storeV exec_buildV exec_eqlV exec_neqV
attribute [local go_sem] boxA indexA storeNewA buildA eqlA neqA boxV indexV storeNewV buildV eqlV neqV
attribute [local go_sem ↓] exec_loadS exec_boxS exec_boxP exec_boxM exec_loadP exec_load32 exec_build32 exec_eqlD exec_neqD exec_bs
attribute [local go_sem] box_stamp boxP boxM bd32 eqlD neqD deq_self bsSl

/-- What the walk of Bad carries. -/
def InvBd (w : World) (N : Nat) (r : Rc) (A : World) : Prop := A.cell? ⟨N + 1, 0, none⟩ = some (.slice none 0 0) ∧ Row A N 44 54 (rcF r) ∧ Below w.heap.size w A ∧ N + 3 ≤ A.heap.size
theorem InvBd.of_below {w : World} {N : Nat} {r : Rc} {A A' : World} (h : InvBd w N r A) (hB : Below A.heap.size A A') : InvBd w N r A' :=
  ⟨by rw [hB.cell (by exact World.block_lt_of_cell? A _ h.1)]; exact h.1, h.2.1.of_below hB, h.2.2.1.trans (hB.mono h.2.2.1.size), Nat.le_trans h.2.2.2 hB.size⟩
theorem InvBd.put {w : World} {N k : Nat} {r : Rc} {A : World} {o : Obj} (h : InvBd w N r A) (hw : w.heap.size = N) (hk : N + 3 ≤ k) (hlt : k < A.heap.size) : InvBd w N r (A.putObj k o) := by
  have hB := below_putP (N := N + 3) (A := A) o hk hlt
  refine ⟨by rw [hB.cell (by show N + 1 < _; omega)]; exact h.1, ?_, h.2.2.1.trans (hB.mono (by omega)), Nat.le_trans h.2.2.2 hB.size⟩
  have := h.2.1
  unfold Row at this ⊢
  rw [hB.block N (by omega)]; exact this
theorem InvBd.bears (w : World) (N : Nat) (r : Rc) (hw : w.heap.size = N) : BearsP (N + 3) (fun (_ : List Nat) A => InvBd w N r A) :=
  ⟨fun pre A o h => h.of_below (below_newD _ _), fun pre A o hlt h => h.put hw (by omega) hlt, fun pre A k h => h.of_below ((show Dr A (A.drewN k) from ⟨k, rfl⟩).below _)⟩
section
attribute [local go_sem] Oper.semAt_some
theorem loadP_at {w : World} {b : Nat} {r : Rc} (h : Row w b 44 54 (rcF r)) : (ldT 44 (.pointer (some ⟨b, 0, none⟩))).run Tryz.prog w = .ok (.value (rcV r)) w := loadRT rtP h
end
end Go.Proofs.YtnmopjefjpifoaaGreatDoor
/- sidecar.newMender. -/
set_option maxRecDepth 100000
namespace Go.Proofs.YtnmopjefjpifoaaGreatDoor
open Go Go.RowKit

attribute [-go_sem] Sha.exec_store
attribute [local go_sem ↓] exec_boxP exec_loadP exec_buildMd exec_boxMd exec_load32 exec_make exec_store
attribute [local go_sem] boxP bdMd bxMd mkB
theorem st_HBl (a : Addr) (q : Option Addr) (n c : Nat) (w : World) (hcell : (w.cell? a).isSome = true) (hf : w.frozen? a = false) : (stT 85 (.pointer (some a)) (.slice q n c)).run Tryz.prog w = .ok .skip (w.setCell a (.slice q n c)) :=
  stT_one 85 a _ w rfl rfl (by kernel_rfl) hcell hf
/-- The bytes that a mender begins with. -/
def szF (l : List (BitVec 8)) (j : Nat) : BitVec 8 := l.getD j 0#8
set_option maxRecDepth 100000 in
set_option maxHeartbeats 16000000 in
theorem newMender12_any (p : S8) (s t c : Int) (f : Nat → Int) (d : Bool) (wh : List (BitVec 8)) (q : Option Addr) (n cap : Nat) (ds : List (List (BitVec 8))) (lb sd : List (BitVec 8)) (qb : Option Addr) (nb cb : Nat) (q2 : Option Addr) (n2 cap2 : Nat) (w : World)
    (hD : DgAt w ⟨p, s, t, c, f, d, wh, q, n, cap⟩ ds) (hs0 : 0 ≤ s) (hs1 : s ≤ 16384) (hlb : lb.length = nb) (hsb : Sl w qb lb) (hnb : nb < 1000000) (hl2 : sd.length = n2) (hsd : Sl w q2 sd) (hq2 : q2 = none → cap2 = 0) (hc2 : n2 ≤ cap2) (hn2 : n2 < 1000000) (hd : ds.length < 1000000) (hT : Tb w) :
    Calls Tryz.prog 84 #[rcV ⟨p, s, t, c, f, d, wh, q, n, cap⟩, .slice qb nb cb, .slice q2 n2 cap2] w (fun e w' => ∃ b C G, e = .returned (.pointer (some ⟨b, 0, none⟩)) ∧ MenIn w w' b ⟨p, s, t, c, f, d, wh, q, n, cap⟩ ds C s.toNat q2 n2 cap2 G (2 * nstr s.toNat) sd (stB sd (nstr s.toNat) wh) (szF lb)) := by
  obtain ⟨sz, rfl⟩ : ∃ z : Nat, s = (z : Int) := ⟨s.toNat, by omega⟩
  rw [show ((sz : Int)).toNat = sz from Int.toNat_natCast sz]
  have hwl : wh.length = 32 := hD.whole
  have HD := Lib.hid hD
  have HSB := Lib.hid hsb
  have HSD := Lib.hid hsd
  have HT := Lib.hid hT
  have HL := Lib.hid (And.intro hlb (And.intro hl2 (And.intro hwl hq2)))
  clear hD hsb hsd hT hlb hl2 hwl hq2
  obtain ⟨W1, hW1⟩ : ∃ W, w.alloc (.cells (tab 54 (rcF ⟨p, (sz : Int), t, c, f, d, wh, q, n, cap⟩)) 44) = W := ⟨_, rfl⟩
  have hb1 : Below w.heap.size w W1 := by rw [← hW1]; exact below_newR _ _
  have hr1 : Row W1 w.heap.size 44 54 (rcF ⟨p, (sz : Int), t, c, f, d, wh, q, n, cap⟩) := by rw [← hW1]; exact Row.new _ _ _ _
  have x1 := boxRT rtP w ⟨p, (sz : Int), t, c, f, d, wh, q, n, cap⟩
  rw [hW1] at x1
  have x2 := loadRT rtP hr1
  obtain ⟨W2, hW2⟩ : ∃ W, W1.alloc (.cells (tab 57 (mdF ⟨p, (sz : Int), t, c, f, d, wh, q, n, cap⟩ (.slice none 0 0) (.slice q2 n2 cap2) (.slice none 0 0))) 166) = W := ⟨_, rfl⟩
  have hb2 : Below W1.heap.size W1 W2 := by rw [← hW2]; exact below_newR _ _
  obtain ⟨bm, hbm⟩ : ∃ b, W1.heap.size = b := ⟨_, rfl⟩
  have hr2 : Mdr W2 bm ⟨p, (sz : Int), t, c, f, d, wh, q, n, cap⟩ (.slice none 0 0) (.slice q2 n2 cap2) (.slice none 0 0) := by rw [← hW2, ← hbm]; exact Row.new _ _ _ _
  have x3 := bxMd p (sz : Int) t c f d wh q n cap q2 n2 cap2 W1
  rw [hW2, hbm] at x3
  have x4 := bdMd p (sz : Int) t c f d wh q n cap (.slice none 0 0) q2 n2 cap2 W1
  obtain ⟨W3, hW3⟩ : ∃ W, W2.alloc (.cells (zb sz) 5) = W := ⟨_, rfl⟩
  obtain ⟨C, hC⟩ : ∃ g, W2.heap.size = g := ⟨_, rfl⟩
  have mk := mkB sz W2 (by omega)
  rw [hW3, hC] at mk
  have hb3 : Below W2.heap.size W2 W3 := by rw [← hW3]; exact below_newR _ _
  have hrC : Row W3 C 5 sz (fun _ => B 0#8) := by rw [← hW3, ← hC]; exact Row.new _ _ _ _
  have hr3 := hr2.of_below hb3
  have hcs : W2.cell? ⟨bm, 1, none⟩ = some (.int .i64 (sz : Int)) := hr2.size
  have h54 := hr3.content
  have h54s : (W3.cell? ⟨bm, 54, none⟩).isSome = true := by rw [h54]; rfl
  have h54f : W3.frozen? ⟨bm, 54, none⟩ = false := Row.free hr3 54
  have hbC : bm < C := by rw [← hC]; exact hr2.lt
  have hwb : w.heap.size ≤ bm := by rw [← hbm]; exact hb1.size
  obtain ⟨W4, hW4⟩ : ∃ W, W3.setCell ⟨bm, 54, none⟩ (.slice (some ⟨C, 0, none⟩) sz sz) = W := ⟨_, rfl⟩
  have st4 := st_H ⟨bm, 54, none⟩ (some ⟨C, 0, none⟩) sz sz W3 h54s h54f
  rw [hW4] at st4
  have hr4 : Mdr W4 bm ⟨p, (sz : Int), t, c, f, d, wh, q, n, cap⟩ (.slice (some ⟨C, 0, none⟩) sz sz) (.slice q2 n2 cap2) (.slice none 0 0) := by rw [← hW4]; exact hr3.setC _
  have h54' := hr4.content
  have hB4 : Below w.heap.size w W4 := by rw [← hW4]; exact ((hb1.trans (hb2.mono hb1.size)).trans (hb3.mono (Nat.le_trans hb1.size hb2.size))).setCell (show w.heap.size ≤ (⟨bm, 54, none⟩ : Addr).block from hwb) _
  have hrC4 : Row W4 C 5 sz (fun _ => B 0#8) := by rw [← hW4]; exact hrC.of_block (Below.heap_setCell _ _ _ _ (show C ≠ bm by omega))
  have HR4 := Lib.hid hr4
  have HRC4 := Lib.hid hrC4
  have HB4 := Lib.hid hB4
  have HSB4 := Lib.hid (HSB.out.of_below hB4)
  clear hr4 hB4 hrC4 hW4 h54s h54f
  have HB3 := Lib.hid ((hb1.trans (hb2.mono hb1.size)).trans (hb3.mono (Nat.le_trans hb1.size hb2.size)))
  have HR3 := Lib.hid hr3
  have HRC := Lib.hid hrC
  have HBC := Lib.hid (And.intro hbC hwb)
  have hsz : sz < 100000 := by omega
  have HNZ := Lib.hid (show -9223372036854775808 ≤ (sz : Int) ∧ (sz : Int) ≤ 100000 from by omega)
  clear hr1 hb1 hb2 hb3 hr2 hr3 hrC hW1 hW2 hW3 hC hbm h54 hbC hwb
  go_enter Tryz.func84, Tryz.ntmps84
  go_wp2_with (first | (refine wpl_copyM _ rfl (.tmp 25) (.tmp 26) rfl C sz sz (fun _ => B 0#8) qb nb cb lb rfl rfl HRC4.out HL.out.1 HSB4.out (min sz nb) rfl ?_; rintro w5 hR5 hK5; have HR5 := Lib.hid hR5; have HB5 := Lib.hid (HB4.out.trans (hK5.below (Nat.le_trans HBC.out.2 (Nat.le_of_lt HBC.out.1)) HB4.out.size)); have HM5 := Lib.hid (show Mdr w5 bm ⟨p, (sz : Int), t, c, f, d, wh, q, n, cap⟩ (.slice (some ⟨C, 0, none⟩) sz sz) (.slice q2 n2 cap2) (.slice none 0 0) from Row.of_kp HR4.out hK5 (by have := HBC.out.1; omega)); clear hR5 hK5))
  have HSM := Lib.hid (show ∀ (u : World) (cv sv iv : Value), Mdr u bm ⟨p, (sz : Int), t, c, f, d, wh, q, n, cap⟩ cv sv iv → u.cell? ⟨bm, 1, none⟩ = some (.int .i64 (sz : Int)) ∧ (ldT 41 (.pointer (some ⟨bm, 21, none⟩))).run Tryz.prog u = .ok (.value (digV wh)) u from fun u cv sv iv h => ⟨h.size, ld_dig (h.whole HL.out.2.2.1) HL.out.2.2.1⟩)
  have HX0 := Lib.hid (show Below w5.heap.size w5 w5.drew from (Below.refl _ _).drew)
  have HZ := Lib.hid (And.intro hn2 (And.intro hc2 hd))
  refine wp_region_noPanic ?_
  refine wp_region_held_drew (S := (fun u : World => u.cell? ⟨bm, 1, none⟩ = some (.int .i64 (sz : Int)) ∧ (ldT 41 (.pointer (some ⟨bm, 21, none⟩))).run Tryz.prog u = .ok (.value (digV wh)) u)) (by kernel_rfl) (HSM.out _ _ _ _ (HM5.out.of_below HX0.out)) (fun hHeld => ?_)
  generalize w5.drew = x at hHeld HX0 ⊢
  refine wpAnyH_take (i := 0) (v := ?_) (by simp only [List.getElem?_toArray, List.getElem?_cons_succ, List.getElem?_cons_zero]; exact rfl) (by kernel_rfl) (by kernel_rfl) (by kernel_rfl) (fun _ _ _ h => h) (Or.inl ⟨by rfl, ?_⟩) (by assumption) ?_
  rotate_left 1
  · (intro w hSw; (try dsimp only at hSw); go_simp; try with_reducible rfl)
  try simp only [Act.put, List.setIfInBounds_toArray, List.set_cons_zero, List.set_cons_succ]
  refine wpAnyH_take (i := 1) (v := ?_) (by simp only [List.getElem?_toArray, List.getElem?_cons_succ, List.getElem?_cons_zero]; exact rfl) (by kernel_rfl) (by kernel_rfl) (by kernel_rfl) (fun _ _ _ h => h) (Or.inl ⟨by rfl, ?_⟩) (by assumption) ?_
  rotate_left 1
  · (intro w hSw; (try dsimp only at hSw); go_simp; try with_reducible rfl)
  try simp only [Act.put, List.setIfInBounds_toArray, List.set_cons_zero, List.set_cons_succ]
  refine wpAnyH_take (i := 2) (v := ?_) (by simp only [List.getElem?_toArray, List.getElem?_cons_succ, List.getElem?_cons_zero]; exact rfl) (by kernel_rfl) (by kernel_rfl) (by kernel_rfl) (fun _ _ _ h => h) (Or.inl ⟨by rfl, ?_⟩) (by assumption) ?_
  rotate_left 1
  · (intro w hSw; (try dsimp only at hSw); go_simp; try with_reducible rfl)
  try simp only [Act.put, List.setIfInBounds_toArray, List.set_cons_zero, List.set_cons_succ]
  refine wpAnyH_take (i := 3) (v := ?_) (by simp only [List.getElem?_toArray, List.getElem?_cons_succ, List.getElem?_cons_zero]; exact rfl) (by kernel_rfl) (by kernel_rfl) (by kernel_rfl) (fun _ _ _ h => h) (Or.inl ⟨by rfl, ?_⟩) (by assumption) ?_
  rotate_left 1
  · (intro w hSw; (try dsimp only at hSw); go_simp; try with_reducible rfl)
  try simp only [Act.put, List.setIfInBounds_toArray, List.set_cons_zero, List.set_cons_succ]
  refine wpAnyH_take (i := 4) (v := ?_) (by simp only [List.getElem?_toArray, List.getElem?_cons_succ, List.getElem?_cons_zero]; exact rfl) (by kernel_rfl) (by kernel_rfl) (by kernel_rfl) (fun _ _ _ h => h) (Or.inl ⟨by rfl, ?_⟩) (by assumption) ?_
  rotate_left 1
  · (intro w hSw; (try dsimp only at hSw); go_simp; try with_reducible rfl)
  try simp only [Act.put, List.setIfInBounds_toArray, List.set_cons_zero, List.set_cons_succ]
  refine wpAnyH_take (i := 5) (v := ?_) (by simp only [List.getElem?_toArray, List.getElem?_cons_succ, List.getElem?_cons_zero]; exact rfl) (by kernel_rfl) (by kernel_rfl) (by kernel_rfl) (fun _ _ _ h => h) (Or.inl ⟨by rfl, ?_⟩) (by assumption) ?_
  rotate_left 1
  · (intro w hSw; (try dsimp only at hSw); go_simp; try with_reducible rfl)
  try simp only [Act.put, List.setIfInBounds_toArray, List.set_cons_zero, List.set_cons_succ]
  refine wpAnyH_take (i := 6) (v := ?_) (by simp only [List.getElem?_toArray, List.getElem?_cons_succ, List.getElem?_cons_zero]; exact rfl) (by kernel_rfl) (by kernel_rfl) (by kernel_rfl) (fun _ _ _ h => h) (Or.inl ⟨by rfl, ?_⟩) (by assumption) ?_
  rotate_left 1
  · (intro w hSw; (try dsimp only at hSw); go_simp; try with_reducible rfl)
  try simp only [Act.put, List.setIfInBounds_toArray, List.set_cons_zero, List.set_cons_succ]
  refine wpAnyH_take (i := 7) (v := ?_) (by simp only [List.getElem?_toArray, List.getElem?_cons_succ, List.getElem?_cons_zero]; exact rfl) (by kernel_rfl) (by kernel_rfl) (by kernel_rfl) (fun _ _ _ h => h) (Or.inl ⟨by rfl, ?_⟩) (by assumption) ?_
  rotate_left 1
  · (intro w hSw; (try dsimp only at hSw); go_simp; try with_reducible rfl)
  try simp only [Act.put, List.setIfInBounds_toArray, List.set_cons_zero, List.set_cons_succ]
  refine wpAnyH_take (i := 8) (v := ?_) (by simp only [List.getElem?_toArray, List.getElem?_cons_succ, List.getElem?_cons_zero]; exact rfl) (by kernel_rfl) (by kernel_rfl) (by kernel_rfl) (fun _ _ _ h => h) (Or.inl ⟨by rfl, ?_⟩) (by assumption) ?_
  rotate_left 1
  · (intro w hSw; (try dsimp only at hSw); go_simp; try with_reducible rfl)
  try simp only [Act.put, List.setIfInBounds_toArray, List.set_cons_zero, List.set_cons_succ]
  refine wpAnyH_take (i := 9) (v := ?_) (by simp only [List.getElem?_toArray, List.getElem?_cons_succ, List.getElem?_cons_zero]; exact rfl) (by kernel_rfl) (by kernel_rfl) (by kernel_rfl) (fun _ _ _ h => h) (Or.inl ⟨by rfl, ?_⟩) (by assumption) ?_
  rotate_left 1
  · (intro w hSw; (try dsimp only at hSw); go_simp; try with_reducible rfl)
  try simp only [Act.put, List.setIfInBounds_toArray, List.set_cons_zero, List.set_cons_succ]
  refine wpAnyH_take (i := 10) (v := ?_) (by simp only [List.getElem?_toArray, List.getElem?_cons_succ, List.getElem?_cons_zero]; exact rfl) (by kernel_rfl) (by kernel_rfl) (by kernel_rfl) (fun _ _ _ h => h) (Or.inl ⟨by rfl, ?_⟩) (by assumption) ?_
  rotate_left 1
  · (intro w hSw; (try dsimp only at hSw); go_simp; try with_reducible rfl)
  try simp only [Act.put, List.setIfInBounds_toArray, List.set_cons_zero, List.set_cons_succ]
  refine wpAnyH_take (i := 11) (v := ?_) (by simp only [List.getElem?_toArray, List.getElem?_cons_succ, List.getElem?_cons_zero]; exact rfl) (by kernel_rfl) (by kernel_rfl) (by kernel_rfl) (fun _ _ _ h => h) (Or.inl ⟨by rfl, ?_⟩) (by assumption) ?_
  rotate_left 1
  · (intro w hSw; (try dsimp only at hSw); go_simp; try with_reducible rfl)
  try simp only [Act.put, List.setIfInBounds_toArray, List.set_cons_zero, List.set_cons_succ]
  refine wpAnyH_take (i := 12) (v := ?_) (by simp only [List.getElem?_toArray, List.getElem?_cons_succ, List.getElem?_cons_zero]; exact rfl) (by kernel_rfl) (by kernel_rfl) (by kernel_rfl) (fun _ _ _ h => h) (Or.inl ⟨by rfl, ?_⟩) (by assumption) ?_
  rotate_left 1
  · (intro w hSw; (try dsimp only at hSw); go_simp; try with_reducible rfl)
  try simp only [Act.put, List.setIfInBounds_toArray, List.set_cons_zero, List.set_cons_succ]
  refine wpAnyH_ready (rs := [13]) (by kernel_rfl) (by simp) ?_
  refine (AllReadyH.cons (by simp only [List.getElem?_toArray, List.getElem?_cons_succ, List.getElem?_cons_zero]; exact rfl) (fun K hK => ?_) AllReadyH.nil)
  go_simp
  have hBx := HB5.out.trans (HX0.out.mono HB5.out.size)
  have HST := stands12_any sd q2 n2 cap2 (sz : Int) wh x HL.out.2.1 (HSD.out.of_below hBx) HL.out.2.2.2 HZ.out.2.1 HZ.out.1 HNZ.out.1 HNZ.out.2 HL.out.2.2.1 (HT.out.on hBx)
  rw [show ((sz : Int)).toNat = sz from Int.toNat_natCast sz] at HST
  obtain ⟨ni, hni⟩ : ∃ y, 2 * nstr sz = y := ⟨_, rfl⟩
  rw [hni] at HST
  have HNI := Lib.hid hni
  clear hni hBx
  refine HST.mono ?_
  rintro e x2 ⟨G, rfl, hG1, hG2, hGR, hB⟩
  have HX := Lib.hid (HX0.out.trans (hB.mono HX0.out.size))
  have HGR := Lib.hid hGR
  have HG1 := Lib.hid (Nat.le_trans HX0.out.size hG1)
  have hm2 := HM5.out.of_below HX.out
  have HM2 := Lib.hid hm2
  have hc56 : (x2.cell? ⟨bm, 56, none⟩).isSome = true := by rw [hm2.intact]; rfl
  have st6 := st_HBl ⟨bm, 56, none⟩ (some ⟨G, 0, none⟩) ni ni x2 hc56 (Row.free hm2 56)
  obtain ⟨x3, hx3⟩ : ∃ y, x2.setCell ⟨bm, 56, none⟩ (.slice (some ⟨G, 0, none⟩) ni ni) = y := ⟨_, rfl⟩
  rw [hx3] at st6
  have HX3 := Lib.hid hx3
  clear hG1 hG2 hGR hB hm2 hc56 HST hx3
  go_wp2_with fail
  refine hK.out _ _ (HSM.out _ _ _ _ HM2.out) (fun hHeld => ?_)
  clear hK K
  try simp only [Act.put, List.setIfInBounds_toArray, List.set_cons_zero, List.set_cons_succ]
  refine wpAnyH_take (i := 14) (v := ?_) (by simp only [List.getElem?_toArray, List.getElem?_cons_succ, List.getElem?_cons_zero]; exact rfl) (by kernel_rfl) (by kernel_rfl) (by kernel_rfl) (fun _ _ _ h => h) (Or.inl ⟨by rfl, ?_⟩) (by assumption) ?_
  rotate_left 1
  · (intro w hSw; (try dsimp only at hSw); go_simp; try with_reducible rfl)
  try simp only [Act.put, List.setIfInBounds_toArray, List.set_cons_zero, List.set_cons_succ]
  refine wpAnyH_take (i := 15) (v := ?_) (by simp only [List.getElem?_toArray, List.getElem?_cons_succ, List.getElem?_cons_zero]; exact rfl) (by kernel_rfl) (by kernel_rfl) (by kernel_rfl) (fun _ _ _ h => h) (Or.inl ⟨by rfl, ?_⟩) (by assumption) ?_
  rotate_left 1
  · (intro w hSw; (try dsimp only at hSw); go_simp; try with_reducible rfl)
  try simp only [Act.put, List.setIfInBounds_toArray, List.set_cons_zero, List.set_cons_succ]
  refine wpAnyH_ready (rs := [16]) (by kernel_rfl) (by simp) ?_
  refine (AllReadyH.cons (by simp only [List.getElem?_toArray, List.getElem?_cons_succ, List.getElem?_cons_zero]; exact rfl) (fun K hK => ?_) AllReadyH.nil)
  go_simp
  have HM3 := Lib.hid (show Mdr x3 bm ⟨p, (sz : Int), t, c, f, d, wh, q, n, cap⟩ (.slice (some ⟨C, 0, none⟩) sz sz) (.slice q2 n2 cap2) (.slice (some ⟨G, 0, none⟩) ni ni) from by rw [← HX3.out]; exact HM2.out.setI _)
  refine hK.out _ _ (HSM.out _ _ _ _ HM3.out) (fun hHeld => ?_)
  clear hK K
  try simp only [Act.put, List.setIfInBounds_toArray, List.set_cons_zero, List.set_cons_succ]
  refine wpAnyH_done (by kernel_rfl) ?_ _
  refine NoPanic.normal ?_
  clear hHeld
  have HOK := Lib.hid (show ∀ j, j < 2 * nstr sz → stB sd (nstr sz) wh j = true → 288 * j + 320 ≤ n2 from fun j hj h => by
    unfold stB at h
    rcases ho : okSd sd (nstr sz) wh with _ | _
    · rw [ho] at h; simp at h
    · unfold okSd at ho
      have h1 := (decide_eq_true_iff.1 ho).1
      have := HL.out.2.1
      omega)
  go_wp2
  go_ret
  have hl5 : w5.heap.size ≤ G := HG1.out
  have hc5 : C < w5.heap.size := HR5.out.lt
  have hbc := HBC.out
  exact ⟨bm, C, G, rfl, { tb := HT.out, dg := HD.out, sdl := HSD.out, bel := by rw [← HX3.out]; exact (HB5.out.trans (HX.out.mono HB5.out.size)).setCell (show w.heap.size ≤ (⟨bm, 56, none⟩ : Addr).block from hbc.2) _, hC := by omega, hb := hbc.2, mdr := by have h := HM3.out; rw [← HNI.out] at h; exact h, flg := by rw [← HX3.out, HNI.out]; exact HGR.out.of_block (Below.heap_setCell _ _ _ _ (show G ≠ bm by omega)), row := by rw [← HX3.out]; exact ((HR5.out.of_below HX.out).of_block (Below.heap_setCell _ _ _ _ (show C ≠ bm by omega))).congr (fun j hj => by
    unfold copied1 szF
    by_cases h : j < min sz nb
    · rw [if_pos h]
    · rw [if_neg h, List.getD_eq_getElem?_getD, List.getElem?_eq_none (by have := HL.out.1; omega)]; rfl), nb := by omega, nG := by omega, few := HZ.out.2.2, ni2 := by unfold nstr; omega, len := HL.out.2.1, cap := HZ.out.2.1, few2 := HZ.out.1, ok := HOK.out, sz2 := by omega }⟩
end Go.Proofs.YtnmopjefjpifoaaGreatDoor
/- A record and any bytes of its size: has, Bad. -/
set_option maxRecDepth 100000
namespace Go.Proofs.YtnmopjefjpifoaaGreatDoor
open Go Go.RowKit Go.Shelf

attribute [-go_sem] Sha.exec_store
attribute [local go_sem ↓] exec_boxA exec_loadA exec_indexA exec_allocA exec_storeA exec_buildA exec_eqlA exec_neqA exec_boxV exec_loadV exec_indexV exec_allocV exec_storeV exec_buildV exec_eqlV exec_neqV
attribute [local go_sem] boxA indexA storeNewA buildA eqlA neqA boxV indexV storeNewV buildV eqlV neqV
attribute [local go_sem ↓] exec_loadS exec_boxS exec_boxP exec_boxM exec_loadP exec_load32 exec_build32 exec_eqlD exec_neqD exec_bs
attribute [local go_sem] box_stamp boxP boxM bd32 eqlD neqD deq_self bsSl

set_option maxRecDepth 100000 in
set_option maxHeartbeats 4000000 in
/-- Is a block as the record says? -/
theorem hasG12 (r : Rc) (ds : List By) (blk : By) (i : Nat) (q : Option Addr) (m c : Nat) (w : World) (h : DgAt w r ds) (hi : i < ds.length) (hm : blk.length = m) (hs : Sl w q blk) (hsz : (256 * i + m : Nat) ≤ r.size) (hi2 : i < 100000) (hm2 : m ≤ 256) (hT : Tb w) :
    Calls Tryz.prog 155 #[rcV r, .int .i64 (i : Int), .slice q m c] w fun e w' => e = .returned (.bool (deq (digL blk) (ds.getD i []))) ∧ Below w.heap.size w w' := by
  obtain ⟨W, hW⟩ : ∃ W, w.alloc (.cells (tab 54 (rcF r)) 44) = W := ⟨_, rfl⟩
  have hB1 : Below w.heap.size w W := by rw [← hW]; exact below_newD _ _
  have hR : Row W w.heap.size 44 54 (rcF r) := by rw [← hW]; exact Row.new w _ 54 _
  have HB := Lib.hid hB1
  have H := Lib.hid (h.of_below hB1)
  obtain ⟨V, hV⟩ : ∃ V, rcV r = V := ⟨_, rfl⟩
  have x1 : (bxT 44 V).run Tryz.prog w = .ok (.value (.pointer (some ⟨w.heap.size, 0, none⟩))) W := by rw [← hV, ← hW]; exact boxP w r
  rw [hV]
  obtain ⟨c1, o1, e1, -⟩ := h.at i hi
  obtain ⟨dg, hdg⟩ : ∃ dg, ds.getD i [] = dg := ⟨_, rfl⟩
  obtain ⟨db, hdb⟩ : ∃ dg, digL blk = dg := ⟨_, rfl⟩
  have HS := Lib.hid (fun (u : World) (hu : Below W.heap.size W u) => (show _ ∧ _ ∧ _ ∧ _ from ⟨rc_blocks (hR.of_below hu), rc_size (hR.of_below hu), (H.out.of_below hu).ldq e1 i hi, hu⟩))
  have HSM := Lib.hid (fun (b : Nat) (u : World) (hu : Below W.heap.size W u) (hc4 : u.cell? ⟨b, 0, none⟩ = some (.slice q m c)) => sum1_any blk b 0 q m c u hm hc4 (hs.of_below (hB1.trans (hu.mono hB1.size))) (hT.on (hB1.trans (hu.mono hB1.size))) (by omega))
  rw [hdb] at HSM
  rw [hdg] at HS
  rw [hdb, hdg]
  rw [e1] at HS
  have hn := h.n
  have hle := h.le
  obtain ⟨p, s, t, ch, f, d, wh, q1, n, cap⟩ := r
  dsimp only at *
  have hin : i < n := by omega
  have z1 : (i : Int) < (n : Int) := by omega
  have z2 : decide ((i : Int) < (n : Int)) = true := decide_eq_true z1
  have w2 : IntKind.i64.wrap ((i : Int) * 256) = (i : Int) * 256 := by rw [IntKind.wrap_i64]; omega
  have w3 : IntKind.i64.wrap ((i : Int) * 256 + (m : Int)) = (i : Int) * 256 + (m : Int) := by rw [IntKind.wrap_i64]; omega
  have z3 : (i : Int) * 256 + (m : Int) ≤ s := by omega
  have z4 : decide ((i : Int) * 256 + (m : Int) ≤ s) = true := decide_eq_true z3
  clear hW hV hB1 hR h hn hm hs hdb hsz hT e1 hdg hi
  go_enter Tryz.func155, Tryz.ntmps155
  go_wp2
  refine wp_region_noPanic ?_
  refine wp_region_held_drew (S := (fun u : World => u.cell? ⟨w.heap.size, 53, none⟩ = some (.slice (some ⟨c1, o1, none⟩) n cap) ∧ u.cell? ⟨w.heap.size, 1, none⟩ = some (.int .i64 s) ∧ (ldT 41 (.pointer (some ⟨c1, o1 + i * 32, none⟩))).run Tryz.prog u = .ok (.value (digV dg)) u ∧ Below W.heap.size W u)) (by kernel_rfl) (HS.out W.drew (Below.refl _ _).drew) (fun hHeld => ?_)
  generalize W.drew = x at hHeld ⊢
  refine wpAnyH_take (i := 0) (v := ?_) (by simp only [List.getElem?_toArray, List.getElem?_cons_succ, List.getElem?_cons_zero]; exact rfl) (by kernel_rfl) (by kernel_rfl) (by kernel_rfl) (fun _ _ _ h => h) (Or.inl ⟨by rfl, ?_⟩) (by assumption) ?_
  rotate_left 1
  · (intro w hSw; (try dsimp only at hSw); go_simp; try with_reducible rfl)
  try simp only [Act.put, List.setIfInBounds_toArray, List.set_cons_zero, List.set_cons_succ]
  refine wpAnyH_take (i := 1) (v := ?_) (by simp only [List.getElem?_toArray, List.getElem?_cons_succ, List.getElem?_cons_zero]; exact rfl) (by kernel_rfl) (by kernel_rfl) (by kernel_rfl) (fun _ _ _ h => h) (Or.inl ⟨by rfl, ?_⟩) (by assumption) ?_
  rotate_left 1
  · (intro w hSw; (try dsimp only at hSw); go_simp; try with_reducible rfl)
  try simp only [Act.put, List.setIfInBounds_toArray, List.set_cons_zero, List.set_cons_succ]
  refine wpAnyH_take (i := 2) (v := ?_) (by simp only [List.getElem?_toArray, List.getElem?_cons_succ, List.getElem?_cons_zero]; exact rfl) (by kernel_rfl) (by kernel_rfl) (by kernel_rfl) (fun _ _ _ h => h) (Or.inl ⟨by rfl, ?_⟩) (by assumption) ?_
  rotate_left 1
  · (intro w hSw; (try dsimp only at hSw); go_simp; try with_reducible rfl)
  try simp only [Act.put, List.setIfInBounds_toArray, List.set_cons_zero, List.set_cons_succ]
  refine wpAnyH_take (i := 3) (v := ?_) (by simp only [List.getElem?_toArray, List.getElem?_cons_succ, List.getElem?_cons_zero]; exact rfl) (by kernel_rfl) (by kernel_rfl) (by kernel_rfl) (fun _ _ _ h => h) (Or.inl ⟨by rfl, ?_⟩) (by assumption) ?_
  rotate_left 1
  · (intro w hSw; (try dsimp only at hSw); go_simp; try with_reducible rfl)
  try simp only [Act.put, List.setIfInBounds_toArray, List.set_cons_zero, List.set_cons_succ]
  refine wpAnyH_take (i := 4) (v := ?_) (by simp only [List.getElem?_toArray, List.getElem?_cons_succ, List.getElem?_cons_zero]; exact rfl) (by kernel_rfl) (by kernel_rfl) (by kernel_rfl) (fun _ _ _ h => h) (Or.inl ⟨by rfl, ?_⟩) (by assumption) ?_
  rotate_left 1
  · (intro w hSw; (try dsimp only at hSw); go_simp; try with_reducible rfl)
  try simp only [Act.put, List.setIfInBounds_toArray, List.set_cons_zero, List.set_cons_succ]
  refine wpAnyH_take (i := 5) (v := ?_) (by simp only [List.getElem?_toArray, List.getElem?_cons_succ, List.getElem?_cons_zero]; exact rfl) (by kernel_rfl) (by kernel_rfl) (by kernel_rfl) (fun _ _ _ h => h) (Or.inl ⟨by rfl, ?_⟩) (by assumption) ?_
  rotate_left 1
  · (intro w hSw; (try dsimp only at hSw); go_simp; try with_reducible rfl)
  try simp only [Act.put, List.setIfInBounds_toArray, List.set_cons_zero, List.set_cons_succ]
  refine wpAnyH_take (i := 6) (v := ?_) (by simp only [List.getElem?_toArray, List.getElem?_cons_succ, List.getElem?_cons_zero]; exact rfl) (by kernel_rfl) (by kernel_rfl) (by kernel_rfl) (fun _ _ _ h => h) (Or.inl ⟨by rfl, ?_⟩) (by assumption) ?_
  rotate_left 1
  · (intro w hSw; (try dsimp only at hSw); go_simp; try with_reducible rfl)
  try simp only [Act.put, List.setIfInBounds_toArray, List.set_cons_zero, List.set_cons_succ]
  refine wpAnyH_take (i := 7) (v := ?_) (by simp only [List.getElem?_toArray, List.getElem?_cons_succ, List.getElem?_cons_zero]; exact rfl) (by kernel_rfl) (by kernel_rfl) (by kernel_rfl) (fun _ _ _ h => h) (Or.inl ⟨by rfl, ?_⟩) (by assumption) ?_
  rotate_left 1
  · (intro w hSw; (try dsimp only at hSw); go_simp; try with_reducible rfl)
  try simp only [Act.put, List.setIfInBounds_toArray, List.set_cons_zero, List.set_cons_succ]
  refine wpAnyH_take (i := 8) (v := ?_) (by simp only [List.getElem?_toArray, List.getElem?_cons_succ, List.getElem?_cons_zero]; exact rfl) (by kernel_rfl) (by kernel_rfl) (by kernel_rfl) (fun _ _ _ h => h) (Or.inl ⟨by rfl, ?_⟩) (by assumption) ?_
  rotate_left 1
  · (intro w hSw; (try dsimp only at hSw); go_simp; try with_reducible rfl)
  try simp only [Act.put, List.setIfInBounds_toArray, List.set_cons_zero, List.set_cons_succ]
  refine wpAnyH_take (i := 9) (v := ?_) (by simp only [List.getElem?_toArray, List.getElem?_cons_succ, List.getElem?_cons_zero]; exact rfl) (by kernel_rfl) (by kernel_rfl) (by kernel_rfl) (fun _ _ _ h => h) (Or.inl ⟨by rfl, ?_⟩) (by assumption) ?_
  rotate_left 1
  · (intro w hSw; (try dsimp only at hSw); go_simp; try with_reducible rfl)
  try simp only [Act.put, List.setIfInBounds_toArray, List.set_cons_zero, List.set_cons_succ]
  refine wpAnyH_take (i := 10) (v := ?_) (by simp only [List.getElem?_toArray, List.getElem?_cons_succ, List.getElem?_cons_zero]; exact rfl) (by kernel_rfl) (by kernel_rfl) (by kernel_rfl) (fun _ _ _ h => h) (Or.inl ⟨by rfl, ?_⟩) (by assumption) ?_
  rotate_left 1
  · (intro w hSw; (try dsimp only at hSw); go_simp; try with_reducible rfl)
  try simp only [Act.put, List.setIfInBounds_toArray, List.set_cons_zero, List.set_cons_succ]
  refine wpAnyH_take (i := 11) (v := ?_) (by simp only [List.getElem?_toArray, List.getElem?_cons_succ, List.getElem?_cons_zero]; exact rfl) (by kernel_rfl) (by kernel_rfl) (by kernel_rfl) (fun _ _ _ h => h) (Or.inl ⟨by rfl, ?_⟩) (by assumption) ?_
  rotate_left 1
  · (intro w hSw; (try dsimp only at hSw); go_simp; try with_reducible rfl)
  try simp only [Act.put, List.setIfInBounds_toArray, List.set_cons_zero, List.set_cons_succ]
  refine wpAnyH_take (i := 12) (v := ?_) (by simp only [List.getElem?_toArray, List.getElem?_cons_succ, List.getElem?_cons_zero]; exact rfl) (by kernel_rfl) (by kernel_rfl) (by kernel_rfl) (fun _ _ _ h => h) (Or.inl ⟨by rfl, ?_⟩) (by assumption) ?_
  rotate_left 1
  · (intro w hSw; (try dsimp only at hSw); go_simp; try with_reducible rfl)
  try simp only [Act.put, List.setIfInBounds_toArray, List.set_cons_zero, List.set_cons_succ]
  refine wpAnyH_take (i := 13) (v := ?_) (by simp only [List.getElem?_toArray, List.getElem?_cons_succ, List.getElem?_cons_zero]; exact rfl) (by kernel_rfl) (by kernel_rfl) (by kernel_rfl) (fun _ _ _ h => h) (Or.inl ⟨by rfl, ?_⟩) (by assumption) ?_
  rotate_left 1
  · (intro w hSw; (try dsimp only at hSw); go_simp; try with_reducible rfl)
  try simp only [Act.put, List.setIfInBounds_toArray, List.set_cons_zero, List.set_cons_succ]
  refine wpAnyH_take (i := 14) (v := ?_) (by simp only [List.getElem?_toArray, List.getElem?_cons_succ, List.getElem?_cons_zero]; exact rfl) (by kernel_rfl) (by kernel_rfl) (by kernel_rfl) (fun _ _ _ h => h) (Or.inl ⟨by rfl, ?_⟩) (by assumption) ?_
  rotate_left 1
  · (intro w hSw; (try dsimp only at hSw); go_simp; try with_reducible rfl)
  try simp only [Act.put, List.setIfInBounds_toArray, List.set_cons_zero, List.set_cons_succ]
  refine wpAnyH_take (i := 15) (v := ?_) (by simp only [List.getElem?_toArray, List.getElem?_cons_succ, List.getElem?_cons_zero]; exact rfl) (by kernel_rfl) (by kernel_rfl) (by kernel_rfl) (fun _ _ _ h => h) (Or.inl ⟨by rfl, ?_⟩) (by assumption) ?_
  rotate_left 1
  · (intro w hSw; (try dsimp only at hSw); go_simp; try with_reducible rfl)
  try simp only [Act.put, List.setIfInBounds_toArray, List.set_cons_zero, List.set_cons_succ]
  refine wpAnyH_take (i := 16) (v := ?_) (by simp only [List.getElem?_toArray, List.getElem?_cons_succ, List.getElem?_cons_zero]; exact rfl) (by kernel_rfl) (by kernel_rfl) (by kernel_rfl) (fun _ _ _ h => h) (Or.inl ⟨by rfl, ?_⟩) (by assumption) ?_
  rotate_left 1
  · (intro w hSw; (try dsimp only at hSw); go_simp; try with_reducible rfl)
  try simp only [Act.put, List.setIfInBounds_toArray, List.set_cons_zero, List.set_cons_succ]
  refine wpAnyH_take (i := 17) (v := ?_) (by simp only [List.getElem?_toArray, List.getElem?_cons_succ, List.getElem?_cons_zero]; exact rfl) (by kernel_rfl) (by kernel_rfl) (by kernel_rfl) (fun _ _ _ h => h) (Or.inl ⟨by rfl, ?_⟩) (by assumption) ?_
  rotate_left 1
  · (intro w hSw; (try dsimp only at hSw); go_simp; try with_reducible rfl)
  try simp only [Act.put, List.setIfInBounds_toArray, List.set_cons_zero, List.set_cons_succ]
  refine wpAnyH_take (i := 20) (v := ?_) (by simp only [List.getElem?_toArray, List.getElem?_cons_succ, List.getElem?_cons_zero]; exact rfl) (by kernel_rfl) (by kernel_rfl) (by kernel_rfl) (fun _ _ _ h => h) (Or.inl ⟨by rfl, ?_⟩) (by assumption) ?_
  rotate_left 1
  · (intro w hSw; (try dsimp only at hSw); go_simp; try with_reducible rfl)
  try simp only [Act.put, List.setIfInBounds_toArray, List.set_cons_zero, List.set_cons_succ]
  refine wpAnyH_take (i := 21) (v := ?_) (by simp only [List.getElem?_toArray, List.getElem?_cons_succ, List.getElem?_cons_zero]; exact rfl) (by kernel_rfl) (by kernel_rfl) (by kernel_rfl) (fun _ _ _ h => h) (Or.inl ⟨by rfl, ?_⟩) (by assumption) ?_
  rotate_left 1
  · (intro w hSw; (try dsimp only at hSw); go_simp; try with_reducible rfl)
  try simp only [Act.put, List.setIfInBounds_toArray, List.set_cons_zero, List.set_cons_succ]
  refine wpAnyH_take (i := 22) (v := ?_) (by simp only [List.getElem?_toArray, List.getElem?_cons_succ, List.getElem?_cons_zero]; exact rfl) (by kernel_rfl) (by kernel_rfl) (by kernel_rfl) (fun _ _ _ h => h) (Or.inl ⟨by rfl, ?_⟩) (by assumption) ?_
  rotate_left 1
  · (intro w hSw; (try dsimp only at hSw); go_simp; try with_reducible rfl)
  try simp only [Act.put, List.setIfInBounds_toArray, List.set_cons_zero, List.set_cons_succ]
  refine wpAnyH_take (i := 23) (v := ?_) (by simp only [List.getElem?_toArray, List.getElem?_cons_succ, List.getElem?_cons_zero]; exact rfl) (by kernel_rfl) (by kernel_rfl) (by kernel_rfl) (fun _ _ _ h => h) (Or.inl ⟨by rfl, ?_⟩) (by assumption) ?_
  rotate_left 1
  · (intro w hSw; (try dsimp only at hSw); go_simp; try with_reducible rfl)
  try simp only [Act.put, List.setIfInBounds_toArray, List.set_cons_zero, List.set_cons_succ]
  refine wpAnyH_take (i := 24) (v := ?_) (by simp only [List.getElem?_toArray, List.getElem?_cons_succ, List.getElem?_cons_zero]; exact rfl) (by kernel_rfl) (by kernel_rfl) (by kernel_rfl) (fun _ _ _ h => h) (Or.inl ⟨by rfl, ?_⟩) (by assumption) ?_
  rotate_left 1
  · (intro w hSw; (try dsimp only at hSw); go_simp; try with_reducible rfl)
  try simp only [Act.put, List.setIfInBounds_toArray, List.set_cons_zero, List.set_cons_succ]
  refine wpAnyH_ready (rs := [18]) (by kernel_rfl) (by simp) ?_
  refine (AllReadyH.cons (by simp only [List.getElem?_toArray, List.getElem?_cons_succ, List.getElem?_cons_zero]; exact rfl) (fun K hK => ?_) AllReadyH.nil)
  go_simp
  obtain ⟨y, hy⟩ : ∃ y, (x.alloc (.cells #[.slice q m c] 53)) = y := ⟨_, rfl⟩
  have hBa : Below x.heap.size x y := by rw [← hy]; exact below_newD _ _
  have hC := (show y.cell? ⟨x.heap.size, 0, none⟩ = some (.slice q m c) from by rw [← hy]; exact World.cell?_alloc_new _ _ _ _)
  rw [hy]
  have hXY := hHeld.2.2.2.trans (hBa.mono hHeld.2.2.2.size)
  clear hy hBa
  refine hK.out _ _ (HS.out _ hXY) (fun hHeld => ?_)
  clear hK K
  try simp only [Act.put, List.setIfInBounds_toArray, List.set_cons_zero, List.set_cons_succ]
  refine wpAnyH_ready (rs := [19]) (by kernel_rfl) (by simp) ?_
  refine (AllReadyH.cons (by simp only [List.getElem?_toArray, List.getElem?_cons_succ, List.getElem?_cons_zero]; exact rfl) (fun K hK => ?_) AllReadyH.nil)
  go_simp
  refine (HSM.out x.heap.size y hXY hC).mono ?_
  rintro e z ⟨rfl, hb5⟩
  have hXZ := hXY.trans (hb5.mono hXY.size)
  go_wp2_with fail
  refine hK.out _ _ (HS.out _ hXZ) (fun hHeld => ?_)
  clear hK K
  try simp only [Act.put, List.setIfInBounds_toArray, List.set_cons_zero, List.set_cons_succ]
  refine wpAnyH_take (i := 25) (v := ?_) (by simp only [List.getElem?_toArray, List.getElem?_cons_succ, List.getElem?_cons_zero]; exact rfl) (by kernel_rfl) (by kernel_rfl) (by kernel_rfl) (fun _ _ _ h => h) (Or.inl ⟨by rfl, ?_⟩) (by assumption) ?_
  rotate_left 1
  · (intro w hSw; (try dsimp only at hSw); go_simp; try with_reducible rfl)
  try simp only [Act.put, List.setIfInBounds_toArray, List.set_cons_zero, List.set_cons_succ]
  refine wpAnyH_take (i := 26) (v := ?_) (by simp only [List.getElem?_toArray, List.getElem?_cons_succ, List.getElem?_cons_zero]; exact rfl) (by kernel_rfl) (by kernel_rfl) (by kernel_rfl) (fun _ _ _ h => h) (Or.inl ⟨by rfl, ?_⟩) (by assumption) ?_
  rotate_left 1
  · (intro w hSw; (try dsimp only at hSw); go_simp; try with_reducible rfl)
  try simp only [Act.put, List.setIfInBounds_toArray, List.set_cons_zero, List.set_cons_succ]
  refine wpAnyH_take (i := 27) (v := ?_) (by simp only [List.getElem?_toArray, List.getElem?_cons_succ, List.getElem?_cons_zero]; exact rfl) (by kernel_rfl) (by kernel_rfl) (by kernel_rfl) (fun _ _ _ h => h) (Or.inl ⟨by rfl, ?_⟩) (by assumption) ?_
  rotate_left 1
  · (intro w hSw; (try dsimp only at hSw); go_simp; try with_reducible rfl)
  try simp only [Act.put, List.setIfInBounds_toArray, List.set_cons_zero, List.set_cons_succ]
  refine wpAnyH_done (by kernel_rfl) ?_ _
  refine NoPanic.normal ?_
  go_wp2
  go_ret
  exact ⟨rfl, HB.out.trans (hHeld.2.2.2.mono HB.out.size)⟩


end Go.Proofs.YtnmopjefjpifoaaGreatDoor
