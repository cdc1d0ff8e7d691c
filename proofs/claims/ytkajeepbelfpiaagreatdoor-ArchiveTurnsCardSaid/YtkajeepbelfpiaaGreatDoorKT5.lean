/- Merged texts: Bad10, Rea10, Map8, MapR8, Dsk8, Dkp8, Dkv8. -/
import Derived.Deep.RegionHeld3
import Derived.Test.YtkajeepbelfpiaaGreatDoorKT3
import Derived.Test.YtkajeepbelfpiaaGreatDoorKT4
import Derived.MapKept
import Derived.Maps.Range
import Derived.Maps.Keyed
import Derived.Maps.RangeWalk
import Derived.RangeFuncRecord
import Derived.Deep.QuietTactic
import Derived.ChangeMaps4
import Derived.Test.YtkajeepbelfpiaaGreatDoorStr7
set_option linter.unusedSimpArgs false
set_option linter.unusedVariables false
/- A record and its own bytes: has, Bad, Fits. -/
set_option maxRecDepth 100000
namespace Go.Proofs.YtkajeepbelfpiaaGreatDoor
open Go Go.RowKit Go.Shelf

attribute [-go_sem] Sha.exec_store
theorem exec_loadP (r : Operand → Value) (dst : Option Tmp) (p : Operand) (ty : TypeId) (pos : String) (after : Array Edge) (guard : Option (Nat × Bool)) :
    execOp r ⟨dst, .load 44 p, ty, pos, after, guard⟩ = ldT 44 (r p) := rfl
attribute [local go_sem ↓] exec_boxA exec_loadA exec_indexA exec_allocA exec_storeA exec_buildA exec_eqlA exec_neqA exec_boxV exec_loadV exec_indexV exec_allocV exec_storeV exec_buildV exec_eqlV exec_neqV
attribute [local go_sem] boxA indexA storeNewA buildA eqlA neqA boxV indexV storeNewV buildV eqlV neqV
attribute [local go_sem ↓] exec_loadS exec_boxS exec_boxP exec_boxM exec_loadP exec_load32 exec_build32 exec_eqlD exec_neqD exec_bs
attribute [local go_sem] box_stamp boxP boxM bd32 eqlD neqD deq_self bsSl

/-- What the walk of Bad carries. -/
def InvBd (w : World) (N : Nat) (r : Rc) (A : World) : Prop := A.cell? ⟨N + 1, 0, none⟩ = some (.slice none 0 0) ∧ Row A N 44 54 (rcF r) ∧ Below w.heap.size w A ∧ N + 3 ≤ A.heap.size
theorem InvBd.of_below {w : World} {N : Nat} {r : Rc} {A A' : World} (h : InvBd w N r A) (hB : Below A.heap.size A A') : InvBd w N r A' :=
  ⟨by rw [hB.cell (by exact World.block_lt_of_cell? A _ h.1)]; exact h.1, h.2.1.of_below hB, h.2.2.1.trans (hB.mono h.2.2.1.size), Nat.le_trans h.2.2.2 hB.size⟩
theorem InvBd.put {w : World} {N k : Nat} {r : Rc} {A : World} {o : Obj} (h : InvBd w N r A) (hw : w.heap.size = N) (hk : N + 3 ≤ k) (hlt : k < A.heap.size) : InvBd w N r (A.putObj k o) := by
  have hB := below_putP (N := N + 3) (A := A) o hk hlt
  refine ⟨by rw [hB.cell (by show N + 1 < _; omega)]; exact h.1, ?_, h.2.2.1.trans (hB.mono (by omega)), Nat.le_trans h.2.2.2 hB.size⟩
  have := h.2.1
  unfold Row at this ⊢
  rw [hB.block N (by omega)]; exact this
theorem InvBd.bears (w : World) (N : Nat) (r : Rc) (hw : w.heap.size = N) : BearsP (N + 3) (fun (_ : List Nat) A => InvBd w N r A) :=
  ⟨fun pre A o h => h.of_below (below_newD _ _), fun pre A o hlt h => h.put hw (by omega) hlt, fun pre A k h => h.of_below ((show Dr A (A.drewN k) from ⟨k, rfl⟩).below _)⟩
section
attribute [local go_sem] Oper.semAt_some
end
end Go.Proofs.YtkajeepbelfpiaaGreatDoor
/- A record in the words of the program; records compared. -/
set_option maxRecDepth 100000
namespace Go.Proofs.YtkajeepbelfpiaaGreatDoor
open Go Go.RowKit

attribute [-go_sem] Sha.exec_store
theorem below_gf {x y z : World} (h : Below x.heap.size x y) (hg : y.grownBy z (Value.slice (some ⟨x.heap.size, 0, none⟩) 0 0).ownBlock) (hs : x.heap.size ≤ y.heap.size) : Below x.heap.size x z :=
  h.grown hg hs (fun k hk => by have : x.heap.size = k := (by simpa [Value.ownBlock] using hk); omega)
attribute [local go_sem ↓] exec_boxA exec_loadA exec_indexA exec_allocA exec_storeA exec_buildA exec_eqlA exec_neqA exec_boxV exec_loadV exec_indexV exec_allocV exec_storeV exec_buildV exec_eqlV exec_neqV
attribute [local go_sem] boxA indexA storeNewA buildA eqlA neqA boxV indexV storeNewV buildV eqlV neqV

attribute [local go_sem ↓] exec_loadS exec_boxS exec_boxP exec_boxM exec_allocP exec_allocM exec_storeP exec_storeM exec_buildP exec_buildM exec_buildS exec_load32 exec_build32 exec_eqlD exec_neqD exec_bs
attribute [local go_sem] box_stamp boxP boxM bd32 eqlD neqD bdS3 deq_self veq_self10
theorem bsD0 (w : World) : (bsT 42 0 #[]).run Tryz.prog w = .ok (.value (.slice (some ⟨w.heap.size, 0, none⟩) 0 0)) (w.alloc (.cells #[] 41)) := by kernel_rfl
attribute [local go_sem] bsD0
set_option maxRecDepth 100000 in
set_option maxHeartbeats 4000000 in
theorem real_any (r : Rc) (ds : List By) (w : World) (h : DgAt w r ds) (hn : ds.length < 100000) :
    Calls Tryz.prog 21 #[rcV r] w fun e w' => ∃ q' cap', e = .returned (rcV (r.mov q' cap')) ∧ Below w.heap.size w w' ∧ DgAt w' (r.mov q' cap') ds := by
  obtain ⟨W1, hW1⟩ : ∃ W, w.alloc (.cells (tab 54 (rcF r)) 49) = W := ⟨_, rfl⟩
  obtain ⟨W2, hW2⟩ : ∃ W, W1.alloc (.cells (tab 54 (rcF rc0)) 44) = W := ⟨_, rfl⟩
  have hB1 : Below w.heap.size w W1 := by rw [← hW1]; exact below_newD _ _
  have hB2 : Below W1.heap.size W1 W2 := by rw [← hW2]; exact below_newD _ _
  have hB := hB1.trans (hB2.mono hB1.size)
  have z1 : W1.heap.size = w.heap.size + 1 := by rw [← hW1]; simp
  have z2 : W2.heap.size = w.heap.size + 2 := by rw [← hW2]; simp [z1]
  have hR1 : Row W2 w.heap.size 49 54 (rcF r) := (by rw [← hW1]; exact Row.new w _ 54 _ : Row W1 w.heap.size 49 54 (rcF r)).of_below hB2
  have hR2 : Row W2 W1.heap.size 44 54 (rcF rc0) := by rw [← hW2]; exact Row.new W1 _ 54 _
  have hwl := h.whole
  obtain ⟨V, hV⟩ : ∃ V, rcV r = V := ⟨_, rfl⟩
  have x1 : (bxT 49 V).run Tryz.prog w = .ok (.value (.pointer (some ⟨w.heap.size, 0, none⟩))) W1 := by rw [← hV, ← hW1]; exact boxM w r
  rw [hV]
  have HD := Lib.hid (fun (u : World) (hu : Below W2.heap.size W2 u) => h.of_below (hB.trans (hu.mono hB.size)))
  have HDL := Lib.hid (show (ds.flatMap digC).length = r.n * 32 by rw [flat_digC, List.length_map, flat_len32 h.each, h.n])
  have HQN := Lib.hid (show r.q = none → r.cap = 0 ∧ r.n = 0 from fun e => ⟨h.nil e, by have := h.nil e; have := h.le; omega⟩)
  have HONE := Lib.hid (show ∀ u ∈ ds.flatMap digC, u.oneCell' = true from by rw [flat_digC]; exact one_map _)
  have HN8 := Lib.hid (show 0 + r.n < 100000000 by rw [h.n]; omega)
  have HNL := Lib.hid h.n
  have HWL := Lib.hid hwl
  have HW12 := Lib.hid (show W1.heap.size < W2.heap.size by omega)
  have HF := Lib.hid (fun (u : World) (hr : Row u w.heap.size 49 54 (rcF r)) (hu : Below w.heap.size w u) => (show _ ∧ _ ∧ _ ∧ _ ∧ _ ∧ _ ∧ _ ∧ _ ∧ _ ∧ _ from ⟨rc_path hr, rc_size hr, rc_time hr, rc_chg hr, loadVT vtA (rc_ver hr), rc_dead hr, ld_dig (rc_whole hr hwl) hwl, rc_blocks hr, hr, hu⟩))
  have HS := Lib.hid (fun (u : World) (hu : Below W2.heap.size W2 u) => HF.out u (hR1.of_below hu) (hB.trans (hu.mono hB.size)))
  have HR := Lib.hid (fun (u : World) (hu : Below W2.heap.size W2 u) (r2 : Rc) => (show ∃ u', (stT 44 (.pointer (some ⟨W1.heap.size, 0, none⟩)) (rcV r2)).run Tryz.prog u = .ok .skip u' ∧ Row u' W1.heap.size 44 54 (rcF r2) ∧ _ ∧ Kp W1.heap.size u u' from by
    obtain ⟨u', h1, h2, h3⟩ := storeRT rtP (hR2.of_below hu) r2
    exact ⟨u', h1, h2, HF.out u' ((hR1.of_below hu).of_kp h3 (by omega)) ((hB.trans (hu.mono hB.size)).trans (h3.below (by omega) (by have := hu.size; omega))), h3⟩))
  clear hB1 hB2 hB z1 z2 hR1 hR2 hwl hV h
  obtain ⟨p, s, t, c, f, d, wh, q, n, cap⟩ := r
  dsimp only [Rc.mov] at *
  go_enter Tryz.func21, Tryz.ntmps21
  go_wp2
  clear x1 hW1 hW2
  refine wp_region_noPanic ?_
  refine wp_region_held_drew (S := (fun u : World => u.cell? ⟨w.heap.size, 0, none⟩ = some (.string (mkS p)) ∧ u.cell? ⟨w.heap.size, 1, none⟩ = some (.int .i64 s) ∧ u.cell? ⟨w.heap.size, 2, none⟩ = some (.int .i64 t) ∧ u.cell? ⟨w.heap.size, 3, none⟩ = some (.int .i64 c) ∧ (ldT 39 (.pointer (some ⟨w.heap.size, 4, none⟩))).run Tryz.prog u = .ok (.value (vcV f)) u ∧ u.cell? ⟨w.heap.size, 20, none⟩ = some (.bool d) ∧ (ldT 41 (.pointer (some ⟨w.heap.size, 21, none⟩))).run Tryz.prog u = .ok (.value (digV wh)) u ∧ u.cell? ⟨w.heap.size, 53, none⟩ = some (.slice q n cap) ∧ Row u w.heap.size 49 54 (rcF ⟨p, s, t, c, f, d, wh, q, n, cap⟩) ∧ Below w.heap.size w u)) (by kernel_rfl) (HS.out W2.drew (Below.refl _ _).drew) (fun hHeld => ?_)
  have HX := Lib.hid (show Below W2.heap.size W2 W2.drew from (Below.refl _ _).drew)
  have HX0 := Lib.hid (show Below W2.heap.size W2 W2.drew from (Below.refl _ _).drew)
  generalize W2.drew = x at hHeld HX HX0 ⊢
  have HXB := Lib.hid (show W1.heap.size < x.heap.size from Nat.lt_of_lt_of_le HW12.out HX0.out.size)
  refine wpAnyH_take (i := 0) (v := ?_) (by simp only [List.getElem?_toArray, List.getElem?_cons_succ, List.getElem?_cons_zero]; exact rfl) (by kernel_rfl) (by kernel_rfl) (by kernel_rfl) (fun _ _ _ h => h) (Or.inl ⟨by rfl, ?_⟩) (by assumption) ?_
  rotate_left 1
  · (intro w hSw; (try dsimp only at hSw); go_simp; try with_reducible rfl)
  try simp only [Act.put, List.setIfInBounds_toArray, List.set_cons_zero, List.set_cons_succ]
  refine wpAnyH_take (i := 1) (v := ?_) (by simp only [List.getElem?_toArray, List.getElem?_cons_succ, List.getElem?_cons_zero]; exact rfl) (by kernel_rfl) (by kernel_rfl) (by kernel_rfl) (fun _ _ _ h => h) (Or.inl ⟨by rfl, ?_⟩) (by assumption) ?_
  rotate_left 1
  · (intro w hSw; (try dsimp only at hSw); go_simp; try with_reducible rfl)
  try simp only [Act.put, List.setIfInBounds_toArray, List.set_cons_zero, List.set_cons_succ]
  refine wpAnyH_take (i := 2) (v := ?_) (by simp only [List.getElem?_toArray, List.getElem?_cons_succ, List.getElem?_cons_zero]; exact rfl) (by kernel_rfl) (by kernel_rfl) (by kernel_rfl) (fun _ _ _ h => h) (Or.inl ⟨by rfl, ?_⟩) (by assumption) ?_
  rotate_left 1
  · (intro w hSw; (try dsimp only at hSw); go_simp; try with_reducible rfl)
  try simp only [Act.put, List.setIfInBounds_toArray, List.set_cons_zero, List.set_cons_succ]
  refine wpAnyH_take (i := 3) (v := ?_) (by simp only [List.getElem?_toArray, List.getElem?_cons_succ, List.getElem?_cons_zero]; exact rfl) (by kernel_rfl) (by kernel_rfl) (by kernel_rfl) (fun _ _ _ h => h) (Or.inl ⟨by rfl, ?_⟩) (by assumption) ?_
  rotate_left 1
  · (intro w hSw; (try dsimp only at hSw); go_simp; try with_reducible rfl)
  try simp only [Act.put, List.setIfInBounds_toArray, List.set_cons_zero, List.set_cons_succ]
  refine wpAnyH_take (i := 4) (v := ?_) (by simp only [List.getElem?_toArray, List.getElem?_cons_succ, List.getElem?_cons_zero]; exact rfl) (by kernel_rfl) (by kernel_rfl) (by kernel_rfl) (fun _ _ _ h => h) (Or.inl ⟨by rfl, ?_⟩) (by assumption) ?_
  rotate_left 1
  · (intro w hSw; (try dsimp only at hSw); go_simp; try with_reducible rfl)
  try simp only [Act.put, List.setIfInBounds_toArray, List.set_cons_zero, List.set_cons_succ]
  refine wpAnyH_take (i := 5) (v := ?_) (by simp only [List.getElem?_toArray, List.getElem?_cons_succ, List.getElem?_cons_zero]; exact rfl) (by kernel_rfl) (by kernel_rfl) (by kernel_rfl) (fun _ _ _ h => h) (Or.inl ⟨by rfl, ?_⟩) (by assumption) ?_
  rotate_left 1
  · (intro w hSw; (try dsimp only at hSw); go_simp; try with_reducible rfl)
  try simp only [Act.put, List.setIfInBounds_toArray, List.set_cons_zero, List.set_cons_succ]
  refine wpAnyH_take (i := 6) (v := ?_) (by simp only [List.getElem?_toArray, List.getElem?_cons_succ, List.getElem?_cons_zero]; exact rfl) (by kernel_rfl) (by kernel_rfl) (by kernel_rfl) (fun _ _ _ h => h) (Or.inl ⟨by rfl, ?_⟩) (by assumption) ?_
  rotate_left 1
  · (intro w hSw; (try dsimp only at hSw); go_simp; try with_reducible rfl)
  try simp only [Act.put, List.setIfInBounds_toArray, List.set_cons_zero, List.set_cons_succ]
  refine wpAnyH_take (i := 7) (v := ?_) (by simp only [List.getElem?_toArray, List.getElem?_cons_succ, List.getElem?_cons_zero]; exact rfl) (by kernel_rfl) (by kernel_rfl) (by kernel_rfl) (fun _ _ _ h => h) (Or.inl ⟨by rfl, ?_⟩) (by assumption) ?_
  rotate_left 1
  · (intro w hSw; (try dsimp only at hSw); go_simp; try with_reducible rfl)
  try simp only [Act.put, List.setIfInBounds_toArray, List.set_cons_zero, List.set_cons_succ]
  refine wpAnyH_take (i := 8) (v := ?_) (by simp only [List.getElem?_toArray, List.getElem?_cons_succ, List.getElem?_cons_zero]; exact rfl) (by kernel_rfl) (by kernel_rfl) (by kernel_rfl) (fun _ _ _ h => h) (Or.inl ⟨by rfl, ?_⟩) (by assumption) ?_
  rotate_left 1
  · (intro w hSw; (try dsimp only at hSw); go_simp; try with_reducible rfl)
  try simp only [Act.put, List.setIfInBounds_toArray, List.set_cons_zero, List.set_cons_succ]
  refine wpAnyH_take (i := 9) (v := ?_) (by simp only [List.getElem?_toArray, List.getElem?_cons_succ, List.getElem?_cons_zero]; exact rfl) (by kernel_rfl) (by kernel_rfl) (by kernel_rfl) (fun _ _ _ h => h) (Or.inl ⟨by rfl, ?_⟩) (by assumption) ?_
  rotate_left 1
  · (intro w hSw; (try dsimp only at hSw); go_simp; try with_reducible rfl)
  try simp only [Act.put, List.setIfInBounds_toArray, List.set_cons_zero, List.set_cons_succ]
  refine wpAnyH_take (i := 10) (v := ?_) (by simp only [List.getElem?_toArray, List.getElem?_cons_succ, List.getElem?_cons_zero]; exact rfl) (by kernel_rfl) (by kernel_rfl) (by kernel_rfl) (fun _ _ _ h => h) (Or.inl ⟨by rfl, ?_⟩) (by assumption) ?_
  rotate_left 1
  · (intro w hSw; (try dsimp only at hSw); go_simp; try with_reducible rfl)
  try simp only [Act.put, List.setIfInBounds_toArray, List.set_cons_zero, List.set_cons_succ]
  refine wpAnyH_take (i := 11) (v := ?_) (by simp only [List.getElem?_toArray, List.getElem?_cons_succ, List.getElem?_cons_zero]; exact rfl) (by kernel_rfl) (by kernel_rfl) (by kernel_rfl) (fun _ _ _ h => h) (Or.inl ⟨by rfl, ?_⟩) (by assumption) ?_
  rotate_left 1
  · (intro w hSw; (try dsimp only at hSw); go_simp; try with_reducible rfl)
  try simp only [Act.put, List.setIfInBounds_toArray, List.set_cons_zero, List.set_cons_succ]
  refine wpAnyH_take (i := 12) (v := ?_) (by simp only [List.getElem?_toArray, List.getElem?_cons_succ, List.getElem?_cons_zero]; exact rfl) (by kernel_rfl) (by kernel_rfl) (by kernel_rfl) (fun _ _ _ h => h) (Or.inl ⟨by rfl, ?_⟩) (by assumption) ?_
  rotate_left 1
  · (intro w hSw; (try dsimp only at hSw); go_simp; try with_reducible rfl)
  try simp only [Act.put, List.setIfInBounds_toArray, List.set_cons_zero, List.set_cons_succ]
  refine wpAnyH_take (i := 13) (v := ?_) (by simp only [List.getElem?_toArray, List.getElem?_cons_succ, List.getElem?_cons_zero]; exact rfl) (by kernel_rfl) (by kernel_rfl) (by kernel_rfl) (fun _ _ _ h => h) (Or.inl ⟨by rfl, ?_⟩) (by assumption) ?_
  rotate_left 1
  · (intro w hSw; (try dsimp only at hSw); go_simp; try with_reducible rfl)
  try simp only [Act.put, List.setIfInBounds_toArray, List.set_cons_zero, List.set_cons_succ]
  refine wpAnyH_take (i := 14) (v := ?_) (by simp only [List.getElem?_toArray, List.getElem?_cons_succ, List.getElem?_cons_zero]; exact rfl) (by kernel_rfl) (by kernel_rfl) (by kernel_rfl) (fun _ _ _ h => h) (Or.inl ⟨by rfl, ?_⟩) (by assumption) ?_
  rotate_left 1
  · (intro w hSw; (try dsimp only at hSw); go_simp; try with_reducible rfl)
  try simp only [Act.put, List.setIfInBounds_toArray, List.set_cons_zero, List.set_cons_succ]
  refine wpAnyH_take (i := 16) (v := ?_) (by simp only [List.getElem?_toArray, List.getElem?_cons_succ, List.getElem?_cons_zero]; exact rfl) (by kernel_rfl) (by kernel_rfl) (by kernel_rfl) (fun _ _ _ h => h) (Or.inl ⟨by rfl, ?_⟩) (by assumption) ?_
  rotate_left 1
  · (intro w hSw; (try dsimp only at hSw); go_simp; try with_reducible rfl)
  try simp only [Act.put, List.setIfInBounds_toArray, List.set_cons_zero, List.set_cons_succ]
  refine wpAnyH_take (i := 17) (v := ?_) (by simp only [List.getElem?_toArray, List.getElem?_cons_succ, List.getElem?_cons_zero]; exact rfl) (by kernel_rfl) (by kernel_rfl) (by kernel_rfl) (fun _ _ _ h => h) (Or.inl ⟨by rfl, ?_⟩) (by assumption) ?_
  rotate_left 1
  · (intro w hSw; (try dsimp only at hSw); go_simp; try with_reducible rfl)
  try simp only [Act.put, List.setIfInBounds_toArray, List.set_cons_zero, List.set_cons_succ]
  refine wpAnyH_ready (rs := [15]) (by kernel_rfl) (by simp) ?_
  refine (AllReadyH.cons (by simp only [List.getElem?_toArray, List.getElem?_cons_succ, List.getElem?_cons_zero]; exact rfl) (fun K hK => ?_) AllReadyH.nil)
  go_simp
  obtain ⟨y, hy⟩ : ∃ y, (x.alloc (.cells #[] 41)) = y := ⟨_, rfl⟩
  have hBa : Below x.heap.size x y := by rw [← hy]; exact below_newD _ _
  have hO := (own_empty (E := 41) (k := 32) x x.heap.size (Nat.le_refl _))
  rw [hy] at hO ⊢
  have hXY := HX.out.trans (hBa.mono HX.out.size)
  have HX := Lib.hid hXY
  have HO := Lib.hid hO
  have hsx : x.heap.size ≤ y.heap.size := hBa.size
  have HBA := Lib.hid hBa
  clear hy hO hXY hBa
  refine hK.out _ _ (HS.out _ HX.out) (fun hHeld => ?_)
  clear hK K
  try simp only [Act.put, List.setIfInBounds_toArray, List.set_cons_zero, List.set_cons_succ]
  refine wpAnyH_ready (rs := [18]) (by kernel_rfl) (by simp) ?_
  refine (AllReadyH.cons (by simp only [List.getElem?_toArray, List.getElem?_cons_succ, List.getElem?_cons_zero]; exact rfl) (fun K hK => ?_) AllReadyH.nil)
  refine step_appendK elD y rfl (.tmp 18) (.tmp 20) rfl x.heap.size rfl HO.out q n cap (ds.flatMap digC) HDL.out rfl (HD.out y HX.out).lie HQN.out (HONE.out) HN8.out hsx ?_
  rintro v7 z hO7 hg7 ho7
  rw [Nat.zero_add, List.nil_append] at hO7
  obtain ⟨q7, c7, rfl, hlt7, hdg7⟩ := dg_own hO7 HNL.out (HD.out y HX.out).each
  have hXZ : Below W2.heap.size W2 z := HX0.out.trans ((below_gf HBA.out hg7 hsx).mono (HX0.out.size))
  have HX := Lib.hid hXZ
  have HDG := Lib.hid hdg7
  have HLT := Lib.hid hlt7
  have hbd := fun u => bdP6 p s t c f d wh q7 n c7 u
  rw [HNL.out.symm]
  obtain ⟨RV, hRV⟩ : ∃ RV : Rc, ⟨p, s, t, c, f, d, wh, q7, n, c7⟩ = RV := ⟨_, rfl⟩
  rw [hRV] at hbd
  have HRV := Lib.hid hRV
  clear hRV hO7 hg7 ho7 hdg7 hlt7 hXZ
  refine hK.out _ _ (HS.out _ HX.out) (fun hHeld => ?_)
  clear hK K
  try simp only [Act.put, List.setIfInBounds_toArray, List.set_cons_zero, List.set_cons_succ]
  refine wpAnyH_take (i := 19) (v := ?_) (by simp only [List.getElem?_toArray, List.getElem?_cons_succ, List.getElem?_cons_zero]; exact rfl) (by kernel_rfl) (by kernel_rfl) (by kernel_rfl) (fun _ _ _ h => h) (Or.inl ⟨by rfl, ?_⟩) (by assumption) ?_
  rotate_left 1
  · (intro w hSw; (try dsimp only at hSw); go_simp; try with_reducible rfl)
  try simp only [Act.put, List.setIfInBounds_toArray, List.set_cons_zero, List.set_cons_succ]
  refine wpAnyH_ready (rs := [20]) (by kernel_rfl) (by simp) ?_
  refine (AllReadyH.cons (by simp only [List.getElem?_toArray, List.getElem?_cons_succ, List.getElem?_cons_zero]; exact rfl) (fun K hK => ?_) AllReadyH.nil)
  obtain ⟨u', hs, hRow, hSu, hKp⟩ := HR.out z HX.out RV
  have HRow := Lib.hid hRow
  have HKp := Lib.hid hKp
  clear hRow hKp
  go_simp
  refine hK.out _ _ hSu (fun hHeld => ?_)
  clear hK K
  try simp only [Act.put, List.setIfInBounds_toArray, List.set_cons_zero, List.set_cons_succ]
  refine wpAnyH_done (by kernel_rfl) ?_ _
  refine NoPanic.normal ?_
  go_wp2
  refine bodyPost_ret (resR rtP rfl _ u' W1.heap.size 44 RV rfl HRow.out) rfl ?_
  have hd : DgAt z RV ds := HDG.out RV (by rw [← HRV.out]) (by rw [← HRV.out]; exact HNL.out) (by rw [← HRV.out]) (by rw [← HRV.out]; exact HWL.out)
  refine ⟨q7, c7, by rw [← HRV.out], hHeld.2.2.2.2.2.2.2.2.2, ?_⟩
  have hd2 : DgAt u' RV ds := hd.keep fun cc oo e hlt => HKp.out.block cc hlt (by
    have h1 := HLT.out cc oo (by rw [← HRV.out] at e; exact e)
    have h2 := HXB.out
    omega)
  rw [← HRV.out] at hd2
  exact hd2
theorem eqlS (x y : Operand) (s t c : Int) (w : World) : (eqX .eql 38 x y (stV s t c) (stV s t c)).run Tryz.prog w = .ok (.value (.bool true)) w := by
  have h : (binOp .eql 38 (stV s t c) (stV s t c)).run Tryz.prog w = .ok (.bool true) w := by
    unfold stV
    go_simp
  have hg : (eqGuard .eql 38 x y (stV s t c) (stV s t c)).run Tryz.prog w = .ok () w := by unfold stV; exact run_eqGuard_agg (P := Tryz.prog) w .eql 38 x y _ _ (by kernel_rfl)
  simp only [eqX, Sem.run_bind, hg, h, Result.andThen_ok, Sem.run_pure]
theorem exec_eqlS (r : Operand → Value) (dst : Option Tmp) (x y : Operand) (z : TypeId) (ty : TypeId) (pos : String) (after : Array Edge) (guard : Option (Nat × Bool)) :
    execOp r ⟨dst, .binOp .eql 38 x y z, ty, pos, after, guard⟩ = eqX .eql 38 x y (r x) (r y) := rfl
attribute [local go_sem ↓] exec_eqlS
attribute [local go_sem] eqlS
end Go.Proofs.YtkajeepbelfpiaaGreatDoor
/- Maps from strings in memory: a block holds a map whose entries, in whatever order they lie, are these. -/
set_option maxRecDepth 100000
namespace Go.Proofs.YtkajeepbelfpiaaGreatDoor
open Go Go.RowKit Go.MapKept
attribute [-go_sem] Sha.exec_store
open Go.ChangeMaps (setBlock)

/-- What a list of keys and values has at a key. -/
def findV (l : List (S8 × Value)) (p : S8) : Option Value := (l.find? fun x => x.1 == p).map (·.2)
def delV (l : List (S8 × Value)) (p : S8) : List (S8 × Value) := l.filter fun x => x.1 != p
def putV (l : List (S8 × Value)) (p : S8) (v : Value) : List (S8 × Value) := (p, v) :: delV l p
def kvE (e : MapEntry) : Value × Value := (e.key, e.val)
def kvS (p : S8 × Value) : Value × Value := (.string (mkS p.1), p.2)
structure MpOk (es : Array MapEntry) (clock : Nat) (l : List (S8 × Value)) : Prop where
  st : Stamped es clock
  kv : (es.toList.map kvE).Perm (l.map kvS)
/-- Block b is a map of these. -/
def MpB (w : World) (b : Nat) (l : List (S8 × Value)) : Prop := ∃ es clock, w.heap[b]? = some (.map es clock) ∧ MpOk es clock l
theorem keyV_inj {a b : S8} : (Value.string (mkS a) = Value.string (mkS b)) ↔ a = b := by
  rw [Value.string.injEq, mkS_inj]
section
variable {es : Array MapEntry} {clock : Nat} {l : List (S8 × Value)}
theorem MpOk.born (h : MpOk es clock l) : (es.toList.map (·.born)).Nodup := ((stamped_iff es clock).1 h.st).2.1
theorem MpOk.old (h : MpOk es clock l) : ∀ x ∈ es.toList, x.born < clock := ((stamped_iff es clock).1 h.st).1
theorem MpOk.apart (h : MpOk es clock l) : es.toList.Pairwise (fun x y => x.key ≠ y.key) := ((stamped_iff es clock).1 h.st).2.2
theorem MpOk.of_perm (h : MpOk es clock l) {l' : List (S8 × Value)} (hp : l.Perm l') : MpOk es clock l' := ⟨h.st, h.kv.trans (hp.map _)⟩
theorem MpOk.mem (h : MpOk es clock l) {e : MapEntry} (he : e ∈ es.toList) : ∃ p v, (p, v) ∈ l ∧ e.key = .string (mkS p) ∧ e.val = v := by
  have : kvE e ∈ l.map kvS := h.kv.mem_iff.1 (List.mem_map.2 ⟨e, he, rfl⟩)
  obtain ⟨x, hx, e2⟩ := List.mem_map.1 this
  rw [kvS, kvE, Prod.mk.injEq] at e2
  exact ⟨x.1, x.2, hx, e2.1.symm, e2.2.symm⟩
theorem MpOk.size (h : MpOk es clock l) : es.size = l.length := by
  have := h.kv.length_eq
  simpa using this
theorem MpOk.keys (h : MpOk es clock l) : (l.map (·.1)).Nodup := by
  have h1 : ((es.toList.map kvE).map (·.1)).Nodup := by
    rw [List.map_map]
    show (es.toList.map (·.key)).Nodup
    rw [List.Nodup, List.pairwise_map]
    exact h.apart
  have h2 : ((l.map kvS).map (·.1)).Nodup := ((h.kv.map (·.1)).nodup_iff).1 h1
  rw [List.map_map] at h2
  rw [List.Nodup, List.pairwise_map] at h2 ⊢
  exact h2.imp fun hne e => hne (by show Value.string _ = Value.string _; rw [e])
theorem MpOk.isKey (h : MpOk es clock l) : ∀ x ∈ es.toList, IsKey .string x.key := fun x hx => by
  obtain ⟨p, v, _, e, _⟩ := h.mem hx
  rw [e]
  trivial
end
theorem findV_mem {l : List (S8 × Value)} (hk : (l.map (·.1)).Nodup) {p : S8} {v : Value} (h : (p, v) ∈ l) : findV l p = some v := by
  unfold findV
  induction l with
  | nil => exact absurd h (by simp)
  | cons x r ih =>
    rw [List.map_cons, List.nodup_cons] at hk
    rw [List.find?_cons]
    rcases List.mem_cons.1 h with h1 | h1
    · rw [← h1]
      simp
    · have : (x.1 == p) = false := by
        rw [beq_eq_false_iff_ne]
        intro e
        exact hk.1 (by rw [e]; exact List.mem_map.2 ⟨_, h1, rfl⟩)
      rw [this]
      exact ih hk.2 h1
theorem findV_none {l : List (S8 × Value)} {p : S8} (h : ∀ x ∈ l, x.1 ≠ p) : findV l p = none := by
  unfold findV
  rw [List.find?_eq_none.2 (fun x hx => by simpa using h x hx)]
  rfl
section
variable {w w' : World} {b : Nat} {l : List (S8 × Value)}
theorem MpB.lt (h : MpB w b l) : b < w.heap.size := by
  obtain ⟨es, clock, hb, _⟩ := h
  exact (Array.getElem?_eq_some_iff.1 hb).1
theorem MpB.keep (h : MpB w b l) (hk : w'.heap[b]? = w.heap[b]?) : MpB w' b l := by
  obtain ⟨es, clock, hb, r⟩ := h
  exact ⟨es, clock, by rw [hk]; exact hb, r⟩
theorem MpB.of_below (h : MpB w b l) (hB : Below w.heap.size w w') : MpB w' b l := h.keep (hB.block b h.lt)
theorem MpB.of_perm (h : MpB w b l) {l' : List (S8 × Value)} (hp : l.Perm l') : MpB w b l' := by
  obtain ⟨es, clock, hb, r⟩ := h
  exact ⟨es, clock, hb, r.of_perm hp⟩
theorem MpB.keys (h : MpB w b l) : (l.map (·.1)).Nodup := by
  obtain ⟨es, clock, hb, r⟩ := h
  exact r.keys
theorem MpB.made (w : World) : MpB (w.alloc (.map #[] 0)) w.heap.size [] := ⟨#[], 0, World.alloc_heap_new w _, stamped_empty 0, by simp⟩
theorem MpB.copied (h : MpB w b l) (es : Array MapEntry) (clock : Nat) (hb : w.heap[b]? = some (.map es clock)) : MpB (w.alloc (.map es clock)) w.heap.size l := by
  obtain ⟨es2, clock2, hb2, r⟩ := h
  rw [hb] at hb2
  injection hb2 with hb2
  injection hb2 with e1 e2
  subst e1 e2
  exact ⟨es, clock, World.alloc_heap_new w _, r⟩
end
theorem setB_at {w : World} {b : Nat} {o : Obj} (h : b < w.heap.size) : (setBlock w b o).heap[b]? = some o := by simp [setBlock, h]
theorem setB_else {w : World} {b k : Nat} {o : Obj} (h : k ≠ b) : (setBlock w b o).heap[k]? = w.heap[k]? := by simp [setBlock, Array.getElem?_setIfInBounds, Ne.symm h]
theorem setB_size {w : World} {b : Nat} {o : Obj} : (setBlock w b o).heap.size = w.heap.size := by simp [setBlock]
theorem setB_grown {w : World} {b : Nat} {o : Obj} : w.grownBy (setBlock w b o) (some b) := ⟨rfl, rfl, rfl, by rw [setB_size]; exact Nat.le_refl _, fun k hk hne => setB_else (fun e => hne (by rw [e]))⟩
section
variable {P : Program} {T K E : TypeId} (hT : P.underlying T = some (.map K E)) (hK : P.underlying K = some .string)
variable {w : World} {b : Nat} {l : List (S8 × Value)}
include hT hK
theorem run_lookup8 {z : Value} (hz : (zeroValue E).run P w = .ok z w) (h : MpB w b l) (p : S8) (c : Bool) :
    (Instr.lookup T (.map (some b)) (.string (mkS p)) c).run P w = .ok (if c then .tuple #[(findV l p).getD z, .bool (findV l p).isSome] else (findV l p).getD z) w := by
  obtain ⟨es, clock, hb, r⟩ := h
  have hkey : IsKey .string (.string (mkS p)) := trivial
  rcases findNow_spec hkey es.toList 0 r.isKey with ⟨h1, h2⟩ | ⟨j, e, h1, h2, h3⟩
  · have hf : findV l p = none := findV_none fun x hx e => by
      have : kvS x ∈ es.toList.map kvE := r.kv.mem_iff.2 (List.mem_map.2 ⟨x, hx, rfl⟩)
      obtain ⟨y, hy, e2⟩ := List.mem_map.1 this
      rw [kvS, kvE, Prod.mk.injEq] at e2
      exact h2 y hy (by rw [e2.1, e])
    rw [hf]
    simp [Instr.lookup, run_underlying hT, MapKept.run_getObj_map hb, run_checkKey hK hkey, run_findKey hK h1, hz, Result.andThen]
  · have hm : e ∈ es.toList := List.mem_of_getElem? h2
    obtain ⟨q, v, hq, e1, e2⟩ := r.mem hm
    have hqp : q = p := keyV_inj.1 (by rw [← e1, h3])
    subst hqp
    have hf : findV l q = some e.val := by rw [e2]; exact findV_mem r.keys hq
    rw [hf]
    simp [Instr.lookup, run_underlying hT, MapKept.run_getObj_map hb, run_checkKey hK hkey, run_findKey hK h1, Result.andThen]
theorem run_update8 (h : MpB w b l) (p : S8) (v : Value) : ∃ w', (Instr.mapUpdate T (.map (some b)) (.string (mkS p)) v).run P w = .ok () w' ∧ MpB w' b (putV l p v) ∧ w.grownBy w' (some b) ∧ w'.heap.size = w.heap.size := by
  classical
  have hlt := h.lt
  obtain ⟨es, clock, hb, r⟩ := h
  have hkey : IsKey .string (.string (mkS p)) := trivial
  rcases findNow_spec hkey es.toList 0 r.isKey with ⟨h1, h2⟩ | ⟨j, e, h1, h2, h3⟩
  · refine ⟨setBlock w b (.map (es.push { key := .string (mkS p), val := v, born := clock }) (clock + 1)), ?_, ⟨_, _, setB_at hlt, stamped_push r.st h2, ?_⟩, setB_grown, setB_size⟩
    · simp [Instr.mapUpdate, run_underlying hT, MapKept.run_getObj_map hb, run_checkKey hK hkey, run_findKey hK h1, MapKept.run_setObj_map _ hb, Result.andThen, setBlock]
    · have hd : delV l p = l := by
        unfold delV
        rw [List.filter_eq_self]
        intro x hx
        have : kvS x ∈ es.toList.map kvE := r.kv.mem_iff.2 (List.mem_map.2 ⟨x, hx, rfl⟩)
        obtain ⟨y, hy, e2⟩ := List.mem_map.1 this
        rw [kvS, kvE, Prod.mk.injEq] at e2
        simp only [bne_iff_ne, ne_eq]
        intro e3
        exact h2 y hy (by rw [e2.1, e3])
      rw [Array.toList_push, List.map_append, putV, hd, List.map_cons]
      refine List.Perm.trans ?_ (List.perm_append_singleton _ _)
      exact r.kv.append (List.Perm.refl _)
  · have hj : es[j]? = some e := by simpa using h2
    have hjl : j < es.toList.length := (List.getElem?_eq_some_iff.1 h2).1
    have hkf : ∀ e', es[j]? = some e' → ({ e' with key := .string (mkS p), val := v } : MapEntry).key = e'.key := fun e' he' => by rw [hj] at he'; cases he'; exact h3.symm
    have hlist : (es.modify j (fun e' => { e' with key := .string (mkS p), val := v })).toList = es.toList.set j { e with key := .string (mkS p), val := v } := by
      apply List.ext_getElem?
      intro i
      rw [Array.getElem?_toList, Array.getElem?_modify, List.getElem?_set]
      by_cases hi : j = i
      · subst hi
        rw [if_pos rfl, if_pos rfl, hj]
        simp at hjl
        simp [hjl]
      · rw [if_neg hi, if_neg hi, Array.getElem?_toList]
    refine ⟨setBlock w b (.map (es.modify j fun e' => { e' with key := .string (mkS p), val := v }) clock), ?_, ⟨_, _, setB_at hlt, stamped_modify r.st _ _ (fun _ _ => rfl) (fun e' _ he' => hkf e' he'), ?_⟩, setB_grown, setB_size⟩
    · simp [Instr.mapUpdate, run_underlying hT, MapKept.run_getObj_map hb, run_checkKey hK hkey, run_findKey hK h1, hj, h3, run_keyThatStays hkey, MapKept.run_setObj_map _ hb, Result.andThen, setBlock]
    · rw [hlist]
      have q1 : (es.toList.set j { e with key := .string (mkS p), val := v }).Perm ({ e with key := .string (mkS p), val := v } :: es.toList.eraseIdx j) := by
        exact ChangeMaps.set_perm _ _ hjl _
      have q2 : es.toList.Perm (e :: es.toList.eraseIdx j) := by
        have q5 := ChangeMaps.set_perm es.toList j hjl e
        have q6 : es.toList.set j e = es.toList := by
          rw [List.getElem?_eq_getElem hjl] at h2
          injection h2 with h2
          rw [← h2, List.set_getElem_self]
        rw [q6] at q5
        exact q5
      refine ((q1.map kvE).trans ?_)
      rw [List.map_cons, putV, List.map_cons]
      refine List.Perm.cons _ ?_
      have q3 : ((e :: es.toList.eraseIdx j).map kvE).Perm (l.map kvS) := (q2.symm.map kvE).trans r.kv
      have q4 := q3.filter (fun x => decide (x.1 ≠ Value.string (mkS p)))
      have a1 : (es.toList.eraseIdx j).Pairwise (fun x y => x.key ≠ y.key) ∧ ∀ x ∈ es.toList.eraseIdx j, e.key ≠ x.key := by
        have := (q2.pairwise_iff (R := fun x y : MapEntry => x.key ≠ y.key) (fun {a b} h => Ne.symm h)).1 r.apart
        rw [List.pairwise_cons] at this
        exact ⟨this.2, this.1⟩
      rw [List.map_cons, List.filter_cons_of_neg (by simp [kvE, h3]), List.filter_eq_self.2 (fun x hx => by
        obtain ⟨y, hy, rfl⟩ := List.mem_map.1 hx
        simp only [decide_eq_true_eq]
        intro e3
        exact a1.2 y hy (by rw [h3]; exact e3.symm))] at q4
      refine q4.trans ?_
      rw [List.filter_map]
      refine (List.Perm.of_eq ?_).map kvS
      unfold delV
      refine List.filter_congr fun x _ => ?_
      simp only [Function.comp, kvS]
      rw [Bool.eq_iff_iff]
      simp [mkS_inj]
theorem run_delete8 {ty : TypeId} (h : MpB w b l) (p : S8) : ∃ w', (Builtin.delete_ #[T, K] ty #[.map (some b), .string (mkS p)]).run P w = .ok (.tuple #[]) w' ∧ MpB w' b (delV l p) ∧ w.grownBy w' (some b) ∧ w'.heap.size = w.heap.size := by
  classical
  have hlt := h.lt
  obtain ⟨es, clock, hb, r⟩ := h
  have hkey : IsKey .string (.string (mkS p)) := trivial
  have q0 : ((es.toList.map kvE).filter (fun x => decide (x.1 ≠ Value.string (mkS p)))).Perm ((delV l p).map kvS) := by
    refine (r.kv.filter _).trans ?_
    rw [List.filter_map]
    refine (List.Perm.of_eq ?_).map kvS
    unfold delV
    refine List.filter_congr fun x _ => ?_
    simp only [Function.comp, kvS]
    rw [Bool.eq_iff_iff]
    simp [mkS_inj]
  rcases findNow_spec hkey es.toList 0 r.isKey with ⟨h1, h2⟩ | ⟨j, e, h1, h2, h3⟩
  · refine ⟨setBlock w b (.map es clock), ?_, ⟨_, _, setB_at hlt, r.st, ?_⟩, setB_grown, setB_size⟩
    · simp [Builtin.delete_, run_underlying hT, MapKept.run_getObj_map hb, run_checkKey hK hkey, run_findKey hK h1, MapKept.run_setObj_map _ hb, Result.andThen, setBlock]
    · rw [List.filter_eq_self.2 (fun x hx => by
        obtain ⟨y, hy, rfl⟩ := List.mem_map.1 hx
        simp only [decide_eq_true_eq]
        exact h2 y hy)] at q0
      exact q0
  · have hjl : j < es.toList.length := (List.getElem?_eq_some_iff.1 h2).1
    have hjs : j < es.size := by simpa using hjl
    have hsub : (es.eraseIdxIfInBounds j).toList = es.toList.eraseIdx j := by
      unfold Array.eraseIdxIfInBounds
      rw [dif_pos hjs]
      simp
    have q2 : es.toList.Perm (e :: es.toList.eraseIdx j) := by
      have q5 := ChangeMaps.set_perm es.toList j hjl e
      have q6 : es.toList.set j e = es.toList := by
        rw [List.getElem?_eq_getElem hjl] at h2
        injection h2 with h2
        rw [← h2, List.set_getElem_self]
      rw [q6] at q5
      exact q5
    refine ⟨setBlock w b (.map (es.eraseIdxIfInBounds j) clock), ?_, ⟨_, _, setB_at hlt, stamped_erase r.st j, ?_⟩, setB_grown, setB_size⟩
    · simp [Builtin.delete_, run_underlying hT, MapKept.run_getObj_map hb, run_checkKey hK hkey, run_findKey hK h1, MapKept.run_setObj_map _ hb, Result.andThen, setBlock]
    · rw [hsub]
      have a1 : ∀ x ∈ es.toList.eraseIdx j, e.key ≠ x.key := by
        have := (q2.pairwise_iff (R := fun x y : MapEntry => x.key ≠ y.key) (fun {a b} h => Ne.symm h)).1 r.apart
        rw [List.pairwise_cons] at this
        exact this.1
      have q3 := ((q2.map kvE).filter (fun x => decide (x.1 ≠ Value.string (mkS p))))
      have q7 : ((es.toList.eraseIdx j).map kvE).filter (fun x => decide (x.1 ≠ Value.string (mkS p))) = (es.toList.eraseIdx j).map kvE := List.filter_eq_self.2 (fun x hx => by
        obtain ⟨y, hy, rfl⟩ := List.mem_map.1 hx
        simp only [decide_eq_true_eq]
        intro e3
        exact a1 y hy (by rw [h3]; exact e3.symm))
      rw [List.map_cons, List.filter_cons_of_neg (by simp [kvE, h3]), q7] at q3
      exact q3.symm.trans q0
omit hK in
theorem run_len8 {ty : TypeId} (h : MpB w b l) : (Builtin.len_ #[T] ty #[.map (some b)]).run P w = .ok (.int .i64 (l.length : Int)) w := by
  obtain ⟨es, clock, hb, r⟩ := h
  simp [Builtin.len_, goInt, run_underlying hT, MapKept.run_getObj_map hb, Result.andThen, r.size]
end
end Go.Proofs.YtkajeepbelfpiaaGreatDoor
/- A range over a map from strings: each of its entries once, in whatever order; the walk's laws at the operations on maps. -/
set_option maxRecDepth 100000
namespace Go.Proofs.YtkajeepbelfpiaaGreatDoor
open Go Go.RowKit Go.MapKept
attribute [-go_sem] Sha.exec_store
open Go.ChangeMaps (setBlock)

/-- A range over the map in block b, its iterator in block r: these are still to come. -/
def RngB (w : World) (b r : Nat) (l todo : List (S8 × Value)) : Prop :=
  ∃ es clock since seen c0, w.heap[b]? = some (.map es clock) ∧ MpOk es clock l ∧ w.heap[r]? = some (.mapIter (some b) since seen c0) ∧ (∀ x ∈ es.toList, x.born < since) ∧ since ≤ c0 ∧ since ≤ clock ∧ ((leftOf es seen).toList.map kvE).Perm (todo.map kvS)
theorem leftOf_list (es : Array MapEntry) (seen : Array Nat) : (leftOf es seen).toList = es.toList.filter fun e => !seen.contains e.born := by simp [leftOf]
section
variable {w w' : World} {b r : Nat} {l todo : List (S8 × Value)}
theorem RngB.map (h : RngB w b r l todo) : MpB w b l := by
  obtain ⟨es, clock, _, _, _, hb, h1, _⟩ := h
  exact ⟨es, clock, hb, h1⟩
theorem RngB.ne (h : RngB w b r l todo) : r ≠ b := by
  obtain ⟨es, clock, since, seen, c0, hb, _, hr, _⟩ := h
  intro e
  rw [e, hb] at hr
  cases hr
theorem RngB.lt (h : RngB w b r l todo) : r < w.heap.size := by
  obtain ⟨es, clock, since, seen, c0, hb, _, hr, _⟩ := h
  exact (Array.getElem?_eq_some_iff.1 hr).1
theorem RngB.left (h : RngB w b r l todo) : w.rangeLeft b r = todo.length := by
  obtain ⟨es, clock, since, seen, c0, hb, _, hr, _, _, _, hp⟩ := h
  simp only [World.rangeLeft, hb, hr]
  have := hp.length_eq
  simpa using this
theorem RngB.keep (h : RngB w b r l todo) (hb : w'.heap[b]? = w.heap[b]?) (hr : w'.heap[r]? = w.heap[r]?) : RngB w' b r l todo := by
  obtain ⟨es, clock, since, seen, c0, h1, h2, h3, h4⟩ := h
  exact ⟨es, clock, since, seen, c0, by rw [hb]; exact h1, h2, by rw [hr]; exact h3, h4⟩
theorem RngB.of_below (h : RngB w b r l todo) (hB : Below w.heap.size w w') : RngB w' b r l todo := h.keep (hB.block b h.map.lt) (hB.block r h.lt)
theorem RngB.of_perm (h : RngB w b r l todo) {l' : List (S8 × Value)} (hp : l.Perm l') : RngB w b r l' todo := by
  obtain ⟨es, clock, since, seen, c0, h1, h2, h3⟩ := h
  exact ⟨es, clock, since, seen, c0, h1, h2.of_perm hp, h3⟩
end
section
variable {P : Program} {T K E : TypeId} (hT : P.underlying T = some (.map K E)) (hK : P.underlying K = some .string)
variable {w : World} {b r : Nat} {l todo : List (S8 × Value)}
include hT
theorem run_range8 (h : MpB w b l) : ∃ w', (Instr.range T (.map (some b))).run P w = .ok (.pointer (some ⟨w.heap.size, 0, none⟩)) w' ∧ RngB w' b w.heap.size l l ∧ Below w.heap.size w w' ∧ w'.heap.size = w.heap.size + 1 := by
  have hlt := h.lt
  obtain ⟨es, clock, hb, h1⟩ := h
  refine ⟨_, run_range_map w T K E b es clock hT hb, ⟨es, clock, clock, #[], clock, ((MapKept.heap_alloc w _).2 b hlt).trans hb, h1, (MapKept.heap_alloc w _).1, h1.old, Nat.le_refl _, Nat.le_refl _, ?_⟩, (Below.refl _ _).alloc (Nat.le_refl _) _, by simp⟩
  rw [leftOf_list, List.filter_eq_self.2 (fun x _ => by simp)]
  exact h1.kv
omit hT
theorem run_next8 (ty : TypeId) (h : RngB w b r l todo) :
    (todo = [] ∧ (Instr.next (.pointer (some ⟨r, 0, none⟩)) false ty).run P w = .ok (.tuple #[.bool false]) w) ∨
    ∃ p v todo' w', todo.Perm ((p, v) :: todo') ∧ (p, v) ∈ l ∧ (Instr.next (.pointer (some ⟨r, 0, none⟩)) false ty).run P w = .ok (.tuple #[.bool true, .string (mkS p), v]) w' ∧ RngB w' b r l todo' ∧
      (Instr.entry (.pointer (some ⟨r, 0, none⟩))).run P w' = .ok (.tuple #[.string (mkS p), v]) w' ∧ w.grownBy w' (some r) ∧ w'.heap.size = w.heap.size := by
  have hne := h.ne
  obtain ⟨es, clock, since, seen, c0, hb, h1, hr, hold, hsc, hsk, hp⟩ := h
  rcases run_next_at (P := P) w ty r b since c0 seen es clock hr hb hold hsc with ⟨h0, hrun⟩ | ⟨e, he, w1, hal, hrun⟩
  · refine Or.inl ⟨?_, hrun⟩
    have := hp.length_eq
    simp only [List.length_map, Array.length_toList] at this
    exact List.eq_nil_of_length_eq_zero (by omega)
  · obtain ⟨hem, hes⟩ := mem_left he
    obtain ⟨p, v, hm, ek, ev⟩ := h1.mem hem
    have hr1 : w1.heap[r]? = some (.mapIter (some b) since seen c0) := by rcases hal with rfl | rfl <;> exact hr
    have hb1 : w1.heap[b]? = some (.map es clock) := by rcases hal with rfl | rfl <;> exact hb
    have hset := heap_set (o' := .mapIter (some b) since (seen.push e.born) clock) hr1
    have hb' : (setBlock w1 r (.mapIter (some b) since (seen.push e.born) clock)).heap[b]? = some (.map es clock) := (hset.2 b (fun e1 => hne e1.symm)).trans hb1
    have hin : kvE e ∈ todo.map kvS := hp.mem_iff.1 (List.mem_map.2 ⟨e, he, rfl⟩)
    obtain ⟨x, hx, ex⟩ := List.mem_map.1 hin
    have hxe : x = (p, v) := by
      rw [kvS, kvE, Prod.mk.injEq, ek, ev] at ex
      have : x.1 = p := keyV_inj.1 ex.1
      exact Prod.ext this ex.2
    subst hxe
    obtain ⟨todo', ht⟩ := List.append_of_mem hx
    obtain ⟨t2, ht⟩ := ht
    have hperm : todo.Perm ((p, v) :: (todo' ++ t2)) := by rw [ht]; exact List.perm_middle
    have hlp : (leftOf es seen).toList.Perm (e :: (leftOf es (seen.push e.born)).toList) := by
      rw [leftOf_list, leftOf_list]
      have hnd : ∀ (L : List MapEntry), (L.map (·.born)).Nodup → e ∈ L → (L.filter fun x => !seen.contains x.born).Perm (e :: L.filter fun x => !(seen.push e.born).contains x.born) := by
        intro L
        induction L with
        | nil => intro _ h; exact absurd h (by simp)
        | cons y r ih =>
          intro hn hy
          rw [List.map_cons, List.nodup_cons] at hn
          rcases List.mem_cons.1 hy with rfl | hy
          · rw [List.filter_cons_of_pos (by rw [hes]; rfl), List.filter_cons_of_neg (by rw [contains_push]; simp)]
            refine List.Perm.cons _ (List.Perm.of_eq (List.filter_congr fun z hz => ?_))
            rw [contains_push]
            have : (z.born == e.born) = false := by
              rw [beq_eq_false_iff_ne]
              intro e9
              exact hn.1 (by rw [← e9]; exact List.mem_map.2 ⟨z, hz, rfl⟩)
            rw [this]
            simp
          · have hyb : (y.born == e.born) = false := by
              rw [beq_eq_false_iff_ne]
              intro e9
              exact hn.1 (by rw [e9]; exact List.mem_map.2 ⟨e, hy, rfl⟩)
            rw [List.filter_cons, List.filter_cons, contains_push, hyb]
            cases hs : seen.contains y.born
            · simp only [Bool.not_false, if_true, Bool.or_false]
              exact ((ih hn.2 hy).cons y).trans (List.Perm.swap _ _ _)
            · simp only [Bool.not_true, Bool.false_eq_true, if_false, Bool.or_false, Bool.true_or, Bool.not_true]
              exact ih hn.2 hy
      exact hnd es.toList h1.born hem
    have hrest : ((leftOf es (seen.push e.born)).toList.map kvE).Perm ((todo' ++ t2).map kvS) := by
      have q1 := (hlp.map kvE).symm.trans (hp.trans (hperm.map kvS))
      rw [List.map_cons, List.map_cons] at q1
      have e3 : kvE e = kvS (p, v) := by rw [kvE, kvS, ek, ev]
      rw [e3] at q1
      exact q1.cons_inv
    refine Or.inr ⟨p, v, todo' ++ t2, _, hperm, hm, by rw [ek, ev] at hrun; exact hrun, ⟨es, clock, since, seen.push e.born, clock, hb', h1, hset.1, hold, hsk, hsk, hrest⟩, by rw [← ek, ← ev]; exact run_entry_at _ r b since seen es clock e hset.1 hb' hem h1.born, ?_, ?_⟩
    · rcases hal with rfl | rfl <;> exact ⟨rfl, rfl, rfl, by simp [setBlock], fun i _ hi => hset.2 i (fun e1 => hi (by rw [e1]))⟩
    · rcases hal with rfl | rfl <;> simp [setBlock]
include hT hK
/-- An entry that has come is deleted. -/
theorem run_drop8 {ty : TypeId} (h : RngB w b r l todo) (p : S8) (hp : ∀ x ∈ todo, x.1 ≠ p) : ∃ w', (Builtin.delete_ #[T, K] ty #[.map (some b), .string (mkS p)]).run P w = .ok (.tuple #[]) w' ∧ RngB w' b r (delV l p) todo ∧ w.grownBy w' (some b) ∧ w'.heap.size = w.heap.size := by
  have hm := h.map
  have hne := h.ne
  have hlt := hm.lt
  obtain ⟨es, clock, since, seen, c0, hb, h1, hr, hold, hsc, hsk, hl⟩ := h
  have hkey : IsKey .string (.string (mkS p)) := trivial
  obtain ⟨w', hrun, ⟨es2, clock2, hb2, h2⟩, hg, hs⟩ := run_delete8 hT hK (ty := ty) hm p
  refine ⟨w', hrun, ?_, hg, hs⟩
  have hr2 : w'.heap[r]? = some (.mapIter (some b) since seen c0) := by rw [hg.block r ((Array.getElem?_eq_some_iff.1 hr).1) (by simpa using hne)]; exact hr
  rcases findNow_spec hkey es.toList 0 h1.isKey with ⟨g1, g2⟩ | ⟨j, e, g1, g2, g3⟩
  · have hrun2 : (Builtin.delete_ #[T, K] ty #[.map (some b), .string (mkS p)]).run P w = .ok (.tuple #[]) (setBlock w b (.map es clock)) := by
      simp [Builtin.delete_, run_underlying hT, MapKept.run_getObj_map hb, run_checkKey hK hkey, run_findKey hK g1, MapKept.run_setObj_map _ hb, Result.andThen, setBlock]
    rw [hrun] at hrun2
    injection hrun2 with _ hrun2
    subst hrun2
    rw [setB_at hlt] at hb2
    injection hb2 with hb2
    injection hb2 with e1 e2
    subst e1 e2
    exact ⟨es, clock, since, seen, c0, setB_at hlt, h2, hr2, hold, hsc, hsk, hl⟩
  · have hjl : j < es.toList.length := (List.getElem?_eq_some_iff.1 g2).1
    have hjs : j < es.size := by simpa using hjl
    have hrun2 : (Builtin.delete_ #[T, K] ty #[.map (some b), .string (mkS p)]).run P w = .ok (.tuple #[]) (setBlock w b (.map (es.eraseIdxIfInBounds j) clock)) := by
      simp [Builtin.delete_, run_underlying hT, MapKept.run_getObj_map hb, run_checkKey hK hkey, run_findKey hK g1, MapKept.run_setObj_map _ hb, Result.andThen, setBlock]
    rw [hrun] at hrun2
    injection hrun2 with _ hrun2
    subst hrun2
    rw [setB_at hlt] at hb2
    injection hb2 with hb2
    injection hb2 with e1 e2
    subst e1 e2
    have hsub : (es.eraseIdxIfInBounds j).toList = es.toList.eraseIdx j := by
      unfold Array.eraseIdxIfInBounds
      rw [dif_pos hjs]
      simp
    refine ⟨_, clock, since, seen, c0, setB_at hlt, h2, hr2, fun x hx => hold x (by rw [hsub] at hx; exact (List.eraseIdx_sublist _ _).subset hx), hsc, hsk, ?_⟩
    have q2 : es.toList.Perm (e :: es.toList.eraseIdx j) := by
      have q5 := ChangeMaps.set_perm es.toList j hjl e
      have q6 : es.toList.set j e = es.toList := by
        rw [List.getElem?_eq_getElem hjl] at g2
        injection g2 with g2
        rw [← g2, List.set_getElem_self]
      rw [q6] at q5
      exact q5
    have hseen : seen.contains e.born = true := by
      cases hc : seen.contains e.born
      · exfalso
        have he : e ∈ (leftOf es seen).toList := by
          rw [leftOf_list, List.mem_filter]
          exact ⟨List.mem_of_getElem? g2, by rw [hc]; rfl⟩
        have hin : kvE e ∈ todo.map kvS := hl.mem_iff.1 (List.mem_map.2 ⟨e, he, rfl⟩)
        obtain ⟨x, hx, ex⟩ := List.mem_map.1 hin
        rw [kvS, kvE, Prod.mk.injEq, g3] at ex
        exact hp x hx (keyV_inj.1 ex.1)
      · rfl
    rw [leftOf_list, hsub]
    rw [leftOf_list] at hl
    have q7 := (q2.filter (fun e => !seen.contains e.born))
    rw [List.filter_cons_of_neg (by rw [hseen]; decide)] at q7
    exact (q7.symm.map kvE).trans hl
end
section
variable {P : Program} (w : World) {ops : Array Oper} {rest : List Oper} {o : Oper} {a : Go.Act} {Q : Exit → Go.Act → World → Prop} {T K E : TypeId} {b r : Nat} {l todo : List (S8 × Value)}
theorem wpl_range8 (hg : o.guard = none) (m : Operand) (hop : o.op = Op.range T m) (hT : P.underlying T = some (.map K E)) (hm : a.eval m = .map (some b)) (h : MpB w b l)
    (hQ : ∀ w', RngB w' b w.heap.size l l → Below w.heap.size w w' → w'.heap.size = w.heap.size + 1 → wpList P ops Q rest (a.put o.dst (.pointer (some ⟨w.heap.size, 0, none⟩))) w') : wpList P ops Q (o :: rest) a w := by
  refine wpList_plain hg fun K' hK' => ?_
  obtain ⟨w', hrun, r1, r2, r3⟩ := run_range8 (P := P) hT h
  unfold Oper.wp
  simp [execOp, hop, hm, hrun, Result.andThen]
  exact hK' _ _ (hQ w' r1 r2 r3)
theorem wpl_next8 (hg : o.guard = none) (it : Operand) (hop : o.op = Op.next it false) (hit : a.eval it = .pointer (some ⟨r, 0, none⟩)) (h : RngB w b r l todo)
    (hD : todo = [] → wpList P ops Q rest (a.put o.dst (.tuple #[.bool false])) w)
    (hM : ∀ p v todo' w', todo.Perm ((p, v) :: todo') → (p, v) ∈ l → RngB w' b r l todo' → (Instr.entry (.pointer (some ⟨r, 0, none⟩))).run P w' = .ok (.tuple #[.string (mkS p), v]) w' → w.grownBy w' (some r) → w'.heap.size = w.heap.size → wpList P ops Q rest (a.put o.dst (.tuple #[.bool true, .string (mkS p), v])) w') : wpList P ops Q (o :: rest) a w := by
  refine wpList_plain hg fun K' hK' => ?_
  unfold Oper.wp
  rcases run_next8 (P := P) o.type h with ⟨h0, hrun⟩ | ⟨p, v, todo', w', h1, h2, hrun, h3, h4, h5, h6⟩
  · simp [execOp, hop, hit, hrun, Result.andThen]
    exact hK' _ _ (hD h0)
  · simp [execOp, hop, hit, hrun, Result.andThen]
    exact hK' _ _ (hM p v todo' w' h1 h2 h3 h4 h5 h6)
theorem wpl_drop8 (hg : o.guard = none) (m x : Operand) (hop : o.op = Op.call { callee := Callee.builtin Builtin.delete, args := #[m, x], argTypes := #[T, K] }) (hT : P.underlying T = some (.map K E)) (hK : P.underlying K = some .string)
    (hm : a.eval m = .map (some b)) (h : RngB w b r l todo) (p : S8) (hx : a.eval x = .string (mkS p)) (hp : ∀ x ∈ todo, x.1 ≠ p)
    (hQ : ∀ w', RngB w' b r (delV l p) todo → w.grownBy w' (some b) → w'.heap.size = w.heap.size → wpList P ops Q rest (a.put o.dst (.tuple #[])) w') : wpList P ops Q (o :: rest) a w := by
  refine wpList_plain hg fun K' hK' => ?_
  obtain ⟨w', hrun, r1, r2, r3⟩ := run_drop8 (P := P) hT hK (ty := o.type) h p hp
  unfold Oper.wp
  simp [execOp, hop, resolve, invoke, builtin, hm, hx, hrun, Result.andThen]
  exact hK' _ _ (hQ w' r1 r2 r3)
theorem wpl_delete8 (hg : o.guard = none) (m x : Operand) (hop : o.op = Op.call { callee := Callee.builtin Builtin.delete, args := #[m, x], argTypes := #[T, K] }) (hT : P.underlying T = some (.map K E)) (hK : P.underlying K = some .string)
    (hm : a.eval m = .map (some b)) (h : MpB w b l) (p : S8) (hx : a.eval x = .string (mkS p))
    (hQ : ∀ w', MpB w' b (delV l p) → w.grownBy w' (some b) → w'.heap.size = w.heap.size → wpList P ops Q rest (a.put o.dst (.tuple #[])) w') : wpList P ops Q (o :: rest) a w := by
  refine wpList_plain hg fun K' hK' => ?_
  obtain ⟨w', hrun, r1, r2, r3⟩ := run_delete8 (P := P) hT hK (ty := o.type) h p
  unfold Oper.wp
  simp [execOp, hop, resolve, invoke, builtin, hm, hx, hrun, Result.andThen]
  exact hK' _ _ (hQ w' r1 r2 r3)
theorem wpl_update8 (hg : o.guard = none) (m x v : Operand) (hop : o.op = Op.mapUpdate T m x v) (hT : P.underlying T = some (.map K E)) (hK : P.underlying K = some .string)
    (hm : a.eval m = .map (some b)) (h : MpB w b l) (p : S8) (hx : a.eval x = .string (mkS p)) (val : Value) (hv : a.eval v = val)
    (hQ : ∀ w', MpB w' b (putV l p val) → w.grownBy w' (some b) → w'.heap.size = w.heap.size → wpList P ops Q rest (a.put o.dst undef) w') : wpList P ops Q (o :: rest) a w := by
  refine wpList_plain hg fun K' hK' => ?_
  obtain ⟨w', hrun, r1, r2, r3⟩ := run_update8 (P := P) hT hK h p val
  unfold Oper.wp
  simp [execOp, hop, hm, hx, hv, hrun, Result.andThen]
  exact hK' _ _ (hQ w' r1 r2 r3)
end
end Go.Proofs.YtkajeepbelfpiaaGreatDoor
/- A disk by definition: lists of files and of changes, bytes by their numbers. -/
set_option maxRecDepth 100000
namespace Go.Proofs.YtkajeepbelfpiaaGreatDoor
open Go Go.RowKit
attribute [-go_sem] Sha.exec_store

structure Fl where
  p : S8
  body : Nat
  size : Int
  time : Int
  chg : Int
structure Ch where
  kind : Nat
  src : S8
  file : Fl
structure Dk where
  room : Int
  count : Int
  bodies : List S8
  seen : List Fl
  safe : List Fl
  waits : List Ch
def fl0 : Fl := ⟨[], 0, 0, 0, 0⟩
section
variable {α : Type} (enc : α → List Value) (k : Nat) (hk : ∀ x, (enc x).length = k)
include hk
end
/-- The place of a path. -/
def findL (l : List Fl) (p : S8) : Option Nat := l.findIdx? fun f => f.p == p
def clashL (a b : S8) : Bool := inL a b || inL b a
def clashesL (l : List Fl) (p but : S8) : Bool := l.any fun f => f.p != but && clashL f.p p
def withoutL (l : List Fl) (p : S8) (cl : Bool) : List Fl := l.filter fun f => f.p != p && !(cl && clashL f.p p)
def doL (l : List Fl) (c : Ch) : List Fl :=
  match c.kind with
  | 1 => withoutL l c.file.p true ++ [c.file]
  | 2 => match findL l c.src with
    | none => l
    | some i => withoutL (withoutL l c.src false) c.file.p true ++ [{ l.getD i fl0 with p := c.file.p }]
  | _ => withoutL l c.src false
def changeL (d : Dk) (c : Ch) : Dk := { d with seen := doL d.seen c, waits := d.waits ++ [c] }
def bodyD (d : Dk) (f : Fl) : S8 := d.bodies.getD f.body []
def usedL (d : Dk) : Nat := (d.seen.map fun f => (bodyD d f).length).sum
def leftL (d : Dk) (p : S8) : Int := d.room - (usedL d : Int) + (match findL d.seen p with | some i => ((bodyD d (d.seen.getD i fl0)).length : Int) | none => 0)
def writeL (d : Dk) (p b : S8) (time : Int) : Dk × Nat :=
  if !goodL p then (d, 7)
  else if 262144 < b.length then (d, 1)
  else if clashesL d.seen p p then (d, 9)
  else if (findL d.seen p).isNone && decide (64 ≤ d.seen.length) then (d, 14)
  else if leftL d p < (b.length : Int) then (d, 10)
  else (changeL { d with count := d.count + 1, bodies := d.bodies ++ [b] } ⟨1, [], ⟨p, d.bodies.length, b.length, time, d.count + 1⟩⟩, 0)
def renameL (d : Dk) (src dst : S8) : Dk × Nat :=
  if (findL d.seen src).isNone then (d, 8)
  else if !goodL dst then (d, 7)
  else if clashesL d.seen dst src then (d, 9)
  else (changeL d ⟨2, src, { fl0 with p := dst }⟩, 0)
def removeL (d : Dk) (p : S8) : Dk × Nat := if (findL d.seen p).isNone then (d, 8) else (changeL d ⟨3, p, fl0⟩, 0)
def syncL (d : Dk) : Dk := { d with safe := d.seen, waits := [] }
end Go.Proofs.YtkajeepbelfpiaaGreatDoor
/- What holds of every plain disk after so many calls. -/
set_option maxRecDepth 100000
namespace Go.Proofs.YtkajeepbelfpiaaGreatDoor
open Go Go.RowKit
attribute [-go_sem] Sha.exec_store

/-- No path of the list is long. -/
def ShortF (l : List Fl) : Prop := ∀ j, (l.getD j fl0).p.length ≤ 100
/-- A change as the disk makes it. -/
structure ChOk (c : Ch) : Prop where
  kind : c.kind = 1 ∨ c.kind = 2 ∨ c.kind = 3
  path : c.file.p.length ≤ 100
  src : c.src.length < 100000
theorem findL_lt {l : List Fl} {p : S8} {i : Nat} (h : findL l p = some i) : i < l.length := by
  unfold findL at h
  rw [List.findIdx?_eq_some_iff_getElem] at h
  exact h.1
theorem goodL_len {l : S8} (h : goodL l = true) : l.length ≤ 100 := by
  unfold goodL at h
  simp only [Bool.and_eq_true, decide_eq_true_eq] at h
  omega
def usedTo (m : Dk) (k : Nat) : Nat := ((m.seen.take k).map fun f => (bodyD m f).length).sum
theorem usedTo_succ (m : Dk) (k : Nat) (hk : k < m.seen.length) : usedTo m (k + 1) = usedTo m k + (bodyD m (m.seen.getD k fl0)).length := by
  unfold usedTo
  rw [List.take_succ_eq_append_getElem hk, List.map_append, List.sum_append]
  have e : m.seen.getD k fl0 = m.seen[k] := by rw [List.getD_eq_getElem?_getD, List.getElem?_eq_getElem hk]; rfl
  rw [e]
  simp
theorem usedTo_all (m : Dk) : usedTo m m.seen.length = usedL m := by unfold usedTo usedL; rw [List.take_length]
/-- No body is long. -/
def ShortB (m : Dk) : Prop := ∀ i, (m.bodies.getD i []).length ≤ 300000
theorem usedTo_le (m : Dk) (hB : ShortB m) (k : Nat) : usedTo m k ≤ k * 300000 := by
  induction k with
  | zero => simp [usedTo]
  | succ k ih =>
    by_cases hk : k < m.seen.length
    · rw [usedTo_succ m k hk]
      have : (bodyD m (m.seen.getD k fl0)).length ≤ 300000 := hB _
      omega
    · have : usedTo m (k + 1) = usedTo m k := by unfold usedTo; rw [List.take_of_length_le (by omega), List.take_of_length_le (by omega)]
      omega
theorem shortF_iff {l : List Fl} : ShortF l ↔ ∀ f ∈ l, f.p.length ≤ 100 := by
  constructor
  · intro h f hf
    obtain ⟨j, hj, rfl⟩ := List.getElem_of_mem hf
    have := h j
    rw [List.getD_eq_getElem?_getD, List.getElem?_eq_getElem hj] at this
    exact this
  · intro h j
    by_cases hj : j < l.length
    · rw [List.getD_eq_getElem?_getD, List.getElem?_eq_getElem hj]
      exact h _ (List.getElem_mem hj)
    · rw [List.getD_eq_getElem?_getD, List.getElem?_eq_none (by omega)]
      exact Nat.zero_le _
theorem without_len (l : List Fl) (p : S8) (cl : Bool) : (withoutL l p cl).length ≤ l.length := by unfold withoutL; exact List.length_filter_le _ _
theorem doL_len (l : List Fl) (c : Ch) : (doL l c).length ≤ l.length + 1 := by
  unfold doL
  split
  · rw [List.length_append]
    exact Nat.add_le_add_right (without_len _ _ _) 1
  · split
    · omega
    · rw [List.length_append]
      exact Nat.add_le_add_right (Nat.le_trans (without_len _ _ _) (without_len _ _ _)) 1
  · exact Nat.le_trans (without_len _ _ _) (Nat.le_succ _)
theorem doL_short {l : List Fl} {c : Ch} (hc : ChOk c) (h : ShortF l) : ShortF (doL l c) := by
  rw [shortF_iff] at h ⊢
  have hw : ∀ {l : List Fl} {p cl f}, f ∈ withoutL l p cl → f ∈ l := fun hf => by unfold withoutL at hf; exact (List.mem_filter.1 hf).1
  intro f hf
  unfold doL at hf
  split at hf
  · rcases List.mem_append.1 hf with hf | hf
    · exact h f (hw hf)
    · simp at hf
      subst hf
      exact hc.path
  · split at hf
    · exact h f hf
    · rcases List.mem_append.1 hf with hf | hf
      · exact h f (hw (hw hf))
      · simp at hf
        subst hf
        exact hc.path
  · exact h f (hw hf)
theorem leftL_none {m : Dk} {p : S8} (hf : findL m.seen p = none) : leftL m p = m.room - (usedL m : Int) := by unfold leftL; rw [hf]; simp
theorem leftL_some {m : Dk} {p : S8} {i : Nat} (hf : findL m.seen p = some i) : leftL m p = m.room - (usedL m : Int) + ((bodyD m (m.seen.getD i fl0)).length : Int) := by unfold leftL; rw [hf]
theorem usedL_le {m : Dk} (hB : ShortB m) {n : Nat} (hn : m.seen.length = n) : usedL m ≤ n * 300000 := by
  have := usedTo_le m hB n
  rwa [← hn, usedTo_all, hn] at this
/-- A disk after at most n calls. -/
structure DkOk (n : Nat) (m : Dk) : Prop where
  seen : m.seen.length ≤ n
  both : m.safe.length + m.waits.length ≤ n
  bod : m.bodies.length ≤ n
  cnt0 : 0 ≤ m.count
  cnt1 : m.count ≤ n
  shS : ShortF m.seen
  shF : ShortF m.safe
  chk : ∀ c ∈ m.waits, ChOk c
  inS : ∀ f ∈ m.seen, f.body < m.bodies.length
  inF : ∀ f ∈ m.safe, f.body < m.bodies.length
  inW : ∀ c ∈ m.waits, c.kind = 1 → c.file.body < m.bodies.length
  bs : ∀ b ∈ m.bodies, b.length ≤ 262144
theorem without_mem {l : List Fl} {p : S8} {cl : Bool} {f : Fl} (hf : f ∈ withoutL l p cl) : f ∈ l := by unfold withoutL at hf; exact (List.mem_filter.1 hf).1
theorem doL_body {l : List Fl} {c : Ch} {f : Fl} (hf : f ∈ doL l c) : (∃ g ∈ l, g.body = f.body) ∨ (c.kind = 1 ∧ f.body = c.file.body) := by
  unfold doL at hf
  split at hf
  · rename_i hk
    rcases List.mem_append.1 hf with hf | hf
    · exact .inl ⟨f, without_mem hf, rfl⟩
    · simp at hf
      subst hf
      exact .inr ⟨hk, rfl⟩
  · split at hf
    · exact .inl ⟨f, hf, rfl⟩
    · rename_i i hi
      rcases List.mem_append.1 hf with hf | hf
      · exact .inl ⟨f, without_mem (without_mem hf), rfl⟩
      · simp at hf
        have hil := findL_lt hi
        refine .inl ⟨l[i], List.getElem_mem hil, ?_⟩
        rw [hf, List.getElem?_eq_getElem hil]
        rfl
  · exact .inl ⟨f, without_mem hf, rfl⟩
section
variable {n : Nat} {m : Dk}
theorem DkOk.zero (room : Int) : DkOk 0 ⟨room, 0, [], [], [], []⟩ :=
  ⟨Nat.le_refl _, Nat.le_refl _, Nat.le_refl _, Int.le_refl _, Int.le_refl _, fun _ => Nat.zero_le _, fun _ => Nat.zero_le _, fun c hc => absurd hc (by simp), fun c hc => absurd hc (by simp), fun c hc => absurd hc (by simp), fun c hc => absurd hc (by simp), fun c hc => absurd hc (by simp)⟩
theorem DkOk.more (h : DkOk n m) : DkOk (n + 1) m :=
  ⟨by have := h.seen; omega, by have := h.both; omega, by have := h.bod; omega, h.cnt0, by have := h.cnt1; push_cast; omega, h.shS, h.shF, h.chk, h.inS, h.inF, h.inW, h.bs⟩
theorem DkOk.mono (h : DkOk n m) {k : Nat} (hk : n ≤ k) : DkOk k m :=
  ⟨Nat.le_trans h.seen hk, Nat.le_trans h.both hk, Nat.le_trans h.bod hk, h.cnt0, Int.le_trans h.cnt1 (by exact_mod_cast hk), h.shS, h.shF, h.chk, h.inS, h.inF, h.inW, h.bs⟩
theorem DkOk.shortB (h : DkOk n m) : ShortB m := fun i => by
  by_cases hi : i < m.bodies.length
  · rw [List.getD_eq_getElem?_getD, List.getElem?_eq_getElem hi]
    exact Nat.le_trans (h.bs _ (List.getElem_mem hi)) (by decide)
  · rw [List.getD_eq_getElem?_getD, List.getElem?_eq_none (by omega)]
    exact Nat.zero_le _
theorem DkOk.change (h : DkOk n m) (c : Ch) (hc : ChOk c) (hb : c.kind = 1 → c.file.body < m.bodies.length) : DkOk (n + 1) (changeL m c) := by
  refine ⟨Nat.le_trans (doL_len _ _) (Nat.add_le_add_right h.seen 1), ?_, Nat.le_trans h.bod (Nat.le_succ _), h.cnt0, by have := h.cnt1; show m.count ≤ _; push_cast; omega, doL_short hc h.shS, h.shF, ?_, ?_, h.inF, ?_, h.bs⟩
  · show m.safe.length + (m.waits ++ [c]).length ≤ _
    have := h.both
    rw [List.length_append]
    simp
    omega
  · intro x hx
    rcases List.mem_append.1 hx with hx | hx
    · exact h.chk x hx
    · simp at hx
      subst hx
      exact hc
  · intro f hf
    rcases doL_body hf with ⟨g, hg, e⟩ | ⟨hk, e⟩
    · rw [← e]; exact h.inS g hg
    · rw [e]; exact hb hk
  · intro x hx
    rcases List.mem_append.1 hx with hx | hx
    · exact h.inW x hx
    · simp at hx
      subst hx
      exact hb
theorem DkOk.remove (h : DkOk n m) (p : S8) (hp : p.length < 100000) : DkOk (n + 1) (removeL m p).1 := by
  unfold removeL
  split
  · exact h.more
  · exact h.change _ ⟨.inr (.inr rfl), Nat.zero_le _, hp⟩ (fun e => by exact absurd (show (3 : Nat) = 1 from e) (by decide))
theorem DkOk.rename (h : DkOk n m) (p q : S8) (hp : p.length < 100000) : DkOk (n + 1) (renameL m p q).1 := by
  unfold renameL
  split
  · exact h.more
  · split
    · exact h.more
    · rename_i hg
      split
      · exact h.more
      · exact h.change _ ⟨.inr (.inl rfl), goodL_len (by simpa using hg), hp⟩ (fun e => by exact absurd (show (2 : Nat) = 1 from e) (by decide))
theorem DkOk.sync (h : DkOk n m) : DkOk n (syncL m) :=
  ⟨h.seen, by show m.seen.length + 0 ≤ n; exact h.seen, h.bod, h.cnt0, h.cnt1, h.shS, h.shS, fun c hc => absurd hc (by simp [syncL]), h.inS, h.inS, fun c hc => absurd hc (by simp [syncL]), h.bs⟩
theorem DkOk.write (h : DkOk n m) (p b : S8) (time : Int) : DkOk (n + 1) (writeL m p b time).1 := by
  unfold writeL
  split
  · exact h.more
  · rename_i hg
    split
    · exact h.more
    · rename_i hl
      split
      · exact h.more
      · split
        · exact h.more
        · split
          · exact h.more
          · have hg2 : goodL p = true := by simpa using hg
            have h2 : ∀ k, k < m.bodies.length → k < (m.bodies ++ [b]).length := fun k hk => by rw [List.length_append]; omega
            refine ⟨(show (doL m.seen ⟨1, [], ⟨p, m.bodies.length, b.length, time, m.count + 1⟩⟩).length ≤ n + 1 from Nat.le_trans (doL_len _ _) (Nat.add_le_add_right h.seen 1)), ?_, ?_, ?_, ?_, (show ShortF (doL m.seen ⟨1, [], ⟨p, m.bodies.length, b.length, time, m.count + 1⟩⟩) from doL_short ⟨.inl rfl, goodL_len hg2, Nat.zero_lt_succ _⟩ h.shS), h.shF, ?_, ?_, fun f hf => h2 _ (h.inF f hf), ?_, ?_⟩
            · show m.safe.length + (m.waits ++ [_]).length ≤ _
              have := h.both
              rw [List.length_append]
              simp
              omega
            · show (m.bodies ++ [b]).length ≤ _
              have := h.bod
              rw [List.length_append]
              simp
              omega
            · show 0 ≤ m.count + 1
              have := h.cnt0
              omega
            · show m.count + 1 ≤ _
              have := h.cnt1
              push_cast
              omega
            · intro x hx
              rcases List.mem_append.1 hx with hx | hx
              · exact h.chk x hx
              · simp at hx
                subst hx
                exact ⟨.inl rfl, goodL_len hg2, by exact Nat.zero_lt_succ _⟩
            · intro f hf
              replace hf : f ∈ doL m.seen ⟨1, [], ⟨p, m.bodies.length, b.length, time, m.count + 1⟩⟩ := hf
              rcases doL_body hf with ⟨g, hg, e⟩ | ⟨hk, e⟩
              · rw [← e]; exact h2 _ (h.inS g hg)
              · rw [e]
                show m.bodies.length < (m.bodies ++ [b]).length
                rw [List.length_append]
                simp
            · intro x hx hk
              rcases List.mem_append.1 hx with hx | hx
              · exact h2 _ (h.inW x hx hk)
              · simp at hx
                subst hx
                show m.bodies.length < (m.bodies ++ [b]).length
                rw [List.length_append]
                simp
            · intro x hx
              rcases List.mem_append.1 hx with hx | hx
              · exact h.bs x hx
              · simp at hx
                subst hx
                omega
end
end Go.Proofs.YtkajeepbelfpiaaGreatDoor
/- Files as the entries of a map. -/
set_option maxRecDepth 100000
namespace Go.Proofs.YtkajeepbelfpiaaGreatDoor
open Go Go.RowKit
attribute [-go_sem] Sha.exec_store

/-- Where bytes lie. -/
structure Hn where
  q : Option Addr
  n : Nat
  c : Nat
/-- A file as a value: its stamp and where its bytes lie. -/
def fileC (sl : Nat → Hn) (f : Fl) : Array Value := #[.int .i64 f.size, .int .i64 f.time, .int .i64 f.chg, .slice (sl f.body).q (sl f.body).n (sl f.body).c]
def fileV (sl : Nat → Hn) (f : Fl) : Value := .agg (fileC sl f)
def entV (sl : Nat → Hn) (f : Fl) : S8 × Value := (f.p, fileV sl f)
section
variable (sl : Nat → Hn) (l : List Fl)
theorem findV_ent (p : S8) : findV (l.map (entV sl)) p = (findL l p).map fun i => fileV sl (l.getD i fl0) := by
  induction l with
  | nil => rfl
  | cons x r ih =>
    have e2 : findL (x :: r) p = if x.p == p then some 0 else (findL r p).map (· + 1) := by
      unfold findL
      rw [List.findIdx?_cons]
    have e1 : findV (entV sl x :: r.map (entV sl)) p = if x.p == p then some (fileV sl x) else findV (r.map (entV sl)) p := by
      unfold findV
      rw [List.find?_cons]
      show Option.map _ (match x.p == p with | true => some (entV sl x) | false => _) = _
      cases x.p == p <;> rfl
    rw [List.map_cons, e1, e2]
    by_cases h : (x.p == p) = true
    · rw [if_pos h, if_pos h]
      rfl
    · rw [if_neg h, if_neg h, ih]
      cases findL r p <;> rfl
theorem delV_ent (p : S8) : delV (l.map (entV sl)) p = (withoutL l p false).map (entV sl) := by
  unfold delV withoutL
  rw [List.filter_map]
  refine congrArg (List.map (entV sl)) (List.filter_congr fun f _ => ?_)
  simp [entV]
theorem putV_ent (p : S8) (f : Fl) (hf : f.p = p) : (putV ((l.map (entV sl)).filter fun x => !clashL x.1 p) p (fileV sl f)).Perm ((withoutL l p true ++ [f]).map (entV sl)) := by
  unfold putV
  have e : delV ((l.map (entV sl)).filter fun x => !clashL x.1 p) p = (withoutL l p true).map (entV sl) := by
    unfold delV withoutL
    rw [List.filter_filter, List.filter_map]
    refine congrArg (List.map (entV sl)) (List.filter_congr fun x _ => ?_)
    simp [entV]
  rw [e, List.map_append, List.map_cons, List.map_nil]
  have : entV sl f = (p, fileV sl f) := by unfold entV; rw [hf]
  rw [this]
  exact (List.perm_append_singleton _ _).symm
end
/-- The paths in a list are each there once. -/
def OnceF (l : List Fl) : Prop := (l.map Fl.p).Nodup
theorem MpB.once {w : World} {b : Nat} {sl : Nat → Hn} {l : List Fl} (h : MpB w b (l.map (entV sl))) : OnceF l := by
  have := h.keys
  rw [List.map_map] at this
  exact this
end Go.Proofs.YtkajeepbelfpiaaGreatDoor
