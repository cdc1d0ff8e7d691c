/- Merged texts: Bad10, Rea10, Cut10, Cuts10, Stores, Awk10, Lift, LiftV9, LiftS7, LiftR10, LiftT10, RefS7, RefK7. -/
import Derived.Deep.RegionHeld3
import Derived.Test.YtfemgkamgokjcaaGreatDoorK3
import Derived.Test.YtfemgkamgokjcaaGreatDoorK4
import Derived.Test.YtfemgkamgokjcaaGreatDoorK2
import Derived.Test.YtfemgkamgokjcaaGreatDoorRows
import Derived.Test.YtfemgkamgokjcaaGreatDoorBase
import Derived.ProofKit
import Derived.OpenShut
import Derived.Deep.DeepHandedRow
import Derived.Test.YtfemgkamgokjcaaGreatDoorVec9
import Derived.Test.YtfemgkamgokjcaaGreatDoorStr7
import Derived.Deep.Slices
import Derived.Lib.LaidTab
import Derived.Test.YtfemgkamgokjcaaGreatDoorSha10
import Derived.Test.YtfemgkamgokjcaaGreatDoorRef7
set_option linter.unusedSimpArgs false
set_option linter.unusedVariables false
/- A record and its own bytes: has, Bad, Fits. -/
set_option maxRecDepth 100000
namespace Go.Proofs.YtfemgkamgokjcaaGreatDoor
open Go Go.RowKit Go.Shelf

attribute [-go_sem] Sha.exec_store
theorem exec_loadP (r : Operand → Value) (dst : Option Tmp) (p : Operand) (ty : TypeId) (pos : String) (after : Array Edge) (guard : Option (Nat × Bool)) :
    execOp r ⟨dst, .load 33 p, ty, pos, after, guard⟩ = ldT 33 (r p) := rfl
attribute [local go_sem ↓] exec_boxA exec_loadA exec_indexA exec_allocA exec_storeA exec_buildA exec_eqlA exec_neqA exec_boxV exec_loadV exec_indexV exec_allocV exec_storeV exec_buildV exec_eqlV exec_neqV
attribute [local go_sem] boxA indexA storeNewA buildA eqlA neqA boxV indexV storeNewV buildV eqlV neqV
attribute [local go_sem ↓] exec_loadS exec_boxS exec_boxP exec_boxM exec_loadP exec_load32 exec_build32 exec_eqlD exec_neqD exec_bs
attribute [local go_sem] box_stamp boxP boxM bd32 eqlD neqD deq_self bsSl

/-- What the walk of Bad carries. -/
def InvBd (w : World) (N : Nat) (r : Rc) (A : World) : Prop := A.cell? ⟨N + 1, 0, none⟩ = some (.slice none 0 0) ∧ Row A N 33 54 (rcF r) ∧ Below w.heap.size w A ∧ N + 3 ≤ A.heap.size
theorem InvBd.of_below {w : World} {N : Nat} {r : Rc} {A A' : World} (h : InvBd w N r A) (hB : Below A.heap.size A A') : InvBd w N r A' :=
  ⟨by rw [hB.cell (by exact World.block_lt_of_cell? A _ h.1)]; exact h.1, h.2.1.of_below hB, h.2.2.1.trans (hB.mono h.2.2.1.size), Nat.le_trans h.2.2.2 hB.size⟩
theorem InvBd.put {w : World} {N k : Nat} {r : Rc} {A : World} {o : Obj} (h : InvBd w N r A) (hw : w.heap.size = N) (hk : N + 3 ≤ k) (hlt : k < A.heap.size) : InvBd w N r (A.putObj k o) := by
  have hB := below_putP (N := N + 3) (A := A) o hk hlt
  refine ⟨by rw [hB.cell (by show N + 1 < _; omega)]; exact h.1, ?_, h.2.2.1.trans (hB.mono (by omega)), Nat.le_trans h.2.2.2 hB.size⟩
  have := h.2.1
  unfold Row at this ⊢
  rw [hB.block N (by omega)]; exact this
theorem InvBd.bears (w : World) (N : Nat) (r : Rc) (hw : w.heap.size = N) : BearsP (N + 3) (fun (_ : List Nat) A => InvBd w N r A) :=
  ⟨fun pre A o h => h.of_below (below_newD _ _), fun pre A o hlt h => h.put hw (by omega) hlt, fun pre A k h => h.of_below ((show Dr A (A.drewN k) from ⟨k, rfl⟩).below _)⟩
section
attribute [local go_sem] Oper.semAt_some
theorem loadP_at {w : World} {b : Nat} {r : Rc} (h : Row w b 33 54 (rcF r)) : (ldT 33 (.pointer (some ⟨b, 0, none⟩))).run Tryz.prog w = .ok (.value (rcV r)) w := loadRT rtP h
end
end Go.Proofs.YtfemgkamgokjcaaGreatDoor
/- A record in the words of the program; records compared. -/
set_option maxRecDepth 100000
namespace Go.Proofs.YtfemgkamgokjcaaGreatDoor
open Go Go.RowKit

attribute [-go_sem] Sha.exec_store
theorem below_gf {x y z : World} (h : Below x.heap.size x y) (hg : y.grownBy z (Value.slice (some ⟨x.heap.size, 0, none⟩) 0 0).ownBlock) (hs : x.heap.size ≤ y.heap.size) : Below x.heap.size x z :=
  h.grown hg hs (fun k hk => by have : x.heap.size = k := (by simpa [Value.ownBlock] using hk); omega)
attribute [local go_sem ↓] exec_boxA exec_loadA exec_indexA exec_allocA exec_storeA exec_buildA exec_eqlA exec_neqA exec_boxV exec_loadV exec_indexV exec_allocV exec_storeV exec_buildV exec_eqlV exec_neqV
attribute [local go_sem] boxA indexA storeNewA buildA eqlA neqA boxV indexV storeNewV buildV eqlV neqV

attribute [local go_sem ↓] exec_loadS exec_boxS exec_boxP exec_boxM exec_allocP exec_allocM exec_storeP exec_storeM exec_buildP exec_buildM exec_buildS exec_load32 exec_build32 exec_eqlD exec_neqD exec_bs
attribute [local go_sem] box_stamp boxP boxM bd32 eqlD neqD bdS3 deq_self veq_self10
theorem bsD0 (w : World) : (bsT 24 0 #[]).run Tryz.prog w = .ok (.value (.slice (some ⟨w.heap.size, 0, none⟩) 0 0)) (w.alloc (.cells #[] 23)) := by kernel_rfl
attribute [local go_sem] bsD0
set_option maxRecDepth 100000 in
set_option maxHeartbeats 4000000 in
theorem real_any (r : Rc) (ds : List By) (w : World) (h : DgAt w r ds) (hn : ds.length < 100000) :
    Calls Tryz.prog 9 #[rcV r] w fun e w' => ∃ q' cap', e = .returned (rcV (r.mov q' cap')) ∧ Below w.heap.size w w' ∧ DgAt w' (r.mov q' cap') ds := by
  obtain ⟨W1, hW1⟩ : ∃ W, w.alloc (.cells (tab 54 (rcF r)) 26) = W := ⟨_, rfl⟩
  obtain ⟨W2, hW2⟩ : ∃ W, W1.alloc (.cells (tab 54 (rcF rc0)) 33) = W := ⟨_, rfl⟩
  have hB1 : Below w.heap.size w W1 := by rw [← hW1]; exact below_newD _ _
  have hB2 : Below W1.heap.size W1 W2 := by rw [← hW2]; exact below_newD _ _
  have hB := hB1.trans (hB2.mono hB1.size)
  have z1 : W1.heap.size = w.heap.size + 1 := by rw [← hW1]; simp
  have z2 : W2.heap.size = w.heap.size + 2 := by rw [← hW2]; simp [z1]
  have hR1 : Row W2 w.heap.size 26 54 (rcF r) := (by rw [← hW1]; exact Row.new w _ 54 _ : Row W1 w.heap.size 26 54 (rcF r)).of_below hB2
  have hR2 : Row W2 W1.heap.size 33 54 (rcF rc0) := by rw [← hW2]; exact Row.new W1 _ 54 _
  have hwl := h.whole
  obtain ⟨V, hV⟩ : ∃ V, rcV r = V := ⟨_, rfl⟩
  have x1 : (bxT 26 V).run Tryz.prog w = .ok (.value (.pointer (some ⟨w.heap.size, 0, none⟩))) W1 := by rw [← hV, ← hW1]; exact boxM w r
  rw [hV]
  have HD := Lib.hid (fun (u : World) (hu : Below W2.heap.size W2 u) => h.of_below (hB.trans (hu.mono hB.size)))
  have HDL := Lib.hid (show (ds.flatMap digC).length = r.n * 32 by rw [flat_digC, List.length_map, flat_len32 h.each, h.n])
  have HQN := Lib.hid (show r.q = none → r.cap = 0 ∧ r.n = 0 from fun e => ⟨h.nil e, by have := h.nil e; have := h.le; omega⟩)
  have HONE := Lib.hid (show ∀ u ∈ ds.flatMap digC, u.oneCell' = true from by rw [flat_digC]; exact one_map _)
  have HN8 := Lib.hid (show 0 + r.n < 100000000 by rw [h.n]; omega)
  have HNL := Lib.hid h.n
  have HWL := Lib.hid hwl
  have HW12 := Lib.hid (show W1.heap.size < W2.heap.size by omega)
  have HF := Lib.hid (fun (u : World) (hr : Row u w.heap.size 26 54 (rcF r)) (hu : Below w.heap.size w u) => (show _ ∧ _ ∧ _ ∧ _ ∧ _ ∧ _ ∧ _ ∧ _ ∧ _ ∧ _ from ⟨rc_path hr, rc_size hr, rc_time hr, rc_chg hr, loadVT vtA (rc_ver hr), rc_dead hr, ld_dig (rc_whole hr hwl) hwl, rc_blocks hr, hr, hu⟩))
  have HS := Lib.hid (fun (u : World) (hu : Below W2.heap.size W2 u) => HF.out u (hR1.of_below hu) (hB.trans (hu.mono hB.size)))
  have HR := Lib.hid (fun (u : World) (hu : Below W2.heap.size W2 u) (r2 : Rc) => (show ∃ u', (stT 33 (.pointer (some ⟨W1.heap.size, 0, none⟩)) (rcV r2)).run Tryz.prog u = .ok .skip u' ∧ Row u' W1.heap.size 33 54 (rcF r2) ∧ _ ∧ Kp W1.heap.size u u' from by
    obtain ⟨u', h1, h2, h3⟩ := storeRT rtP (hR2.of_below hu) r2
    exact ⟨u', h1, h2, HF.out u' ((hR1.of_below hu).of_kp h3 (by omega)) ((hB.trans (hu.mono hB.size)).trans (h3.below (by omega) (by have := hu.size; omega))), h3⟩))
  clear hB1 hB2 hB z1 z2 hR1 hR2 hwl hV h
  obtain ⟨p, s, t, c, f, d, wh, q, n, cap⟩ := r
  dsimp only [Rc.mov] at *
  go_enter Tryz.func9, Tryz.ntmps9
  go_wp2
  clear x1 hW1 hW2
  refine wp_region_noPanic ?_
  refine wp_region_held_drew (S := (fun u : World => u.cell? ⟨w.heap.size, 0, none⟩ = some (.string (mkS p)) ∧ u.cell? ⟨w.heap.size, 1, none⟩ = some (.int .i64 s) ∧ u.cell? ⟨w.heap.size, 2, none⟩ = some (.int .i64 t) ∧ u.cell? ⟨w.heap.size, 3, none⟩ = some (.int .i64 c) ∧ (ldT 22 (.pointer (some ⟨w.heap.size, 4, none⟩))).run Tryz.prog u = .ok (.value (vcV f)) u ∧ u.cell? ⟨w.heap.size, 20, none⟩ = some (.bool d) ∧ (ldT 23 (.pointer (some ⟨w.heap.size, 21, none⟩))).run Tryz.prog u = .ok (.value (digV wh)) u ∧ u.cell? ⟨w.heap.size, 53, none⟩ = some (.slice q n cap) ∧ Row u w.heap.size 26 54 (rcF ⟨p, s, t, c, f, d, wh, q, n, cap⟩) ∧ Below w.heap.size w u)) (by kernel_rfl) (HS.out W2.drew (Below.refl _ _).drew) (fun hHeld => ?_)
  have HX := Lib.hid (show Below W2.heap.size W2 W2.drew from (Below.refl _ _).drew)
  have HX0 := Lib.hid (show Below W2.heap.size W2 W2.drew from (Below.refl _ _).drew)
  generalize W2.drew = x at hHeld HX HX0 ⊢
  have HXB := Lib.hid (show W1.heap.size < x.heap.size from Nat.lt_of_lt_of_le HW12.out HX0.out.size)
  refine wpAnyH_take (i := 0) (v := ?_) (by simp only [List.getElem?_toArray, List.getElem?_cons_succ, List.getElem?_cons_zero]; exact rfl) (by kernel_rfl) (by kernel_rfl) (by kernel_rfl) (fun _ _ _ h => h) (Or.inl ⟨by rfl, ?_⟩) (by assumption) ?_
  rotate_left 1
  · (intro w hSw; (try dsimp only at hSw); go_simp; try with_reducible rfl)
  try simp only [Act.put, List.setIfInBounds_toArray, List.set_cons_zero, List.set_cons_succ]
  refine wpAnyH_take (i := 1) (v := ?_) (by simp only [List.getElem?_toArray, List.getElem?_cons_succ, List.getElem?_cons_zero]; exact rfl) (by kernel_rfl) (by kernel_rfl) (by kernel_rfl) (fun _ _ _ h => h) (Or.inl ⟨by rfl, ?_⟩) (by assumption) ?_
  rotate_left 1
  · (intro w hSw; (try dsimp only at hSw); go_simp; try with_reducible rfl)
  try simp only [Act.put, List.setIfInBounds_toArray, List.set_cons_zero, List.set_cons_succ]
  refine wpAnyH_take (i := 2) (v := ?_) (by simp only [List.getElem?_toArray, List.getElem?_cons_succ, List.getElem?_cons_zero]; exact rfl) (by kernel_rfl) (by kernel_rfl) (by kernel_rfl) (fun _ _ _ h => h) (Or.inl ⟨by rfl, ?_⟩) (by assumption) ?_
  rotate_left 1
  · (intro w hSw; (try dsimp only at hSw); go_simp; try with_reducible rfl)
  try simp only [Act.put, List.setIfInBounds_toArray, List.set_cons_zero, List.set_cons_succ]
  refine wpAnyH_take (i := 3) (v := ?_) (by simp only [List.getElem?_toArray, List.getElem?_cons_succ, List.getElem?_cons_zero]; exact rfl) (by kernel_rfl) (by kernel_rfl) (by kernel_rfl) (fun _ _ _ h => h) (Or.inl ⟨by rfl, ?_⟩) (by assumption) ?_
  rotate_left 1
  · (intro w hSw; (try dsimp only at hSw); go_simp; try with_reducible rfl)
  try simp only [Act.put, List.setIfInBounds_toArray, List.set_cons_zero, List.set_cons_succ]
  refine wpAnyH_take (i := 4) (v := ?_) (by simp only [List.getElem?_toArray, List.getElem?_cons_succ, List.getElem?_cons_zero]; exact rfl) (by kernel_rfl) (by kernel_rfl) (by kernel_rfl) (fun _ _ _ h => h) (Or.inl ⟨by rfl, ?_⟩) (by assumption) ?_
  rotate_left 1
  · (intro w hSw; (try dsimp only at hSw); go_simp; try with_reducible rfl)
  try simp only [Act.put, List.setIfInBounds_toArray, List.set_cons_zero, List.set_cons_succ]
  refine wpAnyH_take (i := 5) (v := ?_) (by simp only [List.getElem?_toArray, List.getElem?_cons_succ, List.getElem?_cons_zero]; exact rfl) (by kernel_rfl) (by kernel_rfl) (by kernel_rfl) (fun _ _ _ h => h) (Or.inl ⟨by rfl, ?_⟩) (by assumption) ?_
  rotate_left 1
  · (intro w hSw; (try dsimp only at hSw); go_simp; try with_reducible rfl)
  try simp only [Act.put, List.setIfInBounds_toArray, List.set_cons_zero, List.set_cons_succ]
  refine wpAnyH_take (i := 6) (v := ?_) (by simp only [List.getElem?_toArray, List.getElem?_cons_succ, List.getElem?_cons_zero]; exact rfl) (by kernel_rfl) (by kernel_rfl) (by kernel_rfl) (fun _ _ _ h => h) (Or.inl ⟨by rfl, ?_⟩) (by assumption) ?_
  rotate_left 1
  · (intro w hSw; (try dsimp only at hSw); go_simp; try with_reducible rfl)
  try simp only [Act.put, List.setIfInBounds_toArray, List.set_cons_zero, List.set_cons_succ]
  refine wpAnyH_take (i := 7) (v := ?_) (by simp only [List.getElem?_toArray, List.getElem?_cons_succ, List.getElem?_cons_zero]; exact rfl) (by kernel_rfl) (by kernel_rfl) (by kernel_rfl) (fun _ _ _ h => h) (Or.inl ⟨by rfl, ?_⟩) (by assumption) ?_
  rotate_left 1
  · (intro w hSw; (try dsimp only at hSw); go_simp; try with_reducible rfl)
  try simp only [Act.put, List.setIfInBounds_toArray, List.set_cons_zero, List.set_cons_succ]
  refine wpAnyH_take (i := 8) (v := ?_) (by simp only [List.getElem?_toArray, List.getElem?_cons_succ, List.getElem?_cons_zero]; exact rfl) (by kernel_rfl) (by kernel_rfl) (by kernel_rfl) (fun _ _ _ h => h) (Or.inl ⟨by rfl, ?_⟩) (by assumption) ?_
  rotate_left 1
  · (intro w hSw; (try dsimp only at hSw); go_simp; try with_reducible rfl)
  try simp only [Act.put, List.setIfInBounds_toArray, List.set_cons_zero, List.set_cons_succ]
  refine wpAnyH_take (i := 9) (v := ?_) (by simp only [List.getElem?_toArray, List.getElem?_cons_succ, List.getElem?_cons_zero]; exact rfl) (by kernel_rfl) (by kernel_rfl) (by kernel_rfl) (fun _ _ _ h => h) (Or.inl ⟨by rfl, ?_⟩) (by assumption) ?_
  rotate_left 1
  · (intro w hSw; (try dsimp only at hSw); go_simp; try with_reducible rfl)
  try simp only [Act.put, List.setIfInBounds_toArray, List.set_cons_zero, List.set_cons_succ]
  refine wpAnyH_take (i := 10) (v := ?_) (by simp only [List.getElem?_toArray, List.getElem?_cons_succ, List.getElem?_cons_zero]; exact rfl) (by kernel_rfl) (by kernel_rfl) (by kernel_rfl) (fun _ _ _ h => h) (Or.inl ⟨by rfl, ?_⟩) (by assumption) ?_
  rotate_left 1
  · (intro w hSw; (try dsimp only at hSw); go_simp; try with_reducible rfl)
  try simp only [Act.put, List.setIfInBounds_toArray, List.set_cons_zero, List.set_cons_succ]
  refine wpAnyH_take (i := 11) (v := ?_) (by simp only [List.getElem?_toArray, List.getElem?_cons_succ, List.getElem?_cons_zero]; exact rfl) (by kernel_rfl) (by kernel_rfl) (by kernel_rfl) (fun _ _ _ h => h) (Or.inl ⟨by rfl, ?_⟩) (by assumption) ?_
  rotate_left 1
  · (intro w hSw; (try dsimp only at hSw); go_simp; try with_reducible rfl)
  try simp only [Act.put, List.setIfInBounds_toArray, List.set_cons_zero, List.set_cons_succ]
  refine wpAnyH_take (i := 12) (v := ?_) (by simp only [List.getElem?_toArray, List.getElem?_cons_succ, List.getElem?_cons_zero]; exact rfl) (by kernel_rfl) (by kernel_rfl) (by kernel_rfl) (fun _ _ _ h => h) (Or.inl ⟨by rfl, ?_⟩) (by assumption) ?_
  rotate_left 1
  · (intro w hSw; (try dsimp only at hSw); go_simp; try with_reducible rfl)
  try simp only [Act.put, List.setIfInBounds_toArray, List.set_cons_zero, List.set_cons_succ]
  refine wpAnyH_take (i := 13) (v := ?_) (by simp only [List.getElem?_toArray, List.getElem?_cons_succ, List.getElem?_cons_zero]; exact rfl) (by kernel_rfl) (by kernel_rfl) (by kernel_rfl) (fun _ _ _ h => h) (Or.inl ⟨by rfl, ?_⟩) (by assumption) ?_
  rotate_left 1
  · (intro w hSw; (try dsimp only at hSw); go_simp; try with_reducible rfl)
  try simp only [Act.put, List.setIfInBounds_toArray, List.set_cons_zero, List.set_cons_succ]
  refine wpAnyH_take (i := 14) (v := ?_) (by simp only [List.getElem?_toArray, List.getElem?_cons_succ, List.getElem?_cons_zero]; exact rfl) (by kernel_rfl) (by kernel_rfl) (by kernel_rfl) (fun _ _ _ h => h) (Or.inl ⟨by rfl, ?_⟩) (by assumption) ?_
  rotate_left 1
  · (intro w hSw; (try dsimp only at hSw); go_simp; try with_reducible rfl)
  try simp only [Act.put, List.setIfInBounds_toArray, List.set_cons_zero, List.set_cons_succ]
  refine wpAnyH_take (i := 16) (v := ?_) (by simp only [List.getElem?_toArray, List.getElem?_cons_succ, List.getElem?_cons_zero]; exact rfl) (by kernel_rfl) (by kernel_rfl) (by kernel_rfl) (fun _ _ _ h => h) (Or.inl ⟨by rfl, ?_⟩) (by assumption) ?_
  rotate_left 1
  · (intro w hSw; (try dsimp only at hSw); go_simp; try with_reducible rfl)
  try simp only [Act.put, List.setIfInBounds_toArray, List.set_cons_zero, List.set_cons_succ]
  refine wpAnyH_take (i := 17) (v := ?_) (by simp only [List.getElem?_toArray, List.getElem?_cons_succ, List.getElem?_cons_zero]; exact rfl) (by kernel_rfl) (by kernel_rfl) (by kernel_rfl) (fun _ _ _ h => h) (Or.inl ⟨by rfl, ?_⟩) (by assumption) ?_
  rotate_left 1
  · (intro w hSw; (try dsimp only at hSw); go_simp; try with_reducible rfl)
  try simp only [Act.put, List.setIfInBounds_toArray, List.set_cons_zero, List.set_cons_succ]
  refine wpAnyH_ready (rs := [15]) (by kernel_rfl) (by simp) ?_
  refine (AllReadyH.cons (by simp only [List.getElem?_toArray, List.getElem?_cons_succ, List.getElem?_cons_zero]; exact rfl) (fun K hK => ?_) AllReadyH.nil)
  go_simp
  obtain ⟨y, hy⟩ : ∃ y, (x.alloc (.cells #[] 23)) = y := ⟨_, rfl⟩
  have hBa : Below x.heap.size x y := by rw [← hy]; exact below_newD _ _
  have hO := (own_empty (E := 23) (k := 32) x x.heap.size (Nat.le_refl _))
  rw [hy] at hO ⊢
  have hXY := HX.out.trans (hBa.mono HX.out.size)
  have HX := Lib.hid hXY
  have HO := Lib.hid hO
  have hsx : x.heap.size ≤ y.heap.size := hBa.size
  have HBA := Lib.hid hBa
  clear hy hO hXY hBa
  refine hK.out _ _ (HS.out _ HX.out) (fun hHeld => ?_)
  clear hK K
  try simp only [Act.put, List.setIfInBounds_toArray, List.set_cons_zero, List.set_cons_succ]
  refine wpAnyH_ready (rs := [18]) (by kernel_rfl) (by simp) ?_
  refine (AllReadyH.cons (by simp only [List.getElem?_toArray, List.getElem?_cons_succ, List.getElem?_cons_zero]; exact rfl) (fun K hK => ?_) AllReadyH.nil)
  refine step_appendK elD y rfl (.tmp 18) (.tmp 20) rfl x.heap.size rfl HO.out q n cap (ds.flatMap digC) HDL.out rfl (HD.out y HX.out).lie HQN.out (HONE.out) HN8.out hsx ?_
  rintro v7 z hO7 hg7 ho7
  rw [Nat.zero_add, List.nil_append] at hO7
  obtain ⟨q7, c7, rfl, hlt7, hdg7⟩ := dg_own hO7 HNL.out (HD.out y HX.out).each
  have hXZ : Below W2.heap.size W2 z := HX0.out.trans ((below_gf HBA.out hg7 hsx).mono (HX0.out.size))
  have HX := Lib.hid hXZ
  have HDG := Lib.hid hdg7
  have HLT := Lib.hid hlt7
  have hbd := fun u => bdP6 p s t c f d wh q7 n c7 u
  rw [HNL.out.symm]
  obtain ⟨RV, hRV⟩ : ∃ RV : Rc, ⟨p, s, t, c, f, d, wh, q7, n, c7⟩ = RV := ⟨_, rfl⟩
  rw [hRV] at hbd
  have HRV := Lib.hid hRV
  clear hRV hO7 hg7 ho7 hdg7 hlt7 hXZ
  refine hK.out _ _ (HS.out _ HX.out) (fun hHeld => ?_)
  clear hK K
  try simp only [Act.put, List.setIfInBounds_toArray, List.set_cons_zero, List.set_cons_succ]
  refine wpAnyH_take (i := 19) (v := ?_) (by simp only [List.getElem?_toArray, List.getElem?_cons_succ, List.getElem?_cons_zero]; exact rfl) (by kernel_rfl) (by kernel_rfl) (by kernel_rfl) (fun _ _ _ h => h) (Or.inl ⟨by rfl, ?_⟩) (by assumption) ?_
  rotate_left 1
  · (intro w hSw; (try dsimp only at hSw); go_simp; try with_reducible rfl)
  try simp only [Act.put, List.setIfInBounds_toArray, List.set_cons_zero, List.set_cons_succ]
  refine wpAnyH_ready (rs := [20]) (by kernel_rfl) (by simp) ?_
  refine (AllReadyH.cons (by simp only [List.getElem?_toArray, List.getElem?_cons_succ, List.getElem?_cons_zero]; exact rfl) (fun K hK => ?_) AllReadyH.nil)
  obtain ⟨u', hs, hRow, hSu, hKp⟩ := HR.out z HX.out RV
  have HRow := Lib.hid hRow
  have HKp := Lib.hid hKp
  clear hRow hKp
  go_simp
  refine hK.out _ _ hSu (fun hHeld => ?_)
  clear hK K
  try simp only [Act.put, List.setIfInBounds_toArray, List.set_cons_zero, List.set_cons_succ]
  refine wpAnyH_done (by kernel_rfl) ?_ _
  refine NoPanic.normal ?_
  go_wp2
  refine bodyPost_ret (resR rtP rfl _ u' W1.heap.size 33 RV rfl HRow.out) rfl ?_
  have hd : DgAt z RV ds := HDG.out RV (by rw [← HRV.out]) (by rw [← HRV.out]; exact HNL.out) (by rw [← HRV.out]) (by rw [← HRV.out]; exact HWL.out)
  refine ⟨q7, c7, by rw [← HRV.out], hHeld.2.2.2.2.2.2.2.2.2, ?_⟩
  have hd2 : DgAt u' RV ds := hd.keep fun cc oo e hlt => HKp.out.block cc hlt (by
    have h1 := HLT.out cc oo (by rw [← HRV.out] at e; exact e)
    have h2 := HXB.out
    omega)
  rw [← HRV.out] at hd2
  exact hd2
theorem eqlS (x y : Operand) (s t c : Int) (w : World) : (eqX .eql 30 x y (stV s t c) (stV s t c)).run Tryz.prog w = .ok (.value (.bool true)) w := by
  have h : (binOp .eql 30 (stV s t c) (stV s t c)).run Tryz.prog w = .ok (.bool true) w := by
    unfold stV
    go_simp
  have hg : (eqGuard .eql 30 x y (stV s t c) (stV s t c)).run Tryz.prog w = .ok () w := by unfold stV; exact run_eqGuard_agg (P := Tryz.prog) w .eql 30 x y _ _ (by kernel_rfl)
  simp only [eqX, Sem.run_bind, hg, h, Result.andThen_ok, Sem.run_pure]
theorem eqlSn (x y : Operand) (s s' t c : Int) (w : World) (hs : ¬ s = s') : (eqX .eql 30 x y (stV s t c) (stV s' t c)).run Tryz.prog w = .ok (.value (.bool false)) w := by
  have hs2 : (s == s') = false := by rw [beq_eq_false_iff_ne]; exact hs
  have h : (binOp .eql 30 (stV s t c) (stV s' t c)).run Tryz.prog w = .ok (.bool false) w := by
    unfold stV
    go_simp
  have hg : (eqGuard .eql 30 x y (stV s t c) (stV s' t c)).run Tryz.prog w = .ok () w := by unfold stV; exact run_eqGuard_agg (P := Tryz.prog) w .eql 30 x y _ _ (by kernel_rfl)
  simp only [eqX, Sem.run_bind, hg, h, Result.andThen_ok, Sem.run_pure]
theorem exec_eqlS (r : Operand → Value) (dst : Option Tmp) (x y : Operand) (z : TypeId) (ty : TypeId) (pos : String) (after : Array Edge) (guard : Option (Nat × Bool)) :
    execOp r ⟨dst, .binOp .eql 30 x y z, ty, pos, after, guard⟩ = eqX .eql 30 x y (r x) (r y) := rfl
attribute [local go_sem ↓] exec_eqlS
attribute [local go_sem] eqlS
/-- Two boxed records, to be compared. -/
theorem two_boxed (a b : Rc) (w : World) (ha : a.whole.length = 32) (hb : b.whole.length = 32) : ∃ W1 W2, w.alloc (.cells (tab 54 (rcF a)) 33) = W1 ∧ W1.alloc (.cells (tab 54 (rcF b)) 33) = W2 ∧ Below w.heap.size w W2 ∧ Row W2 w.heap.size 33 54 (rcF a) ∧ Row W2 W1.heap.size 33 54 (rcF b) ∧ (bxT 33 (rcV a)).run Tryz.prog w = .ok (.value (.pointer (some ⟨w.heap.size, 0, none⟩))) W1 ∧ (bxT 33 (rcV b)).run Tryz.prog W1 = .ok (.value (.pointer (some ⟨W1.heap.size, 0, none⟩))) W2 := by
  have hB1 := below_newD w (.cells (tab 54 (rcF a)) 33)
  have hB2 := below_newD (w.alloc (.cells (tab 54 (rcF a)) 33)) (.cells (tab 54 (rcF b)) 33)
  exact ⟨_, _, rfl, rfl, hB1.trans (hB2.mono hB1.size), (Row.new w _ 54 _).of_below hB2, Row.new _ _ 54 _, boxP w a, boxP _ b⟩
set_option maxRecDepth 100000 in
set_option maxHeartbeats 8000000 in
theorem same_yes (r : Rc) (q2 : Option Addr) (cap2 : Nat) (ds : List By) (w : World) (h1 : DgAt w r ds) (h2 : DgAt w (r.mov q2 cap2) ds) (hn : ds.length < 100000) :
    Calls Tryz.prog 17 #[rcV r, rcV (r.mov q2 cap2)] w fun e w' => e = .returned (.bool true) ∧ Below w.heap.size w w' := by
  obtain ⟨W1, W2, hW1, hW2, hB, hR1, hR2, hx1, hx2⟩ := two_boxed r (r.mov q2 cap2) w h1.whole h2.whole
  have hwl := h1.whole
  have HB := Lib.hid hB
  have HEQ := Lib.hid (equalD_yes r (r.mov q2 cap2) ds W2 (h1.of_below hB) (h2.of_below hB) hn)
  obtain ⟨V1, hV1⟩ : ∃ V, rcV r = V := ⟨_, rfl⟩
  obtain ⟨V2, hV2⟩ : ∃ V, rcV (r.mov q2 cap2) = V := ⟨_, rfl⟩
  rw [hV1] at hx1 ⊢
  rw [hV2] at hx2 ⊢
  have a0 := rc_path hR1
  have a1 := ld_stamp (rc_stamp hR1)
  have a4 := loadVT vtV (rc_ver hR1)
  have a5 := rc_dead hR1
  have a6 := ld_dig (rc_whole hR1 hwl) hwl
  have a7 := rc_blocks hR1
  have b0 := rc_path hR2
  have b1 := ld_stamp (rc_stamp hR2)
  have b4 := loadVT vtV (rc_ver hR2)
  have b5 := rc_dead hR2
  have b6 := ld_dig (rc_whole hR2 hwl) hwl
  have b7 := rc_blocks hR2
  clear hB hR1 hR2 hV1 hV2 hW1 hW2 h1 h2 hwl
  obtain ⟨p, s, t, c, f, d, wh, q, n, cap⟩ := r
  dsimp only [Rc.mov] at *
  go_enter Tryz.func17, Tryz.ntmps17
  cases d
  all_goals (
    go_wp2_with fail
    refine HEQ.out.mono ?_
    rintro e w3 ⟨rfl, hB3⟩
    have HBB := Lib.hid (HB.out.trans (hB3.mono HB.out.size))
    clear hB3 hx1 hx2 a0 a1 a4 a5 a6 a7 b0 b1 b4 b5 b6 b7
    go_wp2
    go_ret
    exact ⟨rfl, HBB.out⟩)
set_option maxRecDepth 100000 in
set_option maxHeartbeats 8000000 in
/-- A record and that of the deleted file are not the same. -/
theorem same_dead (p : S8) (s s' t c : Int) (f : Nat → Int) (wh wh' : By) (q q' : Option Addr) (n n' cap cap' : Nat) (w : World) (hw : wh.length = 32) (hw' : wh'.length = 32) :
    Calls Tryz.prog 17 #[rcV ⟨p, s, t, c, f, false, wh, q, n, cap⟩, rcV ⟨p, s', t, c, f, true, wh', q', n', cap'⟩] w fun e w' => e = .returned (.bool false) ∧ Below w.heap.size w w' := by
  obtain ⟨W1, W2, hW1, hW2, hB, hR1, hR2, hx1, hx2⟩ := two_boxed ⟨p, s, t, c, f, false, wh, q, n, cap⟩ ⟨p, s', t, c, f, true, wh', q', n', cap'⟩ w hw hw'
  have HB := Lib.hid hB
  obtain ⟨V1, hV1⟩ : ∃ V, rcV ⟨p, s, t, c, f, false, wh, q, n, cap⟩ = V := ⟨_, rfl⟩
  obtain ⟨V2, hV2⟩ : ∃ V, rcV ⟨p, s', t, c, f, true, wh', q', n', cap'⟩ = V := ⟨_, rfl⟩
  rw [hV1] at hx1 ⊢
  rw [hV2] at hx2 ⊢
  have a0 := rc_path hR1
  have a1 := ld_stamp (rc_stamp hR1)
  have a4 := loadVT vtV (rc_ver hR1)
  have a5 := rc_dead hR1
  have b0 := rc_path hR2
  have b1 := ld_stamp (rc_stamp hR2)
  have b4 := loadVT vtV (rc_ver hR2)
  have b5 := rc_dead hR2
  dsimp only at *
  clear hB hR1 hR2 hV1 hV2 hW1 hW2
  by_cases hss : s = s'
  · subst hss
    go_enter Tryz.func17, Tryz.ntmps17
    go_wp2
    go_ret
    exact ⟨rfl, HB.out⟩
  · have hsn := fun x y (u : World) => eqlSn x y s s' t c u hss
    clear hss
    go_enter Tryz.func17, Tryz.ntmps17
    go_wp2
    go_ret
    exact ⟨rfl, HB.out⟩
end Go.Proofs.YtfemgkamgokjcaaGreatDoor
/- record.Cut. -/
set_option maxRecDepth 100000
namespace Go.Proofs.YtfemgkamgokjcaaGreatDoor
open Go Go.RowKit Go.Shelf
attribute [-go_sem] Sha.exec_store

attribute [local go_sem] Oper.semAt_some
/-- What the walk of Cut carries. -/
def InvC (w : World) (N : Nat) (l : List (BitVec 8)) (pre : List Nat) (A : World) : Prop :=
  ∃ v, A.cell? ⟨N, 0, none⟩ = some v ∧ A.frozen? ⟨N, 0, none⟩ = false ∧ Hds A (N + 4) v (pre.map (blkL l)) ∧ Below w.heap.size w A ∧ N + 2 ≤ A.heap.size
theorem InvC.of_below {w : World} {N : Nat} {l : List (BitVec 8)} {pre : List Nat} {A A' : World} (h : InvC w N l pre A) (hw : w.heap.size ≤ N) (hB : Below A.heap.size A A') : InvC w N l pre A' := by
  obtain ⟨v, h1, h2, h3, h4, h5⟩ := h
  have hlt := World.block_lt_of_cell? A _ h1
  exact ⟨v, by rw [hB.cell (by exact hlt)]; exact h1, by rw [hB.frozen (by exact hlt)]; exact h2, h3.of_below hB, h4.trans (hB.mono h4.size), Nat.le_trans h5 hB.size⟩
theorem InvC.bears (w : World) (N : Nat) (l : List (BitVec 8)) (hw : w.heap.size = N) : BearsP (N + 2) (InvC w N l) :=
  ⟨fun pre A o h => h.of_below (by omega) ((Below.refl _ _).alloc (Nat.le_refl _) _),
   fun pre A o hlt h => by
    obtain ⟨v, h1, h2, h3, h4, h5⟩ := h
    have hB := below_putP (N := N + 2 + 1) o (Nat.le_refl _) hlt
    exact ⟨v, by rw [hB.cell (by show N < _; omega)]; exact h1, by rw [hB.frozen (by show N < _; omega)]; exact h2, h3.put hlt, h4.trans (hB.mono (by omega)), Nat.le_trans h5 hB.size⟩,
   fun pre A k h => h.of_below (by omega) ((show Dr A (A.drewN k) from ⟨k, rfl⟩).below _)⟩
set_option maxRecDepth 100000 in
set_option maxHeartbeats 4000000 in
theorem cut_any10 (l : List (BitVec 8)) (q : Option Addr) (n cap : Nat) (w : World) (hl : l.length = n) (hs : Sl w q l) (hq : q = none → cap = 0) (hc : n ≤ cap) (hn : n < 1000000) :
    Calls Tryz.prog 35 #[.slice q n cap] w fun e w' => ∃ v, e = .returned v ∧ Hds w' w.heap.size v ((List.range (nblk n)).map (blkL l)) ∧ Below w.heap.size w w' := by
  refine (callsIn_wide (n := 7)).1 ?_
  refine callsIn_of_wp_marks Tryz.func35 rfl trivial ?_ rfl
  simp only [Tryz.ntmps35, List.size_toArray, List.length_cons, List.length_nil, Nat.reduceAdd, Nat.reduceSub, Array.replicate_succ, Array.replicate_zero, List.push_toArray, List.append_toArray, List.nil_append, List.cons_append]
  have HSL := Lib.hid hs
  have HLN := Lib.hid hl
  have HQ := Lib.hid hq
  clear hs hl hq
  gi_wp2_with (refine ⟨trivial, ?_⟩; gi_at_call 77; refine (callsIn_wide.2 (blocks_any q n cap _)).mono ?_; rintro e w' ⟨rfl, rfl⟩)
  obtain ⟨N, hN⟩ : ∃ N, w.heap.size = N := ⟨_, rfl⟩
  obtain ⟨W1, hW1⟩ : ∃ W1, w.alloc (.cells #[.slice none 0 0] 73) = W1 := ⟨_, rfl⟩
  obtain ⟨W2, hW2⟩ : ∃ W2, W1.alloc (.cells #[.slice q n cap] 35) = W2 := ⟨_, rfl⟩
  have s1 : W1.heap.size = N + 1 := by rw [← hW1]; simp [hN]
  have s2 : W2.heap.size = N + 2 := by rw [← hW2]; simp [s1]
  have hB1 : Below w.heap.size w W1 := by rw [← hW1]; exact (Below.refl _ _).alloc (Nat.le_refl _) _
  have hB2 : Below W1.heap.size W1 W2 := by rw [← hW2]; exact (Below.refl _ _).alloc (Nat.le_refl _) _
  obtain ⟨c0, f0⟩ := new_cP w (.slice none 0 0) 73
  rw [hW1, hN] at c0 f0
  have c1 : W2.cell? ⟨N + 1, 0, none⟩ = some (.slice q n cap) := by rw [← hW2, ← s1]; exact World.cell?_alloc_new _ _ _ _
  have c0' : W2.cell? ⟨N, 0, none⟩ = some (.slice none 0 0) := by rw [hB2.cell (by show N < _; omega)]; exact c0
  have f0' : W2.frozen? ⟨N, 0, none⟩ = false := by rw [hB2.frozen (by show N < _; omega)]; exact f0
  have inv0 : InvC w N l [] W2 := ⟨_, c0', f0', Hds.nil _ _, hB1.trans (hB2.mono hB1.size), by omega⟩
  have HSEQ := Lib.hid (blocks_seq 6 (by decide) (N + 1) q n cap W2 c1 hn hc)
  rw [hW1, hW2]
  try rw [hN]
  clear hW1 hW2 hB1 hB2 c0 f0 c1 c0' f0'
  refine range_pure (m := 7) (by decide) (gf := 115) (lb := #[.pointer (some ⟨N + 1, 0, none⟩)]) (by rfl) (enters_of Tryz.func115 (by kernel_rfl) rfl)
    (encs := fun i : Nat => #[.int .i64 (i : Int), blkS q n i]) (fun _ => rfl) (b := N + 1) (by omega) HSEQ.out
    (InvC w N l) (fun _ _ => False) (by have := InvC.bears w N l hN; rw [← s2] at this; exact this) (fun _ _ _ _ h => h) inv0
    (fun i => { tmps := #[.slice q n cap, undef, .slice none 0 0, .pointer (some ⟨N, 0, none⟩), undef, blkS q n i, .slice q n cap, .func (.func 115) #[] #[.pointer (some ⟨N + 1, 0, none⟩)], .int .i64 (i : Int), blkS q n i, undef, undef, undef, undef, undef, undef], defers := [] }) ?assign ?body ?done ?stop
  case assign =>
    intro L x A K hK
    gi_wp2
    exact hK
  case body =>
    rintro L pre i A hpx hNA hinv
    rw [s2] at hNA
    have hNA : N + 4 ≤ A.heap.size := hNA
    obtain ⟨v, hcx, hfx, hHd, hBE, -⟩ := hinv
    obtain ⟨hs, hOW, hrows⟩ := hHd
    have hik := pre_range hpx
    have hlen : pre.length + 1 < 100000000 := by have := hik.2.1; unfold nblk at this; omega
    have hvlt : ∀ g, v.ownBlock = some g → N + 4 ≤ g ∧ g < A.heap.size := fun g hg => hOW.lt g hg
    have HOW := Lib.hid hOW
    have HBE := Lib.hid hBE
    have hi256 : 256 * i < n := nblk_lt hik.1
    have HCL := Lib.hid (fun (u : World) (hu : Below A.heap.size A u) => clone_blk l q n cap i u HLN.out (HSL.out.of_below (hBE.trans (hu.mono hBE.size))) HQ.out hc hi256)
    have HHD := Lib.hid (fun (x y : World) (v' : Value) (p : Option Addr) (c : Nat) (hX : Below A.heap.size A x) (h1 : Sl x p (blkL l i)) (h2 : p = none → c = 0) (h3 : ∀ c o, p = some ⟨c, o, none⟩ → A.heap.size ≤ c ∧ c < x.heap.size)
        (h4 : y.ownsRow (N + 4) 35 1 v' ((pre.map (blkL l)).length + 1) (hs ++ [.slice p (blkL l i).length c])) (h5 : x.grownBy y v.ownBlock) (h6 : v'.ownBlock = v.ownBlock ∨ v'.ownBlock = some x.heap.size) => (Hds.push (own_below hOW hX) (fun j hj => by
          obtain ⟨p', cap', e1, e2, e3, e4⟩ := hrows j hj
          exact ⟨p', cap', e1, e2.of_below hX, e3, fun c o e => ⟨(e4 c o e).1, Nat.lt_of_lt_of_le (e4 c o e).2.1 hX.size, (e4 c o e).2.2⟩⟩) h1 h2 (fun c o e => ⟨by have := (h3 c o e).1; omega, (h3 c o e).2, fun e2 => by have := (hvlt c e2).2; have := (h3 c o e).1; omega⟩) h4 h5 h6 : Hds y (N + 4) v' (pre.map (blkL l) ++ [blkL l i])))
    have HX := Lib.hid (show Below A.heap.size A A.drew from (Below.refl _ _).drew)
    have hcx : A.drew.cell? ⟨N, 0, none⟩ = some v := hcx
    have hfx : A.drew.frozen? ⟨N, 0, none⟩ = false := hfx
    have hcy := hcx
    clear hOW hrows hBE hpx hvlt hik
    gi_wp2
    refine wpIn_region_any (by kernel_rfl) ?_
    try (change wpAnyIn _ _ _ _ _ _ _ _ _ (World.drew _))
    generalize A.drew = x at *
    refine wpAnyIn_ready (rs := [0, 1]) (by kernel_rfl) (by simp) ?_
    refine (AllReadyIn.cons (by simp only [List.getElem?_toArray, List.getElem?_cons_succ, List.getElem?_cons_zero]; exact rfl) (fun K hK => ?_) (AllReadyIn.cons (by simp only [List.getElem?_toArray, List.getElem?_cons_succ, List.getElem?_cons_zero]; exact rfl) (fun K hK => ?_) AllReadyIn.nil))
    · go_simp
      refine hK _ _ ?_
      clear hK K
      try simp only [Act.put, List.setIfInBounds_toArray, List.set_cons_zero, List.set_cons_succ]
      refine wpAnyIn_ready (rs := [1]) (by kernel_rfl) (by simp) ?_
      refine (AllReadyIn.cons (by simp only [List.getElem?_toArray, List.getElem?_cons_succ, List.getElem?_cons_zero]; exact rfl) (fun K hK => ?_) AllReadyIn.nil)
      go_simp
      refine hK _ _ ?_
      clear hK K
      try simp only [Act.put, List.setIfInBounds_toArray, List.set_cons_zero, List.set_cons_succ]
      refine wpAnyIn_ready (rs := [2]) (by kernel_rfl) (by simp) ?_
      refine (AllReadyIn.cons (by simp only [List.getElem?_toArray, List.getElem?_cons_succ, List.getElem?_cons_zero]; exact rfl) (fun K hK => ?_) AllReadyIn.nil)
      go_simp
      refine ⟨trivial, (CallsIn.inRound L (callsIn_wide.2 (HCL.out _ HX.out))).mono ?_⟩
      rintro e x2 ⟨v2, rfl, hO2, hB2⟩
      obtain ⟨p2, c2, rfl, hs2, hp2, hc2⟩ := hO2.shape
      have hcx := (show x2.cell? ⟨N, 0, none⟩ = some v from by rw [hB2.cell (by exact World.block_lt_of_cell? x _ hcx)]; exact hcx)
      have hfx := (show x2.frozen? ⟨N, 0, none⟩ = false from by rw [hB2.frozen (by exact World.block_lt_of_cell? x _ hcy)]; exact hfx)
      have hcy := hcx
      have hO2 := hO2.lower (b2 := A.heap.size) HX.out.size
      have HX := Lib.hid (HX.out.trans (hB2.mono HX.out.size))
      have H2 := Lib.hid (And.intro hO2 (And.intro hs2 hp2))
      have HZ2 := Lib.hid hB2.size
      clear hO2 hB2 hs2 hp2 hc2
      refine hK _ _ ?_
      clear hK K
      try simp only [Act.put, List.setIfInBounds_toArray, List.set_cons_zero, List.set_cons_succ]
      refine wpAnyIn_ready (rs := [3]) (by kernel_rfl) (by simp) ?_
      refine (AllReadyIn.cons (by simp only [List.getElem?_toArray, List.getElem?_cons_succ, List.getElem?_cons_zero]; exact rfl) (fun K hK => ?_) AllReadyIn.nil)
      go_simp
      obtain ⟨x23, hy⟩ : ∃ y, (x2.alloc (.cells #[.slice p2 (blkL l i).length c2] 35)) = y := ⟨_, rfl⟩
      have hBa : Below x2.heap.size x2 x23 := by rw [← hy]; exact (Below.refl _ _).alloc (Nat.le_refl _) _
      have hcx := (show x23.cell? ⟨N, 0, none⟩ = some v from by rw [hBa.cell (by exact World.block_lt_of_cell? x2 _ hcx)]; exact hcx)
      have hfx := (show x23.frozen? ⟨N, 0, none⟩ = false from by rw [hBa.frozen (by exact World.block_lt_of_cell? x2 _ hcy)]; exact hfx)
      have hcy := hcx
      have HX := Lib.hid (HX.out.trans (hBa.mono HX.out.size))
      have HH := Lib.hid (show LsC x23 (some ⟨x2.heap.size, 0, none⟩) [.slice p2 (blkL l i).length c2] from by rw [← hy]; exact LsC.made _ [Value.slice p2 (blkL l i).length c2] _)
      have H2 := Lib.hid (And.intro (H2.out.1.of_below hBa) (And.intro (H2.out.2.1.of_below hBa) H2.out.2.2))
      refine hK _ _ ?_
      clear hK K
      rw [hy]
      clear hy hBa
      try simp only [Act.put, List.setIfInBounds_toArray, List.set_cons_zero, List.set_cons_succ]
      refine wpAnyIn_ready (rs := [4]) (by kernel_rfl) (by simp) ?_
      refine (AllReadyIn.cons (by simp only [List.getElem?_toArray, List.getElem?_cons_succ, List.getElem?_cons_zero]; exact rfl) (fun K hK => ?_) AllReadyIn.nil)
      have hO := own_below HOW.out HX.out
      refine stepIn_appendK elR x23 rfl (.tmp 10) (.tmp 13) rfl (N + 4) rfl hO _ 1 1 [.slice p2 (blkL l i).length c2] rfl rfl HH.out (fun h => by cases h) (fun u hu => by rw [List.mem_singleton] at hu; subst hu; rfl) (by rw [List.length_map]; omega) (Nat.le_trans hNA HX.out.size) ?_
      rintro v' x234 hO' hg hor
      have hHd := HHD.out x23 x234 v' p2 c2 HX.out H2.out.2.1 H2.out.2.2 (fun c o e => H2.out.1.lt c (by rw [e]; rfl)) hO' hg hor
      have hne : some N ≠ v.ownBlock := fun e => by have := (World.ownsRow.lt hO N e.symm).1; omega
      have hcx := (show x234.cell? ⟨N, 0, none⟩ = some v from hg.cell hcx hne)
      have hfx := (show x234.frozen? ⟨N, 0, none⟩ = false from by rw [World.frozen?_of_block (w := x23) (hg.block N (by exact World.block_lt_of_cell? x23 _ hcy) hne)]; exact hfx)
      have HBB := Lib.hid (show x234.heap[N + 1]? = A.heap[N + 1]? from by
        rw [hg.block (N + 1) (by have := HX.out.size; omega) (fun e => by have := (World.ownsRow.lt hO (N + 1) e.symm).1; omega)]
        exact HX.out.block _ (by omega))
      have HBW := Lib.hid (HBE.out.trans ((HX.out.mono (by omega)).grown hg (by have := HX.out.size; omega) (fun k hk => by have := (World.ownsRow.lt hO k hk).1; omega)))
      have HKO := Lib.hid ((others_belowP HX.out).trans (KeepsOthers.grown_own hO hg))
      have HHD2 := Lib.hid hHd
      have hv4 : ∃ p n c, v' = .slice p n c := by obtain ⟨p', c', e', -⟩ := own_shape hO'; exact ⟨_, _, _, e'⟩
      obtain ⟨p4, n4, c4, rfl⟩ := hv4
      have HZ4 := Lib.hid (show N + 4 ≤ x234.heap.size from Nat.le_trans (Nat.le_trans hNA HX.out.size) hg.size)
      clear hO hO' hg hor hHd hne
      refine hK _ _ ?_
      clear hK K
      try simp only [Act.put, List.setIfInBounds_toArray, List.set_cons_zero, List.set_cons_succ]
      refine wpAnyIn_ready (rs := [5]) (by kernel_rfl) (by simp) ?_
      refine (AllReadyIn.cons (by simp only [List.getElem?_toArray, List.getElem?_cons_succ, List.getElem?_cons_zero]; exact rfl) (fun K hK => ?_) AllReadyIn.nil)
      go_simp
      refine hK _ _ ?_
      clear hK K
      try simp only [Act.put, List.setIfInBounds_toArray, List.set_cons_zero, List.set_cons_succ]
      refine wpAnyIn_done (by kernel_rfl) ?_ _
      refine ⟨HKO.out.trans (KeepsOthers.setCell _ _ _), (Below.heap_setCell _ _ _ _ (show N + 1 ≠ N by omega)).trans HBB.out, _, World.cell?_setCell_same _ _ _ hcx, by rw [World.frozen?_setCell]; exact hfx, ?_, HBW.out.setCell (show w.heap.size ≤ (⟨N, 0, none⟩ : Addr).block by rw [hN]; exact Nat.le_refl _) _, by have := HZ4.out; simp; omega⟩
      rw [List.map_append]
      exact HHD2.out.far (by omega)
    · go_simp
      refine hK _ _ ?_
      clear hK K
      try simp only [Act.put, List.setIfInBounds_toArray, List.set_cons_zero, List.set_cons_succ]
      refine wpAnyIn_ready (rs := [0, 2]) (by kernel_rfl) (by simp) ?_
      refine (AllReadyIn.cons (by simp only [List.getElem?_toArray, List.getElem?_cons_succ, List.getElem?_cons_zero]; exact rfl) (fun K hK => ?_) (AllReadyIn.cons (by simp only [List.getElem?_toArray, List.getElem?_cons_succ, List.getElem?_cons_zero]; exact rfl) (fun K hK => ?_) AllReadyIn.nil))
      · go_simp
        refine hK _ _ ?_
        clear hK K
        try simp only [Act.put, List.setIfInBounds_toArray, List.set_cons_zero, List.set_cons_succ]
        refine wpAnyIn_ready (rs := [2]) (by kernel_rfl) (by simp) ?_
        refine (AllReadyIn.cons (by simp only [List.getElem?_toArray, List.getElem?_cons_succ, List.getElem?_cons_zero]; exact rfl) (fun K hK => ?_) AllReadyIn.nil)
        go_simp
        refine ⟨trivial, (CallsIn.inRound L (callsIn_wide.2 (HCL.out _ HX.out))).mono ?_⟩
        rintro e x2 ⟨v2, rfl, hO2, hB2⟩
        obtain ⟨p2, c2, rfl, hs2, hp2, hc2⟩ := hO2.shape
        have hcx := (show x2.cell? ⟨N, 0, none⟩ = some v from by rw [hB2.cell (by exact World.block_lt_of_cell? x _ hcx)]; exact hcx)
        have hfx := (show x2.frozen? ⟨N, 0, none⟩ = false from by rw [hB2.frozen (by exact World.block_lt_of_cell? x _ hcy)]; exact hfx)
        have hcy := hcx
        have hO2 := hO2.lower (b2 := A.heap.size) HX.out.size
        have HX := Lib.hid (HX.out.trans (hB2.mono HX.out.size))
        have H2 := Lib.hid (And.intro hO2 (And.intro hs2 hp2))
        have HZ2 := Lib.hid hB2.size
        clear hO2 hB2 hs2 hp2 hc2
        refine hK _ _ ?_
        clear hK K
        try simp only [Act.put, List.setIfInBounds_toArray, List.set_cons_zero, List.set_cons_succ]
        refine wpAnyIn_ready (rs := [3]) (by kernel_rfl) (by simp) ?_
        refine (AllReadyIn.cons (by simp only [List.getElem?_toArray, List.getElem?_cons_succ, List.getElem?_cons_zero]; exact rfl) (fun K hK => ?_) AllReadyIn.nil)
        go_simp
        obtain ⟨x23, hy⟩ : ∃ y, (x2.alloc (.cells #[.slice p2 (blkL l i).length c2] 35)) = y := ⟨_, rfl⟩
        have hBa : Below x2.heap.size x2 x23 := by rw [← hy]; exact (Below.refl _ _).alloc (Nat.le_refl _) _
        have hcx := (show x23.cell? ⟨N, 0, none⟩ = some v from by rw [hBa.cell (by exact World.block_lt_of_cell? x2 _ hcx)]; exact hcx)
        have hfx := (show x23.frozen? ⟨N, 0, none⟩ = false from by rw [hBa.frozen (by exact World.block_lt_of_cell? x2 _ hcy)]; exact hfx)
        have hcy := hcx
        have HX := Lib.hid (HX.out.trans (hBa.mono HX.out.size))
        have HH := Lib.hid (show LsC x23 (some ⟨x2.heap.size, 0, none⟩) [.slice p2 (blkL l i).length c2] from by rw [← hy]; exact LsC.made _ [Value.slice p2 (blkL l i).length c2] _)
        have H2 := Lib.hid (And.intro (H2.out.1.of_below hBa) (And.intro (H2.out.2.1.of_below hBa) H2.out.2.2))
        refine hK _ _ ?_
        clear hK K
        rw [hy]
        clear hy hBa
        try simp only [Act.put, List.setIfInBounds_toArray, List.set_cons_zero, List.set_cons_succ]
        refine wpAnyIn_ready (rs := [4]) (by kernel_rfl) (by simp) ?_
        refine (AllReadyIn.cons (by simp only [List.getElem?_toArray, List.getElem?_cons_succ, List.getElem?_cons_zero]; exact rfl) (fun K hK => ?_) AllReadyIn.nil)
        have hO := own_below HOW.out HX.out
        refine stepIn_appendK elR x23 rfl (.tmp 10) (.tmp 13) rfl (N + 4) rfl hO _ 1 1 [.slice p2 (blkL l i).length c2] rfl rfl HH.out (fun h => by cases h) (fun u hu => by rw [List.mem_singleton] at hu; subst hu; rfl) (by rw [List.length_map]; omega) (Nat.le_trans hNA HX.out.size) ?_
        rintro v' x234 hO' hg hor
        have hHd := HHD.out x23 x234 v' p2 c2 HX.out H2.out.2.1 H2.out.2.2 (fun c o e => H2.out.1.lt c (by rw [e]; rfl)) hO' hg hor
        have hne : some N ≠ v.ownBlock := fun e => by have := (World.ownsRow.lt hO N e.symm).1; omega
        have hcx := (show x234.cell? ⟨N, 0, none⟩ = some v from hg.cell hcx hne)
        have hfx := (show x234.frozen? ⟨N, 0, none⟩ = false from by rw [World.frozen?_of_block (w := x23) (hg.block N (by exact World.block_lt_of_cell? x23 _ hcy) hne)]; exact hfx)
        have HBB := Lib.hid (show x234.heap[N + 1]? = A.heap[N + 1]? from by
          rw [hg.block (N + 1) (by have := HX.out.size; omega) (fun e => by have := (World.ownsRow.lt hO (N + 1) e.symm).1; omega)]
          exact HX.out.block _ (by omega))
        have HBW := Lib.hid (HBE.out.trans ((HX.out.mono (by omega)).grown hg (by have := HX.out.size; omega) (fun k hk => by have := (World.ownsRow.lt hO k hk).1; omega)))
        have HKO := Lib.hid ((others_belowP HX.out).trans (KeepsOthers.grown_own hO hg))
        have HHD2 := Lib.hid hHd
        have hv4 : ∃ p n c, v' = .slice p n c := by obtain ⟨p', c', e', -⟩ := own_shape hO'; exact ⟨_, _, _, e'⟩
        obtain ⟨p4, n4, c4, rfl⟩ := hv4
        have HZ4 := Lib.hid (show N + 4 ≤ x234.heap.size from Nat.le_trans (Nat.le_trans hNA HX.out.size) hg.size)
        clear hO hO' hg hor hHd hne
        refine hK _ _ ?_
        clear hK K
        try simp only [Act.put, List.setIfInBounds_toArray, List.set_cons_zero, List.set_cons_succ]
        refine wpAnyIn_ready (rs := [5]) (by kernel_rfl) (by simp) ?_
        refine (AllReadyIn.cons (by simp only [List.getElem?_toArray, List.getElem?_cons_succ, List.getElem?_cons_zero]; exact rfl) (fun K hK => ?_) AllReadyIn.nil)
        go_simp
        refine hK _ _ ?_
        clear hK K
        try simp only [Act.put, List.setIfInBounds_toArray, List.set_cons_zero, List.set_cons_succ]
        refine wpAnyIn_done (by kernel_rfl) ?_ _
        refine ⟨HKO.out.trans (KeepsOthers.setCell _ _ _), (Below.heap_setCell _ _ _ _ (show N + 1 ≠ N by omega)).trans HBB.out, _, World.cell?_setCell_same _ _ _ hcx, by rw [World.frozen?_setCell]; exact hfx, ?_, HBW.out.setCell (show w.heap.size ≤ (⟨N, 0, none⟩ : Addr).block by rw [hN]; exact Nat.le_refl _) _, by have := HZ4.out; simp; omega⟩
        rw [List.map_append]
        exact HHD2.out.far (by omega)
      · go_simp
        refine ⟨trivial, (CallsIn.inRound L (callsIn_wide.2 (HCL.out _ HX.out))).mono ?_⟩
        rintro e x2 ⟨v2, rfl, hO2, hB2⟩
        obtain ⟨p2, c2, rfl, hs2, hp2, hc2⟩ := hO2.shape
        have hcx := (show x2.cell? ⟨N, 0, none⟩ = some v from by rw [hB2.cell (by exact World.block_lt_of_cell? x _ hcx)]; exact hcx)
        have hfx := (show x2.frozen? ⟨N, 0, none⟩ = false from by rw [hB2.frozen (by exact World.block_lt_of_cell? x _ hcy)]; exact hfx)
        have hcy := hcx
        have hO2 := hO2.lower (b2 := A.heap.size) HX.out.size
        have HX := Lib.hid (HX.out.trans (hB2.mono HX.out.size))
        have H2 := Lib.hid (And.intro hO2 (And.intro hs2 hp2))
        have HZ2 := Lib.hid hB2.size
        clear hO2 hB2 hs2 hp2 hc2
        refine hK _ _ ?_
        clear hK K
        try simp only [Act.put, List.setIfInBounds_toArray, List.set_cons_zero, List.set_cons_succ]
        refine wpAnyIn_ready (rs := [0, 3]) (by kernel_rfl) (by simp) ?_
        refine (AllReadyIn.cons (by simp only [List.getElem?_toArray, List.getElem?_cons_succ, List.getElem?_cons_zero]; exact rfl) (fun K hK => ?_) (AllReadyIn.cons (by simp only [List.getElem?_toArray, List.getElem?_cons_succ, List.getElem?_cons_zero]; exact rfl) (fun K hK => ?_) AllReadyIn.nil))
        · go_simp
          refine hK _ _ ?_
          clear hK K
          try simp only [Act.put, List.setIfInBounds_toArray, List.set_cons_zero, List.set_cons_succ]
          refine wpAnyIn_ready (rs := [3]) (by kernel_rfl) (by simp) ?_
          refine (AllReadyIn.cons (by simp only [List.getElem?_toArray, List.getElem?_cons_succ, List.getElem?_cons_zero]; exact rfl) (fun K hK => ?_) AllReadyIn.nil)
          go_simp
          obtain ⟨x23, hy⟩ : ∃ y, (x2.alloc (.cells #[.slice p2 (blkL l i).length c2] 35)) = y := ⟨_, rfl⟩
          have hBa : Below x2.heap.size x2 x23 := by rw [← hy]; exact (Below.refl _ _).alloc (Nat.le_refl _) _
          have hcx := (show x23.cell? ⟨N, 0, none⟩ = some v from by rw [hBa.cell (by exact World.block_lt_of_cell? x2 _ hcx)]; exact hcx)
          have hfx := (show x23.frozen? ⟨N, 0, none⟩ = false from by rw [hBa.frozen (by exact World.block_lt_of_cell? x2 _ hcy)]; exact hfx)
          have hcy := hcx
          have HX := Lib.hid (HX.out.trans (hBa.mono HX.out.size))
          have HH := Lib.hid (show LsC x23 (some ⟨x2.heap.size, 0, none⟩) [.slice p2 (blkL l i).length c2] from by rw [← hy]; exact LsC.made _ [Value.slice p2 (blkL l i).length c2] _)
          have H2 := Lib.hid (And.intro (H2.out.1.of_below hBa) (And.intro (H2.out.2.1.of_below hBa) H2.out.2.2))
          refine hK _ _ ?_
          clear hK K
          rw [hy]
          clear hy hBa
          try simp only [Act.put, List.setIfInBounds_toArray, List.set_cons_zero, List.set_cons_succ]
          refine wpAnyIn_ready (rs := [4]) (by kernel_rfl) (by simp) ?_
          refine (AllReadyIn.cons (by simp only [List.getElem?_toArray, List.getElem?_cons_succ, List.getElem?_cons_zero]; exact rfl) (fun K hK => ?_) AllReadyIn.nil)
          have hO := own_below HOW.out HX.out
          refine stepIn_appendK elR x23 rfl (.tmp 10) (.tmp 13) rfl (N + 4) rfl hO _ 1 1 [.slice p2 (blkL l i).length c2] rfl rfl HH.out (fun h => by cases h) (fun u hu => by rw [List.mem_singleton] at hu; subst hu; rfl) (by rw [List.length_map]; omega) (Nat.le_trans hNA HX.out.size) ?_
          rintro v' x234 hO' hg hor
          have hHd := HHD.out x23 x234 v' p2 c2 HX.out H2.out.2.1 H2.out.2.2 (fun c o e => H2.out.1.lt c (by rw [e]; rfl)) hO' hg hor
          have hne : some N ≠ v.ownBlock := fun e => by have := (World.ownsRow.lt hO N e.symm).1; omega
          have hcx := (show x234.cell? ⟨N, 0, none⟩ = some v from hg.cell hcx hne)
          have hfx := (show x234.frozen? ⟨N, 0, none⟩ = false from by rw [World.frozen?_of_block (w := x23) (hg.block N (by exact World.block_lt_of_cell? x23 _ hcy) hne)]; exact hfx)
          have HBB := Lib.hid (show x234.heap[N + 1]? = A.heap[N + 1]? from by
            rw [hg.block (N + 1) (by have := HX.out.size; omega) (fun e => by have := (World.ownsRow.lt hO (N + 1) e.symm).1; omega)]
            exact HX.out.block _ (by omega))
          have HBW := Lib.hid (HBE.out.trans ((HX.out.mono (by omega)).grown hg (by have := HX.out.size; omega) (fun k hk => by have := (World.ownsRow.lt hO k hk).1; omega)))
          have HKO := Lib.hid ((others_belowP HX.out).trans (KeepsOthers.grown_own hO hg))
          have HHD2 := Lib.hid hHd
          have hv4 : ∃ p n c, v' = .slice p n c := by obtain ⟨p', c', e', -⟩ := own_shape hO'; exact ⟨_, _, _, e'⟩
          obtain ⟨p4, n4, c4, rfl⟩ := hv4
          have HZ4 := Lib.hid (show N + 4 ≤ x234.heap.size from Nat.le_trans (Nat.le_trans hNA HX.out.size) hg.size)
          clear hO hO' hg hor hHd hne
          refine hK _ _ ?_
          clear hK K
          try simp only [Act.put, List.setIfInBounds_toArray, List.set_cons_zero, List.set_cons_succ]
          refine wpAnyIn_ready (rs := [5]) (by kernel_rfl) (by simp) ?_
          refine (AllReadyIn.cons (by simp only [List.getElem?_toArray, List.getElem?_cons_succ, List.getElem?_cons_zero]; exact rfl) (fun K hK => ?_) AllReadyIn.nil)
          go_simp
          refine hK _ _ ?_
          clear hK K
          try simp only [Act.put, List.setIfInBounds_toArray, List.set_cons_zero, List.set_cons_succ]
          refine wpAnyIn_done (by kernel_rfl) ?_ _
          refine ⟨HKO.out.trans (KeepsOthers.setCell _ _ _), (Below.heap_setCell _ _ _ _ (show N + 1 ≠ N by omega)).trans HBB.out, _, World.cell?_setCell_same _ _ _ hcx, by rw [World.frozen?_setCell]; exact hfx, ?_, HBW.out.setCell (show w.heap.size ≤ (⟨N, 0, none⟩ : Addr).block by rw [hN]; exact Nat.le_refl _) _, by have := HZ4.out; simp; omega⟩
          rw [List.map_append]
          exact HHD2.out.far (by omega)
        · go_simp
          obtain ⟨x23, hy⟩ : ∃ y, (x2.alloc (.cells #[.slice p2 (blkL l i).length c2] 35)) = y := ⟨_, rfl⟩
          have hBa : Below x2.heap.size x2 x23 := by rw [← hy]; exact (Below.refl _ _).alloc (Nat.le_refl _) _
          have hcx := (show x23.cell? ⟨N, 0, none⟩ = some v from by rw [hBa.cell (by exact World.block_lt_of_cell? x2 _ hcx)]; exact hcx)
          have hfx := (show x23.frozen? ⟨N, 0, none⟩ = false from by rw [hBa.frozen (by exact World.block_lt_of_cell? x2 _ hcy)]; exact hfx)
          have hcy := hcx
          have HX := Lib.hid (HX.out.trans (hBa.mono HX.out.size))
          have HH := Lib.hid (show LsC x23 (some ⟨x2.heap.size, 0, none⟩) [.slice p2 (blkL l i).length c2] from by rw [← hy]; exact LsC.made _ [Value.slice p2 (blkL l i).length c2] _)
          have H2 := Lib.hid (And.intro (H2.out.1.of_below hBa) (And.intro (H2.out.2.1.of_below hBa) H2.out.2.2))
          refine hK _ _ ?_
          clear hK K
          rw [hy]
          clear hy hBa
          try simp only [Act.put, List.setIfInBounds_toArray, List.set_cons_zero, List.set_cons_succ]
          refine wpAnyIn_ready (rs := [0]) (by kernel_rfl) (by simp) ?_
          refine (AllReadyIn.cons (by simp only [List.getElem?_toArray, List.getElem?_cons_succ, List.getElem?_cons_zero]; exact rfl) (fun K hK => ?_) AllReadyIn.nil)
          go_simp
          refine hK _ _ ?_
          clear hK K
          try simp only [Act.put, List.setIfInBounds_toArray, List.set_cons_zero, List.set_cons_succ]
          refine wpAnyIn_ready (rs := [4]) (by kernel_rfl) (by simp) ?_
          refine (AllReadyIn.cons (by simp only [List.getElem?_toArray, List.getElem?_cons_succ, List.getElem?_cons_zero]; exact rfl) (fun K hK => ?_) AllReadyIn.nil)
          have hO := own_below HOW.out HX.out
          refine stepIn_appendK elR x23 rfl (.tmp 10) (.tmp 13) rfl (N + 4) rfl hO _ 1 1 [.slice p2 (blkL l i).length c2] rfl rfl HH.out (fun h => by cases h) (fun u hu => by rw [List.mem_singleton] at hu; subst hu; rfl) (by rw [List.length_map]; omega) (Nat.le_trans hNA HX.out.size) ?_
          rintro v' x234 hO' hg hor
          have hHd := HHD.out x23 x234 v' p2 c2 HX.out H2.out.2.1 H2.out.2.2 (fun c o e => H2.out.1.lt c (by rw [e]; rfl)) hO' hg hor
          have hne : some N ≠ v.ownBlock := fun e => by have := (World.ownsRow.lt hO N e.symm).1; omega
          have hcx := (show x234.cell? ⟨N, 0, none⟩ = some v from hg.cell hcx hne)
          have hfx := (show x234.frozen? ⟨N, 0, none⟩ = false from by rw [World.frozen?_of_block (w := x23) (hg.block N (by exact World.block_lt_of_cell? x23 _ hcy) hne)]; exact hfx)
          have HBB := Lib.hid (show x234.heap[N + 1]? = A.heap[N + 1]? from by
            rw [hg.block (N + 1) (by have := HX.out.size; omega) (fun e => by have := (World.ownsRow.lt hO (N + 1) e.symm).1; omega)]
            exact HX.out.block _ (by omega))
          have HBW := Lib.hid (HBE.out.trans ((HX.out.mono (by omega)).grown hg (by have := HX.out.size; omega) (fun k hk => by have := (World.ownsRow.lt hO k hk).1; omega)))
          have HKO := Lib.hid ((others_belowP HX.out).trans (KeepsOthers.grown_own hO hg))
          have HHD2 := Lib.hid hHd
          have hv4 : ∃ p n c, v' = .slice p n c := by obtain ⟨p', c', e', -⟩ := own_shape hO'; exact ⟨_, _, _, e'⟩
          obtain ⟨p4, n4, c4, rfl⟩ := hv4
          have HZ4 := Lib.hid (show N + 4 ≤ x234.heap.size from Nat.le_trans (Nat.le_trans hNA HX.out.size) hg.size)
          clear hO hO' hg hor hHd hne
          refine hK _ _ ?_
          clear hK K
          try simp only [Act.put, List.setIfInBounds_toArray, List.set_cons_zero, List.set_cons_succ]
          refine wpAnyIn_ready (rs := [5]) (by kernel_rfl) (by simp) ?_
          refine (AllReadyIn.cons (by simp only [List.getElem?_toArray, List.getElem?_cons_succ, List.getElem?_cons_zero]; exact rfl) (fun K hK => ?_) AllReadyIn.nil)
          go_simp
          refine hK _ _ ?_
          clear hK K
          try simp only [Act.put, List.setIfInBounds_toArray, List.set_cons_zero, List.set_cons_succ]
          refine wpAnyIn_done (by kernel_rfl) ?_ _
          refine ⟨HKO.out.trans (KeepsOthers.setCell _ _ _), (Below.heap_setCell _ _ _ _ (show N + 1 ≠ N by omega)).trans HBB.out, _, World.cell?_setCell_same _ _ _ hcx, by rw [World.frozen?_setCell]; exact hfx, ?_, HBW.out.setCell (show w.heap.size ≤ (⟨N, 0, none⟩ : Addr).block by rw [hN]; exact Nat.le_refl _) _, by have := HZ4.out; simp; omega⟩
          rw [List.map_append]
          exact HHD2.out.far (by omega)
  case done =>
    rintro D A hD hinv hK
    obtain ⟨v, hcx, hfx, hHd, hBE, -⟩ := hinv
    have HD := Lib.hid hHd
    have HBE := Lib.hid hBE
    clear hHd hBE hfx inv0
    gi_wp2
    refine ⟨by simp, .inl ⟨_, _, rfl, run_takeDeferred hK, ?_⟩⟩
    have hDl := (Array.getElem?_eq_some_iff.1 hK).1
    refine ⟨v, ?_, v, rfl, (HD.out.put hDl (by omega)).lower (by omega), HBE.out.trans (below_putP _ (by omega) hDl)⟩
    simp [results, Tryz.f35, go_sem]
  case stop =>
    rintro D pre A hD hpre hF hK
    exact hF.elim
end Go.Proofs.YtfemgkamgokjcaaGreatDoor
/- Slices of slices of bytes, as they read; the blocks of bytes one behind the other. -/
set_option maxRecDepth 100000
namespace Go.Proofs.YtfemgkamgokjcaaGreatDoor
open Go Go.RowKit
attribute [-go_sem] Sha.exec_store

def blks (l : List (BitVec 8)) : List (List (BitVec 8)) := (List.range (nblk l.length)).map (blkL l)
theorem blks_len (l : List (BitVec 8)) : (blks l).length = nblk l.length := by unfold blks; simp
theorem blks_append {l m : List (BitVec 8)} {k : Nat} (h : l.length = 256 * k) : blks (l ++ m) = blks l ++ blks m := by
  unfold blks
  have e1 : nblk l.length = k := by rw [h]; unfold nblk; omega
  have e2 : nblk (l ++ m).length = k + nblk m.length := by rw [List.length_append, h]; unfold nblk; omega
  rw [e1, e2, List.range_add, List.map_append, List.map_map]
  congr 1
  · refine List.map_congr_left fun i hi => ?_
    have hi' : i < k := List.mem_range.1 hi
    unfold blkL
    rw [List.drop_append_of_le_length (by omega), List.take_append_of_le_length (by rw [List.length_drop]; omega)]
  · refine List.map_congr_left fun i _ => ?_
    show blkL (l ++ m) (k + i) = blkL m i
    unfold blkL
    rw [List.drop_append, List.drop_eq_nil_of_le (by omega), List.nil_append, show 256 * (k + i) - l.length = 256 * i by omega]
/-- The headers hs are those of the bytes bs. -/
def Hrows (w : World) (hs : List Value) (bs : List (List (BitVec 8))) : Prop := ∀ i, i < bs.length → ∃ p cap, hs[i]? = some (.slice p (bs.getD i []).length cap) ∧ Sl w p (bs.getD i []) ∧ (p = none → cap = 0)
theorem Hrows.append {w : World} {hs hs' : List Value} {bs bs' : List (List (BitVec 8))} (h : Hrows w hs bs) (h' : Hrows w hs' bs') (hl : hs.length = bs.length) : Hrows w (hs ++ hs') (bs ++ bs') := fun i hi => by
  rw [List.length_append] at hi
  by_cases c : i < bs.length
  · obtain ⟨p, cap, e1, e2, e3⟩ := h i c
    have hg : (bs ++ bs').getD i [] = bs.getD i [] := by simp [List.getD_eq_getElem?_getD, List.getElem?_append_left c]
    rw [hg]
    exact ⟨p, cap, by rw [List.getElem?_append_left (by omega)]; exact e1, e2, e3⟩
  · obtain ⟨p, cap, e1, e2, e3⟩ := h' (i - bs.length) (by omega)
    have hg : (bs ++ bs').getD i [] = bs'.getD (i - bs.length) [] := by simp [List.getD_eq_getElem?_getD, List.getElem?_append_right (Nat.le_of_not_lt c)]
    rw [hg]
    exact ⟨p, cap, by rw [List.getElem?_append_right (by omega), hl]; exact e1, e2, e3⟩
theorem Hrows.of_below {w w' : World} {hs : List Value} {bs : List (List (BitVec 8))} (h : Hrows w hs bs) (k : Below w.heap.size w w') : Hrows w' hs bs := fun i hi => by
  obtain ⟨p, cap, e1, e2, e3⟩ := h i hi
  exact ⟨p, cap, e1, e2.of_below k, e3⟩
theorem Hds.open {w : World} {N : Nat} {v : Value} {bs : List (List (BitVec 8))} (h : Hds w N v bs) : ∃ hs p cap, v = .slice p bs.length cap ∧ hs.length = bs.length ∧ LsC w p hs ∧ (p = none → cap = 0 ∧ bs.length = 0) ∧ bs.length ≤ cap ∧ Hrows w hs bs ∧ (∀ u ∈ hs, u.oneCell' = true) := by
  obtain ⟨hs, h1, h2⟩ := h
  obtain ⟨p, cap, e, h3, h4, h5, -⟩ := own_shape h1
  have hl : hs.length = bs.length := by have := h1.1; omega
  refine ⟨hs, p, cap, e, hl, h3, fun e => ⟨h4 e, by have := h4 e; omega⟩, h5, fun i hi => ?_, fun u hu => ?_⟩
  · obtain ⟨q, d, e1, e2, e3, -⟩ := h2 i hi
    exact ⟨q, d, e1, e2, e3⟩
  · obtain ⟨i, hi, e⟩ := List.getElem_of_mem hu
    obtain ⟨q, d, e1, -⟩ := h2 i (by omega)
    rw [List.getElem?_eq_getElem hi, e] at e1
    injection e1 with e1
    rw [e1]
    rfl
/-- A header that is read. -/
theorem Hrows.cell {w : World} {hs : List Value} {bs : List (List (BitVec 8))} {p : Option Addr} (h : Hrows w hs bs) (hl : LsC w p hs) (i : Nat) (hi : i < bs.length) : ∃ c o q d, p = some ⟨c, o, none⟩ ∧ w.cell? ⟨c, o + i, none⟩ = some (.slice q (bs.getD i []).length d) ∧ Sl w q (bs.getD i []) ∧ (q = none → d = 0) := by
  obtain ⟨q, d, e1, e2, e3⟩ := h i hi
  obtain ⟨c, o, ep, -, hc⟩ := hl.cell e1
  exact ⟨c, o, q, d, ep, hc, e2, e3⟩
end Go.Proofs.YtfemgkamgokjcaaGreatDoor
/- Stores of bytes and ints, and slices of bytes that are made. -/
set_option maxRecDepth 100000
namespace Go.Proofs.YtfemgkamgokjcaaGreatDoor
open Go Go.RowKit
attribute [-go_sem] Sha.exec_store

theorem convIB (n : Nat) (w : World) : (convert 3 5 (.int .i64 (n : Int))).run Tryz.prog w = .ok (B (BitVec.ofNat 8 n)) w :=
  run_convert_IB w 3 5 n (by kernel_rfl) (by kernel_rfl)
theorem st_B (a : Addr) (x : BitVec 8) (w : World) (hcell : (w.cell? a).isSome = true) (hf : w.frozen? a = false) : (stT 5 (.pointer (some a)) (B x)).run Tryz.prog w = .ok .skip (w.setCell a (B x)) :=
  stT_one 5 a (B x) w (one_B x) (cells_B x) (by kernel_rfl) hcell hf
theorem st_I (a : Addr) (x : Int) (w : World) (hcell : (w.cell? a).isSome = true) (hf : w.frozen? a = false) : (stT 3 (.pointer (some a)) (.int .i64 x)).run Tryz.prog w = .ok .skip (w.setCell a (.int .i64 x)) :=
  stT_one 3 a _ w rfl rfl (by kernel_rfl) hcell hf
theorem st_b (a : Addr) (x : Int) (w : World) (hcell : (w.cell? a).isSome = true) (hf : w.frozen? a = false) : (stT 5 (.pointer (some a)) (.int .u8 x)).run Tryz.prog w = .ok .skip (w.setCell a (.int .u8 x)) :=
  stT_one 5 a _ w rfl rfl (by kernel_rfl) hcell hf
theorem mkB (n : Nat) (w : World) (hn : n < 4294967296) : (mkT 35 (.int .i64 (n : Int)) (.int .i64 (n : Int))).run Tryz.prog w = .ok (.value (.slice (some ⟨w.heap.size, 0, none⟩) n n)) (w.alloc (.cells (zb n) 5)) := by
  have hi : (Tryz.prog.info? 5).map (fun i => (i.zero, i.size, i.bytes)) = some (some (.int .u8 0), 1, 1) := by kernel_rfl
  cases hq : Tryz.prog.info? 5 with
  | none => simp [hq] at hi
  | some i =>
    rw [hq] at hi
    simp only [Option.map_some, Option.some.injEq, Prod.mk.injEq] at hi
    obtain ⟨h1, h2, h3⟩ := hi
    have := run_make (P := Tryz.prog) w 35 5 i (.int .u8 0) (by kernel_rfl) hq h1 .i64 .i64 n n (by omega) (Int.le_refl _) (by rw [h3]; omega) (by omega)
    rw [h2] at this
    simp only [Int.toNat_natCast, Nat.mul_one] at this
    simp only [mkT, Sem.run_bind, this, Result.andThen_ok, Sem.run_pure]
    congr 2
    rw [zb_eq]
    congr 1
    apply Array.ext_getElem?
    intro j
    by_cases hj : j < n <;> simp [madeCells, Value.cells, hj, Nat.mod_one]
end Go.Proofs.YtfemgkamgokjcaaGreatDoor
/- The layer's example; which records are small. -/
set_option maxRecDepth 100000
namespace Go.Proofs.YtfemgkamgokjcaaGreatDoor
open Go Go.RowKit

attribute [-go_sem] Sha.exec_store
theorem below_newA (w : World) (o : Obj) : Below w.heap.size w (w.alloc o) := (Below.refl _ _).alloc (Nat.le_refl _) _
theorem bsR0 (w : World) : (bsT 73 0 #[]).run Tryz.prog w = .ok (.value (.slice (some ⟨w.heap.size, 0, none⟩) 0 0)) (w.alloc (.cells #[] 35)) := by kernel_rfl
theorem zb_sl (w : World) (n : Nat) : Sl (w.alloc (.cells (zb n) 5)) (some ⟨w.heap.size, 0, none⟩) (List.replicate n 0#8) := by
  refine Sl.row (g := fun _ => B 0#8) (Row.new w 5 n _) (by simp) fun j hj => ?_
  simp at hj
  simp [List.getD_eq_getElem?_getD, hj]
section
attribute [local go_sem ↓] exec_make
set_option maxRecDepth 100000 in
set_option maxHeartbeats 2000000 in
theorem awake10 (w : World) : Calls Tryz.prog 7 #[] w fun e w' => e = .returned (.bool true) ∧ Below w.heap.size w w' := by
  obtain ⟨W, hW⟩ : ∃ W, w.alloc (.cells (zb 257) 5) = W := ⟨_, rfl⟩
  have hB : Below w.heap.size w W := by rw [← hW]; exact (Below.refl _ _).alloc (Nat.le_refl _) _
  have HC := Lib.hid (cut_any10 (List.replicate 257 0#8) (some ⟨w.heap.size, 0, none⟩) 257 257 W (by simp) (by rw [← hW]; exact zb_sl w 257) (fun h => by cases h) (Nat.le_refl _) (by decide))
  have HB := Lib.hid hB
  have HW := Lib.hid hW
  have hmk : ∀ u, (mkT 35 (.int .i64 257) (.int .i64 257)).run Tryz.prog u = .ok (.value (.slice (some ⟨u.heap.size, 0, none⟩) 257 257)) (u.alloc (.cells (zb 257) 5)) := fun u => mkB 257 u (by decide)
  clear hB hW
  go_enter Tryz.func7, Tryz.ntmps7
  go_wp2_with fail
  rw [HW.out]
  refine HC.out.mono ?_
  rintro e w2 ⟨v, rfl, hH, hB2⟩
  obtain ⟨hs, p, cap, hv, hl, hls, hp, hcap, hrows, -⟩ := hH.open
  have hlen : ((List.range (nblk 257)).map (blkL (List.replicate 257 0#8))).length = 2 := by simp; rfl
  obtain ⟨c0, o0, q0, d0, e0, x0, -, -⟩ := hrows.cell hls 0 (by rw [hlen]; decide)
  obtain ⟨c1, o1, q1, d1, e1, x1, -, -⟩ := hrows.cell hls 1 (by rw [hlen]; decide)
  have g0 : (((List.range (nblk 257)).map (blkL (List.replicate 257 0#8))).getD 0 []).length = 256 := by show (blkL (List.replicate 257 0#8) 0).length = 256; rw [blkL_len]; simp; rfl
  have g1 : (((List.range (nblk 257)).map (blkL (List.replicate 257 0#8))).getD 1 []).length = 1 := by show (blkL (List.replicate 257 0#8) 1).length = 1; rw [blkL_len]; simp; rfl
  rw [g0, Nat.add_zero] at x0
  rw [g1] at x1
  rw [hlen] at hv hcap
  subst hv
  subst e0
  injection e1 with e1
  injection e1 with e1 e2
  subst e1 e2
  have HBB := Lib.hid (HB.out.trans (hB2.mono HB.out.size))
  clear hrows hls hp hH hB2 g0 g1 hlen hl
  go_wp2
  go_ret
  exact ⟨rfl, HBB.out⟩
end
attribute [local go_sem ↓] exec_boxM
attribute [local go_sem] boxM
set_option maxRecDepth 100000 in
set_option maxHeartbeats 2000000 in
theorem small10_any (r : Rc) (w : World) : Calls Tryz.prog 8 #[rcV r] w fun e w' => e = .returned (.bool (decide (r.path.length ≤ 200) && decide (r.n ≤ 100))) ∧ Below w.heap.size w w' := by
  obtain ⟨W, hW⟩ : ∃ W, w.alloc (.cells (tab 54 (rcF r)) 26) = W := ⟨_, rfl⟩
  have hR : Row W w.heap.size 26 54 (rcF r) := by rw [← hW]; exact Row.new w _ 54 (rcF r)
  have HB := Lib.hid (show Below w.heap.size w W from by rw [← hW]; exact (Below.refl _ _).alloc (Nat.le_refl _) _)
  have l1 := rc_path hR
  have l2 := rc_blocks hR
  have hsz := mkS_size r.path
  have hbx : (bxT 26 (rcV r)).run Tryz.prog w = .ok (.value (.pointer (some ⟨w.heap.size, 0, none⟩))) W := by rw [← hW]; exact boxM w r
  obtain ⟨V, hV⟩ : ∃ V, rcV r = V := ⟨_, rfl⟩
  rw [hV] at hbx ⊢
  clear hR hW hV
  obtain ⟨p, s, t, c, f, d, wh, q, n, cap⟩ := r
  dsimp only at *
  by_cases h1 : p.length ≤ 200
  · have z1 : (p.length : Int) ≤ 200 := by omega
    have d1 : decide ((p.length : Int) ≤ 200) = true := decide_eq_true z1
    by_cases h2 : n ≤ 100
    · have z2 : (n : Int) ≤ 100 := by omega
      have d2 : decide ((n : Int) ≤ 100) = true := decide_eq_true z2
      have HH := Lib.hid (show (decide (p.length ≤ 200) && decide (n ≤ 100)) = true from by simp [h1, h2])
      clear h1 h2
      go_enter Tryz.func8, Tryz.ntmps8
      go_wp2
      go_ret
      exact ⟨by rw [HH.out]; rfl, HB.out⟩
    · have z2 : ¬ (n : Int) ≤ 100 := by omega
      have d2 : decide ((n : Int) ≤ 100) = false := decide_eq_false z2
      have HH := Lib.hid (show (decide (p.length ≤ 200) && decide (n ≤ 100)) = false from by simp [h2])
      clear h1 h2
      go_enter Tryz.func8, Tryz.ntmps8
      go_wp2
      go_ret
      exact ⟨by rw [HH.out]; rfl, HB.out⟩
  · have z1 : ¬ (p.length : Int) ≤ 200 := by omega
    have d1 : decide ((p.length : Int) ≤ 200) = false := decide_eq_false z1
    have HH := Lib.hid (show (decide (p.length ≤ 200) && decide (n ≤ 100)) = false from by simp [h1])
    clear h1
    go_enter Tryz.func8, Tryz.ntmps8
    go_wp2
    go_ret
    exact ⟨by rw [HH.out]; rfl, HB.out⟩
end Go.Proofs.YtfemgkamgokjcaaGreatDoor
/- What the statements' arguments read as, in the walks' words. -/
set_option maxRecDepth 100000
namespace Go.Proofs.YtfemgkamgokjcaaGreatDoor
open Go Go.ChangeShapes Go.WideShapes Go.ChangeAt Go.RowKit
attribute [-go_sem] Sha.exec_store

theorem own : ownKnob Tryz.prog.godebug = none := by kernel_rfl
theorem laidOut : laidOutB Tryz.prog = true := by kernel_rfl
theorem cellsByte : Tryz.prog.cellsOf 5 = 1 := by kernel_rfl
theorem undByte : Tryz.prog.underlying 5 = some (.int .u8) := by kernel_rfl
theorem undBytes : Tryz.prog.underlying 35 = some (.slice 5) := by kernel_rfl
/-- The bytes of a slice of numbers. -/
def bytesOf (zs : List Int) : List (BitVec 8) := zs.map fun z => BitVec.ofInt 8 z
theorem B_ofInt {z : Int} (h : (Lit.int .u8 z).wf = true) : B (BitVec.ofInt 8 z) = .int .u8 z := by
  have := bounds_u8 h
  rw [B_eq']
  congr 1
  rw [BitVec.toNat_ofInt]
  omega
theorem Sl_of_ints {W : World} {a : Addr} {len : Nat} {zs : List Int} (hz : len ≤ zs.length) (hc : ∀ i, i < zs.length → W.cell? (a.add i) = some (.int .u8 (zs.getD i 0))) (hw : ∀ n ∈ zs, (Lit.int .u8 n).wf = true) :
    Sl W (some a) (bytesOf (zs.take len)) := fun j hj => by
  have hj' : j < len := by simp [bytesOf] at hj; omega
  have h0 := hc 0 (by omega)
  rw [Addr.add_zero'] at h0
  have hs : a.spot = none := by
    cases h : a.spot with
    | none => rfl
    | some s =>
      unfold World.cell? at h0
      split at h0
      · simp [h] at h0
      · cases h0
  obtain ⟨c, o, sp⟩ := a
  obtain rfl : sp = none := hs
  refine ⟨c, o, rfl, ?_⟩
  have hj2 := hc j (by omega)
  rw [Addr.add_mid] at hj2
  rw [hj2]
  have hjz : j < zs.length := by omega
  have e : (bytesOf (zs.take len)).getD j 0#8 = BitVec.ofInt 8 zs[j] := by
    simp [bytesOf, List.getD_eq_getElem?_getD, hj', hjz]
  rw [e, B_ofInt (hw _ (List.getElem_mem hjz))]
  simp [List.getD_eq_getElem?_getD, hjz]
theorem bytesOf_length (zs : List Int) : (bytesOf zs).length = zs.length := by simp [bytesOf]
/-- An argument that is a slice of bytes. -/
theorem open_bytes {H : Type} {enc : TypeId × Value → H} {W : World} {a0 : Option Addr} {len cap : Nat} {d : DataW H} {ps : List MemPlace}
    (h : DataW.Trod enc Tryz.prog W 0 (fun _ => true) true 35 (.slice a0 len cap) d ps) : ∃ l : List (BitVec 8), Sl W a0 l ∧ l.length = len ∧ (a0 = none → cap = 0) := by
  obtain ⟨fuel, hfu⟩ := h
  rcases open_ints undBytes undByte cellsByte hfu with ⟨hcs, _⟩ | ⟨a, len', cap', zs, hcs, _, hl, hm, hz, hx, hcell, hwz⟩
  · simp [Value.cells] at hcs
    obtain ⟨rfl, rfl, rfl⟩ := hcs
    exact ⟨[], fun j hj => absurd hj (by simp), rfl, fun _ => rfl⟩
  · simp [Value.cells] at hcs
    obtain ⟨rfl, rfl, rfl⟩ := hcs
    have hzl : len ≤ zs.length := by rw [hz]; split <;> omega
    have hln : (bytesOf (zs.take len)).length = len := by rw [bytesOf_length, List.length_take]; omega
    exact ⟨bytesOf (zs.take len), Sl_of_ints hzl hcell hwz, hln, fun h => by cases h⟩
end Go.Proofs.YtfemgkamgokjcaaGreatDoor
/- An argument that is an array of 16 ints, in the walks' words. -/
set_option maxRecDepth 100000
namespace Go.Proofs.YtfemgkamgokjcaaGreatDoor
open Go Go.ChangeShapes Go.WideShapes Go.ChangeAt Go.RowKit
attribute [-go_sem] Sha.exec_store

theorem cellsInt9 : Tryz.prog.cellsOf 3 = 1 := by kernel_rfl
theorem cellsArr9 : Tryz.prog.cellsOf 22 = 16 := by kernel_rfl
/-- The number in a cell. -/
def intIn : Option Value → Int
  | some (.int _ a) => a
  | _ => 0
theorem open_arr16 {H : Type} {enc : TypeId × Value → H} {W : World} {r : _root_.Go.Reach} {b0 : Nat} {v : Value} {d : DataW H} {ps : List MemPlace} (hval : Value.okWide Tryz.prog W r b0 22 v)
    (h : DataW.Trod enc Tryz.prog W 0 (fun _ => true) true 22 v d ps) : ∃ f : Nat → Int, v = vcV f ∧ ps = [] := by
  simp only [Value.okWide, vtA.und] at hval
  obtain ⟨cs, rfl, hsz, -⟩ := hval
  rw [cellsArr9] at hsz
  obtain ⟨fuel, hf⟩ := h
  obtain ⟨xs, m, -, hx, hl, hn, hi⟩ := DataW.trod_array vtA.und hf
  rw [cellsInt9] at hi
  have hc : ((Value.agg cs).cells.toList) = cs.toList := rfl
  rw [hc] at hi
  have key : ∀ i, i < 16 → ∃ a y, cs[i]? = some (.int .i64 a) ∧ xs[i]? = some y ∧ y.2 = [] := fun i h16 => by
    have e0 := hi i h16
    have hxi : xs[i]? = some (xs[i]'(by omega)) := List.getElem?_eq_getElem (by omega)
    rw [hxi] at e0
    obtain ⟨a, ha, hy, -⟩ := DataW.trod_int undInt e0
    refine ⟨a, _, ?_, hxi, by rw [hy]⟩
    rw [Nat.mul_one] at ha
    have : (cs.toList.drop i)[0]? = some (.int .i64 a) := by
      have h1 : ((cs.toList.drop i).take 1)[0]? = some (.int .i64 a) := by rw [ha]; rfl
      rw [List.getElem?_take] at h1
      simpa using h1
    rw [List.getElem?_drop, Nat.add_zero] at this
    simpa using this
  refine ⟨fun i => intIn cs[i]?, ?_, ?_⟩
  · unfold vcV
    congr 1
    apply Array.ext_getElem?
    intro j
    by_cases hj : j < 16
    · obtain ⟨a, y, e, -, -⟩ := key j hj
      rw [tab_get 16 _ j hj, e]
      show some (Value.int .i64 a) = some (Value.int .i64 (intIn cs[j]?))
      rw [e]
      rfl
    · rw [Array.getElem?_eq_none (by omega), Array.getElem?_eq_none (by rw [tab_size]; omega)]
  · simp only [Prod.mk.injEq] at hx
    rw [hx.2, List.flatMap_eq_nil_iff]
    intro y hy
    obtain ⟨i, hi16, rfl⟩ := List.getElem_of_mem hy
    obtain ⟨a, y, -, e, e2⟩ := key i (by omega)
    rw [List.getElem?_eq_getElem hi16] at e
    injection e with e
    rw [e]
    exact e2
end Go.Proofs.YtfemgkamgokjcaaGreatDoor
/- What the statements' strings read as, in the walks' words. -/
set_option maxRecDepth 100000
namespace Go.Proofs.YtfemgkamgokjcaaGreatDoor
open Go Go.ChangeShapes Go.WideShapes Go.ChangeAt Go.RowKit
attribute [-go_sem] Sha.exec_store

theorem open_str {H : Type} {enc : TypeId × Value → H} {W : World} {r : Reach} {base : Nat} {v : Value} {d : DataW H} {ps : List MemPlace} (hv : Value.okWide Tryz.prog W r base 9 v)
    (h : DataW.Trod enc Tryz.prog W 0 (fun _ => true) true 9 v d ps) : ∃ s : ByteArray, v = .string s ∧ d = .lit (.string s.data.toList) ∧ ps = [] := by
  obtain ⟨s, rfl⟩ := okWide_string strT hv
  obtain ⟨fuel, hf⟩ := h
  obtain ⟨s', h1, h2, h3⟩ := DataW.trod_string strT hf
  simp [Value.cells] at h1
  subst h1
  injection h2 with h4 h5
  exact ⟨s, rfl, h4, h5⟩
end Go.Proofs.YtfemgkamgokjcaaGreatDoor
/- Arguments that are records, in the walks' words. -/
set_option maxRecDepth 100000
namespace Go.Proofs.YtfemgkamgokjcaaGreatDoor
open Go Go.ChangeShapes Go.WideShapes Go.ChangeAt Go.RowKit
attribute [-go_sem] Sha.exec_store

theorem undRec : ∃ fs : Array Field, Tryz.prog.underlying 26 = some (.struct fs) ∧ fs.size = 8 ∧ (fs[0]?).map (fun f => (f.offset, f.type)) = some (0, 9) ∧ (fs[1]?).map (fun f => (f.offset, f.type)) = some (1, 3) ∧ (fs[2]?).map (fun f => (f.offset, f.type)) = some (2, 3) ∧ (fs[3]?).map (fun f => (f.offset, f.type)) = some (3, 3) ∧ (fs[4]?).map (fun f => (f.offset, f.type)) = some (4, 22) ∧ (fs[5]?).map (fun f => (f.offset, f.type)) = some (20, 4) ∧ (fs[6]?).map (fun f => (f.offset, f.type)) = some (21, 23) ∧ (fs[7]?).map (fun f => (f.offset, f.type)) = some (53, 24) := by
  have h : (match Tryz.prog.underlying 26 with
    | some (.struct fs) => some (fs.size, (fs[0]?).map (fun f => (f.offset, f.type)), (fs[1]?).map (fun f => (f.offset, f.type)), (fs[2]?).map (fun f => (f.offset, f.type)), (fs[3]?).map (fun f => (f.offset, f.type)), (fs[4]?).map (fun f => (f.offset, f.type)), (fs[5]?).map (fun f => (f.offset, f.type)), (fs[6]?).map (fun f => (f.offset, f.type)), (fs[7]?).map (fun f => (f.offset, f.type)))
    | _ => none) = some (8, some (0, 9), some (1, 3), some (2, 3), some (3, 3), some (4, 22), some (20, 4), some (21, 23), some (53, 24)) := by kernel_rfl
  split at h
  · rename_i fs e
    simp only [Option.some.injEq, Prod.mk.injEq] at h
    exact ⟨fs, e, h.1, h.2.1, h.2.2.1, h.2.2.2.1, h.2.2.2.2.1, h.2.2.2.2.2.1, h.2.2.2.2.2.2.1, h.2.2.2.2.2.2.2.1, h.2.2.2.2.2.2.2.2⟩
  · cases h
theorem cellsRec : Tryz.prog.cellsOf 26 = 54 := by kernel_rfl
theorem cellsI10 : Tryz.prog.cellsOf 3 = 1 := by kernel_rfl
theorem cellsS10 : Tryz.prog.cellsOf 9 = 1 := by kernel_rfl
theorem cellsK10 : Tryz.prog.cellsOf 4 = 1 := by kernel_rfl
theorem cellsU10 : Tryz.prog.cellsOf 5 = 1 := by kernel_rfl
theorem cellsV10 : Tryz.prog.cellsOf 22 = 16 := by kernel_rfl
theorem cells32 : Tryz.prog.cellsOf 23 = 32 := by kernel_rfl
theorem cellsD10 : Tryz.prog.cellsOf 24 = 1 := by kernel_rfl
theorem undD10 : Tryz.prog.underlying 24 = some (.slice 23) := by kernel_rfl
theorem und32d : Tryz.prog.underlying 23 = some (.array 32 5) := by kernel_rfl
theorem undU10 : Tryz.prog.underlying 5 = some (.int .u8) := by kernel_rfl
theorem undI10 : Tryz.prog.underlying 3 = some (.int .i64) := by kernel_rfl
theorem undK10 : Tryz.prog.underlying 4 = some .bool := by kernel_rfl
theorem field_of10 {fs : Array Field} {i off : Nat} {t : TypeId} (h : (fs[i]?).map (fun f => (f.offset, f.type)) = some (off, t)) : ∃ f, fs[i]? = some f ∧ f.offset = off ∧ f.type = t := by
  cases e : fs[i]? with
  | none => rw [e] at h; cases h
  | some f => rw [e] at h; simp at h; exact ⟨f, rfl, h.1, h.2⟩
section
variable {H : Type} {enc : TypeId × Value → H} {W : World} {n : Nat} {cs : List Value} {x : DataW H × List MemPlace}
theorem arr32_of (h : DataW.trod enc Tryz.prog W 0 (fun _ => true) true n 23 cs = some x) : ∃ d : By, d.length = 32 ∧ cs = digC d := by
  obtain ⟨xs, m, -, -, hl, hn, hi⟩ := DataW.trod_array und32d h
  rw [cellsU10] at hi
  rw [cells32] at hl
  have key : ∀ i, i < 32 → ∃ a : Nat, a < 256 ∧ cs[i]? = some (.int .u8 (a : Int)) := fun i h32 => by
    have e0 := hi i h32
    have hxi : xs[i]? = some (xs[i]'(by omega)) := List.getElem?_eq_getElem (by omega)
    rw [hxi] at e0
    obtain ⟨a, ha, -, hw⟩ := DataW.trod_int undU10 e0
    have hb := bounds_u8 hw
    obtain ⟨b, rfl⟩ := Int.eq_ofNat_of_zero_le (show 0 ≤ a by omega)
    refine ⟨b, by omega, ?_⟩
    rw [Nat.mul_one] at ha
    have h1 : ((cs.drop i).take 1)[0]? = some (.int .u8 (b : Int)) := by rw [ha]; rfl
    rw [List.getElem?_take] at h1
    have h2 : (cs.drop i)[0]? = some (.int .u8 (b : Int)) := by simpa using h1
    rw [List.getElem?_drop, Nat.add_zero] at h2
    exact h2
  obtain ⟨y, hy⟩ := Go.Deep.choose_lt key
  refine ⟨(List.range 32).map fun i => BitVec.ofNat 8 (y i), by simp, ?_⟩
  apply List.ext_getElem?
  intro i
  by_cases h32 : i < 32
  · obtain ⟨h1, h2⟩ := hy i h32
    rw [h2]
    unfold digC
    rw [List.getElem?_map, List.getElem?_map, List.getElem?_range h32]
    show some (Value.int .u8 (y i : Int)) = some (B (BitVec.ofNat 8 (y i)))
    rw [B_eq', BitVec.toNat_ofNat, Nat.mod_eq_of_lt (by omega)]
  · rw [List.getElem?_eq_none (by omega), List.getElem?_eq_none (by rw [digC_len]; simp; omega)]
theorem arr16_of (h : DataW.trod enc Tryz.prog W 0 (fun _ => true) true n 22 cs = some x) : ∃ f : Nat → Int, cs.length = 16 ∧ ∀ i, i < 16 → cs[i]? = some (.int .i64 (f i)) := by
  obtain ⟨xs, m, -, -, hl, hn, hi⟩ := DataW.trod_array vtA.und h
  rw [cellsI10] at hi
  rw [cellsV10] at hl
  refine ⟨fun i => intIn cs[i]?, hl, fun i h16 => ?_⟩
  have e0 := hi i h16
  have hxi : xs[i]? = some (xs[i]'(by omega)) := List.getElem?_eq_getElem (by omega)
  rw [hxi] at e0
  obtain ⟨a, ha, -, hw⟩ := DataW.trod_int undI10 e0
  rw [Nat.mul_one] at ha
  have h1 : ((cs.drop i).take 1)[0]? = some (.int .i64 a) := by rw [ha]; rfl
  rw [List.getElem?_take] at h1
  have h2 : (cs.drop i)[0]? = some (.int .i64 a) := by simpa using h1
  rw [List.getElem?_drop, Nat.add_zero] at h2
  show _ = some (Value.int .i64 (intIn cs[i]?))
  rw [h2]
  rfl
/-- Digests that came in. -/
theorem digs_of {v : Value} (h : DataW.trod enc Tryz.prog W 0 (fun _ => true) true n 24 [v] = some x) : ∃ (ds : List By) (q : Option Addr) (c : Nat), v = .slice q ds.length c ∧ LsC W q (ds.flatMap digC) ∧ (∀ d ∈ ds, d.length = 32) ∧ (q = none → c = 0) ∧ ds.length ≤ c ∧ c < 9223372036854775808 := by
  rcases Go.Deep.open_slice undD10 h with ⟨hcs, _⟩ | ⟨a, len, cap, m, n, D, Pl, hcs, _, hl, hmx, hm, _, hx⟩
  · injection hcs with hcs
    subst hcs
    exact ⟨[], none, 0, rfl, LsC.nil _ _, (fun d hd => by cases hd), fun _ => rfl, Nat.le_refl _, by decide⟩
  · injection hcs with hcs
    subst hcs
    simp only [if_true] at hm
    have each : ∀ i, i < len → ∃ d : By, d.length = 32 ∧ ∀ j, j < 32 → W.cell? (a.add (i * 32 + j)) = some (B (d.getD j 0#8)) := by
      intro i hi
      obtain ⟨cs', h1, h2⟩ := hx i (by omega)
      rw [cells32] at h1
      obtain ⟨_, hlen, hcell⟩ := World.cells?_some h1
      obtain ⟨d, hd, rfl⟩ := arr32_of h2
      refine ⟨d, hd, fun j hj => ?_⟩
      have cj := hcell j (by omega)
      rw [Go.Deep.add_add] at cj
      try rw [cells32] at cj
      rw [cj]
      unfold digC
      rw [List.getElem?_map, List.getElem?_eq_getElem (by omega), List.getD_eq_getElem?_getD, List.getElem?_eq_getElem (by omega)]
      rfl
    haveI : Inhabited By := ⟨[]⟩
    obtain ⟨y, hy⟩ := Go.Deep.choose_lt each
    have he : ∀ d ∈ (List.range len).map y, d.length = 32 := fun d hd => by
      obtain ⟨i, hi, rfl⟩ := List.mem_map.1 hd
      exact (hy i (by simpa using hi)).1
    refine ⟨(List.range len).map y, some a, cap, by simp, ?_, he, (fun e => by cases e), by simpa using hl, by simp only [maxLen] at hmx; omega⟩
    intro i hi
    rw [flat_digC, List.length_map, flat_len32 he] at hi
    simp only [List.length_map, List.length_range] at hi
    have h0 : 0 < len := by omega
    have hs : a.spot = none := by
      have h1 := (hy 0 h0).2 0 (by decide)
      rw [show 0 * 32 + 0 = 0 from rfl, Addr.add_zero'] at h1
      cases h : a.spot with
      | none => rfl
      | some s =>
        unfold World.cell? at h1
        split at h1
        · simp [h] at h1
        · cases h1
    obtain ⟨c, o, sp⟩ := a
    obtain rfl : sp = none := hs
    refine ⟨c, o, rfl, ?_⟩
    have hi' : i / 32 < len := by omega
    have hj : i % 32 < 32 := Nat.mod_lt _ (by omega)
    have hc := (hy (i / 32) hi').2 (i % 32) hj
    have e6 : i / 32 * 32 + i % 32 = i := by omega
    rw [e6, Addr.add_mid] at hc
    rw [hc, flat_digC, List.getElem?_map]
    have hg := flat_get32 he (i / 32) (i % 32) hj (by simpa using hi')
    rw [show 32 * (i / 32) + i % 32 = i by omega] at hg
    rw [hg]
    have ey : ((List.range len).map y).getD (i / 32) [] = y (i / 32) := by simp [List.getD_eq_getElem?_getD, hi']
    rw [ey, List.getElem?_eq_getElem (by rw [(hy _ hi').1]; exact hj), List.getD_eq_getElem?_getD, List.getElem?_eq_getElem (by rw [(hy _ hi').1]; exact hj)]
    rfl
/-- What is known of a record that came in. -/
structure RcIn (r : Rc) : Prop where
  path : r.path.length < 9223372036854775808
  size : -9223372036854775808 ≤ r.size ∧ r.size < 9223372036854775808
  time : -9223372036854775808 ≤ r.time ∧ r.time < 9223372036854775808
  chg : -9223372036854775808 ≤ r.chg ∧ r.chg < 9223372036854775808
  cap : r.cap < 9223372036854775808
theorem drop_one {v : Value} {i : Nat} (h : (cs.drop i).take 1 = [v]) : cs[i]? = some v := by
  have h1 : ((cs.drop i).take 1)[0]? = some v := by rw [h]; rfl
  rw [List.getElem?_take] at h1
  have h2 : (cs.drop i)[0]? = some v := by simpa using h1
  rw [List.getElem?_drop, Nat.add_zero] at h2
  exact h2
theorem eight_of {α : Type} {l : List α} (h : l.length = 8) : ∃ a b c d e f g k, l = [a, b, c, d, e, f, g, k] := by
  obtain ⟨a, l, rfl⟩ := List.exists_cons_of_length_eq_add_one h
  obtain ⟨b, l, rfl⟩ := List.exists_cons_of_length_eq_add_one (n := 6) (by simpa using h)
  obtain ⟨c, l, rfl⟩ := List.exists_cons_of_length_eq_add_one (n := 5) (by simpa using h)
  obtain ⟨d, l, rfl⟩ := List.exists_cons_of_length_eq_add_one (n := 4) (by simpa using h)
  obtain ⟨e, l, rfl⟩ := List.exists_cons_of_length_eq_add_one (n := 3) (by simpa using h)
  obtain ⟨f, l, rfl⟩ := List.exists_cons_of_length_eq_add_one (n := 2) (by simpa using h)
  obtain ⟨g, l, rfl⟩ := List.exists_cons_of_length_eq_add_one (n := 1) (by simpa using h)
  obtain ⟨k, l, rfl⟩ := List.exists_cons_of_length_eq_add_one (n := 0) (by simpa using h)
  obtain rfl : l = [] := List.eq_nil_of_length_eq_zero (by simpa using h)
  exact ⟨a, b, c, d, e, f, g, k, rfl⟩
theorem rec_of (h : DataW.trod enc Tryz.prog W 0 (fun _ => true) true n 26 cs = some x) : ∃ (r : Rc) (ds : List By), cs.toArray = tab 54 (rcF r) ∧ DgAt W r ds ∧ RcIn r := by
  obtain ⟨fs, undF, hfs, F0, F1, F2, F3, F4, F5, F6, F7⟩ := undRec
  obtain ⟨xs, k, hk, hxy, hlen, hxl, hf⟩ := DataW.trod_struct undF h
  rw [cellsRec] at hlen
  obtain ⟨f0, g0, o0, t0⟩ := field_of10 F0
  obtain ⟨f1, g1, o1, t1⟩ := field_of10 F1
  obtain ⟨f2, g2, o2, t2⟩ := field_of10 F2
  obtain ⟨f3, g3, o3, t3⟩ := field_of10 F3
  obtain ⟨f4, g4, o4, t4⟩ := field_of10 F4
  obtain ⟨f5, g5, o5, t5⟩ := field_of10 F5
  obtain ⟨f6, g6, o6, t6⟩ := field_of10 F6
  obtain ⟨f7, g7, o7, t7⟩ := field_of10 F7
  have e0 := hf 0 f0 g0
  have e1 := hf 1 f1 g1
  have e2 := hf 2 f2 g2
  have e3 := hf 3 f3 g3
  have e4 := hf 4 f4 g4
  have e5 := hf 5 f5 g5
  have e6 := hf 6 f6 g6
  have e7 := hf 7 f7 g7
  rw [o0, t0, cellsS10] at e0
  rw [o1, t1, cellsI10] at e1
  rw [o2, t2, cellsI10] at e2
  rw [o3, t3, cellsI10] at e3
  rw [o4, t4, cellsV10] at e4
  rw [o5, t5, cellsK10] at e5
  rw [o6, t6, cells32] at e6
  rw [o7, t7, cellsD10] at e7
  have hx8 : xs.length = 8 := by rw [hxl, hfs]
  obtain ⟨y0, y1, y2, y3, y4, y5, y6, y7, rfl⟩ := eight_of hx8
  have z0 := e0.trans (show _ = some y0 from rfl)
  have z1 := e1.trans (show _ = some y1 from rfl)
  have z2 := e2.trans (show _ = some y2 from rfl)
  have z3 := e3.trans (show _ = some y3 from rfl)
  have z4 := e4.trans (show _ = some y4 from rfl)
  have z5 := e5.trans (show _ = some y5 from rfl)
  have z6 := e6.trans (show _ = some y6 from rfl)
  have z7 := e7.trans (show _ = some y7 from rfl)
  obtain ⟨s0, v0, -, w0⟩ := DataW.trod_string strT z0
  obtain ⟨n1, v1, -, w1⟩ := DataW.trod_int undI10 z1
  obtain ⟨n2, v2, -, w2⟩ := DataW.trod_int undI10 z2
  obtain ⟨n3, v3, -, w3⟩ := DataW.trod_int undI10 z3
  obtain ⟨f, -, hver⟩ := arr16_of z4
  obtain ⟨bb, v5, -⟩ := DataW.trod_bool undK10 z5
  obtain ⟨wh, hwl, hwh⟩ := arr32_of z6
  have c7 : ∃ v7, (cs.drop 53).take 1 = [v7] := by
    refine ⟨cs[53], ?_⟩
    rw [List.drop_eq_getElem_cons (by omega)]
    rfl
  obtain ⟨v7, hv7⟩ := c7
  rw [hv7] at z7
  obtain ⟨ds, q, cap, hv, hls, he, hnil, hle, hcap⟩ := digs_of z7
  have b1 := bounds_i64 w1
  have b2 := bounds_i64 w2
  have b3 := bounds_i64 w3
  have hp : s0.data.toList.length = s0.size := by rw [Array.length_toList]; rfl
  refine ⟨⟨s0.data.toList, n1, n2, n3, f, bb, wh, q, ds.length, cap⟩, ds, ?_, ⟨rfl, hls, he, hnil, hle, hwl⟩, ⟨by show s0.data.toList.length < _; rw [hp]; simp only [maxLen] at w0; omega, ⟨b1.1, by have := b1.2; show n1 < _; omega⟩, ⟨b2.1, by have := b2.2; show n2 < _; omega⟩, ⟨b3.1, by have := b3.2; show n3 < _; omega⟩, hcap⟩⟩
  apply Array.ext_getElem?
  intro i
  by_cases h54 : i < 54
  · rw [tab_get 54 _ i h54, List.getElem?_toArray]
    unfold rcF
    by_cases i0 : i = 0
    · subst i0; rw [if_pos rfl, drop_one v0]; show _ = some (Value.string (mkS s0.data.toList)); rw [mkS_of]
    · rw [if_neg i0]
      by_cases i1 : i = 1
      · subst i1; rw [if_pos rfl, drop_one v1]
      · rw [if_neg i1]
        by_cases i2 : i = 2
        · subst i2; rw [if_pos rfl, drop_one v2]
        · rw [if_neg i2]
          by_cases i3 : i = 3
          · subst i3; rw [if_pos rfl, drop_one v3]
          · rw [if_neg i3]
            by_cases i4 : i < 20
            · rw [if_pos i4]
              have hc := hver (i - 4) (by omega)
              rw [List.getElem?_take, if_pos (by omega), List.getElem?_drop, show 4 + (i - 4) = i by omega] at hc
              exact hc
            · rw [if_neg i4]
              by_cases i5 : i = 20
              · subst i5; rw [if_pos rfl, drop_one v5]
              · rw [if_neg i5]
                by_cases i6 : i < 53
                · rw [if_pos i6]
                  have hc : ((cs.drop 21).take 32)[i - 21]? = (digC wh)[i - 21]? := by rw [hwh]
                  rw [List.getElem?_take, if_pos (by omega), List.getElem?_drop, show 21 + (i - 21) = i by omega] at hc
                  rw [hc]
                  have h32 : i - 21 < wh.length := by omega
                  unfold digC dgF
                  rw [List.getElem?_map, List.getElem?_eq_getElem h32, List.getD_eq_getElem?_getD, List.getElem?_eq_getElem h32]
                  rfl
                · obtain rfl : i = 53 := by omega
                  rw [if_neg i6, drop_one hv7, hv]
  · rw [Array.getElem?_eq_none (by rw [List.size_toArray]; omega), Array.getElem?_eq_none (by rw [tab_size]; omega)]
end
/-- An argument that is a record. -/
theorem open_rec {H : Type} {enc : TypeId × Value → H} {W : World} {r : _root_.Go.Reach} {b0 : Nat} {v : Value} {d : DataW H} {ps : List MemPlace} (hval : Value.okWide Tryz.prog W r b0 26 v)
    (h : DataW.Trod enc Tryz.prog W 0 (fun _ => true) true 26 v d ps) : ∃ (r : Rc) (ds : List By), v = rcV r ∧ DgAt W r ds ∧ RcIn r := by
  obtain ⟨fs, undF, hfs, -⟩ := undRec
  simp only [Value.okWide, undF] at hval
  obtain ⟨cs, rfl, hsz, -⟩ := hval
  obtain ⟨fuel, hf⟩ := h
  obtain ⟨r, ds, e, h1, h2⟩ := rec_of hf
  refine ⟨r, ds, ?_, h1, h2⟩
  unfold rcV
  rw [← e]
  rfl
end Go.Proofs.YtfemgkamgokjcaaGreatDoor
/- The two tables of SHA-256, as a row's listed variables give them. -/
set_option maxRecDepth 100000
namespace Go.Proofs.YtfemgkamgokjcaaGreatDoor
open Go Go.ChangeShapes Go.WideShapes Go.ChangeAt Go.RowKit
attribute [-go_sem] Sha.exec_store

/-- The zero record, as a value and as a datum. -/
def zR10 : Value := .agg (#[.string ⟨#[]⟩, .int .i64 0, .int .i64 0, .int .i64 0] ++ Array.replicate 16 (.int .i64 0) ++ #[.bool false] ++ Array.replicate 32 (.int .u8 0) ++ #[.slice none 0 0])
def lR10 {H : Type} : DataW H := .agg [.lit (.string []), .lit (.int .i64 0), .lit (.int .i64 0), .lit (.int .i64 0), .agg (List.replicate 16 (.lit (.int .i64 0))), .lit (.bool false), .agg (List.replicate 32 (.lit (.int .u8 0))), .nil]
theorem gK10 : Tryz.prog.globalNamed "darner/api.Words256" = some 2 := by kernel_rfl
theorem gF10 : Tryz.prog.globalNamed "darner/api.First256" = some 1 := by kernel_rfl
theorem tK10 : (Tryz.prog.globals[2]?).map (·.type) = some 175 := by kernel_rfl
theorem tF10 : (Tryz.prog.globals[1]?).map (·.type) = some 142 := by kernel_rfl
theorem und32w : Tryz.prog.underlying 141 = some (.int .u32) := by kernel_rfl
theorem und64w : Tryz.prog.underlying 175 = some (.array 64 141) := by kernel_rfl
theorem und8w : Tryz.prog.underlying 142 = some (.array 8 141) := by kernel_rfl
theorem cells32w : Tryz.prog.cellsOf 141 = 1 := by kernel_rfl
theorem cells64w : Tryz.prog.cellsOf 175 = 64 := by kernel_rfl
theorem cells8w : Tryz.prog.cellsOf 142 = 8 := by kernel_rfl
def kz10 : List Int := Sha.K256.map fun x => (x.toNat : Int)
def fz10 : List Int := (List.range 8).map fun i => ((Sha.H0.get i).toNat : Int)
theorem U_eq10 (x : BitVec 32) : Sha.U x = .int .u32 (x.toNat : Int) := by unfold Sha.U; rfl
theorem tb_of_tabs {W : World} (h1 : Go.Lib.TabIs Tryz.prog W "darner/api.Words256" .u32 kz10) (h2 : Go.Lib.TabIs Tryz.prog W "darner/api.First256" .u32 fz10) : Tb W := by
  have hk : Sha.Kt W := fun t ht => by
    have := h1.cell gK10 t (by show t < 64; exact ht)
    rw [this, U_eq10]
    congr 2
    simp only [kz10, Sha.K, List.getD_eq_getElem?_getD, List.getElem?_map]
    have : t < Sha.K256.length := ht
    simp [this]
  refine ⟨fun i hi => ?_, hk, World.block_lt_of_cell? W ⟨2, 0, none⟩ (hk 0 (by decide))⟩
  have := h2.cell gF10 i (by show i < 8; exact hi)
  rw [this, U_eq10]
  congr 2
  simp [fz10, hi]
end Go.Proofs.YtfemgkamgokjcaaGreatDoor
/- The reference of layer 7: beginnings. -/
set_option maxRecDepth 100000
namespace Go.Proofs.YtfemgkamgokjcaaGreatDoor
open Go Go.RowKit
attribute [-go_sem] Sha.exec_store

set_option maxHeartbeats 1000000 in
theorem refStarts_any (s t : S8) (hs : s.length < 1000000) (ht : t.length < 1000000) (w : World) : Calls Tryz.prog 89 #[.string (mkS s), .string (mkS t)] w fun e w' => e = .returned (.bool (startsL s t)) ∧ w = w' := by
  by_cases h : t.length ≤ s.length
  · have h1 : (t.length : Int) ≤ (s.length : Int) := by omega
    have h2 : decide ((t.length : Int) ≤ (s.length : Int)) = true := decide_eq_true h1
    have HS := Lib.hid (show startsL s t = (s.take t.length == t) from by unfold startsL; rw [decide_eq_true h]; rfl)
    go_enter Tryz.func89, Tryz.ntmps89
    go_wp2
    go_ret
    exact ⟨by rw [HS.out]; rfl, rfl⟩
  · have h1 : ¬ (t.length : Int) ≤ (s.length : Int) := by omega
    have h2 : decide ((t.length : Int) ≤ (s.length : Int)) = false := decide_eq_false h1
    have HS := Lib.hid (show startsL s t = false from by unfold startsL; rw [decide_eq_false h]; rfl)
    go_enter Tryz.func89, Tryz.ntmps89
    go_wp2
    go_ret
    exact ⟨by rw [HS.out]; rfl, rfl⟩
end Go.Proofs.YtfemgkamgokjcaaGreatDoor
/- The reference's kinds. -/
set_option maxRecDepth 100000
namespace Go.Proofs.YtfemgkamgokjcaaGreatDoor
open Go Go.RowKit
attribute [-go_sem] Sha.exec_store

set_option maxHeartbeats 1000000 in
theorem refKind_any (l : S8) (hl : l.length < 100000) (w : World) : Calls Tryz.prog 42 #[.string (mkS l)] w fun e w' => Gives (.int .i64 (kindL l : Int)) w e w' := by
  obtain ⟨X, hX⟩ : ∃ X, kindL l = X := ⟨_, rfl⟩
  rw [hX]
  have HX := Lib.hid (hX.symm.trans (show kindL l = if goodL l then (if startsL (baseL l) tmpS then 1 else if startsL (baseL l) parS then 2 else 3) else 0 from rfl))
  clear hX
  have HG := Lib.hid (fun u => refGood_any l (by omega) u)
  have HS := Lib.hid (fun u => refSlash_any l (by omega) u)
  have hkl := kL_le l
  have hbl : (l.drop (kL l)).length < 1000000 := by rw [List.length_drop]; omega
  have HT := Lib.hid (fun u => refStarts_any (l.drop (kL l)) tmpS hbl (by decide) u)
  have HP := Lib.hid (fun u => refStarts_any (l.drop (kL l)) parS hbl (by decide) u)
  rw [show mkS tmpS = ⟨#[46, 116, 109, 112, 126]⟩ from (mkS_lit tmpS).symm] at HT
  rw [show mkS parS = ⟨#[46, 112, 97, 114, 126]⟩ from (mkS_lit parS).symm] at HP
  have HX2 := Lib.hid (HX.out.trans (show _ = if goodL l then (if startsL (l.drop (kL l)) tmpS then 1 else if startsL (l.drop (kL l)) parS then 2 else 3) else 0 from rfl))
  clear HX hbl
  generalize goodL l = g at *
  generalize startsL (l.drop (kL l)) tmpS = b1 at *
  generalize startsL (l.drop (kL l)) parS = b2 at *
  generalize kL l = k at *
  have k1 : IntKind.i64.wrap (k : Int) = (k : Int) := by rw [IntKind.wrap_i64]; omega
  have k2 : wrap64 (k : Int) = (k : Int) := by unfold wrap64; omega
  have k3 : (k : Int) - 1 + 1 = (k : Int) := by omega
  go_enter Tryz.func42, Tryz.ntmps42
  go_wp2_with fail
  refine (HG.out _).mono ?_
  rintro e w' ⟨rfl, rfl⟩
  cases g with
  | false =>
    obtain rfl : X = 0 := by rw [HX2.out]; rfl
    go_wp2
    go_ret
    exact ⟨rfl, Below.refl _ _⟩
  | true =>
    go_wp2_with fail
    refine (HS.out _).mono ?_
    rintro e w' ⟨rfl, rfl⟩
    go_wp2_with fail
    refine (HT.out _).mono ?_
    rintro e w' ⟨rfl, rfl⟩
    cases b1 with
    | true =>
      obtain rfl : X = 1 := by rw [HX2.out]; rfl
      go_wp2
      go_ret
      exact ⟨rfl, Below.refl _ _⟩
    | false =>
      go_wp2_with fail
      refine (HP.out _).mono ?_
      rintro e w' ⟨rfl, rfl⟩
      cases b2 with
      | true =>
        obtain rfl : X = 2 := by rw [HX2.out]; rfl
        go_wp2
        go_ret
        exact ⟨rfl, Below.refl _ _⟩
      | false =>
        obtain rfl : X = 3 := by rw [HX2.out]; rfl
        go_wp2
        go_ret
        exact ⟨rfl, Below.refl _ _⟩
end Go.Proofs.YtfemgkamgokjcaaGreatDoor
