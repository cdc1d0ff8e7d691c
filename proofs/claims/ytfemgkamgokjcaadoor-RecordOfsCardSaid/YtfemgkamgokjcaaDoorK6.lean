/- Merged texts: Bad10, Rea10, Stores, Awk10, Lift, LiftV9, LiftS7. -/
import Derived.Deep.RegionHeld3
import Derived.Test.YtfemgkamgokjcaaDoorK5
import Derived.Test.YtfemgkamgokjcaaDoorRows
import Derived.Test.YtfemgkamgokjcaaDoorBase
import Derived.Test.YtfemgkamgokjcaaDoorK1
import Derived.ProofKit
import Derived.OpenShut
import Derived.Deep.DeepHandedRow
import Derived.Test.YtfemgkamgokjcaaDoorVec9
import Derived.Test.YtfemgkamgokjcaaDoorStr7
set_option linter.unusedSimpArgs false
set_option linter.unusedVariables false
/- A record and its own bytes: has, Bad, Fits. -/
set_option maxRecDepth 100000
namespace Go.Proofs.YtfemgkamgokjcaaDoor
open Go Go.RowKit Go.Shelf

attribute [-go_sem] Sha.exec_store
theorem exec_loadP (r : Operand → Value) (dst : Option Tmp) (p : Operand) (ty : TypeId) (pos : String) (after : Array Edge) (guard : Option (Nat × Bool)) :
    execOp r ⟨dst, .load 33 p, ty, pos, after, guard⟩ = ldT 33 (r p) := rfl
attribute [local go_sem ↓] exec_boxA exec_loadA exec_indexA exec_allocA exec_storeA exec_buildA exec_eqlA exec_neqA exec_boxV exec_loadV exec_indexV exec_allocV exec_storeV exec_buildV exec_eqlV exec_neqV
attribute [local go_sem] boxA indexA storeNewA buildA eqlA neqA boxV indexV storeNewV buildV eqlV neqV
attribute [local go_sem ↓] exec_loadS exec_boxS exec_boxP exec_boxM exec_loadP exec_load32 exec_build32 exec_eqlD exec_neqD exec_bs
attribute [local go_sem] box_stamp boxP boxM bd32 eqlD neqD deq_self bsSl

set_option maxRecDepth 100000 in
set_option maxHeartbeats 4000000 in
/-- A block that is as the record says. -/
theorem has_yes (r : Rc) (ds : List By) (blk : By) (i : Nat) (q : Option Addr) (m c : Nat) (w : World) (h : DgAt w r ds) (hi : i < ds.length) (hd : ds.getD i [] = digL blk) (hm : blk.length = m) (hs : Sl w q blk) (hsz : (256 * i + m : Nat) ≤ r.size) (hi2 : i < 100000) (hm2 : m ≤ 256) (hT : Tb w) :
    Calls Tryd.prog 29 #[rcV r, .int .i64 (i : Int), .slice q m c] w fun e w' => e = .returned (.bool true) ∧ Below w.heap.size w w' := by
  obtain ⟨W, hW⟩ : ∃ W, w.alloc (.cells (tab 54 (rcF r)) 33) = W := ⟨_, rfl⟩
  have hB1 : Below w.heap.size w W := by rw [← hW]; exact below_newD _ _
  have hR : Row W w.heap.size 33 54 (rcF r) := by rw [← hW]; exact Row.new w _ 54 _
  have HB := Lib.hid hB1
  have H := Lib.hid (h.of_below hB1)
  obtain ⟨V, hV⟩ : ∃ V, rcV r = V := ⟨_, rfl⟩
  have x1 : (bxT 33 V).run Tryd.prog w = .ok (.value (.pointer (some ⟨w.heap.size, 0, none⟩))) W := by rw [← hV, ← hW]; exact boxP w r
  rw [hV]
  obtain ⟨c1, o1, e1, -⟩ := h.at i hi
  obtain ⟨dg, hdg⟩ : ∃ dg, digL blk = dg := ⟨_, rfl⟩
  have HS := Lib.hid (fun (u : World) (hu : Below W.heap.size W u) => (show _ ∧ _ ∧ _ ∧ _ from ⟨rc_blocks (hR.of_below hu), rc_size (hR.of_below hu), (H.out.of_below hu).ldq e1 i hi, hu⟩))
  have HSM := Lib.hid (fun (b : Nat) (u : World) (hu : Below W.heap.size W u) (hc4 : u.cell? ⟨b, 0, none⟩ = some (.slice q m c)) => sum1_any blk b 0 q m c u hm hc4 (hs.of_below (hB1.trans (hu.mono hB1.size))) (hT.on (hB1.trans (hu.mono hB1.size))) (by omega))
  rw [hdg] at HSM
  rw [hd, hdg] at HS
  rw [e1] at HS
  have hn := h.n
  have hle := h.le
  obtain ⟨p, s, t, ch, f, d, wh, q1, n, cap⟩ := r
  dsimp only at *
  have hin : i < n := by omega
  have z1 : (i : Int) < (n : Int) := by omega
  have z2 : decide ((i : Int) < (n : Int)) = true := decide_eq_true z1
  have w2 : IntKind.i64.wrap ((i : Int) * 256) = (i : Int) * 256 := by rw [IntKind.wrap_i64]; omega
  have w3 : IntKind.i64.wrap ((i : Int) * 256 + (m : Int)) = (i : Int) * 256 + (m : Int) := by rw [IntKind.wrap_i64]; omega
  have z3 : (i : Int) * 256 + (m : Int) ≤ s := by omega
  have z4 : decide ((i : Int) * 256 + (m : Int) ≤ s) = true := decide_eq_true z3
  clear hW hV hB1 hR h hn hd hm hs hsz hT e1 hdg hi
  go_enter Tryd.func29, Tryd.ntmps29
  go_wp2
  refine wp_region_noPanic ?_
  refine wp_region_held_drew (S := (fun u : World => u.cell? ⟨w.heap.size, 53, none⟩ = some (.slice (some ⟨c1, o1, none⟩) n cap) ∧ u.cell? ⟨w.heap.size, 1, none⟩ = some (.int .i64 s) ∧ (ldT 23 (.pointer (some ⟨c1, o1 + i * 32, none⟩))).run Tryd.prog u = .ok (.value (digV dg)) u ∧ Below W.heap.size W u)) (by kernel_rfl) (HS.out W.drew (Below.refl _ _).drew) (fun hHeld => ?_)
  generalize W.drew = x at hHeld ⊢
  refine wpAnyH_take (i := 0) (v := ?_) (by simp only [List.getElem?_toArray, List.getElem?_cons_succ, List.getElem?_cons_zero]; exact rfl) (by kernel_rfl) (by kernel_rfl) (by kernel_rfl) (fun _ _ _ h => h) (Or.inl ⟨by rfl, ?_⟩) (by assumption) ?_
  rotate_left 1
  · (intro w hSw; (try dsimp only at hSw); go_simp; try with_reducible rfl)
  try simp only [Act.put, List.setIfInBounds_toArray, List.set_cons_zero, List.set_cons_succ]
  refine wpAnyH_take (i := 1) (v := ?_) (by simp only [List.getElem?_toArray, List.getElem?_cons_succ, List.getElem?_cons_zero]; exact rfl) (by kernel_rfl) (by kernel_rfl) (by kernel_rfl) (fun _ _ _ h => h) (Or.inl ⟨by rfl, ?_⟩) (by assumption) ?_
  rotate_left 1
  · (intro w hSw; (try dsimp only at hSw); go_simp; try with_reducible rfl)
  try simp only [Act.put, List.setIfInBounds_toArray, List.set_cons_zero, List.set_cons_succ]
  refine wpAnyH_take (i := 2) (v := ?_) (by simp only [List.getElem?_toArray, List.getElem?_cons_succ, List.getElem?_cons_zero]; exact rfl) (by kernel_rfl) (by kernel_rfl) (by kernel_rfl) (fun _ _ _ h => h) (Or.inl ⟨by rfl, ?_⟩) (by assumption) ?_
  rotate_left 1
  · (intro w hSw; (try dsimp only at hSw); go_simp; try with_reducible rfl)
  try simp only [Act.put, List.setIfInBounds_toArray, List.set_cons_zero, List.set_cons_succ]
  refine wpAnyH_take (i := 3) (v := ?_) (by simp only [List.getElem?_toArray, List.getElem?_cons_succ, List.getElem?_cons_zero]; exact rfl) (by kernel_rfl) (by kernel_rfl) (by kernel_rfl) (fun _ _ _ h => h) (Or.inl ⟨by rfl, ?_⟩) (by assumption) ?_
  rotate_left 1
  · (intro w hSw; (try dsimp only at hSw); go_simp; try with_reducible rfl)
  try simp only [Act.put, List.setIfInBounds_toArray, List.set_cons_zero, List.set_cons_succ]
  refine wpAnyH_take (i := 4) (v := ?_) (by simp only [List.getElem?_toArray, List.getElem?_cons_succ, List.getElem?_cons_zero]; exact rfl) (by kernel_rfl) (by kernel_rfl) (by kernel_rfl) (fun _ _ _ h => h) (Or.inl ⟨by rfl, ?_⟩) (by assumption) ?_
  rotate_left 1
  · (intro w hSw; (try dsimp only at hSw); go_simp; try with_reducible rfl)
  try simp only [Act.put, List.setIfInBounds_toArray, List.set_cons_zero, List.set_cons_succ]
  refine wpAnyH_take (i := 5) (v := ?_) (by simp only [List.getElem?_toArray, List.getElem?_cons_succ, List.getElem?_cons_zero]; exact rfl) (by kernel_rfl) (by kernel_rfl) (by kernel_rfl) (fun _ _ _ h => h) (Or.inl ⟨by rfl, ?_⟩) (by assumption) ?_
  rotate_left 1
  · (intro w hSw; (try dsimp only at hSw); go_simp; try with_reducible rfl)
  try simp only [Act.put, List.setIfInBounds_toArray, List.set_cons_zero, List.set_cons_succ]
  refine wpAnyH_take (i := 6) (v := ?_) (by simp only [List.getElem?_toArray, List.getElem?_cons_succ, List.getElem?_cons_zero]; exact rfl) (by kernel_rfl) (by kernel_rfl) (by kernel_rfl) (fun _ _ _ h => h) (Or.inl ⟨by rfl, ?_⟩) (by assumption) ?_
  rotate_left 1
  · (intro w hSw; (try dsimp only at hSw); go_simp; try with_reducible rfl)
  try simp only [Act.put, List.setIfInBounds_toArray, List.set_cons_zero, List.set_cons_succ]
  refine wpAnyH_take (i := 7) (v := ?_) (by simp only [List.getElem?_toArray, List.getElem?_cons_succ, List.getElem?_cons_zero]; exact rfl) (by kernel_rfl) (by kernel_rfl) (by kernel_rfl) (fun _ _ _ h => h) (Or.inl ⟨by rfl, ?_⟩) (by assumption) ?_
  rotate_left 1
  · (intro w hSw; (try dsimp only at hSw); go_simp; try with_reducible rfl)
  try simp only [Act.put, List.setIfInBounds_toArray, List.set_cons_zero, List.set_cons_succ]
  refine wpAnyH_take (i := 8) (v := ?_) (by simp only [List.getElem?_toArray, List.getElem?_cons_succ, List.getElem?_cons_zero]; exact rfl) (by kernel_rfl) (by kernel_rfl) (by kernel_rfl) (fun _ _ _ h => h) (Or.inl ⟨by rfl, ?_⟩) (by assumption) ?_
  rotate_left 1
  · (intro w hSw; (try dsimp only at hSw); go_simp; try with_reducible rfl)
  try simp only [Act.put, List.setIfInBounds_toArray, List.set_cons_zero, List.set_cons_succ]
  refine wpAnyH_take (i := 9) (v := ?_) (by simp only [List.getElem?_toArray, List.getElem?_cons_succ, List.getElem?_cons_zero]; exact rfl) (by kernel_rfl) (by kernel_rfl) (by kernel_rfl) (fun _ _ _ h => h) (Or.inl ⟨by rfl, ?_⟩) (by assumption) ?_
  rotate_left 1
  · (intro w hSw; (try dsimp only at hSw); go_simp; try with_reducible rfl)
  try simp only [Act.put, List.setIfInBounds_toArray, List.set_cons_zero, List.set_cons_succ]
  refine wpAnyH_take (i := 10) (v := ?_) (by simp only [List.getElem?_toArray, List.getElem?_cons_succ, List.getElem?_cons_zero]; exact rfl) (by kernel_rfl) (by kernel_rfl) (by kernel_rfl) (fun _ _ _ h => h) (Or.inl ⟨by rfl, ?_⟩) (by assumption) ?_
  rotate_left 1
  · (intro w hSw; (try dsimp only at hSw); go_simp; try with_reducible rfl)
  try simp only [Act.put, List.setIfInBounds_toArray, List.set_cons_zero, List.set_cons_succ]
  refine wpAnyH_take (i := 11) (v := ?_) (by simp only [List.getElem?_toArray, List.getElem?_cons_succ, List.getElem?_cons_zero]; exact rfl) (by kernel_rfl) (by kernel_rfl) (by kernel_rfl) (fun _ _ _ h => h) (Or.inl ⟨by rfl, ?_⟩) (by assumption) ?_
  rotate_left 1
  · (intro w hSw; (try dsimp only at hSw); go_simp; try with_reducible rfl)
  try simp only [Act.put, List.setIfInBounds_toArray, List.set_cons_zero, List.set_cons_succ]
  refine wpAnyH_take (i := 12) (v := ?_) (by simp only [List.getElem?_toArray, List.getElem?_cons_succ, List.getElem?_cons_zero]; exact rfl) (by kernel_rfl) (by kernel_rfl) (by kernel_rfl) (fun _ _ _ h => h) (Or.inl ⟨by rfl, ?_⟩) (by assumption) ?_
  rotate_left 1
  · (intro w hSw; (try dsimp only at hSw); go_simp; try with_reducible rfl)
  try simp only [Act.put, List.setIfInBounds_toArray, List.set_cons_zero, List.set_cons_succ]
  refine wpAnyH_take (i := 13) (v := ?_) (by simp only [List.getElem?_toArray, List.getElem?_cons_succ, List.getElem?_cons_zero]; exact rfl) (by kernel_rfl) (by kernel_rfl) (by kernel_rfl) (fun _ _ _ h => h) (Or.inl ⟨by rfl, ?_⟩) (by assumption) ?_
  rotate_left 1
  · (intro w hSw; (try dsimp only at hSw); go_simp; try with_reducible rfl)
  try simp only [Act.put, List.setIfInBounds_toArray, List.set_cons_zero, List.set_cons_succ]
  refine wpAnyH_take (i := 14) (v := ?_) (by simp only [List.getElem?_toArray, List.getElem?_cons_succ, List.getElem?_cons_zero]; exact rfl) (by kernel_rfl) (by kernel_rfl) (by kernel_rfl) (fun _ _ _ h => h) (Or.inl ⟨by rfl, ?_⟩) (by assumption) ?_
  rotate_left 1
  · (intro w hSw; (try dsimp only at hSw); go_simp; try with_reducible rfl)
  try simp only [Act.put, List.setIfInBounds_toArray, List.set_cons_zero, List.set_cons_succ]
  refine wpAnyH_take (i := 15) (v := ?_) (by simp only [List.getElem?_toArray, List.getElem?_cons_succ, List.getElem?_cons_zero]; exact rfl) (by kernel_rfl) (by kernel_rfl) (by kernel_rfl) (fun _ _ _ h => h) (Or.inl ⟨by rfl, ?_⟩) (by assumption) ?_
  rotate_left 1
  · (intro w hSw; (try dsimp only at hSw); go_simp; try with_reducible rfl)
  try simp only [Act.put, List.setIfInBounds_toArray, List.set_cons_zero, List.set_cons_succ]
  refine wpAnyH_take (i := 16) (v := ?_) (by simp only [List.getElem?_toArray, List.getElem?_cons_succ, List.getElem?_cons_zero]; exact rfl) (by kernel_rfl) (by kernel_rfl) (by kernel_rfl) (fun _ _ _ h => h) (Or.inl ⟨by rfl, ?_⟩) (by assumption) ?_
  rotate_left 1
  · (intro w hSw; (try dsimp only at hSw); go_simp; try with_reducible rfl)
  try simp only [Act.put, List.setIfInBounds_toArray, List.set_cons_zero, List.set_cons_succ]
  refine wpAnyH_take (i := 17) (v := ?_) (by simp only [List.getElem?_toArray, List.getElem?_cons_succ, List.getElem?_cons_zero]; exact rfl) (by kernel_rfl) (by kernel_rfl) (by kernel_rfl) (fun _ _ _ h => h) (Or.inl ⟨by rfl, ?_⟩) (by assumption) ?_
  rotate_left 1
  · (intro w hSw; (try dsimp only at hSw); go_simp; try with_reducible rfl)
  try simp only [Act.put, List.setIfInBounds_toArray, List.set_cons_zero, List.set_cons_succ]
  refine wpAnyH_take (i := 20) (v := ?_) (by simp only [List.getElem?_toArray, List.getElem?_cons_succ, List.getElem?_cons_zero]; exact rfl) (by kernel_rfl) (by kernel_rfl) (by kernel_rfl) (fun _ _ _ h => h) (Or.inl ⟨by rfl, ?_⟩) (by assumption) ?_
  rotate_left 1
  · (intro w hSw; (try dsimp only at hSw); go_simp; try with_reducible rfl)
  try simp only [Act.put, List.setIfInBounds_toArray, List.set_cons_zero, List.set_cons_succ]
  refine wpAnyH_take (i := 21) (v := ?_) (by simp only [List.getElem?_toArray, List.getElem?_cons_succ, List.getElem?_cons_zero]; exact rfl) (by kernel_rfl) (by kernel_rfl) (by kernel_rfl) (fun _ _ _ h => h) (Or.inl ⟨by rfl, ?_⟩) (by assumption) ?_
  rotate_left 1
  · (intro w hSw; (try dsimp only at hSw); go_simp; try with_reducible rfl)
  try simp only [Act.put, List.setIfInBounds_toArray, List.set_cons_zero, List.set_cons_succ]
  refine wpAnyH_take (i := 22) (v := ?_) (by simp only [List.getElem?_toArray, List.getElem?_cons_succ, List.getElem?_cons_zero]; exact rfl) (by kernel_rfl) (by kernel_rfl) (by kernel_rfl) (fun _ _ _ h => h) (Or.inl ⟨by rfl, ?_⟩) (by assumption) ?_
  rotate_left 1
  · (intro w hSw; (try dsimp only at hSw); go_simp; try with_reducible rfl)
  try simp only [Act.put, List.setIfInBounds_toArray, List.set_cons_zero, List.set_cons_succ]
  refine wpAnyH_take (i := 23) (v := ?_) (by simp only [List.getElem?_toArray, List.getElem?_cons_succ, List.getElem?_cons_zero]; exact rfl) (by kernel_rfl) (by kernel_rfl) (by kernel_rfl) (fun _ _ _ h => h) (Or.inl ⟨by rfl, ?_⟩) (by assumption) ?_
  rotate_left 1
  · (intro w hSw; (try dsimp only at hSw); go_simp; try with_reducible rfl)
  try simp only [Act.put, List.setIfInBounds_toArray, List.set_cons_zero, List.set_cons_succ]
  refine wpAnyH_take (i := 24) (v := ?_) (by simp only [List.getElem?_toArray, List.getElem?_cons_succ, List.getElem?_cons_zero]; exact rfl) (by kernel_rfl) (by kernel_rfl) (by kernel_rfl) (fun _ _ _ h => h) (Or.inl ⟨by rfl, ?_⟩) (by assumption) ?_
  rotate_left 1
  · (intro w hSw; (try dsimp only at hSw); go_simp; try with_reducible rfl)
  try simp only [Act.put, List.setIfInBounds_toArray, List.set_cons_zero, List.set_cons_succ]
  refine wpAnyH_ready (rs := [18]) (by kernel_rfl) (by simp) ?_
  refine (AllReadyH.cons (by simp only [List.getElem?_toArray, List.getElem?_cons_succ, List.getElem?_cons_zero]; exact rfl) (fun K hK => ?_) AllReadyH.nil)
  go_simp
  obtain ⟨y, hy⟩ : ∃ y, (x.alloc (.cells #[.slice q m c] 27)) = y := ⟨_, rfl⟩
  have hBa : Below x.heap.size x y := by rw [← hy]; exact below_newD _ _
  have hC := (show y.cell? ⟨x.heap.size, 0, none⟩ = some (.slice q m c) from by rw [← hy]; exact World.cell?_alloc_new _ _ _ _)
  rw [hy]
  have hXY := hHeld.2.2.2.trans (hBa.mono hHeld.2.2.2.size)
  clear hy hBa
  refine hK.out _ _ (HS.out _ hXY) (fun hHeld => ?_)
  clear hK K
  try simp only [Act.put, List.setIfInBounds_toArray, List.set_cons_zero, List.set_cons_succ]
  refine wpAnyH_ready (rs := [19]) (by kernel_rfl) (by simp) ?_
  refine (AllReadyH.cons (by simp only [List.getElem?_toArray, List.getElem?_cons_succ, List.getElem?_cons_zero]; exact rfl) (fun K hK => ?_) AllReadyH.nil)
  go_simp
  refine (HSM.out x.heap.size y hXY hC).mono ?_
  rintro e z ⟨rfl, hb5⟩
  have hXZ := hXY.trans (hb5.mono hXY.size)
  go_wp2_with fail
  refine hK.out _ _ (HS.out _ hXZ) (fun hHeld => ?_)
  clear hK K
  try simp only [Act.put, List.setIfInBounds_toArray, List.set_cons_zero, List.set_cons_succ]
  refine wpAnyH_take (i := 25) (v := ?_) (by simp only [List.getElem?_toArray, List.getElem?_cons_succ, List.getElem?_cons_zero]; exact rfl) (by kernel_rfl) (by kernel_rfl) (by kernel_rfl) (fun _ _ _ h => h) (Or.inl ⟨by rfl, ?_⟩) (by assumption) ?_
  rotate_left 1
  · (intro w hSw; (try dsimp only at hSw); go_simp; try with_reducible rfl)
  try simp only [Act.put, List.setIfInBounds_toArray, List.set_cons_zero, List.set_cons_succ]
  refine wpAnyH_take (i := 26) (v := ?_) (by simp only [List.getElem?_toArray, List.getElem?_cons_succ, List.getElem?_cons_zero]; exact rfl) (by kernel_rfl) (by kernel_rfl) (by kernel_rfl) (fun _ _ _ h => h) (Or.inl ⟨by rfl, ?_⟩) (by assumption) ?_
  rotate_left 1
  · (intro w hSw; (try dsimp only at hSw); go_simp; try with_reducible rfl)
  try simp only [Act.put, List.setIfInBounds_toArray, List.set_cons_zero, List.set_cons_succ]
  refine wpAnyH_take (i := 27) (v := ?_) (by simp only [List.getElem?_toArray, List.getElem?_cons_succ, List.getElem?_cons_zero]; exact rfl) (by kernel_rfl) (by kernel_rfl) (by kernel_rfl) (fun _ _ _ h => h) (Or.inl ⟨by rfl, ?_⟩) (by assumption) ?_
  rotate_left 1
  · (intro w hSw; (try dsimp only at hSw); go_simp; try with_reducible rfl)
  try simp only [Act.put, List.setIfInBounds_toArray, List.set_cons_zero, List.set_cons_succ]
  refine wpAnyH_done (by kernel_rfl) ?_ _
  refine NoPanic.normal ?_
  go_wp2
  go_ret
  exact ⟨rfl, HB.out.trans (hHeld.2.2.2.mono HB.out.size)⟩

/-- What the walk of Bad carries. -/
def InvBd (w : World) (N : Nat) (r : Rc) (A : World) : Prop := A.cell? ⟨N + 1, 0, none⟩ = some (.slice none 0 0) ∧ Row A N 33 54 (rcF r) ∧ Below w.heap.size w A ∧ N + 3 ≤ A.heap.size
theorem InvBd.of_below {w : World} {N : Nat} {r : Rc} {A A' : World} (h : InvBd w N r A) (hB : Below A.heap.size A A') : InvBd w N r A' :=
  ⟨by rw [hB.cell (by exact World.block_lt_of_cell? A _ h.1)]; exact h.1, h.2.1.of_below hB, h.2.2.1.trans (hB.mono h.2.2.1.size), Nat.le_trans h.2.2.2 hB.size⟩
theorem InvBd.put {w : World} {N k : Nat} {r : Rc} {A : World} {o : Obj} (h : InvBd w N r A) (hw : w.heap.size = N) (hk : N + 3 ≤ k) (hlt : k < A.heap.size) : InvBd w N r (A.putObj k o) := by
  have hB := below_putP (N := N + 3) (A := A) o hk hlt
  refine ⟨by rw [hB.cell (by show N + 1 < _; omega)]; exact h.1, ?_, h.2.2.1.trans (hB.mono (by omega)), Nat.le_trans h.2.2.2 hB.size⟩
  have := h.2.1
  unfold Row at this ⊢
  rw [hB.block N (by omega)]; exact this
theorem InvBd.bears (w : World) (N : Nat) (r : Rc) (hw : w.heap.size = N) : BearsP (N + 3) (fun (_ : List Nat) A => InvBd w N r A) :=
  ⟨fun pre A o h => h.of_below (below_newD _ _), fun pre A o hlt h => h.put hw (by omega) hlt, fun pre A k h => h.of_below ((show Dr A (A.drewN k) from ⟨k, rfl⟩).below _)⟩
section
attribute [local go_sem] Oper.semAt_some
theorem loadP_at {w : World} {b : Nat} {r : Rc} (h : Row w b 33 54 (rcF r)) : (ldT 33 (.pointer (some ⟨b, 0, none⟩))).run Tryd.prog w = .ok (.value (rcV r)) w := loadRT rtP h
set_option maxRecDepth 100000 in
set_option maxHeartbeats 4000000 in
/-- The record's own bytes: no block is bad. -/
theorem bad_none (r : Rc) (l : By) (q : Option Addr) (n cap : Nat) (w : World) (h : DgAt w r (digs l)) (hsz : r.size = (n : Int)) (hl : l.length = n) (hs : Sl w q l) (hc : n ≤ cap) (hn : n < 1000000) (hT : Tb w) :
    Calls Tryd.prog 13 #[rcV r, .slice q n cap] w fun e w' => e = .returned (.slice none 0 0) ∧ Below w.heap.size w w' := by
  refine (callsIn_wide (n := 7)).1 ?_
  refine callsIn_of_wp_marks Tryd.func13 rfl trivial ?_ rfl
  simp only [Tryd.ntmps13, List.size_toArray, List.length_cons, List.length_nil, Nat.reduceAdd, Nat.reduceSub, Array.replicate_succ, Array.replicate_zero, List.push_toArray, List.append_toArray, List.nil_append, List.cons_append]
  obtain ⟨N, hN⟩ : ∃ N, w.heap.size = N := ⟨_, rfl⟩
  obtain ⟨W0, hW0⟩ : ∃ W, w.alloc (.cells (tab 54 (rcF r)) 33) = W := ⟨_, rfl⟩
  obtain ⟨V, hV⟩ : ∃ V, rcV r = V := ⟨_, rfl⟩
  have x1 : (bxT 33 V).run Tryd.prog w = .ok (.value (.pointer (some ⟨w.heap.size, 0, none⟩))) W0 := by rw [← hV, ← hW0]; exact boxP w r
  have hB0 : Below w.heap.size w W0 := by rw [← hW0]; exact below_newD _ _
  have hR0 : Row W0 N 33 54 (rcF r) := by rw [← hN, ← hW0]; exact Row.new w _ 54 _
  have s0 : W0.heap.size = N + 1 := by rw [← hW0]; simp [hN]
  obtain ⟨W1, hW1⟩ : ∃ W1, W0.alloc (.cells #[.slice none 0 0] 43) = W1 := ⟨_, rfl⟩
  obtain ⟨W2, hW2⟩ : ∃ W2, W1.alloc (.cells #[.slice q n cap] 27) = W2 := ⟨_, rfl⟩
  have s1 : W1.heap.size = N + 2 := by rw [← hW1]; simp [s0]
  have s2 : W2.heap.size = N + 3 := by rw [← hW2]; simp [s1]
  have hB1 : Below W0.heap.size W0 W1 := by rw [← hW1]; exact below_newD _ _
  have hB2 : Below W1.heap.size W1 W2 := by rw [← hW2]; exact below_newD _ _
  have hB12 : Below W0.heap.size W0 W2 := hB1.trans (hB2.mono hB1.size)
  have c1 : W2.cell? ⟨N + 2, 0, none⟩ = some (.slice q n cap) := by rw [← hW2, ← s1]; exact World.cell?_alloc_new _ _ _ _
  have c0 : W2.cell? ⟨N + 1, 0, none⟩ = some (.slice none 0 0) := by rw [hB2.cell (by show N + 1 < _; omega), ← hW1, ← s0]; exact World.cell?_alloc_new _ _ _ _
  have inv0 : InvBd w N r W2 := ⟨c0, hR0.of_below hB12, hB0.trans (hB12.mono hB0.size), by omega⟩
  have HSEQ := Lib.hid (blocks_seq 6 (by decide) (N + 2) q n cap W2 c1 hn hc)
  have HHAS := Lib.hid (fun (i : Nat) (hi : i < nblk n) (u : World) (hu : Below w.heap.size w u) => has_yes r (digs l) (blkL l i) i (q.map (·.add (256 * i))) (blen n i) (blen n i) u (h.of_below hu) (by rw [digs_len, hl]; exact hi) (by unfold digs; rw [hl]; simp [List.getD_eq_getElem?_getD, hi]) (by rw [blkL_len, hl]) (blkL_sl (hs.of_below hu) i) (by rw [hsz]; have := nblk_lt hi; unfold blen; omega) (by unfold nblk at hi; omega) (blen_le n i) (hT.on hu))
  rw [hV] at HHAS
  have hrn : r.n = nblk n := by rw [h.n, digs_len, hl]
  have HRN := Lib.hid hrn
  have HV := Lib.hid hV
  have HN := Lib.hid hN
  have hnb : nblk n < 100000 := by unfold nblk; omega
  have HCT := Lib.hid (fun u => count_any n u (by omega))
  clear hrn h hsz hl hs hT hB0 hR0 hB1 hB2 hB12 c0 c1
  rw [hV]
  rw [hN] at x1
  gi_wp2_with (refine ⟨trivial, ?_⟩; gi_at_call 28; refine (callsIn_wide.2 (blocks_any q n cap _)).mono ?_; rintro e w' ⟨rfl, rfl⟩)
  try rw [hW1]
  try rw [hW2]
  try rw [s0]
  try rw [s1]
  clear hW0 hW1 hW2 hV x1
  refine range_pure (m := 7) (by decide) (gf := 52) (lb := #[.pointer (some ⟨N + 2, 0, none⟩)]) (by rfl) (enters_of Tryd.func52 (by kernel_rfl) rfl)
    (encs := fun i : Nat => #[.int .i64 (i : Int), blkS q n i]) (fun _ => rfl) (b := N + 2) (by omega) HSEQ.out
    (fun _ A => InvBd w N r A) (fun _ _ => False) (by have := InvBd.bears w N r hN; rw [← s2] at this; exact this) (fun _ _ _ _ h => h) inv0
    (fun i => { tmps := #[V, .slice q n cap, .pointer (some ⟨N, 0, none⟩), undef, .slice none 0 0, .pointer (some ⟨N + 1, 0, none⟩), .int .i64 (i : Int), blkS q n i, undef, .slice q n cap, .func (.func 52) #[] #[.pointer (some ⟨N + 2, 0, none⟩)], .int .i64 (i : Int), blkS q n i, undef, undef, undef, undef, undef, undef, undef, undef, undef, undef, undef, undef, undef, undef, undef, undef, undef, undef, undef, undef, undef, undef, undef, undef], defers := [] }) ?assign ?body ?done ?stop
  case assign =>
    intro L x A K hK
    gi_wp2
    exact hK
  case body =>
    rintro L pre i A hpx hNA hinv
    have hik := (pre_range hpx).1
    have HI := Lib.hid hinv
    have l1 := loadP_at hinv.2.1
    rw [HV.out] at l1
    have HX := Lib.hid (HHAS.out i hik A hinv.2.2.1)
    have hbS : blkS q n i = .slice (q.map (·.add (256 * i))) (blen n i) (blen n i) := rfl
    clear hpx hinv hik
    gi_wp2_with (first | (refine ⟨trivial, ?_⟩; gi_at_call 29; refine (CallsIn.inRound L (callsIn_wide.2 HX.out)).mono ?_; rintro e A2 ⟨rfl, hB⟩))
    exact ⟨others_belowP hB, hB.block _ (by have := HI.out.2.2.2; omega), HI.out.of_below hB⟩
  case done =>
    rintro D A hD hinv hK
    have HI := Lib.hid hinv
    rw [s2] at hD
    subst hD
    have hDl := (Array.getElem?_eq_some_iff.1 hK).1
    have c0 := hinv.1
    have c1 := rc_blocks hinv.2.1
    rw [HRN.out] at c1
    have z2 : decide ((nblk n : Int) < (nblk n : Int)) = false := decide_eq_false (by omega)
    have z1 : ¬ (nblk n : Int) < (nblk n : Int) := by omega
    clear hinv inv0
    gi_wp2_with (first | (refine ⟨trivial, ?_⟩; gi_at_call 27; refine (callsIn_wide.2 (HCT.out _)).mono ?_; rintro e A2 ⟨rfl, rfl⟩))
    gi_loopw [8] (fun v8 wr => v8 = .int .i64 (nblk n : Int) ∧ wr = A) (fun _ _ => 0)
    case atStart => exact ⟨rfl, rfl⟩
    case round =>
      obtain ⟨rfl, rfl⟩ := hrel
      gi_wp2
      refine ⟨by simp, .inl ⟨_, _, rfl, run_takeDeferred hK, ?_⟩⟩
      refine ⟨.slice none 0 0, ?_, rfl, HI.out.2.2.1.trans (below_putP _ (by omega) hDl)⟩
      simp [results, Tryd.f13, go_sem]
  case stop =>
    rintro D pre A hD hpre hF hK
    exact hF.elim
end
set_option maxRecDepth 100000 in
set_option maxHeartbeats 4000000 in
/-- A record fits its own bytes. -/
theorem fits_yes (r : Rc) (l : By) (q : Option Addr) (n cap : Nat) (w : World) (h : DgAt w r (digs l)) (hsz : r.size = (n : Int)) (hdd : r.dead = false) (hwh : r.whole = digL l) (hl : l.length = n) (hs : Sl w q l) (hc : n ≤ cap) (hn : n < 1000000) (hT : Tb w) :
    Calls Tryd.prog 12 #[rcV r, .slice q n cap] w fun e w' => e = .returned (.bool true) ∧ Below w.heap.size w w' := by
  obtain ⟨W, hW⟩ : ∃ W, w.alloc (.cells (tab 54 (rcF r)) 33) = W := ⟨_, rfl⟩
  have hB1 : Below w.heap.size w W := by rw [← hW]; exact below_newD _ _
  have hR : Row W w.heap.size 33 54 (rcF r) := by rw [← hW]; exact Row.new w _ 54 _
  have HB := Lib.hid hB1
  obtain ⟨V, hV⟩ : ∃ V, rcV r = V := ⟨_, rfl⟩
  have x1 : (bxT 33 V).run Tryd.prog w = .ok (.value (.pointer (some ⟨w.heap.size, 0, none⟩))) W := by rw [← hV, ← hW]; exact boxP w r
  rw [hV]
  obtain ⟨wh, hwh2⟩ : ∃ wh, digL l = wh := ⟨_, rfl⟩
  have HS := Lib.hid (fun (u : World) (hu : Below W.heap.size W u) => (show _ ∧ _ ∧ _ ∧ _ ∧ _ from ⟨rc_dead (hR.of_below hu), rc_size (hR.of_below hu), loadP_at (hR.of_below hu), ld_dig (rc_whole (hR.of_below hu) h.whole) h.whole, hu⟩))
  have HSM := Lib.hid (fun (b : Nat) (u : World) (hu : Below W.heap.size W u) (hc4 : u.cell? ⟨b, 0, none⟩ = some (.slice q n cap)) => sum1_any l b 0 q n cap u hl hc4 (hs.of_below (hB1.trans (hu.mono hB1.size))) (hT.on (hB1.trans (hu.mono hB1.size))) (by omega))
  have HBD := Lib.hid (fun (u : World) (hu : Below W.heap.size W u) => bad_none r l q n cap u (h.of_below (hB1.trans (hu.mono hB1.size))) hsz hl (hs.of_below (hB1.trans (hu.mono hB1.size))) hc hn (hT.on (hB1.trans (hu.mono hB1.size))))
  rw [hV] at HBD
  rw [hwh2] at HSM
  rw [hV, hwh, hwh2, hdd, hsz] at HS
  clear hW hV hB1 hR h hsz hdd hwh hl hs hT hwh2
  go_enter Tryd.func12, Tryd.ntmps12
  go_wp2
  refine wp_region_noPanic ?_
  refine wp_region_held_drew (S := (fun u : World => u.cell? ⟨w.heap.size, 20, none⟩ = some (.bool false) ∧ u.cell? ⟨w.heap.size, 1, none⟩ = some (.int .i64 (n : Int)) ∧ (ldT 33 (.pointer (some ⟨w.heap.size, 0, none⟩))).run Tryd.prog u = .ok (.value V) u ∧ (ldT 23 (.pointer (some ⟨w.heap.size, 21, none⟩))).run Tryd.prog u = .ok (.value (digV wh)) u ∧ Below W.heap.size W u)) (by kernel_rfl) (HS.out W.drew (Below.refl _ _).drew) (fun hHeld => ?_)
  generalize W.drew = x at hHeld ⊢
  refine wpAnyH_take (i := 0) (v := ?_) (by simp only [List.getElem?_toArray, List.getElem?_cons_succ, List.getElem?_cons_zero]; exact rfl) (by kernel_rfl) (by kernel_rfl) (by kernel_rfl) (fun _ _ _ h => h) (Or.inl ⟨by rfl, ?_⟩) (by assumption) ?_
  rotate_left 1
  · (intro w hSw; (try dsimp only at hSw); go_simp; try with_reducible rfl)
  try simp only [Act.put, List.setIfInBounds_toArray, List.set_cons_zero, List.set_cons_succ]
  refine wpAnyH_take (i := 1) (v := ?_) (by simp only [List.getElem?_toArray, List.getElem?_cons_succ, List.getElem?_cons_zero]; exact rfl) (by kernel_rfl) (by kernel_rfl) (by kernel_rfl) (fun _ _ _ h => h) (Or.inl ⟨by rfl, ?_⟩) (by assumption) ?_
  rotate_left 1
  · (intro w hSw; (try dsimp only at hSw); go_simp; try with_reducible rfl)
  try simp only [Act.put, List.setIfInBounds_toArray, List.set_cons_zero, List.set_cons_succ]
  refine wpAnyH_take (i := 2) (v := ?_) (by simp only [List.getElem?_toArray, List.getElem?_cons_succ, List.getElem?_cons_zero]; exact rfl) (by kernel_rfl) (by kernel_rfl) (by kernel_rfl) (fun _ _ _ h => h) (Or.inl ⟨by rfl, ?_⟩) (by assumption) ?_
  rotate_left 1
  · (intro w hSw; (try dsimp only at hSw); go_simp; try with_reducible rfl)
  try simp only [Act.put, List.setIfInBounds_toArray, List.set_cons_zero, List.set_cons_succ]
  refine wpAnyH_take (i := 3) (v := ?_) (by simp only [List.getElem?_toArray, List.getElem?_cons_succ, List.getElem?_cons_zero]; exact rfl) (by kernel_rfl) (by kernel_rfl) (by kernel_rfl) (fun _ _ _ h => h) (Or.inl ⟨by rfl, ?_⟩) (by assumption) ?_
  rotate_left 1
  · (intro w hSw; (try dsimp only at hSw); go_simp; try with_reducible rfl)
  try simp only [Act.put, List.setIfInBounds_toArray, List.set_cons_zero, List.set_cons_succ]
  refine wpAnyH_take (i := 4) (v := ?_) (by simp only [List.getElem?_toArray, List.getElem?_cons_succ, List.getElem?_cons_zero]; exact rfl) (by kernel_rfl) (by kernel_rfl) (by kernel_rfl) (fun _ _ _ h => h) (Or.inl ⟨by rfl, ?_⟩) (by assumption) ?_
  rotate_left 1
  · (intro w hSw; (try dsimp only at hSw); go_simp; try with_reducible rfl)
  try simp only [Act.put, List.setIfInBounds_toArray, List.set_cons_zero, List.set_cons_succ]
  refine wpAnyH_take (i := 5) (v := ?_) (by simp only [List.getElem?_toArray, List.getElem?_cons_succ, List.getElem?_cons_zero]; exact rfl) (by kernel_rfl) (by kernel_rfl) (by kernel_rfl) (fun _ _ _ h => h) (Or.inl ⟨by rfl, ?_⟩) (by assumption) ?_
  rotate_left 1
  · (intro w hSw; (try dsimp only at hSw); go_simp; try with_reducible rfl)
  try simp only [Act.put, List.setIfInBounds_toArray, List.set_cons_zero, List.set_cons_succ]
  refine wpAnyH_take (i := 6) (v := ?_) (by simp only [List.getElem?_toArray, List.getElem?_cons_succ, List.getElem?_cons_zero]; exact rfl) (by kernel_rfl) (by kernel_rfl) (by kernel_rfl) (fun _ _ _ h => h) (Or.inl ⟨by rfl, ?_⟩) (by assumption) ?_
  rotate_left 1
  · (intro w hSw; (try dsimp only at hSw); go_simp; try with_reducible rfl)
  try simp only [Act.put, List.setIfInBounds_toArray, List.set_cons_zero, List.set_cons_succ]
  refine wpAnyH_take (i := 7) (v := ?_) (by simp only [List.getElem?_toArray, List.getElem?_cons_succ, List.getElem?_cons_zero]; exact rfl) (by kernel_rfl) (by kernel_rfl) (by kernel_rfl) (fun _ _ _ h => h) (Or.inl ⟨by rfl, ?_⟩) (by assumption) ?_
  rotate_left 1
  · (intro w hSw; (try dsimp only at hSw); go_simp; try with_reducible rfl)
  try simp only [Act.put, List.setIfInBounds_toArray, List.set_cons_zero, List.set_cons_succ]
  refine wpAnyH_take (i := 8) (v := ?_) (by simp only [List.getElem?_toArray, List.getElem?_cons_succ, List.getElem?_cons_zero]; exact rfl) (by kernel_rfl) (by kernel_rfl) (by kernel_rfl) (fun _ _ _ h => h) (Or.inl ⟨by rfl, ?_⟩) (by assumption) ?_
  rotate_left 1
  · (intro w hSw; (try dsimp only at hSw); go_simp; try with_reducible rfl)
  try simp only [Act.put, List.setIfInBounds_toArray, List.set_cons_zero, List.set_cons_succ]
  refine wpAnyH_take (i := 9) (v := ?_) (by simp only [List.getElem?_toArray, List.getElem?_cons_succ, List.getElem?_cons_zero]; exact rfl) (by kernel_rfl) (by kernel_rfl) (by kernel_rfl) (fun _ _ _ h => h) (Or.inl ⟨by rfl, ?_⟩) (by assumption) ?_
  rotate_left 1
  · (intro w hSw; (try dsimp only at hSw); go_simp; try with_reducible rfl)
  try simp only [Act.put, List.setIfInBounds_toArray, List.set_cons_zero, List.set_cons_succ]
  refine wpAnyH_take (i := 10) (v := ?_) (by simp only [List.getElem?_toArray, List.getElem?_cons_succ, List.getElem?_cons_zero]; exact rfl) (by kernel_rfl) (by kernel_rfl) (by kernel_rfl) (fun _ _ _ h => h) (Or.inl ⟨by rfl, ?_⟩) (by assumption) ?_
  rotate_left 1
  · (intro w hSw; (try dsimp only at hSw); go_simp; try with_reducible rfl)
  try simp only [Act.put, List.setIfInBounds_toArray, List.set_cons_zero, List.set_cons_succ]
  refine wpAnyH_take (i := 11) (v := ?_) (by simp only [List.getElem?_toArray, List.getElem?_cons_succ, List.getElem?_cons_zero]; exact rfl) (by kernel_rfl) (by kernel_rfl) (by kernel_rfl) (fun _ _ _ h => h) (Or.inl ⟨by rfl, ?_⟩) (by assumption) ?_
  rotate_left 1
  · (intro w hSw; (try dsimp only at hSw); go_simp; try with_reducible rfl)
  try simp only [Act.put, List.setIfInBounds_toArray, List.set_cons_zero, List.set_cons_succ]
  refine wpAnyH_take (i := 12) (v := ?_) (by simp only [List.getElem?_toArray, List.getElem?_cons_succ, List.getElem?_cons_zero]; exact rfl) (by kernel_rfl) (by kernel_rfl) (by kernel_rfl) (fun _ _ _ h => h) (Or.inl ⟨by rfl, ?_⟩) (by assumption) ?_
  rotate_left 1
  · (intro w hSw; (try dsimp only at hSw); go_simp; try with_reducible rfl)
  try simp only [Act.put, List.setIfInBounds_toArray, List.set_cons_zero, List.set_cons_succ]
  refine wpAnyH_take (i := 13) (v := ?_) (by simp only [List.getElem?_toArray, List.getElem?_cons_succ, List.getElem?_cons_zero]; exact rfl) (by kernel_rfl) (by kernel_rfl) (by kernel_rfl) (fun _ _ _ h => h) (Or.inl ⟨by rfl, ?_⟩) (by assumption) ?_
  rotate_left 1
  · (intro w hSw; (try dsimp only at hSw); go_simp; try with_reducible rfl)
  try simp only [Act.put, List.setIfInBounds_toArray, List.set_cons_zero, List.set_cons_succ]
  refine wpAnyH_ready (rs := [14]) (by kernel_rfl) (by simp) ?_
  refine (AllReadyH.cons (by simp only [List.getElem?_toArray, List.getElem?_cons_succ, List.getElem?_cons_zero]; exact rfl) (fun K hK => ?_) AllReadyH.nil)
  go_simp
  refine (HBD.out x hHeld.2.2.2.2).mono ?_
  rintro e x2 ⟨rfl, hb3⟩
  have hX2 := hHeld.2.2.2.2.trans (hb3.mono hHeld.2.2.2.2.size)
  go_wp2_with fail
  refine hK.out _ _ (HS.out _ hX2) (fun hHeld => ?_)
  clear hK K
  try simp only [Act.put, List.setIfInBounds_toArray, List.set_cons_zero, List.set_cons_succ]
  refine wpAnyH_take (i := 15) (v := ?_) (by simp only [List.getElem?_toArray, List.getElem?_cons_succ, List.getElem?_cons_zero]; exact rfl) (by kernel_rfl) (by kernel_rfl) (by kernel_rfl) (fun _ _ _ h => h) (Or.inl ⟨by rfl, ?_⟩) (by assumption) ?_
  rotate_left 1
  · (intro w hSw; (try dsimp only at hSw); go_simp; try with_reducible rfl)
  try simp only [Act.put, List.setIfInBounds_toArray, List.set_cons_zero, List.set_cons_succ]
  refine wpAnyH_take (i := 16) (v := ?_) (by simp only [List.getElem?_toArray, List.getElem?_cons_succ, List.getElem?_cons_zero]; exact rfl) (by kernel_rfl) (by kernel_rfl) (by kernel_rfl) (fun _ _ _ h => h) (Or.inl ⟨by rfl, ?_⟩) (by assumption) ?_
  rotate_left 1
  · (intro w hSw; (try dsimp only at hSw); go_simp; try with_reducible rfl)
  try simp only [Act.put, List.setIfInBounds_toArray, List.set_cons_zero, List.set_cons_succ]
  refine wpAnyH_take (i := 17) (v := ?_) (by simp only [List.getElem?_toArray, List.getElem?_cons_succ, List.getElem?_cons_zero]; exact rfl) (by kernel_rfl) (by kernel_rfl) (by kernel_rfl) (fun _ _ _ h => h) (Or.inl ⟨by rfl, ?_⟩) (by assumption) ?_
  rotate_left 1
  · (intro w hSw; (try dsimp only at hSw); go_simp; try with_reducible rfl)
  try simp only [Act.put, List.setIfInBounds_toArray, List.set_cons_zero, List.set_cons_succ]
  refine wpAnyH_take (i := 18) (v := ?_) (by simp only [List.getElem?_toArray, List.getElem?_cons_succ, List.getElem?_cons_zero]; exact rfl) (by kernel_rfl) (by kernel_rfl) (by kernel_rfl) (fun _ _ _ h => h) (Or.inl ⟨by rfl, ?_⟩) (by assumption) ?_
  rotate_left 1
  · (intro w hSw; (try dsimp only at hSw); go_simp; try with_reducible rfl)
  try simp only [Act.put, List.setIfInBounds_toArray, List.set_cons_zero, List.set_cons_succ]
  refine wpAnyH_take (i := 19) (v := ?_) (by simp only [List.getElem?_toArray, List.getElem?_cons_succ, List.getElem?_cons_zero]; exact rfl) (by kernel_rfl) (by kernel_rfl) (by kernel_rfl) (fun _ _ _ h => h) (Or.inl ⟨by rfl, ?_⟩) (by assumption) ?_
  rotate_left 1
  · (intro w hSw; (try dsimp only at hSw); go_simp; try with_reducible rfl)
  try simp only [Act.put, List.setIfInBounds_toArray, List.set_cons_zero, List.set_cons_succ]
  refine wpAnyH_take (i := 22) (v := ?_) (by simp only [List.getElem?_toArray, List.getElem?_cons_succ, List.getElem?_cons_zero]; exact rfl) (by kernel_rfl) (by kernel_rfl) (by kernel_rfl) (fun _ _ _ h => h) (Or.inl ⟨by rfl, ?_⟩) (by assumption) ?_
  rotate_left 1
  · (intro w hSw; (try dsimp only at hSw); go_simp; try with_reducible rfl)
  try simp only [Act.put, List.setIfInBounds_toArray, List.set_cons_zero, List.set_cons_succ]
  refine wpAnyH_take (i := 23) (v := ?_) (by simp only [List.getElem?_toArray, List.getElem?_cons_succ, List.getElem?_cons_zero]; exact rfl) (by kernel_rfl) (by kernel_rfl) (by kernel_rfl) (fun _ _ _ h => h) (Or.inl ⟨by rfl, ?_⟩) (by assumption) ?_
  rotate_left 1
  · (intro w hSw; (try dsimp only at hSw); go_simp; try with_reducible rfl)
  try simp only [Act.put, List.setIfInBounds_toArray, List.set_cons_zero, List.set_cons_succ]
  refine wpAnyH_ready (rs := [20]) (by kernel_rfl) (by simp) ?_
  refine (AllReadyH.cons (by simp only [List.getElem?_toArray, List.getElem?_cons_succ, List.getElem?_cons_zero]; exact rfl) (fun K hK => ?_) AllReadyH.nil)
  go_simp
  obtain ⟨y, hy⟩ : ∃ y, (x2.alloc (.cells #[.slice q n cap] 27)) = y := ⟨_, rfl⟩
  have hBa : Below x2.heap.size x2 y := by rw [← hy]; exact below_newD _ _
  have hC := (show y.cell? ⟨x2.heap.size, 0, none⟩ = some (.slice q n cap) from by rw [← hy]; exact World.cell?_alloc_new _ _ _ _)
  rw [hy]
  have hXY := hHeld.2.2.2.2.trans (hBa.mono hHeld.2.2.2.2.size)
  clear hy hBa
  refine hK.out _ _ (HS.out _ hXY) (fun hHeld => ?_)
  clear hK K
  try simp only [Act.put, List.setIfInBounds_toArray, List.set_cons_zero, List.set_cons_succ]
  refine wpAnyH_ready (rs := [21]) (by kernel_rfl) (by simp) ?_
  refine (AllReadyH.cons (by simp only [List.getElem?_toArray, List.getElem?_cons_succ, List.getElem?_cons_zero]; exact rfl) (fun K hK => ?_) AllReadyH.nil)
  go_simp
  refine (HSM.out x2.heap.size y hXY hC).mono ?_
  rintro e z ⟨rfl, hb5⟩
  have hXZ := hXY.trans (hb5.mono hXY.size)
  go_wp2_with fail
  refine hK.out _ _ (HS.out _ hXZ) (fun hHeld => ?_)
  clear hK K
  try simp only [Act.put, List.setIfInBounds_toArray, List.set_cons_zero, List.set_cons_succ]
  refine wpAnyH_take (i := 24) (v := ?_) (by simp only [List.getElem?_toArray, List.getElem?_cons_succ, List.getElem?_cons_zero]; exact rfl) (by kernel_rfl) (by kernel_rfl) (by kernel_rfl) (fun _ _ _ h => h) (Or.inl ⟨by rfl, ?_⟩) (by assumption) ?_
  rotate_left 1
  · (intro w hSw; (try dsimp only at hSw); go_simp; try with_reducible rfl)
  try simp only [Act.put, List.setIfInBounds_toArray, List.set_cons_zero, List.set_cons_succ]
  refine wpAnyH_take (i := 25) (v := ?_) (by simp only [List.getElem?_toArray, List.getElem?_cons_succ, List.getElem?_cons_zero]; exact rfl) (by kernel_rfl) (by kernel_rfl) (by kernel_rfl) (fun _ _ _ h => h) (Or.inl ⟨by rfl, ?_⟩) (by assumption) ?_
  rotate_left 1
  · (intro w hSw; (try dsimp only at hSw); go_simp; try with_reducible rfl)
  try simp only [Act.put, List.setIfInBounds_toArray, List.set_cons_zero, List.set_cons_succ]
  refine wpAnyH_take (i := 26) (v := ?_) (by simp only [List.getElem?_toArray, List.getElem?_cons_succ, List.getElem?_cons_zero]; exact rfl) (by kernel_rfl) (by kernel_rfl) (by kernel_rfl) (fun _ _ _ h => h) (Or.inl ⟨by rfl, ?_⟩) (by assumption) ?_
  rotate_left 1
  · (intro w hSw; (try dsimp only at hSw); go_simp; try with_reducible rfl)
  try simp only [Act.put, List.setIfInBounds_toArray, List.set_cons_zero, List.set_cons_succ]
  refine wpAnyH_done (by kernel_rfl) ?_ _
  refine NoPanic.normal ?_
  go_wp2
  go_ret
  exact ⟨rfl, HB.out.trans (hHeld.2.2.2.2.mono HB.out.size)⟩

set_option maxRecDepth 100000 in
set_option maxHeartbeats 4000000 in
/-- Nothing fits a deleted file. -/
theorem fits_dead (r : Rc) (q : Option Addr) (n cap : Nat) (w : World) (hdd : r.dead = true) (hw : r.whole.length = 32) :
    Calls Tryd.prog 12 #[rcV r, .slice q n cap] w fun e w' => e = .returned (.bool false) ∧ Below w.heap.size w w' := by
  obtain ⟨W, hW⟩ : ∃ W, w.alloc (.cells (tab 54 (rcF r)) 33) = W := ⟨_, rfl⟩
  have hB1 : Below w.heap.size w W := by rw [← hW]; exact below_newD _ _
  have hR : Row W w.heap.size 33 54 (rcF r) := by rw [← hW]; exact Row.new w _ 54 _
  have HB := Lib.hid hB1
  obtain ⟨V, hV⟩ : ∃ V, rcV r = V := ⟨_, rfl⟩
  have x1 : (bxT 33 V).run Tryd.prog w = .ok (.value (.pointer (some ⟨w.heap.size, 0, none⟩))) W := by rw [← hV, ← hW]; exact boxP w r
  rw [hV]
  have HS := Lib.hid (fun (u : World) (hu : Below W.heap.size W u) => (show _ ∧ _ from ⟨rc_dead (hR.of_below hu), hu⟩))
  rw [hdd] at HS
  clear hW hV hB1 hR hdd hw
  go_enter Tryd.func12, Tryd.ntmps12
  go_wp2
  refine wp_region_noPanic ?_
  refine wp_region_held_drew (S := (fun u : World => u.cell? ⟨w.heap.size, 20, none⟩ = some (.bool true) ∧ Below W.heap.size W u)) (by kernel_rfl) (HS.out W.drew (Below.refl _ _).drew) (fun hHeld => ?_)
  refine wpAnyH_take (i := 0) (v := ?_) (by simp only [List.getElem?_toArray, List.getElem?_cons_succ, List.getElem?_cons_zero]; exact rfl) (by kernel_rfl) (by kernel_rfl) (by kernel_rfl) (fun _ _ _ h => h) (Or.inl ⟨by rfl, ?_⟩) (by assumption) ?_
  rotate_left 1
  · (intro w hSw; (try dsimp only at hSw); go_simp; try with_reducible rfl)
  try simp only [Act.put, List.setIfInBounds_toArray, List.set_cons_zero, List.set_cons_succ]
  refine wpAnyH_take (i := 1) (v := ?_) (by simp only [List.getElem?_toArray, List.getElem?_cons_succ, List.getElem?_cons_zero]; exact rfl) (by kernel_rfl) (by kernel_rfl) (by kernel_rfl) (fun _ _ _ h => h) (Or.inl ⟨by rfl, ?_⟩) (by assumption) ?_
  rotate_left 1
  · (intro w hSw; (try dsimp only at hSw); go_simp; try with_reducible rfl)
  try simp only [Act.put, List.setIfInBounds_toArray, List.set_cons_zero, List.set_cons_succ]
  refine wpAnyH_take (i := 2) (v := ?_) (by simp only [List.getElem?_toArray, List.getElem?_cons_succ, List.getElem?_cons_zero]; exact rfl) (by kernel_rfl) (by kernel_rfl) (by kernel_rfl) (fun _ _ _ h => h) (Or.inl ⟨by rfl, ?_⟩) (by assumption) ?_
  rotate_left 1
  · (intro w hSw; (try dsimp only at hSw); go_simp; try with_reducible rfl)
  try simp only [Act.put, List.setIfInBounds_toArray, List.set_cons_zero, List.set_cons_succ]
  refine wpAnyH_take (i := 3) (v := ?_) (by simp only [List.getElem?_toArray, List.getElem?_cons_succ, List.getElem?_cons_zero]; exact rfl) (by kernel_rfl) (by kernel_rfl) (by kernel_rfl) (fun _ _ _ h => h) (Or.inl ⟨by rfl, ?_⟩) (by assumption) ?_
  rotate_left 1
  · (intro w hSw; (try dsimp only at hSw); go_simp; try with_reducible rfl)
  try simp only [Act.put, List.setIfInBounds_toArray, List.set_cons_zero, List.set_cons_succ]
  refine wpAnyH_take (i := 4) (v := undef) (by simp only [List.getElem?_toArray, List.getElem?_cons_succ, List.getElem?_cons_zero]; exact rfl) (by kernel_rfl) (by kernel_rfl) (by kernel_rfl) (fun _ _ _ h => h) (Or.inr ⟨by rfl, rfl⟩) (by assumption) ?_
  try simp only [Act.put, List.setIfInBounds_toArray, List.set_cons_zero, List.set_cons_succ]
  refine wpAnyH_take (i := 5) (v := undef) (by simp only [List.getElem?_toArray, List.getElem?_cons_succ, List.getElem?_cons_zero]; exact rfl) (by kernel_rfl) (by kernel_rfl) (by kernel_rfl) (fun _ _ _ h => h) (Or.inr ⟨by rfl, rfl⟩) (by assumption) ?_
  try simp only [Act.put, List.setIfInBounds_toArray, List.set_cons_zero, List.set_cons_succ]
  refine wpAnyH_take (i := 6) (v := undef) (by simp only [List.getElem?_toArray, List.getElem?_cons_succ, List.getElem?_cons_zero]; exact rfl) (by kernel_rfl) (by kernel_rfl) (by kernel_rfl) (fun _ _ _ h => h) (Or.inr ⟨by rfl, rfl⟩) (by assumption) ?_
  try simp only [Act.put, List.setIfInBounds_toArray, List.set_cons_zero, List.set_cons_succ]
  refine wpAnyH_take (i := 7) (v := undef) (by simp only [List.getElem?_toArray, List.getElem?_cons_succ, List.getElem?_cons_zero]; exact rfl) (by kernel_rfl) (by kernel_rfl) (by kernel_rfl) (fun _ _ _ h => h) (Or.inr ⟨by rfl, rfl⟩) (by assumption) ?_
  try simp only [Act.put, List.setIfInBounds_toArray, List.set_cons_zero, List.set_cons_succ]
  refine wpAnyH_take (i := 8) (v := undef) (by simp only [List.getElem?_toArray, List.getElem?_cons_succ, List.getElem?_cons_zero]; exact rfl) (by kernel_rfl) (by kernel_rfl) (by kernel_rfl) (fun _ _ _ h => h) (Or.inr ⟨by rfl, rfl⟩) (by assumption) ?_
  try simp only [Act.put, List.setIfInBounds_toArray, List.set_cons_zero, List.set_cons_succ]
  refine wpAnyH_take (i := 9) (v := undef) (by simp only [List.getElem?_toArray, List.getElem?_cons_succ, List.getElem?_cons_zero]; exact rfl) (by kernel_rfl) (by kernel_rfl) (by kernel_rfl) (fun _ _ _ h => h) (Or.inr ⟨by rfl, rfl⟩) (by assumption) ?_
  try simp only [Act.put, List.setIfInBounds_toArray, List.set_cons_zero, List.set_cons_succ]
  refine wpAnyH_take (i := 10) (v := ?_) (by simp only [List.getElem?_toArray, List.getElem?_cons_succ, List.getElem?_cons_zero]; exact rfl) (by kernel_rfl) (by kernel_rfl) (by kernel_rfl) (fun _ _ _ h => h) (Or.inl ⟨by rfl, ?_⟩) (by assumption) ?_
  rotate_left 1
  · (intro w hSw; (try dsimp only at hSw); go_simp; try with_reducible rfl)
  try simp only [Act.put, List.setIfInBounds_toArray, List.set_cons_zero, List.set_cons_succ]
  refine wpAnyH_take (i := 11) (v := ?_) (by simp only [List.getElem?_toArray, List.getElem?_cons_succ, List.getElem?_cons_zero]; exact rfl) (by kernel_rfl) (by kernel_rfl) (by kernel_rfl) (fun _ _ _ h => h) (Or.inl ⟨by rfl, ?_⟩) (by assumption) ?_
  rotate_left 1
  · (intro w hSw; (try dsimp only at hSw); go_simp; try with_reducible rfl)
  try simp only [Act.put, List.setIfInBounds_toArray, List.set_cons_zero, List.set_cons_succ]
  refine wpAnyH_take (i := 12) (v := undef) (by simp only [List.getElem?_toArray, List.getElem?_cons_succ, List.getElem?_cons_zero]; exact rfl) (by kernel_rfl) (by kernel_rfl) (by kernel_rfl) (fun _ _ _ h => h) (Or.inr ⟨by rfl, rfl⟩) (by assumption) ?_
  try simp only [Act.put, List.setIfInBounds_toArray, List.set_cons_zero, List.set_cons_succ]
  refine wpAnyH_take (i := 13) (v := undef) (by simp only [List.getElem?_toArray, List.getElem?_cons_succ, List.getElem?_cons_zero]; exact rfl) (by kernel_rfl) (by kernel_rfl) (by kernel_rfl) (fun _ _ _ h => h) (Or.inr ⟨by rfl, rfl⟩) (by assumption) ?_
  try simp only [Act.put, List.setIfInBounds_toArray, List.set_cons_zero, List.set_cons_succ]
  refine wpAnyH_take (i := 14) (v := undef) (by simp only [List.getElem?_toArray, List.getElem?_cons_succ, List.getElem?_cons_zero]; exact rfl) (by kernel_rfl) (by kernel_rfl) (by kernel_rfl) (fun _ _ _ h => h) (Or.inr ⟨by rfl, rfl⟩) (by assumption) ?_
  try simp only [Act.put, List.setIfInBounds_toArray, List.set_cons_zero, List.set_cons_succ]
  refine wpAnyH_take (i := 15) (v := undef) (by simp only [List.getElem?_toArray, List.getElem?_cons_succ, List.getElem?_cons_zero]; exact rfl) (by kernel_rfl) (by kernel_rfl) (by kernel_rfl) (fun _ _ _ h => h) (Or.inr ⟨by rfl, rfl⟩) (by assumption) ?_
  try simp only [Act.put, List.setIfInBounds_toArray, List.set_cons_zero, List.set_cons_succ]
  refine wpAnyH_take (i := 16) (v := undef) (by simp only [List.getElem?_toArray, List.getElem?_cons_succ, List.getElem?_cons_zero]; exact rfl) (by kernel_rfl) (by kernel_rfl) (by kernel_rfl) (fun _ _ _ h => h) (Or.inr ⟨by rfl, rfl⟩) (by assumption) ?_
  try simp only [Act.put, List.setIfInBounds_toArray, List.set_cons_zero, List.set_cons_succ]
  refine wpAnyH_take (i := 17) (v := ?_) (by simp only [List.getElem?_toArray, List.getElem?_cons_succ, List.getElem?_cons_zero]; exact rfl) (by kernel_rfl) (by kernel_rfl) (by kernel_rfl) (fun _ _ _ h => h) (Or.inl ⟨by rfl, ?_⟩) (by assumption) ?_
  rotate_left 1
  · (intro w hSw; (try dsimp only at hSw); go_simp; try with_reducible rfl)
  try simp only [Act.put, List.setIfInBounds_toArray, List.set_cons_zero, List.set_cons_succ]
  refine wpAnyH_take (i := 18) (v := ?_) (by simp only [List.getElem?_toArray, List.getElem?_cons_succ, List.getElem?_cons_zero]; exact rfl) (by kernel_rfl) (by kernel_rfl) (by kernel_rfl) (fun _ _ _ h => h) (Or.inl ⟨by rfl, ?_⟩) (by assumption) ?_
  rotate_left 1
  · (intro w hSw; (try dsimp only at hSw); go_simp; try with_reducible rfl)
  try simp only [Act.put, List.setIfInBounds_toArray, List.set_cons_zero, List.set_cons_succ]
  refine wpAnyH_take (i := 19) (v := undef) (by simp only [List.getElem?_toArray, List.getElem?_cons_succ, List.getElem?_cons_zero]; exact rfl) (by kernel_rfl) (by kernel_rfl) (by kernel_rfl) (fun _ _ _ h => h) (Or.inr ⟨by rfl, rfl⟩) (by assumption) ?_
  try simp only [Act.put, List.setIfInBounds_toArray, List.set_cons_zero, List.set_cons_succ]
  refine wpAnyH_take (i := 20) (v := undef) (by simp only [List.getElem?_toArray, List.getElem?_cons_succ, List.getElem?_cons_zero]; exact rfl) (by kernel_rfl) (by kernel_rfl) (by kernel_rfl) (fun _ _ _ h => h) (Or.inr ⟨by rfl, rfl⟩) (by assumption) ?_
  try simp only [Act.put, List.setIfInBounds_toArray, List.set_cons_zero, List.set_cons_succ]
  refine wpAnyH_take (i := 21) (v := undef) (by simp only [List.getElem?_toArray, List.getElem?_cons_succ, List.getElem?_cons_zero]; exact rfl) (by kernel_rfl) (by kernel_rfl) (by kernel_rfl) (fun _ _ _ h => h) (Or.inr ⟨by rfl, rfl⟩) (by assumption) ?_
  try simp only [Act.put, List.setIfInBounds_toArray, List.set_cons_zero, List.set_cons_succ]
  refine wpAnyH_take (i := 22) (v := undef) (by simp only [List.getElem?_toArray, List.getElem?_cons_succ, List.getElem?_cons_zero]; exact rfl) (by kernel_rfl) (by kernel_rfl) (by kernel_rfl) (fun _ _ _ h => h) (Or.inr ⟨by rfl, rfl⟩) (by assumption) ?_
  try simp only [Act.put, List.setIfInBounds_toArray, List.set_cons_zero, List.set_cons_succ]
  refine wpAnyH_take (i := 23) (v := undef) (by simp only [List.getElem?_toArray, List.getElem?_cons_succ, List.getElem?_cons_zero]; exact rfl) (by kernel_rfl) (by kernel_rfl) (by kernel_rfl) (fun _ _ _ h => h) (Or.inr ⟨by rfl, rfl⟩) (by assumption) ?_
  try simp only [Act.put, List.setIfInBounds_toArray, List.set_cons_zero, List.set_cons_succ]
  refine wpAnyH_take (i := 24) (v := undef) (by simp only [List.getElem?_toArray, List.getElem?_cons_succ, List.getElem?_cons_zero]; exact rfl) (by kernel_rfl) (by kernel_rfl) (by kernel_rfl) (fun _ _ _ h => h) (Or.inr ⟨by rfl, rfl⟩) (by assumption) ?_
  try simp only [Act.put, List.setIfInBounds_toArray, List.set_cons_zero, List.set_cons_succ]
  refine wpAnyH_take (i := 25) (v := ?_) (by simp only [List.getElem?_toArray, List.getElem?_cons_succ, List.getElem?_cons_zero]; exact rfl) (by kernel_rfl) (by kernel_rfl) (by kernel_rfl) (fun _ _ _ h => h) (Or.inl ⟨by rfl, ?_⟩) (by assumption) ?_
  rotate_left 1
  · (intro w hSw; (try dsimp only at hSw); go_simp; try with_reducible rfl)
  try simp only [Act.put, List.setIfInBounds_toArray, List.set_cons_zero, List.set_cons_succ]
  refine wpAnyH_take (i := 26) (v := ?_) (by simp only [List.getElem?_toArray, List.getElem?_cons_succ, List.getElem?_cons_zero]; exact rfl) (by kernel_rfl) (by kernel_rfl) (by kernel_rfl) (fun _ _ _ h => h) (Or.inl ⟨by rfl, ?_⟩) (by assumption) ?_
  rotate_left 1
  · (intro w hSw; (try dsimp only at hSw); go_simp; try with_reducible rfl)
  try simp only [Act.put, List.setIfInBounds_toArray, List.set_cons_zero, List.set_cons_succ]
  refine wpAnyH_done (by kernel_rfl) ?_ _
  refine NoPanic.normal ?_
  go_wp2
  go_ret
  exact ⟨rfl, HB.out.trans (hHeld.2.mono HB.out.size)⟩
end Go.Proofs.YtfemgkamgokjcaaDoor
/- A record in the words of the program; records compared. -/
set_option maxRecDepth 100000
namespace Go.Proofs.YtfemgkamgokjcaaDoor
open Go Go.RowKit

attribute [-go_sem] Sha.exec_store
theorem below_gf {x y z : World} (h : Below x.heap.size x y) (hg : y.grownBy z (Value.slice (some ⟨x.heap.size, 0, none⟩) 0 0).ownBlock) (hs : x.heap.size ≤ y.heap.size) : Below x.heap.size x z :=
  h.grown hg hs (fun k hk => by have : x.heap.size = k := (by simpa [Value.ownBlock] using hk); omega)
attribute [local go_sem ↓] exec_boxA exec_loadA exec_indexA exec_allocA exec_storeA exec_buildA exec_eqlA exec_neqA exec_boxV exec_loadV exec_indexV exec_allocV exec_storeV exec_buildV exec_eqlV exec_neqV
attribute [local go_sem] boxA indexA storeNewA buildA eqlA neqA boxV indexV storeNewV buildV eqlV neqV

attribute [local go_sem ↓] exec_loadS exec_boxS exec_boxP exec_boxM exec_allocP exec_allocM exec_storeP exec_storeM exec_buildP exec_buildM exec_buildS exec_load32 exec_build32 exec_eqlD exec_neqD exec_bs
attribute [local go_sem] box_stamp boxP boxM bd32 eqlD neqD bdS3 deq_self veq_self10
theorem bsD0 (w : World) : (bsT 24 0 #[]).run Tryd.prog w = .ok (.value (.slice (some ⟨w.heap.size, 0, none⟩) 0 0)) (w.alloc (.cells #[] 23)) := by kernel_rfl
attribute [local go_sem] bsD0
set_option maxRecDepth 100000 in
set_option maxHeartbeats 4000000 in
theorem real_any (r : Rc) (ds : List By) (w : World) (h : DgAt w r ds) (hn : ds.length < 100000) :
    Calls Tryd.prog 15 #[rcV r] w fun e w' => ∃ q' cap', e = .returned (rcV (r.mov q' cap')) ∧ Below w.heap.size w w' ∧ DgAt w' (r.mov q' cap') ds := by
  obtain ⟨W1, hW1⟩ : ∃ W, w.alloc (.cells (tab 54 (rcF r)) 26) = W := ⟨_, rfl⟩
  obtain ⟨W2, hW2⟩ : ∃ W, W1.alloc (.cells (tab 54 (rcF rc0)) 33) = W := ⟨_, rfl⟩
  have hB1 : Below w.heap.size w W1 := by rw [← hW1]; exact below_newD _ _
  have hB2 : Below W1.heap.size W1 W2 := by rw [← hW2]; exact below_newD _ _
  have hB := hB1.trans (hB2.mono hB1.size)
  have z1 : W1.heap.size = w.heap.size + 1 := by rw [← hW1]; simp
  have z2 : W2.heap.size = w.heap.size + 2 := by rw [← hW2]; simp [z1]
  have hR1 : Row W2 w.heap.size 26 54 (rcF r) := (by rw [← hW1]; exact Row.new w _ 54 _ : Row W1 w.heap.size 26 54 (rcF r)).of_below hB2
  have hR2 : Row W2 W1.heap.size 33 54 (rcF rc0) := by rw [← hW2]; exact Row.new W1 _ 54 _
  have hwl := h.whole
  obtain ⟨V, hV⟩ : ∃ V, rcV r = V := ⟨_, rfl⟩
  have x1 : (bxT 26 V).run Tryd.prog w = .ok (.value (.pointer (some ⟨w.heap.size, 0, none⟩))) W1 := by rw [← hV, ← hW1]; exact boxM w r
  rw [hV]
  have HD := Lib.hid (fun (u : World) (hu : Below W2.heap.size W2 u) => h.of_below (hB.trans (hu.mono hB.size)))
  have HDL := Lib.hid (show (ds.flatMap digC).length = r.n * 32 by rw [flat_digC, List.length_map, flat_len32 h.each, h.n])
  have HQN := Lib.hid (show r.q = none → r.cap = 0 ∧ r.n = 0 from fun e => ⟨h.nil e, by have := h.nil e; have := h.le; omega⟩)
  have HONE := Lib.hid (show ∀ u ∈ ds.flatMap digC, u.oneCell' = true from by rw [flat_digC]; exact one_map _)
  have HN8 := Lib.hid (show 0 + r.n < 100000000 by rw [h.n]; omega)
  have HNL := Lib.hid h.n
  have HWL := Lib.hid hwl
  have HW12 := Lib.hid (show W1.heap.size < W2.heap.size by omega)
  have HF := Lib.hid (fun (u : World) (hr : Row u w.heap.size 26 54 (rcF r)) (hu : Below w.heap.size w u) => (show _ ∧ _ ∧ _ ∧ _ ∧ _ ∧ _ ∧ _ ∧ _ ∧ _ ∧ _ from ⟨rc_path hr, rc_size hr, rc_time hr, rc_chg hr, loadVT vtA (rc_ver hr), rc_dead hr, ld_dig (rc_whole hr hwl) hwl, rc_blocks hr, hr, hu⟩))
  have HS := Lib.hid (fun (u : World) (hu : Below W2.heap.size W2 u) => HF.out u (hR1.of_below hu) (hB.trans (hu.mono hB.size)))
  have HR := Lib.hid (fun (u : World) (hu : Below W2.heap.size W2 u) (r2 : Rc) => (show ∃ u', (stT 33 (.pointer (some ⟨W1.heap.size, 0, none⟩)) (rcV r2)).run Tryd.prog u = .ok .skip u' ∧ Row u' W1.heap.size 33 54 (rcF r2) ∧ _ ∧ Kp W1.heap.size u u' from by
    obtain ⟨u', h1, h2, h3⟩ := storeRT rtP (hR2.of_below hu) r2
    exact ⟨u', h1, h2, HF.out u' ((hR1.of_below hu).of_kp h3 (by omega)) ((hB.trans (hu.mono hB.size)).trans (h3.below (by omega) (by have := hu.size; omega))), h3⟩))
  clear hB1 hB2 hB z1 z2 hR1 hR2 hwl hV h
  obtain ⟨p, s, t, c, f, d, wh, q, n, cap⟩ := r
  dsimp only [Rc.mov] at *
  go_enter Tryd.func15, Tryd.ntmps15
  go_wp2
  clear x1 hW1 hW2
  refine wp_region_noPanic ?_
  refine wp_region_held_drew (S := (fun u : World => u.cell? ⟨w.heap.size, 0, none⟩ = some (.string (mkS p)) ∧ u.cell? ⟨w.heap.size, 1, none⟩ = some (.int .i64 s) ∧ u.cell? ⟨w.heap.size, 2, none⟩ = some (.int .i64 t) ∧ u.cell? ⟨w.heap.size, 3, none⟩ = some (.int .i64 c) ∧ (ldT 22 (.pointer (some ⟨w.heap.size, 4, none⟩))).run Tryd.prog u = .ok (.value (vcV f)) u ∧ u.cell? ⟨w.heap.size, 20, none⟩ = some (.bool d) ∧ (ldT 23 (.pointer (some ⟨w.heap.size, 21, none⟩))).run Tryd.prog u = .ok (.value (digV wh)) u ∧ u.cell? ⟨w.heap.size, 53, none⟩ = some (.slice q n cap) ∧ Row u w.heap.size 26 54 (rcF ⟨p, s, t, c, f, d, wh, q, n, cap⟩) ∧ Below w.heap.size w u)) (by kernel_rfl) (HS.out W2.drew (Below.refl _ _).drew) (fun hHeld => ?_)
  have HX := Lib.hid (show Below W2.heap.size W2 W2.drew from (Below.refl _ _).drew)
  have HX0 := Lib.hid (show Below W2.heap.size W2 W2.drew from (Below.refl _ _).drew)
  generalize W2.drew = x at hHeld HX HX0 ⊢
  have HXB := Lib.hid (show W1.heap.size < x.heap.size from Nat.lt_of_lt_of_le HW12.out HX0.out.size)
  refine wpAnyH_take (i := 0) (v := ?_) (by simp only [List.getElem?_toArray, List.getElem?_cons_succ, List.getElem?_cons_zero]; exact rfl) (by kernel_rfl) (by kernel_rfl) (by kernel_rfl) (fun _ _ _ h => h) (Or.inl ⟨by rfl, ?_⟩) (by assumption) ?_
  rotate_left 1
  · (intro w hSw; (try dsimp only at hSw); go_simp; try with_reducible rfl)
  try simp only [Act.put, List.setIfInBounds_toArray, List.set_cons_zero, List.set_cons_succ]
  refine wpAnyH_take (i := 1) (v := ?_) (by simp only [List.getElem?_toArray, List.getElem?_cons_succ, List.getElem?_cons_zero]; exact rfl) (by kernel_rfl) (by kernel_rfl) (by kernel_rfl) (fun _ _ _ h => h) (Or.inl ⟨by rfl, ?_⟩) (by assumption) ?_
  rotate_left 1
  · (intro w hSw; (try dsimp only at hSw); go_simp; try with_reducible rfl)
  try simp only [Act.put, List.setIfInBounds_toArray, List.set_cons_zero, List.set_cons_succ]
  refine wpAnyH_take (i := 2) (v := ?_) (by simp only [List.getElem?_toArray, List.getElem?_cons_succ, List.getElem?_cons_zero]; exact rfl) (by kernel_rfl) (by kernel_rfl) (by kernel_rfl) (fun _ _ _ h => h) (Or.inl ⟨by rfl, ?_⟩) (by assumption) ?_
  rotate_left 1
  · (intro w hSw; (try dsimp only at hSw); go_simp; try with_reducible rfl)
  try simp only [Act.put, List.setIfInBounds_toArray, List.set_cons_zero, List.set_cons_succ]
  refine wpAnyH_take (i := 3) (v := ?_) (by simp only [List.getElem?_toArray, List.getElem?_cons_succ, List.getElem?_cons_zero]; exact rfl) (by kernel_rfl) (by kernel_rfl) (by kernel_rfl) (fun _ _ _ h => h) (Or.inl ⟨by rfl, ?_⟩) (by assumption) ?_
  rotate_left 1
  · (intro w hSw; (try dsimp only at hSw); go_simp; try with_reducible rfl)
  try simp only [Act.put, List.setIfInBounds_toArray, List.set_cons_zero, List.set_cons_succ]
  refine wpAnyH_take (i := 4) (v := ?_) (by simp only [List.getElem?_toArray, List.getElem?_cons_succ, List.getElem?_cons_zero]; exact rfl) (by kernel_rfl) (by kernel_rfl) (by kernel_rfl) (fun _ _ _ h => h) (Or.inl ⟨by rfl, ?_⟩) (by assumption) ?_
  rotate_left 1
  · (intro w hSw; (try dsimp only at hSw); go_simp; try with_reducible rfl)
  try simp only [Act.put, List.setIfInBounds_toArray, List.set_cons_zero, List.set_cons_succ]
  refine wpAnyH_take (i := 5) (v := ?_) (by simp only [List.getElem?_toArray, List.getElem?_cons_succ, List.getElem?_cons_zero]; exact rfl) (by kernel_rfl) (by kernel_rfl) (by kernel_rfl) (fun _ _ _ h => h) (Or.inl ⟨by rfl, ?_⟩) (by assumption) ?_
  rotate_left 1
  · (intro w hSw; (try dsimp only at hSw); go_simp; try with_reducible rfl)
  try simp only [Act.put, List.setIfInBounds_toArray, List.set_cons_zero, List.set_cons_succ]
  refine wpAnyH_take (i := 6) (v := ?_) (by simp only [List.getElem?_toArray, List.getElem?_cons_succ, List.getElem?_cons_zero]; exact rfl) (by kernel_rfl) (by kernel_rfl) (by kernel_rfl) (fun _ _ _ h => h) (Or.inl ⟨by rfl, ?_⟩) (by assumption) ?_
  rotate_left 1
  · (intro w hSw; (try dsimp only at hSw); go_simp; try with_reducible rfl)
  try simp only [Act.put, List.setIfInBounds_toArray, List.set_cons_zero, List.set_cons_succ]
  refine wpAnyH_take (i := 7) (v := ?_) (by simp only [List.getElem?_toArray, List.getElem?_cons_succ, List.getElem?_cons_zero]; exact rfl) (by kernel_rfl) (by kernel_rfl) (by kernel_rfl) (fun _ _ _ h => h) (Or.inl ⟨by rfl, ?_⟩) (by assumption) ?_
  rotate_left 1
  · (intro w hSw; (try dsimp only at hSw); go_simp; try with_reducible rfl)
  try simp only [Act.put, List.setIfInBounds_toArray, List.set_cons_zero, List.set_cons_succ]
  refine wpAnyH_take (i := 8) (v := ?_) (by simp only [List.getElem?_toArray, List.getElem?_cons_succ, List.getElem?_cons_zero]; exact rfl) (by kernel_rfl) (by kernel_rfl) (by kernel_rfl) (fun _ _ _ h => h) (Or.inl ⟨by rfl, ?_⟩) (by assumption) ?_
  rotate_left 1
  · (intro w hSw; (try dsimp only at hSw); go_simp; try with_reducible rfl)
  try simp only [Act.put, List.setIfInBounds_toArray, List.set_cons_zero, List.set_cons_succ]
  refine wpAnyH_take (i := 9) (v := ?_) (by simp only [List.getElem?_toArray, List.getElem?_cons_succ, List.getElem?_cons_zero]; exact rfl) (by kernel_rfl) (by kernel_rfl) (by kernel_rfl) (fun _ _ _ h => h) (Or.inl ⟨by rfl, ?_⟩) (by assumption) ?_
  rotate_left 1
  · (intro w hSw; (try dsimp only at hSw); go_simp; try with_reducible rfl)
  try simp only [Act.put, List.setIfInBounds_toArray, List.set_cons_zero, List.set_cons_succ]
  refine wpAnyH_take (i := 10) (v := ?_) (by simp only [List.getElem?_toArray, List.getElem?_cons_succ, List.getElem?_cons_zero]; exact rfl) (by kernel_rfl) (by kernel_rfl) (by kernel_rfl) (fun _ _ _ h => h) (Or.inl ⟨by rfl, ?_⟩) (by assumption) ?_
  rotate_left 1
  · (intro w hSw; (try dsimp only at hSw); go_simp; try with_reducible rfl)
  try simp only [Act.put, List.setIfInBounds_toArray, List.set_cons_zero, List.set_cons_succ]
  refine wpAnyH_take (i := 11) (v := ?_) (by simp only [List.getElem?_toArray, List.getElem?_cons_succ, List.getElem?_cons_zero]; exact rfl) (by kernel_rfl) (by kernel_rfl) (by kernel_rfl) (fun _ _ _ h => h) (Or.inl ⟨by rfl, ?_⟩) (by assumption) ?_
  rotate_left 1
  · (intro w hSw; (try dsimp only at hSw); go_simp; try with_reducible rfl)
  try simp only [Act.put, List.setIfInBounds_toArray, List.set_cons_zero, List.set_cons_succ]
  refine wpAnyH_take (i := 12) (v := ?_) (by simp only [List.getElem?_toArray, List.getElem?_cons_succ, List.getElem?_cons_zero]; exact rfl) (by kernel_rfl) (by kernel_rfl) (by kernel_rfl) (fun _ _ _ h => h) (Or.inl ⟨by rfl, ?_⟩) (by assumption) ?_
  rotate_left 1
  · (intro w hSw; (try dsimp only at hSw); go_simp; try with_reducible rfl)
  try simp only [Act.put, List.setIfInBounds_toArray, List.set_cons_zero, List.set_cons_succ]
  refine wpAnyH_take (i := 13) (v := ?_) (by simp only [List.getElem?_toArray, List.getElem?_cons_succ, List.getElem?_cons_zero]; exact rfl) (by kernel_rfl) (by kernel_rfl) (by kernel_rfl) (fun _ _ _ h => h) (Or.inl ⟨by rfl, ?_⟩) (by assumption) ?_
  rotate_left 1
  · (intro w hSw; (try dsimp only at hSw); go_simp; try with_reducible rfl)
  try simp only [Act.put, List.setIfInBounds_toArray, List.set_cons_zero, List.set_cons_succ]
  refine wpAnyH_take (i := 14) (v := ?_) (by simp only [List.getElem?_toArray, List.getElem?_cons_succ, List.getElem?_cons_zero]; exact rfl) (by kernel_rfl) (by kernel_rfl) (by kernel_rfl) (fun _ _ _ h => h) (Or.inl ⟨by rfl, ?_⟩) (by assumption) ?_
  rotate_left 1
  · (intro w hSw; (try dsimp only at hSw); go_simp; try with_reducible rfl)
  try simp only [Act.put, List.setIfInBounds_toArray, List.set_cons_zero, List.set_cons_succ]
  refine wpAnyH_take (i := 16) (v := ?_) (by simp only [List.getElem?_toArray, List.getElem?_cons_succ, List.getElem?_cons_zero]; exact rfl) (by kernel_rfl) (by kernel_rfl) (by kernel_rfl) (fun _ _ _ h => h) (Or.inl ⟨by rfl, ?_⟩) (by assumption) ?_
  rotate_left 1
  · (intro w hSw; (try dsimp only at hSw); go_simp; try with_reducible rfl)
  try simp only [Act.put, List.setIfInBounds_toArray, List.set_cons_zero, List.set_cons_succ]
  refine wpAnyH_take (i := 17) (v := ?_) (by simp only [List.getElem?_toArray, List.getElem?_cons_succ, List.getElem?_cons_zero]; exact rfl) (by kernel_rfl) (by kernel_rfl) (by kernel_rfl) (fun _ _ _ h => h) (Or.inl ⟨by rfl, ?_⟩) (by assumption) ?_
  rotate_left 1
  · (intro w hSw; (try dsimp only at hSw); go_simp; try with_reducible rfl)
  try simp only [Act.put, List.setIfInBounds_toArray, List.set_cons_zero, List.set_cons_succ]
  refine wpAnyH_ready (rs := [15]) (by kernel_rfl) (by simp) ?_
  refine (AllReadyH.cons (by simp only [List.getElem?_toArray, List.getElem?_cons_succ, List.getElem?_cons_zero]; exact rfl) (fun K hK => ?_) AllReadyH.nil)
  go_simp
  obtain ⟨y, hy⟩ : ∃ y, (x.alloc (.cells #[] 23)) = y := ⟨_, rfl⟩
  have hBa : Below x.heap.size x y := by rw [← hy]; exact below_newD _ _
  have hO := (own_empty (E := 23) (k := 32) x x.heap.size (Nat.le_refl _))
  rw [hy] at hO ⊢
  have hXY := HX.out.trans (hBa.mono HX.out.size)
  have HX := Lib.hid hXY
  have HO := Lib.hid hO
  have hsx : x.heap.size ≤ y.heap.size := hBa.size
  have HBA := Lib.hid hBa
  clear hy hO hXY hBa
  refine hK.out _ _ (HS.out _ HX.out) (fun hHeld => ?_)
  clear hK K
  try simp only [Act.put, List.setIfInBounds_toArray, List.set_cons_zero, List.set_cons_succ]
  refine wpAnyH_ready (rs := [18]) (by kernel_rfl) (by simp) ?_
  refine (AllReadyH.cons (by simp only [List.getElem?_toArray, List.getElem?_cons_succ, List.getElem?_cons_zero]; exact rfl) (fun K hK => ?_) AllReadyH.nil)
  refine step_appendK elD y rfl (.tmp 18) (.tmp 20) rfl x.heap.size rfl HO.out q n cap (ds.flatMap digC) HDL.out rfl (HD.out y HX.out).lie HQN.out (HONE.out) HN8.out hsx ?_
  rintro v7 z hO7 hg7 ho7
  rw [Nat.zero_add, List.nil_append] at hO7
  obtain ⟨q7, c7, rfl, hlt7, hdg7⟩ := dg_own hO7 HNL.out (HD.out y HX.out).each
  have hXZ : Below W2.heap.size W2 z := HX0.out.trans ((below_gf HBA.out hg7 hsx).mono (HX0.out.size))
  have HX := Lib.hid hXZ
  have HDG := Lib.hid hdg7
  have HLT := Lib.hid hlt7
  have hbd := fun u => bdP6 p s t c f d wh q7 n c7 u
  rw [HNL.out.symm]
  obtain ⟨RV, hRV⟩ : ∃ RV : Rc, ⟨p, s, t, c, f, d, wh, q7, n, c7⟩ = RV := ⟨_, rfl⟩
  rw [hRV] at hbd
  have HRV := Lib.hid hRV
  clear hRV hO7 hg7 ho7 hdg7 hlt7 hXZ
  refine hK.out _ _ (HS.out _ HX.out) (fun hHeld => ?_)
  clear hK K
  try simp only [Act.put, List.setIfInBounds_toArray, List.set_cons_zero, List.set_cons_succ]
  refine wpAnyH_take (i := 19) (v := ?_) (by simp only [List.getElem?_toArray, List.getElem?_cons_succ, List.getElem?_cons_zero]; exact rfl) (by kernel_rfl) (by kernel_rfl) (by kernel_rfl) (fun _ _ _ h => h) (Or.inl ⟨by rfl, ?_⟩) (by assumption) ?_
  rotate_left 1
  · (intro w hSw; (try dsimp only at hSw); go_simp; try with_reducible rfl)
  try simp only [Act.put, List.setIfInBounds_toArray, List.set_cons_zero, List.set_cons_succ]
  refine wpAnyH_ready (rs := [20]) (by kernel_rfl) (by simp) ?_
  refine (AllReadyH.cons (by simp only [List.getElem?_toArray, List.getElem?_cons_succ, List.getElem?_cons_zero]; exact rfl) (fun K hK => ?_) AllReadyH.nil)
  obtain ⟨u', hs, hRow, hSu, hKp⟩ := HR.out z HX.out RV
  have HRow := Lib.hid hRow
  have HKp := Lib.hid hKp
  clear hRow hKp
  go_simp
  refine hK.out _ _ hSu (fun hHeld => ?_)
  clear hK K
  try simp only [Act.put, List.setIfInBounds_toArray, List.set_cons_zero, List.set_cons_succ]
  refine wpAnyH_done (by kernel_rfl) ?_ _
  refine NoPanic.normal ?_
  go_wp2
  refine bodyPost_ret (resR rtP rfl _ u' W1.heap.size 33 RV rfl HRow.out) rfl ?_
  have hd : DgAt z RV ds := HDG.out RV (by rw [← HRV.out]) (by rw [← HRV.out]; exact HNL.out) (by rw [← HRV.out]) (by rw [← HRV.out]; exact HWL.out)
  refine ⟨q7, c7, by rw [← HRV.out], hHeld.2.2.2.2.2.2.2.2.2, ?_⟩
  have hd2 : DgAt u' RV ds := hd.keep fun cc oo e hlt => HKp.out.block cc hlt (by
    have h1 := HLT.out cc oo (by rw [← HRV.out] at e; exact e)
    have h2 := HXB.out
    omega)
  rw [← HRV.out] at hd2
  exact hd2
theorem eqlS (x y : Operand) (s t c : Int) (w : World) : (eqX .eql 30 x y (stV s t c) (stV s t c)).run Tryd.prog w = .ok (.value (.bool true)) w := by
  have h : (binOp .eql 30 (stV s t c) (stV s t c)).run Tryd.prog w = .ok (.bool true) w := by
    unfold stV
    go_simp
  have hg : (eqGuard .eql 30 x y (stV s t c) (stV s t c)).run Tryd.prog w = .ok () w := by unfold stV; exact run_eqGuard_agg (P := Tryd.prog) w .eql 30 x y _ _ (by kernel_rfl)
  simp only [eqX, Sem.run_bind, hg, h, Result.andThen_ok, Sem.run_pure]
theorem eqlSn (x y : Operand) (s s' t c : Int) (w : World) (hs : ¬ s = s') : (eqX .eql 30 x y (stV s t c) (stV s' t c)).run Tryd.prog w = .ok (.value (.bool false)) w := by
  have hs2 : (s == s') = false := by rw [beq_eq_false_iff_ne]; exact hs
  have h : (binOp .eql 30 (stV s t c) (stV s' t c)).run Tryd.prog w = .ok (.bool false) w := by
    unfold stV
    go_simp
  have hg : (eqGuard .eql 30 x y (stV s t c) (stV s' t c)).run Tryd.prog w = .ok () w := by unfold stV; exact run_eqGuard_agg (P := Tryd.prog) w .eql 30 x y _ _ (by kernel_rfl)
  simp only [eqX, Sem.run_bind, hg, h, Result.andThen_ok, Sem.run_pure]
theorem exec_eqlS (r : Operand → Value) (dst : Option Tmp) (x y : Operand) (z : TypeId) (ty : TypeId) (pos : String) (after : Array Edge) (guard : Option (Nat × Bool)) :
    execOp r ⟨dst, .binOp .eql 30 x y z, ty, pos, after, guard⟩ = eqX .eql 30 x y (r x) (r y) := rfl
attribute [local go_sem ↓] exec_eqlS
attribute [local go_sem] eqlS
/-- Two boxed records, to be compared. -/
theorem two_boxed (a b : Rc) (w : World) (ha : a.whole.length = 32) (hb : b.whole.length = 32) : ∃ W1 W2, w.alloc (.cells (tab 54 (rcF a)) 33) = W1 ∧ W1.alloc (.cells (tab 54 (rcF b)) 33) = W2 ∧ Below w.heap.size w W2 ∧ Row W2 w.heap.size 33 54 (rcF a) ∧ Row W2 W1.heap.size 33 54 (rcF b) ∧ (bxT 33 (rcV a)).run Tryd.prog w = .ok (.value (.pointer (some ⟨w.heap.size, 0, none⟩))) W1 ∧ (bxT 33 (rcV b)).run Tryd.prog W1 = .ok (.value (.pointer (some ⟨W1.heap.size, 0, none⟩))) W2 := by
  have hB1 := below_newD w (.cells (tab 54 (rcF a)) 33)
  have hB2 := below_newD (w.alloc (.cells (tab 54 (rcF a)) 33)) (.cells (tab 54 (rcF b)) 33)
  exact ⟨_, _, rfl, rfl, hB1.trans (hB2.mono hB1.size), (Row.new w _ 54 _).of_below hB2, Row.new _ _ 54 _, boxP w a, boxP _ b⟩
set_option maxRecDepth 100000 in
set_option maxHeartbeats 8000000 in
theorem same_yes (r : Rc) (q2 : Option Addr) (cap2 : Nat) (ds : List By) (w : World) (h1 : DgAt w r ds) (h2 : DgAt w (r.mov q2 cap2) ds) (hn : ds.length < 100000) :
    Calls Tryd.prog 14 #[rcV r, rcV (r.mov q2 cap2)] w fun e w' => e = .returned (.bool true) ∧ Below w.heap.size w w' := by
  obtain ⟨W1, W2, hW1, hW2, hB, hR1, hR2, hx1, hx2⟩ := two_boxed r (r.mov q2 cap2) w h1.whole h2.whole
  have hwl := h1.whole
  have HB := Lib.hid hB
  have HEQ := Lib.hid (equalD_yes r (r.mov q2 cap2) ds W2 (h1.of_below hB) (h2.of_below hB) hn)
  obtain ⟨V1, hV1⟩ : ∃ V, rcV r = V := ⟨_, rfl⟩
  obtain ⟨V2, hV2⟩ : ∃ V, rcV (r.mov q2 cap2) = V := ⟨_, rfl⟩
  rw [hV1] at hx1 ⊢
  rw [hV2] at hx2 ⊢
  have a0 := rc_path hR1
  have a1 := ld_stamp (rc_stamp hR1)
  have a4 := loadVT vtV (rc_ver hR1)
  have a5 := rc_dead hR1
  have a6 := ld_dig (rc_whole hR1 hwl) hwl
  have a7 := rc_blocks hR1
  have b0 := rc_path hR2
  have b1 := ld_stamp (rc_stamp hR2)
  have b4 := loadVT vtV (rc_ver hR2)
  have b5 := rc_dead hR2
  have b6 := ld_dig (rc_whole hR2 hwl) hwl
  have b7 := rc_blocks hR2
  clear hB hR1 hR2 hV1 hV2 hW1 hW2 h1 h2 hwl
  obtain ⟨p, s, t, c, f, d, wh, q, n, cap⟩ := r
  dsimp only [Rc.mov] at *
  go_enter Tryd.func14, Tryd.ntmps14
  cases d
  all_goals (
    go_wp2_with fail
    refine HEQ.out.mono ?_
    rintro e w3 ⟨rfl, hB3⟩
    have HBB := Lib.hid (HB.out.trans (hB3.mono HB.out.size))
    clear hB3 hx1 hx2 a0 a1 a4 a5 a6 a7 b0 b1 b4 b5 b6 b7
    go_wp2
    go_ret
    exact ⟨rfl, HBB.out⟩)
set_option maxRecDepth 100000 in
set_option maxHeartbeats 8000000 in
/-- A record and that of the deleted file are not the same. -/
theorem same_dead (p : S8) (s s' t c : Int) (f : Nat → Int) (wh wh' : By) (q q' : Option Addr) (n n' cap cap' : Nat) (w : World) (hw : wh.length = 32) (hw' : wh'.length = 32) :
    Calls Tryd.prog 14 #[rcV ⟨p, s, t, c, f, false, wh, q, n, cap⟩, rcV ⟨p, s', t, c, f, true, wh', q', n', cap'⟩] w fun e w' => e = .returned (.bool false) ∧ Below w.heap.size w w' := by
  obtain ⟨W1, W2, hW1, hW2, hB, hR1, hR2, hx1, hx2⟩ := two_boxed ⟨p, s, t, c, f, false, wh, q, n, cap⟩ ⟨p, s', t, c, f, true, wh', q', n', cap'⟩ w hw hw'
  have HB := Lib.hid hB
  obtain ⟨V1, hV1⟩ : ∃ V, rcV ⟨p, s, t, c, f, false, wh, q, n, cap⟩ = V := ⟨_, rfl⟩
  obtain ⟨V2, hV2⟩ : ∃ V, rcV ⟨p, s', t, c, f, true, wh', q', n', cap'⟩ = V := ⟨_, rfl⟩
  rw [hV1] at hx1 ⊢
  rw [hV2] at hx2 ⊢
  have a0 := rc_path hR1
  have a1 := ld_stamp (rc_stamp hR1)
  have a4 := loadVT vtV (rc_ver hR1)
  have a5 := rc_dead hR1
  have b0 := rc_path hR2
  have b1 := ld_stamp (rc_stamp hR2)
  have b4 := loadVT vtV (rc_ver hR2)
  have b5 := rc_dead hR2
  dsimp only at *
  clear hB hR1 hR2 hV1 hV2 hW1 hW2
  by_cases hss : s = s'
  · subst hss
    go_enter Tryd.func14, Tryd.ntmps14
    go_wp2
    go_ret
    exact ⟨rfl, HB.out⟩
  · have hsn := fun x y (u : World) => eqlSn x y s s' t c u hss
    clear hss
    go_enter Tryd.func14, Tryd.ntmps14
    go_wp2
    go_ret
    exact ⟨rfl, HB.out⟩
end Go.Proofs.YtfemgkamgokjcaaDoor
/- Stores of bytes and ints, and slices of bytes that are made. -/
set_option maxRecDepth 100000
namespace Go.Proofs.YtfemgkamgokjcaaDoor
open Go Go.RowKit
attribute [-go_sem] Sha.exec_store

theorem convIB (n : Nat) (w : World) : (convert 3 5 (.int .i64 (n : Int))).run Tryd.prog w = .ok (B (BitVec.ofNat 8 n)) w :=
  run_convert_IB w 3 5 n (by kernel_rfl) (by kernel_rfl)
theorem st_B (a : Addr) (x : BitVec 8) (w : World) (hcell : (w.cell? a).isSome = true) (hf : w.frozen? a = false) : (stT 5 (.pointer (some a)) (B x)).run Tryd.prog w = .ok .skip (w.setCell a (B x)) :=
  stT_one 5 a (B x) w (one_B x) (cells_B x) (by kernel_rfl) hcell hf
theorem st_I (a : Addr) (x : Int) (w : World) (hcell : (w.cell? a).isSome = true) (hf : w.frozen? a = false) : (stT 3 (.pointer (some a)) (.int .i64 x)).run Tryd.prog w = .ok .skip (w.setCell a (.int .i64 x)) :=
  stT_one 3 a _ w rfl rfl (by kernel_rfl) hcell hf
theorem st_b (a : Addr) (x : Int) (w : World) (hcell : (w.cell? a).isSome = true) (hf : w.frozen? a = false) : (stT 5 (.pointer (some a)) (.int .u8 x)).run Tryd.prog w = .ok .skip (w.setCell a (.int .u8 x)) :=
  stT_one 5 a _ w rfl rfl (by kernel_rfl) hcell hf
theorem mkB (n : Nat) (w : World) (hn : n < 4294967296) : (mkT 27 (.int .i64 (n : Int)) (.int .i64 (n : Int))).run Tryd.prog w = .ok (.value (.slice (some ⟨w.heap.size, 0, none⟩) n n)) (w.alloc (.cells (zb n) 5)) := by
  have hi : (Tryd.prog.info? 5).map (fun i => (i.zero, i.size, i.bytes)) = some (some (.int .u8 0), 1, 1) := by kernel_rfl
  cases hq : Tryd.prog.info? 5 with
  | none => simp [hq] at hi
  | some i =>
    rw [hq] at hi
    simp only [Option.map_some, Option.some.injEq, Prod.mk.injEq] at hi
    obtain ⟨h1, h2, h3⟩ := hi
    have := run_make (P := Tryd.prog) w 27 5 i (.int .u8 0) (by kernel_rfl) hq h1 .i64 .i64 n n (by omega) (Int.le_refl _) (by rw [h3]; omega) (by omega)
    rw [h2] at this
    simp only [Int.toNat_natCast, Nat.mul_one] at this
    simp only [mkT, Sem.run_bind, this, Result.andThen_ok, Sem.run_pure]
    congr 2
    rw [zb_eq]
    congr 1
    apply Array.ext_getElem?
    intro j
    by_cases hj : j < n <;> simp [madeCells, Value.cells, hj, Nat.mod_one]
end Go.Proofs.YtfemgkamgokjcaaDoor
/- The layer's example; which records are small. -/
set_option maxRecDepth 100000
namespace Go.Proofs.YtfemgkamgokjcaaDoor
open Go Go.RowKit

attribute [-go_sem] Sha.exec_store
theorem below_newA (w : World) (o : Obj) : Below w.heap.size w (w.alloc o) := (Below.refl _ _).alloc (Nat.le_refl _) _
theorem bsR0 (w : World) : (bsT 52 0 #[]).run Tryd.prog w = .ok (.value (.slice (some ⟨w.heap.size, 0, none⟩) 0 0)) (w.alloc (.cells #[] 27)) := by kernel_rfl
theorem zb_sl (w : World) (n : Nat) : Sl (w.alloc (.cells (zb n) 5)) (some ⟨w.heap.size, 0, none⟩) (List.replicate n 0#8) := by
  refine Sl.row (g := fun _ => B 0#8) (Row.new w 5 n _) (by simp) fun j hj => ?_
  simp at hj
  simp [List.getD_eq_getElem?_getD, hj]
section
attribute [local go_sem ↓] exec_make
set_option maxRecDepth 100000 in
set_option maxHeartbeats 2000000 in
theorem awake10 (w : World) : Calls Tryd.prog 5 #[] w fun e w' => e = .returned (.bool true) ∧ Below w.heap.size w w' := by
  obtain ⟨W, hW⟩ : ∃ W, w.alloc (.cells (zb 257) 5) = W := ⟨_, rfl⟩
  have hB : Below w.heap.size w W := by rw [← hW]; exact (Below.refl _ _).alloc (Nat.le_refl _) _
  have HC := Lib.hid (cut_any10 (List.replicate 257 0#8) (some ⟨w.heap.size, 0, none⟩) 257 257 W (by simp) (by rw [← hW]; exact zb_sl w 257) (fun h => by cases h) (Nat.le_refl _) (by decide))
  have HB := Lib.hid hB
  have HW := Lib.hid hW
  have hmk : ∀ u, (mkT 27 (.int .i64 257) (.int .i64 257)).run Tryd.prog u = .ok (.value (.slice (some ⟨u.heap.size, 0, none⟩) 257 257)) (u.alloc (.cells (zb 257) 5)) := fun u => mkB 257 u (by decide)
  clear hB hW
  go_enter Tryd.func5, Tryd.ntmps5
  go_wp2_with fail
  rw [HW.out]
  refine HC.out.mono ?_
  rintro e w2 ⟨v, rfl, hH, hB2⟩
  obtain ⟨hs, p, cap, hv, hl, hls, hp, hcap, hrows, -⟩ := hH.open
  have hlen : ((List.range (nblk 257)).map (blkL (List.replicate 257 0#8))).length = 2 := by simp; rfl
  obtain ⟨c0, o0, q0, d0, e0, x0, -, -⟩ := hrows.cell hls 0 (by rw [hlen]; decide)
  obtain ⟨c1, o1, q1, d1, e1, x1, -, -⟩ := hrows.cell hls 1 (by rw [hlen]; decide)
  have g0 : (((List.range (nblk 257)).map (blkL (List.replicate 257 0#8))).getD 0 []).length = 256 := by show (blkL (List.replicate 257 0#8) 0).length = 256; rw [blkL_len]; simp; rfl
  have g1 : (((List.range (nblk 257)).map (blkL (List.replicate 257 0#8))).getD 1 []).length = 1 := by show (blkL (List.replicate 257 0#8) 1).length = 1; rw [blkL_len]; simp; rfl
  rw [g0, Nat.add_zero] at x0
  rw [g1] at x1
  rw [hlen] at hv hcap
  subst hv
  subst e0
  injection e1 with e1
  injection e1 with e1 e2
  subst e1 e2
  have HBB := Lib.hid (HB.out.trans (hB2.mono HB.out.size))
  clear hrows hls hp hH hB2 g0 g1 hlen hl
  go_wp2
  go_ret
  exact ⟨rfl, HBB.out⟩
end
attribute [local go_sem ↓] exec_boxM
attribute [local go_sem] boxM
set_option maxRecDepth 100000 in
set_option maxHeartbeats 2000000 in
theorem small10_any (r : Rc) (w : World) : Calls Tryd.prog 16 #[rcV r] w fun e w' => e = .returned (.bool (decide (r.path.length ≤ 200) && decide (r.n ≤ 100))) ∧ Below w.heap.size w w' := by
  obtain ⟨W, hW⟩ : ∃ W, w.alloc (.cells (tab 54 (rcF r)) 26) = W := ⟨_, rfl⟩
  have hR : Row W w.heap.size 26 54 (rcF r) := by rw [← hW]; exact Row.new w _ 54 (rcF r)
  have HB := Lib.hid (show Below w.heap.size w W from by rw [← hW]; exact (Below.refl _ _).alloc (Nat.le_refl _) _)
  have l1 := rc_path hR
  have l2 := rc_blocks hR
  have hsz := mkS_size r.path
  have hbx : (bxT 26 (rcV r)).run Tryd.prog w = .ok (.value (.pointer (some ⟨w.heap.size, 0, none⟩))) W := by rw [← hW]; exact boxM w r
  obtain ⟨V, hV⟩ : ∃ V, rcV r = V := ⟨_, rfl⟩
  rw [hV] at hbx ⊢
  clear hR hW hV
  obtain ⟨p, s, t, c, f, d, wh, q, n, cap⟩ := r
  dsimp only at *
  by_cases h1 : p.length ≤ 200
  · have z1 : (p.length : Int) ≤ 200 := by omega
    have d1 : decide ((p.length : Int) ≤ 200) = true := decide_eq_true z1
    by_cases h2 : n ≤ 100
    · have z2 : (n : Int) ≤ 100 := by omega
      have d2 : decide ((n : Int) ≤ 100) = true := decide_eq_true z2
      have HH := Lib.hid (show (decide (p.length ≤ 200) && decide (n ≤ 100)) = true from by simp [h1, h2])
      clear h1 h2
      go_enter Tryd.func16, Tryd.ntmps16
      go_wp2
      go_ret
      exact ⟨by rw [HH.out]; rfl, HB.out⟩
    · have z2 : ¬ (n : Int) ≤ 100 := by omega
      have d2 : decide ((n : Int) ≤ 100) = false := decide_eq_false z2
      have HH := Lib.hid (show (decide (p.length ≤ 200) && decide (n ≤ 100)) = false from by simp [h2])
      clear h1 h2
      go_enter Tryd.func16, Tryd.ntmps16
      go_wp2
      go_ret
      exact ⟨by rw [HH.out]; rfl, HB.out⟩
  · have z1 : ¬ (p.length : Int) ≤ 200 := by omega
    have d1 : decide ((p.length : Int) ≤ 200) = false := decide_eq_false z1
    have HH := Lib.hid (show (decide (p.length ≤ 200) && decide (n ≤ 100)) = false from by simp [h1])
    clear h1
    go_enter Tryd.func16, Tryd.ntmps16
    go_wp2
    go_ret
    exact ⟨by rw [HH.out]; rfl, HB.out⟩
end Go.Proofs.YtfemgkamgokjcaaDoor
/- What the statements' arguments read as, in the walks' words. -/
set_option maxRecDepth 100000
namespace Go.Proofs.YtfemgkamgokjcaaDoor
open Go Go.ChangeShapes Go.WideShapes Go.ChangeAt Go.RowKit
attribute [-go_sem] Sha.exec_store

theorem own : ownKnob Tryd.prog.godebug = none := by kernel_rfl
theorem laidOut : laidOutB Tryd.prog = true := by kernel_rfl
theorem cellsByte : Tryd.prog.cellsOf 5 = 1 := by kernel_rfl
theorem undByte : Tryd.prog.underlying 5 = some (.int .u8) := by kernel_rfl
theorem undBytes : Tryd.prog.underlying 27 = some (.slice 5) := by kernel_rfl
/-- The bytes of a slice of numbers. -/
def bytesOf (zs : List Int) : List (BitVec 8) := zs.map fun z => BitVec.ofInt 8 z
theorem B_ofInt {z : Int} (h : (Lit.int .u8 z).wf = true) : B (BitVec.ofInt 8 z) = .int .u8 z := by
  have := bounds_u8 h
  rw [B_eq']
  congr 1
  rw [BitVec.toNat_ofInt]
  omega
theorem Sl_of_ints {W : World} {a : Addr} {len : Nat} {zs : List Int} (hz : len ≤ zs.length) (hc : ∀ i, i < zs.length → W.cell? (a.add i) = some (.int .u8 (zs.getD i 0))) (hw : ∀ n ∈ zs, (Lit.int .u8 n).wf = true) :
    Sl W (some a) (bytesOf (zs.take len)) := fun j hj => by
  have hj' : j < len := by simp [bytesOf] at hj; omega
  have h0 := hc 0 (by omega)
  rw [Addr.add_zero'] at h0
  have hs : a.spot = none := by
    cases h : a.spot with
    | none => rfl
    | some s =>
      unfold World.cell? at h0
      split at h0
      · simp [h] at h0
      · cases h0
  obtain ⟨c, o, sp⟩ := a
  obtain rfl : sp = none := hs
  refine ⟨c, o, rfl, ?_⟩
  have hj2 := hc j (by omega)
  rw [Addr.add_mid] at hj2
  rw [hj2]
  have hjz : j < zs.length := by omega
  have e : (bytesOf (zs.take len)).getD j 0#8 = BitVec.ofInt 8 zs[j] := by
    simp [bytesOf, List.getD_eq_getElem?_getD, hj', hjz]
  rw [e, B_ofInt (hw _ (List.getElem_mem hjz))]
  simp [List.getD_eq_getElem?_getD, hjz]
theorem bytesOf_length (zs : List Int) : (bytesOf zs).length = zs.length := by simp [bytesOf]
/-- An argument that is a slice of bytes. -/
theorem open_bytes {H : Type} {enc : TypeId × Value → H} {W : World} {a0 : Option Addr} {len cap : Nat} {d : DataW H} {ps : List MemPlace}
    (h : DataW.Trod enc Tryd.prog W 0 (fun _ => true) true 27 (.slice a0 len cap) d ps) : ∃ l : List (BitVec 8), Sl W a0 l ∧ l.length = len ∧ (a0 = none → cap = 0) := by
  obtain ⟨fuel, hfu⟩ := h
  rcases open_ints undBytes undByte cellsByte hfu with ⟨hcs, _⟩ | ⟨a, len', cap', zs, hcs, _, hl, hm, hz, hx, hcell, hwz⟩
  · simp [Value.cells] at hcs
    obtain ⟨rfl, rfl, rfl⟩ := hcs
    exact ⟨[], fun j hj => absurd hj (by simp), rfl, fun _ => rfl⟩
  · simp [Value.cells] at hcs
    obtain ⟨rfl, rfl, rfl⟩ := hcs
    have hzl : len ≤ zs.length := by rw [hz]; split <;> omega
    have hln : (bytesOf (zs.take len)).length = len := by rw [bytesOf_length, List.length_take]; omega
    exact ⟨bytesOf (zs.take len), Sl_of_ints hzl hcell hwz, hln, fun h => by cases h⟩
end Go.Proofs.YtfemgkamgokjcaaDoor
/- An argument that is an array of 16 ints, in the walks' words. -/
set_option maxRecDepth 100000
namespace Go.Proofs.YtfemgkamgokjcaaDoor
open Go Go.ChangeShapes Go.WideShapes Go.ChangeAt Go.RowKit
attribute [-go_sem] Sha.exec_store

theorem cellsInt9 : Tryd.prog.cellsOf 3 = 1 := by kernel_rfl
theorem cellsArr9 : Tryd.prog.cellsOf 22 = 16 := by kernel_rfl
/-- The number in a cell. -/
def intIn : Option Value → Int
  | some (.int _ a) => a
  | _ => 0
theorem open_arr16 {H : Type} {enc : TypeId × Value → H} {W : World} {r : _root_.Go.Reach} {b0 : Nat} {v : Value} {d : DataW H} {ps : List MemPlace} (hval : Value.okWide Tryd.prog W r b0 22 v)
    (h : DataW.Trod enc Tryd.prog W 0 (fun _ => true) true 22 v d ps) : ∃ f : Nat → Int, v = vcV f ∧ ps = [] := by
  simp only [Value.okWide, vtA.und] at hval
  obtain ⟨cs, rfl, hsz, -⟩ := hval
  rw [cellsArr9] at hsz
  obtain ⟨fuel, hf⟩ := h
  obtain ⟨xs, m, -, hx, hl, hn, hi⟩ := DataW.trod_array vtA.und hf
  rw [cellsInt9] at hi
  have hc : ((Value.agg cs).cells.toList) = cs.toList := rfl
  rw [hc] at hi
  have key : ∀ i, i < 16 → ∃ a y, cs[i]? = some (.int .i64 a) ∧ xs[i]? = some y ∧ y.2 = [] := fun i h16 => by
    have e0 := hi i h16
    have hxi : xs[i]? = some (xs[i]'(by omega)) := List.getElem?_eq_getElem (by omega)
    rw [hxi] at e0
    obtain ⟨a, ha, hy, -⟩ := DataW.trod_int undInt e0
    refine ⟨a, _, ?_, hxi, by rw [hy]⟩
    rw [Nat.mul_one] at ha
    have : (cs.toList.drop i)[0]? = some (.int .i64 a) := by
      have h1 : ((cs.toList.drop i).take 1)[0]? = some (.int .i64 a) := by rw [ha]; rfl
      rw [List.getElem?_take] at h1
      simpa using h1
    rw [List.getElem?_drop, Nat.add_zero] at this
    simpa using this
  refine ⟨fun i => intIn cs[i]?, ?_, ?_⟩
  · unfold vcV
    congr 1
    apply Array.ext_getElem?
    intro j
    by_cases hj : j < 16
    · obtain ⟨a, y, e, -, -⟩ := key j hj
      rw [tab_get 16 _ j hj, e]
      show some (Value.int .i64 a) = some (Value.int .i64 (intIn cs[j]?))
      rw [e]
      rfl
    · rw [Array.getElem?_eq_none (by omega), Array.getElem?_eq_none (by rw [tab_size]; omega)]
  · simp only [Prod.mk.injEq] at hx
    rw [hx.2, List.flatMap_eq_nil_iff]
    intro y hy
    obtain ⟨i, hi16, rfl⟩ := List.getElem_of_mem hy
    obtain ⟨a, y, -, e, e2⟩ := key i (by omega)
    rw [List.getElem?_eq_getElem hi16] at e
    injection e with e
    rw [e]
    exact e2
end Go.Proofs.YtfemgkamgokjcaaDoor
/- What the statements' strings read as, in the walks' words. -/
set_option maxRecDepth 100000
namespace Go.Proofs.YtfemgkamgokjcaaDoor
open Go Go.ChangeShapes Go.WideShapes Go.ChangeAt Go.RowKit
attribute [-go_sem] Sha.exec_store

theorem open_str {H : Type} {enc : TypeId × Value → H} {W : World} {r : Reach} {base : Nat} {v : Value} {d : DataW H} {ps : List MemPlace} (hv : Value.okWide Tryd.prog W r base 9 v)
    (h : DataW.Trod enc Tryd.prog W 0 (fun _ => true) true 9 v d ps) : ∃ s : ByteArray, v = .string s ∧ d = .lit (.string s.data.toList) ∧ ps = [] := by
  obtain ⟨s, rfl⟩ := okWide_string strT hv
  obtain ⟨fuel, hf⟩ := h
  obtain ⟨s', h1, h2, h3⟩ := DataW.trod_string strT hf
  simp [Value.cells] at h1
  subst h1
  injection h2 with h4 h5
  exact ⟨s, rfl, h4, h5⟩
end Go.Proofs.YtfemgkamgokjcaaDoor
