/- Merged texts: Rby10, Prb10, Plb10, Get11, Set11, Mkc8, Rdk8, Usd8. -/
import Derived.Deep.RegionHeld3
import Derived.Test.YtkajeepbelfpiaaGreatDoorKT2
import Derived.Test.YtkajeepbelfpiaaGreatDoorKT4
import Derived.Test.YtkajeepbelfpiaaGreatDoorKT6
import Derived.Test.YtkajeepbelfpiaaGreatDoorKT7
import Derived.Test.YtkajeepbelfpiaaGreatDoorKT3
set_option linter.unusedSimpArgs false
set_option linter.unusedVariables false
/- The reference's bytes of a record. -/
set_option maxRecDepth 100000
namespace Go.Proofs.YtkajeepbelfpiaaGreatDoor
open Go Go.RowKit

attribute [-go_sem] Sha.exec_store
theorem sl_arrO (E o : Nat) (w : World) : (slT 41 (.pointer (some ⟨E, o, none⟩)) none none none).run Tryz.prog w = .ok (.value (.slice (some ⟨E, o, none⟩) 32 32)) w := by
  first
  | kernel_rfl
  | (unfold slT; simp [go_sem, Instr.sliceAt])
attribute [local go_sem ↓] exec_boxA exec_loadA exec_indexA exec_allocA exec_storeA exec_buildA exec_eqlA exec_neqA exec_boxV exec_loadV exec_indexV exec_allocV exec_storeV exec_buildV exec_eqlV exec_neqV
attribute [local go_sem] boxA indexA storeNewA buildA eqlA neqA boxV indexV storeNewV buildV eqlV neqV

attribute [local go_sem ↓] exec_boxM exec_load32 exec_alloc32 exec_store32F exec_slice exec_bs
attribute [local go_sem] boxM bsb1 sl_arrO st_dig
end Go.Proofs.YtkajeepbelfpiaaGreatDoor
/- What record.Parse tells of the bytes of a record. -/
set_option maxRecDepth 100000
namespace Go.Proofs.YtkajeepbelfpiaaGreatDoor
open Go Go.RowKit
attribute [-go_sem] Sha.exec_store

/-- The record that the program keeps of a record, its blocks' digests gone if it is deleted. -/
def Rc.cut (r : Rc) : Rc := if r.dead then { r with whole := z32, q := none, n := 0, cap := 0 } else r
def Rc.text (r : Rc) (ds : List By) : RcT := ⟨pB r.path, r.size.toNat, r.time.toNat, r.chg.toNat, r.ver, r.dead, r.whole, ds⟩
theorem text_W {w : World} {r : Rc} {ds : List By} (h : DgAt w r ds) (hp : r.path.length ≤ 100) (hn : r.n ≤ 64) (hs : 0 ≤ r.size ∧ r.size < 9223372036854775808) (ht : 0 ≤ r.time ∧ r.time < 9223372036854775808) (hc : 0 ≤ r.chg ∧ r.chg < 9223372036854775808) (hf : ∀ i, i < 16 → 0 ≤ r.ver i ∧ r.ver i ≤ 1099511627776) : RcW (r.text ds) :=
  ⟨by show (pB r.path).length ≤ 100; rw [pB_len]; exact hp, by show r.size.toNat < _; omega, by show r.time.toNat < _; omega, by show r.chg.toNat < _; omega, hf, fun _ => h.whole, fun _ => by have := h.n; show ds.length ≤ 64; omega, fun _ => h.each⟩
theorem DgAt.ver {w : World} {r : Rc} {ds : List By} {g : Nat → Int} (h : DgAt w { r with ver := g } ds) : DgAt w r ds := ⟨h.n, h.lie, h.each, h.nil, h.le, h.whole⟩
theorem encRc_len {r : RcT} (h : RcW r) : (encRc r).length ≤ 9000 ∧ 32 ≤ (encRc r).length := by
  obtain ⟨h1, h2, h3, h4, h5, h6, h7, h8⟩ := h
  obtain ⟨path, size, time, chg, ver, dead, whole, ds⟩ := r
  dsimp only at *
  have p9 : (128 : Nat) ^ 9 = 9223372036854775808 := by decide
  have k1 := enc7_len 8 path.length (by rw [p9]; omega)
  have k2 := enc7_len 8 size (by rw [p9]; exact h2)
  have k3 := enc7_len 8 time (by rw [p9]; exact h3)
  have k4 := enc7_len 8 chg (by rw [p9]; exact h4)
  have k5 := encV_len h5
  unfold encRc bodyRc
  dsimp only
  cases dead with
  | true =>
    rw [if_pos rfl]
    simp only [List.length_append, List.length_cons, List.length_nil, digL_len]
    omega
  | false =>
    rw [if_neg (by simp)]
    have k6 := h6 rfl
    have k7 := h7 rfl
    have k8 := enc7_len 8 ds.length (by rw [p9]; omega)
    simp only [List.length_append, List.length_cons, List.length_nil, digL_len, flat_len32 (h8 rfl)]
    omega
end Go.Proofs.YtkajeepbelfpiaaGreatDoor
/- Plain facts of records that are in order. -/
set_option maxRecDepth 100000
namespace Go.Proofs.YtkajeepbelfpiaaGreatDoor
open Go Go.RowKit
attribute [-go_sem] Sha.exec_store

theorem kind3_len {p : S8} (h : kindL p = 3) : p.length ≤ 100 := by
  unfold kindL at h
  split at h
  · rename_i hg
    unfold goodL at hg
    simp only [Bool.and_eq_true, decide_eq_true_eq] at hg
    exact hg.1
  · cases h
/-- What holds of a record that is in order. -/
theorem goodR_facts {r : Rc} (h : goodR r = true) : r.path.length ≤ 100 ∧ (0 ≤ r.size ∧ r.size ≤ 16384) ∧ 0 ≤ r.time ∧ 0 ≤ r.chg ∧ gdV r.ver = true ∧ r.n = nblk r.size.toNat ∧ (r.dead = true → r.size = 0 ∧ deq r.whole z32 = true) := by
  unfold goodR at h
  simp only [Bool.and_eq_true, decide_eq_true_eq, Bool.or_eq_true] at h
  obtain ⟨h1, h2, h3⟩ := h
  obtain ⟨k1, k2, k3⟩ := rfE_zero h1
  have k4 := okS_iff.1 k2
  unfold okV at k3
  simp only [Bool.and_eq_true] at k3
  refine ⟨kind3_len k1, ⟨k4.1, k4.2.1⟩, k4.2.2.1, k4.2.2.2, k3.1, h2, fun hd => ?_⟩
  rcases h3 with h4 | h4
  · rw [hd] at h4; cases h4
  · exact h4
theorem goodR_n {r : Rc} (h : goodR r = true) : r.n ≤ 64 := by
  obtain ⟨-, h2, -, -, -, h6, -⟩ := goodR_facts h
  rw [h6]
  unfold nblk
  omega
end Go.Proofs.YtkajeepbelfpiaaGreatDoor
/- (*archive.Archive).Get, Copy. -/
set_option maxRecDepth 100000
namespace Go.Proofs.YtkajeepbelfpiaaGreatDoor
open Go Go.RowKit

attribute [-go_sem] Sha.exec_store
def findA (es : List Ent) (p : S8) : Option Ent := es.find? fun e => e.1.path == p
theorem findA_V (es : List Ent) (p : S8) : findV (es.map entA) p = (findA es p).map fun e => rcV e.1 := by
  unfold findV findA
  induction es with
  | nil => rfl
  | cons e l ih =>
    rw [List.map_cons, List.find?_cons, List.find?_cons]
    show Option.map _ (match (e.1.path == p) with | true => some (entA e) | false => _) = _
    cases h : (e.1.path == p)
    · exact ih
    · rfl
theorem findA_in {es : List Ent} {p : S8} {e : Ent} (h : findA es p = some e) : e ∈ es ∧ e.1.path = p := by
  unfold findA at h
  exact ⟨List.mem_of_find?_eq_some h, by simpa using List.find?_some h⟩
theorem zeroRc (w : World) : (zeroValue 44).run Tryz.prog w = .ok (rcV rc0) w := by
  have h := (zero_of_info rtP.info).1 w
  rw [rz] at h
  unfold rcV
  exact h
section
variable {w : World} {b mb : Nat} {gen : Int} {es : List Ent}
attribute [local go_sem ↓] exec_boxP exec_allocP exec_storeP exec_loadP
attribute [local go_sem] boxP
set_option maxRecDepth 100000 in
set_option maxHeartbeats 4000000 in
theorem copy_any (h : ArAt w b mb gen es) : Calls Tryz.prog 11 #[.pointer (some ⟨b, 0, none⟩)] w fun e w' => ∃ b2 m2, e = .returned (.pointer (some ⟨b2, 0, none⟩)) ∧ ArAt w' b2 m2 gen es ∧ Below w.heap.size w w' ∧ w.heap.size ≤ b2 ∧ w.heap.size ≤ m2 := by
  obtain ⟨ms, clock, hm⟩ := h.map.is
  have h0 := h.of_below (Below.refl _ _).drew
  have hm0 : w.drew.heap[mb]? = some (.map ms clock) := hm
  have hcp := h0.map.copied ms clock hm0
  have z1 : (w.drew.alloc (.map ms clock)).heap.size = w.heap.size + 1 := World.size_alloc _ _
  have hB1 : Below w.heap.size w (w.drew.alloc (.map ms clock)) := (Below.refl _ _).drew.alloc (Nat.le_refl _) _
  have HX1 := Lib.hid hB1
  have HX2 := Lib.hid (show Below w.heap.size w ((w.drew.alloc (.map ms clock)).alloc (.cells #[.int .i64 gen, .map (some w.heap.size)] 108)) from hB1.alloc hB1.size _)
  have HFIN := Lib.hid (show ArAt ((w.drew.alloc (.map ms clock)).alloc (.cells #[.int .i64 gen, .map (some w.heap.size)] 108)) (w.heap.size + 1) w.heap.size gen es from by
    have hb := World.alloc_heap_new (w.drew.alloc (.map ms clock)) (.cells #[.int .i64 gen, .map (some w.heap.size)] 108)
    rw [z1] at hb
    have hBB : Below (w.drew.alloc (.map ms clock)).heap.size (w.drew.alloc (.map ms clock)) ((w.drew.alloc (.map ms clock)).alloc (.cells #[.int .i64 gen, .map (some w.heap.size)] 108)) := (Below.refl _ _).alloc (Nat.le_refl _) _
    exact ⟨hb, hcp.of_below hBB, fun e he => (h.dg e he).of_below (hB1.alloc hB1.size _), h.good, h.inn, h.few⟩)
  have HNE := Lib.hid (show w.heap.size ≤ w.heap.size + 1 ∧ w.heap.size ≤ w.heap.size by omega)
  have HCL := Lib.hid (mapCloneA_any mb ms clock w.drew hm0)
  have HS := Lib.hid (fun (u : World) (hu : Below w.heap.size w u) => (show u.cell? ⟨b, 0, none⟩ = some (.int .i64 gen) ∧ u.cell? ⟨b, 1, none⟩ = some (.map (some mb)) ∧ Below w.heap.size w u from ⟨by rw [hu.cell (by exact h.lt)]; exact h.cell0, by rw [hu.cell (by exact h.lt)]; exact h.cell1, hu⟩))
  clear h h0 hm hm0 hcp z1 hB1
  go_enter Tryz.func11, Tryz.ntmps11
  go_wp2
  refine wp_region_noPanic ?_
  refine wp_region_held_drew (S := (fun u : World => u.cell? ⟨b, 0, none⟩ = some (.int .i64 gen) ∧ u.cell? ⟨b, 1, none⟩ = some (.map (some mb)) ∧ Below w.heap.size w u)) (by kernel_rfl) (HS.out _ (Below.refl _ _).drew) (fun hHeld => ?_)
  refine wpAnyH_take (i := 0) (v := ?_) (by simp only [List.getElem?_toArray, List.getElem?_cons_succ, List.getElem?_cons_zero]; exact rfl) (by kernel_rfl) (by kernel_rfl) (by kernel_rfl) (fun _ _ _ h => h) (Or.inl ⟨by rfl, ?_⟩) (by assumption) ?_
  rotate_left 1
  · (intro w hSw; (try dsimp only at hSw); go_simp; try with_reducible rfl)
  try simp only [Act.put, List.setIfInBounds_toArray, List.set_cons_zero, List.set_cons_succ]
  refine wpAnyH_take (i := 1) (v := ?_) (by simp only [List.getElem?_toArray, List.getElem?_cons_succ, List.getElem?_cons_zero]; exact rfl) (by kernel_rfl) (by kernel_rfl) (by kernel_rfl) (fun _ _ _ h => h) (Or.inl ⟨by rfl, ?_⟩) (by assumption) ?_
  rotate_left 1
  · (intro w hSw; (try dsimp only at hSw); go_simp; try with_reducible rfl)
  try simp only [Act.put, List.setIfInBounds_toArray, List.set_cons_zero, List.set_cons_succ]
  refine wpAnyH_take (i := 2) (v := ?_) (by simp only [List.getElem?_toArray, List.getElem?_cons_succ, List.getElem?_cons_zero]; exact rfl) (by kernel_rfl) (by kernel_rfl) (by kernel_rfl) (fun _ _ _ h => h) (Or.inl ⟨by rfl, ?_⟩) (by assumption) ?_
  rotate_left 1
  · (intro w hSw; (try dsimp only at hSw); go_simp; try with_reducible rfl)
  try simp only [Act.put, List.setIfInBounds_toArray, List.set_cons_zero, List.set_cons_succ]
  refine wpAnyH_take (i := 3) (v := ?_) (by simp only [List.getElem?_toArray, List.getElem?_cons_succ, List.getElem?_cons_zero]; exact rfl) (by kernel_rfl) (by kernel_rfl) (by kernel_rfl) (fun _ _ _ h => h) (Or.inl ⟨by rfl, ?_⟩) (by assumption) ?_
  rotate_left 1
  · (intro w hSw; (try dsimp only at hSw); go_simp; try with_reducible rfl)
  try simp only [Act.put, List.setIfInBounds_toArray, List.set_cons_zero, List.set_cons_succ]
  refine wpAnyH_take (i := 4) (v := ?_) (by simp only [List.getElem?_toArray, List.getElem?_cons_succ, List.getElem?_cons_zero]; exact rfl) (by kernel_rfl) (by kernel_rfl) (by kernel_rfl) (fun _ _ _ h => h) (Or.inl ⟨by rfl, ?_⟩) (by assumption) ?_
  rotate_left 1
  · (intro w hSw; (try dsimp only at hSw); go_simp; try with_reducible rfl)
  try simp only [Act.put, List.setIfInBounds_toArray, List.set_cons_zero, List.set_cons_succ]
  refine wpAnyH_take (i := 5) (v := ?_) (by simp only [List.getElem?_toArray, List.getElem?_cons_succ, List.getElem?_cons_zero]; exact rfl) (by kernel_rfl) (by kernel_rfl) (by kernel_rfl) (fun _ _ _ h => h) (Or.inl ⟨by rfl, ?_⟩) (by assumption) ?_
  rotate_left 1
  · (intro w hSw; (try dsimp only at hSw); go_simp; try with_reducible rfl)
  try simp only [Act.put, List.setIfInBounds_toArray, List.set_cons_zero, List.set_cons_succ]
  refine wpAnyH_take (i := 6) (v := ?_) (by simp only [List.getElem?_toArray, List.getElem?_cons_succ, List.getElem?_cons_zero]; exact rfl) (by kernel_rfl) (by kernel_rfl) (by kernel_rfl) (fun _ _ _ h => h) (Or.inl ⟨by rfl, ?_⟩) (by assumption) ?_
  rotate_left 1
  · (intro w hSw; (try dsimp only at hSw); go_simp; try with_reducible rfl)
  try simp only [Act.put, List.setIfInBounds_toArray, List.set_cons_zero, List.set_cons_succ]
  refine wpAnyH_take (i := 7) (v := ?_) (by simp only [List.getElem?_toArray, List.getElem?_cons_succ, List.getElem?_cons_zero]; exact rfl) (by kernel_rfl) (by kernel_rfl) (by kernel_rfl) (fun _ _ _ h => h) (Or.inl ⟨by rfl, ?_⟩) (by assumption) ?_
  rotate_left 1
  · (intro w hSw; (try dsimp only at hSw); go_simp; try with_reducible rfl)
  try simp only [Act.put, List.setIfInBounds_toArray, List.set_cons_zero, List.set_cons_succ]
  refine wpAnyH_ready (rs := [8]) (by kernel_rfl) (by simp) ?_
  refine (AllReadyH.cons (by simp only [List.getElem?_toArray, List.getElem?_cons_succ, List.getElem?_cons_zero]; exact rfl) (fun K hK => ?_) AllReadyH.nil)
  go_simp
  refine HCL.out.mono ?_
  rintro e v2 ⟨rfl, rfl⟩
  refine hK.out _ _ (HS.out _ (HX1.out)) (fun hHeld => ?_)
  clear hK K
  try simp only [Act.put, List.setIfInBounds_toArray, List.set_cons_zero, List.set_cons_succ]
  refine wpAnyH_take (i := 9) (v := ?_) (by simp only [List.getElem?_toArray, List.getElem?_cons_succ, List.getElem?_cons_zero]; exact rfl) (by kernel_rfl) (by kernel_rfl) (by kernel_rfl) (fun _ _ _ h => h) (Or.inl ⟨by rfl, ?_⟩) (by assumption) ?_
  rotate_left 1
  · (intro w hSw; (try dsimp only at hSw); go_simp; try with_reducible rfl)
  try simp only [Act.put, List.setIfInBounds_toArray, List.set_cons_zero, List.set_cons_succ]
  refine wpAnyH_ready (rs := [10]) (by kernel_rfl) (by simp) ?_
  refine (AllReadyH.cons (by simp only [List.getElem?_toArray, List.getElem?_cons_succ, List.getElem?_cons_zero]; exact rfl) (fun K hK => ?_) AllReadyH.nil)
  go_simp
  refine hK.out _ _ (HS.out _ (HX2.out)) (fun hHeld => ?_)
  clear hK K
  try simp only [Act.put, List.setIfInBounds_toArray, List.set_cons_zero, List.set_cons_succ]
  refine wpAnyH_take (i := 11) (v := ?_) (by simp only [List.getElem?_toArray, List.getElem?_cons_succ, List.getElem?_cons_zero]; exact rfl) (by kernel_rfl) (by kernel_rfl) (by kernel_rfl) (fun _ _ _ h => h) (Or.inl ⟨by rfl, ?_⟩) (by assumption) ?_
  rotate_left 1
  · (intro w hSw; (try dsimp only at hSw); go_simp; try with_reducible rfl)
  try simp only [Act.put, List.setIfInBounds_toArray, List.set_cons_zero, List.set_cons_succ]
  refine wpAnyH_done (by kernel_rfl) ?_ _
  refine NoPanic.normal ?_
  clear hHeld
  go_wp2
  go_ret
  exact ⟨_, _, rfl, HFIN.out, HX2.out, HNE.out⟩
end
end Go.Proofs.YtkajeepbelfpiaaGreatDoor
/- (*archive.Archive).Drop, Set. -/
set_option maxRecDepth 100000
namespace Go.Proofs.YtkajeepbelfpiaaGreatDoor
open Go Go.RowKit

attribute [-go_sem] Sha.exec_store
def delA (es : List Ent) (p : S8) : List Ent := es.filter fun e => e.1.path != p
def setA (es : List Ent) (e : Ent) : List Ent := e :: delA es e.1.path
theorem delA_V (es : List Ent) (p : S8) : (delA es p).map entA = delV (es.map entA) p := by
  unfold delA delV
  rw [List.filter_map]
  rfl
theorem setA_V (es : List Ent) (e : Ent) : (setA es e).map entA = putV (es.map entA) e.1.path (rcV e.1) := by
  unfold setA putV
  rw [List.map_cons, delA_V]
  rfl
theorem kp_grown {w w' : World} {mb : Nat} (h : w.grownBy w' (some mb)) : Kp mb w w' :=
  ⟨h.os, h.tape, h.output, h.size, fun k hk hne => h.block k hk (by simpa using hne)⟩
section
variable {w : World} {b mb : Nat} {gen : Int} {es : List Ent}
theorem ArAt.put {w' : World} {r : Rc} {ds : List By} (h : ArAt w b mb gen es) (hM : MpB w' mb (putV (es.map entA) r.path (rcV r))) (hk : Kp mb w w') (hd : DgAt w' r ds) (hg : goodR r = true) (hi : r.time < 9223372036854775808 ∧ r.chg < 9223372036854775808) (hf : findA es r.path = none → es.length < 128) : ArAt w' b mb gen (setA es (r, ds)) := by
  refine ⟨(hk.block b h.lt h.ne).trans h.box, by rw [setA_V]; exact hM, fun e he => ?_, fun e he => ?_, fun e he => ?_, ?_⟩
  · rcases List.mem_cons.1 he with rfl | he
    · exact hd
    · exact (h.dg e (List.mem_filter.1 he).1).kp_map h.map.is hk
  · rcases List.mem_cons.1 he with rfl | he
    · exact hg
    · exact h.good e (List.mem_filter.1 he).1
  · rcases List.mem_cons.1 he with rfl | he
    · exact hi
    · exact h.inn e (List.mem_filter.1 he).1
  · unfold setA
    rw [List.length_cons]
    cases hf' : findA es r.path with
    | none =>
      have h1 := List.length_filter_le (fun e : Ent => e.1.path != r.path) es
      have h2 := hf hf'
      unfold delA
      dsimp only
      omega
    | some e =>
      have hin := findA_in hf'
      have h1 : (delA es r.path).length < es.length := by
        unfold delA
        refine List.length_filter_lt_length_iff_exists.2 ⟨e, hin.1, ?_⟩
        simp [hin.2]
      have h2 := h.few
      dsimp only
      omega
attribute [local go_sem ↓] exec_boxP exec_allocP exec_storeP exec_loadP
attribute [local go_sem] boxP
/-- What Set does. -/
def SetR (w : World) (b mb : Nat) (gen : Int) (es : List Ent) (r : Rc) (ds : List By) (e : Ending) (w' : World) : Prop :=
  if goodR r = false then e = .returned (.int .i64 1) ∧ ArAt w' b mb gen es ∧ Kp mb w w'
  else if findA es r.path = none ∧ 128 ≤ es.length then e = .returned (.int .i64 14) ∧ ArAt w' b mb gen es ∧ Kp mb w w'
  else e = .returned (.int .i64 0) ∧ ∃ q c, ArAt w' b mb gen (setA es (r.mov q c, ds)) ∧ Kp mb w w' ∧ ∀ cc oo, q = some ⟨cc, oo, none⟩ → w.heap.size ≤ cc
set_option maxRecDepth 100000 in
set_option maxHeartbeats 8000000 in
theorem set_any (h : ArAt w b mb gen es) (r : Rc) (ds : List By) (hD : DgAt w r ds) (hp : r.path.length < 100000) (hn : ds.length < 100000) (hin : r.time < 9223372036854775808 ∧ r.chg < 9223372036854775808) :
    Calls Tryz.prog 20 #[.pointer (some ⟨b, 0, none⟩), rcV r] w (SetR w b mb gen es r ds) := by
  obtain ⟨b3, hb3⟩ : ∃ b, w.heap.size = b := ⟨_, rfl⟩
  obtain ⟨W1, hW1⟩ : ∃ W, w.alloc (.cells (tab 54 (rcF r)) 44) = W := ⟨_, rfl⟩
  have hB1 : Below w.heap.size w W1 := by rw [← hW1]; exact below_newD _ _
  have z1 : W1.heap.size = b3 + 1 := by rw [← hW1, ← hb3]; simp
  have hR3 : Row W1 b3 44 54 (rcF r) := by rw [← hb3, ← hW1]; exact Row.new w _ 54 _
  have x1 := boxP w r
  rw [hW1, hb3] at x1
  obtain ⟨tt, htt⟩ : ∃ t, (findA es r.path).isSome = t := ⟨_, rfl⟩
  obtain ⟨RO, hRO⟩ : ∃ RO : Rc, ((findA es r.path).map (·.1)).getD rc0 = RO := ⟨_, rfl⟩
  obtain ⟨VO, hVO⟩ : ∃ V, rcV RO = V := ⟨_, rfl⟩
  have hlk : ∀ u, Below W1.heap.size W1 u → (Instr.lookup 106 (.map (some mb)) (.string (mkS r.path)) true).run Tryz.prog u = .ok (.tuple #[VO, .bool tt]) u := fun u hu => by
    have hl := run_lookup8 (P := Tryz.prog) mapA strT (zeroRc u) ((h.of_below hB1).of_below hu).map r.path true
    rw [findA_V] at hl
    rw [hl, ← hVO, ← hRO, ← htt]
    cases findA es r.path <;> rfl
  have HS := Lib.hid (fun (u : World) (hu : Below W1.heap.size W1 u) => (show u.cell? ⟨b, 1, none⟩ = some (.map (some mb)) ∧ u.cell? ⟨b3, 0, none⟩ = some (.string (mkS r.path)) ∧ (Instr.lookup 106 (.map (some mb)) (.string (mkS r.path)) true).run Tryz.prog u = .ok (.tuple #[VO, .bool tt]) u ∧ Below W1.heap.size W1 u from ⟨((h.of_below hB1).of_below hu).cell1, rc_path (hR3.of_below hu), hlk u hu, hu⟩))
  have hXD : Below W1.heap.size W1 W1.drew := (Below.refl _ _).drew
  have HXD := Lib.hid hXD
  have HXA := Lib.hid (show Below W1.heap.size W1 (W1.alloc (.cells (tab 54 (rcF rc0)) 44)).drew from hXD.alloc (Nat.le_refl _) _)
  have hXB : Below W1.heap.size W1 (W1.alloc (.cells (tab 54 (rcF RO)) 44)).drew := hXD.alloc (Nat.le_refl _) _
  have hst : (stT 44 (.pointer (some ⟨W1.drew.heap.size, 0, none⟩)) (rcV RO)).run Tryz.prog (W1.alloc (.cells (tab 54 (rcF rc0)) 44)).drew = .ok .skip (W1.alloc (.cells (tab 54 (rcF RO)) 44)).drew := storeNewP W1.drew W1.drew.heap.size 44 (rcF rc0) RO rfl
  obtain ⟨W2, hW2⟩ : ∃ W, (W1.alloc (.cells (tab 54 (rcF RO)) 44)).drew = W := ⟨_, rfl⟩
  rw [hW2] at hXB hst
  have HXB := Lib.hid hXB
  rw [hVO] at hst
  have hzd : W1.drew.heap.size = b3 + 1 := z1
  rw [hzd] at hst
  have HR3 := Lib.hid hR3
  have HB1 := Lib.hid hB1
  have HA := Lib.hid h
  have HD := Lib.hid hD
  have HTT := Lib.hid htt
  have HZ := Lib.hid z1
  have HIN := Lib.hid hin
  have HGD := Lib.hid (fun u => good10_any r hp hD.whole u)
  have HSC := Lib.hid (fun u => strClone_any r.path u (by omega))
  have HRO := Lib.hid hRO
  obtain ⟨VP, hVP⟩ : ∃ V, rcV r = V := ⟨_, rfl⟩
  have HVP := Lib.hid hVP
  have HOW := Lib.hid (fun (u : World) (hu : DgAt u r ds) => own_any r ds u hu hn)
  rw [hVP] at x1 HGD HOW ⊢
  obtain ⟨gd, hgd⟩ : ∃ g, goodR r = g := ⟨_, rfl⟩
  rw [hgd] at HGD
  have HG := Lib.hid hgd
  clear hB1 hR3 hlk hXD hXB h hD htt hRO hVO hVP hgd hin hW1 hW2 z1
  go_enter Tryz.func20, Tryz.ntmps20
  go_wp2
  refine wp_region_noPanic ?_
  refine wp_region_held_drew (S := (fun u : World => u.cell? ⟨b, 1, none⟩ = some (.map (some mb)) ∧ u.cell? ⟨b3, 0, none⟩ = some (.string (mkS r.path)) ∧ (Instr.lookup 106 (.map (some mb)) (.string (mkS r.path)) true).run Tryz.prog u = .ok (.tuple #[VO, .bool tt]) u ∧ Below W1.heap.size W1 u)) (by kernel_rfl) (HS.out _ HXD.out) (fun hHeld => ?_)
  refine wpAnyH_take (i := 0) (v := ?_) (by simp only [List.getElem?_toArray, List.getElem?_cons_succ, List.getElem?_cons_zero]; exact rfl) (by kernel_rfl) (by kernel_rfl) (by kernel_rfl) (fun _ _ _ h => h) (Or.inl ⟨by rfl, ?_⟩) (by assumption) ?_
  rotate_left 1
  · (intro w hSw; (try dsimp only at hSw); go_simp; try with_reducible rfl)
  try simp only [Act.put, List.setIfInBounds_toArray, List.set_cons_zero, List.set_cons_succ]
  refine wpAnyH_take (i := 1) (v := ?_) (by simp only [List.getElem?_toArray, List.getElem?_cons_succ, List.getElem?_cons_zero]; exact rfl) (by kernel_rfl) (by kernel_rfl) (by kernel_rfl) (fun _ _ _ h => h) (Or.inl ⟨by rfl, ?_⟩) (by assumption) ?_
  rotate_left 1
  · (intro w hSw; (try dsimp only at hSw); go_simp; try with_reducible rfl)
  try simp only [Act.put, List.setIfInBounds_toArray, List.set_cons_zero, List.set_cons_succ]
  refine wpAnyH_take (i := 2) (v := ?_) (by simp only [List.getElem?_toArray, List.getElem?_cons_succ, List.getElem?_cons_zero]; exact rfl) (by kernel_rfl) (by kernel_rfl) (by kernel_rfl) (fun _ _ _ h => h) (Or.inl ⟨by rfl, ?_⟩) (by assumption) ?_
  rotate_left 1
  · (intro w hSw; (try dsimp only at hSw); go_simp; try with_reducible rfl)
  try simp only [Act.put, List.setIfInBounds_toArray, List.set_cons_zero, List.set_cons_succ]
  refine wpAnyH_take (i := 3) (v := ?_) (by simp only [List.getElem?_toArray, List.getElem?_cons_succ, List.getElem?_cons_zero]; exact rfl) (by kernel_rfl) (by kernel_rfl) (by kernel_rfl) (fun _ _ _ h => h) (Or.inl ⟨by rfl, ?_⟩) (by assumption) ?_
  rotate_left 1
  · (intro w hSw; (try dsimp only at hSw); go_simp; try with_reducible rfl)
  try simp only [Act.put, List.setIfInBounds_toArray, List.set_cons_zero, List.set_cons_succ]
  refine wpAnyH_take (i := 4) (v := ?_) (by simp only [List.getElem?_toArray, List.getElem?_cons_succ, List.getElem?_cons_zero]; exact rfl) (by kernel_rfl) (by kernel_rfl) (by kernel_rfl) (fun _ _ _ h => h) (Or.inl ⟨by rfl, ?_⟩) (by assumption) ?_
  rotate_left 1
  · (intro w hSw; (try dsimp only at hSw); go_simp; try with_reducible rfl)
  try simp only [Act.put, List.setIfInBounds_toArray, List.set_cons_zero, List.set_cons_succ]
  refine wpAnyH_take (i := 5) (v := ?_) (by simp only [List.getElem?_toArray, List.getElem?_cons_succ, List.getElem?_cons_zero]; exact rfl) (by kernel_rfl) (by kernel_rfl) (by kernel_rfl) (fun _ _ _ h => h) (Or.inl ⟨by rfl, ?_⟩) (by assumption) ?_
  rotate_left 1
  · (intro w hSw; (try dsimp only at hSw); go_simp; try with_reducible rfl)
  try simp only [Act.put, List.setIfInBounds_toArray, List.set_cons_zero, List.set_cons_succ]
  refine wpAnyH_take (i := 6) (v := ?_) (by simp only [List.getElem?_toArray, List.getElem?_cons_succ, List.getElem?_cons_zero]; exact rfl) (by kernel_rfl) (by kernel_rfl) (by kernel_rfl) (fun _ _ _ h => h) (Or.inl ⟨by rfl, ?_⟩) (by assumption) ?_
  rotate_left 1
  · (intro w hSw; (try dsimp only at hSw); go_simp; try with_reducible rfl)
  try simp only [Act.put, List.setIfInBounds_toArray, List.set_cons_zero, List.set_cons_succ]
  refine wpAnyH_take (i := 7) (v := ?_) (by simp only [List.getElem?_toArray, List.getElem?_cons_succ, List.getElem?_cons_zero]; exact rfl) (by kernel_rfl) (by kernel_rfl) (by kernel_rfl) (fun _ _ _ h => h) (Or.inl ⟨by rfl, ?_⟩) (by assumption) ?_
  rotate_left 1
  · (intro w hSw; (try dsimp only at hSw); go_simp; try with_reducible rfl)
  try simp only [Act.put, List.setIfInBounds_toArray, List.set_cons_zero, List.set_cons_succ]
  refine wpAnyH_take (i := 8) (v := ?_) (by simp only [List.getElem?_toArray, List.getElem?_cons_succ, List.getElem?_cons_zero]; exact rfl) (by kernel_rfl) (by kernel_rfl) (by kernel_rfl) (fun _ _ _ h => h) (Or.inl ⟨by rfl, ?_⟩) (by assumption) ?_
  rotate_left 1
  · (intro w hSw; (try dsimp only at hSw); go_simp; try with_reducible rfl)
  try simp only [Act.put, List.setIfInBounds_toArray, List.set_cons_zero, List.set_cons_succ]
  refine wpAnyH_take (i := 9) (v := ?_) (by simp only [List.getElem?_toArray, List.getElem?_cons_succ, List.getElem?_cons_zero]; exact rfl) (by kernel_rfl) (by kernel_rfl) (by kernel_rfl) (fun _ _ _ h => h) (Or.inl ⟨by rfl, ?_⟩) (by assumption) ?_
  rotate_left 1
  · (intro w hSw; (try dsimp only at hSw); go_simp; try with_reducible rfl)
  try simp only [Act.put, List.setIfInBounds_toArray, List.set_cons_zero, List.set_cons_succ]
  refine wpAnyH_ready (rs := [10]) (by kernel_rfl) (by simp) ?_
  refine (AllReadyH.cons (by simp only [List.getElem?_toArray, List.getElem?_cons_succ, List.getElem?_cons_zero]; exact rfl) (fun K hK => ?_) AllReadyH.nil)
  go_simp
  refine hK.out _ _ (HS.out _ HXA.out) (fun hHeld => ?_)
  clear hK K
  try simp only [Act.put, List.setIfInBounds_toArray, List.set_cons_zero, List.set_cons_succ]
  refine wpAnyH_ready (rs := [11]) (by kernel_rfl) (by simp) ?_
  refine (AllReadyH.cons (by simp only [List.getElem?_toArray, List.getElem?_cons_succ, List.getElem?_cons_zero]; exact rfl) (fun K hK => ?_) AllReadyH.nil)
  go_simp
  refine hK.out _ _ (HS.out _ HXB.out) (fun hHeld => ?_)
  clear hK K
  try simp only [Act.put, List.setIfInBounds_toArray, List.set_cons_zero, List.set_cons_succ]
  refine wpAnyH_take (i := 12) (v := ?_) (by simp only [List.getElem?_toArray, List.getElem?_cons_succ, List.getElem?_cons_zero]; exact rfl) (by kernel_rfl) (by kernel_rfl) (by kernel_rfl) (fun _ _ _ h => h) (Or.inl ⟨by rfl, ?_⟩) (by assumption) ?_
  rotate_left 1
  · (intro w hSw; (try dsimp only at hSw); go_simp; try with_reducible rfl)
  try simp only [Act.put, List.setIfInBounds_toArray, List.set_cons_zero, List.set_cons_succ]
  refine wpAnyH_done (by kernel_rfl) ?_ _
  refine NoPanic.normal ?_
  clear hHeld hst hzd
  have ld2 := loadRT rtP (HR3.out.of_below HXB.out)
  rw [HVP.out] at ld2
  go_wp2_with fail
  refine (HGD.out _).mono ?_
  rintro e w3 ⟨rfl, hB3⟩
  have HX3 := Lib.hid (HXB.out.trans (hB3.mono HXB.out.size))
  clear hB3 ld2
  cases gd with
  | false =>
    go_wp2
    go_ret
    have hb := HB1.out.trans (HX3.out.mono HB1.out.size)
    unfold SetR
    rw [if_pos HG.out]
    exact ⟨rfl, HA.out.of_below hb, (Kp.refl mb w).of_below hb⟩
  | true =>
    have c1 := ((HA.out.of_below HB1.out).of_below HX3.out).cell1
    have hln := fun ty => run_lenA (ty := ty) ((HA.out.of_below HB1.out).of_below HX3.out).map
    rw [List.length_map] at hln
    cases tt with
    | false =>
      have hno : findA es r.path = none := by
        have := HTT.out
        cases hh : findA es r.path with
        | none => rfl
        | some e => rw [hh] at this; cases this
      by_cases hm : 128 ≤ es.length
      · have y1 : (128 : Int) ≤ (es.length : Int) := by omega
        have y2 : decide ((128 : Int) ≤ (es.length : Int)) = true := decide_eq_true y1
        have HNO := Lib.hid (And.intro hno hm)
        clear hno hm
        go_wp2
        go_ret
        have hb := HB1.out.trans (HX3.out.mono HB1.out.size)
        unfold SetR
        rw [if_neg (by rw [HG.out]; simp), if_pos HNO.out]
        exact ⟨rfl, HA.out.of_below hb, (Kp.refl mb w).of_below hb⟩
      · have y1 : ¬ (128 : Int) ≤ (es.length : Int) := by omega
        have y2 : decide ((128 : Int) ≤ (es.length : Int)) = false := decide_eq_false y1
        have HNM := Lib.hid (show ¬ (findA es r.path = none ∧ 128 ≤ es.length) from fun h => hm h.2)
        clear hno hm
        have ld3 := loadRT rtP (HR3.out.of_below HX3.out)
        rw [HVP.out] at ld3
        go_wp2_with fail
        refine (HOW.out _ ((HD.out.of_below HB1.out).of_below HX3.out)).mono ?_
        rintro e w4 ⟨q', c', rfl, hB4, hD4, hlt4⟩
        have hR4 := (HR3.out.of_below HX3.out).of_below hB4
        obtain ⟨w5, hs5, hR5, hK5⟩ := storeRT rtP hR4 (r.mov q' c')
        obtain ⟨RP, hRP⟩ : ∃ R, r.mov q' c' = R := ⟨_, rfl⟩
        rw [hRP] at hs5 hR5 hD4 ⊢
        have hpp : RP.path = r.path := by rw [← hRP]; rfl
        have hqq : RP.q = q' := by rw [← hRP]; rfl
        have hgg : goodR RP = true := by rw [← hRP]; exact HG.out
        have hii : RP.time < 9223372036854775808 ∧ RP.chg < 9223372036854775808 := by rw [← hRP]; exact HIN.out
        have hb3w : w.heap.size ≤ b3 := Nat.le_of_eq hb3
        have hb3z := HZ.out
        have hX3s := HX3.out.size
        have hD5 : DgAt w5 RP ds := hD4.keep fun cc oo e hl => hK5.block cc hl (by
          rw [hqq] at e
          have := (hlt4 cc oo e).1
          omega)
        have hB5 : Below w.heap.size w w5 := (HB1.out.trans ((HX3.out.trans (hB4.mono HX3.out.size)).mono HB1.out.size)).trans (hK5.below hb3w (by have := HB1.out.size; have := hB4.size; omega))
        have c05 := rc_path hR5
        rw [hpp] at c05
        obtain ⟨V5, hV5⟩ : ∃ V, rcV RP = V := ⟨_, rfl⟩
        rw [hV5] at hs5 ⊢
        have HV5 := Lib.hid hV5
        have HR5 := Lib.hid hR5
        have HD5 := Lib.hid hD5
        have HB5 := Lib.hid hB5
        have HRP := Lib.hid (And.intro hRP (And.intro hpp (And.intro hqq (And.intro hgg hii))))
        have HLT := Lib.hid (show ∀ cc oo, q' = some ⟨cc, oo, none⟩ → b3 < cc from fun cc oo e => by
          have := (hlt4 cc oo e).1
          omega)
        have HK5 := Lib.hid (show b3 < w5.heap.size from HR5.out.lt)
        clear hB4 hD4 hlt4 hR4 hR5 hK5 hD5 hB5 hRP hpp hqq hgg hii hV5 ld3 c1 hln hb3z hX3s hb3w
        go_wp2_with fail
        refine (HSC.out _).mono ?_
        rintro e w6 ⟨rfl, hB6⟩
        have hR6 := HR5.out.of_below hB6
        have f06 := hR6.free 0
        have c06 := rc_path hR6
        rw [HRP.out.2.1] at c06
        have hb3w : w.heap.size ≤ b3 := Nat.le_of_eq hb3
        obtain ⟨w7, hw7⟩ : ∃ x, w6.setCell ⟨b3, 0, none⟩ (.string (mkS r.path)) = x := ⟨_, rfl⟩
        have hR7 : Row w7 b3 44 54 (rcF RP) := by
          rw [← hw7]
          refine (hR6.set 0 (.string (mkS r.path))).congr fun j hj => ?_
          by_cases e : j = 0
          · rw [if_pos e, e, ← HRP.out.2.1]; rfl
          · rw [if_neg e]
        have hB7 : Below w.heap.size w w7 := by rw [← hw7]; exact (HB5.out.trans (hB6.mono HB5.out.size)).setCell (show w.heap.size ≤ (⟨b3, 0, none⟩ : Addr).block from hb3w) _
        have hD7 : DgAt w7 RP ds := (HD5.out.of_below hB6).keep fun cc oo e hl => by
          rw [← hw7]
          rw [HRP.out.2.2.1] at e
          have := HLT.out cc oo e
          exact Below.heap_setCell _ _ _ _ (show cc ≠ b3 by omega)
        have hA7 := HA.out.of_below hB7.drew
        have hR7d : Row w7.drew b3 44 54 (rcF RP) := hR7
        have ld7 := loadRT rtP hR7d
        have c07 := rc_path hR7d
        rw [HRP.out.2.1] at c07
        obtain ⟨w8, hup, hM8, hg8, hz8⟩ := run_update8 (P := Tryz.prog) mapA strT hA7.map r.path (rcV RP)
        have hk8 := kp_grown hg8
        have hb3m : b3 ≠ mb := by have := HA.out.map.lt; omega
        have hA8 := ArAt.put hA7 (r := RP) (ds := ds) (by rw [HRP.out.2.1]; exact hM8) hk8 ((hD7.of_below (Below.refl _ _).drew).kp_map hA7.map.is hk8) HRP.out.2.2.2.1 HRP.out.2.2.2.2 (by rw [HRP.out.2.1]; exact fun hno => Nat.lt_of_not_le fun hh => HNM.out ⟨hno, hh⟩)
        have hR8 : Row w8 b3 44 54 (rcF RP) := hR7d.of_kp hk8 hb3m
        have ld8 := loadRT rtP hR8
        have c08 := rc_path hR8
        rw [HRP.out.2.1] at c08
        have hV5 := HV5.out
        rw [hV5] at ld7 ld8 hup
        have HS8 := Lib.hid (And.intro hA7.cell1 (And.intro c07 ld7))
        have HS9 := Lib.hid (And.intro hA8.cell1 (And.intro c08 ld8))
        have HFIN := Lib.hid (show ArAt w8 b mb gen (setA es (r.mov q' c', ds)) ∧ Kp mb w w8 ∧ ∀ cc oo, q' = some ⟨cc, oo, none⟩ → w.heap.size ≤ cc from ⟨by rw [HRP.out.1]; exact hA8, ((Kp.refl mb w).of_below hB7.drew).trans hk8, fun cc oo e => by have := HLT.out cc oo e; omega⟩)
        clear hR6 hR7 hB7 hD7 hA7 hR7d ld7 c07 hM8 hg8 hz8 hk8 hA8 hR8 ld8 c08 hb3w hb3m hB6 hs5 c05 hV5
        go_wp2
        refine wp_region_noPanic ?_
        refine wp_region_held_drew (S := (fun u : World => u.cell? ⟨b, 1, none⟩ = some (.map (some mb)) ∧ u.cell? ⟨b3, 0, none⟩ = some (.string (mkS r.path)) ∧ (ldT 44 (.pointer (some ⟨b3, 0, none⟩))).run Tryz.prog u = .ok (.value V5) u)) (by kernel_rfl) (HS8.out) (fun hHeld => ?_)
        refine wpAnyH_take (i := 0) (v := ?_) (by simp only [List.getElem?_toArray, List.getElem?_cons_succ, List.getElem?_cons_zero]; exact rfl) (by kernel_rfl) (by kernel_rfl) (by kernel_rfl) (fun _ _ _ h => h) (Or.inl ⟨by rfl, ?_⟩) (by assumption) ?_
        rotate_left 1
        · (intro w hSw; (try dsimp only at hSw); go_simp; try with_reducible rfl)
        try simp only [Act.put, List.setIfInBounds_toArray, List.set_cons_zero, List.set_cons_succ]
        refine wpAnyH_take (i := 1) (v := ?_) (by simp only [List.getElem?_toArray, List.getElem?_cons_succ, List.getElem?_cons_zero]; exact rfl) (by kernel_rfl) (by kernel_rfl) (by kernel_rfl) (fun _ _ _ h => h) (Or.inl ⟨by rfl, ?_⟩) (by assumption) ?_
        rotate_left 1
        · (intro w hSw; (try dsimp only at hSw); go_simp; try with_reducible rfl)
        try simp only [Act.put, List.setIfInBounds_toArray, List.set_cons_zero, List.set_cons_succ]
        refine wpAnyH_take (i := 2) (v := ?_) (by simp only [List.getElem?_toArray, List.getElem?_cons_succ, List.getElem?_cons_zero]; exact rfl) (by kernel_rfl) (by kernel_rfl) (by kernel_rfl) (fun _ _ _ h => h) (Or.inl ⟨by rfl, ?_⟩) (by assumption) ?_
        rotate_left 1
        · (intro w hSw; (try dsimp only at hSw); go_simp; try with_reducible rfl)
        try simp only [Act.put, List.setIfInBounds_toArray, List.set_cons_zero, List.set_cons_succ]
        refine wpAnyH_take (i := 3) (v := ?_) (by simp only [List.getElem?_toArray, List.getElem?_cons_succ, List.getElem?_cons_zero]; exact rfl) (by kernel_rfl) (by kernel_rfl) (by kernel_rfl) (fun _ _ _ h => h) (Or.inl ⟨by rfl, ?_⟩) (by assumption) ?_
        rotate_left 1
        · (intro w hSw; (try dsimp only at hSw); go_simp; try with_reducible rfl)
        try simp only [Act.put, List.setIfInBounds_toArray, List.set_cons_zero, List.set_cons_succ]
        refine wpAnyH_take (i := 4) (v := ?_) (by simp only [List.getElem?_toArray, List.getElem?_cons_succ, List.getElem?_cons_zero]; exact rfl) (by kernel_rfl) (by kernel_rfl) (by kernel_rfl) (fun _ _ _ h => h) (Or.inl ⟨by rfl, ?_⟩) (by assumption) ?_
        rotate_left 1
        · (intro w hSw; (try dsimp only at hSw); go_simp; try with_reducible rfl)
        try simp only [Act.put, List.setIfInBounds_toArray, List.set_cons_zero, List.set_cons_succ]
        refine wpAnyH_take (i := 5) (v := ?_) (by simp only [List.getElem?_toArray, List.getElem?_cons_succ, List.getElem?_cons_zero]; exact rfl) (by kernel_rfl) (by kernel_rfl) (by kernel_rfl) (fun _ _ _ h => h) (Or.inl ⟨by rfl, ?_⟩) (by assumption) ?_
        rotate_left 1
        · (intro w hSw; (try dsimp only at hSw); go_simp; try with_reducible rfl)
        try simp only [Act.put, List.setIfInBounds_toArray, List.set_cons_zero, List.set_cons_succ]
        refine wpAnyH_take (i := 6) (v := ?_) (by simp only [List.getElem?_toArray, List.getElem?_cons_succ, List.getElem?_cons_zero]; exact rfl) (by kernel_rfl) (by kernel_rfl) (by kernel_rfl) (fun _ _ _ h => h) (Or.inl ⟨by rfl, ?_⟩) (by assumption) ?_
        rotate_left 1
        · (intro w hSw; (try dsimp only at hSw); go_simp; try with_reducible rfl)
        try simp only [Act.put, List.setIfInBounds_toArray, List.set_cons_zero, List.set_cons_succ]
        refine wpAnyH_ready (rs := [7]) (by kernel_rfl) (by simp) ?_
        refine (AllReadyH.cons (by simp only [List.getElem?_toArray, List.getElem?_cons_succ, List.getElem?_cons_zero]; exact rfl) (fun K hK => ?_) AllReadyH.nil)
        go_simp
        refine hK.out _ _ HS9.out (fun hHeld => ?_)
        clear hK K
        try simp only [Act.put, List.setIfInBounds_toArray, List.set_cons_zero, List.set_cons_succ]
        refine wpAnyH_done (by kernel_rfl) ?_ _
        refine NoPanic.normal ?_
        clear hHeld
        go_wp2
        go_ret
        unfold SetR
        rw [if_neg (by rw [HG.out]; simp), if_neg HNM.out]
        exact ⟨rfl, q', c', HFIN.out.1, HFIN.out.2.1, HFIN.out.2.2⟩
    | true =>
      have HNM := Lib.hid (show ¬ (findA es r.path = none ∧ 128 ≤ es.length) from fun h => by
        have := HTT.out
        rw [h.1] at this
        cases this)
      have ld3 := loadRT rtP (HR3.out.of_below HX3.out)
      rw [HVP.out] at ld3
      go_wp2_with fail
      refine (HOW.out _ ((HD.out.of_below HB1.out).of_below HX3.out)).mono ?_
      rintro e w4 ⟨q', c', rfl, hB4, hD4, hlt4⟩
      have hR4 := (HR3.out.of_below HX3.out).of_below hB4
      obtain ⟨w5, hs5, hR5, hK5⟩ := storeRT rtP hR4 (r.mov q' c')
      obtain ⟨RP, hRP⟩ : ∃ R, r.mov q' c' = R := ⟨_, rfl⟩
      rw [hRP] at hs5 hR5 hD4 ⊢
      have hpp : RP.path = r.path := by rw [← hRP]; rfl
      have hqq : RP.q = q' := by rw [← hRP]; rfl
      have hgg : goodR RP = true := by rw [← hRP]; exact HG.out
      have hii : RP.time < 9223372036854775808 ∧ RP.chg < 9223372036854775808 := by rw [← hRP]; exact HIN.out
      have hb3w : w.heap.size ≤ b3 := Nat.le_of_eq hb3
      have hb3z := HZ.out
      have hX3s := HX3.out.size
      have hD5 : DgAt w5 RP ds := hD4.keep fun cc oo e hl => hK5.block cc hl (by
        rw [hqq] at e
        have := (hlt4 cc oo e).1
        omega)
      have hB5 : Below w.heap.size w w5 := (HB1.out.trans ((HX3.out.trans (hB4.mono HX3.out.size)).mono HB1.out.size)).trans (hK5.below hb3w (by have := HB1.out.size; have := hB4.size; omega))
      have c05 := rc_path hR5
      rw [hpp] at c05
      obtain ⟨V5, hV5⟩ : ∃ V, rcV RP = V := ⟨_, rfl⟩
      rw [hV5] at hs5 ⊢
      have HV5 := Lib.hid hV5
      have HR5 := Lib.hid hR5
      have HD5 := Lib.hid hD5
      have HB5 := Lib.hid hB5
      have HRP := Lib.hid (And.intro hRP (And.intro hpp (And.intro hqq (And.intro hgg hii))))
      have HLT := Lib.hid (show ∀ cc oo, q' = some ⟨cc, oo, none⟩ → b3 < cc from fun cc oo e => by
        have := (hlt4 cc oo e).1
        omega)
      have HK5 := Lib.hid (show b3 < w5.heap.size from HR5.out.lt)
      clear hB4 hD4 hlt4 hR4 hR5 hK5 hD5 hB5 hRP hpp hqq hgg hii hV5 ld3 c1 hln hb3z hX3s hb3w
      go_wp2_with fail
      refine (HSC.out _).mono ?_
      rintro e w6 ⟨rfl, hB6⟩
      have hR6 := HR5.out.of_below hB6
      have f06 := hR6.free 0
      have c06 := rc_path hR6
      rw [HRP.out.2.1] at c06
      have hb3w : w.heap.size ≤ b3 := Nat.le_of_eq hb3
      obtain ⟨w7, hw7⟩ : ∃ x, w6.setCell ⟨b3, 0, none⟩ (.string (mkS r.path)) = x := ⟨_, rfl⟩
      have hR7 : Row w7 b3 44 54 (rcF RP) := by
        rw [← hw7]
        refine (hR6.set 0 (.string (mkS r.path))).congr fun j hj => ?_
        by_cases e : j = 0
        · rw [if_pos e, e, ← HRP.out.2.1]; rfl
        · rw [if_neg e]
      have hB7 : Below w.heap.size w w7 := by rw [← hw7]; exact (HB5.out.trans (hB6.mono HB5.out.size)).setCell (show w.heap.size ≤ (⟨b3, 0, none⟩ : Addr).block from hb3w) _
      have hD7 : DgAt w7 RP ds := (HD5.out.of_below hB6).keep fun cc oo e hl => by
        rw [← hw7]
        rw [HRP.out.2.2.1] at e
        have := HLT.out cc oo e
        exact Below.heap_setCell _ _ _ _ (show cc ≠ b3 by omega)
      have hA7 := HA.out.of_below hB7.drew
      have hR7d : Row w7.drew b3 44 54 (rcF RP) := hR7
      have ld7 := loadRT rtP hR7d
      have c07 := rc_path hR7d
      rw [HRP.out.2.1] at c07
      obtain ⟨w8, hup, hM8, hg8, hz8⟩ := run_update8 (P := Tryz.prog) mapA strT hA7.map r.path (rcV RP)
      have hk8 := kp_grown hg8
      have hb3m : b3 ≠ mb := by have := HA.out.map.lt; omega
      have hA8 := ArAt.put hA7 (r := RP) (ds := ds) (by rw [HRP.out.2.1]; exact hM8) hk8 ((hD7.of_below (Below.refl _ _).drew).kp_map hA7.map.is hk8) HRP.out.2.2.2.1 HRP.out.2.2.2.2 (by rw [HRP.out.2.1]; exact fun hno => Nat.lt_of_not_le fun hh => HNM.out ⟨hno, hh⟩)
      have hR8 : Row w8 b3 44 54 (rcF RP) := hR7d.of_kp hk8 hb3m
      have ld8 := loadRT rtP hR8
      have c08 := rc_path hR8
      rw [HRP.out.2.1] at c08
      have hV5 := HV5.out
      rw [hV5] at ld7 ld8 hup
      have HS8 := Lib.hid (And.intro hA7.cell1 (And.intro c07 ld7))
      have HS9 := Lib.hid (And.intro hA8.cell1 (And.intro c08 ld8))
      have HFIN := Lib.hid (show ArAt w8 b mb gen (setA es (r.mov q' c', ds)) ∧ Kp mb w w8 ∧ ∀ cc oo, q' = some ⟨cc, oo, none⟩ → w.heap.size ≤ cc from ⟨by rw [HRP.out.1]; exact hA8, ((Kp.refl mb w).of_below hB7.drew).trans hk8, fun cc oo e => by have := HLT.out cc oo e; omega⟩)
      clear hR6 hR7 hB7 hD7 hA7 hR7d ld7 c07 hM8 hg8 hz8 hk8 hA8 hR8 ld8 c08 hb3w hb3m hB6 hs5 c05 hV5
      go_wp2
      refine wp_region_noPanic ?_
      refine wp_region_held_drew (S := (fun u : World => u.cell? ⟨b, 1, none⟩ = some (.map (some mb)) ∧ u.cell? ⟨b3, 0, none⟩ = some (.string (mkS r.path)) ∧ (ldT 44 (.pointer (some ⟨b3, 0, none⟩))).run Tryz.prog u = .ok (.value V5) u)) (by kernel_rfl) (HS8.out) (fun hHeld => ?_)
      refine wpAnyH_take (i := 0) (v := ?_) (by simp only [List.getElem?_toArray, List.getElem?_cons_succ, List.getElem?_cons_zero]; exact rfl) (by kernel_rfl) (by kernel_rfl) (by kernel_rfl) (fun _ _ _ h => h) (Or.inl ⟨by rfl, ?_⟩) (by assumption) ?_
      rotate_left 1
      · (intro w hSw; (try dsimp only at hSw); go_simp; try with_reducible rfl)
      try simp only [Act.put, List.setIfInBounds_toArray, List.set_cons_zero, List.set_cons_succ]
      refine wpAnyH_take (i := 1) (v := ?_) (by simp only [List.getElem?_toArray, List.getElem?_cons_succ, List.getElem?_cons_zero]; exact rfl) (by kernel_rfl) (by kernel_rfl) (by kernel_rfl) (fun _ _ _ h => h) (Or.inl ⟨by rfl, ?_⟩) (by assumption) ?_
      rotate_left 1
      · (intro w hSw; (try dsimp only at hSw); go_simp; try with_reducible rfl)
      try simp only [Act.put, List.setIfInBounds_toArray, List.set_cons_zero, List.set_cons_succ]
      refine wpAnyH_take (i := 2) (v := ?_) (by simp only [List.getElem?_toArray, List.getElem?_cons_succ, List.getElem?_cons_zero]; exact rfl) (by kernel_rfl) (by kernel_rfl) (by kernel_rfl) (fun _ _ _ h => h) (Or.inl ⟨by rfl, ?_⟩) (by assumption) ?_
      rotate_left 1
      · (intro w hSw; (try dsimp only at hSw); go_simp; try with_reducible rfl)
      try simp only [Act.put, List.setIfInBounds_toArray, List.set_cons_zero, List.set_cons_succ]
      refine wpAnyH_take (i := 3) (v := ?_) (by simp only [List.getElem?_toArray, List.getElem?_cons_succ, List.getElem?_cons_zero]; exact rfl) (by kernel_rfl) (by kernel_rfl) (by kernel_rfl) (fun _ _ _ h => h) (Or.inl ⟨by rfl, ?_⟩) (by assumption) ?_
      rotate_left 1
      · (intro w hSw; (try dsimp only at hSw); go_simp; try with_reducible rfl)
      try simp only [Act.put, List.setIfInBounds_toArray, List.set_cons_zero, List.set_cons_succ]
      refine wpAnyH_take (i := 4) (v := ?_) (by simp only [List.getElem?_toArray, List.getElem?_cons_succ, List.getElem?_cons_zero]; exact rfl) (by kernel_rfl) (by kernel_rfl) (by kernel_rfl) (fun _ _ _ h => h) (Or.inl ⟨by rfl, ?_⟩) (by assumption) ?_
      rotate_left 1
      · (intro w hSw; (try dsimp only at hSw); go_simp; try with_reducible rfl)
      try simp only [Act.put, List.setIfInBounds_toArray, List.set_cons_zero, List.set_cons_succ]
      refine wpAnyH_take (i := 5) (v := ?_) (by simp only [List.getElem?_toArray, List.getElem?_cons_succ, List.getElem?_cons_zero]; exact rfl) (by kernel_rfl) (by kernel_rfl) (by kernel_rfl) (fun _ _ _ h => h) (Or.inl ⟨by rfl, ?_⟩) (by assumption) ?_
      rotate_left 1
      · (intro w hSw; (try dsimp only at hSw); go_simp; try with_reducible rfl)
      try simp only [Act.put, List.setIfInBounds_toArray, List.set_cons_zero, List.set_cons_succ]
      refine wpAnyH_take (i := 6) (v := ?_) (by simp only [List.getElem?_toArray, List.getElem?_cons_succ, List.getElem?_cons_zero]; exact rfl) (by kernel_rfl) (by kernel_rfl) (by kernel_rfl) (fun _ _ _ h => h) (Or.inl ⟨by rfl, ?_⟩) (by assumption) ?_
      rotate_left 1
      · (intro w hSw; (try dsimp only at hSw); go_simp; try with_reducible rfl)
      try simp only [Act.put, List.setIfInBounds_toArray, List.set_cons_zero, List.set_cons_succ]
      refine wpAnyH_ready (rs := [7]) (by kernel_rfl) (by simp) ?_
      refine (AllReadyH.cons (by simp only [List.getElem?_toArray, List.getElem?_cons_succ, List.getElem?_cons_zero]; exact rfl) (fun K hK => ?_) AllReadyH.nil)
      go_simp
      refine hK.out _ _ HS9.out (fun hHeld => ?_)
      clear hK K
      try simp only [Act.put, List.setIfInBounds_toArray, List.set_cons_zero, List.set_cons_succ]
      refine wpAnyH_done (by kernel_rfl) ?_ _
      refine NoPanic.normal ?_
      clear hHeld
      go_wp2
      go_ret
      unfold SetR
      rw [if_neg (by rw [HG.out]; simp), if_neg HNM.out]
      exact ⟨rfl, q', c', HFIN.out.1, HFIN.out.2.1, HFIN.out.2.2⟩
end
end Go.Proofs.YtkajeepbelfpiaaGreatDoor
/- The program's writing, renaming, removing: closures made. -/
set_option maxRecDepth 100000
namespace Go.Proofs.YtkajeepbelfpiaaGreatDoor
open Go Go.RowKit
attribute [-go_sem] Sha.exec_store

theorem BoxS.free {w : World} {b : Nat} {p : S8} (h : BoxS w b p) : w.frozen? ⟨b, 0, none⟩ = false := by
  unfold World.frozen?
  rw [show w.heap[b]? = _ from h]
  simp
theorem BoxS.set {w : World} {b : Nat} {p : S8} (h : BoxS w b p) (q : S8) : BoxS (w.setCell ⟨b, 0, none⟩ (.string (mkS q))) b q := by
  unfold BoxS at h ⊢
  simp only [World.setCell, Array.getElem?_modify, if_true, h, Option.map_some]
  simp
theorem BoxS.of_below {w w' : World} {b : Nat} {p : S8} (h : BoxS w b p) {N : Nat} (hB : Below N w w') (hb : b < N) : BoxS w' b p := (hB.block b hb).trans h
theorem BoxF.of_below {w w' : World} {b : Nat} {sl : Nat → Hn} {f : Fl} (h : BoxF w b sl f) {N : Nat} (hB : Below N w w') (hb : b < N) : BoxF w' b sl f := (hB.block b hb).trans h
theorem BoxS.new (w : World) (p : S8) : BoxS (w.alloc (.cells #[.string (mkS p)] 9)) w.heap.size p := World.alloc_heap_new w _
set_option maxRecDepth 100000 in
set_option maxHeartbeats 4000000 in
theorem writing_any (sl : Nat → Hn) (f : Fl) (w : World) (hp : f.p.length < 100000) : Calls Tryz.prog 118 #[.string (mkS f.p), .agg #[.int .i64 f.size, .int .i64 f.time, .int .i64 f.chg, .slice (sl f.body).q (sl f.body).n (sl f.body).c]] w fun e w' =>
    e = .returned (.func (.func 162) #[] #[.pointer (some ⟨w.heap.size, 0, none⟩), .pointer (some ⟨w.heap.size + 1, 0, none⟩)]) ∧ BoxS w' w.heap.size f.p ∧ BoxF w' (w.heap.size + 1) sl f ∧ Below w.heap.size w w' := by
  have hB0 := (Below.refl w.heap.size w).alloc (Nat.le_refl _) (.cells #[.string (mkS f.p)] 9)
  have hB1 := hB0.alloc hB0.size (.cells #[.int .i64 f.size, .int .i64 f.time, .int .i64 f.chg, .slice (sl f.body).q (sl f.body).n (sl f.body).c] 196)
  have hs1 : BoxS ((w.alloc (.cells #[.string (mkS f.p)] 9)).alloc (.cells #[.int .i64 f.size, .int .i64 f.time, .int .i64 f.chg, .slice (sl f.body).q (sl f.body).n (sl f.body).c] 196)) w.heap.size f.p :=
    (BoxS.new w f.p).of_below ((Below.refl _ _).alloc (Nat.le_refl _) _) (by rw [World.size_alloc]; omega)
  have hf1 : BoxF ((w.alloc (.cells #[.string (mkS f.p)] 9)).alloc (.cells #[.int .i64 f.size, .int .i64 f.time, .int .i64 f.chg, .slice (sl f.body).q (sl f.body).n (sl f.body).c] 196)) (w.heap.size + 1) sl f := by
    have := World.alloc_heap_new (w.alloc (.cells #[.string (mkS f.p)] 9)) (.cells (fileC sl f) 196)
    rw [World.size_alloc] at this
    exact this
  have HSZ : Hid (((w.alloc (.cells #[.string (mkS f.p)] 9)).alloc (.cells #[.int .i64 f.size, .int .i64 f.time, .int .i64 f.chg, .slice (sl f.body).q (sl f.body).n (sl f.body).c] 196)).heap.size = w.heap.size + 2) := Lib.hid (by rw [World.size_alloc, World.size_alloc])
  have HC := Lib.hid (fun u => strClone_any f.p u (Nat.lt_trans hp (by decide)))
  generalize hW : ((w.alloc (.cells #[.string (mkS f.p)] 9)).alloc (.cells #[.int .i64 f.size, .int .i64 f.time, .int .i64 f.chg, .slice (sl f.body).q (sl f.body).n (sl f.body).c] 196)) = W at *
  have HW := Lib.hid hW
  have HB1 := Lib.hid hB1
  have HF1 := Lib.hid hf1
  have HS1 := Lib.hid hs1
  have c0 := hs1.cell
  clear hB0 hB1 hs1 hf1 hW hp
  go_enter Tryz.func118, Tryz.ntmps118
  go_wp2_with fail
  rw [HW.out]
  refine (HC.out W).mono ?_
  rintro e w2 ⟨rfl, hB2⟩
  have hs2 := HS1.out.of_below hB2 (by rw [HSZ.out]; omega)
  have c2 := hs2.cell
  have f2 := hs2.free
  have HB2 := Lib.hid (HB1.out.trans (hB2.mono HB1.out.size))
  have HF2 := Lib.hid (HF1.out.of_below hB2 (by rw [HSZ.out]; omega))
  have HS2 := Lib.hid hs2
  clear hB2 hs2 c0
  go_wp2
  go_ret
  exact ⟨rfl, HS2.out.set _, (Below.heap_setCell _ _ _ _ (by simp)).trans HF2.out, HB2.out.setCell (Nat.le_refl _) _⟩
/-- Two boxes of strings. -/
def Bx2 (w : World) (b1 b2 : Nat) (p q : S8) (u : World) : Prop := BoxS u b1 p ∧ BoxS u b2 q ∧ Below w.heap.size w u
theorem Bx2.facts {w u : World} {b1 b2 : Nat} {p q : S8} (h : Bx2 w b1 b2 p q u) : u.cell? ⟨b1, 0, none⟩ = some (.string (mkS p)) ∧ u.cell? ⟨b2, 0, none⟩ = some (.string (mkS q)) ∧ u.frozen? ⟨b1, 0, none⟩ = false ∧ u.frozen? ⟨b2, 0, none⟩ = false ∧ Bx2 w b1 b2 p q u :=
  ⟨h.1.cell, h.2.1.cell, h.1.free, h.2.1.free, h⟩
theorem Bx2.next {w u u' : World} {b1 b2 : Nat} {p q : S8} (h : Bx2 w b1 b2 p q u) (hB : Below u.heap.size u u') : Bx2 w b1 b2 p q u' :=
  ⟨h.1.of_below hB h.1.lt, h.2.1.of_below hB h.2.1.lt, h.2.2.trans (hB.mono h.2.2.size)⟩
end Go.Proofs.YtkajeepbelfpiaaGreatDoor
/- Read, Stat, Room, Waiting of the program's disk. -/
set_option maxRecDepth 100000
namespace Go.Proofs.YtkajeepbelfpiaaGreatDoor
open Go Go.RowKit
attribute [-go_sem] Sha.exec_store

theorem results_cell_tmp {P : Program} {fn : Func} {p q : Tmp} {ty : TypeId} (h : fn.results = #[.cell p ty, .tmp q]) (tmps : Array Value) (w : World) (g : Nat) (t : TypeId) (cs : Array Value) (fr : Nat × Nat) (d : TypeDesc)
    (hp : tmps.getD p undef = .pointer (some ⟨g, 0, none⟩)) (hg : w.heap[g]? = some (.cells cs t fr))
    (hu : P.underlying ty = some d) (hd : (match d with | .struct _ | .array _ _ => true | _ => false) = true) (hi : (P.info? ty).map (·.size) = some cs.size) (v : Value) (hv : tmps.getD q undef = v) :
    (results fn tmps).run P w = .ok (.tuple #[.agg cs, v]) w := by
  have hp' : tmps[p]?.getD undef = .pointer (some ⟨g, 0, none⟩) := by simpa using hp
  have hv' : tmps[q]?.getD undef = v := by simpa using hv
  simp [results, h, hp', hv', asAddr, run_loadVar_row w g t ty cs fr d hg hu hd hi, Result.andThen]
section
variable {w : World} {S : Nat → Prop} {b : Nat} {m : Dk} {mv md : Nat} {pv : Value} {vs : List Value} {sl : Nat → Hn}
theorem findL_in {l : List Fl} {p : S8} {i : Nat} (h : findL l p = some i) : l.getD i fl0 ∈ l := by
  have hi := findL_lt h
  rw [List.getD_eq_getElem?_getD, List.getElem?_eq_getElem hi]
  exact List.getElem_mem hi
set_option maxRecDepth 100000 in
set_option maxHeartbeats 4000000 in
theorem readD_any (h : Dp w S b m mv md pv vs sl) (hok : DkOk 300 m) (p : S8) : Calls Tryz.prog 75 #[.pointer (some ⟨b, 0, none⟩), .string (mkS p)] w fun e w' => ∃ v, e = .returned (.tuple #[v, .int .i64 (readN m p)]) ∧ w'.ownsRow w.heap.size 5 1 v ((readL m p).getD []).length (bytC ((readL m p).getD [])) ∧ Below w.heap.size w w' := by
  have c2 := h.cell 2
  simp at c2
  cases hf : findL m.seen p with
  | none =>
    have hl := look_none h.vis hf
    have HR := Lib.hid (show readL m p = none by unfold readL; rw [hf]; rfl)
    have HB := Lib.hid ((Below.refl w.heap.size w).alloc (Nat.le_refl _) (.cells #[.int .i64 0, .int .i64 0, .int .i64 0, .slice none 0 0] 196))
    have HN := Lib.hid (show readN m p = 8 by unfold readN; rw [HR.out]; rfl)
    clear h hf
    go_enter Tryz.func75, Tryz.ntmps75
    go_wp2
    go_ret2
    exact ⟨.slice none 0 0, by rw [HN.out]; rfl, by rw [HR.out]; exact ⟨rfl, .inl ⟨rfl, rfl⟩⟩, HB.out⟩
  | some i =>
    obtain ⟨x, hx⟩ : ∃ x, m.seen.getD i fl0 = x := ⟨_, rfl⟩
    have hl := look_some h.vis hf x hx
    have hxm : x.body < m.bodies.length := by rw [← hx]; exact hok.inS _ (findL_in hf)
    obtain ⟨b1, b2, b3, b4⟩ := h.bytes x.body hxm
    have hbb : (m.bodies.getD x.body []).length ≤ 300000 := hok.shortB x.body
    have HR := Lib.hid (show readL m p = some (m.bodies.getD x.body []) by unfold readL; rw [hf]; show some (bodyD m _) = _; rw [hx]; rfl)
    have hB := ((Below.refl w.heap.size w).alloc (Nat.le_refl _) (.cells #[.int .i64 x.size, .int .i64 x.time, .int .i64 x.chg, .slice (sl x.body).q (sl x.body).n (sl x.body).c] 196))
    have HC := Lib.hid (clone8_any (m.bodies.getD x.body []) (sl x.body).q (sl x.body).n (sl x.body).c (w.alloc (.cells #[.int .i64 x.size, .int .i64 x.time, .int .i64 x.chg, .slice (sl x.body).q (sl x.body).n (sl x.body).c] 196)) b1.symm (b2.of_below hB) b3 b4 (by omega))
    have k3 := box4_cell w 196 (.int .i64 x.size) (.int .i64 x.time) (.int .i64 x.chg) (.slice (sl x.body).q (sl x.body).n (sl x.body).c) 3
    simp at k3
    have HB := Lib.hid hB
    have HN := Lib.hid b1
    have HN2 := Lib.hid (show readN m p = 0 by unfold readN; rw [HR.out]; rfl)
    clear h hf b1 b2 b3 b4 hB hx
    go_enter Tryz.func75, Tryz.ntmps75
    go_wp2_with fail
    refine HC.out.mono ?_
    rintro e w2 ⟨v, rfl, hO, hB2⟩
    have HO := Lib.hid (own_lower hO (b2 := w.heap.size) HB.out.size)
    have HB2 := Lib.hid (HB.out.trans (hB2.mono HB.out.size))
    clear hO hB2
    go_wp2
    go_ret2
    refine ⟨v, by rw [HN2.out]; rfl, ?_, HB2.out⟩
    rw [HR.out]
    show w2.ownsRow _ _ _ _ (m.bodies.getD x.body []).length _
    rw [← HN.out]
    exact HO.out
def stampV (o : Option Fl) : Value := match o with
  | some f => .tuple #[.agg #[.int .i64 f.size, .int .i64 f.time, .int .i64 f.chg], .int .i64 0]
  | none => .tuple #[.agg #[.int .i64 0, .int .i64 0, .int .i64 0], .int .i64 8]
set_option maxRecDepth 100000 in
set_option maxHeartbeats 4000000 in
theorem stat_any (h : Dp w S b m mv md pv vs sl) (p : S8) : Calls Tryz.prog 76 #[.pointer (some ⟨b, 0, none⟩), .string (mkS p)] w fun e w' => e = .returned (stampV (fileL m p)) ∧ Below w.heap.size w w' := by
  have c2 := h.cell 2
  simp at c2
  have HLT := Lib.hid h.lt
  cases hf : findL m.seen p with
  | none =>
    have hB0 := (Below.refl w.heap.size w).alloc (Nat.le_refl _) (.cells #[.int .i64 0, .int .i64 0, .int .i64 0] 38)
    have hl := look_none (h.of_below hB0).vis hf
    have HR := Lib.hid (show stampV (fileL m p) = .tuple #[.agg #[.int .i64 0, .int .i64 0, .int .i64 0], .int .i64 8] by unfold fileL; rw [hf]; rfl)
    have c20 := (hB0.cell (p := ⟨b, 2, none⟩) h.lt).trans c2
    have HB := Lib.hid (hB0.alloc hB0.size (.cells #[.int .i64 0, .int .i64 0, .int .i64 0, .slice none 0 0] 196))
    clear h hf
    go_enter Tryz.func76, Tryz.ntmps76
    go_wp2
    refine bodyPost_ret (results_cell_tmp rfl _ _ w.heap.size 38 #[.int .i64 0, .int .i64 0, .int .i64 0] (0, 0) _ rfl (by rw [Below.heap_alloc _ _ _ (by rw [World.size_alloc]; omega)]; exact World.alloc_heap_new w _) Tryz.underlying38 rfl (by kernel_rfl) (.int .i64 8) rfl) rfl ?_
    exact ⟨by rw [HR.out], HB.out⟩
  | some i =>
    obtain ⟨x, hx⟩ : ∃ x, m.seen.getD i fl0 = x := ⟨_, rfl⟩
    have hB0 := (Below.refl w.heap.size w).alloc (Nat.le_refl _) (.cells #[.int .i64 0, .int .i64 0, .int .i64 0] 38)
    have hl := look_some (h.of_below hB0).vis hf x hx
    have HR := Lib.hid (show stampV (fileL m p) = .tuple #[.agg #[.int .i64 x.size, .int .i64 x.time, .int .i64 x.chg], .int .i64 0] by unfold fileL; rw [hf, ← hx]; rfl)
    have c20 := (hB0.cell (p := ⟨b, 2, none⟩) h.lt).trans c2
    have hB1 := (Below.refl w.heap.size w).alloc (Nat.le_refl _) (.cells #[.int .i64 x.size, .int .i64 x.time, .int .i64 x.chg] 38)
    have HB := Lib.hid (hB1.alloc hB1.size (.cells #[.int .i64 x.size, .int .i64 x.time, .int .i64 x.chg, .slice (sl x.body).q (sl x.body).n (sl x.body).c] 196))
    clear h hf hx hB1
    go_enter Tryz.func76, Tryz.ntmps76
    go_wp2
    refine bodyPost_ret (results_cell_tmp rfl _ _ w.heap.size 38 #[.int .i64 x.size, .int .i64 x.time, .int .i64 x.chg] (0, 0) _ rfl (by rw [Below.heap_alloc _ _ _ (by rw [World.size_alloc]; omega)]; exact World.alloc_heap_new w _) Tryz.underlying38 rfl (by kernel_rfl) (.int .i64 0) rfl) rfl ?_
    exact ⟨by rw [HR.out], HB.out⟩
set_option maxHeartbeats 1000000 in
theorem room_any (h : Dp w S b m mv md pv vs sl) : Calls Tryz.prog 178 #[.pointer (some ⟨b, 0, none⟩)] w fun e w' => e = .returned (.int .i64 m.room) ∧ w = w' := by
  have c0 := h.cell 0
  simp at c0
  clear h
  go_enter Tryz.func178, Tryz.ntmps178
  go_wp2
  go_ret
  exact ⟨rfl, rfl⟩
end
end Go.Proofs.YtkajeepbelfpiaaGreatDoor
/- Used and clashes of the program's disk: ranges over the map. -/
set_option maxRecDepth 100000
namespace Go.Proofs.YtkajeepbelfpiaaGreatDoor
open Go Go.RowKit
attribute [-go_sem] Sha.exec_store

theorem RngB.of_todo {w : World} {b r : Nat} {l todo todo2 : List (S8 × Value)} (h : RngB w b r l todo) (hp : todo.Perm todo2) : RngB w b r l todo2 := by
  obtain ⟨es, clock, since, seen, c0, h1, h2, h3, h4, h5, h6, h7⟩ := h
  exact ⟨es, clock, since, seen, c0, h1, h2, h3, h4, h5, h6, h7.trans (hp.map _)⟩
theorem ent_step {sl : Nat → Hn} {todo : List Fl} {k : S8} {v : Value} {t : List (S8 × Value)} (h : (todo.map (entV sl)).Perm ((k, v) :: t)) : ∃ f t2, todo.Perm (f :: t2) ∧ k = f.p ∧ v = fileV sl f ∧ t.Perm (t2.map (entV sl)) := by
  have hm : (k, v) ∈ todo.map (entV sl) := h.mem_iff.2 List.mem_cons_self
  obtain ⟨f, hf, e⟩ := List.mem_map.1 hm
  obtain ⟨a, c, rfl⟩ := List.append_of_mem hf
  have hp : (a ++ f :: c).Perm (f :: (a ++ c)) := List.perm_middle
  have e2 : (f.p, fileV sl f) = (k, v) := e
  injection e2 with e3 e4
  refine ⟨f, a ++ c, hp, e3.symm, e4.symm, ?_⟩
  have h2 := h.symm.trans (hp.map (entV sl))
  rw [List.map_cons, e] at h2
  exact h2.cons_inv
theorem wpl_nextE {P : Program} (w : World) {ops : Array Oper} {rest : List Oper} {o : Oper} {a : Go.Act} {Q : Exit → Go.Act → World → Prop} {b r : Nat} {l : List (S8 × Value)} {sl : Nat → Hn} {todo : List Fl} (hg : o.guard = none) (it : Operand) (hop : o.op = Op.next it false) (hit : a.eval it = .pointer (some ⟨r, 0, none⟩)) (h : RngB w b r l (todo.map (entV sl)))
    (hD : todo = [] → wpList P ops Q rest (a.put o.dst (.tuple #[.bool false])) w)
    (hM : ∀ f t2 w', todo.Perm (f :: t2) → RngB w' b r l (t2.map (entV sl)) → (Instr.entry (.pointer (some ⟨r, 0, none⟩))).run P w' = .ok (.tuple #[.string (mkS f.p), .agg #[.int .i64 f.size, .int .i64 f.time, .int .i64 f.chg, .slice (sl f.body).q (sl f.body).n (sl f.body).c]]) w' → w.grownBy w' (some r) → w'.heap.size = w.heap.size → wpList P ops Q rest (a.put o.dst (.tuple #[.bool true, .string (mkS f.p), .agg #[.int .i64 f.size, .int .i64 f.time, .int .i64 f.chg, .slice (sl f.body).q (sl f.body).n (sl f.body).c]])) w') : wpList P ops Q (o :: rest) a w := by
  refine wpl_next8 w hg it hop hit h (fun e => hD (List.map_eq_nil_iff.1 e)) fun p v todo' w' h1 _ h3 h4 h5 h6 => ?_
  obtain ⟨f, t2, hp2, rfl, rfl, hp3⟩ := ent_step h1
  exact hM f t2 w' hp2 (h3.of_todo hp3) h4 h5 h6
theorem sum_perm {l l' : List Int} (h : l.Perm l') : l.sum = l'.sum := by
  induction h with
  | nil => rfl
  | cons x _ ih => simp [ih]
  | swap x y l => simp only [List.sum_cons]; omega
  | trans _ _ h1 h2 => exact h1.trans h2
theorem sum_le {l : List Int} (h : ∀ x ∈ l, 0 ≤ x ∧ x ≤ 300000) : 0 ≤ l.sum ∧ l.sum ≤ (l.length : Int) * 300000 := by
  induction l with
  | nil => simp
  | cons x r ih =>
    have h1 := h x List.mem_cons_self
    have h2 := ih fun y hy => h y (List.mem_cons_of_mem _ hy)
    rw [List.sum_cons, List.length_cons]
    push_cast
    omega
theorem sum_cast (l : List Fl) (g : Fl → Nat) : ((l.map g).sum : Int) = (l.map fun f => (g f : Int)).sum := by
  induction l with
  | nil => rfl
  | cons x r ih => simp only [List.map_cons, List.sum_cons]; push_cast; rw [ih]
theorem used_sizes {m : Dk} (hz : SzOk m) : (usedL m : Int) = (m.seen.map Fl.size).sum := by
  unfold usedL
  rw [sum_cast]
  exact congrArg List.sum (List.map_congr_left fun f hf => (hz.seen f hf).symm)
theorem size_small {n : Nat} {m : Dk} (hz : SzOk m) (hok : DkOk n m) {f : Fl} (hf : f ∈ m.seen) : 0 ≤ f.size ∧ f.size ≤ 300000 := by
  rw [hz.seen f hf]
  have := hok.shortB f.body
  unfold bodyD
  omega
section
variable {w : World} {S : Nat → Prop} {b : Nat} {m : Dk} {mv md : Nat} {pv : Value} {vs : List Value} {sl : Nat → Hn}
set_option maxRecDepth 100000 in
set_option maxHeartbeats 4000000 in
theorem used_any (h : Dp w S b m mv md pv vs sl) (hok : DkOk 300 m) : Calls Tryz.prog 161 #[.pointer (some ⟨b, 0, none⟩)] w fun e w' => e = .returned (.int .i64 (usedL m : Int)) ∧ Below w.heap.size w w' := by
  have c2 := h.cell 2
  simp at c2
  have HV := Lib.hid h.vis
  have HU := Lib.hid (used_sizes h.sz)
  have HS := Lib.hid (fun f (hf : f ∈ m.seen) => size_small h.sz hok hf)
  have HN := Lib.hid hok.seen
  clear h
  go_enter Tryz.func161, Tryz.ntmps161
  go_wp2_with (first | (at_range; refine wpl_range8 _ rfl _ rfl mapT rfl HV.out ?_; intro w0 hR0 hB0 hz0) | go_in)
  go_frame
  go_loopw [3] (fun v wr => ∃ done todo : List Fl, m.seen.Perm (done ++ todo) ∧ v = .int .i64 ((done.map Fl.size).sum) ∧ RngB wr mv w.heap.size (m.seen.map (entV sl)) (todo.map (entV sl)) ∧ Below w.heap.size w wr) (fun _ wr => wr.rangeLeft mv w.heap.size)
  case atStart => exact ⟨[], m.seen, List.Perm.refl _, rfl, hR0, hB0⟩
  case round =>
    obtain ⟨done, todo, hperm, rfl, hR, hB⟩ := hrel
    have HPM := Lib.hid hperm
    have HB := Lib.hid hB
    clear hperm hB
    generalize hsum : (done.map Fl.size).sum = sm at *
    have HSM := Lib.hid hsum
    clear hsum
    have HRL := Lib.hid hR.left
    have HNW := Lib.hid hR.lt
    go_wp2_with (first | (at_next; refine wpl_nextE _ rfl _ rfl rfl hR ?_ ?_) | go_in)
    · intro htodo
      have HE := Lib.hid (show sm = (usedL m : Int) by
        rw [HU.out, ← HSM.out]
        have := HPM.out
        rw [htodo, List.append_nil] at this
        exact (sum_perm (this.map _)).symm)
      clear htodo hR
      go_wp2
      go_ret
      exact ⟨by rw [HE.out]; rfl, HB.out⟩
    · intro f t2 w1 hp1 hR1 hen hg1 hz1
      have hsd := sum_le (l := done.map Fl.size) (fun x hx => by
        obtain ⟨g, hg, rfl⟩ := List.mem_map.1 hx
        exact HS.out g (HPM.out.mem_iff.2 (List.mem_append_left _ hg)))
      have hfz := HS.out f (HPM.out.mem_iff.2 (List.mem_append_right _ (hp1.mem_iff.2 List.mem_cons_self)))
      have hln := HPM.out.length_eq
      have hlt := hp1.length_eq
      rw [List.length_append] at hln
      rw [List.length_map, HSM.out] at hsd
      have hNN := HN.out
      rw [List.length_cons] at hlt
      have hw : IntKind.i64.wrap (sm + f.size) = sm + f.size := by rw [IntKind.wrap_i64]; omega
      have HP1 := Lib.hid hp1
      have HB1 := Lib.hid (HB.out.grown hg1 HB.out.size (fun j hj => by cases hj; exact Nat.le_refl _))
      have HR2 := Lib.hid (hR1.of_below ((Below.refl _ _).alloc (Nat.le_refl _) (.cells #[.int .i64 f.size, .int .i64 f.time, .int .i64 f.chg, .slice (sl f.body).q (sl f.body).n (sl f.body).c] 196)))
      have HB2 := Lib.hid (HB1.out.alloc HB1.out.size (.cells #[.int .i64 f.size, .int .i64 f.time, .int .i64 f.chg, .slice (sl f.body).q (sl f.body).n (sl f.body).c] 196))
      clear hsd hfz hln hlt hNN hp1 hR hR1 hg1 hz1
      go_wp2
      go_roundw
      case rel =>
        refine ⟨f :: done, t2, HPM.out.trans ((HP1.out.append_left done).trans List.perm_middle), ?_, HR2.out, HB2.out⟩
        rw [List.map_cons, List.sum_cons, HSM.out, Int.add_comm]
      case measure => rw [HR2.out.left, HRL.out, List.length_map, List.length_map, HP1.out.length_eq]; simp
theorem clashes_perm {l l' : List Fl} (h : l.Perm l') (p but : S8) : clashesL l p but = clashesL l' p but := by
  unfold clashesL
  rw [Bool.eq_iff_iff, List.any_eq_true, List.any_eq_true]
  exact ⟨fun ⟨x, hx, e⟩ => ⟨x, h.mem_iff.1 hx, e⟩, fun ⟨x, hx, e⟩ => ⟨x, h.mem_iff.2 hx, e⟩⟩
set_option maxRecDepth 100000 in
set_option maxHeartbeats 4000000 in
theorem clashes_any {l : List Fl} (h : MpB w mv (l.map (entV sl))) (hs : ShortF l) (p but : S8) (hp : p.length < 100000) : Calls Tryz.prog 120 #[.map (some mv), .string (mkS p), .string (mkS but)] w fun e w' => e = .returned (.bool (clashesL l p but)) ∧ Below w.heap.size w w' := by
  have HV := Lib.hid h
  have HS := Lib.hid (shortF_iff.1 hs)
  clear h hs
  go_enter Tryz.func120, Tryz.ntmps120
  go_wp2_with (first | (at_range; refine wpl_range8 _ rfl _ rfl mapT rfl HV.out ?_; intro w0 hR0 hB0 hz0) | go_in)
  go_frame
  go_loopw [7] (fun _ wr => ∃ done todo : List Fl, l.Perm (done ++ todo) ∧ clashesL done p but = false ∧ RngB wr mv w.heap.size (l.map (entV sl)) (todo.map (entV sl)) ∧ Below w.heap.size w wr) (fun _ wr => wr.rangeLeft mv w.heap.size)
  case atStart => exact ⟨[], l, List.Perm.refl _, rfl, hR0, hB0⟩
  case round =>
    obtain ⟨done, todo, hperm, hno, hR, hB⟩ := hrel
    have HPM := Lib.hid hperm
    have HNO := Lib.hid hno
    have HB := Lib.hid hB
    clear hperm hB hno
    have HRL := Lib.hid hR.left
    have HNW := Lib.hid hR.lt
    go_wp2_with (first | (at_next; refine wpl_nextE _ rfl _ rfl rfl hR ?_ ?_) | go_in)
    · intro htodo
      have HE := Lib.hid (show clashesL l p but = false by
        have := HPM.out
        rw [htodo, List.append_nil] at this
        rw [clashes_perm this, HNO.out])
      clear htodo hR
      go_wp2
      go_ret
      exact ⟨by rw [HE.out]; rfl, HB.out⟩
    · intro f t2 w1 hp1 hR1 hen hg1 hz1
      have HIN := Lib.hid (HPM.out.mem_iff.2 (List.mem_append_right _ (hp1.mem_iff.2 List.mem_cons_self)))
      have HPL := Lib.hid (Nat.lt_of_le_of_lt (HS.out f HIN.out) (by decide : 100 < 100000))
      have HP1 := Lib.hid hp1
      have HB1 := Lib.hid (HB.out.grown hg1 HB.out.size (fun j hj => by cases hj; exact Nat.le_refl _))
      have HR1 := Lib.hid hR1
      clear hp1 hR hR1 hg1 hz1
      by_cases hb : f.p = but
      · have hq : (f.p == but) = true := by rw [hb]; simp
        have HC := Lib.hid (show clashesL (f :: done) p but = false by
          unfold clashesL; rw [List.any_cons, bne, hq]; exact HNO.out)
        clear hb
        go_wp2
        go_roundw
        case rel => exact ⟨f :: done, t2, HPM.out.trans ((HP1.out.append_left done).trans List.perm_middle), HC.out, HR1.out, HB1.out⟩
        case measure => rw [HR1.out.left, HRL.out, List.length_map, List.length_map, HP1.out.length_eq]; simp
      · have hq : (f.p == but) = false := by simpa using hb
        have HQ := Lib.hid hq
        have hcl : Calls Tryz.prog 166 #[.string (mkS f.p), .string (mkS p)] w1 fun e w' => Gives (.bool (clashL f.p p)) w1 e w' := clash_any f.p p w1 HPL.out hp
        obtain ⟨cv, hcv⟩ : ∃ cv, clashL f.p p = cv := ⟨_, rfl⟩
        rw [hcv] at hcl
        have HCL := Lib.hid hcl
        have HCV := Lib.hid hcv
        clear hb hcl hcv
        cases cv with
        | true =>
          have HE := Lib.hid (show clashesL l p but = true by
            unfold clashesL
            rw [List.any_eq_true]
            exact ⟨f, HIN.out, by rw [bne, HQ.out, HCV.out]; rfl⟩)
          go_wp2_with (first | (go_at_call 166; refine HCL.out.mono ?_; rintro e w2 ⟨rfl, hB2⟩; have HB2 := Lib.hid (HB1.out.trans (hB2.mono HB1.out.size)); clear hB2) | go_in)
          go_ret
          exact ⟨by rw [HE.out]; rfl, HB2.out⟩
        | false =>
          have HC := Lib.hid (show clashesL (f :: done) p but = false by
            unfold clashesL; rw [List.any_cons, bne, HQ.out, HCV.out]; exact HNO.out)
          go_wp2_with (first | (go_at_call 166; refine HCL.out.mono ?_; rintro e w2 ⟨rfl, hB2⟩; have HR2 := Lib.hid (HR1.out.of_below hB2); have HB2 := Lib.hid (HB1.out.trans (hB2.mono HB1.out.size)); clear hB2) | go_in)
          go_roundw
          case rel => exact ⟨f :: done, t2, HPM.out.trans ((HP1.out.append_left done).trans List.perm_middle), HC.out, HR2.out, HB2.out⟩
          case measure => rw [HR2.out.left, HRL.out, List.length_map, List.length_map, HP1.out.length_eq]; simp
end
end Go.Proofs.YtkajeepbelfpiaaGreatDoor
