/- Merged texts: Bys9, Fresh6, Rby10, Prb10. -/
import Derived.Deep.RegionHeld3
import Derived.Test.YtfemgkamgokjcaaDoorK1
import Derived.Test.YtfemgkamgokjcaaDoorRef6
import Derived.Test.YtfemgkamgokjcaaDoorK7
import Derived.Lib.ConvBytes
import Derived.Test.YtfemgkamgokjcaaDoorDig6
import Derived.Test.YtfemgkamgokjcaaDoorK2
import Derived.Test.YtfemgkamgokjcaaDoorK5
import Derived.Test.YtfemgkamgokjcaaDoorK8
import Derived.Test.YtfemgkamgokjcaaDoorK3
set_option linter.unusedSimpArgs false
set_option linter.unusedVariables false
/- Bytes of the reference: the encoding of a good vector. -/
set_option maxRecDepth 100000
namespace Go.Proofs.YtfemgkamgokjcaaDoor
open Go Go.RowKit
attribute [-go_sem] Sha.exec_store

attribute [local go_sem ↓] exec_boxA exec_loadA exec_indexA exec_allocA exec_storeA exec_buildA exec_eqlA exec_neqA exec_boxV exec_loadV exec_indexV exec_allocV exec_storeV exec_buildV exec_eqlV exec_neqV
attribute [local go_sem] boxA indexA storeNewA buildA eqlA neqA boxV indexV storeNewV buildV eqlV neqV
set_option maxRecDepth 100000 in
set_option maxHeartbeats 4000000 in
theorem refBytes9_any (f : Nat → Int) (hf : ∀ i, i < 16 → 0 ≤ f i ∧ f i ≤ 1099511627776) (w : World) : Calls Tryd.prog 33 #[vcV f] w (GivesB w (encV f)) := by
  have HST := Lib.hid (show Row (w.alloc (.cells (tab 16 (vf f)) 22)) w.heap.size 22 16 (vf f) ∧ Below w.heap.size w (w.alloc (.cells (tab 16 (vf f)) 22)) ∧ w.heap.size + 1 ≤ (w.alloc (.cells (tab 16 (vf f)) 22)).heap.size from ⟨Row.new w 22 16 (vf f), (Below.refl _ _).alloc (Nat.le_refl _) _, by rw [World.size_alloc]; exact Nat.le_refl _⟩)
  have HGF := Lib.hid hf
  clear hf
  go_enter Tryd.func33, Tryd.ntmps33
  go_wp2
  go_loopw [3, 4, 6] (fun sv sm si wr => ∃ i : Nat, i ≤ 16 ∧ sm = .int .i64 (cntV f i : Int) ∧ si = .int .i64 (i : Int) ∧ OwnB wr (w.heap.size + 1) sv (bodyV f i) ∧ Row wr w.heap.size 22 16 (vf f) ∧ Below w.heap.size w wr) (fun sv sm si _ => 16 - (intOf si).toNat)
  case atStart => exact ⟨0, Nat.zero_le _, rfl, rfl, ⟨rfl, .inl ⟨rfl, rfl⟩⟩, HST.out.1, HST.out.2.1⟩
  case round =>
    obtain ⟨i, hi, rfl, rfl, hO, hR, hB⟩ := hrel
    have HBW := Lib.hid hB
    have HRW := Lib.hid hR
    have hlt : w.heap.size < wr.heap.size := World.block_lt_of_cell? wr _ (hR.cell 0 (by decide))
    have hNs : w.heap.size + 1 ≤ wr.heap.size := hlt
    have hblen : (bodyV f i).length ≤ 7 * i := bodyV_len HGF.out i hi
    obtain ⟨p0, c0, hve, -⟩ := hO.shape
    subst hve
    have HO := Lib.hid hO
    clear hO hB HST
    by_cases h16 : i < 16
    · have z1 : (i : Int) < 16 := by omega
      have z2 : decide ((i : Int) < 16) = true := decide_eq_true z1
      have hw := i64v i h16
      have x1 : wr.cell? ⟨w.heap.size, i, none⟩ = some (.int .i64 (f i)) := hR.cell i h16
      have hfi := HGF.out i h16
      by_cases h0 : f i = 0
      · have HCT := Lib.hid (cntV_zero h0)
        have HBD := Lib.hid (bodyV_zero h0)
        rw [h0] at x1
        clear hR hfi h0
        go_wp2
        go_roundw
        case rel => exact ⟨i + 1, by omega, by rw [HCT.out], by go_num, by rw [HBD.out]; exact HO.out, HRW.out, HBW.out⟩
        case measure => simp [intOf]; omega
      · have HCT := Lib.hid (cntV_one h0)
        have HBD := Lib.hid (bodyV_one h0)
        obtain ⟨m, hm⟩ : ∃ m : Nat, f i = (m : Int) := ⟨(f i).toNat, by omega⟩
        rw [hm] at x1 h0 hfi
        rw [hm, Int.toNat_natCast] at HBD
        have d1 : ((m : Int) == 0) = false := by rw [beq_eq_false_iff_ne]; exact h0
        have d2 : ¬ (m : Int) = 0 := h0
        have hm40 : m ≤ 1099511627776 := by omega
        have hl1 := enc7_len 0 i (by show i < 128; omega)
        have hl2 := enc7_len40 hm40
        have HNI := Lib.hid (refNum i (by omega))
        have HNM := Lib.hid (refNum m (by omega))
        have hcw : IntKind.i64.wrap ((cntV f i : Int) + 1) = (cntV f i : Int) + 1 := by have := cntV_le f i; rw [IntKind.wrap_i64]; omega
        have HSS := Lib.hid (fun (u : World) (hu : Below (w.heap.size + 1) wr u) => (⟨by rw [hu.cell (by exact Nat.lt_succ_self _)]; exact x1, hu⟩ : u.cell? ⟨w.heap.size, i, none⟩ = some (.int .i64 (m : Int)) ∧ Below (w.heap.size + 1) wr u))
        clear hR hfi h0 hm hm40
        go_wp2
        have HX := Lib.hid (show Below (w.heap.size + 1) wr wr.drew from (Below.refl _ _).drew)
        have HO := Lib.hid (HO.out.of_below ((Below.refl _ _).drew))
        have HZ0 := Lib.hid hNs
        refine wp_region_noPanic ?_
        refine wp_region_held_drew (S := (fun u : World => u.cell? ⟨w.heap.size, i, none⟩ = some (.int .i64 (m : Int)) ∧ Below (w.heap.size + 1) wr u)) (by kernel_rfl) (HSS.out _ HX.out) (fun hHeld => ?_)
        generalize wr.drew = x0 at *
        refine wpAnyH_take (i := 0) (v := ?_) (by simp only [List.getElem?_toArray, List.getElem?_cons_succ, List.getElem?_cons_zero]; exact rfl) (by kernel_rfl) (by kernel_rfl) (by kernel_rfl) (fun _ _ _ h => h) (Or.inl ⟨by rfl, ?_⟩) (by assumption) ?_
        rotate_left 1
        · (intro w hSw; (try dsimp only at hSw); go_simp; try with_reducible rfl)
        try simp only [Act.put, List.setIfInBounds_toArray, List.set_cons_zero, List.set_cons_succ]
        refine wpAnyH_take (i := 1) (v := ?_) (by simp only [List.getElem?_toArray, List.getElem?_cons_succ, List.getElem?_cons_zero]; exact rfl) (by kernel_rfl) (by kernel_rfl) (by kernel_rfl) (fun _ _ _ h => h) (Or.inl ⟨by rfl, ?_⟩) (by assumption) ?_
        rotate_left 1
        · (intro w hSw; (try dsimp only at hSw); go_simp; try with_reducible rfl)
        try simp only [Act.put, List.setIfInBounds_toArray, List.set_cons_zero, List.set_cons_succ]
        refine wpAnyH_take (i := 4) (v := ?_) (by simp only [List.getElem?_toArray, List.getElem?_cons_succ, List.getElem?_cons_zero]; exact rfl) (by kernel_rfl) (by kernel_rfl) (by kernel_rfl) (fun _ _ _ h => h) (Or.inl ⟨by rfl, ?_⟩) (by assumption) ?_
        rotate_left 1
        · (intro w hSw; (try dsimp only at hSw); go_simp; try with_reducible rfl)
        try simp only [Act.put, List.setIfInBounds_toArray, List.set_cons_zero, List.set_cons_succ]
        refine wpAnyH_take (i := 5) (v := ?_) (by simp only [List.getElem?_toArray, List.getElem?_cons_succ, List.getElem?_cons_zero]; exact rfl) (by kernel_rfl) (by kernel_rfl) (by kernel_rfl) (fun _ _ _ h => h) (Or.inl ⟨by rfl, ?_⟩) (by assumption) ?_
        rotate_left 1
        · (intro w hSw; (try dsimp only at hSw); go_simp; try with_reducible rfl)
        try simp only [Act.put, List.setIfInBounds_toArray, List.set_cons_zero, List.set_cons_succ]
        refine wpAnyH_take (i := 6) (v := ?_) (by simp only [List.getElem?_toArray, List.getElem?_cons_succ, List.getElem?_cons_zero]; exact rfl) (by kernel_rfl) (by kernel_rfl) (by kernel_rfl) (fun _ _ _ h => h) (Or.inl ⟨by rfl, ?_⟩) (by assumption) ?_
        rotate_left 1
        · (intro w hSw; (try dsimp only at hSw); go_simp; try with_reducible rfl)
        try simp only [Act.put, List.setIfInBounds_toArray, List.set_cons_zero, List.set_cons_succ]
        refine wpAnyH_ready (rs := [2]) (by kernel_rfl) (by simp) ?_
        refine (AllReadyH.cons (by simp only [List.getElem?_toArray, List.getElem?_cons_succ, List.getElem?_cons_zero]; exact rfl) (fun K hK => ?_) AllReadyH.nil)
        go_simp
        refine (HNI.out _).mono ?_
        rintro e x2 ⟨v2, rfl, hO2, hB2⟩
        obtain ⟨p2, c2, rfl, hs2, hp2, hc2⟩ := hO2.shape
        have HX := Lib.hid (HX.out.trans (hB2.mono (Nat.le_trans HZ0.out HX.out.size)))
        have HO := Lib.hid (HO.out.of_below hB2)
        have HN2 := Lib.hid hO2
        have HS2 := Lib.hid (And.intro hs2 hp2)
        clear hO2 hB2 hs2 hp2 hc2
        go_wp2_with fail
        refine hK.out _ _ (HSS.out _ HX.out) (fun hHeld => ?_)
        clear hK K
        try simp only [Act.put, List.setIfInBounds_toArray, List.set_cons_zero, List.set_cons_succ]
        refine wpAnyH_ready (rs := [3]) (by kernel_rfl) (by simp) ?_
        refine (AllReadyH.cons (by simp only [List.getElem?_toArray, List.getElem?_cons_succ, List.getElem?_cons_zero]; exact rfl) (fun K hK => ?_) AllReadyH.nil)
        refine step_appendL _ rfl (.tmp 15) (.tmp 17) rfl (w.heap.size + 1) (.slice p0 (bodyV f i).length c0) (bodyV f i) rfl HO.out p2 _ c2 (enc7 i) rfl rfl HS2.out.1 HS2.out.2 (by first | omega | (simp only [List.length_append]; omega)) (Nat.le_trans HZ0.out HX.out.size) ?_
        rintro v3 x3 hO hg hor
        have HX := Lib.hid (HX.out.grown hg (Nat.le_trans HZ0.out HX.out.size) (fun j hj => (HO.out.lt j hj).1))
        have HO := Lib.hid hO
        clear hO hg hor
        refine hK.out _ _ (HSS.out _ HX.out) (fun hHeld => ?_)
        clear hK K
        try simp only [Act.put, List.setIfInBounds_toArray, List.set_cons_zero, List.set_cons_succ]
        refine wpAnyH_ready (rs := [7]) (by kernel_rfl) (by simp) ?_
        refine (AllReadyH.cons (by simp only [List.getElem?_toArray, List.getElem?_cons_succ, List.getElem?_cons_zero]; exact rfl) (fun K hK => ?_) AllReadyH.nil)
        go_simp
        refine (HNM.out _).mono ?_
        rintro e x7 ⟨v7, rfl, hO7, hB7⟩
        obtain ⟨p7, c7, rfl, hs7, hp7, hc7⟩ := hO7.shape
        have HX := Lib.hid (HX.out.trans (hB7.mono (Nat.le_trans HZ0.out HX.out.size)))
        have HO := Lib.hid (HO.out.of_below hB7)
        have HN7 := Lib.hid hO7
        have HS7 := Lib.hid (And.intro hs7 hp7)
        clear hO7 hB7 hs7 hp7 hc7
        go_wp2_with fail
        refine hK.out _ _ (HSS.out _ HX.out) (fun hHeld => ?_)
        clear hK K
        try simp only [Act.put, List.setIfInBounds_toArray, List.set_cons_zero, List.set_cons_succ]
        refine wpAnyH_ready (rs := [8]) (by kernel_rfl) (by simp) ?_
        refine (AllReadyH.cons (by simp only [List.getElem?_toArray, List.getElem?_cons_succ, List.getElem?_cons_zero]; exact rfl) (fun K hK => ?_) AllReadyH.nil)
        refine step_appendL _ rfl (.tmp 18) (.tmp 22) rfl (w.heap.size + 1) v3 (bodyV f i ++ enc7 i) rfl HO.out p7 _ c7 (enc7 m) rfl rfl HS7.out.1 HS7.out.2 (by first | omega | (simp only [List.length_append]; omega)) (Nat.le_trans HZ0.out HX.out.size) ?_
        rintro v8 x8 hO hg hor
        have HX := Lib.hid (HX.out.grown hg (Nat.le_trans HZ0.out HX.out.size) (fun j hj => (HO.out.lt j hj).1))
        have HO := Lib.hid hO
        clear hO hg hor
        refine hK.out _ _ (HSS.out _ HX.out) (fun hHeld => ?_)
        clear hK K
        try simp only [Act.put, List.setIfInBounds_toArray, List.set_cons_zero, List.set_cons_succ]
        refine wpAnyH_take (i := 9) (v := ?_) (by simp only [List.getElem?_toArray, List.getElem?_cons_succ, List.getElem?_cons_zero]; exact rfl) (by kernel_rfl) (by kernel_rfl) (by kernel_rfl) (fun _ _ _ h => h) (Or.inl ⟨by rfl, ?_⟩) (by assumption) ?_
        rotate_left 1
        · (intro w hSw; (try dsimp only at hSw); go_simp; try with_reducible rfl)
        try simp only [Act.put, List.setIfInBounds_toArray, List.set_cons_zero, List.set_cons_succ]
        refine wpAnyH_done (by kernel_rfl) ?_ _
        refine NoPanic.normal ?_
        obtain ⟨p8, c8, rfl, -⟩ := HO.out.shape
        go_wp2
        go_roundw
        case rel => exact ⟨i + 1, by omega, by rw [HCT.out]; go_num, by go_num, by rw [HBD.out]; exact HO.out, HRW.out.of_block (HX.out.block _ (by omega)), HBW.out.trans (HX.out.mono (by omega))⟩
        case measure => simp [intOf]; omega
    · have z1 : ¬ (i : Int) < 16 := by omega
      have z2 : decide ((i : Int) < 16) = false := decide_eq_false z1
      obtain rfl : i = 16 := by omega
      have hc16 := cntV_le f 16
      have HNC := Lib.hid (refNum (cntV f 16) (by omega))
      have hl3 := enc7_len 0 (cntV f 16) (by show _ < 128; omega)
      obtain ⟨q0, k0, hve, hS0, hP0, -⟩ := HO.out.shape
      injection hve with e1 e2 e3
      subst e1 e3
      have HS0 := Lib.hid (And.intro hS0 hP0)
      clear hR hS0 hP0 hc16
      go_wp2_with fail
      refine (HNC.out _).mono ?_
      rintro e w2 ⟨v2, rfl, hO2, hB2⟩
      have HO2 := Lib.hid hO2
      have HB2 := Lib.hid (HBW.out.trans (hB2.mono (by omega)))
      have HS2 := Lib.hid (HS0.out.1.of_below hB2)
      have hN2 : w.heap.size ≤ w2.heap.size := HB2.out.size
      have hL2 : wr.heap.size ≤ w2.heap.size := hB2.size
      clear hO2 hB2
      go_wp2_with (first | (refine wpl_append _ rfl (.tmp 26) (.tmp 27) rfl wr.heap.size v2 (enc7 (cntV f 16)) rfl HO2.out p0 _ c0 (bodyV f 16) rfl rfl HS2.out HS0.out.2 (by omega) hL2 ?_; rintro v3 w3 hO3 hg3; have HO3 := Lib.hid hO3; have HB3 := Lib.hid (HB2.out.grown hg3 hN2 (fun k hk => Nat.le_trans (by omega) (HO2.out.lt k hk).1)); clear hO3 hg3))
      go_wp2
      go_ret
      exact ⟨_, rfl, by have := HO3.out.lower (b2 := w.heap.size) (by omega); exact this, HB3.out⟩
end Go.Proofs.YtfemgkamgokjcaaDoor
/- Bytes that a call made and that may be written; a string as bytes. -/
set_option maxRecDepth 100000
namespace Go.Proofs.YtfemgkamgokjcaaDoor
open Go Go.RowKit
attribute [-go_sem] Sha.exec_store

/-- The bytes b lie at q, in a block from base on, and may be written. -/
structure Fresh (w : World) (base : Nat) (q : Option Addr) (c : Nat) (b : List (BitVec 8)) : Prop where
  sl : Sl w q b
  nil : q = none → c = 0
  le : b.length ≤ c
  new : 0 < b.length → ∀ d o, q = some ⟨d, o, none⟩ → base ≤ d ∧ d < w.heap.size
  free : ∀ j, j < b.length → ∀ d o, q = some ⟨d, o, none⟩ → w.frozen? ⟨d, o + j, none⟩ = false
section
variable {w w' : World} {base : Nat} {q : Option Addr} {c : Nat} {b : List (BitVec 8)}
theorem Fresh.keep (h : Fresh w base q c b) (hs : w.heap.size ≤ w'.heap.size) (k : ∀ d, base ≤ d → d < w.heap.size → w'.heap[d]? = w.heap[d]?) : Fresh w' base q c b := by
  have hk : ∀ d o, 0 < b.length → q = some ⟨d, o, none⟩ → w'.heap[d]? = w.heap[d]? := fun d o hb e => k d (h.new hb d o e).1 (h.new hb d o e).2
  refine ⟨fun j hj => ?_, h.nil, h.le, fun hb d o e => ⟨(h.new hb d o e).1, Nat.lt_of_lt_of_le (h.new hb d o e).2 hs⟩, fun j hj d o e => ?_⟩
  · obtain ⟨d, o, e, hx⟩ := h.sl j hj
    exact ⟨d, o, e, by rw [World.cell?_of_block (w := w) (hk d o (by omega) e)]; exact hx⟩
  · rw [World.frozen?_of_block (w := w) (hk d o (by omega) e)]
    exact h.free j hj d o e
theorem Fresh.lower (h : Fresh w base q c b) {b2 : Nat} (hb : b2 ≤ base) : Fresh w b2 q c b :=
  ⟨h.sl, h.nil, h.le, fun hl d o e => ⟨Nat.le_trans hb (h.new hl d o e).1, (h.new hl d o e).2⟩, h.free⟩
theorem Fresh.of_below (h : Fresh w base q c b) (k : Below w.heap.size w w') : Fresh w' base q c b := h.keep k.size fun d _ hd => k.block d hd
theorem Fresh.far (h : Fresh w base q c b) {y : Nat} (hy : y < base) (o : Nat) (v : Value) : Fresh (w.setCell ⟨y, o, none⟩ v) base q c b :=
  h.keep (by simp) fun d hd _ => Below.heap_setCell _ _ _ _ (by show d ≠ y; omega)
theorem Fresh.nothing (w : World) (base : Nat) : Fresh w base none 0 [] := ⟨Sl.nil _ _, fun _ => rfl, Nat.le_refl _, fun h => absurd h (Nat.lt_irrefl 0), fun j hj => absurd hj (Nat.not_lt_zero j)⟩
theorem Fresh.bt (h : Fresh w base q c b) (k n : Int) : Bt w ⟨k, n, b⟩ q c := ⟨h.sl, h.nil, h.le⟩
theorem OwnB.fresh {v : Value} (h : OwnB w base v b) : ∃ q c, v = .slice q b.length c ∧ Fresh w base q c b := by
  obtain ⟨q, c, rfl, hs, hp, hc⟩ := h.shape
  refine ⟨q, c, rfl, hs, hp, hc, fun _ d o e => h.lt d (by rw [e]; rfl), fun j hj d o e => ?_⟩
  rcases h.2 with ⟨hv, hl⟩ | ⟨g, cap, cur, hv, _, hg, _⟩
  · injection hv with e1 e2 e3
    rw [e1] at e; cases e
  · injection hv with e1 e2 e3
    rw [e1] at e
    injection e with e
    injection e with e4 e5
    subst e4
    simp only [World.frozen?, hg]
    simp
theorem Row.fresh {E : Nat} {T : TypeId} (h : Row w E T 32 (dgF b)) (hb : base ≤ E) (hl : b.length = 32) : Fresh w base (some ⟨E, 0, none⟩) 32 b :=
  ⟨Sl.row h (by omega) fun j hj => rfl, (fun e => by cases e), by omega, fun _ d o e => by injection e with e; injection e with e1 e2; subst e1; exact ⟨hb, h.lt⟩, fun j hj d o e => by injection e with e; injection e with e1 e2; subst e1; exact h.free _⟩
end
theorem strOf_size (b : List (BitVec 8)) : (strOf b).size = b.length := by simp [strOf, ByteArray.size]
theorem conv_bytes (w : World) (b : List (BitVec 8)) : ∃ c w', (convert 9 27 (.string (strOf b))).run Tryd.prog w = .ok (.slice (some ⟨w.heap.size, 0, none⟩) b.length c) w' ∧ Fresh w' w.heap.size (some ⟨w.heap.size, 0, none⟩) c b ∧ Below w.heap.size w w' := by
  have h := Go.Lib.run_convert_string_bytes (P := Tryd.prog) w 9 27 5 (strOf b) (u := .string) (by kernel_rfl) und35 (by kernel_rfl)
  rw [strOf_size] at h
  have hsz := Go.Lib.bytesWorld_size w 5 (strOf b)
  have hge := grownCap_ge w b.length 0 5
  refine ⟨_, _, h, ⟨fun j hj => ⟨w.heap.size, 0, rfl, ?_⟩, (fun e => by cases e), hge, fun _ d o e => ?_, fun j hj d o e => ?_⟩, ?_⟩
  · rw [Nat.zero_add, Go.Lib.bytesWorld_cell w 5 (strOf b) j (by rw [strOf_size]; exact hj), B_eq']
    congr 2
    simp [strOf, List.getD_eq_getElem?_getD, hj]
  · injection e with e
    injection e with e1 e2
    omega
  · injection e with e
    injection e with e1 e2
    subst e1 e2
    have hg := Go.Lib.bytesWorld_at_new w 5 (strOf b)
    simp only [World.frozen?, hg]
    have hcs : (Go.Lib.bytesCells w 5 (strOf b)).size = b.length + (grownCap w b.length 0 5 - b.length) := by
      simp [Go.Lib.bytesCells, strOf, ByteArray.size]
    simp [hcs]
    omega
  · exact ⟨rfl, rfl, rfl, by omega, fun k hk => Go.Lib.bytesWorld_at_old w 5 (strOf b) k hk⟩
end Go.Proofs.YtfemgkamgokjcaaDoor
/- The reference's bytes of a record. -/
set_option maxRecDepth 100000
namespace Go.Proofs.YtfemgkamgokjcaaDoor
open Go Go.RowKit

attribute [-go_sem] Sha.exec_store
/-- A record with its digests, as it is written. -/
def Rc.tOf (r : Rc) (ds : List By) : RcT := ⟨pB r.path, r.size.toNat, r.time.toNat, r.chg.toNat, r.ver, r.dead, r.whole, ds⟩
theorem sl_arrO (E o : Nat) (w : World) : (slT 23 (.pointer (some ⟨E, o, none⟩)) none none none).run Tryd.prog w = .ok (.value (.slice (some ⟨E, o, none⟩) 32 32)) w := by
  first
  | kernel_rfl
  | (unfold slT; simp [go_sem, Instr.sliceAt])
theorem one_sl (w : World) (x : BitVec 8) (v : Value) (hv : v = B x) : Sl (w.alloc (.cells #[v] 5)) (some ⟨w.heap.size, 0, none⟩) [x] := fun j hj => by
  obtain rfl : j = 0 := by simpa using hj
  refine ⟨_, 0, rfl, ?_⟩
  subst hv
  go_simp
theorem one_slB (w : World) : Sl (w.alloc (.cells #[.int .u8 1] 5)) (some ⟨w.heap.size, 0, none⟩) [1#8] := one_sl w 1#8 _ (by simp [B])
theorem zero_slB (w : World) : Sl (w.alloc (.cells #[.int .u8 0] 5)) (some ⟨w.heap.size, 0, none⟩) [0#8] := one_sl w 0#8 _ (by simp [B])
attribute [local go_sem ↓] exec_boxA exec_loadA exec_indexA exec_allocA exec_storeA exec_buildA exec_eqlA exec_neqA exec_boxV exec_loadV exec_indexV exec_allocV exec_storeV exec_buildV exec_eqlV exec_neqV
attribute [local go_sem] boxA indexA storeNewA buildA eqlA neqA boxV indexV storeNewV buildV eqlV neqV

attribute [local go_sem ↓] exec_boxM exec_load32 exec_alloc32 exec_store32F exec_slice exec_bs
attribute [local go_sem] boxM bsb1 sl_arrO st_dig
set_option maxRecDepth 100000 in
set_option maxHeartbeats 16000000 in
theorem refBytes10_any (p : S8) (s t c : Nat) (f : Nat → Int) (d : Bool) (wh : By) (q : Option Addr) (n cap : Nat) (ds : List By) (w : World) (h : DgAt w ⟨p, (s : Int), (t : Int), (c : Int), f, d, wh, q, n, cap⟩ ds)
    (hp : p.length ≤ 10000) (hs : s < 9223372036854775808) (ht : t < 9223372036854775808) (hc : c < 9223372036854775808) (hf : ∀ i, i < 16 → 0 ≤ f i ∧ f i ≤ 1099511627776) (hds : ds.length ≤ 10000) (hT : Tb w) :
    Calls Tryd.prog 17 #[rcV ⟨p, (s : Int), (t : Int), (c : Int), f, d, wh, q, n, cap⟩] w (GivesB w (encRc ⟨pB p, s, t, c, f, d, wh, ds⟩)) := by
  obtain ⟨b0, hb0⟩ : ∃ b, w.heap.size = b := ⟨_, rfl⟩
  obtain ⟨W1, hW1⟩ : ∃ W, w.alloc (.cells (tab 54 (rcF ⟨p, (s : Int), (t : Int), (c : Int), f, d, wh, q, n, cap⟩)) 26) = W := ⟨_, rfl⟩
  have hB1 : Below w.heap.size w W1 := by rw [← hW1]; exact below_newD _ _
  have hR1 : Row W1 b0 26 54 (rcF ⟨p, (s : Int), (t : Int), (c : Int), f, d, wh, q, n, cap⟩) := by rw [← hb0, ← hW1]; exact Row.new _ _ _ _
  obtain ⟨V, hV⟩ : ∃ V, rcV ⟨p, (s : Int), (t : Int), (c : Int), f, d, wh, q, n, cap⟩ = V := ⟨_, rfl⟩
  have x1 : (bxT 26 V).run Tryd.prog w = .ok (.value (.pointer (some ⟨w.heap.size, 0, none⟩))) W1 := by rw [← hV, ← hW1]; exact boxM w _
  rw [hV]
  have HB1 := Lib.hid hB1
  have HD := Lib.hid (fun (u : World) (hu : Below W1.heap.size W1 u) => (h.of_below hB1).of_below hu)
  have HR := Lib.hid (fun (u : World) (hu : Below W1.heap.size W1 u) => hR1.of_below hu)
  have HS := Lib.hid (fun (u : World) (hu : Below W1.heap.size W1 u) => (show u.cell? ⟨b0, 1, none⟩ = some (.int .i64 (s : Int)) ∧ u.cell? ⟨b0, 2, none⟩ = some (.int .i64 (t : Int)) ∧ u.cell? ⟨b0, 3, none⟩ = some (.int .i64 (c : Int)) ∧ Below W1.heap.size W1 u from ⟨rc_size (hR1.of_below hu), rc_time (hR1.of_below hu), rc_chg (hR1.of_below hu), hu⟩))
  have a0 := rc_path hR1
  dsimp only at a0
  have HTB := Lib.hid (fun (u : World) (hu : Below W1.heap.size W1 u) => hT.on (hB1.trans (hu.mono hB1.size)))
  have hn := h.n
  have hle := h.le
  have hwl := h.whole
  have hnil := h.nil
  have hea := h.each
  dsimp only at hn hle hwl hnil
  have HEA := Lib.hid hea
  have HWL := Lib.hid hwl
  have HNN := Lib.hid (And.intro hn (And.intro hle hds))
  have HNs := Lib.hid (fun u => refNum s hs u)
  have HNt := Lib.hid (fun u => refNum t ht u)
  have HNc := Lib.hid (fun u => refNum c hc u)
  have HNn := Lib.hid (fun u => refNum n (by omega) u)
  have HNV := Lib.hid (fun u => refBytes9_any f hf u)
  have HLV := Lib.hid (encV_len hf)
  have HPL := Lib.hid (pB_len p)
  have p9 : (128 : Nat) ^ 9 = 9223372036854775808 := by decide
  have HLEN := Lib.hid (show (enc7 (pB p).length).length ≤ 9 ∧ (pB p).length ≤ 10000 ∧ (enc7 s).length ≤ 9 ∧ (enc7 t).length ≤ 9 ∧ (enc7 c).length ≤ 9 ∧ (enc7 n).length ≤ 9 ∧ wh.length = 32 from ⟨enc7_len 8 _ (by rw [p9, pB_len]; omega), by rw [pB_len]; exact hp, enc7_len 8 _ (by rw [p9]; exact hs), enc7_len 8 _ (by rw [p9]; exact ht), enc7_len 8 _ (by rw [p9]; exact hc), enc7_len 8 _ (by rw [p9]; omega), hwl⟩)
  obtain ⟨cc, W2, hcv, hFr, hB2⟩ := conv_bytes W1 (pB p)
  rw [strOf_pB] at hcv
  have HX2 := Lib.hid hB2
  have HRB := Lib.hid (refBytes_any (pB p) (some ⟨W1.heap.size, 0, none⟩) (pB p).length cc W2 rfl hFr.sl (fun e => by cases e) (by rw [pB_len]; omega))
  obtain ⟨L3, hL3⟩ : ∃ L, enc7 (pB p).length ++ pB p = L := ⟨_, rfl⟩
  have HL3 := Lib.hid hL3
  rw [hL3] at HRB
  have HL3n := Lib.hid (show L3.length ≤ 10009 from by rw [← hL3]; have := HLEN.out; simp only [List.length_append]; omega)
  clear hB1 hR1 h hT hn hle hwl hnil hea hV hFr hB2 hL3 hds hf hs ht hc
  go_enter Tryd.func17, Tryd.ntmps17
  try rw [hb0]
  rw [hb0] at x1
  go_wp2_with fail
  clear x1 hW1 hcv a0
  refine HRB.out.mono ?_
  rintro e u3 ⟨v3, rfl, hO3, hB3⟩
  have hX3 := HX2.out.trans (hB3.mono HX2.out.size)
  have HX0 := Lib.hid (show Below W1.heap.size W1 u3.drew from hX3.drew)
  have HO0 := Lib.hid (show OwnB u3.drew W1.heap.size v3 L3 from (hO3.lower HX2.out.size))
  clear hX3 hO3 hB3
  go_wp2
  refine wp_region_noPanic ?_
  refine wp_region_held_drew (S := (fun u : World => u.cell? ⟨b0, 1, none⟩ = some (.int .i64 (s : Int)) ∧ u.cell? ⟨b0, 2, none⟩ = some (.int .i64 (t : Int)) ∧ u.cell? ⟨b0, 3, none⟩ = some (.int .i64 (c : Int)) ∧ Below W1.heap.size W1 u)) (by kernel_rfl) (HS.out _ HX0.out) (fun hHeld => ?_)
  have HX := Lib.hid HX0.out
  have HO := Lib.hid HO0.out
  generalize u3.drew = x at hHeld HX HO ⊢
  refine wpAnyH_take (i := 0) (v := ?_) (by simp only [List.getElem?_toArray, List.getElem?_cons_succ, List.getElem?_cons_zero]; exact rfl) (by kernel_rfl) (by kernel_rfl) (by kernel_rfl) (fun _ _ _ h => h) (Or.inl ⟨by rfl, ?_⟩) (by assumption) ?_
  rotate_left 1
  · (intro w hSw; (try dsimp only at hSw); go_simp; try with_reducible rfl)
  try simp only [Act.put, List.setIfInBounds_toArray, List.set_cons_zero, List.set_cons_succ]
  refine wpAnyH_take (i := 1) (v := ?_) (by simp only [List.getElem?_toArray, List.getElem?_cons_succ, List.getElem?_cons_zero]; exact rfl) (by kernel_rfl) (by kernel_rfl) (by kernel_rfl) (fun _ _ _ h => h) (Or.inl ⟨by rfl, ?_⟩) (by assumption) ?_
  rotate_left 1
  · (intro w hSw; (try dsimp only at hSw); go_simp; try with_reducible rfl)
  try simp only [Act.put, List.setIfInBounds_toArray, List.set_cons_zero, List.set_cons_succ]
  refine wpAnyH_take (i := 2) (v := ?_) (by simp only [List.getElem?_toArray, List.getElem?_cons_succ, List.getElem?_cons_zero]; exact rfl) (by kernel_rfl) (by kernel_rfl) (by kernel_rfl) (fun _ _ _ h => h) (Or.inl ⟨by rfl, ?_⟩) (by assumption) ?_
  rotate_left 1
  · (intro w hSw; (try dsimp only at hSw); go_simp; try with_reducible rfl)
  try simp only [Act.put, List.setIfInBounds_toArray, List.set_cons_zero, List.set_cons_succ]
  refine wpAnyH_take (i := 5) (v := ?_) (by simp only [List.getElem?_toArray, List.getElem?_cons_succ, List.getElem?_cons_zero]; exact rfl) (by kernel_rfl) (by kernel_rfl) (by kernel_rfl) (fun _ _ _ h => h) (Or.inl ⟨by rfl, ?_⟩) (by assumption) ?_
  rotate_left 1
  · (intro w hSw; (try dsimp only at hSw); go_simp; try with_reducible rfl)
  try simp only [Act.put, List.setIfInBounds_toArray, List.set_cons_zero, List.set_cons_succ]
  refine wpAnyH_take (i := 6) (v := ?_) (by simp only [List.getElem?_toArray, List.getElem?_cons_succ, List.getElem?_cons_zero]; exact rfl) (by kernel_rfl) (by kernel_rfl) (by kernel_rfl) (fun _ _ _ h => h) (Or.inl ⟨by rfl, ?_⟩) (by assumption) ?_
  rotate_left 1
  · (intro w hSw; (try dsimp only at hSw); go_simp; try with_reducible rfl)
  try simp only [Act.put, List.setIfInBounds_toArray, List.set_cons_zero, List.set_cons_succ]
  refine wpAnyH_take (i := 9) (v := ?_) (by simp only [List.getElem?_toArray, List.getElem?_cons_succ, List.getElem?_cons_zero]; exact rfl) (by kernel_rfl) (by kernel_rfl) (by kernel_rfl) (fun _ _ _ h => h) (Or.inl ⟨by rfl, ?_⟩) (by assumption) ?_
  rotate_left 1
  · (intro w hSw; (try dsimp only at hSw); go_simp; try with_reducible rfl)
  try simp only [Act.put, List.setIfInBounds_toArray, List.set_cons_zero, List.set_cons_succ]
  refine wpAnyH_take (i := 10) (v := ?_) (by simp only [List.getElem?_toArray, List.getElem?_cons_succ, List.getElem?_cons_zero]; exact rfl) (by kernel_rfl) (by kernel_rfl) (by kernel_rfl) (fun _ _ _ h => h) (Or.inl ⟨by rfl, ?_⟩) (by assumption) ?_
  rotate_left 1
  · (intro w hSw; (try dsimp only at hSw); go_simp; try with_reducible rfl)
  try simp only [Act.put, List.setIfInBounds_toArray, List.set_cons_zero, List.set_cons_succ]
  refine wpAnyH_ready (rs := [3]) (by kernel_rfl) (by simp) ?_
  refine (AllReadyH.cons (by simp only [List.getElem?_toArray, List.getElem?_cons_succ, List.getElem?_cons_zero]; exact rfl) (fun K hK => ?_) AllReadyH.nil)
  go_simp
  refine (HNs.out x).mono ?_
  rintro e x_3 ⟨vk, rfl, hOk, hbk⟩
  have hltk := hOk.lt
  obtain ⟨p13, c13, rfl, hsk, hpk, -⟩ := hOk.shape
  have HX := Lib.hid (HX.out.trans (hbk.mono HX.out.size))
  have HP3 := Lib.hid (show Sl x_3 p13 (enc7 s) ∧ (p13 = none → c13 = 0) ∧ ∀ cc oo, p13 = some ⟨cc, oo, none⟩ → (v3 : Value).ownBlock ≠ some cc ∧ cc < x_3.heap.size from ⟨hsk, hpk, fun cc oo e => ⟨fun h => by have h1 := (HO.out.lt cc h).2; have h2 := (hltk cc (by rw [e]; rfl)).1; omega, (hltk cc (by rw [e]; rfl)).2⟩⟩)
  have HO := Lib.hid (HO.out.of_below hbk)
  clear hOk hbk hltk hsk hpk
  go_wp2_with fail
  refine hK.out _ _ (HS.out _ HX.out) (fun hHeld => ?_)
  clear hK K
  try simp only [Act.put, List.setIfInBounds_toArray, List.set_cons_zero, List.set_cons_succ]
  refine wpAnyH_ready (rs := [4]) (by kernel_rfl) (by simp) ?_
  refine (AllReadyH.cons (by simp only [List.getElem?_toArray, List.getElem?_cons_succ, List.getElem?_cons_zero]; exact rfl) (fun K hK => ?_) AllReadyH.nil)
  refine step_appendL x_3 rfl (.tmp 10) (.tmp 13) rfl W1.heap.size v3 L3 rfl HO.out p13 _ c13 (enc7 s) rfl rfl HP3.out.1 HP3.out.2.1 (by have := HLEN.out; have := HL3n.out; (try simp only [List.length_append]); omega) HX.out.size ?_
  rintro vo4 x_3_4 hOk hgk hok
  have hbk : Below W1.heap.size x_3 x_3_4 := (Below.refl _ _).grown hgk HX.out.size (fun kk hk => (HO.out.lt kk hk).1)
  have HX := Lib.hid (HX.out.trans hbk)
  have HO := Lib.hid hOk
  clear hOk hgk hok hbk
  refine hK.out _ _ (HS.out _ HX.out) (fun hHeld => ?_)
  clear hK K
  try simp only [Act.put, List.setIfInBounds_toArray, List.set_cons_zero, List.set_cons_succ]
  refine wpAnyH_ready (rs := [7]) (by kernel_rfl) (by simp) ?_
  refine (AllReadyH.cons (by simp only [List.getElem?_toArray, List.getElem?_cons_succ, List.getElem?_cons_zero]; exact rfl) (fun K hK => ?_) AllReadyH.nil)
  go_simp
  refine (HNt.out x_3_4).mono ?_
  rintro e x_3_4_7 ⟨vk, rfl, hOk, hbk⟩
  have hltk := hOk.lt
  obtain ⟨p17, c17, rfl, hsk, hpk, -⟩ := hOk.shape
  have HX := Lib.hid (HX.out.trans (hbk.mono HX.out.size))
  have HP7 := Lib.hid (show Sl x_3_4_7 p17 (enc7 t) ∧ (p17 = none → c17 = 0) ∧ ∀ cc oo, p17 = some ⟨cc, oo, none⟩ → (vo4 : Value).ownBlock ≠ some cc ∧ cc < x_3_4_7.heap.size from ⟨hsk, hpk, fun cc oo e => ⟨fun h => by have h1 := (HO.out.lt cc h).2; have h2 := (hltk cc (by rw [e]; rfl)).1; omega, (hltk cc (by rw [e]; rfl)).2⟩⟩)
  have HO := Lib.hid (HO.out.of_below hbk)
  clear hOk hbk hltk hsk hpk
  go_wp2_with fail
  refine hK.out _ _ (HS.out _ HX.out) (fun hHeld => ?_)
  clear hK K
  try simp only [Act.put, List.setIfInBounds_toArray, List.set_cons_zero, List.set_cons_succ]
  refine wpAnyH_ready (rs := [8]) (by kernel_rfl) (by simp) ?_
  refine (AllReadyH.cons (by simp only [List.getElem?_toArray, List.getElem?_cons_succ, List.getElem?_cons_zero]; exact rfl) (fun K hK => ?_) AllReadyH.nil)
  refine step_appendL x_3_4_7 rfl (.tmp 14) (.tmp 17) rfl W1.heap.size vo4 (L3 ++ enc7 s) rfl HO.out p17 _ c17 (enc7 t) rfl rfl HP7.out.1 HP7.out.2.1 (by have := HLEN.out; have := HL3n.out; (try simp only [List.length_append]); omega) HX.out.size ?_
  rintro vo8 x_3_4_7_8 hOk hgk hok
  have hbk : Below W1.heap.size x_3_4_7 x_3_4_7_8 := (Below.refl _ _).grown hgk HX.out.size (fun kk hk => (HO.out.lt kk hk).1)
  have HX := Lib.hid (HX.out.trans hbk)
  have HO := Lib.hid hOk
  clear hOk hgk hok hbk
  refine hK.out _ _ (HS.out _ HX.out) (fun hHeld => ?_)
  clear hK K
  try simp only [Act.put, List.setIfInBounds_toArray, List.set_cons_zero, List.set_cons_succ]
  refine wpAnyH_ready (rs := [11]) (by kernel_rfl) (by simp) ?_
  refine (AllReadyH.cons (by simp only [List.getElem?_toArray, List.getElem?_cons_succ, List.getElem?_cons_zero]; exact rfl) (fun K hK => ?_) AllReadyH.nil)
  go_simp
  refine (HNc.out x_3_4_7_8).mono ?_
  rintro e x_3_4_7_8_11 ⟨vk, rfl, hOk, hbk⟩
  have hltk := hOk.lt
  obtain ⟨p21, c21, rfl, hsk, hpk, -⟩ := hOk.shape
  have HX := Lib.hid (HX.out.trans (hbk.mono HX.out.size))
  have HP11 := Lib.hid (show Sl x_3_4_7_8_11 p21 (enc7 c) ∧ (p21 = none → c21 = 0) ∧ ∀ cc oo, p21 = some ⟨cc, oo, none⟩ → (vo8 : Value).ownBlock ≠ some cc ∧ cc < x_3_4_7_8_11.heap.size from ⟨hsk, hpk, fun cc oo e => ⟨fun h => by have h1 := (HO.out.lt cc h).2; have h2 := (hltk cc (by rw [e]; rfl)).1; omega, (hltk cc (by rw [e]; rfl)).2⟩⟩)
  have HO := Lib.hid (HO.out.of_below hbk)
  clear hOk hbk hltk hsk hpk
  go_wp2_with fail
  refine hK.out _ _ (HS.out _ HX.out) (fun hHeld => ?_)
  clear hK K
  try simp only [Act.put, List.setIfInBounds_toArray, List.set_cons_zero, List.set_cons_succ]
  refine wpAnyH_ready (rs := [12]) (by kernel_rfl) (by simp) ?_
  refine (AllReadyH.cons (by simp only [List.getElem?_toArray, List.getElem?_cons_succ, List.getElem?_cons_zero]; exact rfl) (fun K hK => ?_) AllReadyH.nil)
  refine step_appendL x_3_4_7_8_11 rfl (.tmp 18) (.tmp 21) rfl W1.heap.size vo8 ((L3 ++ enc7 s) ++ enc7 t) rfl HO.out p21 _ c21 (enc7 c) rfl rfl HP11.out.1 HP11.out.2.1 (by have := HLEN.out; have := HL3n.out; (try simp only [List.length_append]); omega) HX.out.size ?_
  rintro vo12 x_3_4_7_8_11_12 hOk hgk hok
  have hbk : Below W1.heap.size x_3_4_7_8_11 x_3_4_7_8_11_12 := (Below.refl _ _).grown hgk HX.out.size (fun kk hk => (HO.out.lt kk hk).1)
  have HX := Lib.hid (HX.out.trans hbk)
  have HO := Lib.hid hOk
  clear hOk hgk hok hbk
  refine hK.out _ _ (HS.out _ HX.out) (fun hHeld => ?_)
  clear hK K
  try simp only [Act.put, List.setIfInBounds_toArray, List.set_cons_zero, List.set_cons_succ]
  refine wpAnyH_take (i := 13) (v := ?_) (by simp only [List.getElem?_toArray, List.getElem?_cons_succ, List.getElem?_cons_zero]; exact rfl) (by kernel_rfl) (by kernel_rfl) (by kernel_rfl) (fun _ _ _ h => h) (Or.inl ⟨by rfl, ?_⟩) (by assumption) ?_
  rotate_left 1
  · (intro w hSw; (try dsimp only at hSw); go_simp; try with_reducible rfl)
  try simp only [Act.put, List.setIfInBounds_toArray, List.set_cons_zero, List.set_cons_succ]
  refine wpAnyH_done (by kernel_rfl) ?_ _
  refine NoPanic.normal ?_
  have HX := Lib.hid HX.out
  have HO := Lib.hid HO.out
  clear hHeld
  obtain ⟨xx, hxx⟩ : ∃ xx, x_3_4_7_8_11_12 = xx := ⟨_, rfl⟩
  rw [hxx] at HX HO ⊢
  clear hxx
  obtain ⟨v4, hv4⟩ : ∃ v, vo12 = v := ⟨_, rfl⟩
  rw [hv4] at HO ⊢
  clear hv4
  obtain ⟨L6, hL6⟩ : ∃ L, ((L3 ++ enc7 s) ++ enc7 t) ++ enc7 c = L := ⟨_, rfl⟩
  have HL6 := Lib.hid hL6
  have HL6n := Lib.hid (show L6.length ≤ 10036 from by rw [← hL6]; have := HLEN.out; have := HL3n.out; simp only [List.length_append]; omega)
  rw [hL6] at HO
  clear hL6
  go_wp2_with fail
  have a4 := loadVT vtA (rc_ver (HR.out _ HX.out))
  go_wp2_with fail
  refine (HNV.out _).mono ?_
  rintro e x3 ⟨vv, rfl, hOv, hBv⟩
  obtain ⟨pv, cv, rfl, hsv, hpv, -⟩ := hOv.shape
  have hX3 := HX.out.trans (hBv.mono HX.out.size)
  have HO3 := Lib.hid (HO.out.of_below hBv)
  have hlv := HLV.out
  have hl6 := HL6n.out
  clear a4 HX HO hOv hBv HNV
  go_wp2_with (first
  | (refine wpl_appendL x3 rfl (.tmp 23) (.tmp 26) rfl W1.heap.size v4 (L6) rfl HO3.out pv _ cv (encV f) rfl rfl hsv hpv (by have := HLEN.out; (try simp only [List.length_append, List.length_cons, List.length_nil]); omega) (hX3).size ?_
     rintro v5 x5 hO9 hg9 -
     have HXn := Lib.hid ((hX3).grown hg9 (hX3).size (fun k hk => ((HO3.out).lt k hk).1))
     have HOn := Lib.hid hO9
     clear hO9 hg9
     have HX5 := HXn
     have HO5 := HOn
     have a5 := rc_dead (HR.out _ HX5.out)
     dsimp only at a5
     clear HXn HOn)
  | (refine wpl_appendL (x5.alloc (.cells #[.int .u8 1] 5)) rfl (.tmp 30) (.tmp 31) rfl W1.heap.size v5 (L6 ++ encV f) rfl (HO5.out.of_below (below_newR x5 (.cells #[.int .u8 1] 5))) (some ⟨x5.heap.size, 0, none⟩) 1 1 [1#8] rfl rfl (one_slB x5) (fun e => by cases e) (by have := HLEN.out; (try simp only [List.length_append, List.length_cons, List.length_nil]); omega) (HX5.out.trans ((below_newR x5 (.cells #[.int .u8 1] 5)).mono HX5.out.size)).size ?_
     rintro v7 x7 hO9 hg9 -
     have HXn := Lib.hid ((HX5.out.trans ((below_newR x5 (.cells #[.int .u8 1] 5)).mono HX5.out.size)).grown hg9 (HX5.out.trans ((below_newR x5 (.cells #[.int .u8 1] 5)).mono HX5.out.size)).size (fun k hk => (((HO5.out.of_below (below_newR x5 (.cells #[.int .u8 1] 5)))).lt k hk).1))
     have HOn := Lib.hid hO9
     clear hO9 hg9
     have hl9 : ((L6 ++ encV f) ++ [1#8]).length ≤ 20000 := by simp only [List.length_append, List.length_cons, List.length_nil]; omega
     obtain ⟨L9, hL9, HOn⟩ : ∃ L, (L6 ++ encV f) ++ [1#8] = L ∧ Hid (OwnB x7 W1.heap.size v7 L) := ⟨_, rfl, HOn⟩
     rw [hL9] at hl9
     have HL9 := Lib.hid hL9
     clear hL9
     obtain ⟨pz, cz, rfl, hsz, hpz, -⟩ := HOn.out.shape))
  · skip
    have hdd : d = true := by assumption
    subst hdd
    refine (refSum1_any _ pz _ cz _ rfl hsz hpz (HTB.out _ HXn.out) (by omega)).mono ?_
    rintro e x8 ⟨rfl, hB8⟩
    have hX8 := HXn.out.trans (hB8.mono HXn.out.size)
    have hO8 := HOn.out.of_below hB8
    have hdl : (digL L9).length = 32 := digL_len _
    clear hB8
    obtain ⟨dg, hdg⟩ : ∃ x, digL L9 = x := ⟨_, rfl⟩
    have HDG := Lib.hid hdg
    rw [hdg] at hdl
    have st9 := st_dig x8 x8.heap.size dg rfl
    have HX9 := Lib.hid (hX8.trans ((below_newR x8 (.cells (tab 32 (dgF dg)) 23)).mono hX8.size))
    have HO9 := Lib.hid (hO8.of_below (below_newR x8 (.cells (tab 32 (dgF dg)) 23)))
    have hs9 : Sl (x8.alloc (.cells (tab 32 (dgF dg)) 23)) (some ⟨x8.heap.size, 0, none⟩) dg := ((Row.new x8 23 32 (dgF dg)).fresh (base := x8.heap.size) (Nat.le_refl _) hdl).sl
    clear hX8 hO8
    rw [hdg]
    clear hdg HXn HOn
    go_wp2_with (first
    | (refine wpl_appendL (x8.alloc (.cells (tab 32 (dgF dg)) 23)) rfl (.tmp 61) (.tmp 62) rfl W1.heap.size (.slice pz L9.length cz) (L9) rfl HO9.out (some ⟨x8.heap.size, 0, none⟩) 32 32 dg hdl rfl hs9 (fun e => by cases e) (by have := HLEN.out; (try simp only [List.length_append, List.length_cons, List.length_nil]); omega) (HX9.out).size ?_
       rintro v10 x10 hO9 hg9 -
       have HXn := Lib.hid ((HX9.out).grown hg9 (HX9.out).size (fun k hk => ((HO9.out).lt k hk).1))
       have HOn := Lib.hid hO9
       clear hO9 hg9
    ))
    have hbd : bodyRc ⟨pB p, s, t, c, f, true, wh, ds⟩ = L9 := by unfold bodyRc; dsimp only; rw [if_pos rfl, HL3.out, HL6.out, HL9.out]
    have HFIN := Lib.hid (show OwnB x10 w.heap.size v10 (encRc ⟨pB p, s, t, c, f, true, wh, ds⟩) from by unfold encRc; rw [hbd, HDG.out]; exact HOn.out.lower HB1.out.size)
    have HBF := Lib.hid (HB1.out.trans (HXn.out.mono HB1.out.size))
    clear hbd HXn HOn
    go_ret
    exact ⟨_, rfl, HFIN.out, HBF.out⟩
  · skip
    have hdd : d = false := by first | assumption | (simpa using (by assumption : ¬ d = true))
    subst hdd
    have hwl32 := HWL.out
    go_wp2_with fail
    have HX := Lib.hid HX5.out.drew
    have HO := Lib.hid (HO5.out.of_below ((Below.refl _ _).drew))
    refine wp_region_noPanic ?_
    refine wp_region_held_drew (S := (fun u : World => Below W1.heap.size W1 u)) (by kernel_rfl) (HX.out) (fun hHeld => ?_)
    generalize x5.drew = x6 at hHeld HX HO ⊢
    refine wpAnyH_take (i := 0) (v := ?_) (by simp only [List.getElem?_toArray, List.getElem?_cons_succ, List.getElem?_cons_zero]; exact rfl) (by kernel_rfl) (by kernel_rfl) (by kernel_rfl) (fun _ _ _ h => h) (Or.inl ⟨by rfl, ?_⟩) (by assumption) ?_
    rotate_left 1
    · (intro w hSw; (try dsimp only at hSw); go_simp; try with_reducible rfl)
    try simp only [Act.put, List.setIfInBounds_toArray, List.set_cons_zero, List.set_cons_succ]
    refine wpAnyH_take (i := 3) (v := ?_) (by simp only [List.getElem?_toArray, List.getElem?_cons_succ, List.getElem?_cons_zero]; exact rfl) (by kernel_rfl) (by kernel_rfl) (by kernel_rfl) (fun _ _ _ h => h) (Or.inl ⟨by rfl, ?_⟩) (by assumption) ?_
    rotate_left 1
    · (intro w hSw; (try dsimp only at hSw); go_simp; try with_reducible rfl)
    try simp only [Act.put, List.setIfInBounds_toArray, List.set_cons_zero, List.set_cons_succ]
    refine wpAnyH_take (i := 4) (v := ?_) (by simp only [List.getElem?_toArray, List.getElem?_cons_succ, List.getElem?_cons_zero]; exact rfl) (by kernel_rfl) (by kernel_rfl) (by kernel_rfl) (fun _ _ _ h => h) (Or.inl ⟨by rfl, ?_⟩) (by assumption) ?_
    rotate_left 1
    · (intro w hSw; (try dsimp only at hSw); go_simp; try with_reducible rfl)
    try simp only [Act.put, List.setIfInBounds_toArray, List.set_cons_zero, List.set_cons_succ]
    refine wpAnyH_ready (rs := [1]) (by kernel_rfl) (by simp) ?_
    refine (AllReadyH.cons (by simp only [List.getElem?_toArray, List.getElem?_cons_succ, List.getElem?_cons_zero]; exact rfl) (fun K hK => ?_) AllReadyH.nil)
    go_simp
    have HSL := Lib.hid (zero_slB x6)
    have HX := Lib.hid (HX.out.trans ((below_newR x6 (.cells #[.int .u8 0] 5)).mono HX.out.size))
    have HO := Lib.hid (HO.out.of_below (below_newR x6 (.cells #[.int .u8 0] 5)))
    refine hK.out _ _ HX.out (fun hHeld => ?_)
    generalize hgx : x6.alloc (.cells #[.int .u8 0] 5) = x7 at HSL HX HO hHeld ⊢
    clear hK K
    try simp only [Act.put, List.setIfInBounds_toArray, List.set_cons_zero, List.set_cons_succ]
    refine wpAnyH_ready (rs := [2]) (by kernel_rfl) (by simp) ?_
    refine (AllReadyH.cons (by simp only [List.getElem?_toArray, List.getElem?_cons_succ, List.getElem?_cons_zero]; exact rfl) (fun K hK => ?_) AllReadyH.nil)
    refine step_appendL x7 rfl (.tmp 33) (.tmp 34) rfl W1.heap.size v5 (L6 ++ encV f) rfl HO.out (some ⟨x6.heap.size, 0, none⟩) 1 1 [0#8] rfl rfl HSL.out (fun e => by cases e) (by have := HLEN.out; (try simp only [List.length_append, List.length_cons, List.length_nil]); omega) HX.out.size ?_
    rintro v8 x8 hO9 hg9 -
    have HX := Lib.hid (HX.out.grown hg9 HX.out.size (fun k hk => (HO.out.lt k hk).1))
    have HO := Lib.hid hO9
    clear hO9 hg9
    refine hK.out _ _ HX.out (fun hHeld => ?_)
    clear hK K
    try simp only [Act.put, List.setIfInBounds_toArray, List.set_cons_zero, List.set_cons_succ]
    refine wpAnyH_ready (rs := [5]) (by kernel_rfl) (by simp) ?_
    refine (AllReadyH.cons (by simp only [List.getElem?_toArray, List.getElem?_cons_succ, List.getElem?_cons_zero]; exact rfl) (fun K hK => ?_) AllReadyH.nil)
    refine step_appendL x8 rfl (.tmp 35) (.tmp 37) rfl W1.heap.size v8 ((L6 ++ encV f) ++ [0#8]) rfl HO.out (some ⟨b0, 21, none⟩) 32 32 wh hwl32 rfl (rc_whole (HR.out _ HX.out) hwl32) (fun e => by cases e) (by have := HLEN.out; (try simp only [List.length_append, List.length_cons, List.length_nil]); omega) HX.out.size ?_
    rintro v9 x9 hO9 hg9 -
    have HX := Lib.hid (HX.out.grown hg9 HX.out.size (fun k hk => (HO.out.lt k hk).1))
    have HO := Lib.hid hO9
    clear hO9 hg9
    refine hK.out _ _ HX.out (fun hHeld => ?_)
    clear hK K
    try simp only [Act.put, List.setIfInBounds_toArray, List.set_cons_zero, List.set_cons_succ]
    refine wpAnyH_take (i := 6) (v := ?_) (by simp only [List.getElem?_toArray, List.getElem?_cons_succ, List.getElem?_cons_zero]; exact rfl) (by kernel_rfl) (by kernel_rfl) (by kernel_rfl) (fun _ _ _ h => h) (Or.inl ⟨by rfl, ?_⟩) (by assumption) ?_
    rotate_left 1
    · (intro w hSw; (try dsimp only at hSw); go_simp; try with_reducible rfl)
    try simp only [Act.put, List.setIfInBounds_toArray, List.set_cons_zero, List.set_cons_succ]
    refine wpAnyH_done (by kernel_rfl) ?_ _
    refine NoPanic.normal ?_
    clear hHeld HSL hgx
    obtain ⟨L8, hL8, HO⟩ : ∃ L, ((L6 ++ encV f) ++ [0#8]) ++ wh = L ∧ Hid (OwnB x9 W1.heap.size v9 L) := ⟨_, rfl, HO⟩
    have HL8 := Lib.hid hL8
    have hl8 : L8.length ≤ 19000 := by rw [← hL8]; simp only [List.length_append, List.length_cons, List.length_nil]; have := HLEN.out; omega
    have a7 := rc_blocks (HR.out _ HX.out)
    dsimp only at a7
    clear hL8
    go_wp2_with fail
    refine (HNn.out _).mono ?_
    rintro e x10 ⟨vn, rfl, hOn, hBn⟩
    obtain ⟨pn, cn, rfl, hsn, hpn, -⟩ := hOn.shape
    have hX10 := HX.out.trans (hBn.mono HX.out.size)
    have HO10 := Lib.hid (HO.out.of_below hBn)
    clear a7 hOn hBn
    go_wp2_with (first
    | (refine wpl_appendL x10 rfl (.tmp 39) (.tmp 43) rfl W1.heap.size v9 (L8) rfl HO10.out pn _ cn (enc7 n) rfl rfl hsn hpn (by have := HLEN.out; (try simp only [List.length_append, List.length_cons, List.length_nil]); omega) (hX10).size ?_
       rintro v11 x11 hO9 hg9 -
       have HXn := Lib.hid ((hX10).grown hg9 (hX10).size (fun k hk => ((HO10.out).lt k hk).1))
       have HOn := Lib.hid hO9
       clear hO9 hg9
       obtain ⟨L9, hL9, HO11⟩ : ∃ L, L8 ++ enc7 n = L ∧ Hid (OwnB x11 W1.heap.size v11 L) := ⟨_, rfl, HOn⟩
       have HL9 := Lib.hid hL9
       have hl9 : L9.length ≤ 20000 := by rw [← hL9]; simp only [List.length_append]; have := HLEN.out; omega
       have HX11 := HXn
       have a8 := rc_blocks (HR.out _ HX11.out)
       dsimp only at a8
       clear HXn HOn hL9))
    go_loopw [3, 4, 48] (fun sv s4 si wr => ∃ i : Nat, i ≤ n ∧ si = .int .i64 (i : Int) ∧ OwnB wr W1.heap.size sv (L9 ++ (ds.take i).flatten) ∧ Below W1.heap.size W1 wr) (fun _ _ si _ => n - (intOf si).toNat)
    case atStart => exact ⟨0, Nat.zero_le _, rfl, by rw [List.take_zero, List.flatten_nil, List.append_nil]; exact HO11.out, HX11.out⟩
    case round =>
      obtain ⟨i, hi, rfl, hO, hB⟩ := hrel
      obtain ⟨pz, cz, hve, hsq, hpz, -⟩ := hO.shape
      subst hve
      have HSQ := Lib.hid hsq
      clear hsq
      have HXr := Lib.hid hB
      have HOr := Lib.hid hO
      clear hO hB
      by_cases hlt : i < n
      · have z1 : (i : Int) < (n : Int) := by omega
        have z2 : decide ((i : Int) < (n : Int)) = true := decide_eq_true z1
        have hn0 := HNN.out.1
        have hil : i < ds.length := by omega
        obtain ⟨c1, o1, e1, -, hcell, h32⟩ := (HD.out _ HXr.out).at i hil
        dsimp only at e1
        have a9 := rc_blocks (HR.out _ HXr.out)
        dsimp only at a9
        rw [e1] at a9
        have hnc : n ≤ cap := HNN.out.2.1
        have hn4 := HNN.out.2.2
        obtain ⟨di, hdi⟩ : ∃ x, ds.getD i [] = x := ⟨_, rfl⟩
        rw [hdi] at hcell h32
        have htk : (ds.take (i + 1)).flatten = (ds.take i).flatten ++ di := by
          rw [← hdi, List.take_add_one, List.flatten_append, List.getElem?_eq_getElem hil, List.getD_eq_getElem?_getD, List.getElem?_eq_getElem hil]
          simp
        have htl : (ds.take i).flatten.length ≤ 320000 := by
          rw [flat_len32 (fun d hd => HEA.out d (List.mem_of_mem_take hd)), List.length_take]
          omega
        have hsi : Sl wr (some ⟨c1, o1 + i * 32, none⟩) di := fun j hj => ⟨c1, o1 + i * 32, rfl, by rw [show o1 + i * 32 + j = o1 + 32 * i + j by omega]; exact hcell j (by omega)⟩
        have w3 : IntKind.i64.wrap ((i : Int) + 1) = (i : Int) + 1 := by rw [IntKind.wrap_i64]; omega
        have HTK := Lib.hid htk
        clear htk hdi hcell e1 a8 hil hn0
        go_wp2_with (first
        | (refine wpl_appendL wr rfl (.tmp 51) (.tmp 56) rfl W1.heap.size (.slice pz (L9 ++ (ds.take i).flatten).length cz) (L9 ++ (ds.take i).flatten) rfl HOr.out (some ⟨c1, o1 + i * 32, none⟩) 32 32 di h32 rfl hsi (fun e => by cases e) (by have := HLEN.out; (try simp only [List.length_append, List.length_cons, List.length_nil]); omega) (HXr.out).size ?_
           rintro v12 x12 hO9 hg9 -
           have HXn := Lib.hid ((HXr.out).grown hg9 (HXr.out).size (fun k hk => ((HOr.out).lt k hk).1))
           have HOn := Lib.hid hO9
           clear hO9 hg9
        ))
        go_roundw
        case rel => exact ⟨i + 1, by omega, by go_num, by rw [HTK.out, ← List.append_assoc]; exact HOn.out, HXn.out⟩
        case measure => simp [intOf]; omega
      · have z1 : ¬ (i : Int) < (n : Int) := by omega
        have z2 : decide ((i : Int) < (n : Int)) = false := decide_eq_false z1
        have hin : i = ds.length := by have := HNN.out.1; omega
        have hwd : (ds.take i).flatten = ds.flatten := by rw [hin, List.take_length]
        rw [hwd] at HOr HSQ ⊢
        clear hwd hin
        obtain ⟨L10, hL10⟩ : ∃ L, L9 ++ ds.flatten = L := ⟨_, rfl⟩
        rw [hL10] at HOr HSQ ⊢
        have HL10 := Lib.hid hL10
        have hl10 : L10.length ≤ 400000 := by rw [← hL10, List.length_append, flat_len32 HEA.out]; have := HNN.out.2.2; omega
        have HOn := HOr
        have HXn := HXr
        have hsz := HSQ.out
        clear hL10 HXr HOr a8 HSQ
        go_wp2_with fail
        refine (refSum1_any _ pz _ cz _ rfl hsz hpz (HTB.out _ HXn.out) (by omega)).mono ?_
        rintro e x8 ⟨rfl, hB8⟩
        have hX8 := HXn.out.trans (hB8.mono HXn.out.size)
        have hO8 := HOn.out.of_below hB8
        have hdl : (digL L10).length = 32 := digL_len _
        clear hB8
        obtain ⟨dg, hdg⟩ : ∃ x, digL L10 = x := ⟨_, rfl⟩
        have HDG := Lib.hid hdg
        rw [hdg] at hdl
        have st9 := st_dig x8 x8.heap.size dg rfl
        have HX9 := Lib.hid (hX8.trans ((below_newR x8 (.cells (tab 32 (dgF dg)) 23)).mono hX8.size))
        have HO9 := Lib.hid (hO8.of_below (below_newR x8 (.cells (tab 32 (dgF dg)) 23)))
        have hs9 : Sl (x8.alloc (.cells (tab 32 (dgF dg)) 23)) (some ⟨x8.heap.size, 0, none⟩) dg := ((Row.new x8 23 32 (dgF dg)).fresh (base := x8.heap.size) (Nat.le_refl _) hdl).sl
        clear hX8 hO8
        rw [hdg]
        clear hdg HXn HOn
        go_wp2_with (first
        | (refine wpl_appendL (x8.alloc (.cells (tab 32 (dgF dg)) 23)) rfl (.tmp 61) (.tmp 62) rfl W1.heap.size (.slice pz L10.length cz) (L10) rfl HO9.out (some ⟨x8.heap.size, 0, none⟩) 32 32 dg hdl rfl hs9 (fun e => by cases e) (by have := HLEN.out; (try simp only [List.length_append, List.length_cons, List.length_nil]); omega) (HX9.out).size ?_
           rintro v10 x10 hO9 hg9 -
           have HXn := Lib.hid ((HX9.out).grown hg9 (HX9.out).size (fun k hk => ((HO9.out).lt k hk).1))
           have HOn := Lib.hid hO9
           clear hO9 hg9
        ))
        have hbd : bodyRc ⟨pB p, s, t, c, f, false, wh, ds⟩ = L10 := by unfold bodyRc; dsimp only; rw [if_neg (by simp), HL3.out, HL6.out, ← HL10.out, ← HL9.out, ← HL8.out, HNN.out.1]; simp only [List.append_assoc]
        have HFIN := Lib.hid (show OwnB x10 w.heap.size v10 (encRc ⟨pB p, s, t, c, f, false, wh, ds⟩) from by unfold encRc; rw [hbd, HDG.out]; exact HOn.out.lower HB1.out.size)
        have HBF := Lib.hid (HB1.out.trans (HXn.out.mono HB1.out.size))
        clear hbd HXn HOn
        go_ret
        exact ⟨_, rfl, HFIN.out, HBF.out⟩
end Go.Proofs.YtfemgkamgokjcaaDoor
/- What record.Parse tells of the bytes of a record. -/
set_option maxRecDepth 100000
namespace Go.Proofs.YtfemgkamgokjcaaDoor
open Go Go.RowKit
attribute [-go_sem] Sha.exec_store

theorem veq_congr {f g h : Nat → Int} (e : ∀ i, i < 16 → f i = g i) : veq f h = veq g h := by
  rw [Bool.eq_iff_iff, veq_iff, veq_iff]
  exact ⟨fun x i hi => (e i hi).symm.trans (x i hi), fun x i hi => (e i hi).trans (x i hi)⟩
theorem gdV_congr {f g : Nat → Int} (e : ∀ i, i < 16 → f i = g i) : gdV f = gdV g := by
  rw [Bool.eq_iff_iff, gdV_iff, gdV_iff]
  exact ⟨fun x i hi => by rw [← e i hi]; exact x i hi, fun x i hi => by rw [e i hi]; exact x i hi⟩
theorem goodR_ver (r : Rc) {g : Nat → Int} (e : ∀ i, i < 16 → g i = r.ver i) : goodR { r with ver := g } = goodR r := by
  unfold goodR rfE okV
  dsimp only
  rw [veq_congr e, gdV_congr e]
theorem rcV_ver (r : Rc) {g : Nat → Int} (e : ∀ i, i < 16 → g i = r.ver i) : rcV { r with ver := g } = rcV r := by
  unfold rcV
  congr 1
  refine tab_congr fun i hi => ?_
  unfold rcF
  dsimp only
  by_cases h : i < 20 ∧ 4 ≤ i
  · rw [e (i - 4) (by omega)]
  · by_cases h2 : i < 20
    · have : i = 0 ∨ i = 1 ∨ i = 2 ∨ i = 3 := by omega
      rcases this with rfl | rfl | rfl | rfl <;> rfl
    · have h0 : ¬ i = 0 := by omega
      have h1 : ¬ i = 1 := by omega
      have h3 : ¬ i = 2 := by omega
      have h4 : ¬ i = 3 := by omega
      simp only [h0, h1, h2, h3, h4, if_false]
/-- What is read of a record's bytes with another digest. -/
theorem parseC_other {r : RcT} (h : RcW r) (d : By) (hd : d.length = 32) (hne : d ≠ digL (bodyRc r)) : parseC (bodyRc r ++ d) = (11, none) := by
  obtain ⟨g, hg, -⟩ := takeRc_back h d
  unfold parseC
  rw [hg]
  dsimp only
  rw [if_pos hd, List.length_append, hd, Nat.add_sub_cancel, List.take_left]
  have : deq (digL (bodyRc r)) d = false := by
    cases e : deq (digL (bodyRc r)) d with
    | false => rfl
    | true => exact absurd ((deq_iff (digL_len _) hd).1 e).symm hne
  rw [this]
  rfl
/-- What is read of a record's bytes. -/
theorem parseC_back {r : RcT} (h : RcW r) : ∃ g, (∀ j, j < 16 → g j = r.ver j) ∧ parseC (encRc r) = if goodT (r.nrm g) then (0, some (r.nrm g)) else (1, none) := by
  obtain ⟨g, hg, hgf⟩ := takeRc_back h (digL (bodyRc r))
  refine ⟨g, hgf, ?_⟩
  unfold parseC encRc
  rw [hg]
  dsimp only
  rw [if_pos (digL_len _), List.length_append, digL_len, Nat.add_sub_cancel, List.take_left, deq_self, if_pos rfl]
/-- The last byte of a record's bytes changed. -/
theorem encRc_set (r : RcT) (y : BitVec 8) : (encRc r).set ((encRc r).length - 1) y = bodyRc r ++ (digL (bodyRc r)).set 31 y := by
  unfold encRc
  rw [List.length_append, digL_len, List.set_append_right _ _ (by omega), show (bodyRc r).length + 32 - 1 - (bodyRc r).length = 31 by omega]
theorem parseC_set {r : RcT} (h : RcW r) (y : BitVec 8) (hy : y ≠ (encRc r).getD ((encRc r).length - 1) 0#8) : parseC ((encRc r).set ((encRc r).length - 1) y) = (11, none) := by
  rw [encRc_set]
  refine parseC_other h _ (by rw [List.length_set, digL_len]) fun e => hy ?_
  have h1 : ((digL (bodyRc r)).set 31 y)[31]? = (digL (bodyRc r))[31]? := by rw [e]
  rw [List.getElem?_set_self (by rw [digL_len]; decide)] at h1
  unfold encRc
  rw [List.getD_eq_getElem?_getD, List.length_append, digL_len, List.getElem?_append_right (by omega), show (bodyRc r).length + 32 - 1 - (bodyRc r).length = 31 by omega, ← h1]
  rfl
/-- The record that the program keeps of a record, its blocks' digests gone if it is deleted. -/
def Rc.cut (r : Rc) : Rc := if r.dead then { r with whole := z32, q := none, n := 0, cap := 0 } else r
theorem cut_whole {r : Rc} (h : r.whole.length = 32) : r.cut.whole.length = 32 := by
  unfold Rc.cut
  split
  · exact z32_len
  · exact h
def Rc.text (r : Rc) (ds : List By) : RcT := ⟨pB r.path, r.size.toNat, r.time.toNat, r.chg.toNat, r.ver, r.dead, r.whole, ds⟩
theorem text_W {w : World} {r : Rc} {ds : List By} (h : DgAt w r ds) (hp : r.path.length ≤ 100) (hn : r.n ≤ 64) (hs : 0 ≤ r.size ∧ r.size < 9223372036854775808) (ht : 0 ≤ r.time ∧ r.time < 9223372036854775808) (hc : 0 ≤ r.chg ∧ r.chg < 9223372036854775808) (hf : ∀ i, i < 16 → 0 ≤ r.ver i ∧ r.ver i ≤ 1099511627776) : RcW (r.text ds) :=
  ⟨by show (pB r.path).length ≤ 100; rw [pB_len]; exact hp, by show r.size.toNat < _; omega, by show r.time.toNat < _; omega, by show r.chg.toNat < _; omega, hf, fun _ => h.whole, fun _ => by have := h.n; show ds.length ≤ 64; omega, fun _ => h.each⟩
/-- What is read is the record, its blocks elsewhere. -/
theorem nrm_rc {w : World} {r : Rc} {ds : List By} (h : DgAt w r ds) (hs : 0 ≤ r.size) (ht : 0 ≤ r.time) (hc : 0 ≤ r.chg) (g : Nat → Int) (q : Option Addr) (cap : Nat) :
    ((r.text ds).nrm g).rc q cap = { (r.cut.mov q cap) with ver := g } := by
  have hn := h.n
  obtain ⟨p, s, t, c, f, d, wh, q0, n, c0⟩ := r
  dsimp only at hs ht hc hn
  unfold Rc.text RcT.nrm RcT.rc Rc.cut Rc.mov
  dsimp only
  cases d with
  | true => simp only [if_pos, pS_pB, Int.toNat_of_nonneg hs, Int.toNat_of_nonneg ht, Int.toNat_of_nonneg hc, List.length_nil]
  | false => simp only [Bool.false_eq_true, if_false, pS_pB, Int.toNat_of_nonneg hs, Int.toNat_of_nonneg ht, Int.toNat_of_nonneg hc, hn]
theorem goodT_cut {w : World} {r : Rc} {ds : List By} (h : DgAt w r ds) (hs : 0 ≤ r.size) (ht : 0 ≤ r.time) (hc : 0 ≤ r.chg) {g : Nat → Int} (e : ∀ i, i < 16 → g i = r.ver i) : goodT ((r.text ds).nrm g) = goodR r.cut := by
  unfold goodT
  rw [nrm_rc h hs ht hc]
  have e2 : ∀ i, i < 16 → g i = (r.cut.mov none 0).ver i := fun i hi => by rw [e i hi]; unfold Rc.cut Rc.mov; split <;> rfl
  rw [goodR_ver _ e2]
  rfl
theorem DgAt.ver {w : World} {r : Rc} {ds : List By} {g : Nat → Int} (h : DgAt w { r with ver := g } ds) : DgAt w r ds := ⟨h.n, h.lie, h.each, h.nil, h.le, h.whole⟩
theorem mov_back (r : Rc) (q : Option Addr) (cap : Nat) : (r.mov q cap).mov r.q r.cap = r := rfl
/-- A byte of a buffer of one's own is put. -/
theorem own_set {w : World} {base n cap : Nat} {q : Option Addr} {l : By} (h : OwnB w base (.slice q n cap) l) (k : Nat) (hk : k < l.length) :
    ∃ g, q = some ⟨g, 0, none⟩ ∧ base ≤ g ∧ g < w.heap.size ∧ w.frozen? ⟨g, k, none⟩ = false ∧ w.cell? ⟨g, k, none⟩ = some (B (l.getD k 0#8)) ∧ ∀ z, Sl (w.setCell ⟨g, k, none⟩ (B z)) q (l.set k z) := by
  obtain ⟨p', c', hv, hs, -, -⟩ := h.shape
  injection hv with e1 e2 e3
  subst e1 e2 e3
  have hlt := h.lt
  rcases h.2 with ⟨-, hl⟩ | ⟨g, cap', cur, hv2, h1, hg, -⟩
  · simp at hl
    subst hl
    exact absurd hk (Nat.not_lt_zero _)
  · injection hv2 with f1 f2 f3
    subst f1
    have hcell : ∀ j, j < l.length → w.cell? ⟨g, j, none⟩ = some (B (l.getD j 0#8)) := fun j hj => by
      obtain ⟨c, o, e, hc⟩ := hs j hj
      injection e with e
      injection e with e4 e5
      subst e4 e5
      rw [Nat.zero_add] at hc
      exact hc
    refine ⟨g, rfl, h1, (hlt g rfl).2, by simp only [World.frozen?, hg]; simp, hcell k hk, fun z j hj => ?_⟩
    rw [List.length_set] at hj
    refine ⟨g, 0, rfl, ?_⟩
    rw [Nat.zero_add]
    by_cases e : j = k
    · subst e
      rw [World.cell?_setCell_same _ _ _ (hcell j hj), List.getD_eq_getElem?_getD, List.getElem?_set_self hj]
      rfl
    · rw [World.cell?_setCell_other _ _ _ _ (by intro h; simp only [Addr.mk.injEq] at h; omega), hcell j hj, List.getD_eq_getElem?_getD, List.getD_eq_getElem?_getD, List.getElem?_set_ne (by omega)]
theorem encRc_len {r : RcT} (h : RcW r) : (encRc r).length ≤ 9000 ∧ 32 ≤ (encRc r).length := by
  obtain ⟨h1, h2, h3, h4, h5, h6, h7, h8⟩ := h
  obtain ⟨path, size, time, chg, ver, dead, whole, ds⟩ := r
  dsimp only at *
  have p9 : (128 : Nat) ^ 9 = 9223372036854775808 := by decide
  have k1 := enc7_len 8 path.length (by rw [p9]; omega)
  have k2 := enc7_len 8 size (by rw [p9]; exact h2)
  have k3 := enc7_len 8 time (by rw [p9]; exact h3)
  have k4 := enc7_len 8 chg (by rw [p9]; exact h4)
  have k5 := encV_len h5
  unfold encRc bodyRc
  dsimp only
  cases dead with
  | true =>
    rw [if_pos rfl]
    simp only [List.length_append, List.length_cons, List.length_nil, digL_len]
    omega
  | false =>
    rw [if_neg (by simp)]
    have k6 := h6 rfl
    have k7 := h7 rfl
    have k8 := enc7_len 8 ds.length (by rw [p9]; omega)
    simp only [List.length_append, List.length_cons, List.length_nil, digL_len, flat_len32 (h8 rfl)]
    omega
end Go.Proofs.YtfemgkamgokjcaaDoor
