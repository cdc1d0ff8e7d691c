/- Merged texts: Bys9, Fresh6, Rby10, Prb10, Awake6, Cuts6W, WrtP6, WrnP6, WrbP6, Nzr9. -/
import Derived.Deep.RegionHeld3
import Derived.Test.YtfemgkamgokjcaaGreatDoorK1
import Derived.Test.YtfemgkamgokjcaaGreatDoorRef6
import Derived.Test.YtfemgkamgokjcaaGreatDoorK6
import Derived.Lib.ConvBytes
import Derived.Test.YtfemgkamgokjcaaGreatDoorDig6
import Derived.Test.YtfemgkamgokjcaaGreatDoorK2
import Derived.Test.YtfemgkamgokjcaaGreatDoorK4
import Derived.Test.YtfemgkamgokjcaaGreatDoorK7
import Derived.Test.YtfemgkamgokjcaaGreatDoorK3
import Derived.Test.YtfemgkamgokjcaaGreatDoorCode6
import Derived.Test.YtfemgkamgokjcaaGreatDoorBytes
import Derived.Test.YtfemgkamgokjcaaGreatDoorTake6
import Derived.Lib.AppendStr
import Derived.Deep.RegionLaw
import Derived.Lib.Hide
import Derived.Test.YtfemgkamgokjcaaGreatDoorRngP
import Derived.Test.YtfemgkamgokjcaaGreatDoorVec9
import Derived.Test.YtfemgkamgokjcaaGreatDoorCmp9
set_option linter.unusedSimpArgs false
set_option linter.unusedVariables false
/- Bytes of the reference: the encoding of a good vector. -/
set_option maxRecDepth 100000
namespace Go.Proofs.YtfemgkamgokjcaaGreatDoor
open Go Go.RowKit
attribute [-go_sem] Sha.exec_store

attribute [local go_sem ↓] exec_boxA exec_loadA exec_indexA exec_allocA exec_storeA exec_buildA exec_eqlA exec_neqA exec_boxV exec_loadV exec_indexV exec_allocV exec_storeV exec_buildV exec_eqlV exec_neqV
attribute [local go_sem] boxA indexA storeNewA buildA eqlA neqA boxV indexV storeNewV buildV eqlV neqV
set_option maxRecDepth 100000 in
set_option maxHeartbeats 4000000 in
theorem refBytes9_any (f : Nat → Int) (hf : ∀ i, i < 16 → 0 ≤ f i ∧ f i ≤ 1099511627776) (w : World) : Calls Tryz.prog 46 #[vcV f] w (GivesB w (encV f)) := by
  have HST := Lib.hid (show Row (w.alloc (.cells (tab 16 (vf f)) 22)) w.heap.size 22 16 (vf f) ∧ Below w.heap.size w (w.alloc (.cells (tab 16 (vf f)) 22)) ∧ w.heap.size + 1 ≤ (w.alloc (.cells (tab 16 (vf f)) 22)).heap.size from ⟨Row.new w 22 16 (vf f), (Below.refl _ _).alloc (Nat.le_refl _) _, by rw [World.size_alloc]; exact Nat.le_refl _⟩)
  have HGF := Lib.hid hf
  clear hf
  go_enter Tryz.func46, Tryz.ntmps46
  go_wp2
  go_loopw [3, 4, 6] (fun sv sm si wr => ∃ i : Nat, i ≤ 16 ∧ sm = .int .i64 (cntV f i : Int) ∧ si = .int .i64 (i : Int) ∧ OwnB wr (w.heap.size + 1) sv (bodyV f i) ∧ Row wr w.heap.size 22 16 (vf f) ∧ Below w.heap.size w wr) (fun sv sm si _ => 16 - (intOf si).toNat)
  case atStart => exact ⟨0, Nat.zero_le _, rfl, rfl, ⟨rfl, .inl ⟨rfl, rfl⟩⟩, HST.out.1, HST.out.2.1⟩
  case round =>
    obtain ⟨i, hi, rfl, rfl, hO, hR, hB⟩ := hrel
    have HBW := Lib.hid hB
    have HRW := Lib.hid hR
    have hlt : w.heap.size < wr.heap.size := World.block_lt_of_cell? wr _ (hR.cell 0 (by decide))
    have hNs : w.heap.size + 1 ≤ wr.heap.size := hlt
    have hblen : (bodyV f i).length ≤ 7 * i := bodyV_len HGF.out i hi
    obtain ⟨p0, c0, hve, -⟩ := hO.shape
    subst hve
    have HO := Lib.hid hO
    clear hO hB HST
    by_cases h16 : i < 16
    · have z1 : (i : Int) < 16 := by omega
      have z2 : decide ((i : Int) < 16) = true := decide_eq_true z1
      have hw := i64v i h16
      have x1 : wr.cell? ⟨w.heap.size, i, none⟩ = some (.int .i64 (f i)) := hR.cell i h16
      have hfi := HGF.out i h16
      by_cases h0 : f i = 0
      · have HCT := Lib.hid (cntV_zero h0)
        have HBD := Lib.hid (bodyV_zero h0)
        rw [h0] at x1
        clear hR hfi h0
        go_wp2
        go_roundw
        case rel => exact ⟨i + 1, by omega, by rw [HCT.out], by go_num, by rw [HBD.out]; exact HO.out, HRW.out, HBW.out⟩
        case measure => simp [intOf]; omega
      · have HCT := Lib.hid (cntV_one h0)
        have HBD := Lib.hid (bodyV_one h0)
        obtain ⟨m, hm⟩ : ∃ m : Nat, f i = (m : Int) := ⟨(f i).toNat, by omega⟩
        rw [hm] at x1 h0 hfi
        rw [hm, Int.toNat_natCast] at HBD
        have d1 : ((m : Int) == 0) = false := by rw [beq_eq_false_iff_ne]; exact h0
        have d2 : ¬ (m : Int) = 0 := h0
        have hm40 : m ≤ 1099511627776 := by omega
        have hl1 := enc7_len 0 i (by show i < 128; omega)
        have hl2 := enc7_len40 hm40
        have HNI := Lib.hid (refNum i (by omega))
        have HNM := Lib.hid (refNum m (by omega))
        have hcw : IntKind.i64.wrap ((cntV f i : Int) + 1) = (cntV f i : Int) + 1 := by have := cntV_le f i; rw [IntKind.wrap_i64]; omega
        have HSS := Lib.hid (fun (u : World) (hu : Below (w.heap.size + 1) wr u) => (⟨by rw [hu.cell (by exact Nat.lt_succ_self _)]; exact x1, hu⟩ : u.cell? ⟨w.heap.size, i, none⟩ = some (.int .i64 (m : Int)) ∧ Below (w.heap.size + 1) wr u))
        clear hR hfi h0 hm hm40
        go_wp2
        have HX := Lib.hid (show Below (w.heap.size + 1) wr wr.drew from (Below.refl _ _).drew)
        have HO := Lib.hid (HO.out.of_below ((Below.refl _ _).drew))
        have HZ0 := Lib.hid hNs
        refine wp_region_noPanic ?_
        refine wp_region_held_drew (S := (fun u : World => u.cell? ⟨w.heap.size, i, none⟩ = some (.int .i64 (m : Int)) ∧ Below (w.heap.size + 1) wr u)) (by kernel_rfl) (HSS.out _ HX.out) (fun hHeld => ?_)
        generalize wr.drew = x0 at *
        refine wpAnyH_take (i := 0) (v := ?_) (by simp only [List.getElem?_toArray, List.getElem?_cons_succ, List.getElem?_cons_zero]; exact rfl) (by kernel_rfl) (by kernel_rfl) (by kernel_rfl) (fun _ _ _ h => h) (Or.inl ⟨by rfl, ?_⟩) (by assumption) ?_
        rotate_left 1
        · (intro w hSw; (try dsimp only at hSw); go_simp; try with_reducible rfl)
        try simp only [Act.put, List.setIfInBounds_toArray, List.set_cons_zero, List.set_cons_succ]
        refine wpAnyH_take (i := 1) (v := ?_) (by simp only [List.getElem?_toArray, List.getElem?_cons_succ, List.getElem?_cons_zero]; exact rfl) (by kernel_rfl) (by kernel_rfl) (by kernel_rfl) (fun _ _ _ h => h) (Or.inl ⟨by rfl, ?_⟩) (by assumption) ?_
        rotate_left 1
        · (intro w hSw; (try dsimp only at hSw); go_simp; try with_reducible rfl)
        try simp only [Act.put, List.setIfInBounds_toArray, List.set_cons_zero, List.set_cons_succ]
        refine wpAnyH_take (i := 4) (v := ?_) (by simp only [List.getElem?_toArray, List.getElem?_cons_succ, List.getElem?_cons_zero]; exact rfl) (by kernel_rfl) (by kernel_rfl) (by kernel_rfl) (fun _ _ _ h => h) (Or.inl ⟨by rfl, ?_⟩) (by assumption) ?_
        rotate_left 1
        · (intro w hSw; (try dsimp only at hSw); go_simp; try with_reducible rfl)
        try simp only [Act.put, List.setIfInBounds_toArray, List.set_cons_zero, List.set_cons_succ]
        refine wpAnyH_take (i := 5) (v := ?_) (by simp only [List.getElem?_toArray, List.getElem?_cons_succ, List.getElem?_cons_zero]; exact rfl) (by kernel_rfl) (by kernel_rfl) (by kernel_rfl) (fun _ _ _ h => h) (Or.inl ⟨by rfl, ?_⟩) (by assumption) ?_
        rotate_left 1
        · (intro w hSw; (try dsimp only at hSw); go_simp; try with_reducible rfl)
        try simp only [Act.put, List.setIfInBounds_toArray, List.set_cons_zero, List.set_cons_succ]
        refine wpAnyH_take (i := 6) (v := ?_) (by simp only [List.getElem?_toArray, List.getElem?_cons_succ, List.getElem?_cons_zero]; exact rfl) (by kernel_rfl) (by kernel_rfl) (by kernel_rfl) (fun _ _ _ h => h) (Or.inl ⟨by rfl, ?_⟩) (by assumption) ?_
        rotate_left 1
        · (intro w hSw; (try dsimp only at hSw); go_simp; try with_reducible rfl)
        try simp only [Act.put, List.setIfInBounds_toArray, List.set_cons_zero, List.set_cons_succ]
        refine wpAnyH_ready (rs := [2]) (by kernel_rfl) (by simp) ?_
        refine (AllReadyH.cons (by simp only [List.getElem?_toArray, List.getElem?_cons_succ, List.getElem?_cons_zero]; exact rfl) (fun K hK => ?_) AllReadyH.nil)
        go_simp
        refine (HNI.out _).mono ?_
        rintro e x2 ⟨v2, rfl, hO2, hB2⟩
        obtain ⟨p2, c2, rfl, hs2, hp2, hc2⟩ := hO2.shape
        have HX := Lib.hid (HX.out.trans (hB2.mono (Nat.le_trans HZ0.out HX.out.size)))
        have HO := Lib.hid (HO.out.of_below hB2)
        have HN2 := Lib.hid hO2
        have HS2 := Lib.hid (And.intro hs2 hp2)
        clear hO2 hB2 hs2 hp2 hc2
        go_wp2_with fail
        refine hK.out _ _ (HSS.out _ HX.out) (fun hHeld => ?_)
        clear hK K
        try simp only [Act.put, List.setIfInBounds_toArray, List.set_cons_zero, List.set_cons_succ]
        refine wpAnyH_ready (rs := [3]) (by kernel_rfl) (by simp) ?_
        refine (AllReadyH.cons (by simp only [List.getElem?_toArray, List.getElem?_cons_succ, List.getElem?_cons_zero]; exact rfl) (fun K hK => ?_) AllReadyH.nil)
        refine step_appendL _ rfl (.tmp 15) (.tmp 17) rfl (w.heap.size + 1) (.slice p0 (bodyV f i).length c0) (bodyV f i) rfl HO.out p2 _ c2 (enc7 i) rfl rfl HS2.out.1 HS2.out.2 (by first | omega | (simp only [List.length_append]; omega)) (Nat.le_trans HZ0.out HX.out.size) ?_
        rintro v3 x3 hO hg hor
        have HX := Lib.hid (HX.out.grown hg (Nat.le_trans HZ0.out HX.out.size) (fun j hj => (HO.out.lt j hj).1))
        have HO := Lib.hid hO
        clear hO hg hor
        refine hK.out _ _ (HSS.out _ HX.out) (fun hHeld => ?_)
        clear hK K
        try simp only [Act.put, List.setIfInBounds_toArray, List.set_cons_zero, List.set_cons_succ]
        refine wpAnyH_ready (rs := [7]) (by kernel_rfl) (by simp) ?_
        refine (AllReadyH.cons (by simp only [List.getElem?_toArray, List.getElem?_cons_succ, List.getElem?_cons_zero]; exact rfl) (fun K hK => ?_) AllReadyH.nil)
        go_simp
        refine (HNM.out _).mono ?_
        rintro e x7 ⟨v7, rfl, hO7, hB7⟩
        obtain ⟨p7, c7, rfl, hs7, hp7, hc7⟩ := hO7.shape
        have HX := Lib.hid (HX.out.trans (hB7.mono (Nat.le_trans HZ0.out HX.out.size)))
        have HO := Lib.hid (HO.out.of_below hB7)
        have HN7 := Lib.hid hO7
        have HS7 := Lib.hid (And.intro hs7 hp7)
        clear hO7 hB7 hs7 hp7 hc7
        go_wp2_with fail
        refine hK.out _ _ (HSS.out _ HX.out) (fun hHeld => ?_)
        clear hK K
        try simp only [Act.put, List.setIfInBounds_toArray, List.set_cons_zero, List.set_cons_succ]
        refine wpAnyH_ready (rs := [8]) (by kernel_rfl) (by simp) ?_
        refine (AllReadyH.cons (by simp only [List.getElem?_toArray, List.getElem?_cons_succ, List.getElem?_cons_zero]; exact rfl) (fun K hK => ?_) AllReadyH.nil)
        refine step_appendL _ rfl (.tmp 18) (.tmp 22) rfl (w.heap.size + 1) v3 (bodyV f i ++ enc7 i) rfl HO.out p7 _ c7 (enc7 m) rfl rfl HS7.out.1 HS7.out.2 (by first | omega | (simp only [List.length_append]; omega)) (Nat.le_trans HZ0.out HX.out.size) ?_
        rintro v8 x8 hO hg hor
        have HX := Lib.hid (HX.out.grown hg (Nat.le_trans HZ0.out HX.out.size) (fun j hj => (HO.out.lt j hj).1))
        have HO := Lib.hid hO
        clear hO hg hor
        refine hK.out _ _ (HSS.out _ HX.out) (fun hHeld => ?_)
        clear hK K
        try simp only [Act.put, List.setIfInBounds_toArray, List.set_cons_zero, List.set_cons_succ]
        refine wpAnyH_take (i := 9) (v := ?_) (by simp only [List.getElem?_toArray, List.getElem?_cons_succ, List.getElem?_cons_zero]; exact rfl) (by kernel_rfl) (by kernel_rfl) (by kernel_rfl) (fun _ _ _ h => h) (Or.inl ⟨by rfl, ?_⟩) (by assumption) ?_
        rotate_left 1
        · (intro w hSw; (try dsimp only at hSw); go_simp; try with_reducible rfl)
        try simp only [Act.put, List.setIfInBounds_toArray, List.set_cons_zero, List.set_cons_succ]
        refine wpAnyH_done (by kernel_rfl) ?_ _
        refine NoPanic.normal ?_
        obtain ⟨p8, c8, rfl, -⟩ := HO.out.shape
        go_wp2
        go_roundw
        case rel => exact ⟨i + 1, by omega, by rw [HCT.out]; go_num, by go_num, by rw [HBD.out]; exact HO.out, HRW.out.of_block (HX.out.block _ (by omega)), HBW.out.trans (HX.out.mono (by omega))⟩
        case measure => simp [intOf]; omega
    · have z1 : ¬ (i : Int) < 16 := by omega
      have z2 : decide ((i : Int) < 16) = false := decide_eq_false z1
      obtain rfl : i = 16 := by omega
      have hc16 := cntV_le f 16
      have HNC := Lib.hid (refNum (cntV f 16) (by omega))
      have hl3 := enc7_len 0 (cntV f 16) (by show _ < 128; omega)
      obtain ⟨q0, k0, hve, hS0, hP0, -⟩ := HO.out.shape
      injection hve with e1 e2 e3
      subst e1 e3
      have HS0 := Lib.hid (And.intro hS0 hP0)
      clear hR hS0 hP0 hc16
      go_wp2_with fail
      refine (HNC.out _).mono ?_
      rintro e w2 ⟨v2, rfl, hO2, hB2⟩
      have HO2 := Lib.hid hO2
      have HB2 := Lib.hid (HBW.out.trans (hB2.mono (by omega)))
      have HS2 := Lib.hid (HS0.out.1.of_below hB2)
      have hN2 : w.heap.size ≤ w2.heap.size := HB2.out.size
      have hL2 : wr.heap.size ≤ w2.heap.size := hB2.size
      clear hO2 hB2
      go_wp2_with (first | (refine wpl_append _ rfl (.tmp 26) (.tmp 27) rfl wr.heap.size v2 (enc7 (cntV f 16)) rfl HO2.out p0 _ c0 (bodyV f 16) rfl rfl HS2.out HS0.out.2 (by omega) hL2 ?_; rintro v3 w3 hO3 hg3; have HO3 := Lib.hid hO3; have HB3 := Lib.hid (HB2.out.grown hg3 hN2 (fun k hk => Nat.le_trans (by omega) (HO2.out.lt k hk).1)); clear hO3 hg3))
      go_wp2
      go_ret
      exact ⟨_, rfl, by have := HO3.out.lower (b2 := w.heap.size) (by omega); exact this, HB3.out⟩
end Go.Proofs.YtfemgkamgokjcaaGreatDoor
/- Bytes that a call made and that may be written; a string as bytes. -/
set_option maxRecDepth 100000
namespace Go.Proofs.YtfemgkamgokjcaaGreatDoor
open Go Go.RowKit
attribute [-go_sem] Sha.exec_store

/-- The bytes b lie at q, in a block from base on, and may be written. -/
structure Fresh (w : World) (base : Nat) (q : Option Addr) (c : Nat) (b : List (BitVec 8)) : Prop where
  sl : Sl w q b
  nil : q = none → c = 0
  le : b.length ≤ c
  new : 0 < b.length → ∀ d o, q = some ⟨d, o, none⟩ → base ≤ d ∧ d < w.heap.size
  free : ∀ j, j < b.length → ∀ d o, q = some ⟨d, o, none⟩ → w.frozen? ⟨d, o + j, none⟩ = false
section
variable {w w' : World} {base : Nat} {q : Option Addr} {c : Nat} {b : List (BitVec 8)}
theorem Fresh.keep (h : Fresh w base q c b) (hs : w.heap.size ≤ w'.heap.size) (k : ∀ d, base ≤ d → d < w.heap.size → w'.heap[d]? = w.heap[d]?) : Fresh w' base q c b := by
  have hk : ∀ d o, 0 < b.length → q = some ⟨d, o, none⟩ → w'.heap[d]? = w.heap[d]? := fun d o hb e => k d (h.new hb d o e).1 (h.new hb d o e).2
  refine ⟨fun j hj => ?_, h.nil, h.le, fun hb d o e => ⟨(h.new hb d o e).1, Nat.lt_of_lt_of_le (h.new hb d o e).2 hs⟩, fun j hj d o e => ?_⟩
  · obtain ⟨d, o, e, hx⟩ := h.sl j hj
    exact ⟨d, o, e, by rw [World.cell?_of_block (w := w) (hk d o (by omega) e)]; exact hx⟩
  · rw [World.frozen?_of_block (w := w) (hk d o (by omega) e)]
    exact h.free j hj d o e
theorem Fresh.lower (h : Fresh w base q c b) {b2 : Nat} (hb : b2 ≤ base) : Fresh w b2 q c b :=
  ⟨h.sl, h.nil, h.le, fun hl d o e => ⟨Nat.le_trans hb (h.new hl d o e).1, (h.new hl d o e).2⟩, h.free⟩
theorem Fresh.of_below (h : Fresh w base q c b) (k : Below w.heap.size w w') : Fresh w' base q c b := h.keep k.size fun d _ hd => k.block d hd
theorem Fresh.far (h : Fresh w base q c b) {y : Nat} (hy : y < base) (o : Nat) (v : Value) : Fresh (w.setCell ⟨y, o, none⟩ v) base q c b :=
  h.keep (by simp) fun d hd _ => Below.heap_setCell _ _ _ _ (by show d ≠ y; omega)
theorem Fresh.nothing (w : World) (base : Nat) : Fresh w base none 0 [] := ⟨Sl.nil _ _, fun _ => rfl, Nat.le_refl _, fun h => absurd h (Nat.lt_irrefl 0), fun j hj => absurd hj (Nat.not_lt_zero j)⟩
theorem Fresh.bt (h : Fresh w base q c b) (k n : Int) : Bt w ⟨k, n, b⟩ q c := ⟨h.sl, h.nil, h.le⟩
theorem OwnB.fresh {v : Value} (h : OwnB w base v b) : ∃ q c, v = .slice q b.length c ∧ Fresh w base q c b := by
  obtain ⟨q, c, rfl, hs, hp, hc⟩ := h.shape
  refine ⟨q, c, rfl, hs, hp, hc, fun _ d o e => h.lt d (by rw [e]; rfl), fun j hj d o e => ?_⟩
  rcases h.2 with ⟨hv, hl⟩ | ⟨g, cap, cur, hv, _, hg, _⟩
  · injection hv with e1 e2 e3
    rw [e1] at e; cases e
  · injection hv with e1 e2 e3
    rw [e1] at e
    injection e with e
    injection e with e4 e5
    subst e4
    simp only [World.frozen?, hg]
    simp
theorem Row.fresh {E : Nat} {T : TypeId} (h : Row w E T 32 (dgF b)) (hb : base ≤ E) (hl : b.length = 32) : Fresh w base (some ⟨E, 0, none⟩) 32 b :=
  ⟨Sl.row h (by omega) fun j hj => rfl, (fun e => by cases e), by omega, fun _ d o e => by injection e with e; injection e with e1 e2; subst e1; exact ⟨hb, h.lt⟩, fun j hj d o e => by injection e with e; injection e with e1 e2; subst e1; exact h.free _⟩
end
theorem strOf_size (b : List (BitVec 8)) : (strOf b).size = b.length := by simp [strOf, ByteArray.size]
theorem conv_bytes (w : World) (b : List (BitVec 8)) : ∃ c w', (convert 9 35 (.string (strOf b))).run Tryz.prog w = .ok (.slice (some ⟨w.heap.size, 0, none⟩) b.length c) w' ∧ Fresh w' w.heap.size (some ⟨w.heap.size, 0, none⟩) c b ∧ Below w.heap.size w w' := by
  have h := Go.Lib.run_convert_string_bytes (P := Tryz.prog) w 9 35 5 (strOf b) (u := .string) (by kernel_rfl) und35 (by kernel_rfl)
  rw [strOf_size] at h
  have hsz := Go.Lib.bytesWorld_size w 5 (strOf b)
  have hge := grownCap_ge w b.length 0 5
  refine ⟨_, _, h, ⟨fun j hj => ⟨w.heap.size, 0, rfl, ?_⟩, (fun e => by cases e), hge, fun _ d o e => ?_, fun j hj d o e => ?_⟩, ?_⟩
  · rw [Nat.zero_add, Go.Lib.bytesWorld_cell w 5 (strOf b) j (by rw [strOf_size]; exact hj), B_eq']
    congr 2
    simp [strOf, List.getD_eq_getElem?_getD, hj]
  · injection e with e
    injection e with e1 e2
    omega
  · injection e with e
    injection e with e1 e2
    subst e1 e2
    have hg := Go.Lib.bytesWorld_at_new w 5 (strOf b)
    simp only [World.frozen?, hg]
    have hcs : (Go.Lib.bytesCells w 5 (strOf b)).size = b.length + (grownCap w b.length 0 5 - b.length) := by
      simp [Go.Lib.bytesCells, strOf, ByteArray.size]
    simp [hcs]
    omega
  · exact ⟨rfl, rfl, rfl, by omega, fun k hk => Go.Lib.bytesWorld_at_old w 5 (strOf b) k hk⟩
end Go.Proofs.YtfemgkamgokjcaaGreatDoor
/- The reference's bytes of a record. -/
set_option maxRecDepth 100000
namespace Go.Proofs.YtfemgkamgokjcaaGreatDoor
open Go Go.RowKit

attribute [-go_sem] Sha.exec_store
/-- A record with its digests, as it is written. -/
def Rc.tOf (r : Rc) (ds : List By) : RcT := ⟨pB r.path, r.size.toNat, r.time.toNat, r.chg.toNat, r.ver, r.dead, r.whole, ds⟩
theorem sl_arrO (E o : Nat) (w : World) : (slT 23 (.pointer (some ⟨E, o, none⟩)) none none none).run Tryz.prog w = .ok (.value (.slice (some ⟨E, o, none⟩) 32 32)) w := by
  first
  | kernel_rfl
  | (unfold slT; simp [go_sem, Instr.sliceAt])
theorem one_sl (w : World) (x : BitVec 8) (v : Value) (hv : v = B x) : Sl (w.alloc (.cells #[v] 5)) (some ⟨w.heap.size, 0, none⟩) [x] := fun j hj => by
  obtain rfl : j = 0 := by simpa using hj
  refine ⟨_, 0, rfl, ?_⟩
  subst hv
  go_simp
theorem one_slB (w : World) : Sl (w.alloc (.cells #[.int .u8 1] 5)) (some ⟨w.heap.size, 0, none⟩) [1#8] := one_sl w 1#8 _ (by simp [B])
theorem zero_slB (w : World) : Sl (w.alloc (.cells #[.int .u8 0] 5)) (some ⟨w.heap.size, 0, none⟩) [0#8] := one_sl w 0#8 _ (by simp [B])
attribute [local go_sem ↓] exec_boxA exec_loadA exec_indexA exec_allocA exec_storeA exec_buildA exec_eqlA exec_neqA exec_boxV exec_loadV exec_indexV exec_allocV exec_storeV exec_buildV exec_eqlV exec_neqV
attribute [local go_sem] boxA indexA storeNewA buildA eqlA neqA boxV indexV storeNewV buildV eqlV neqV

attribute [local go_sem ↓] exec_boxM exec_load32 exec_alloc32 exec_store32F exec_slice exec_bs
attribute [local go_sem] boxM bsb1 sl_arrO st_dig
set_option maxRecDepth 100000 in
set_option maxHeartbeats 16000000 in
theorem refBytes10_any (p : S8) (s t c : Nat) (f : Nat → Int) (d : Bool) (wh : By) (q : Option Addr) (n cap : Nat) (ds : List By) (w : World) (h : DgAt w ⟨p, (s : Int), (t : Int), (c : Int), f, d, wh, q, n, cap⟩ ds)
    (hp : p.length ≤ 10000) (hs : s < 9223372036854775808) (ht : t < 9223372036854775808) (hc : c < 9223372036854775808) (hf : ∀ i, i < 16 → 0 ≤ f i ∧ f i ≤ 1099511627776) (hds : ds.length ≤ 10000) (hT : Tb w) :
    Calls Tryz.prog 13 #[rcV ⟨p, (s : Int), (t : Int), (c : Int), f, d, wh, q, n, cap⟩] w (GivesB w (encRc ⟨pB p, s, t, c, f, d, wh, ds⟩)) := by
  obtain ⟨b0, hb0⟩ : ∃ b, w.heap.size = b := ⟨_, rfl⟩
  obtain ⟨W1, hW1⟩ : ∃ W, w.alloc (.cells (tab 54 (rcF ⟨p, (s : Int), (t : Int), (c : Int), f, d, wh, q, n, cap⟩)) 26) = W := ⟨_, rfl⟩
  have hB1 : Below w.heap.size w W1 := by rw [← hW1]; exact below_newD _ _
  have hR1 : Row W1 b0 26 54 (rcF ⟨p, (s : Int), (t : Int), (c : Int), f, d, wh, q, n, cap⟩) := by rw [← hb0, ← hW1]; exact Row.new _ _ _ _
  obtain ⟨V, hV⟩ : ∃ V, rcV ⟨p, (s : Int), (t : Int), (c : Int), f, d, wh, q, n, cap⟩ = V := ⟨_, rfl⟩
  have x1 : (bxT 26 V).run Tryz.prog w = .ok (.value (.pointer (some ⟨w.heap.size, 0, none⟩))) W1 := by rw [← hV, ← hW1]; exact boxM w _
  rw [hV]
  have HB1 := Lib.hid hB1
  have HD := Lib.hid (fun (u : World) (hu : Below W1.heap.size W1 u) => (h.of_below hB1).of_below hu)
  have HR := Lib.hid (fun (u : World) (hu : Below W1.heap.size W1 u) => hR1.of_below hu)
  have HS := Lib.hid (fun (u : World) (hu : Below W1.heap.size W1 u) => (show u.cell? ⟨b0, 1, none⟩ = some (.int .i64 (s : Int)) ∧ u.cell? ⟨b0, 2, none⟩ = some (.int .i64 (t : Int)) ∧ u.cell? ⟨b0, 3, none⟩ = some (.int .i64 (c : Int)) ∧ Below W1.heap.size W1 u from ⟨rc_size (hR1.of_below hu), rc_time (hR1.of_below hu), rc_chg (hR1.of_below hu), hu⟩))
  have a0 := rc_path hR1
  dsimp only at a0
  have HTB := Lib.hid (fun (u : World) (hu : Below W1.heap.size W1 u) => hT.on (hB1.trans (hu.mono hB1.size)))
  have hn := h.n
  have hle := h.le
  have hwl := h.whole
  have hnil := h.nil
  have hea := h.each
  dsimp only at hn hle hwl hnil
  have HEA := Lib.hid hea
  have HWL := Lib.hid hwl
  have HNN := Lib.hid (And.intro hn (And.intro hle hds))
  have HNs := Lib.hid (fun u => refNum s hs u)
  have HNt := Lib.hid (fun u => refNum t ht u)
  have HNc := Lib.hid (fun u => refNum c hc u)
  have HNn := Lib.hid (fun u => refNum n (by omega) u)
  have HNV := Lib.hid (fun u => refBytes9_any f hf u)
  have HLV := Lib.hid (encV_len hf)
  have HPL := Lib.hid (pB_len p)
  have p9 : (128 : Nat) ^ 9 = 9223372036854775808 := by decide
  have HLEN := Lib.hid (show (enc7 (pB p).length).length ≤ 9 ∧ (pB p).length ≤ 10000 ∧ (enc7 s).length ≤ 9 ∧ (enc7 t).length ≤ 9 ∧ (enc7 c).length ≤ 9 ∧ (enc7 n).length ≤ 9 ∧ wh.length = 32 from ⟨enc7_len 8 _ (by rw [p9, pB_len]; omega), by rw [pB_len]; exact hp, enc7_len 8 _ (by rw [p9]; exact hs), enc7_len 8 _ (by rw [p9]; exact ht), enc7_len 8 _ (by rw [p9]; exact hc), enc7_len 8 _ (by rw [p9]; omega), hwl⟩)
  obtain ⟨cc, W2, hcv, hFr, hB2⟩ := conv_bytes W1 (pB p)
  rw [strOf_pB] at hcv
  have HX2 := Lib.hid hB2
  have HRB := Lib.hid (refBytes_any (pB p) (some ⟨W1.heap.size, 0, none⟩) (pB p).length cc W2 rfl hFr.sl (fun e => by cases e) (by rw [pB_len]; omega))
  obtain ⟨L3, hL3⟩ : ∃ L, enc7 (pB p).length ++ pB p = L := ⟨_, rfl⟩
  have HL3 := Lib.hid hL3
  rw [hL3] at HRB
  have HL3n := Lib.hid (show L3.length ≤ 10009 from by rw [← hL3]; have := HLEN.out; simp only [List.length_append]; omega)
  clear hB1 hR1 h hT hn hle hwl hnil hea hV hFr hB2 hL3 hds hf hs ht hc
  go_enter Tryz.func13, Tryz.ntmps13
  try rw [hb0]
  rw [hb0] at x1
  go_wp2_with fail
  clear x1 hW1 hcv a0
  refine HRB.out.mono ?_
  rintro e u3 ⟨v3, rfl, hO3, hB3⟩
  have hX3 := HX2.out.trans (hB3.mono HX2.out.size)
  have HX0 := Lib.hid (show Below W1.heap.size W1 u3.drew from hX3.drew)
  have HO0 := Lib.hid (show OwnB u3.drew W1.heap.size v3 L3 from (hO3.lower HX2.out.size))
  clear hX3 hO3 hB3
  go_wp2
  refine wp_region_noPanic ?_
  refine wp_region_held_drew (S := (fun u : World => u.cell? ⟨b0, 1, none⟩ = some (.int .i64 (s : Int)) ∧ u.cell? ⟨b0, 2, none⟩ = some (.int .i64 (t : Int)) ∧ u.cell? ⟨b0, 3, none⟩ = some (.int .i64 (c : Int)) ∧ Below W1.heap.size W1 u)) (by kernel_rfl) (HS.out _ HX0.out) (fun hHeld => ?_)
  have HX := Lib.hid HX0.out
  have HO := Lib.hid HO0.out
  generalize u3.drew = x at hHeld HX HO ⊢
  refine wpAnyH_take (i := 0) (v := ?_) (by simp only [List.getElem?_toArray, List.getElem?_cons_succ, List.getElem?_cons_zero]; exact rfl) (by kernel_rfl) (by kernel_rfl) (by kernel_rfl) (fun _ _ _ h => h) (Or.inl ⟨by rfl, ?_⟩) (by assumption) ?_
  rotate_left 1
  · (intro w hSw; (try dsimp only at hSw); go_simp; try with_reducible rfl)
  try simp only [Act.put, List.setIfInBounds_toArray, List.set_cons_zero, List.set_cons_succ]
  refine wpAnyH_take (i := 1) (v := ?_) (by simp only [List.getElem?_toArray, List.getElem?_cons_succ, List.getElem?_cons_zero]; exact rfl) (by kernel_rfl) (by kernel_rfl) (by kernel_rfl) (fun _ _ _ h => h) (Or.inl ⟨by rfl, ?_⟩) (by assumption) ?_
  rotate_left 1
  · (intro w hSw; (try dsimp only at hSw); go_simp; try with_reducible rfl)
  try simp only [Act.put, List.setIfInBounds_toArray, List.set_cons_zero, List.set_cons_succ]
  refine wpAnyH_take (i := 2) (v := ?_) (by simp only [List.getElem?_toArray, List.getElem?_cons_succ, List.getElem?_cons_zero]; exact rfl) (by kernel_rfl) (by kernel_rfl) (by kernel_rfl) (fun _ _ _ h => h) (Or.inl ⟨by rfl, ?_⟩) (by assumption) ?_
  rotate_left 1
  · (intro w hSw; (try dsimp only at hSw); go_simp; try with_reducible rfl)
  try simp only [Act.put, List.setIfInBounds_toArray, List.set_cons_zero, List.set_cons_succ]
  refine wpAnyH_take (i := 5) (v := ?_) (by simp only [List.getElem?_toArray, List.getElem?_cons_succ, List.getElem?_cons_zero]; exact rfl) (by kernel_rfl) (by kernel_rfl) (by kernel_rfl) (fun _ _ _ h => h) (Or.inl ⟨by rfl, ?_⟩) (by assumption) ?_
  rotate_left 1
  · (intro w hSw; (try dsimp only at hSw); go_simp; try with_reducible rfl)
  try simp only [Act.put, List.setIfInBounds_toArray, List.set_cons_zero, List.set_cons_succ]
  refine wpAnyH_take (i := 6) (v := ?_) (by simp only [List.getElem?_toArray, List.getElem?_cons_succ, List.getElem?_cons_zero]; exact rfl) (by kernel_rfl) (by kernel_rfl) (by kernel_rfl) (fun _ _ _ h => h) (Or.inl ⟨by rfl, ?_⟩) (by assumption) ?_
  rotate_left 1
  · (intro w hSw; (try dsimp only at hSw); go_simp; try with_reducible rfl)
  try simp only [Act.put, List.setIfInBounds_toArray, List.set_cons_zero, List.set_cons_succ]
  refine wpAnyH_take (i := 9) (v := ?_) (by simp only [List.getElem?_toArray, List.getElem?_cons_succ, List.getElem?_cons_zero]; exact rfl) (by kernel_rfl) (by kernel_rfl) (by kernel_rfl) (fun _ _ _ h => h) (Or.inl ⟨by rfl, ?_⟩) (by assumption) ?_
  rotate_left 1
  · (intro w hSw; (try dsimp only at hSw); go_simp; try with_reducible rfl)
  try simp only [Act.put, List.setIfInBounds_toArray, List.set_cons_zero, List.set_cons_succ]
  refine wpAnyH_take (i := 10) (v := ?_) (by simp only [List.getElem?_toArray, List.getElem?_cons_succ, List.getElem?_cons_zero]; exact rfl) (by kernel_rfl) (by kernel_rfl) (by kernel_rfl) (fun _ _ _ h => h) (Or.inl ⟨by rfl, ?_⟩) (by assumption) ?_
  rotate_left 1
  · (intro w hSw; (try dsimp only at hSw); go_simp; try with_reducible rfl)
  try simp only [Act.put, List.setIfInBounds_toArray, List.set_cons_zero, List.set_cons_succ]
  refine wpAnyH_ready (rs := [3]) (by kernel_rfl) (by simp) ?_
  refine (AllReadyH.cons (by simp only [List.getElem?_toArray, List.getElem?_cons_succ, List.getElem?_cons_zero]; exact rfl) (fun K hK => ?_) AllReadyH.nil)
  go_simp
  refine (HNs.out x).mono ?_
  rintro e x_3 ⟨vk, rfl, hOk, hbk⟩
  have hltk := hOk.lt
  obtain ⟨p13, c13, rfl, hsk, hpk, -⟩ := hOk.shape
  have HX := Lib.hid (HX.out.trans (hbk.mono HX.out.size))
  have HP3 := Lib.hid (show Sl x_3 p13 (enc7 s) ∧ (p13 = none → c13 = 0) ∧ ∀ cc oo, p13 = some ⟨cc, oo, none⟩ → (v3 : Value).ownBlock ≠ some cc ∧ cc < x_3.heap.size from ⟨hsk, hpk, fun cc oo e => ⟨fun h => by have h1 := (HO.out.lt cc h).2; have h2 := (hltk cc (by rw [e]; rfl)).1; omega, (hltk cc (by rw [e]; rfl)).2⟩⟩)
  have HO := Lib.hid (HO.out.of_below hbk)
  clear hOk hbk hltk hsk hpk
  go_wp2_with fail
  refine hK.out _ _ (HS.out _ HX.out) (fun hHeld => ?_)
  clear hK K
  try simp only [Act.put, List.setIfInBounds_toArray, List.set_cons_zero, List.set_cons_succ]
  refine wpAnyH_ready (rs := [4]) (by kernel_rfl) (by simp) ?_
  refine (AllReadyH.cons (by simp only [List.getElem?_toArray, List.getElem?_cons_succ, List.getElem?_cons_zero]; exact rfl) (fun K hK => ?_) AllReadyH.nil)
  refine step_appendL x_3 rfl (.tmp 10) (.tmp 13) rfl W1.heap.size v3 L3 rfl HO.out p13 _ c13 (enc7 s) rfl rfl HP3.out.1 HP3.out.2.1 (by have := HLEN.out; have := HL3n.out; (try simp only [List.length_append]); omega) HX.out.size ?_
  rintro vo4 x_3_4 hOk hgk hok
  have hbk : Below W1.heap.size x_3 x_3_4 := (Below.refl _ _).grown hgk HX.out.size (fun kk hk => (HO.out.lt kk hk).1)
  have HX := Lib.hid (HX.out.trans hbk)
  have HO := Lib.hid hOk
  clear hOk hgk hok hbk
  refine hK.out _ _ (HS.out _ HX.out) (fun hHeld => ?_)
  clear hK K
  try simp only [Act.put, List.setIfInBounds_toArray, List.set_cons_zero, List.set_cons_succ]
  refine wpAnyH_ready (rs := [7]) (by kernel_rfl) (by simp) ?_
  refine (AllReadyH.cons (by simp only [List.getElem?_toArray, List.getElem?_cons_succ, List.getElem?_cons_zero]; exact rfl) (fun K hK => ?_) AllReadyH.nil)
  go_simp
  refine (HNt.out x_3_4).mono ?_
  rintro e x_3_4_7 ⟨vk, rfl, hOk, hbk⟩
  have hltk := hOk.lt
  obtain ⟨p17, c17, rfl, hsk, hpk, -⟩ := hOk.shape
  have HX := Lib.hid (HX.out.trans (hbk.mono HX.out.size))
  have HP7 := Lib.hid (show Sl x_3_4_7 p17 (enc7 t) ∧ (p17 = none → c17 = 0) ∧ ∀ cc oo, p17 = some ⟨cc, oo, none⟩ → (vo4 : Value).ownBlock ≠ some cc ∧ cc < x_3_4_7.heap.size from ⟨hsk, hpk, fun cc oo e => ⟨fun h => by have h1 := (HO.out.lt cc h).2; have h2 := (hltk cc (by rw [e]; rfl)).1; omega, (hltk cc (by rw [e]; rfl)).2⟩⟩)
  have HO := Lib.hid (HO.out.of_below hbk)
  clear hOk hbk hltk hsk hpk
  go_wp2_with fail
  refine hK.out _ _ (HS.out _ HX.out) (fun hHeld => ?_)
  clear hK K
  try simp only [Act.put, List.setIfInBounds_toArray, List.set_cons_zero, List.set_cons_succ]
  refine wpAnyH_ready (rs := [8]) (by kernel_rfl) (by simp) ?_
  refine (AllReadyH.cons (by simp only [List.getElem?_toArray, List.getElem?_cons_succ, List.getElem?_cons_zero]; exact rfl) (fun K hK => ?_) AllReadyH.nil)
  refine step_appendL x_3_4_7 rfl (.tmp 14) (.tmp 17) rfl W1.heap.size vo4 (L3 ++ enc7 s) rfl HO.out p17 _ c17 (enc7 t) rfl rfl HP7.out.1 HP7.out.2.1 (by have := HLEN.out; have := HL3n.out; (try simp only [List.length_append]); omega) HX.out.size ?_
  rintro vo8 x_3_4_7_8 hOk hgk hok
  have hbk : Below W1.heap.size x_3_4_7 x_3_4_7_8 := (Below.refl _ _).grown hgk HX.out.size (fun kk hk => (HO.out.lt kk hk).1)
  have HX := Lib.hid (HX.out.trans hbk)
  have HO := Lib.hid hOk
  clear hOk hgk hok hbk
  refine hK.out _ _ (HS.out _ HX.out) (fun hHeld => ?_)
  clear hK K
  try simp only [Act.put, List.setIfInBounds_toArray, List.set_cons_zero, List.set_cons_succ]
  refine wpAnyH_ready (rs := [11]) (by kernel_rfl) (by simp) ?_
  refine (AllReadyH.cons (by simp only [List.getElem?_toArray, List.getElem?_cons_succ, List.getElem?_cons_zero]; exact rfl) (fun K hK => ?_) AllReadyH.nil)
  go_simp
  refine (HNc.out x_3_4_7_8).mono ?_
  rintro e x_3_4_7_8_11 ⟨vk, rfl, hOk, hbk⟩
  have hltk := hOk.lt
  obtain ⟨p21, c21, rfl, hsk, hpk, -⟩ := hOk.shape
  have HX := Lib.hid (HX.out.trans (hbk.mono HX.out.size))
  have HP11 := Lib.hid (show Sl x_3_4_7_8_11 p21 (enc7 c) ∧ (p21 = none → c21 = 0) ∧ ∀ cc oo, p21 = some ⟨cc, oo, none⟩ → (vo8 : Value).ownBlock ≠ some cc ∧ cc < x_3_4_7_8_11.heap.size from ⟨hsk, hpk, fun cc oo e => ⟨fun h => by have h1 := (HO.out.lt cc h).2; have h2 := (hltk cc (by rw [e]; rfl)).1; omega, (hltk cc (by rw [e]; rfl)).2⟩⟩)
  have HO := Lib.hid (HO.out.of_below hbk)
  clear hOk hbk hltk hsk hpk
  go_wp2_with fail
  refine hK.out _ _ (HS.out _ HX.out) (fun hHeld => ?_)
  clear hK K
  try simp only [Act.put, List.setIfInBounds_toArray, List.set_cons_zero, List.set_cons_succ]
  refine wpAnyH_ready (rs := [12]) (by kernel_rfl) (by simp) ?_
  refine (AllReadyH.cons (by simp only [List.getElem?_toArray, List.getElem?_cons_succ, List.getElem?_cons_zero]; exact rfl) (fun K hK => ?_) AllReadyH.nil)
  refine step_appendL x_3_4_7_8_11 rfl (.tmp 18) (.tmp 21) rfl W1.heap.size vo8 ((L3 ++ enc7 s) ++ enc7 t) rfl HO.out p21 _ c21 (enc7 c) rfl rfl HP11.out.1 HP11.out.2.1 (by have := HLEN.out; have := HL3n.out; (try simp only [List.length_append]); omega) HX.out.size ?_
  rintro vo12 x_3_4_7_8_11_12 hOk hgk hok
  have hbk : Below W1.heap.size x_3_4_7_8_11 x_3_4_7_8_11_12 := (Below.refl _ _).grown hgk HX.out.size (fun kk hk => (HO.out.lt kk hk).1)
  have HX := Lib.hid (HX.out.trans hbk)
  have HO := Lib.hid hOk
  clear hOk hgk hok hbk
  refine hK.out _ _ (HS.out _ HX.out) (fun hHeld => ?_)
  clear hK K
  try simp only [Act.put, List.setIfInBounds_toArray, List.set_cons_zero, List.set_cons_succ]
  refine wpAnyH_take (i := 13) (v := ?_) (by simp only [List.getElem?_toArray, List.getElem?_cons_succ, List.getElem?_cons_zero]; exact rfl) (by kernel_rfl) (by kernel_rfl) (by kernel_rfl) (fun _ _ _ h => h) (Or.inl ⟨by rfl, ?_⟩) (by assumption) ?_
  rotate_left 1
  · (intro w hSw; (try dsimp only at hSw); go_simp; try with_reducible rfl)
  try simp only [Act.put, List.setIfInBounds_toArray, List.set_cons_zero, List.set_cons_succ]
  refine wpAnyH_done (by kernel_rfl) ?_ _
  refine NoPanic.normal ?_
  have HX := Lib.hid HX.out
  have HO := Lib.hid HO.out
  clear hHeld
  obtain ⟨xx, hxx⟩ : ∃ xx, x_3_4_7_8_11_12 = xx := ⟨_, rfl⟩
  rw [hxx] at HX HO ⊢
  clear hxx
  obtain ⟨v4, hv4⟩ : ∃ v, vo12 = v := ⟨_, rfl⟩
  rw [hv4] at HO ⊢
  clear hv4
  obtain ⟨L6, hL6⟩ : ∃ L, ((L3 ++ enc7 s) ++ enc7 t) ++ enc7 c = L := ⟨_, rfl⟩
  have HL6 := Lib.hid hL6
  have HL6n := Lib.hid (show L6.length ≤ 10036 from by rw [← hL6]; have := HLEN.out; have := HL3n.out; simp only [List.length_append]; omega)
  rw [hL6] at HO
  clear hL6
  go_wp2_with fail
  have a4 := loadVT vtA (rc_ver (HR.out _ HX.out))
  go_wp2_with fail
  refine (HNV.out _).mono ?_
  rintro e x3 ⟨vv, rfl, hOv, hBv⟩
  obtain ⟨pv, cv, rfl, hsv, hpv, -⟩ := hOv.shape
  have hX3 := HX.out.trans (hBv.mono HX.out.size)
  have HO3 := Lib.hid (HO.out.of_below hBv)
  have hlv := HLV.out
  have hl6 := HL6n.out
  clear a4 HX HO hOv hBv HNV
  go_wp2_with (first
  | (refine wpl_appendL x3 rfl (.tmp 23) (.tmp 26) rfl W1.heap.size v4 (L6) rfl HO3.out pv _ cv (encV f) rfl rfl hsv hpv (by have := HLEN.out; (try simp only [List.length_append, List.length_cons, List.length_nil]); omega) (hX3).size ?_
     rintro v5 x5 hO9 hg9 -
     have HXn := Lib.hid ((hX3).grown hg9 (hX3).size (fun k hk => ((HO3.out).lt k hk).1))
     have HOn := Lib.hid hO9
     clear hO9 hg9
     have HX5 := HXn
     have HO5 := HOn
     have a5 := rc_dead (HR.out _ HX5.out)
     dsimp only at a5
     clear HXn HOn)
  | (refine wpl_appendL (x5.alloc (.cells #[.int .u8 1] 5)) rfl (.tmp 30) (.tmp 31) rfl W1.heap.size v5 (L6 ++ encV f) rfl (HO5.out.of_below (below_newR x5 (.cells #[.int .u8 1] 5))) (some ⟨x5.heap.size, 0, none⟩) 1 1 [1#8] rfl rfl (one_slB x5) (fun e => by cases e) (by have := HLEN.out; (try simp only [List.length_append, List.length_cons, List.length_nil]); omega) (HX5.out.trans ((below_newR x5 (.cells #[.int .u8 1] 5)).mono HX5.out.size)).size ?_
     rintro v7 x7 hO9 hg9 -
     have HXn := Lib.hid ((HX5.out.trans ((below_newR x5 (.cells #[.int .u8 1] 5)).mono HX5.out.size)).grown hg9 (HX5.out.trans ((below_newR x5 (.cells #[.int .u8 1] 5)).mono HX5.out.size)).size (fun k hk => (((HO5.out.of_below (below_newR x5 (.cells #[.int .u8 1] 5)))).lt k hk).1))
     have HOn := Lib.hid hO9
     clear hO9 hg9
     have hl9 : ((L6 ++ encV f) ++ [1#8]).length ≤ 20000 := by simp only [List.length_append, List.length_cons, List.length_nil]; omega
     obtain ⟨L9, hL9, HOn⟩ : ∃ L, (L6 ++ encV f) ++ [1#8] = L ∧ Hid (OwnB x7 W1.heap.size v7 L) := ⟨_, rfl, HOn⟩
     rw [hL9] at hl9
     have HL9 := Lib.hid hL9
     clear hL9
     obtain ⟨pz, cz, rfl, hsz, hpz, -⟩ := HOn.out.shape))
  · skip
    have hdd : d = true := by assumption
    subst hdd
    refine (refSum1_any _ pz _ cz _ rfl hsz hpz (HTB.out _ HXn.out) (by omega)).mono ?_
    rintro e x8 ⟨rfl, hB8⟩
    have hX8 := HXn.out.trans (hB8.mono HXn.out.size)
    have hO8 := HOn.out.of_below hB8
    have hdl : (digL L9).length = 32 := digL_len _
    clear hB8
    obtain ⟨dg, hdg⟩ : ∃ x, digL L9 = x := ⟨_, rfl⟩
    have HDG := Lib.hid hdg
    rw [hdg] at hdl
    have st9 := st_dig x8 x8.heap.size dg rfl
    have HX9 := Lib.hid (hX8.trans ((below_newR x8 (.cells (tab 32 (dgF dg)) 23)).mono hX8.size))
    have HO9 := Lib.hid (hO8.of_below (below_newR x8 (.cells (tab 32 (dgF dg)) 23)))
    have hs9 : Sl (x8.alloc (.cells (tab 32 (dgF dg)) 23)) (some ⟨x8.heap.size, 0, none⟩) dg := ((Row.new x8 23 32 (dgF dg)).fresh (base := x8.heap.size) (Nat.le_refl _) hdl).sl
    clear hX8 hO8
    rw [hdg]
    clear hdg HXn HOn
    go_wp2_with (first
    | (refine wpl_appendL (x8.alloc (.cells (tab 32 (dgF dg)) 23)) rfl (.tmp 61) (.tmp 62) rfl W1.heap.size (.slice pz L9.length cz) (L9) rfl HO9.out (some ⟨x8.heap.size, 0, none⟩) 32 32 dg hdl rfl hs9 (fun e => by cases e) (by have := HLEN.out; (try simp only [List.length_append, List.length_cons, List.length_nil]); omega) (HX9.out).size ?_
       rintro v10 x10 hO9 hg9 -
       have HXn := Lib.hid ((HX9.out).grown hg9 (HX9.out).size (fun k hk => ((HO9.out).lt k hk).1))
       have HOn := Lib.hid hO9
       clear hO9 hg9
    ))
    have hbd : bodyRc ⟨pB p, s, t, c, f, true, wh, ds⟩ = L9 := by unfold bodyRc; dsimp only; rw [if_pos rfl, HL3.out, HL6.out, HL9.out]
    have HFIN := Lib.hid (show OwnB x10 w.heap.size v10 (encRc ⟨pB p, s, t, c, f, true, wh, ds⟩) from by unfold encRc; rw [hbd, HDG.out]; exact HOn.out.lower HB1.out.size)
    have HBF := Lib.hid (HB1.out.trans (HXn.out.mono HB1.out.size))
    clear hbd HXn HOn
    go_ret
    exact ⟨_, rfl, HFIN.out, HBF.out⟩
  · skip
    have hdd : d = false := by first | assumption | (simpa using (by assumption : ¬ d = true))
    subst hdd
    have hwl32 := HWL.out
    go_wp2_with fail
    have HX := Lib.hid HX5.out.drew
    have HO := Lib.hid (HO5.out.of_below ((Below.refl _ _).drew))
    refine wp_region_noPanic ?_
    refine wp_region_held_drew (S := (fun u : World => Below W1.heap.size W1 u)) (by kernel_rfl) (HX.out) (fun hHeld => ?_)
    generalize x5.drew = x6 at hHeld HX HO ⊢
    refine wpAnyH_take (i := 0) (v := ?_) (by simp only [List.getElem?_toArray, List.getElem?_cons_succ, List.getElem?_cons_zero]; exact rfl) (by kernel_rfl) (by kernel_rfl) (by kernel_rfl) (fun _ _ _ h => h) (Or.inl ⟨by rfl, ?_⟩) (by assumption) ?_
    rotate_left 1
    · (intro w hSw; (try dsimp only at hSw); go_simp; try with_reducible rfl)
    try simp only [Act.put, List.setIfInBounds_toArray, List.set_cons_zero, List.set_cons_succ]
    refine wpAnyH_take (i := 3) (v := ?_) (by simp only [List.getElem?_toArray, List.getElem?_cons_succ, List.getElem?_cons_zero]; exact rfl) (by kernel_rfl) (by kernel_rfl) (by kernel_rfl) (fun _ _ _ h => h) (Or.inl ⟨by rfl, ?_⟩) (by assumption) ?_
    rotate_left 1
    · (intro w hSw; (try dsimp only at hSw); go_simp; try with_reducible rfl)
    try simp only [Act.put, List.setIfInBounds_toArray, List.set_cons_zero, List.set_cons_succ]
    refine wpAnyH_take (i := 4) (v := ?_) (by simp only [List.getElem?_toArray, List.getElem?_cons_succ, List.getElem?_cons_zero]; exact rfl) (by kernel_rfl) (by kernel_rfl) (by kernel_rfl) (fun _ _ _ h => h) (Or.inl ⟨by rfl, ?_⟩) (by assumption) ?_
    rotate_left 1
    · (intro w hSw; (try dsimp only at hSw); go_simp; try with_reducible rfl)
    try simp only [Act.put, List.setIfInBounds_toArray, List.set_cons_zero, List.set_cons_succ]
    refine wpAnyH_ready (rs := [1]) (by kernel_rfl) (by simp) ?_
    refine (AllReadyH.cons (by simp only [List.getElem?_toArray, List.getElem?_cons_succ, List.getElem?_cons_zero]; exact rfl) (fun K hK => ?_) AllReadyH.nil)
    go_simp
    have HSL := Lib.hid (zero_slB x6)
    have HX := Lib.hid (HX.out.trans ((below_newR x6 (.cells #[.int .u8 0] 5)).mono HX.out.size))
    have HO := Lib.hid (HO.out.of_below (below_newR x6 (.cells #[.int .u8 0] 5)))
    refine hK.out _ _ HX.out (fun hHeld => ?_)
    generalize hgx : x6.alloc (.cells #[.int .u8 0] 5) = x7 at HSL HX HO hHeld ⊢
    clear hK K
    try simp only [Act.put, List.setIfInBounds_toArray, List.set_cons_zero, List.set_cons_succ]
    refine wpAnyH_ready (rs := [2]) (by kernel_rfl) (by simp) ?_
    refine (AllReadyH.cons (by simp only [List.getElem?_toArray, List.getElem?_cons_succ, List.getElem?_cons_zero]; exact rfl) (fun K hK => ?_) AllReadyH.nil)
    refine step_appendL x7 rfl (.tmp 33) (.tmp 34) rfl W1.heap.size v5 (L6 ++ encV f) rfl HO.out (some ⟨x6.heap.size, 0, none⟩) 1 1 [0#8] rfl rfl HSL.out (fun e => by cases e) (by have := HLEN.out; (try simp only [List.length_append, List.length_cons, List.length_nil]); omega) HX.out.size ?_
    rintro v8 x8 hO9 hg9 -
    have HX := Lib.hid (HX.out.grown hg9 HX.out.size (fun k hk => (HO.out.lt k hk).1))
    have HO := Lib.hid hO9
    clear hO9 hg9
    refine hK.out _ _ HX.out (fun hHeld => ?_)
    clear hK K
    try simp only [Act.put, List.setIfInBounds_toArray, List.set_cons_zero, List.set_cons_succ]
    refine wpAnyH_ready (rs := [5]) (by kernel_rfl) (by simp) ?_
    refine (AllReadyH.cons (by simp only [List.getElem?_toArray, List.getElem?_cons_succ, List.getElem?_cons_zero]; exact rfl) (fun K hK => ?_) AllReadyH.nil)
    refine step_appendL x8 rfl (.tmp 35) (.tmp 37) rfl W1.heap.size v8 ((L6 ++ encV f) ++ [0#8]) rfl HO.out (some ⟨b0, 21, none⟩) 32 32 wh hwl32 rfl (rc_whole (HR.out _ HX.out) hwl32) (fun e => by cases e) (by have := HLEN.out; (try simp only [List.length_append, List.length_cons, List.length_nil]); omega) HX.out.size ?_
    rintro v9 x9 hO9 hg9 -
    have HX := Lib.hid (HX.out.grown hg9 HX.out.size (fun k hk => (HO.out.lt k hk).1))
    have HO := Lib.hid hO9
    clear hO9 hg9
    refine hK.out _ _ HX.out (fun hHeld => ?_)
    clear hK K
    try simp only [Act.put, List.setIfInBounds_toArray, List.set_cons_zero, List.set_cons_succ]
    refine wpAnyH_take (i := 6) (v := ?_) (by simp only [List.getElem?_toArray, List.getElem?_cons_succ, List.getElem?_cons_zero]; exact rfl) (by kernel_rfl) (by kernel_rfl) (by kernel_rfl) (fun _ _ _ h => h) (Or.inl ⟨by rfl, ?_⟩) (by assumption) ?_
    rotate_left 1
    · (intro w hSw; (try dsimp only at hSw); go_simp; try with_reducible rfl)
    try simp only [Act.put, List.setIfInBounds_toArray, List.set_cons_zero, List.set_cons_succ]
    refine wpAnyH_done (by kernel_rfl) ?_ _
    refine NoPanic.normal ?_
    clear hHeld HSL hgx
    obtain ⟨L8, hL8, HO⟩ : ∃ L, ((L6 ++ encV f) ++ [0#8]) ++ wh = L ∧ Hid (OwnB x9 W1.heap.size v9 L) := ⟨_, rfl, HO⟩
    have HL8 := Lib.hid hL8
    have hl8 : L8.length ≤ 19000 := by rw [← hL8]; simp only [List.length_append, List.length_cons, List.length_nil]; have := HLEN.out; omega
    have a7 := rc_blocks (HR.out _ HX.out)
    dsimp only at a7
    clear hL8
    go_wp2_with fail
    refine (HNn.out _).mono ?_
    rintro e x10 ⟨vn, rfl, hOn, hBn⟩
    obtain ⟨pn, cn, rfl, hsn, hpn, -⟩ := hOn.shape
    have hX10 := HX.out.trans (hBn.mono HX.out.size)
    have HO10 := Lib.hid (HO.out.of_below hBn)
    clear a7 hOn hBn
    go_wp2_with (first
    | (refine wpl_appendL x10 rfl (.tmp 39) (.tmp 43) rfl W1.heap.size v9 (L8) rfl HO10.out pn _ cn (enc7 n) rfl rfl hsn hpn (by have := HLEN.out; (try simp only [List.length_append, List.length_cons, List.length_nil]); omega) (hX10).size ?_
       rintro v11 x11 hO9 hg9 -
       have HXn := Lib.hid ((hX10).grown hg9 (hX10).size (fun k hk => ((HO10.out).lt k hk).1))
       have HOn := Lib.hid hO9
       clear hO9 hg9
       obtain ⟨L9, hL9, HO11⟩ : ∃ L, L8 ++ enc7 n = L ∧ Hid (OwnB x11 W1.heap.size v11 L) := ⟨_, rfl, HOn⟩
       have HL9 := Lib.hid hL9
       have hl9 : L9.length ≤ 20000 := by rw [← hL9]; simp only [List.length_append]; have := HLEN.out; omega
       have HX11 := HXn
       have a8 := rc_blocks (HR.out _ HX11.out)
       dsimp only at a8
       clear HXn HOn hL9))
    go_loopw [3, 4, 48] (fun sv s4 si wr => ∃ i : Nat, i ≤ n ∧ si = .int .i64 (i : Int) ∧ OwnB wr W1.heap.size sv (L9 ++ (ds.take i).flatten) ∧ Below W1.heap.size W1 wr) (fun _ _ si _ => n - (intOf si).toNat)
    case atStart => exact ⟨0, Nat.zero_le _, rfl, by rw [List.take_zero, List.flatten_nil, List.append_nil]; exact HO11.out, HX11.out⟩
    case round =>
      obtain ⟨i, hi, rfl, hO, hB⟩ := hrel
      obtain ⟨pz, cz, hve, hsq, hpz, -⟩ := hO.shape
      subst hve
      have HSQ := Lib.hid hsq
      clear hsq
      have HXr := Lib.hid hB
      have HOr := Lib.hid hO
      clear hO hB
      by_cases hlt : i < n
      · have z1 : (i : Int) < (n : Int) := by omega
        have z2 : decide ((i : Int) < (n : Int)) = true := decide_eq_true z1
        have hn0 := HNN.out.1
        have hil : i < ds.length := by omega
        obtain ⟨c1, o1, e1, -, hcell, h32⟩ := (HD.out _ HXr.out).at i hil
        dsimp only at e1
        have a9 := rc_blocks (HR.out _ HXr.out)
        dsimp only at a9
        rw [e1] at a9
        have hnc : n ≤ cap := HNN.out.2.1
        have hn4 := HNN.out.2.2
        obtain ⟨di, hdi⟩ : ∃ x, ds.getD i [] = x := ⟨_, rfl⟩
        rw [hdi] at hcell h32
        have htk : (ds.take (i + 1)).flatten = (ds.take i).flatten ++ di := by
          rw [← hdi, List.take_add_one, List.flatten_append, List.getElem?_eq_getElem hil, List.getD_eq_getElem?_getD, List.getElem?_eq_getElem hil]
          simp
        have htl : (ds.take i).flatten.length ≤ 320000 := by
          rw [flat_len32 (fun d hd => HEA.out d (List.mem_of_mem_take hd)), List.length_take]
          omega
        have hsi : Sl wr (some ⟨c1, o1 + i * 32, none⟩) di := fun j hj => ⟨c1, o1 + i * 32, rfl, by rw [show o1 + i * 32 + j = o1 + 32 * i + j by omega]; exact hcell j (by omega)⟩
        have w3 : IntKind.i64.wrap ((i : Int) + 1) = (i : Int) + 1 := by rw [IntKind.wrap_i64]; omega
        have HTK := Lib.hid htk
        clear htk hdi hcell e1 a8 hil hn0
        go_wp2_with (first
        | (refine wpl_appendL wr rfl (.tmp 51) (.tmp 56) rfl W1.heap.size (.slice pz (L9 ++ (ds.take i).flatten).length cz) (L9 ++ (ds.take i).flatten) rfl HOr.out (some ⟨c1, o1 + i * 32, none⟩) 32 32 di h32 rfl hsi (fun e => by cases e) (by have := HLEN.out; (try simp only [List.length_append, List.length_cons, List.length_nil]); omega) (HXr.out).size ?_
           rintro v12 x12 hO9 hg9 -
           have HXn := Lib.hid ((HXr.out).grown hg9 (HXr.out).size (fun k hk => ((HOr.out).lt k hk).1))
           have HOn := Lib.hid hO9
           clear hO9 hg9
        ))
        go_roundw
        case rel => exact ⟨i + 1, by omega, by go_num, by rw [HTK.out, ← List.append_assoc]; exact HOn.out, HXn.out⟩
        case measure => simp [intOf]; omega
      · have z1 : ¬ (i : Int) < (n : Int) := by omega
        have z2 : decide ((i : Int) < (n : Int)) = false := decide_eq_false z1
        have hin : i = ds.length := by have := HNN.out.1; omega
        have hwd : (ds.take i).flatten = ds.flatten := by rw [hin, List.take_length]
        rw [hwd] at HOr HSQ ⊢
        clear hwd hin
        obtain ⟨L10, hL10⟩ : ∃ L, L9 ++ ds.flatten = L := ⟨_, rfl⟩
        rw [hL10] at HOr HSQ ⊢
        have HL10 := Lib.hid hL10
        have hl10 : L10.length ≤ 400000 := by rw [← hL10, List.length_append, flat_len32 HEA.out]; have := HNN.out.2.2; omega
        have HOn := HOr
        have HXn := HXr
        have hsz := HSQ.out
        clear hL10 HXr HOr a8 HSQ
        go_wp2_with fail
        refine (refSum1_any _ pz _ cz _ rfl hsz hpz (HTB.out _ HXn.out) (by omega)).mono ?_
        rintro e x8 ⟨rfl, hB8⟩
        have hX8 := HXn.out.trans (hB8.mono HXn.out.size)
        have hO8 := HOn.out.of_below hB8
        have hdl : (digL L10).length = 32 := digL_len _
        clear hB8
        obtain ⟨dg, hdg⟩ : ∃ x, digL L10 = x := ⟨_, rfl⟩
        have HDG := Lib.hid hdg
        rw [hdg] at hdl
        have st9 := st_dig x8 x8.heap.size dg rfl
        have HX9 := Lib.hid (hX8.trans ((below_newR x8 (.cells (tab 32 (dgF dg)) 23)).mono hX8.size))
        have HO9 := Lib.hid (hO8.of_below (below_newR x8 (.cells (tab 32 (dgF dg)) 23)))
        have hs9 : Sl (x8.alloc (.cells (tab 32 (dgF dg)) 23)) (some ⟨x8.heap.size, 0, none⟩) dg := ((Row.new x8 23 32 (dgF dg)).fresh (base := x8.heap.size) (Nat.le_refl _) hdl).sl
        clear hX8 hO8
        rw [hdg]
        clear hdg HXn HOn
        go_wp2_with (first
        | (refine wpl_appendL (x8.alloc (.cells (tab 32 (dgF dg)) 23)) rfl (.tmp 61) (.tmp 62) rfl W1.heap.size (.slice pz L10.length cz) (L10) rfl HO9.out (some ⟨x8.heap.size, 0, none⟩) 32 32 dg hdl rfl hs9 (fun e => by cases e) (by have := HLEN.out; (try simp only [List.length_append, List.length_cons, List.length_nil]); omega) (HX9.out).size ?_
           rintro v10 x10 hO9 hg9 -
           have HXn := Lib.hid ((HX9.out).grown hg9 (HX9.out).size (fun k hk => ((HO9.out).lt k hk).1))
           have HOn := Lib.hid hO9
           clear hO9 hg9
        ))
        have hbd : bodyRc ⟨pB p, s, t, c, f, false, wh, ds⟩ = L10 := by unfold bodyRc; dsimp only; rw [if_neg (by simp), HL3.out, HL6.out, ← HL10.out, ← HL9.out, ← HL8.out, HNN.out.1]; simp only [List.append_assoc]
        have HFIN := Lib.hid (show OwnB x10 w.heap.size v10 (encRc ⟨pB p, s, t, c, f, false, wh, ds⟩) from by unfold encRc; rw [hbd, HDG.out]; exact HOn.out.lower HB1.out.size)
        have HBF := Lib.hid (HB1.out.trans (HXn.out.mono HB1.out.size))
        clear hbd HXn HOn
        go_ret
        exact ⟨_, rfl, HFIN.out, HBF.out⟩
end Go.Proofs.YtfemgkamgokjcaaGreatDoor
/- What record.Parse tells of the bytes of a record. -/
set_option maxRecDepth 100000
namespace Go.Proofs.YtfemgkamgokjcaaGreatDoor
open Go Go.RowKit
attribute [-go_sem] Sha.exec_store

theorem veq_congr {f g h : Nat → Int} (e : ∀ i, i < 16 → f i = g i) : veq f h = veq g h := by
  rw [Bool.eq_iff_iff, veq_iff, veq_iff]
  exact ⟨fun x i hi => (e i hi).symm.trans (x i hi), fun x i hi => (e i hi).trans (x i hi)⟩
theorem gdV_congr {f g : Nat → Int} (e : ∀ i, i < 16 → f i = g i) : gdV f = gdV g := by
  rw [Bool.eq_iff_iff, gdV_iff, gdV_iff]
  exact ⟨fun x i hi => by rw [← e i hi]; exact x i hi, fun x i hi => by rw [e i hi]; exact x i hi⟩
theorem goodR_ver (r : Rc) {g : Nat → Int} (e : ∀ i, i < 16 → g i = r.ver i) : goodR { r with ver := g } = goodR r := by
  unfold goodR rfE okV
  dsimp only
  rw [veq_congr e, gdV_congr e]
theorem rcV_ver (r : Rc) {g : Nat → Int} (e : ∀ i, i < 16 → g i = r.ver i) : rcV { r with ver := g } = rcV r := by
  unfold rcV
  congr 1
  refine tab_congr fun i hi => ?_
  unfold rcF
  dsimp only
  by_cases h : i < 20 ∧ 4 ≤ i
  · rw [e (i - 4) (by omega)]
  · by_cases h2 : i < 20
    · have : i = 0 ∨ i = 1 ∨ i = 2 ∨ i = 3 := by omega
      rcases this with rfl | rfl | rfl | rfl <;> rfl
    · have h0 : ¬ i = 0 := by omega
      have h1 : ¬ i = 1 := by omega
      have h3 : ¬ i = 2 := by omega
      have h4 : ¬ i = 3 := by omega
      simp only [h0, h1, h2, h3, h4, if_false]
/-- What is read of a record's bytes with another digest. -/
theorem parseC_other {r : RcT} (h : RcW r) (d : By) (hd : d.length = 32) (hne : d ≠ digL (bodyRc r)) : parseC (bodyRc r ++ d) = (11, none) := by
  obtain ⟨g, hg, -⟩ := takeRc_back h d
  unfold parseC
  rw [hg]
  dsimp only
  rw [if_pos hd, List.length_append, hd, Nat.add_sub_cancel, List.take_left]
  have : deq (digL (bodyRc r)) d = false := by
    cases e : deq (digL (bodyRc r)) d with
    | false => rfl
    | true => exact absurd ((deq_iff (digL_len _) hd).1 e).symm hne
  rw [this]
  rfl
/-- What is read of a record's bytes. -/
theorem parseC_back {r : RcT} (h : RcW r) : ∃ g, (∀ j, j < 16 → g j = r.ver j) ∧ parseC (encRc r) = if goodT (r.nrm g) then (0, some (r.nrm g)) else (1, none) := by
  obtain ⟨g, hg, hgf⟩ := takeRc_back h (digL (bodyRc r))
  refine ⟨g, hgf, ?_⟩
  unfold parseC encRc
  rw [hg]
  dsimp only
  rw [if_pos (digL_len _), List.length_append, digL_len, Nat.add_sub_cancel, List.take_left, deq_self, if_pos rfl]
/-- The last byte of a record's bytes changed. -/
theorem encRc_set (r : RcT) (y : BitVec 8) : (encRc r).set ((encRc r).length - 1) y = bodyRc r ++ (digL (bodyRc r)).set 31 y := by
  unfold encRc
  rw [List.length_append, digL_len, List.set_append_right _ _ (by omega), show (bodyRc r).length + 32 - 1 - (bodyRc r).length = 31 by omega]
theorem parseC_set {r : RcT} (h : RcW r) (y : BitVec 8) (hy : y ≠ (encRc r).getD ((encRc r).length - 1) 0#8) : parseC ((encRc r).set ((encRc r).length - 1) y) = (11, none) := by
  rw [encRc_set]
  refine parseC_other h _ (by rw [List.length_set, digL_len]) fun e => hy ?_
  have h1 : ((digL (bodyRc r)).set 31 y)[31]? = (digL (bodyRc r))[31]? := by rw [e]
  rw [List.getElem?_set_self (by rw [digL_len]; decide)] at h1
  unfold encRc
  rw [List.getD_eq_getElem?_getD, List.length_append, digL_len, List.getElem?_append_right (by omega), show (bodyRc r).length + 32 - 1 - (bodyRc r).length = 31 by omega, ← h1]
  rfl
/-- The record that the program keeps of a record, its blocks' digests gone if it is deleted. -/
def Rc.cut (r : Rc) : Rc := if r.dead then { r with whole := z32, q := none, n := 0, cap := 0 } else r
theorem cut_whole {r : Rc} (h : r.whole.length = 32) : r.cut.whole.length = 32 := by
  unfold Rc.cut
  split
  · exact z32_len
  · exact h
def Rc.text (r : Rc) (ds : List By) : RcT := ⟨pB r.path, r.size.toNat, r.time.toNat, r.chg.toNat, r.ver, r.dead, r.whole, ds⟩
theorem text_W {w : World} {r : Rc} {ds : List By} (h : DgAt w r ds) (hp : r.path.length ≤ 100) (hn : r.n ≤ 64) (hs : 0 ≤ r.size ∧ r.size < 9223372036854775808) (ht : 0 ≤ r.time ∧ r.time < 9223372036854775808) (hc : 0 ≤ r.chg ∧ r.chg < 9223372036854775808) (hf : ∀ i, i < 16 → 0 ≤ r.ver i ∧ r.ver i ≤ 1099511627776) : RcW (r.text ds) :=
  ⟨by show (pB r.path).length ≤ 100; rw [pB_len]; exact hp, by show r.size.toNat < _; omega, by show r.time.toNat < _; omega, by show r.chg.toNat < _; omega, hf, fun _ => h.whole, fun _ => by have := h.n; show ds.length ≤ 64; omega, fun _ => h.each⟩
/-- What is read is the record, its blocks elsewhere. -/
theorem nrm_rc {w : World} {r : Rc} {ds : List By} (h : DgAt w r ds) (hs : 0 ≤ r.size) (ht : 0 ≤ r.time) (hc : 0 ≤ r.chg) (g : Nat → Int) (q : Option Addr) (cap : Nat) :
    ((r.text ds).nrm g).rc q cap = { (r.cut.mov q cap) with ver := g } := by
  have hn := h.n
  obtain ⟨p, s, t, c, f, d, wh, q0, n, c0⟩ := r
  dsimp only at hs ht hc hn
  unfold Rc.text RcT.nrm RcT.rc Rc.cut Rc.mov
  dsimp only
  cases d with
  | true => simp only [if_pos, pS_pB, Int.toNat_of_nonneg hs, Int.toNat_of_nonneg ht, Int.toNat_of_nonneg hc, List.length_nil]
  | false => simp only [Bool.false_eq_true, if_false, pS_pB, Int.toNat_of_nonneg hs, Int.toNat_of_nonneg ht, Int.toNat_of_nonneg hc, hn]
theorem goodT_cut {w : World} {r : Rc} {ds : List By} (h : DgAt w r ds) (hs : 0 ≤ r.size) (ht : 0 ≤ r.time) (hc : 0 ≤ r.chg) {g : Nat → Int} (e : ∀ i, i < 16 → g i = r.ver i) : goodT ((r.text ds).nrm g) = goodR r.cut := by
  unfold goodT
  rw [nrm_rc h hs ht hc]
  have e2 : ∀ i, i < 16 → g i = (r.cut.mov none 0).ver i := fun i hi => by rw [e i hi]; unfold Rc.cut Rc.mov; split <;> rfl
  rw [goodR_ver _ e2]
  rfl
theorem DgAt.ver {w : World} {r : Rc} {ds : List By} {g : Nat → Int} (h : DgAt w { r with ver := g } ds) : DgAt w r ds := ⟨h.n, h.lie, h.each, h.nil, h.le, h.whole⟩
theorem mov_back (r : Rc) (q : Option Addr) (cap : Nat) : (r.mov q cap).mov r.q r.cap = r := rfl
/-- A byte of a buffer of one's own is put. -/
theorem own_set {w : World} {base n cap : Nat} {q : Option Addr} {l : By} (h : OwnB w base (.slice q n cap) l) (k : Nat) (hk : k < l.length) :
    ∃ g, q = some ⟨g, 0, none⟩ ∧ base ≤ g ∧ g < w.heap.size ∧ w.frozen? ⟨g, k, none⟩ = false ∧ w.cell? ⟨g, k, none⟩ = some (B (l.getD k 0#8)) ∧ ∀ z, Sl (w.setCell ⟨g, k, none⟩ (B z)) q (l.set k z) := by
  obtain ⟨p', c', hv, hs, -, -⟩ := h.shape
  injection hv with e1 e2 e3
  subst e1 e2 e3
  have hlt := h.lt
  rcases h.2 with ⟨-, hl⟩ | ⟨g, cap', cur, hv2, h1, hg, -⟩
  · simp at hl
    subst hl
    exact absurd hk (Nat.not_lt_zero _)
  · injection hv2 with f1 f2 f3
    subst f1
    have hcell : ∀ j, j < l.length → w.cell? ⟨g, j, none⟩ = some (B (l.getD j 0#8)) := fun j hj => by
      obtain ⟨c, o, e, hc⟩ := hs j hj
      injection e with e
      injection e with e4 e5
      subst e4 e5
      rw [Nat.zero_add] at hc
      exact hc
    refine ⟨g, rfl, h1, (hlt g rfl).2, by simp only [World.frozen?, hg]; simp, hcell k hk, fun z j hj => ?_⟩
    rw [List.length_set] at hj
    refine ⟨g, 0, rfl, ?_⟩
    rw [Nat.zero_add]
    by_cases e : j = k
    · subst e
      rw [World.cell?_setCell_same _ _ _ (hcell j hj), List.getD_eq_getElem?_getD, List.getElem?_set_self hj]
      rfl
    · rw [World.cell?_setCell_other _ _ _ _ (by intro h; simp only [Addr.mk.injEq] at h; omega), hcell j hj, List.getD_eq_getElem?_getD, List.getD_eq_getElem?_getD, List.getElem?_set_ne (by omega)]
theorem encRc_len {r : RcT} (h : RcW r) : (encRc r).length ≤ 9000 ∧ 32 ≤ (encRc r).length := by
  obtain ⟨h1, h2, h3, h4, h5, h6, h7, h8⟩ := h
  obtain ⟨path, size, time, chg, ver, dead, whole, ds⟩ := r
  dsimp only at *
  have p9 : (128 : Nat) ^ 9 = 9223372036854775808 := by decide
  have k1 := enc7_len 8 path.length (by rw [p9]; omega)
  have k2 := enc7_len 8 size (by rw [p9]; exact h2)
  have k3 := enc7_len 8 time (by rw [p9]; exact h3)
  have k4 := enc7_len 8 chg (by rw [p9]; exact h4)
  have k5 := encV_len h5
  unfold encRc bodyRc
  dsimp only
  cases dead with
  | true =>
    rw [if_pos rfl]
    simp only [List.length_append, List.length_cons, List.length_nil, digL_len]
    omega
  | false =>
    rw [if_neg (by simp)]
    have k6 := h6 rfl
    have k7 := h7 rfl
    have k8 := enc7_len 8 ds.length (by rw [p9]; omega)
    simp only [List.length_append, List.length_cons, List.length_nil, digL_len, flat_len32 (h8 rfl)]
    omega
end Go.Proofs.YtfemgkamgokjcaaGreatDoor
/- What the program's writer is asked to do; the document's example of layer 6. -/
set_option maxRecDepth 100000
namespace Go.Proofs.YtfemgkamgokjcaaGreatDoor
open Go Go.RowKit
attribute [-go_sem] Sha.exec_store

/-- A new Writer's cells: to be held against the program's own. -/
def zW : Array Value := #[.slice none 0 0]
/-- What a writer's function leaves: the writer with more bytes; its own block g, or a new one. -/
def WrPost (Wr : Nat → World → Addr → Option Nat → List (BitVec 8) → Prop) (N : Nat) (w : World) (a : Addr) (g : Option Nat) (l : List (BitVec 8)) (w' : World) : Prop :=
  ∃ g', Wr N w' a g' l ∧ (∀ k, g' = some k → g = some k ∨ w.heap.size ≤ k) ∧ Kq a.block g w w'
/-- The premises on the writer. Wr N w a g l: the writer at a, among the blocks from N on, has the bytes l, its bytes in block g. -/
structure WrSpec (Wr : Nat → World → Addr → Option Nat → List (BitVec 8) → Prop) : Prop where
  lie : ∀ N w a g l, Wr N w a g l → N ≤ a.block ∧ a.block < w.heap.size ∧ ∀ k, g = some k → N ≤ k ∧ k < w.heap.size ∧ k ≠ a.block
  stay : ∀ N w w' a g l, Wr N w a g l → w.heap.size ≤ w'.heap.size → w'.heap[a.block]? = w.heap[a.block]? → (∀ k, g = some k → w'.heap[k]? = w.heap[k]?) → Wr N w' a g l
  zero : ∀ (N : Nat) (w : World), N ≤ w.heap.size → Wr N (w.alloc (.cells zW 76)) ⟨w.heap.size, 0, none⟩ none []
  number : ∀ N w a g l (n : Nat), Wr N w a g l → l.length < 1000000000 → n < 9223372036854775808 → Calls Tryz.prog 75 #[.pointer (some a), .int .i64 (n : Int)] w fun e w' => e = .returned (.bool true) ∧ WrPost Wr N w a g (l ++ enc7 n) w'
  neg : ∀ N w a g l (n : Int), Wr N w a g l → n < 0 → Calls Tryz.prog 75 #[.pointer (some a), .int .i64 n] w fun e w' => e = .returned (.bool false) ∧ Below w.heap.size w w'
  bytes : ∀ N w a g l (p : Option Addr) (n cap : Nat) (bs : List (BitVec 8)), Wr N w a g l → l.length < 1000000000 → bs.length = n → Sl w p bs → (p = none → cap = 0) → n < 1000000 → (0 < n → ∀ c o, p = some ⟨c, o, none⟩ → c < N) → Calls Tryz.prog 76 #[.pointer (some a), .slice p n cap] w fun e w' => e = .returned (.tuple #[]) ∧ WrPost Wr N w a g (l ++ (enc7 n ++ bs)) w'
  text : ∀ N w a g l (bs : List (BitVec 8)), Wr N w a g l → l.length < 1000000000 → bs.length < 1000000 → Calls Tryz.prog 78 #[.pointer (some a), .string (strOf bs)] w fun e w' => e = .returned (.tuple #[]) ∧ WrPost Wr N w a g (l ++ (enc7 bs.length ++ bs)) w'
  truth : ∀ N w a g l (b : Bool), Wr N w a g l → l.length < 1000000000 → Calls Tryz.prog 80 #[.pointer (some a), .bool b] w fun e w' => e = .returned (.tuple #[]) ∧ WrPost Wr N w a g (l ++ [if b then 1#8 else 0#8]) w'
  digest : ∀ N w a g l (bs : List (BitVec 8)), Wr N w a g l → l.length < 1000000000 → bs.length = 32 → Calls Tryz.prog 37 #[.pointer (some a), digV bs] w fun e w' => e = .returned (.tuple #[]) ∧ WrPost Wr N w a g (l ++ bs) w'
  done : ∀ N w a g l, Wr N w a g l → l.length < 1000000000 → Calls Tryz.prog 39 #[.pointer (some a)] w fun e w' => GivesB w l e w'
theorem take300 : takeI [172#8, 2#8] 300 = (300, 2, 0) := by decide
theorem enc300 : enc7 300 = [172#8, 2#8] := by rw [enc7_hi (by decide), enc7_lo (by decide)]
theorem Sl.far {w : World} {p : Option Addr} {l : List (BitVec 8)} {y : Nat} (h : Sl w p l) (hne : ∀ c o, p = some ⟨c, o, none⟩ → c ≠ y) (v : Value) : Sl (w.setCell ⟨y, 0, none⟩ v) p l := fun j hj => by
  obtain ⟨c, o, e, hc⟩ := h j hj
  exact ⟨c, o, e, by rw [World.cell?_setCell_far _ _ _ _ (show y ≠ c from Ne.symm (hne c o e))]; exact hc⟩
theorem Sl.belowN {x y : World} {p : Option Addr} {l : List (BitVec 8)} {N : Nat} (h : Sl x p l) (hlt : ∀ c o, p = some ⟨c, o, none⟩ → c < N) (k : Below N x y) : Sl y p l := fun j hj => by
  obtain ⟨c, o, e, hc⟩ := h j hj
  exact ⟨c, o, e, by rw [k.cell (by exact hlt c o e)]; exact hc⟩
theorem Sl.blk {w : World} {p : Option Addr} {l : List (BitVec 8)} (h : Sl w p l) (hl : 0 < l.length) : ∀ c o, p = some ⟨c, o, none⟩ → c < w.heap.size := fun c o e => by
  obtain ⟨c', o', e', hc⟩ := h 0 hl
  rw [e] at e'
  injection e' with e'
  injection e' with e1 e2
  subst e1
  exact World.block_lt_of_cell? w _ hc
attribute [local go_sem] mkFn
end Go.Proofs.YtfemgkamgokjcaaGreatDoor
/- Nothing written yet. -/
namespace Go.Proofs.YtfemgkamgokjcaaGreatDoor
open Go Go.RowKit
attribute [-go_sem] Sha.exec_store
theorem OwnB.nil (w : World) (base : Nat) : OwnB w base (.slice none 0 0) [] := ⟨rfl, .inl ⟨rfl, rfl⟩⟩
end Go.Proofs.YtfemgkamgokjcaaGreatDoor
/- What the program's Writer is in memory; its numbers. -/
set_option maxRecDepth 100000
namespace Go.Proofs.YtfemgkamgokjcaaGreatDoor
open Go Go.RowKit
attribute [-go_sem] Sha.exec_store

/-- The writer at a has the bytes l. -/
def WrP (N : Nat) (w : World) (a : Addr) (g : Option Nat) (l : List (BitVec 8)) : Prop := ∃ (b : Nat) (v : Value), a = ⟨b, 0, none⟩ ∧ N ≤ b ∧ w.cell? ⟨b, 0, none⟩ = some v ∧ w.frozen? ⟨b, 0, none⟩ = false ∧ OwnB w N v l ∧ v.ownBlock = g ∧ g ≠ some b
theorem wrP_lie (N : Nat) (w : World) (a : Addr) (g : Option Nat) (l : List (BitVec 8)) (h : WrP N w a g l) : N ≤ a.block ∧ a.block < w.heap.size ∧ ∀ k, g = some k → N ≤ k ∧ k < w.heap.size ∧ k ≠ a.block := by
  obtain ⟨b, v, rfl, h1, h2, h3, h4, h5, h6⟩ := h
  refine ⟨h1, World.block_lt_of_cell? w _ h2, fun k hk => ?_⟩
  have := h4.lt k (by rw [h5]; exact hk)
  refine ⟨this.1, this.2, fun e => h6 ?_⟩
  rw [hk, e]
theorem wrP_stay (N : Nat) (w w' : World) (a : Addr) (g : Option Nat) (l : List (BitVec 8)) (h : WrP N w a g l) (hs : w.heap.size ≤ w'.heap.size) (hb : w'.heap[a.block]? = w.heap[a.block]?) (hg : ∀ k, g = some k → w'.heap[k]? = w.heap[k]?) : WrP N w' a g l := by
  obtain ⟨b, v, rfl, h1, h2, h3, h4, h5, h6⟩ := h
  exact ⟨b, v, rfl, h1, by rw [World.cell?_of_block (w := w) hb]; exact h2, by rw [World.frozen?_of_block (w := w) hb]; exact h3, h4.keep fun k hk => hg k (by rw [← h5]; exact hk), h5, h6⟩
theorem wrP_zero (N : Nat) (w : World) (hN : N ≤ w.heap.size) : WrP N (w.alloc (.cells zW 76)) ⟨w.heap.size, 0, none⟩ none [] :=
  ⟨w.heap.size, .slice none 0 0, rfl, hN, World.cell?_alloc_new _ _ _ _, by go_simp, OwnB.nil _ _, rfl, by simp⟩
theorem Kq.refl (b : Nat) (g : Option Nat) (w : World) : Kq b g w w := ⟨rfl, rfl, rfl, Nat.le_refl _, fun _ _ _ _ => rfl⟩
theorem Kq.trans {b : Nat} {g g' : Option Nat} {x y z : World} (h : Kq b g x y) (k : Kq b g' y z) (hg : ∀ i, g' = some i → g = some i ∨ x.heap.size ≤ i) : Kq b g x z :=
  ⟨k.os.trans h.os, k.tape.trans h.tape, k.output.trans h.output, Nat.le_trans h.size k.size, fun i h1 h2 h3 => (k.block i (Nat.lt_of_lt_of_le h1 h.size) h2 (fun e => by rcases hg i e with h4 | h4; exact h3 h4; omega)).trans (h.block i h1 h2 h3)⟩
theorem Kq.ofBelow {b : Nat} {g : Option Nat} {x y : World} (k : Below x.heap.size x y) : Kq b g x y := ⟨k.os, k.tape, k.output, k.size, fun i h _ _ => k.block i h⟩
/-- More bytes: appended to the writer's own, and stored. -/
theorem wr_put {N : Nat} {w y z : World} {b : Nat} {g : Option Nat} {l' : List (BitVec 8)} {v v' : Value} (hN : N ≤ b) (hblt : b < w.heap.size) (hB : Below w.heap.size w y) (hc : w.cell? ⟨b, 0, none⟩ = some v) (hf : w.frozen? ⟨b, 0, none⟩ = false) (hv : v.ownBlock = g) (hgb : g ≠ some b)
    (hO : OwnB z N v' l') (hG : y.grownBy z v.ownBlock) (hor : v'.ownBlock = v.ownBlock ∨ v'.ownBlock = some y.heap.size) :
    (z.cell? ⟨b, 0, none⟩ = some v ∧ z.frozen? ⟨b, 0, none⟩ = false) ∧ WrPost WrP N w ⟨b, 0, none⟩ g l' (z.setCell ⟨b, 0, none⟩ v') := by
  have hzb : z.heap[b]? = w.heap[b]? := by rw [hG.block b (Nat.lt_of_lt_of_le hblt hB.size) (by rw [hv]; exact Ne.symm hgb), hB.block b hblt]
  have hz : z.cell? ⟨b, 0, none⟩ = some v := by rw [World.cell?_of_block (w := w) hzb]; exact hc
  have hzf : z.frozen? ⟨b, 0, none⟩ = false := by rw [World.frozen?_of_block (w := w) hzb]; exact hf
  have hne : v'.ownBlock ≠ some b := by
    rcases hor with e | e
    · rw [e, hv]; exact hgb
    · rw [e]; intro h; injection h with h; have := hB.size; omega
  refine ⟨⟨hz, hzf⟩, v'.ownBlock, ⟨b, v', rfl, hN, World.cell?_setCell_same _ _ _ hz, by rw [World.frozen?_setCell]; exact hzf, hO.keep fun k hk => Below.heap_setCell _ _ _ _ (fun e => hne (by rw [hk]; exact congrArg some e)), rfl, hne⟩, fun k hk => ?_, ?_⟩
  · rcases hor with e | e
    · left; rw [← hv, ← e]; exact hk
    · right; rw [e] at hk; injection hk with hk; rw [← hk]; exact hB.size
  · exact ⟨hG.os.trans hB.os, hG.tape.trans hB.tape, hG.output.trans hB.output, Nat.le_trans hB.size (by simpa using hG.size), fun k h1 h2 h3 => by
      rw [Below.heap_setCell _ _ _ _ h2, hG.block k (Nat.lt_of_lt_of_le h1 hB.size) (by rw [hv]; exact fun e => h3 e.symm), hB.block k h1]⟩
/-- Two steps, one behind the other. -/
theorem WrPost.trans {N : Nat} {w y z : World} {a : Addr} {g g' : Option Nat} {l' : List (BitVec 8)} (hg' : ∀ k, g' = some k → g = some k ∨ w.heap.size ≤ k) (hK : Kq a.block g w y) (h : WrPost WrP N y a g' l' z) : WrPost WrP N w a g l' z := by
  obtain ⟨g2, h1, h2, h3⟩ := h
  refine ⟨g2, h1, fun k hk => ?_, hK.trans h3 hg'⟩
  rcases h2 k hk with h4 | h4
  · exact hg' k h4
  · right; have := hK.size; omega
end Go.Proofs.YtfemgkamgokjcaaGreatDoor
/- The program's Writer: numbers. -/
set_option maxRecDepth 100000
namespace Go.Proofs.YtfemgkamgokjcaaGreatDoor
open Go Go.RowKit
attribute [-go_sem] Sha.exec_store

theorem OwnB.shape3 {w : World} {base : Nat} {v : Value} {l : List (BitVec 8)} (h : OwnB w base v l) : ∃ p n c, v = .slice p n c := by
  obtain ⟨p, c, rfl, -⟩ := h.shape
  exact ⟨_, _, _, rfl⟩
theorem or128F : ∀ t : Fin 128, bits BinOp.or IntKind.u8 ((t.val : Nat) : Int) 128 = ((128 + t.val : Nat) : Int) := by decide
theorem or128 (t : Nat) (h : t < 128) : bits BinOp.or IntKind.u8 (t : Int) 128 = ((128 + t : Nat) : Int) := or128F ⟨t, h⟩
/-- A byte that was just made. -/
theorem Sl.one (x : World) (c : Nat) (h : c < 256) : Sl (x.alloc (.cells #[.int .u8 (c : Int)] 5)) (some ⟨x.heap.size, 0, none⟩) [BitVec.ofNat 8 c] := fun j hj => by
  have : j = 0 := by simp at hj; omega
  subst this
  refine ⟨x.heap.size, 0, rfl, ?_⟩
  rw [World.cell?_alloc_new]
  show some (Value.int .u8 (c : Int)) = some (B (BitVec.ofNat 8 c))
  rw [B_eq', BitVec.toNat_ofNat, Nat.mod_eq_of_lt (by simpa using h)]
set_option maxRecDepth 100000 in
set_option maxHeartbeats 4000000 in
theorem wrP_number (N : Nat) (w : World) (a : Addr) (g : Option Nat) (l : List (BitVec 8)) (n : Nat) (h : WrP N w a g l) (hl : l.length < 1000000100) (hn : n < 9223372036854775808) : Calls Tryz.prog 75 #[.pointer (some a), .int .i64 (n : Int)] w fun e w' => e = .returned (.bool true) ∧ WrPost WrP N w a g (l ++ enc7 n) w' := by
  have HW := Lib.hid h
  have hNb := wrP_lie _ _ _ _ _ h
  obtain ⟨b, v0, rfl, -⟩ := h
  have HN := Lib.hid hNb
  clear hNb
  have hge : ¬ (n : Int) < 0 := by omega
  have hged : decide ((n : Int) < 0) = false := decide_eq_false hge
  have HE9 := Lib.hid (show (enc7 n).length ≤ 9 from enc7_len 8 n (Nat.lt_of_lt_of_le hn (by decide)))
  go_enter Tryz.func75, Tryz.ntmps75
  go_wp2
  go_loopw [1] (fun vn wr => ∃ (m : Nat) (l' : List (BitVec 8)) (g' : Option Nat), vn = .int .i64 m ∧ m < 9223372036854775808 ∧ enc7 n = l' ++ enc7 m ∧ WrP N wr ⟨b, 0, none⟩ g' (l ++ l') ∧ (∀ k, g' = some k → g = some k ∨ w.heap.size ≤ k) ∧ Kq b g w wr) (fun vn _ => (intOf vn).toNat)
  case atStart => exact ⟨n, [], g, rfl, hn, rfl, by rw [List.append_nil]; exact HW.out, fun k hk => .inl hk, Kq.refl _ _ _⟩
  case round =>
    obtain ⟨m, l', g', rfl, hm, he, hW, hg', hK⟩ := hrel
    have hlen : (l ++ l').length < 2000000000 := by
      have h9 := HE9.out
      rw [he, List.length_append] at h9
      rw [List.length_append]; omega
    obtain ⟨b2, v, hb2, k1, hc, hf, hO, hv, hgb⟩ := hW
    injection hb2 with hb2
    subst hb2
    have hblt : b < wr.heap.size := World.block_lt_of_cell? wr _ hc
    have HO := Lib.hid hO
    have HV := Lib.hid (And.intro hv hgb)
    have HE := Lib.hid he
    have HG := Lib.hid hg'
    have HK := Lib.hid hK
    have HLEN := Lib.hid hlen
    clear hO hv hgb he hg' hK hlen
    by_cases h128 : 128 ≤ m
    · have z1 : (128 : Int) ≤ (m : Int) := by omega
      have z2 : decide ((128 : Int) ≤ (m : Int)) = true := decide_eq_true z1
      obtain ⟨t, ht⟩ : ∃ t, m % 128 = t := ⟨_, rfl⟩
      obtain ⟨m2, hm2⟩ : ∃ m2, m / 128 = m2 := ⟨_, rfl⟩
      have ht1 : t < 128 := by omega
      have t1 : (m : Int) % 128 = (t : Int) := by omega
      have t2 : (m : Int).tmod 128 = (t : Int) := by rw [Int.tmod_eq_emod_of_nonneg (by omega)]; exact t1
      have t3 : IntKind.u8.wrap (t : Int) = (t : Int) := by rw [IntKind.wrap_u8']; clear t1 t2; omega
      have t4 : (m : Int) / 128 = (m2 : Int) := by clear t2; omega
      have hor := or128 t ht1
      obtain ⟨c, hcc⟩ : ∃ c, 128 + t = c := ⟨_, rfl⟩
      rw [hcc] at hor
      have hHE := HE.out
      rw [enc7_hi h128, ht, hcc, hm2] at hHE
      have HE2 := Lib.hid hHE
      have HSL := Lib.hid (Sl.one wr c (by clear t1 t2 t4; omega))
      have HB := Lib.hid (show Below wr.heap.size wr (wr.alloc (.cells #[.int .u8 (c : Int)] 5)) from (Below.refl _ _).alloc (Nat.le_refl _) _)
      have HOB := Lib.hid (HO.out.of_below HB.out)
      have HM := Lib.hid (show m2 < m from by clear t1 t2 t4; omega)
      have hNs : N ≤ (wr.alloc (.cells #[.int .u8 (c : Int)] 5)).heap.size := by rw [World.size_alloc]; clear t1 t2 t4; omega
      have hc2 : (wr.alloc (.cells #[.int .u8 (c : Int)] 5)).cell? ⟨b, 0, none⟩ = some v := by rw [HB.out.cell (by exact hblt)]; exact hc
      clear ht hm2 hHE hcc HE
      go_wp2_with (first | (refine wpl_appendL _ rfl (.tmp 13) (.tmp 18) rfl N v (l ++ l') rfl HOB.out (some ⟨wr.heap.size, 0, none⟩) 1 1 [BitVec.ofNat 8 c] rfl rfl HSL.out (fun h => by cases h) (by have := HLEN.out; clear t1 t2 t4; omega) hNs ?_; rintro v3 w3 hO3 hg3 ho3
                            obtain ⟨⟨z3, f3⟩, hP3⟩ := wr_put k1 hblt HB.out hc hf HV.out.1 HV.out.2 hO3 hg3 ho3
                            have HP3 := Lib.hid hP3
                            obtain ⟨p3, n3, c3, rfl⟩ := hO3.shape3
                            clear hO3 hg3 ho3 hP3))
      obtain ⟨g2, q1, q2, q3⟩ := HP3.out
      refine ⟨⟨m2, l' ++ [BitVec.ofNat 8 c], g2, rfl, ?_, by rw [HE2.out]; simp, by rw [← List.append_assoc]; exact q1, fun k hk => (q2 k hk).elim (HG.out k) (fun h => .inr (Nat.le_trans HK.out.size h)), HK.out.trans q3 HG.out⟩, ?_⟩
      · have := HM.out; clear t1 t2 t4; omega
      · have := HM.out; simp [intOf]; exact this
    · have z1 : ¬ (128 : Int) ≤ (m : Int) := by omega
      have z2 : decide ((128 : Int) ≤ (m : Int)) = false := decide_eq_false z1
      have t3 : IntKind.u8.wrap (m : Int) = (m : Int) := by rw [IntKind.wrap_u8']; omega
      have hHE := HE.out
      rw [enc7_lo (n := m) (by omega)] at hHE
      have HE2 := Lib.hid hHE
      have HSL := Lib.hid (Sl.one wr m (by omega))
      have HB := Lib.hid (show Below wr.heap.size wr (wr.alloc (.cells #[.int .u8 (m : Int)] 5)) from (Below.refl _ _).alloc (Nat.le_refl _) _)
      have HOB := Lib.hid (HO.out.of_below HB.out)
      have hNs : N ≤ (wr.alloc (.cells #[.int .u8 (m : Int)] 5)).heap.size := by rw [World.size_alloc]; omega
      have hc2 : (wr.alloc (.cells #[.int .u8 (m : Int)] 5)).cell? ⟨b, 0, none⟩ = some v := by rw [HB.out.cell (by exact hblt)]; exact hc
      clear hHE HE
      go_wp2_with (first | (refine wpl_appendL _ rfl (.tmp 28) (.tmp 31) rfl N v (l ++ l') rfl HOB.out (some ⟨wr.heap.size, 0, none⟩) 1 1 [BitVec.ofNat 8 m] rfl rfl HSL.out (fun h => by cases h) (by have := HLEN.out; omega) hNs ?_; rintro v3 w3 hO3 hg3 ho3
                            obtain ⟨⟨z3, f3⟩, hP3⟩ := wr_put k1 hblt HB.out hc hf HV.out.1 HV.out.2 hO3 hg3 ho3
                            have HP3 := Lib.hid (WrPost.trans HG.out HK.out hP3)
                            obtain ⟨p3, n3, c3, rfl⟩ := hO3.shape3
                            clear hO3 hg3 ho3 hP3))
      go_ret
      exact ⟨rfl, by rw [HE2.out, ← List.append_assoc]; exact HP3.out⟩
set_option maxHeartbeats 1000000 in
theorem wrP_neg (N : Nat) (w : World) (a : Addr) (g : Option Nat) (l : List (BitVec 8)) (n : Int) (h : WrP N w a g l) (hn : n < 0) : Calls Tryz.prog 75 #[.pointer (some a), .int .i64 n] w fun e w' => e = .returned (.bool false) ∧ Below w.heap.size w w' := by
  have hd : decide (n < 0) = true := decide_eq_true hn
  clear h
  go_enter Tryz.func75, Tryz.ntmps75
  go_wp2
  go_ret
  exact ⟨rfl, Below.refl _ _⟩
set_option maxHeartbeats 1000000 in
theorem wrP_truth (N : Nat) (w : World) (a : Addr) (g : Option Nat) (l : List (BitVec 8)) (b : Bool) (h : WrP N w a g l) (hl : l.length < 1000000000) : Calls Tryz.prog 80 #[.pointer (some a), .bool b] w fun e w' => e = .returned (.tuple #[]) ∧ WrPost WrP N w a g (l ++ [if b then 1#8 else 0#8]) w' := by
  cases b with
  | true =>
    have HN := Lib.hid (wrP_number N w a g l 1 h (by omega) (by decide))
    clear h
    go_enter Tryz.func80, Tryz.ntmps80
    go_wp2_with fail
    refine HN.out.mono ?_
    rintro e w' ⟨rfl, hP⟩
    rw [enc7_lo (by decide)] at hP
    have HP := Lib.hid hP
    clear hP HN
    go_wp2
    go_end0
    exact ⟨rfl, HP.out⟩
  | false =>
    have HN := Lib.hid (wrP_number N w a g l 0 h (by omega) (by decide))
    clear h
    go_enter Tryz.func80, Tryz.ntmps80
    go_wp2_with fail
    refine HN.out.mono ?_
    rintro e w' ⟨rfl, hP⟩
    rw [enc7_lo (by decide)] at hP
    have HP := Lib.hid hP
    clear hP HN
    go_wp2
    go_end0
    exact ⟨rfl, HP.out⟩
set_option maxHeartbeats 1000000 in
theorem wrP_done (N : Nat) (w : World) (a : Addr) (g : Option Nat) (l : List (BitVec 8)) (h : WrP N w a g l) (hl : l.length < 1000000000) : Calls Tryz.prog 39 #[.pointer (some a)] w fun e w' => GivesB w l e w' := by
  obtain ⟨b, v, rfl, k1, hc, hf, hO, hv, hgb⟩ := h
  obtain ⟨p, cap, rfl, hs, hp, hle⟩ := hO.shape
  have HC := Lib.hid (clone_any l p l.length cap w rfl hs hp hle (by omega))
  clear hO hv hgb hs hp hle
  generalize l.length = n at *
  go_enter Tryz.func39, Tryz.ntmps39
  go_wp2_with fail
  refine HC.out.mono ?_
  rintro e w' ⟨v, rfl, hO, hB⟩
  have HO := Lib.hid (And.intro hO hB)
  clear hO hB HC
  go_wp2
  go_ret
  exact ⟨_, rfl, HO.out.1, HO.out.2⟩
end Go.Proofs.YtfemgkamgokjcaaGreatDoor
/- The program's Writer: bytes, texts, digests. -/
set_option maxRecDepth 100000
namespace Go.Proofs.YtfemgkamgokjcaaGreatDoor
open Go Go.RowKit
attribute [-go_sem] Sha.exec_store

theorem strOf_cells (l : List (BitVec 8)) : Lib.strCells (strOf l) = l.map B := by
  show ((l.map UInt8.ofBitVec).toArray.toList.map fun b => Value.int .u8 b.toNat) = _
  simp only [List.map_map]
  apply List.map_congr_left
  intro x _
  show Value.int .u8 ((UInt8.ofBitVec x).toNat : Int) = B x
  rw [B_eq']
  rfl
/-- A text appended to a slice of the call's own: the block afterwards is the old one or a new one. -/
theorem append_strL (w : World) (base : Nat) (ty : TypeId) (v : Value) (l : List (BitVec 8)) (hown : OwnB w base v l) (bs : List (BitVec 8)) (hn : l.length + bs.length < 1000000000000) (hb : base ≤ w.heap.size) :
    ∃ v' w', (Builtin.append_ #[35, 9] ty #[v, .string (strOf bs)]).run Tryz.prog w = .ok v' w' ∧ OwnB w' base v' (l ++ bs) ∧ w.grownBy w' v.ownBlock ∧ (v'.ownBlock = v.ownBlock ∨ v'.ownBlock = some w.heap.size) := by
  obtain ⟨i0, hi, hz0, hz1, hz2⟩ := info_parts info5
  have hst : Tryz.prog.underlying 9 = some .string := by kernel_rfl
  have hsz := strOf_size bs
  obtain ⟨v', w', h1, h2, h3, h4⟩ := Lib.run_append_own_string (P := Tryz.prog) w base 35 9 ty 5 i0 und35 hst hi hz0 hz1 hz2 v l.length (l.map B) hown (strOf bs) (by rw [hsz]; simp only [maxLen]; omega) (by rw [hsz]; omega) hb
  refine ⟨v', w', h1, by unfold OwnB; rw [List.length_append, List.map_append, ← strOf_cells bs, ← hsz]; exact h2, h3, ?_⟩
  rcases hown.2 with ⟨rfl, hl0⟩ | ⟨g, cap, cur, rfl, hbg, hg, hnc, hcm, hcs, htake⟩
  · by_cases h0 : (strOf bs).size = 0
    · left; rw [h4.2 ⟨rfl, h0⟩]
    · right
      have hr := run_append_nil_string (P := Tryz.prog) w 35 9 ty 5 i0 (.int .u8 0) und35 hst hi hz0 (strOf bs) (by omega) (by rw [hsz]; omega) (by rw [hz2, hsz]; omega)
      rw [hr] at h1
      injection h1 with h1 _
      rw [← h1]; rfl
  · by_cases hroom : l.length + (strOf bs).size ≤ cap
    · left
      have hr := Lib.run_append_room_string (P := Tryz.prog) w 35 9 ty 5 i0 und35 hst hi hz1 g l.length cap cur hg (strOf bs) hroom (by rw [hcs, Nat.mul_one]; exact hroom)
      rw [hr] at h1
      injection h1 with h1 _
      rw [← h1]; rfl
    · right
      have holds : ∀ j u, (l.map B)[j]? = some u → w.cell? ((⟨g, 0, none⟩ : Addr).add j) = some u := World.ownsRow.cells (g := g) hown rfl
      have hr := Lib.run_append_grow_string (P := Tryz.prog) w 35 9 ty 5 i0 (.int .u8 0) und35 hst hi hz0 ⟨g, 0, none⟩ l.length cap (l.map B) (by rw [hz1]; simp) holds (strOf bs) (by omega) (by rw [hsz]; omega) (by rw [hz2]; exact growslice_fits (by omega) (by rw [hsz]; omega))
      rw [hr] at h1
      injection h1 with h1 _
      rw [← h1]; rfl
theorem wpl_appendS {ops : Array Oper} {rest : List Oper} {o : Oper} {a : Act} {Q : Exit → Act → World → Prop} (w : World) (hgd : o.guard = none) (s x : Operand)
    (ho : o.op = .call { callee := .builtin .append, args := #[s, x], argTypes := #[35, 9] })
    (base : Nat) (v : Value) (l : List (BitVec 8)) (hs : a.eval s = v) (hown : OwnB w base v l) (bs : List (BitVec 8)) (S : ByteArray) (hS : strOf bs = S) (hx : a.eval x = .string S)
    (hn : l.length + bs.length < 1000000000000) (hb : base ≤ w.heap.size)
    (h : ∀ v' w', OwnB w' base v' (l ++ bs) → w.grownBy w' v.ownBlock → (v'.ownBlock = v.ownBlock ∨ v'.ownBlock = some w.heap.size) → wpList Tryz.prog ops Q rest (a.put o.dst v') w') : wpList Tryz.prog ops Q (o :: rest) a w := by
  subst hS
  refine wpList_plain hgd fun K hK => ?_
  obtain ⟨v', w', hr, h2, h3, h4⟩ := append_strL w base o.type v l hown bs hn hb
  unfold Oper.wp execOp
  simp only [ho, resolve, invoke, builtin, Sem.run_bind, Sem.run_pure, Result.andThen_ok, List.map_toArray, List.map_cons, List.map_nil, hs, hx, hr]
  exact hK _ _ (h v' w' h2 h3 h4)
set_option maxHeartbeats 1000000 in
theorem wrP_bytes (N : Nat) (w : World) (a : Addr) (g : Option Nat) (l : List (BitVec 8)) (p : Option Addr) (n cap : Nat) (bs : List (BitVec 8)) (h : WrP N w a g l) (hl : l.length < 1000000000) (hbn : bs.length = n) (hs : Sl w p bs) (hp : p = none → cap = 0) (hn : n < 1000000) (hpb : 0 < n → ∀ c o, p = some ⟨c, o, none⟩ → c < N) :
    Calls Tryz.prog 76 #[.pointer (some a), .slice p n cap] w fun e w' => e = .returned (.tuple #[]) ∧ WrPost WrP N w a g (l ++ (enc7 n ++ bs)) w' := by
  have hL := wrP_lie _ _ _ _ _ h
  have HN := Lib.hid (wrP_number N w a g l n h (by omega) (by omega))
  have HX := Lib.hid (And.intro hs (And.intro hp (And.intro hpb (And.intro hL (And.intro hbn hl)))))
  have HE9 := Lib.hid (show (enc7 n).length ≤ 9 from enc7_len 8 n (by rw [show (128 : Nat) ^ 9 = 9223372036854775808 by decide]; omega))
  clear h hs hp hpb hL hbn hl
  go_enter Tryz.func76, Tryz.ntmps76
  go_wp2_with fail
  refine HN.out.mono ?_
  rintro e w1 ⟨rfl, g1, ⟨b, v, rfl, k1, hc, hf, hO, hv, hgb⟩, hg1, hK1⟩
  obtain ⟨hs, hp, hpb, hL, hbn, hl⟩ := HX.out
  have hblt : b < w1.heap.size := World.block_lt_of_cell? w1 _ hc
  have hB1 : Below N w w1 := hK1.below k1 (fun k hk => (hL.2.2 k hk).1) (by have := hL.2.1; have := hL.1; omega)
  have HS1 := Lib.hid (show Sl w1 p bs from fun j hj => by
    obtain ⟨c, o, e, hx⟩ := hs j hj
    exact ⟨c, o, e, by rw [hB1.cell (by exact hpb (by omega) c o e)]; exact hx⟩)
  have HO := Lib.hid hO
  have HV := Lib.hid (And.intro hv hgb)
  have HG := Lib.hid hg1
  have HK := Lib.hid hK1
  have hNs : N ≤ w1.heap.size := by omega
  have hlen : (l ++ enc7 n).length + n < 1000000000000 := by have := HE9.out; rw [List.length_append]; omega
  have HLEN := Lib.hid hlen
  have HP := Lib.hid (And.intro hp hbn)
  clear hs hp hpb hL hbn hl hO hv hgb hg1 hK1 hB1 hlen HN
  go_wp2_with (first | (refine wpl_appendL _ rfl (.tmp 12) (.tmp 13) rfl N v (l ++ enc7 n) rfl HO.out p n cap bs HP.out.2 rfl HS1.out HP.out.1 HLEN.out hNs ?_; rintro v3 w3 hO3 hg3 ho3
                        obtain ⟨⟨z3, f3⟩, hP3⟩ := wr_put k1 hblt (Below.refl _ _) hc hf HV.out.1 HV.out.2 hO3 hg3 ho3
                        have HP3 := Lib.hid (WrPost.trans HG.out HK.out hP3)
                        obtain ⟨p3, n3, c3, rfl⟩ := hO3.shape3
                        clear hO3 hg3 ho3 hP3))
  go_end0
  exact ⟨rfl, by rw [← List.append_assoc]; exact HP3.out⟩
set_option maxHeartbeats 1000000 in
theorem wrP_text (N : Nat) (w : World) (a : Addr) (g : Option Nat) (l : List (BitVec 8)) (bs : List (BitVec 8)) (h : WrP N w a g l) (hl : l.length < 1000000000) (hn : bs.length < 1000000) :
    Calls Tryz.prog 78 #[.pointer (some a), .string (strOf bs)] w fun e w' => e = .returned (.tuple #[]) ∧ WrPost WrP N w a g (l ++ (enc7 bs.length ++ bs)) w' := by
  obtain ⟨S, hS⟩ : ∃ S, strOf bs = S := ⟨_, rfl⟩
  have hsz : bs.length = S.size := by rw [← hS, strOf_size]
  have HS := Lib.hid hS
  rw [hS, hsz]
  rw [hsz] at hn
  have hL := wrP_lie _ _ _ _ _ h
  have HN := Lib.hid (wrP_number N w a g l S.size h (by omega) (by omega))
  have HX := Lib.hid (And.intro hL (And.intro hsz hl))
  have HE9 := Lib.hid (show (enc7 S.size).length ≤ 9 from enc7_len 8 _ (by rw [show (128 : Nat) ^ 9 = 9223372036854775808 by decide]; omega))
  clear h hL hl hS hsz
  go_enter Tryz.func78, Tryz.ntmps78
  go_wp2_with fail
  refine HN.out.mono ?_
  rintro e w1 ⟨rfl, g1, ⟨b, v, rfl, k1, hc, hf, hO, hv, hgb⟩, hg1, hK1⟩
  obtain ⟨hL, hsz, hl⟩ := HX.out
  have hblt : b < w1.heap.size := World.block_lt_of_cell? w1 _ hc
  have HO := Lib.hid hO
  have HV := Lib.hid (And.intro hv hgb)
  have HG := Lib.hid hg1
  have HK := Lib.hid hK1
  have hNs : N ≤ w1.heap.size := by omega
  have hlen : (l ++ enc7 S.size).length + bs.length < 1000000000000 := by have := HE9.out; rw [List.length_append]; omega
  have HLEN := Lib.hid hlen
  clear hL hsz hl hO hv hgb hg1 hK1 hlen HN
  go_wp2_with (first | (refine wpl_appendS _ rfl (.tmp 12) (.tmp 13) rfl N v (l ++ enc7 S.size) rfl HO.out bs S HS.out rfl HLEN.out hNs ?_; rintro v3 w3 hO3 hg3 ho3
                        obtain ⟨⟨z3, f3⟩, hP3⟩ := wr_put k1 hblt (Below.refl _ _) hc hf HV.out.1 HV.out.2 hO3 hg3 ho3
                        have HP3 := Lib.hid (WrPost.trans HG.out HK.out hP3)
                        obtain ⟨p3, n3, c3, rfl⟩ := hO3.shape3
                        clear hO3 hg3 ho3 hP3))
  go_end0
  exact ⟨rfl, by rw [← List.append_assoc]; exact HP3.out⟩
theorem exec_box32 (r : Operand → Value) (dst : Option Tmp) (x : Operand) (ty : TypeId) (pos : String) (after : Array Edge) (guard : Option (Nat × Bool)) :
    execOp r ⟨dst, .box 23 x, ty, pos, after, guard⟩ = bxT 23 (r x) := rfl
theorem bx_dig (w : World) (l : List (BitVec 8)) : (bxT 23 (digV l)).run Tryz.prog w = .ok (.value (.pointer (some ⟨w.heap.size, 0, none⟩))) (w.alloc (.cells (tab 32 (dgF l)) 23)) := by
  have hs := size32
  cases hq : Tryz.prog.info? 23 with
  | none => rw [hq] at hs; cases hs
  | some i =>
    rw [hq] at hs
    simp at hs
    unfold digV
    simp [bxT, Instr.box, newVar, newRow, Value.cells]
theorem dgF_sl {w : World} {E : Nat} {T : TypeId} {l : List (BitVec 8)} (h : Row w E T 32 (dgF l)) (hl : l.length = 32) : Sl w (some ⟨E, 0, none⟩) l :=
  Sl.row h (by omega) fun j hj => rfl
attribute [local go_sem] sl_arr bx_dig
attribute [local go_sem ↓] exec_slice exec_box32
set_option maxHeartbeats 1000000 in
theorem wrP_digest (N : Nat) (w : World) (a : Addr) (g : Option Nat) (l : List (BitVec 8)) (bs : List (BitVec 8)) (h : WrP N w a g l) (hl : l.length < 1000000000) (hn : bs.length = 32) :
    Calls Tryz.prog 37 #[.pointer (some a), digV bs] w fun e w' => e = .returned (.tuple #[]) ∧ WrPost WrP N w a g (l ++ bs) w' := by
  obtain ⟨b, v, rfl, k1, hc, hf, hO, hv, hgb⟩ := h
  have hblt : b < w.heap.size := World.block_lt_of_cell? w _ hc
  have hB : Below w.heap.size w (w.alloc (.cells (tab 32 (dgF bs)) 23)).drew := ((Below.refl _ _).alloc (Nat.le_refl _) _).drew
  have HB := Lib.hid hB
  have HO := Lib.hid (hO.of_below hB)
  have HSL := Lib.hid (dgF_sl (Row.new w 23 32 (dgF bs)).drew hn)
  have HV := Lib.hid (And.intro hv hgb)
  have hNs : N ≤ (w.alloc (.cells (tab 32 (dgF bs)) 23)).drew.heap.size := by have := hB.size; omega
  have hc1 : (w.alloc (.cells (tab 32 (dgF bs)) 23)).drew.cell? ⟨b, 0, none⟩ = some v := by rw [hB.cell (by exact hblt)]; exact hc
  have HC := Lib.hid (And.intro hc hf)
  have HNS := Lib.hid hNs
  have HL := Lib.hid (And.intro hl hn)
  clear hB hO hv hgb hc hf hNs hl hn
  obtain ⟨p0, n0, c0, rfl⟩ := HO.out.shape3
  go_enter Tryz.func37, Tryz.ntmps37
  go_wp2
  go_region_law (first
    | (refine step_appendL _ rfl (.tmp 8) (.tmp 9) rfl N (.slice p0 n0 c0) l rfl HO.out (some ⟨w.heap.size, 0, none⟩) 32 32 bs HL.out.2 rfl HSL.out (fun h => by cases h) (by have := HL.out.1; omega) HNS.out ?_; rintro v3 w3 hO3 hg3 ho3
       obtain ⟨⟨z3, f3⟩, hP3⟩ := wr_put k1 hblt HB.out HC.out.1 HC.out.2 HV.out.1 HV.out.2 hO3 hg3 ho3
       have HP3 := Lib.hid hP3
       obtain ⟨p3, n3, c3, rfl⟩ := hO3.shape3
       clear hO3 hg3 ho3 hP3))
  all_goals
    go_wp2
    go_end0
    exact ⟨rfl, HP3.out⟩
end Go.Proofs.YtfemgkamgokjcaaGreatDoor
/- The iterator over a vector's numbers that are not 0. -/
set_option maxRecDepth 100000
namespace Go.Proofs.YtfemgkamgokjcaaGreatDoor
open Go Go.RowKit Go.Shelf
attribute [-go_sem] Sha.exec_store

/-- The replicas below i whose numbers are not 0. -/
def nzV (f : Nat → Int) : Nat → List Nat
  | 0 => []
  | i + 1 => if f i = 0 then nzV f i else nzV f i ++ [i]
theorem nzV_zero {f : Nat → Int} {i : Nat} (h : f i = 0) : nzV f (i + 1) = nzV f i := by rw [nzV, if_pos h]
theorem nzV_one {f : Nat → Int} {i : Nat} (h : f i ≠ 0) : nzV f (i + 1) = nzV f i ++ [i] := by rw [nzV, if_neg h]
theorem nzV_len (f : Nat → Int) : ∀ i, (nzV f i).length = cntV f i
  | 0 => rfl
  | i + 1 => by
    have := nzV_len f i
    by_cases h : f i = 0
    · rw [nzV_zero h, cntV_zero h, this]
    · rw [nzV_one h, cntV_one h, List.length_append, this]; rfl
theorem nzV_mem {f : Nat → Int} {j : Nat} : ∀ {i : Nat}, j ∈ nzV f i → j < i ∧ f j ≠ 0
  | 0, h => by cases h
  | i + 1, h => by
    by_cases h0 : f i = 0
    · rw [nzV_zero h0] at h; have := nzV_mem h; exact ⟨by omega, this.2⟩
    · rw [nzV_one h0] at h
      rcases List.mem_append.1 h with h | h
      · have := nzV_mem h; exact ⟨by omega, this.2⟩
      · rw [List.mem_singleton] at h; subst h; exact ⟨by omega, h0⟩
theorem nzV_pre {f : Nat → Int} : ∀ (d i : Nat), nzV f i <+: nzV f (i + d)
  | 0, i => List.prefix_refl _
  | d + 1, i => by
    have h := nzV_pre (f := f) d i
    rw [show i + (d + 1) = (i + d) + 1 by omega]
    by_cases h0 : f (i + d) = 0
    · rw [nzV_zero h0]; exact h
    · rw [nzV_one h0]; exact h.trans (List.prefix_append _ _)
/-- What is written of the replicas listed. -/
def bodyL (f : Nat → Int) : List Nat → List (BitVec 8)
  | [] => []
  | i :: r => enc7 i ++ enc7 (f i).toNat ++ bodyL f r
theorem bodyL_append (f : Nat → Int) : ∀ l m, bodyL f (l ++ m) = bodyL f l ++ bodyL f m
  | [], _ => rfl
  | i :: r, m => by
    show enc7 i ++ enc7 (f i).toNat ++ bodyL f (r ++ m) = enc7 i ++ enc7 (f i).toNat ++ bodyL f r ++ bodyL f m
    rw [bodyL_append f r m]
    simp only [List.append_assoc]
theorem bodyL_nz (f : Nat → Int) : ∀ i, bodyL f (nzV f i) = bodyV f i
  | 0 => rfl
  | i + 1 => by
    have := bodyL_nz f i
    by_cases h : f i = 0
    · rw [nzV_zero h, bodyV_zero h, this]
    · rw [nzV_one h, bodyV_one h, bodyL_append, this]
      show bodyV f i ++ (enc7 i ++ enc7 (f i).toNat ++ []) = _
      rw [List.append_nil, List.append_assoc]
attribute [local go_sem] Oper.semAt_some
attribute [local go_sem ↓] exec_boxV exec_loadV exec_indexV exec_storeV
attribute [local go_sem] boxV indexV
set_option maxRecDepth 100000 in
set_option maxHeartbeats 2000000 in
theorem nonzero_seq (m : Nat) (hm : 3 ≤ m) (bb : Nat) (f : Nat → Int) (w : World) (hb : Row w bb 31 16 (vf f)) :
    SeqP m 140 #[.pointer (some ⟨bb, 0, none⟩)] (fun i : Nat => #[.int .i64 (i : Int), .int .i64 (f i)]) bb (nzV f 16) w := by
  intro L J Jx A hA hJd hY h0
  have hm1 : 1 ≤ m := by omega
  have hbA := hb.of_below hA
  have l1 := loadVT vtV (VecAt.of_row hbA (Nat.le_refl _))
  refine callsIn_of_wp Tryz.func140 rfl trivial ?_ rfl
  simp only [Tryz.ntmps140, List.size_toArray, List.length_cons, List.length_nil, Nat.reduceAdd, Nat.reduceSub, Array.replicate_succ, Array.replicate_zero, List.push_toArray, List.append_toArray, List.nil_append, List.cons_append]
  clear hb hbA
  gi_wp2
  clear l1
  gi_loopw [6] (fun v6 wr => ∃ i : Nat, v6 = .int .i64 (i : Int) ∧ i ≤ 16 ∧ J (nzV f i) wr) (fun v6 wr => 16 - (intOf v6).toNat)
  case atStart => exact ⟨0, rfl, Nat.zero_le _, h0⟩
  case round =>
    obtain ⟨i, rfl, hik, hJ0⟩ := hrel
    have HJ0 := Lib.hid hJ0
    by_cases hlt : i < 16
    · have z1 : (i : Int) < 16 := by omega
      have z2 : decide ((i : Int) < 16) = true := decide_eq_true z1
      have w3 := i64v i hlt
      by_cases hz : f i = 0
      · have HN := Lib.hid (show J (nzV f (i + 1)) wr from by rw [nzV_zero hz]; exact hJ0)
        clear hJ0
        gi_wp2
        refine ⟨(fun f hf => by cases hf), ?_⟩
        gi_wp2
        go_roundw
        case rel => exact ⟨i + 1, by go_num, by omega, HN.out⟩
        case measure => simp [intOf]; omega
      · have hpre : nzV f i ++ [i] <+: nzV f 16 := by
          rw [← nzV_one hz]
          have := nzV_pre (f := f) (15 - i) (i + 1)
          rw [show i + 1 + (15 - i) = 16 by omega] at this
          exact this
        have HPRE := Lib.hid hpre
        have d1 : ((f i) == 0) = false := by rw [beq_eq_false_iff_ne]; exact hz
        have HZ := Lib.hid (nzV_one hz)
        obtain ⟨fn, tmps, assign, body, hy, hR⟩ := hY (nzV f i) i wr hpre hJ0
        dsimp only at hy
        clear hJ0 hpre
        gi_wp2
        refine hR.mono ?_
        rintro e W3 (⟨rfl, hJ3, hB3⟩ | ⟨rfl, hJx3⟩)
        · have HJ3 := Lib.hid (show J (nzV f (i + 1)) W3 from by rw [HZ.out]; exact hJ3)
          clear hJ3 hB3
          gi_wp2
          go_roundw
          case rel => exact ⟨i + 1, by go_num, by omega, HJ3.out⟩
          case measure => simp [intOf]; omega
        · have HJX := Lib.hid (show ∃ pre, pre <+: nzV f 16 ∧ Jx pre W3 from ⟨nzV f i ++ [i], HPRE.out, hJx3⟩)
          clear hJx3
          gi_wp2
          refine bodyPost_ret (results_none rfl _ _ _) rfl ?_
          exact ⟨⟨_, rfl⟩, .inr HJX.out⟩
    · have z1 : ¬ (i : Int) < 16 := by omega
      have z2 : decide ((i : Int) < 16) = false := decide_eq_false z1
      obtain rfl : i = 16 := by omega
      gi_wp2
      go_end0
      exact ⟨⟨_, rfl⟩, .inl HJ0.out⟩
theorem mkFnZ : ∀ (fn : Fn) (first cap : Array Value) (w : World), (Instr.makeFunc fn first cap).run Tryz.prog w = .ok (.func fn first cap) w := fun _ _ _ _ => rfl
attribute [local go_sem] mkFnZ
theorem nonzero_any (f : Nat → Int) (u : World) : Calls Tryz.prog 116 #[vcV f] u fun e w' => e = .returned (.func (.func 140) #[] #[.pointer (some ⟨u.heap.size, 0, none⟩)]) ∧ w' = u.alloc (.cells (tab 16 (vf f)) 31) := by
  go_enter Tryz.func116, Tryz.ntmps116
  go_wp2
  go_ret
  exact ⟨rfl, rfl⟩
end Go.Proofs.YtfemgkamgokjcaaGreatDoor
