/- Merged texts: Nsy8, Cra8, Rot8, Rfs8. -/
import Derived.Test.YtjglgohchhdkkaaGreatDoorK4
import Derived.BigQuiet
import Derived.Deep.RegionHeld3
import Derived.Test.YtjglgohchhdkkaaGreatDoorK3
set_option linter.unusedSimpArgs false
set_option linter.unusedVariables false
/- New and Sync of the program's disk. -/
namespace Go.Proofs.YtjglgohchhdkkaaGreatDoor
open Go Go.RowKit

section
variable {w w' : World} {S S' : Nat → Prop} {b : Nat} {m : Dk} {mv md : Nat} {pv : Value} {vs : List Value} {sl : Nat → Hn}
theorem own_nil0 (w : World) (E : TypeId) (k : Nat) : w.ownsRow 0 E k (.slice none 0 0) 0 [] := ⟨by simp, .inl ⟨rfl, rfl⟩⟩
/-- A disk whose visible state alone counts. -/
structure Dq (w : World) (S : Nat → Prop) (b : Nat) (m : Dk) (mv : Nat) (x3 : Option Nat) (pq : Option Addr) (pn pc : Nat) (sl : Nat → Hn) : Prop where
  box : w.heap[b]? = some (.cells #[.int .i64 m.room, .int .i64 m.count, .map (some mv), .map x3, .slice pq pn pc] 51 (0, 0))
  sb : S b
  sv : S mv
  vis : MpB w mv (m.seen.map (entV sl))
  bod : BdOk w S m.bodies sl
  sz : ∀ f ∈ m.seen, f.size = ((bodyL m f).length : Int)
  low : ∀ k, S k → k < w.heap.size
theorem Dp.q (h : Dp w S b m mv md pv vs sl) : ∃ pq pn pc, Dq w S b m mv (some md) pq pn pc sl := by
  obtain ⟨pq, pc, hpv⟩ := own_slice h.pd.own
  exact ⟨pq, _, pc, by rw [← hpv]; exact h.box, h.sb, h.sv, h.vis, h.bod, h.sz.seen, h.low⟩
variable {x3 : Option Nat} {pq : Option Addr} {pn pc : Nat}
theorem Dq.cell (h : Dq w S b m mv x3 pq pn pc sl) (j : Nat) : w.cell? ⟨b, j, none⟩ = [Value.int .i64 m.room, .int .i64 m.count, .map (some mv), .map x3, .slice pq pn pc][j]? := by
  unfold World.cell?
  rw [h.box]
  simp
theorem Dq.free (h : Dq w S b m mv x3 pq pn pc sl) (j : Nat) : w.frozen? ⟨b, j, none⟩ = false := by
  unfold World.frozen?
  rw [h.box]
  simp
theorem Dq.syncTo (h : Dq w S b m mv x3 pq pn pc sl) {es : Array MapEntry} {clock : Nat} (hb : w.heap[mv]? = some (.map es clock)) :
    Dp (((w.alloc (.map es clock)).setCell ⟨b, 3, none⟩ (.map (some w.heap.size))).setCell ⟨b, 4, none⟩ (.slice none 0 0)) (SN S w.heap.size (w.heap.size + 1)) b (syncL m) mv w.heap.size (.slice none 0 0) [] sl ∧ Kq8 S w (((w.alloc (.map es clock)).setCell ⟨b, 3, none⟩ (.map (some w.heap.size))).setCell ⟨b, 4, none⟩ (.slice none 0 0)) := by
  have hB := (Below.refl w.heap.size w).alloc (Nat.le_refl _) (.map es clock)
  have hbl := h.low b h.sb
  have hk : ∀ k, k ≠ b → (((w.alloc (.map es clock)).setCell ⟨b, 3, none⟩ (.map (some w.heap.size))).setCell ⟨b, 4, none⟩ (.slice none 0 0)).heap[k]? = (w.alloc (.map es clock)).heap[k]? := fun k hne =>
    (Below.heap_setCell _ _ _ _ hne).trans (Below.heap_setCell _ _ _ _ hne)
  have hko : ∀ k, k < w.heap.size → k ≠ b → (((w.alloc (.map es clock)).setCell ⟨b, 3, none⟩ (.map (some w.heap.size))).setCell ⟨b, 4, none⟩ (.slice none 0 0)).heap[k]? = w.heap[k]? := fun k hl hne => (hk k hne).trans (hB.block k hl)
  have hb0 := (hB.block b hbl).trans h.box
  have hb1 := setCell_box (setCell_box hb0 3 (.map (some w.heap.size))) 4 (.slice none 0 0)
  have hsz : (((w.alloc (.map es clock)).setCell ⟨b, 3, none⟩ (.map (some w.heap.size))).setCell ⟨b, 4, none⟩ (.slice none 0 0)).heap.size = w.heap.size + 1 := by simp
  have nbm : mv ≠ b := fun e => by rw [e, h.box] at hb; cases hb
  have hc := h.vis.copied es clock hb
  have nty : ∀ k cur T, w.heap[k]? = some (.cells cur T (0, 0)) → T ≠ 51 → k ≠ b := fun k cur T hc hT e => by
    rw [e, h.box] at hc
    injection hc with hc
    injection hc with _ hc _
    exact hT hc.symm
  refine ⟨⟨hb1, .inl h.sb, .inl h.sv, .inr ⟨Nat.le_refl _, Nat.lt_succ_self _⟩, by have := h.low mv h.sv; omega, h.vis.keep (hko mv (h.low mv h.sv) nbm), hc.keep (hk _ (by omega)), h.bod.keep (fun k cur hs hc => hko k (h.low k hs) (nty k cur _ hc (by decide))) (fun _ x => .inl x), ⟨own_nil0 _ _ _, (fun g hg => by cases hg), fun i hi => absurd hi (by show ¬ i < 0; omega)⟩, ⟨h.sz, h.sz, fun c hc => absurd hc (by show ¬ c ∈ ([] : List Ch); simp)⟩, fun k hk => ?_⟩, rfl, rfl, rfl, by rw [hsz]; omega, fun k hk hn => hko k hk (fun e => hn (by rw [e]; exact h.sb))⟩
  rw [hsz]
  exact SN.low h.low (Nat.le_succ _) k hk
set_option maxRecDepth 100000 in
set_option maxHeartbeats 4000000 in
theorem syncq_any (h : Dq w S b m mv x3 pq pn pc sl) : Calls Tryz.prog 10 #[.pointer (some ⟨b, 0, none⟩)] w fun e w' => e = .returned (.tuple #[]) ∧ DPost S b w (syncL m) w' := by
  have c2 := h.cell 2
  simp at c2
  obtain ⟨es, clock, hb, _⟩ := id h.vis
  have HC := Lib.hid (mapClone_any mv es clock w hb)
  obtain ⟨hd, hk⟩ := h.syncTo hb
  have hB := (Below.refl w.heap.size w).alloc (Nat.le_refl _) (.map es clock)
  have hbl := h.low b h.sb
  have c3 := (hB.cell (p := ⟨b, 3, none⟩) hbl).trans (h.cell 3)
  have f3 := (hB.frozen (p := ⟨b, 3, none⟩) hbl).trans (h.free 3)
  have c4 := (hB.cell (p := ⟨b, 4, none⟩) hbl).trans (h.cell 4)
  have f4 := (hB.frozen (p := ⟨b, 4, none⟩) hbl).trans (h.free 4)
  simp only [List.getElem?_cons_succ, List.getElem?_cons_zero] at c3 c4
  have HP : Hid (DPost S b w (syncL m) (((w.alloc (.map es clock)).setCell ⟨b, 3, none⟩ (.map (some w.heap.size))).setCell ⟨b, 4, none⟩ (.slice none 0 0))) := Lib.hid ⟨⟨_, _, _, _, _, by
    have hsz : (((w.alloc (.map es clock)).setCell ⟨b, 3, none⟩ (.map (some w.heap.size))).setCell ⟨b, 4, none⟩ (.slice none 0 0)).heap.size = w.heap.size + 1 := by simp
    rw [hsz]
    exact hd⟩, hk⟩
  generalize hW : w.alloc (.map es clock) = W at *
  clear h hd hk hb hB
  go_enter Tryz.func10, Tryz.ntmps10
  go_wp2_with fail
  refine HC.out.mono ?_
  rintro e w2 ⟨rfl, hw2⟩
  subst hw2
  clear hW
  go_wp2
  go_end0
  exact ⟨rfl, HP.out⟩
theorem sync_any (h : Dp w S b m mv md pv vs sl) : Calls Tryz.prog 10 #[.pointer (some ⟨b, 0, none⟩)] w fun e w' => e = .returned (.tuple #[]) ∧ DPost S b w (syncL m) w' := by
  obtain ⟨pq, pn, pc, hq⟩ := h.q
  exact syncq_any hq
end
theorem clamp_eq (room : Int) : clampL room = min (max room 0) 1048576 := rfl
set_option maxRecDepth 100000 in
set_option maxHeartbeats 4000000 in
theorem new_any (room : Int) (w : World) : Calls Tryz.prog 7 #[.int .i64 room] w fun e w' => e = .returned (.pointer (some ⟨w.heap.size + 2, 0, none⟩)) ∧ Dp w' (fun k => w.heap.size ≤ k ∧ k < w'.heap.size) (w.heap.size + 2) ⟨clampL room, 0, [], [], [], []⟩ w.heap.size (w.heap.size + 1) (.slice none 0 0) [] (fun _ => ⟨none, 0, 0⟩) ∧ Below w.heap.size w w' := by
  have hmm := @run_makeMap Tryz.prog
  have HC := Lib.hid (clamp_eq room)
  have h1 := MpB.made w
  have h2 := MpB.made (w.alloc (.map #[] 0))
  have hB0 := (Below.refl w.heap.size w).alloc (Nat.le_refl _) (.map #[] 0)
  have hB1 := hB0.alloc hB0.size (.map #[] 0)
  have z1 : (w.alloc (.map #[] 0)).heap.size = w.heap.size + 1 := World.size_alloc _ _
  have z2 : ((w.alloc (.map #[] 0)).alloc (.map #[] 0)).heap.size = w.heap.size + 2 := by rw [World.size_alloc, z1]
  have hD : ∀ r : Int, r = clampL room → Dp (((w.alloc (.map #[] 0)).alloc (.map #[] 0)).alloc (.cells #[.int .i64 r, .int .i64 0, .map (some w.heap.size), .map (some (w.heap.size + 1)), .slice none 0 0] 51)) (fun k => w.heap.size ≤ k ∧ k < (((w.alloc (.map #[] 0)).alloc (.map #[] 0)).alloc (.cells #[.int .i64 r, .int .i64 0, .map (some w.heap.size), .map (some (w.heap.size + 1)), .slice none 0 0] 51)).heap.size) (w.heap.size + 2) ⟨clampL room, 0, [], [], [], []⟩ w.heap.size (w.heap.size + 1) (.slice none 0 0) [] (fun _ => ⟨none, 0, 0⟩) ∧ Below w.heap.size w (((w.alloc (.map #[] 0)).alloc (.map #[] 0)).alloc (.cells #[.int .i64 r, .int .i64 0, .map (some w.heap.size), .map (some (w.heap.size + 1)), .slice none 0 0] 51)) := fun r hr => by
    subst hr
    have hb := World.alloc_heap_new ((w.alloc (.map #[] 0)).alloc (.map #[] 0)) (.cells #[.int .i64 (clampL room), .int .i64 0, .map (some w.heap.size), .map (some (w.heap.size + 1)), .slice none 0 0] 51)
    rw [z2] at hb
    have hBa := (Below.refl (w.alloc (.map #[] 0)).heap.size (w.alloc (.map #[] 0))).alloc (Nat.le_refl _) (.map #[] 0)
    have hBb := (Below.refl ((w.alloc (.map #[] 0)).alloc (.map #[] 0)).heap.size ((w.alloc (.map #[] 0)).alloc (.map #[] 0))).alloc (Nat.le_refl _) (.cells #[.int .i64 (clampL room), .int .i64 0, .map (some w.heap.size), .map (some (w.heap.size + 1)), .slice none 0 0] 51)
    rw [z1] at h2
    refine ⟨⟨hb, ⟨by omega, by rw [World.size_alloc, z2]; omega⟩, ⟨Nat.le_refl _, by rw [World.size_alloc, z2]; omega⟩, ⟨by omega, by rw [World.size_alloc, z2]; omega⟩, by omega, (h1.of_below hBa).of_below hBb, h2.of_below hBb, ⟨fun i hi => absurd hi (by show ¬ i < 0; omega), fun i hi => absurd hi (by show ¬ i < 0; omega), fun i j hi => absurd hi (by show ¬ i < 0; omega)⟩, ⟨own_nil0 _ _ _, (fun g hg => by cases hg), fun i hi => absurd hi (by show ¬ i < 0; omega)⟩, ⟨fun f hf => absurd hf (by show ¬ f ∈ ([] : List Fl); simp), fun f hf => absurd hf (by show ¬ f ∈ ([] : List Fl); simp), fun f hf => absurd hf (by show ¬ f ∈ ([] : List Ch); simp)⟩, fun k hk => hk.2⟩, hB1.alloc hB1.size _⟩
  have HD := Lib.hid hD
  clear h1 h2 hB0 hB1 hD
  go_enter Tryz.func7, Tryz.ntmps7
  go_wp2
  go_ret
  obtain ⟨d1, d2⟩ := HD.out _ HC.out.symm
  exact ⟨rfl, d1, d2⟩
end Go.Proofs.YtjglgohchhdkkaaGreatDoor
/- Crash of the program's disk. -/
namespace Go.Proofs.YtjglgohchhdkkaaGreatDoor
open Go Go.RowKit

section
variable {w w' : World} {S S' : Nat → Prop} {b : Nat} {m : Dk} {mv md : Nat} {pv : Value} {vs : List Value} {sl : Nat → Hn}
theorem keptL_none (ws : List Ch) (l : List Fl) : keptL l ws [] = l := by
  induction ws with
  | nil => rfl
  | cons c r ih => exact ih
theorem keptL_over (l : List Fl) (ws : List Ch) (ks : List Bool) (k : Nat) (h : k = ws.length ∨ k = ks.length) : keptL l (ws.drop k) (ks.drop k) = l := by
  rcases h with h | h
  · rw [h, List.drop_length]; rfl
  · rw [h, List.drop_length]
    exact keptL_none _ _
/-- After k changes. -/
structure CrP (w : World) (S : Nat → Prop) (b : Nat) (m : Dk) (mv md : Nat) (pv : Value) (vs : List Value) (sl : Nat → Hn) (ks : List Bool) (k : Nat) (L : List Fl) (wr : World) : Prop where
  disk : Dp wr S b { m with safe := L } mv md pv vs sl
  kept : keptL L (m.waits.drop k) (ks.drop k) = keptL m.safe m.waits ks
  short : ShortF L
  kq : Kq8 S w wr
set_option maxRecDepth 100000 in
set_option maxHeartbeats 4000000 in
theorem crash_any (h : Dp w S b m mv md pv vs sl) (hok : DkOk 300 m) (ks : List Bool) (q : Option Addr) (cap : Nat) (hkl : ks.length ≤ 1000) (hl : LsG (fun k => ¬ S k) w q ks.length cap 1 (ks.map Value.bool)) : Calls Tryz.prog 12 #[.pointer (some ⟨b, 0, none⟩), .slice q ks.length cap] w fun e w' => e = .returned (.tuple #[]) ∧ DPost S b w (crashL m ks) w' := by
  obtain ⟨pq, pc, e1, hls, hnil, hle, hlow⟩ := own_shape h.pd.own
  have c4 := h.cell 4
  rw [e1] at c4
  simp at c4
  have H := Lib.hid h
  have HOK := Lib.hid hok
  have HL := Lib.hid hl
  have HLS := Lib.hid hls
  have HWN := Lib.hid hok.both
  obtain ⟨wn, hwn⟩ : ∃ wn, m.waits.length = wn := ⟨_, rfl⟩
  obtain ⟨kn, hkn⟩ : ∃ kn, ks.length = kn := ⟨_, rfl⟩
  obtain ⟨K, hK⟩ : ∃ K, min wn kn = K := ⟨_, rfl⟩
  have hmin : min (wn : Int) (kn : Int) = (K : Int) := by omega
  have hKw : K ≤ wn := by omega
  have hKk : K ≤ kn := by omega
  have HKE := Lib.hid (show K = wn ∨ K = kn by omega)
  rw [hwn] at c4 hle
  rw [hkn]
  rw [hkn] at hkl
  have HWE := Lib.hid hwn
  have HKN := Lib.hid hkn
  have hwb : wn ≤ 300 := by have := HWN.out; omega
  have HE1 := Lib.hid e1
  clear h hok hl hls hwn hkn hK e1 hlow
  go_enter Tryz.func12, Tryz.ntmps12
  go_wp2
  go_quiet (fail)
  have hB0 : Below w.heap.size w (w.drewN nq) := ((Dr.refl w).drewN nq).below _
  have hst : CrP w S b m mv md pv vs sl ks 0 m.safe (w.drewN nq) := ⟨H.out.of_below hB0, rfl, HOK.out.shF, Kq8.of_below hB0⟩
  have HST := Lib.hid hst
  generalize w.drewN nq = W0 at *
  clear c4 hst hB0 hmin hnil hle
  go_wp2
  go_loopw [20] (fun i wr => ∃ k : Nat, k ≤ K ∧ i = .int .i64 k ∧ ∃ L, CrP w S b m mv md pv vs sl ks k L wr) (fun i _ => K - (intOf i).toNat)
  case atStart => exact ⟨0, Nat.zero_le _, rfl, _, HST.out⟩
  case round =>
    obtain ⟨k, hk, rfl, L, hC⟩ := hrel
    have HC := Lib.hid hC
    clear hC HST
    by_cases hlt : k < K
    · have hkw : k < m.waits.length := by have := HWE.out; omega
      have hkk : k < ks.length := by have := HKN.out; omega
      obtain ⟨g, cap2, hpv2, hg0, hgl, hnc, hcs, hfr⟩ := own_full8 HC.out.disk.pd.own (Nat.lt_of_le_of_lt (Nat.zero_le _) hkw)
      obtain ⟨v, hv, hcl⟩ := HC.out.disk.pd.cls k hkw
      obtain ⟨g2, cs2, hvf⟩ := hcl.func
      subst hvf
      have hvl : k < vs.length := by rw [List.getElem?_eq_some_iff] at hv; exact hv.1
      have x1 := hcs k hvl
      rw [hv] at x1
      have hlk := HL.out.keep (w' := wr) (fun c hc hlc => HC.out.kq.block c hlc hc) HC.out.kq.size
      obtain ⟨kc, ko, hq, hkc, x2⟩ := hlk.at_.cell (j := k) (u := .bool ks[k]) (by rw [List.getElem?_map, List.getElem?_eq_getElem hkk]; rfl)
      obtain ⟨es, clock, hdb, _⟩ := id HC.out.disk.dur
      obtain ⟨g3, e3, _, heg, hcall⟩ := cls_any hcl L md HC.out.disk.dur HC.out.short (Nat.lt_of_le_of_lt (HOK.out.chk _ (List.getElem_mem hkw)).path (by decide)) _ _ _ rfl (HC.out.disk.ne_map hdb).2.2
      injection e3 with e3
      subst e3
      have HCA := Lib.hid hcall
      have c3 := HC.out.disk.cell 3
      simp at c3
      have hd0 : decide ((k : Int) < (K : Int)) = true := decide_eq_true (by omega)
      have hl0 : (k : Int) < (K : Int) := by omega
      have hl1 : (k : Int) < (kn : Int) := by omega
      have hl2 : k < kn := by omega
      have hstep := keptL_step L m.waits ks k hkw
      have hgd : ks.getD k false = ks[k] := by rw [List.getD_eq_getElem?_getD, List.getElem?_eq_getElem hkk]; rfl
      rw [hgd] at hstep
      obtain ⟨bk, hbk⟩ : ∃ bk, ks[k] = bk := ⟨_, rfl⟩
      rw [hbk] at hstep x2
      have HSTEP := Lib.hid hstep
      have hsz := doL_size (m := m) (l := L) (c := m.waits[k]) HC.out.disk.sz.safe (HC.out.disk.sz.waits _ (List.getElem_mem hkw))
      have HSZ := Lib.hid hsz
      have HSH := Lib.hid (doL_short (HOK.out.chk _ (List.getElem_mem hkw)) HC.out.short)
      have hpq : pq = some ⟨g, 0, none⟩ := by
        have e := HE1.out.symm.trans hpv2
        injection e with e _ _
      subst hpq hq
      clear hpv2 hnc hcs hfr hv hcl hvl hlk hdb hcall hstep hbk hsz hgd hg0 hgl hkc
      cases bk with
      | true =>
        go_wp2_with fail
        refine HCA.out.mono ?_
        rintro e w2 ⟨rfl, hM, hg2⟩
        have HN : Hid (CrP w S b m mv md pv vs sl ks (k + 1) (doL L m.waits[k]) w2) := Lib.hid ⟨HC.out.disk.durTo hg2 hM HSZ.out, HSTEP.out.symm.trans HC.out.kept, HSH.out,
          ⟨hg2.os.trans HC.out.kq.os, hg2.tape.trans HC.out.kq.tape, hg2.output.trans HC.out.kq.output, Nat.le_trans HC.out.kq.size hg2.size, fun i hi hn => by
            rw [hg2.block i (Nat.lt_of_lt_of_le hi HC.out.kq.size) (fun e => hn (by injection e with e; rw [e]; exact HC.out.disk.sd))]
            exact HC.out.kq.block i hi hn⟩⟩
        clear hM hg2 x1 x2 c3
        go_wp2
        go_roundw
        case rel => exact ⟨k + 1, by omega, by go_num, _, HN.out⟩
        case measure => simp [intOf]; omega
      | false =>
        have HN : Hid (CrP w S b m mv md pv vs sl ks (k + 1) L wr) := Lib.hid ⟨HC.out.disk, HSTEP.out.symm.trans HC.out.kept, HC.out.short, HC.out.kq⟩
        go_wp2
        go_roundw
        case rel => exact ⟨k + 1, by omega, by go_num, _, HN.out⟩
        case measure => simp [intOf]; omega
    · obtain rfl : k = K := by omega
      have hd0 : decide ((k : Int) < (k : Int)) = false := decide_eq_false (by omega)
      have c3 := HC.out.disk.cell 3
      have c2 := HC.out.disk.cell 2
      have f2 := HC.out.disk.free 2
      simp at c3 c2
      obtain ⟨pq2, pn2, pc2, hdq⟩ := HC.out.disk.q
      have hbx := setCell_box HC.out.disk.box 2 (.map (some md))
      have hko : ∀ i, i ≠ b → (wr.setCell ⟨b, 2, none⟩ (.map (some md))).heap[i]? = wr.heap[i]? := fun i hne => Below.heap_setCell _ _ _ _ hne
      obtain ⟨es, clock, hdb, _⟩ := id HC.out.disk.dur
      have hq2 : Dq (wr.setCell ⟨b, 2, none⟩ (.map (some md))) S b { m with seen := L, safe := L } md (some md) pq2 pn2 pc2 sl := by
        refine ⟨?_, HC.out.disk.sb, HC.out.disk.sd, HC.out.disk.dur.keep (hko md (HC.out.disk.ne_map hdb).1), HC.out.disk.bod.keep (fun i cur hs hc => hko i (fun e => by
          rw [e, HC.out.disk.box] at hc
          injection hc with hc
          injection hc with _ hc _
          exact absurd hc (by decide))) (fun _ x => x), HC.out.disk.sz.safe, fun i hi => by simpa using HC.out.disk.low i hi⟩
        have e := hdq.box.symm.trans HC.out.disk.box
        injection e with e
        injection e with e _ _
        have e5 := congrArg (fun a : Array Value => a[4]?) e
        simp at e5
        rw [← e5] at hbx
        exact hbx
      have HQ := Lib.hid (syncq_any hq2)
      have HFIN := Lib.hid (show crashL m ks = syncL { m with seen := L, safe := L } by
        have e := HC.out.kept
        have hov := keptL_over L m.waits ks k (by
          rcases HKE.out with x | x
          · left; have := HWE.out; omega
          · right; have := HKN.out; omega)
        rw [hov] at e
        unfold crashL syncL
        rw [← e])
      have HKB : Hid (Kq8 S w (wr.setCell ⟨b, 2, none⟩ (.map (some md)))) := Lib.hid ⟨HC.out.kq.os, HC.out.kq.tape, HC.out.kq.output, by simpa using HC.out.kq.size, fun i hi hn => by
        rw [hko i (fun e => hn (by rw [e]; exact HC.out.disk.sb))]
        exact HC.out.kq.block i hi hn⟩
      have HSZ : Hid ((wr.setCell ⟨b, 2, none⟩ (.map (some md))).heap.size = wr.heap.size) := Lib.hid (by simp)
      clear hdq hbx hko hdb hq2
      go_wp2_with fail
      refine HQ.out.mono ?_
      rintro e w2 ⟨rfl, hp⟩
      have HP : Hid (DPost S b w (crashL m ks) w2) := Lib.hid (by
        rw [HFIN.out]
        obtain ⟨⟨a1, a2, a3, a4, a5, hd⟩, hk2⟩ := hp
        have hs1 : w.heap.size ≤ (wr.setCell ⟨b, 2, none⟩ (.map (some md))).heap.size := HKB.out.size
        refine ⟨⟨a1, a2, a3, a4, a5, hd.keep (fun _ _ => rfl) (fun i hi => ?_) (SN.low H.out.low (Nat.le_trans hs1 hk2.size))⟩, ?_⟩
        · rcases hi with x | x
          · exact .inl x
          · exact .inr ⟨Nat.le_trans hs1 x.1, x.2⟩
        · exact ⟨hk2.os.trans HKB.out.os, hk2.tape.trans HKB.out.tape, hk2.output.trans HKB.out.output, Nat.le_trans hs1 hk2.size, fun i hi hn => (hk2.block i (Nat.lt_of_lt_of_le hi hs1) hn).trans (HKB.out.block i hi hn)⟩)
      clear hp c2 c3 f2
      go_wp2
      go_end0
      exact ⟨rfl, HP.out⟩
end
end Go.Proofs.YtjglgohchhdkkaaGreatDoor
/- Rot of the program's disk. -/
namespace Go.Proofs.YtjglgohchhdkkaaGreatDoor
open Go Go.RowKit

theorem xor_bits (a b : UInt8) : bits .xor .u8 (a.toNat : Int) (b.toNat : Int) = ((a ^^^ b).toNat : Int) := by
  rw [u8_xor_nat _ _ (UInt8.toNat_lt a) (UInt8.toNat_lt b), UInt8.toNat_xor]
section
variable {w w' : World} {S S' : Nat → Prop} {b : Nat} {m : Dk} {mv md : Nat} {pv : Value} {vs : List Value} {sl : Nat → Hn}
theorem set_len (m : Dk) (i a : Nat) (mask : UInt8) (f : Fl) : (bodyL { m with bodies := m.bodies.set i (flipL (m.bodies.getD i []) a mask) } f).length = (bodyL m f).length := by
  unfold bodyL
  show ((m.bodies.set i _).getD f.body []).length = (m.bodies.getD f.body []).length
  by_cases h : f.body = i
  · subst h
    by_cases h2 : f.body < m.bodies.length
    · rw [List.getD_eq_getElem?_getD, List.getElem?_set_self h2]
      show (flipL _ _ _).length = _
      rw [flip_len]
    · rw [List.getD_eq_getElem?_getD, List.getD_eq_getElem?_getD, List.getElem?_eq_none (by rw [List.length_set]; omega), List.getElem?_eq_none (by omega)]
  · rw [List.getD_eq_getElem?_getD, List.getElem?_set_ne (fun e => h e.symm), ← List.getD_eq_getElem?_getD]
theorem Dp.flip (h : Dp w S b m mv md pv vs sl) (i : Nat) (hi : i < m.bodies.length) (a : Nat) (ha : a < (m.bodies.getD i []).length) (mask : UInt8) (g : Nat) (n c : Nat) (hv : (sl i).v = .slice (some ⟨g, 0, none⟩) n c) :
    Dp (w.setCell ⟨g, a, none⟩ (.int .u8 (((m.bodies.getD i []).getD a 0 ^^^ mask).toNat : Int))) S b { m with bodies := m.bodies.set i (flipL (m.bodies.getD i []) a mask) } mv md pv vs sl := by
  have ho := h.bod.own i hi
  have hg : (sl i).v.ownBlock = some g := by rw [hv]; rfl
  obtain ⟨cur, hc⟩ := own_type ho hg
  have hk : ∀ k, k ≠ g → (w.setCell ⟨g, a, none⟩ (.int .u8 (((m.bodies.getD i []).getD a 0 ^^^ mask).toNat : Int))).heap[k]? = w.heap[k]? := fun k hne => Below.heap_setCell _ _ _ _ hne
  have nty : ∀ k cs T, w.heap[k]? = some (.cells cs T (0, 0)) → T ≠ 5 → k ≠ g := fun k cs T h2 hT e => by
    rw [e, hc] at h2
    injection h2 with h2
    injection h2 with _ h2 _
    exact hT h2.symm
  have nmp : ∀ k es clock, w.heap[k]? = some (.map es clock) → k ≠ g := fun k es clock h2 e => by rw [e, hc] at h2; cases h2
  obtain ⟨e1, c1, hv1, _⟩ := id h.vis
  obtain ⟨e2, c2, hd1, _⟩ := id h.dur
  have hlen : (m.bodies.set i (flipL (m.bodies.getD i []) a mask)).length = m.bodies.length := List.length_set
  refine ⟨(hk b (nty b _ _ h.box (by decide))).trans h.box, h.sb, h.sv, h.sd, h.ne, h.vis.keep (hk mv (nmp _ _ _ hv1)), h.dur.keep (hk md (nmp _ _ _ hd1)), ⟨fun j hj => ?_, fun j hj => h.bod.in_ j (by rw [← hlen]; exact hj), fun j k hj hk2 => h.bod.ap j k (by rw [← hlen]; exact hj) (by rw [← hlen]; exact hk2)⟩, h.pd.keep (fun k T cs _ h2 hT => hk k (nty k cs T h2 (by rcases hT with rfl | rfl | rfl <;> decide))) (fun _ x => x), ⟨fun f hf => ?_, fun f hf => ?_, fun x hx hk2 => ?_⟩, fun k hk2 => by simpa using h.low k hk2⟩
  · replace hj : j < m.bodies.length := by rw [← hlen]; exact hj
    by_cases e : j = i
    · subst e
      have e1 : (m.bodies.set j (flipL (m.bodies.getD j []) a mask)).getD j [] = flipL (m.bodies.getD j []) a mask := by rw [List.getD_eq_getElem?_getD, List.getElem?_set_self hj]; rfl
      show World.ownsRow _ _ _ _ _ ((m.bodies.set j _).getD j []).length (bytC ((m.bodies.set j _).getD j []))
      rw [e1, flip_len, bytC_flip8]
      obtain ⟨q2, c2, hq⟩ := own_slice ho
      rw [hv] at ho hq
      injection hq with hq1 hq2 hq3
      rw [← hq2] at ho
      rw [hv, ← hq2]
      exact (ho.stored a _).1
    · have e1 : (m.bodies.set i (flipL (m.bodies.getD i []) a mask)).getD j [] = m.bodies.getD j [] := by rw [List.getD_eq_getElem?_getD, List.getElem?_set_ne (fun x => e x.symm), ← List.getD_eq_getElem?_getD]
      show World.ownsRow _ _ _ _ _ ((m.bodies.set i _).getD j []).length (bytC ((m.bodies.set i _).getD j []))
      rw [e1]
      exact ownsRow_setCell_other (h.bod.own j hj) (a := ⟨g, a, none⟩) (h.bod.ap i j hi hj (fun x => e x.symm) g hg) _
  · rw [set_len]; exact h.sz.seen f hf
  · rw [set_len]; exact h.sz.safe f hf
  · rw [set_len]; exact h.sz.waits x hx hk2
set_option maxRecDepth 100000 in
set_option maxHeartbeats 4000000 in
theorem rot_any (h : Dp w S b m mv md pv vs sl) (hok : DkOk 300 m) (p : S8) (at_ : Int) (mask : UInt8) : Calls Tryz.prog 22 #[.pointer (some ⟨b, 0, none⟩), .string (mkS p), .int .i64 at_, .int .u8 (mask.toNat : Int)] w fun e w' => e = .returned (.int .i64 ((rotL m p at_ mask).2 : Int)) ∧ DPost S b w (rotL m p at_ mask).1 w' := by
  have c2 := h.cell 2
  simp at c2
  have H := Lib.hid h
  have HOK := Lib.hid hok
  cases hf : findL m.seen p with
  | none =>
    have hl := look_none h.vis hf
    have HR := Lib.hid (show rotL m p at_ mask = (m, 8) by unfold rotL; rw [hf])
    have HB := Lib.hid ((Below.refl w.heap.size w).alloc (Nat.le_refl _) (.cells #[.int .i64 0, .int .i64 0, .int .i64 0, .slice none 0 0] 74))
    clear h hf hok
    go_enter Tryz.func22, Tryz.ntmps22
    go_wp2
    go_ret
    rw [HR.out]
    exact ⟨rfl, DPost.same H.out HB.out⟩
  | some i =>
    obtain ⟨x, hx⟩ : ∃ x, m.seen.getD i fl0 = x := ⟨_, rfl⟩
    have hl := look_some h.vis hf x hx
    have hxm : x.body < m.bodies.length := by rw [← hx]; exact hok.inS _ (findL_in hf)
    have hxs : x.size = ((m.bodies.getD x.body []).length : Int) := by rw [← hx]; exact h.sz.seen _ (findL_in hf)
    have hbb : (m.bodies.getD x.body []).length ≤ 300000 := hok.shortB x.body
    have HR := Lib.hid (show rotL m p at_ mask = if at_ < 0 ∨ ((m.bodies.getD x.body []).length : Int) ≤ at_ then (m, 1) else ({ m with bodies := m.bodies.set x.body (flipL (m.bodies.getD x.body []) at_.toNat mask) }, 0) by unfold rotL; rw [hf]; dsimp only; rw [hx]; rfl)
    have hB := ((Below.refl w.heap.size w).alloc (Nat.le_refl _) (.cells #[.int .i64 x.size, .int .i64 x.time, .int .i64 x.chg, .slice (sl x.body).q (sl x.body).n (sl x.body).c] 74))
    have HB := Lib.hid hB
    have k0 : (w.alloc (.cells #[.int .i64 x.size, .int .i64 x.time, .int .i64 x.chg, .slice (sl x.body).q (sl x.body).n (sl x.body).c] 74)).cell? ⟨w.heap.size, 0, none⟩ = some (.int .i64 x.size) := box4_cell w 74 (.int .i64 x.size) (.int .i64 x.time) (.int .i64 x.chg) (.slice (sl x.body).q (sl x.body).n (sl x.body).c) 0
    have k3 : (w.alloc (.cells #[.int .i64 x.size, .int .i64 x.time, .int .i64 x.chg, .slice (sl x.body).q (sl x.body).n (sl x.body).c] 74)).cell? ⟨w.heap.size, 3, none⟩ = some (.slice (sl x.body).q (sl x.body).n (sl x.body).c) := box4_cell w 74 (.int .i64 x.size) (.int .i64 x.time) (.int .i64 x.chg) (.slice (sl x.body).q (sl x.body).n (sl x.body).c) 3
    have HXM := Lib.hid hxm
    have HXS := Lib.hid hxs
    by_cases g1 : at_ < 0
    · have y1 : decide (at_ < 0) = true := decide_eq_true g1
      have HE := Lib.hid (show rotL m p at_ mask = (m, 1) by rw [HR.out, if_pos (.inl g1)])
      clear h hf hok hB hx hxm hxs
      go_enter Tryz.func22, Tryz.ntmps22
      go_wp2
      go_ret
      rw [HE.out]
      exact ⟨rfl, DPost.same H.out HB.out⟩
    · have y1 : decide (at_ < 0) = false := decide_eq_false g1
      by_cases g2 : x.size ≤ at_
      · have y2 : decide (x.size ≤ at_) = true := decide_eq_true g2
        have HE := Lib.hid (show rotL m p at_ mask = (m, 1) by rw [HR.out, if_pos (.inr (by rw [← hxs]; exact g2))])
        clear h hf hok hB hx hxm hxs
        go_enter Tryz.func22, Tryz.ntmps22
        go_wp2
        go_ret
        rw [HE.out]
        exact ⟨rfl, DPost.same H.out HB.out⟩
      · have y2 : decide (x.size ≤ at_) = false := decide_eq_false g2
        obtain ⟨a, rfl⟩ := Int.eq_ofNat_of_zero_le (show 0 ≤ at_ by omega)
        obtain ⟨bd, hbd⟩ : ∃ bd, m.bodies.getD x.body [] = bd := ⟨_, rfl⟩
        have hab : a < bd.length := by rw [← hbd]; omega
        have HE := Lib.hid (show rotL m p (a : Int) mask = ({ m with bodies := m.bodies.set x.body (flipL (m.bodies.getD x.body []) a mask) }, 0) by rw [HR.out, if_neg (by rw [← hxs]; omega), Int.toNat_natCast])
        have hw2 := h.of_below hB
        have ho := hw2.bod.own x.body hxm
        rw [hbd] at ho
        obtain ⟨g, cap, hv, _, hgl, hnc, hcs, hfr⟩ := own_full8 ho (by omega)
        have x1 := hcs a (by rw [bytC_len]; exact hab)
        rw [bytC_get bd a hab] at x1
        have hch : (chr bd a : Int) = ((bd.getD a 0).toNat : Int) := by unfold chr; rfl
        rw [hch] at x1
        have x2 := hfr a
        have hsv : (sl x.body).q = some ⟨g, 0, none⟩ ∧ (sl x.body).n = bd.length ∧ (sl x.body).c = cap := by
          unfold Hn.v at hv
          injection hv with e1 e2 e3
          exact ⟨e1, e2, e3⟩
        rw [hsv.1, hsv.2.1, hsv.2.2] at hl k0 k3 x1 x2
        have hfl := hw2.flip x.body hxm a (by rw [hbd]; exact hab) mask g _ _ hv
        rw [hbd] at hfl
        obtain ⟨by_, hby⟩ : ∃ y, bd.getD a 0 = y := ⟨_, rfl⟩
        rw [hby] at hfl x1
        rw [hsv.1, hsv.2.1, hsv.2.2] at hfl
        have HSV := Lib.hid hsv
        have HBD := Lib.hid hbd
        have hgw : g < w.heap.size := by
          have := hw2.bod.in_ x.body hxm g (by rw [hv]; rfl)
          exact h.low g this
        have hSg : S g := hw2.bod.in_ x.body hxm g (by rw [hv]; rfl)
        have HSG := Lib.hid hSg
        have hai : (a : Int) < (bd.length : Int) := by omega
        have hbits := xor_bits by_ mask
        obtain ⟨rr, hrr⟩ : ∃ r, by_ ^^^ mask = r := ⟨_, rfl⟩
        rw [hrr] at hbits hfl
        clear hrr
        have HFL := Lib.hid hfl
        clear hfl
        clear h hf hok hB hx hxm hxs hw2 ho hv hcs hfr hch hbd hby hSg hsv
        go_enter Tryz.func22, Tryz.ntmps22
        go_wp2
        go_ret
        have hgl2 : g < w.heap.size := hgw
        have HFL2 := HFL.out
        rw [World.setCell_alloc_past _ _ _ _ hgl2] at HFL2
        rw [HE.out]
        refine ⟨rfl, ⟨mv, md, pv, vs, sl, ?_⟩, ?_⟩
        · rw [HBD.out]
          exact HFL2.keep (fun _ _ => rfl) (fun k hk => .inl hk) (SN.low H.out.low (by rw [World.size_alloc]; simp))
        · have hBx := (Below.refl (w.setCell ⟨g, a, none⟩ (.int .u8 (rr.toNat : Int))).heap.size (w.setCell ⟨g, a, none⟩ (.int .u8 (rr.toNat : Int)))).alloc (Nat.le_refl _) (.cells #[.int .i64 x.size, .int .i64 x.time, .int .i64 x.chg, .slice (some ⟨g, 0, none⟩) bd.length cap] 74)
          have hs : (w.setCell ⟨g, a, none⟩ (.int .u8 (rr.toNat : Int))).heap.size = w.heap.size := by simp
          exact ⟨hBx.os, hBx.tape, hBx.output, by rw [← hs]; exact hBx.size, fun k hk hn => by
            rw [hBx.block k (by rw [hs]; exact hk)]
            exact Below.heap_setCell _ _ _ _ (fun e => hn (by rw [e]; exact HSG.out))⟩
end
end Go.Proofs.YtjglgohchhdkkaaGreatDoor
/- refusal of the program's disk. -/
namespace Go.Proofs.YtjglgohchhdkkaaGreatDoor
open Go Go.RowKit

/-- The program's answer to a write. -/
def filesP (m : Dk) (p : S8) : Nat := if (findL m.seen p).isNone then m.seen.length + 1 else m.seen.length
def writeP (m : Dk) (p : S8) (n : Nat) : Nat :=
  if !goodL p then 7
  else if 262144 < n then 1
  else if clashesL m.seen p p then 9
  else if 64 < filesP m p then 14
  else if leftL m p < (n : Int) then 10
  else 0
theorem writeP_eq (m : Dk) (p b : S8) (t : Int) (h : m.seen.length ≤ 64) : (writeL m p b t).2 = writeP m p b.length := by
  unfold writeL writeP filesP
  repeat' split
  all_goals first | rfl | (exfalso; simp_all; done) | (exfalso; simp_all; omega)
theorem writeL_no (m : Dk) (p b : S8) (t : Int) (h : (writeL m p b t).2 ≠ 0) : (writeL m p b t).1 = m := by
  unfold writeL at h ⊢
  repeat' split
  all_goals first | rfl | (exfalso; apply h; simp_all)
section
variable {w : World} {S : Nat → Prop} {b : Nat} {m : Dk} {mv md : Nat} {pv : Value} {vs : List Value} {sl : Nat → Hn}
theorem len8 {u : World} (h : MpB u mv (m.seen.map (entV sl))) : ∀ ty, (Builtin.len_ #[48] ty #[.map (some mv)]).run Tryz.prog u = .ok (.int .i64 (m.seen.length : Int)) u := fun ty => by
  have := run_len8 (P := Tryz.prog) mapT (ty := ty) h
  rwa [List.length_map] at this
set_option maxRecDepth 100000 in
set_option maxHeartbeats 8000000 in
theorem refusal_true (h : Dp w S b m mv md pv vs sl) (hok : DkOk 300 m) (hr0 : 0 ≤ m.room) (hr1 : m.room ≤ 1048576) (p : S8) (n : Nat) (hp : p.length ≤ 1000) (hn : n ≤ 400000) (sz ti ch : Int) (q : Option Addr) (bn bc : Nat) (hz0 : 0 ≤ sz) (hz1 : sz ≤ 300000) (hL : leftL m p = m.room - (usedL m : Int) + sz) (hfi : filesP m p = m.seen.length)
    (hl : (Instr.lookup 48 (.map (some mv)) (.string (mkS p)) true).run Tryz.prog w = .ok (.tuple #[.agg #[.int .i64 sz, .int .i64 ti, .int .i64 ch, .slice q bn bc], .bool true]) w) :
    Calls Tryz.prog 31 #[.pointer (some ⟨b, 0, none⟩), .string (mkS p), .int .i64 (n : Int)] w fun e w' => e = .returned (.int .i64 (writeP m p n : Int)) ∧ Below w.heap.size w w' := by
  have c0 := h.cell 0
  have c2 := h.cell 2
  simp at c0 c2
  have hB1 := (Below.refl w.heap.size w).alloc (Nat.le_refl _) (.cells #[.int .i64 sz, .int .i64 ti, .int .i64 ch, .slice q bn bc] 74)
  have k0 : (w.alloc (.cells #[.int .i64 sz, .int .i64 ti, .int .i64 ch, .slice q bn bc] 74)).cell? ⟨w.heap.size, 0, none⟩ = some (.int .i64 sz) := box4_cell w 74 (.int .i64 sz) (.int .i64 ti) (.int .i64 ch) (.slice q bn bc) 0
  have H := Lib.hid h
  have HOK := Lib.hid hok
  have HB1 := Lib.hid hB1
  have HSZ := Lib.hid (World.size_alloc w (.cells #[.int .i64 sz, .int .i64 ti, .int .i64 ch, .slice q bn bc] 74))
  generalize hW : w.alloc (.cells #[.int .i64 sz, .int .i64 ti, .int .i64 ch, .slice q bn bc] 74) = W at *
  have HW := Lib.hid hW
  have HWR := Lib.hid (show writeP m p n = if !goodL p then 7 else if 262144 < n then 1 else if clashesL m.seen p p then 9 else if 64 < m.seen.length then 14 else if m.room - (usedL m : Int) + sz < (n : Int) then 10 else 0 by unfold writeP; rw [hfi, hL])
  have hul := usedL_le hok.shortB (n := m.seen.length) rfl
  have hsn := hok.seen
  obtain ⟨ul, hue⟩ : ∃ ul, usedL m = ul := ⟨_, rfl⟩
  have HUE := Lib.hid hue
  obtain ⟨ln, hln⟩ : ∃ ln, m.seen.length = ln := ⟨_, rfl⟩
  have HLN := Lib.hid hln
  rw [hue, hln] at hul
  rw [hln] at hsn
  have hws : IntKind.i64.wrap ((ul : Int) - sz) = (ul : Int) - sz := by rw [IntKind.wrap_i64]; omega
  have hws2 : IntKind.i64.wrap ((ul : Int) - sz + (n : Int)) = (ul : Int) - sz + (n : Int) := by rw [IntKind.wrap_i64]; omega
  have hS : ∀ u, Below W.heap.size W u → u.cell? ⟨b, 2, none⟩ = some (.map (some mv)) ∧ u.cell? ⟨w.heap.size, 0, none⟩ = some (.int .i64 sz) ∧ ∀ ty, (Builtin.len_ #[48] ty #[.map (some mv)]).run Tryz.prog u = .ok (.int .i64 (ln : Int)) u := fun u hu => by
    have hd := (H.out.of_below HB1.out).of_below hu
    have e2 := hd.cell 2
    simp at e2
    refine ⟨e2, ?_, fun ty => by have := len8 hd.vis ty; rwa [HLN.out] at this⟩
    rw [hu.cell (p := ⟨w.heap.size, 0, none⟩) (by rw [HSZ.out]; exact Nat.lt_succ_self _)]
    exact k0
  have HS := Lib.hid hS
  obtain ⟨s1, s2, s3⟩ := hS W.drew ((Below.refl _ _).drew)
  have hl64 : IntKind.i64.wrap ((ln : Int) + 1) = (ln : Int) + 1 := by rw [IntKind.wrap_i64]; omega
  have HN := Lib.hid (And.intro hn (And.intro hsn (And.intro hul (And.intro hz0 (And.intro hz1 (And.intro hr0 hr1))))))
  have HP := Lib.hid hp
  have HUS : Hid (Calls Tryz.prog 26 #[.pointer (some ⟨b, 0, none⟩)] W.drew fun e w' => e = .returned (.int .i64 (ul : Int)) ∧ Below W.heap.size W.drew w') := Lib.hid (by have := used_any ((H.out.of_below HB1.out).of_below (Below.refl W.heap.size W).drew) HOK.out; rwa [HUE.out] at this)
  clear h hok hB1 hW hL hfi hue hln hp hn hsn hul hz0 hz1 hr0 hr1 hS
  go_enter Tryz.func31, Tryz.ntmps31
  go_wp2_with fail
  rw [HW.out]
  go_region_held3 (fun u : World => u.cell? ⟨b, 2, none⟩ = some (.map (some mv)) ∧ u.cell? ⟨w.heap.size, 0, none⟩ = some (.int .i64 sz) ∧ ∀ ty, (Builtin.len_ #[48] ty #[.map (some mv)]).run Tryz.prog u = .ok (.int .i64 (ln : Int)) u) (first | exact ⟨s1, s2, s3⟩ | exact ⟨z1, z2, z3⟩ | go_keep) ((first | (go_at_call 26; refine (HUS.out).mono ?_; rintro e w2 ⟨rfl, hB2⟩; have hB3 := ((Below.refl W.heap.size W).drew).trans hB2; obtain ⟨z1, z2, z3⟩ := HS.out w2 hB3; have HB3 := Lib.hid hB3; clear hB2 hB3)))
  have HD2 := Lib.hid ((H.out.of_below HB1.out).of_below HB3.out)
  have HBX := Lib.hid (HB1.out.trans (HB3.out.mono HB1.out.size))
  have c02 := HD2.out.cell 0
  have c22 := HD2.out.cell 2
  simp at c02 c22
  have HGD := Lib.hid (good_any p w2 (by have := HP.out; omega))
  clear c0 c2 k0 s1 s2 s3 z1 z2 z3 hl
  cases hgd : goodL p with
  | false =>
    rw [hgd] at HGD
    have HE := Lib.hid (show writeP m p n = 7 by rw [HWR.out, hgd]; rfl)
    go_wp2_with fail
    refine HGD.out.mono ?_
    rintro e w4 ⟨rfl, hB4⟩
    have HB4 := Lib.hid (HBX.out.trans (hB4.mono HBX.out.size))
    clear hB4
    go_wp2
    go_ret
    exact ⟨by rw [HE.out]; rfl, HB4.out⟩
  | true =>
    rw [hgd] at HGD
    have HWR2 := Lib.hid (show writeP m p n = if 262144 < n then 1 else if clashesL m.seen p p then 9 else if 64 < ln then 14 else if m.room - (ul : Int) + sz < (n : Int) then 10 else 0 by rw [HWR.out, hgd, HUE.out, HLN.out]; rfl)
    clear HWR
    by_cases g1 : 262144 < n
    · have y1 : (262144 : Int) < (n : Int) := by omega
      have y2 : decide ((262144 : Int) < (n : Int)) = true := decide_eq_true y1
      have y3 : decide (262144 < n) = true := decide_eq_true g1
      have HE := Lib.hid (show writeP m p n = 1 by rw [HWR2.out, if_pos g1])
      clear g1
      go_wp2_with fail
      refine HGD.out.mono ?_
      rintro e w4 ⟨rfl, hB4⟩
      have HB4 := Lib.hid (HBX.out.trans (hB4.mono HBX.out.size))
      clear hB4
      go_wp2
      go_ret
      exact ⟨by rw [HE.out]; rfl, HB4.out⟩
    · have y1 : ¬ (262144 : Int) < (n : Int) := by omega
      have y2 : decide ((262144 : Int) < (n : Int)) = false := decide_eq_false y1
      have y3 : decide (262144 < n) = false := decide_eq_false g1
      have HWR3 := Lib.hid (show writeP m p n = if clashesL m.seen p p then 9 else if 64 < ln then 14 else if m.room - (ul : Int) + sz < (n : Int) then 10 else 0 by rw [HWR2.out, if_neg g1])
      clear HWR2 g1
      go_wp2_with fail
      refine HGD.out.mono ?_
      rintro e w4 ⟨rfl, hB4⟩
      have HB4 := Lib.hid (HBX.out.trans (hB4.mono HBX.out.size))
      have HD4 := Lib.hid (HD2.out.of_below hB4)
      have c04 := HD4.out.cell 0
      have c24 := HD4.out.cell 2
      simp at c04 c24
      have HCL := Lib.hid (clashes_any HD4.out.vis HOK.out.shS p p (by have := HP.out; omega))
      clear hB4 c02 c22
      cases hcl : clashesL m.seen p p with
      | true =>
        rw [hcl] at HCL
        have HE := Lib.hid (show writeP m p n = 9 by rw [HWR3.out, hcl]; rfl)
        clear hcl
        go_wp2_with fail
        refine HCL.out.mono ?_
        rintro e w5 ⟨rfl, hB5⟩
        have HB5 := Lib.hid (HB4.out.trans (hB5.mono HB4.out.size))
        clear hB5
        go_wp2
        go_ret
        exact ⟨by rw [HE.out]; rfl, HB5.out⟩
      | false =>
        rw [hcl] at HCL
        have HWR4 := Lib.hid (show writeP m p n = if 64 < ln then 14 else if m.room - (ul : Int) + sz < (n : Int) then 10 else 0 by rw [HWR3.out, hcl]; rfl)
        clear HWR3 hcl
        go_wp2_with fail
        refine HCL.out.mono ?_
        rintro e w5 ⟨rfl, hB5⟩
        have HB5 := Lib.hid (HB4.out.trans (hB5.mono HB4.out.size))
        have c05 := (HD4.out.of_below hB5).cell 0
        simp at c05
        clear hB5 c04 c24
        obtain ⟨hn, hsn, hul, hz0, hz1, hr0, hr1⟩ := HN.out
        by_cases g2 : 64 < ln
        · have x1 : (64 : Int) < (ln : Int) := by omega
          have x2 : decide ((64 : Int) < (ln : Int)) = true := decide_eq_true x1
          have HE := Lib.hid (show writeP m p n = 14 by rw [HWR4.out, if_pos g2])
          clear g2 hn hsn hul hz0 hz1 hr0 hr1
          go_wp2
          go_ret
          exact ⟨by rw [HE.out]; rfl, HB5.out⟩
        · have x1 : ¬ (64 : Int) < (ln : Int) := by omega
          have x2 : decide ((64 : Int) < (ln : Int)) = false := decide_eq_false x1
          by_cases g3 : m.room - (ul : Int) + sz < (n : Int)
          · have v1 : m.room < (ul : Int) - sz + (n : Int) := by omega
            have v2 : decide (m.room < (ul : Int) - sz + (n : Int)) = true := decide_eq_true v1
            have HE := Lib.hid (show writeP m p n = 10 by rw [HWR4.out, if_neg g2, if_pos g3])
            clear g2 g3 hn hsn hul hz0 hz1 hr0 hr1
            go_wp2
            go_ret
            exact ⟨by rw [HE.out]; rfl, HB5.out⟩
          · have v1 : ¬ m.room < (ul : Int) - sz + (n : Int) := by omega
            have v2 : decide (m.room < (ul : Int) - sz + (n : Int)) = false := decide_eq_false v1
            have HE := Lib.hid (show writeP m p n = 0 by rw [HWR4.out, if_neg g2, if_neg g3])
            clear g2 g3 hn hsn hul hz0 hz1 hr0 hr1
            go_wp2
            go_ret
            exact ⟨by rw [HE.out]; rfl, HB5.out⟩
set_option maxRecDepth 100000 in
set_option maxHeartbeats 8000000 in
theorem refusal_false (h : Dp w S b m mv md pv vs sl) (hok : DkOk 300 m) (hr0 : 0 ≤ m.room) (hr1 : m.room ≤ 1048576) (p : S8) (n : Nat) (hp : p.length ≤ 1000) (hn : n ≤ 400000) (sz ti ch : Int) (q : Option Addr) (bn bc : Nat) (hz0 : 0 ≤ sz) (hz1 : sz ≤ 300000) (hL : leftL m p = m.room - (usedL m : Int) + sz) (hfi : filesP m p = m.seen.length + 1)
    (hl : (Instr.lookup 48 (.map (some mv)) (.string (mkS p)) true).run Tryz.prog w = .ok (.tuple #[.agg #[.int .i64 sz, .int .i64 ti, .int .i64 ch, .slice q bn bc], .bool false]) w) :
    Calls Tryz.prog 31 #[.pointer (some ⟨b, 0, none⟩), .string (mkS p), .int .i64 (n : Int)] w fun e w' => e = .returned (.int .i64 (writeP m p n : Int)) ∧ Below w.heap.size w w' := by
  have c0 := h.cell 0
  have c2 := h.cell 2
  simp at c0 c2
  have hB1 := (Below.refl w.heap.size w).alloc (Nat.le_refl _) (.cells #[.int .i64 sz, .int .i64 ti, .int .i64 ch, .slice q bn bc] 74)
  have k0 : (w.alloc (.cells #[.int .i64 sz, .int .i64 ti, .int .i64 ch, .slice q bn bc] 74)).cell? ⟨w.heap.size, 0, none⟩ = some (.int .i64 sz) := box4_cell w 74 (.int .i64 sz) (.int .i64 ti) (.int .i64 ch) (.slice q bn bc) 0
  have H := Lib.hid h
  have HOK := Lib.hid hok
  have HB1 := Lib.hid hB1
  have HSZ := Lib.hid (World.size_alloc w (.cells #[.int .i64 sz, .int .i64 ti, .int .i64 ch, .slice q bn bc] 74))
  generalize hW : w.alloc (.cells #[.int .i64 sz, .int .i64 ti, .int .i64 ch, .slice q bn bc] 74) = W at *
  have HW := Lib.hid hW
  have HWR := Lib.hid (show writeP m p n = if !goodL p then 7 else if 262144 < n then 1 else if clashesL m.seen p p then 9 else if 64 < m.seen.length + 1 then 14 else if m.room - (usedL m : Int) + sz < (n : Int) then 10 else 0 by unfold writeP; rw [hfi, hL])
  have hul := usedL_le hok.shortB (n := m.seen.length) rfl
  have hsn := hok.seen
  obtain ⟨ul, hue⟩ : ∃ ul, usedL m = ul := ⟨_, rfl⟩
  have HUE := Lib.hid hue
  obtain ⟨ln, hln⟩ : ∃ ln, m.seen.length = ln := ⟨_, rfl⟩
  have HLN := Lib.hid hln
  rw [hue, hln] at hul
  rw [hln] at hsn
  have hws : IntKind.i64.wrap ((ul : Int) - sz) = (ul : Int) - sz := by rw [IntKind.wrap_i64]; omega
  have hws2 : IntKind.i64.wrap ((ul : Int) - sz + (n : Int)) = (ul : Int) - sz + (n : Int) := by rw [IntKind.wrap_i64]; omega
  have hS : ∀ u, Below W.heap.size W u → u.cell? ⟨b, 2, none⟩ = some (.map (some mv)) ∧ u.cell? ⟨w.heap.size, 0, none⟩ = some (.int .i64 sz) ∧ ∀ ty, (Builtin.len_ #[48] ty #[.map (some mv)]).run Tryz.prog u = .ok (.int .i64 (ln : Int)) u := fun u hu => by
    have hd := (H.out.of_below HB1.out).of_below hu
    have e2 := hd.cell 2
    simp at e2
    refine ⟨e2, ?_, fun ty => by have := len8 hd.vis ty; rwa [HLN.out] at this⟩
    rw [hu.cell (p := ⟨w.heap.size, 0, none⟩) (by rw [HSZ.out]; exact Nat.lt_succ_self _)]
    exact k0
  have HS := Lib.hid hS
  obtain ⟨s1, s2, s3⟩ := hS W.drew ((Below.refl _ _).drew)
  have hl64 : IntKind.i64.wrap ((ln : Int) + 1) = (ln : Int) + 1 := by rw [IntKind.wrap_i64]; omega
  have HN := Lib.hid (And.intro hn (And.intro hsn (And.intro hul (And.intro hz0 (And.intro hz1 (And.intro hr0 hr1))))))
  have HP := Lib.hid hp
  have HUS : Hid (Calls Tryz.prog 26 #[.pointer (some ⟨b, 0, none⟩)] W.drew fun e w' => e = .returned (.int .i64 (ul : Int)) ∧ Below W.heap.size W.drew w') := Lib.hid (by have := used_any ((H.out.of_below HB1.out).of_below (Below.refl W.heap.size W).drew) HOK.out; rwa [HUE.out] at this)
  clear h hok hB1 hW hL hfi hue hln hp hn hsn hul hz0 hz1 hr0 hr1 hS
  go_enter Tryz.func31, Tryz.ntmps31
  go_wp2_with fail
  rw [HW.out]
  go_region_held3 (fun u : World => u.cell? ⟨b, 2, none⟩ = some (.map (some mv)) ∧ u.cell? ⟨w.heap.size, 0, none⟩ = some (.int .i64 sz) ∧ ∀ ty, (Builtin.len_ #[48] ty #[.map (some mv)]).run Tryz.prog u = .ok (.int .i64 (ln : Int)) u) (first | exact ⟨s1, s2, s3⟩ | exact ⟨z1, z2, z3⟩ | go_keep) ((first | (go_at_call 26; refine (HUS.out).mono ?_; rintro e w2 ⟨rfl, hB2⟩; have hB3 := ((Below.refl W.heap.size W).drew).trans hB2; obtain ⟨z1, z2, z3⟩ := HS.out w2 hB3; have HB3 := Lib.hid hB3; clear hB2 hB3)))
  have HD2 := Lib.hid ((H.out.of_below HB1.out).of_below HB3.out)
  have HBX := Lib.hid (HB1.out.trans (HB3.out.mono HB1.out.size))
  have c02 := HD2.out.cell 0
  have c22 := HD2.out.cell 2
  simp at c02 c22
  have HGD := Lib.hid (good_any p w2 (by have := HP.out; omega))
  clear c0 c2 k0 s1 s2 s3 z1 z2 z3 hl
  cases hgd : goodL p with
  | false =>
    rw [hgd] at HGD
    have HE := Lib.hid (show writeP m p n = 7 by rw [HWR.out, hgd]; rfl)
    go_wp2_with fail
    refine HGD.out.mono ?_
    rintro e w4 ⟨rfl, hB4⟩
    have HB4 := Lib.hid (HBX.out.trans (hB4.mono HBX.out.size))
    clear hB4
    go_wp2
    go_ret
    exact ⟨by rw [HE.out]; rfl, HB4.out⟩
  | true =>
    rw [hgd] at HGD
    have HWR2 := Lib.hid (show writeP m p n = if 262144 < n then 1 else if clashesL m.seen p p then 9 else if 64 < ln + 1 then 14 else if m.room - (ul : Int) + sz < (n : Int) then 10 else 0 by rw [HWR.out, hgd, HUE.out, HLN.out]; rfl)
    clear HWR
    by_cases g1 : 262144 < n
    · have y1 : (262144 : Int) < (n : Int) := by omega
      have y2 : decide ((262144 : Int) < (n : Int)) = true := decide_eq_true y1
      have y3 : decide (262144 < n) = true := decide_eq_true g1
      have HE := Lib.hid (show writeP m p n = 1 by rw [HWR2.out, if_pos g1])
      clear g1
      go_wp2_with fail
      refine HGD.out.mono ?_
      rintro e w4 ⟨rfl, hB4⟩
      have HB4 := Lib.hid (HBX.out.trans (hB4.mono HBX.out.size))
      clear hB4
      go_wp2
      go_ret
      exact ⟨by rw [HE.out]; rfl, HB4.out⟩
    · have y1 : ¬ (262144 : Int) < (n : Int) := by omega
      have y2 : decide ((262144 : Int) < (n : Int)) = false := decide_eq_false y1
      have y3 : decide (262144 < n) = false := decide_eq_false g1
      have HWR3 := Lib.hid (show writeP m p n = if clashesL m.seen p p then 9 else if 64 < ln + 1 then 14 else if m.room - (ul : Int) + sz < (n : Int) then 10 else 0 by rw [HWR2.out, if_neg g1])
      clear HWR2 g1
      go_wp2_with fail
      refine HGD.out.mono ?_
      rintro e w4 ⟨rfl, hB4⟩
      have HB4 := Lib.hid (HBX.out.trans (hB4.mono HBX.out.size))
      have HD4 := Lib.hid (HD2.out.of_below hB4)
      have c04 := HD4.out.cell 0
      have c24 := HD4.out.cell 2
      simp at c04 c24
      have HCL := Lib.hid (clashes_any HD4.out.vis HOK.out.shS p p (by have := HP.out; omega))
      clear hB4 c02 c22
      cases hcl : clashesL m.seen p p with
      | true =>
        rw [hcl] at HCL
        have HE := Lib.hid (show writeP m p n = 9 by rw [HWR3.out, hcl]; rfl)
        clear hcl
        go_wp2_with fail
        refine HCL.out.mono ?_
        rintro e w5 ⟨rfl, hB5⟩
        have HB5 := Lib.hid (HB4.out.trans (hB5.mono HB4.out.size))
        clear hB5
        go_wp2
        go_ret
        exact ⟨by rw [HE.out]; rfl, HB5.out⟩
      | false =>
        rw [hcl] at HCL
        have HWR4 := Lib.hid (show writeP m p n = if 64 < ln + 1 then 14 else if m.room - (ul : Int) + sz < (n : Int) then 10 else 0 by rw [HWR3.out, hcl]; rfl)
        clear HWR3 hcl
        go_wp2_with fail
        refine HCL.out.mono ?_
        rintro e w5 ⟨rfl, hB5⟩
        have HB5 := Lib.hid (HB4.out.trans (hB5.mono HB4.out.size))
        have c05 := (HD4.out.of_below hB5).cell 0
        simp at c05
        clear hB5 c04 c24
        obtain ⟨hn, hsn, hul, hz0, hz1, hr0, hr1⟩ := HN.out
        by_cases g2 : 64 < ln + 1
        · have x1 : (64 : Int) < (ln : Int) + 1 := by omega
          have x2 : decide ((64 : Int) < (ln : Int) + 1) = true := decide_eq_true x1
          have HE := Lib.hid (show writeP m p n = 14 by rw [HWR4.out, if_pos g2])
          clear g2 hn hsn hul hz0 hz1 hr0 hr1
          go_wp2
          go_ret
          exact ⟨by rw [HE.out]; rfl, HB5.out⟩
        · have x1 : ¬ (64 : Int) < (ln : Int) + 1 := by omega
          have x2 : decide ((64 : Int) < (ln : Int) + 1) = false := decide_eq_false x1
          by_cases g3 : m.room - (ul : Int) + sz < (n : Int)
          · have v1 : m.room < (ul : Int) - sz + (n : Int) := by omega
            have v2 : decide (m.room < (ul : Int) - sz + (n : Int)) = true := decide_eq_true v1
            have HE := Lib.hid (show writeP m p n = 10 by rw [HWR4.out, if_neg g2, if_pos g3])
            clear g2 g3 hn hsn hul hz0 hz1 hr0 hr1
            go_wp2
            go_ret
            exact ⟨by rw [HE.out]; rfl, HB5.out⟩
          · have v1 : ¬ m.room < (ul : Int) - sz + (n : Int) := by omega
            have v2 : decide (m.room < (ul : Int) - sz + (n : Int)) = false := decide_eq_false v1
            have HE := Lib.hid (show writeP m p n = 0 by rw [HWR4.out, if_neg g2, if_neg g3])
            clear g2 g3 hn hsn hul hz0 hz1 hr0 hr1
            go_wp2
            go_ret
            exact ⟨by rw [HE.out]; rfl, HB5.out⟩
set_option maxHeartbeats 1000000 in
theorem refusal_any (h : Dp w S b m mv md pv vs sl) (hok : DkOk 300 m) (hr0 : 0 ≤ m.room) (hr1 : m.room ≤ 1048576) (p : S8) (n : Nat) (hp : p.length ≤ 1000) (hn : n ≤ 400000) :
    Calls Tryz.prog 31 #[.pointer (some ⟨b, 0, none⟩), .string (mkS p), .int .i64 (n : Int)] w fun e w' => e = .returned (.int .i64 (writeP m p n : Int)) ∧ Below w.heap.size w w' := by
  cases hf : findL m.seen p with
  | none => exact refusal_false h hok hr0 hr1 p n hp hn 0 0 0 none 0 0 (by decide) (by decide) (by rw [leftL_none hf]; omega) (by unfold filesP; rw [hf]; rfl) (look_none h.vis hf)
  | some i =>
    have hz := size_small h.sz hok (findL_in hf)
    exact refusal_true h hok hr0 hr1 p n hp hn _ _ _ _ _ _ hz.1 hz.2 (by rw [leftL_some hf, h.sz.seen _ (findL_in hf)]) (by unfold filesP; rw [hf]; rfl) (look_some h.vis hf _ rfl)
end
end Go.Proofs.YtjglgohchhdkkaaGreatDoor
