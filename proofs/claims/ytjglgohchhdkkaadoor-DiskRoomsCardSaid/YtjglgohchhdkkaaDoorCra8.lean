/- Crash of the program's disk. -/
import Derived.Test.YtjglgohchhdkkaaDoorNsy8
import Derived.BigQuiet
set_option linter.unusedSimpArgs false
set_option linter.unusedVariables false
namespace Go.Proofs.YtjglgohchhdkkaaDoor
open Go Go.RowKit

section
variable {w w' : World} {S S' : Nat → Prop} {b : Nat} {m : Dk} {mv md : Nat} {pv : Value} {vs : List Value} {sl : Nat → Hn}
theorem keptL_none (ws : List Ch) (l : List Fl) : keptL l ws [] = l := by
  induction ws with
  | nil => rfl
  | cons c r ih => exact ih
theorem keptL_over (l : List Fl) (ws : List Ch) (ks : List Bool) (k : Nat) (h : k = ws.length ∨ k = ks.length) : keptL l (ws.drop k) (ks.drop k) = l := by
  rcases h with h | h
  · rw [h, List.drop_length]; rfl
  · rw [h, List.drop_length]
    exact keptL_none _ _
/-- After k changes. -/
structure CrP (w : World) (S : Nat → Prop) (b : Nat) (m : Dk) (mv md : Nat) (pv : Value) (vs : List Value) (sl : Nat → Hn) (ks : List Bool) (k : Nat) (L : List Fl) (wr : World) : Prop where
  disk : Dp wr S b { m with safe := L } mv md pv vs sl
  kept : keptL L (m.waits.drop k) (ks.drop k) = keptL m.safe m.waits ks
  short : ShortF L
  kq : Kq8 S w wr
set_option maxRecDepth 100000 in
set_option maxHeartbeats 4000000 in
theorem crash_any (h : Dp w S b m mv md pv vs sl) (hok : DkOk 300 m) (ks : List Bool) (q : Option Addr) (cap : Nat) (hkl : ks.length ≤ 1000) (hl : LsG (fun k => ¬ S k) w q ks.length cap 1 (ks.map Value.bool)) : Calls Tryd.prog 20 #[.pointer (some ⟨b, 0, none⟩), .slice q ks.length cap] w fun e w' => e = .returned (.tuple #[]) ∧ DPost S b w (crashL m ks) w' := by
  obtain ⟨pq, pc, e1, hls, hnil, hle, hlow⟩ := own_shape h.pd.own
  have c4 := h.cell 4
  rw [e1] at c4
  simp at c4
  have H := Lib.hid h
  have HOK := Lib.hid hok
  have HL := Lib.hid hl
  have HLS := Lib.hid hls
  have HWN := Lib.hid hok.both
  obtain ⟨wn, hwn⟩ : ∃ wn, m.waits.length = wn := ⟨_, rfl⟩
  obtain ⟨kn, hkn⟩ : ∃ kn, ks.length = kn := ⟨_, rfl⟩
  obtain ⟨K, hK⟩ : ∃ K, min wn kn = K := ⟨_, rfl⟩
  have hmin : min (wn : Int) (kn : Int) = (K : Int) := by omega
  have hKw : K ≤ wn := by omega
  have hKk : K ≤ kn := by omega
  have HKE := Lib.hid (show K = wn ∨ K = kn by omega)
  rw [hwn] at c4 hle
  rw [hkn]
  rw [hkn] at hkl
  have HWE := Lib.hid hwn
  have HKN := Lib.hid hkn
  have hwb : wn ≤ 300 := by have := HWN.out; omega
  have HE1 := Lib.hid e1
  clear h hok hl hls hwn hkn hK e1 hlow
  go_enter Tryd.func20, Tryd.ntmps20
  go_wp2
  go_quiet (fail)
  have hB0 : Below w.heap.size w (w.drewN nq) := ((Dr.refl w).drewN nq).below _
  have hst : CrP w S b m mv md pv vs sl ks 0 m.safe (w.drewN nq) := ⟨H.out.of_below hB0, rfl, HOK.out.shF, Kq8.of_below hB0⟩
  have HST := Lib.hid hst
  generalize w.drewN nq = W0 at *
  clear c4 hst hB0 hmin hnil hle
  go_wp2
  go_loopw [20] (fun i wr => ∃ k : Nat, k ≤ K ∧ i = .int .i64 k ∧ ∃ L, CrP w S b m mv md pv vs sl ks k L wr) (fun i _ => K - (intOf i).toNat)
  case atStart => exact ⟨0, Nat.zero_le _, rfl, _, HST.out⟩
  case round =>
    obtain ⟨k, hk, rfl, L, hC⟩ := hrel
    have HC := Lib.hid hC
    clear hC HST
    by_cases hlt : k < K
    · have hkw : k < m.waits.length := by have := HWE.out; omega
      have hkk : k < ks.length := by have := HKN.out; omega
      obtain ⟨g, cap2, hpv2, hg0, hgl, hnc, hcs, hfr⟩ := own_full8 HC.out.disk.pd.own (Nat.lt_of_le_of_lt (Nat.zero_le _) hkw)
      obtain ⟨v, hv, hcl⟩ := HC.out.disk.pd.cls k hkw
      obtain ⟨g2, cs2, hvf⟩ := hcl.func
      subst hvf
      have hvl : k < vs.length := by rw [List.getElem?_eq_some_iff] at hv; exact hv.1
      have x1 := hcs k hvl
      rw [hv] at x1
      have hlk := HL.out.keep (w' := wr) (fun c hc hlc => HC.out.kq.block c hlc hc) HC.out.kq.size
      obtain ⟨kc, ko, hq, hkc, x2⟩ := hlk.at_.cell (j := k) (u := .bool ks[k]) (by rw [List.getElem?_map, List.getElem?_eq_getElem hkk]; rfl)
      obtain ⟨es, clock, hdb, _⟩ := id HC.out.disk.dur
      obtain ⟨g3, e3, _, heg, hcall⟩ := cls_any hcl L md HC.out.disk.dur HC.out.short (Nat.lt_of_le_of_lt (HOK.out.chk _ (List.getElem_mem hkw)).path (by decide)) _ _ _ rfl (HC.out.disk.ne_map hdb).2.2
      injection e3 with e3
      subst e3
      have HCA := Lib.hid hcall
      have c3 := HC.out.disk.cell 3
      simp at c3
      have hd0 : decide ((k : Int) < (K : Int)) = true := decide_eq_true (by omega)
      have hl0 : (k : Int) < (K : Int) := by omega
      have hl1 : (k : Int) < (kn : Int) := by omega
      have hl2 : k < kn := by omega
      have hstep := keptL_step L m.waits ks k hkw
      have hgd : ks.getD k false = ks[k] := by rw [List.getD_eq_getElem?_getD, List.getElem?_eq_getElem hkk]; rfl
      rw [hgd] at hstep
      obtain ⟨bk, hbk⟩ : ∃ bk, ks[k] = bk := ⟨_, rfl⟩
      rw [hbk] at hstep x2
      have HSTEP := Lib.hid hstep
      have hsz := doL_size (m := m) (l := L) (c := m.waits[k]) HC.out.disk.sz.safe (HC.out.disk.sz.waits _ (List.getElem_mem hkw))
      have HSZ := Lib.hid hsz
      have HSH := Lib.hid (doL_short (HOK.out.chk _ (List.getElem_mem hkw)) HC.out.short)
      have hpq : pq = some ⟨g, 0, none⟩ := by
        have e := HE1.out.symm.trans hpv2
        injection e with e _ _
      subst hpq hq
      clear hpv2 hnc hcs hfr hv hcl hvl hlk hdb hcall hstep hbk hsz hgd hg0 hgl hkc
      cases bk with
      | true =>
        go_wp2_with fail
        refine HCA.out.mono ?_
        rintro e w2 ⟨rfl, hM, hg2⟩
        have HN : Hid (CrP w S b m mv md pv vs sl ks (k + 1) (doL L m.waits[k]) w2) := Lib.hid ⟨HC.out.disk.durTo hg2 hM HSZ.out, HSTEP.out.symm.trans HC.out.kept, HSH.out,
          ⟨hg2.os.trans HC.out.kq.os, hg2.tape.trans HC.out.kq.tape, hg2.output.trans HC.out.kq.output, Nat.le_trans HC.out.kq.size hg2.size, fun i hi hn => by
            rw [hg2.block i (Nat.lt_of_lt_of_le hi HC.out.kq.size) (fun e => hn (by injection e with e; rw [e]; exact HC.out.disk.sd))]
            exact HC.out.kq.block i hi hn⟩⟩
        clear hM hg2 x1 x2 c3
        go_wp2
        go_roundw
        case rel => exact ⟨k + 1, by omega, by go_num, _, HN.out⟩
        case measure => simp [intOf]; omega
      | false =>
        have HN : Hid (CrP w S b m mv md pv vs sl ks (k + 1) L wr) := Lib.hid ⟨HC.out.disk, HSTEP.out.symm.trans HC.out.kept, HC.out.short, HC.out.kq⟩
        go_wp2
        go_roundw
        case rel => exact ⟨k + 1, by omega, by go_num, _, HN.out⟩
        case measure => simp [intOf]; omega
    · obtain rfl : k = K := by omega
      have hd0 : decide ((k : Int) < (k : Int)) = false := decide_eq_false (by omega)
      have c3 := HC.out.disk.cell 3
      have c2 := HC.out.disk.cell 2
      have f2 := HC.out.disk.free 2
      simp at c3 c2
      obtain ⟨pq2, pn2, pc2, hdq⟩ := HC.out.disk.q
      have hbx := setCell_box HC.out.disk.box 2 (.map (some md))
      have hko : ∀ i, i ≠ b → (wr.setCell ⟨b, 2, none⟩ (.map (some md))).heap[i]? = wr.heap[i]? := fun i hne => Below.heap_setCell _ _ _ _ hne
      obtain ⟨es, clock, hdb, _⟩ := id HC.out.disk.dur
      have hq2 : Dq (wr.setCell ⟨b, 2, none⟩ (.map (some md))) S b { m with seen := L, safe := L } md (some md) pq2 pn2 pc2 sl := by
        refine ⟨?_, HC.out.disk.sb, HC.out.disk.sd, HC.out.disk.dur.keep (hko md (HC.out.disk.ne_map hdb).1), HC.out.disk.bod.keep (fun i cur hs hc => hko i (fun e => by
          rw [e, HC.out.disk.box] at hc
          injection hc with hc
          injection hc with _ hc _
          exact absurd hc (by decide))) (fun _ x => x), HC.out.disk.sz.safe, fun i hi => by simpa using HC.out.disk.low i hi⟩
        have e := hdq.box.symm.trans HC.out.disk.box
        injection e with e
        injection e with e _ _
        have e5 := congrArg (fun a : Array Value => a[4]?) e
        simp at e5
        rw [← e5] at hbx
        exact hbx
      have HQ := Lib.hid (syncq_any hq2)
      have HFIN := Lib.hid (show crashL m ks = syncL { m with seen := L, safe := L } by
        have e := HC.out.kept
        have hov := keptL_over L m.waits ks k (by
          rcases HKE.out with x | x
          · left; have := HWE.out; omega
          · right; have := HKN.out; omega)
        rw [hov] at e
        unfold crashL syncL
        rw [← e])
      have HKB : Hid (Kq8 S w (wr.setCell ⟨b, 2, none⟩ (.map (some md)))) := Lib.hid ⟨HC.out.kq.os, HC.out.kq.tape, HC.out.kq.output, by simpa using HC.out.kq.size, fun i hi hn => by
        rw [hko i (fun e => hn (by rw [e]; exact HC.out.disk.sb))]
        exact HC.out.kq.block i hi hn⟩
      have HSZ : Hid ((wr.setCell ⟨b, 2, none⟩ (.map (some md))).heap.size = wr.heap.size) := Lib.hid (by simp)
      clear hdq hbx hko hdb hq2
      go_wp2_with fail
      refine HQ.out.mono ?_
      rintro e w2 ⟨rfl, hp⟩
      have HP : Hid (DPost S b w (crashL m ks) w2) := Lib.hid (by
        rw [HFIN.out]
        obtain ⟨⟨a1, a2, a3, a4, a5, hd⟩, hk2⟩ := hp
        have hs1 : w.heap.size ≤ (wr.setCell ⟨b, 2, none⟩ (.map (some md))).heap.size := HKB.out.size
        refine ⟨⟨a1, a2, a3, a4, a5, hd.keep (fun _ _ => rfl) (fun i hi => ?_) (SN.low H.out.low (Nat.le_trans hs1 hk2.size))⟩, ?_⟩
        · rcases hi with x | x
          · exact .inl x
          · exact .inr ⟨Nat.le_trans hs1 x.1, x.2⟩
        · exact ⟨hk2.os.trans HKB.out.os, hk2.tape.trans HKB.out.tape, hk2.output.trans HKB.out.output, Nat.le_trans hs1 hk2.size, fun i hi hn => (hk2.block i (Nat.lt_of_lt_of_le hi hs1) hn).trans (HKB.out.block i hi hn)⟩)
      clear hp c2 c3 f2
      go_wp2
      go_end0
      exact ⟨rfl, HP.out⟩
end
end Go.Proofs.YtjglgohchhdkkaaDoor
