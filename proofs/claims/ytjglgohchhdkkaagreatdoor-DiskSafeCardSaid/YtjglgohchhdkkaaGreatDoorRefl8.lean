/- The reference's Crash. -/
import Derived.Test.YtjglgohchhdkkaaGreatDoorRefk8
set_option linter.unusedSimpArgs false
set_option linter.unusedVariables false
namespace Go.Proofs.YtjglgohchhdkkaaGreatDoor
open Go Go.RowKit

/-- The cells of change number i. -/
theorem LsG.change {G : Nat → Prop} {w : World} {p : Option Addr} {n cap : Nat} {l : List Ch} (h : LsG G w p n cap 7 (l.flatMap encC)) {i j : Nat} (hi : i < l.length) {u : Value} (hu : (encC l[i])[j]? = some u) : ∃ c o, p = some ⟨c, o, none⟩ ∧ c < w.heap.size ∧ w.cell? ⟨c, o + (i * 7 + j), none⟩ = some u := by
  have hj : j < 7 := by rw [List.getElem?_eq_some_iff] at hu; exact hu.1
  have hg := flat_get encC 7 encC_len l i j hi hj
  exact h.at_.cell (hg.trans hu)
/-- The disk while changes are kept. -/
structure CrR (G : Nat → Prop) (w : World) (m : Dk) (h : Hd) (ks : List Bool) (k : Nat) (S : List Fl) (ps : Option Addr) (cs : Nat) (wr : World) : Prop where
  st : St2 w (lisD m { h with fp := ps, fn := S.length, fc := cs }) wr
  rf : RfG (G2 G w.heap.size) wr { m with safe := S } { h with fp := ps, fn := S.length, fc := cs }
  eq : keptL S (m.waits.drop k) (ks.drop k) = keptL m.safe m.waits ks
  short : ShortF S
  len : S.length ≤ m.safe.length + k
section
variable {G : Nat → Prop} {w : World} {m : Dk} {h : Hd} {ks : List Bool} {k : Nat} {S : List Fl} {ps : Option Addr} {cs : Nat} {wr : World}
theorem CrR.skip (c : CrR G w m h ks k S ps cs wr) (hk : k < m.waits.length) (hs : ks.getD k false = false) : CrR G w m h ks (k + 1) S ps cs wr :=
  ⟨c.st, c.rf, by rw [← c.eq, keptL_step S _ ks k hk, if_neg (by rw [hs]; decide)], c.short, by have := c.len; omega⟩
theorem CrR.take (c : CrR G w m h ks k S ps cs wr) (hk : k < m.waits.length) (hs : ks.getD k false = true) (x : Ch) (hx : m.waits[k] = x) (hch : ChOk x) (hG : ∀ k, w.heap.size ≤ k → G k) (w3 : World) (hB : Below wr.heap.size wr w3) (p3 : Option Addr) (c3 : Nat) (own : OwnF w3 (w.heap.size + 2) (.slice p3 (doL S x).length c3) (doL S x)) :
    CrR G w m h ks (k + 1) (doL S x) p3 c3 (w3.setCell ⟨w.heap.size, 4, none⟩ (.slice p3 (doL S x).length c3)) :=
  ⟨(c.st.next hB).set 4 (by show 4 < 6; decide) (.slice p3 (doL S x).length c3),
   RfG.set (j := 4) (v := .slice p3 (doL S x).length c3) (show RfG (G2 G w.heap.size) w3 { m with safe := doL S x } { h with fp := p3, fn := (doL S x).length, fc := c3 } from ⟨(c.rf.of_below hB).bodies, (c.rf.of_below hB).seen, LsG.fresh own (fun q hq => ⟨hG q (by omega), by omega, by omega⟩), (c.rf.of_below hB).waits⟩),
   by rw [← c.eq, keptL_step S _ ks k hk, if_pos hs, hx], doL_short hch c.short, by have := c.len; have := doL_len S x; omega⟩
theorem CrR.last (c : CrR G w m h ks k S ps cs wr) (hk : m.waits.length = k) : keptL m.safe m.waits ks = S := by
  rw [← c.eq, List.drop_of_length_le (by omega)]
  rfl
end
set_option maxRecDepth 100000 in
set_option maxHeartbeats 4000000 in
theorem refCrash_any (G : Nat → Prop) (m : Dk) (h : Hd) (ks : List Bool) (kp : Option Addr) (kc : Nat) (hch : ∀ c ∈ m.waits, ChOk c) (hsh : ShortF m.safe) (hn : h.fn + h.wn < 90000) (w : World) (hkl : ks.length < 1000000) (hkp : ∀ i (hi : i < ks.length), ∃ c o, kp = some ⟨c, o, none⟩ ∧ c < w.heap.size ∧ w.cell? ⟨c, o + i, none⟩ = some (.bool ks[i])) (hG : ∀ k, w.heap.size ≤ k → G k) (r : RfG G w m h) :
    Calls Tryz.prog 20 #[aggD m h, .slice kp ks.length kc] w fun e w' => ∃ h', e = .returned (aggD (crashL m ks) h') ∧ RfG G w' (crashL m ks) h' ∧ Below w.heap.size w w' := by
  have hst := st2_start w m h
  have R2 := Lib.hid (r.into2 hst)
  obtain ⟨W, hW⟩ : ∃ W, ((w.alloc (boxD m h)).alloc (.cells zerD.toArray 31)) = W := ⟨_, rfl⟩
  have HE := Lib.hid (show ((w.alloc (.cells #[.int .i64 m.room, .int .i64 m.count, .slice h.bp h.bn h.bc, .slice h.sp h.sn h.sc, .slice h.fp h.fn h.fc, .slice h.wp h.wn h.wc] 31)).alloc (.cells #[.int .i64 0, .int .i64 0, .slice none 0 0, .slice none 0 0, .slice none 0 0, .slice none 0 0] 31)) = W from hW)
  rw [hW] at hst R2
  have HST := Lib.hid hst
  have HG := Lib.hid hG
  have HN := Lib.hid hn
  have HKP := Lib.hid hkp
  have HCH := Lib.hid hch
  have HWL := Lib.hid r.wn
  have HFL := Lib.hid r.fn
  obtain ⟨kn, hkn⟩ : ∃ kn, ks.length = kn := ⟨_, rfl⟩
  rw [hkn] at hkl
  have HKN := Lib.hid hkn
  have C0 := Lib.hid (show CrR G w m h ks 0 m.safe h.fp h.fc W from by
    have hh : ({ h with fp := h.fp, fn := m.safe.length, fc := h.fc } : Hd) = h := by rw [r.fn]
    exact ⟨by rw [hh]; exact hst, by rw [hh]; exact R2.out, rfl, hsh, by omega⟩)
  have d5 : W.cell? ⟨w.heap.size, 5, none⟩ = some (.slice h.wp h.wn h.wc) := hst.dsk 5
  have hwn : h.wn < 90000 := by omega
  rw [hkn]
  clear hG r hW hst hn hkp hch hsh hkn
  unfold aggD
  go_enter Tryz.func20, Tryz.ntmps20
  go_wp2
  rw [HE.out]
  go_loopw [5, 9] (fun v5 v9 wr => ∃ (k : Nat) (S : List Fl) (ps : Option Addr) (cs : Nat), k ≤ h.wn ∧ v9 = .int .i64 k ∧ CrR G w m h ks k S ps cs wr) (fun v5 v9 _ => h.wn - (intOf v9).toNat)
  case atStart => exact ⟨0, _, _, _, Nat.zero_le _, rfl, C0.out⟩
  case round =>
    obtain ⟨k, S, ps, cs, hk, rfl, hC⟩ := hrel
    have HC := Lib.hid hC
    by_cases hlt : k < h.wn
    · have z1 : (k : Int) < (h.wn : Int) := by omega
      have z2 : decide ((k : Int) < (h.wn : Int)) = true := decide_eq_true z1
      have hw := i64s k (by omega)
      have hkw : k < m.waits.length := by rw [HWL.out]; exact hlt
      by_cases hkk : k < kn
      · have y1 : (k : Int) < (kn : Int) := by omega
        have y2 : decide ((k : Int) < (kn : Int)) = true := decide_eq_true y1
        have y0 : (0 : Int) ≤ (k : Int) := by omega
        obtain ⟨ck, ok, ekp, hck, hcell⟩ := HKP.out k (by rw [HKN.out]; exact hkk)
        have hkc : wr.cell? ⟨ck, ok + k, none⟩ = some (.bool (ks[k]'(by rw [HKN.out]; exact hkk))) := by rw [hC.st.bel.cell (p := ⟨ck, ok + k, none⟩) hck]; exact hcell
        have hgd : ks.getD k false = ks[k]'(by rw [HKN.out]; exact hkk) := by rw [List.getD_eq_getElem?_getD, List.getElem?_eq_getElem (by rw [HKN.out]; exact hkk)]; rfl
        rw [← hgd] at hkc
        rw [ekp]
        clear hgd hcell ekp
        cases hkb : ks.getD k false with
        | false =>
          rw [hkb] at hkc
          have HC2 := Lib.hid (hC.skip hkw hkb)
          clear hkb hC
          go_wp2
          exact ⟨⟨k + 1, S, ps, cs, by omega, by go_num, HC2.out⟩, by simp [intOf]; omega⟩
        | true =>
          rw [hkb] at hkc
          obtain ⟨x, hx⟩ : ∃ x, m.waits[k] = x := ⟨_, rfl⟩
          have hcx : ChOk x := by rw [← hx]; exact HCH.out _ (List.getElem_mem hkw)
          have HTK := Lib.hid (fun (w3 : World) (hB : Below wr.heap.size wr w3) (p3 : Option Addr) (c3 : Nat) (own : OwnF w3 (w.heap.size + 2) (.slice p3 (doL S x).length c3) (doL S x)) => hC.take hkw hkb x hx hcx HG.out w3 hB p3 c3 own)
          have hSl : S.length < 90000 := by have := hC.len; have := HN.out; have := HFL.out; omega
          have HSL := Lib.hid hSl
          have HDO := Lib.hid (fun (u : World) (q : Option Addr) (cap : Nat) (own : OwnF u (w.heap.size + 2) (.slice q S.length cap) S) (hN : w.heap.size + 2 ≤ u.heap.size) => refDo_any x hcx S hC.short q S.length cap (w.heap.size + 2) u (by omega) own hN)
          obtain ⟨ck2, csrc, cf⟩ := x
          obtain ⟨cp, cb, cz, ct, cc⟩ := cf
          obtain ⟨c0, o0, hpe, hc0, hx0⟩ := hC.rf.waits.change (i := k) (j := 0) hkw (u := .int .i64 (ck2 : Int)) (by rw [hx]; rfl)
          have hF := fun j u (hu : (encC ⟨ck2, csrc, ⟨cp, cb, cz, ct, cc⟩⟩)[j]? = some u) => (by
            obtain ⟨c1, o1, e1, _, h1⟩ := hC.rf.waits.change (i := k) (j := j) hkw (by rw [hx]; exact hu)
            rw [hpe] at e1
            injection e1 with e1
            injection e1 with e1 e2
            subst e1 e2
            rw [← Nat.add_assoc] at h1
            exact h1 : wr.cell? ⟨c0, o0 + k * 7 + j, none⟩ = some u)
          have g0 : wr.cell? ⟨c0, o0 + k * 7, none⟩ = some (.int .i64 (ck2 : Int)) := hF 0 _ rfl
          have g1 : wr.cell? ⟨c0, o0 + k * 7 + 1, none⟩ = some (.string (mkS csrc)) := hF 1 _ rfl
          have g2 : wr.cell? ⟨c0, o0 + k * 7 + 2, none⟩ = some (.string (mkS cp)) := hF 2 _ rfl
          have g3 : wr.cell? ⟨c0, o0 + k * 7 + 3, none⟩ = some (.int .i64 (cb : Int)) := hF 3 _ rfl
          have g4 : wr.cell? ⟨c0, o0 + k * 7 + 4, none⟩ = some (.int .i64 cz) := hF 4 _ rfl
          have g5 : wr.cell? ⟨c0, o0 + k * 7 + 5, none⟩ = some (.int .i64 ct) := hF 5 _ rfl
          have g6 : wr.cell? ⟨c0, o0 + k * 7 + 6, none⟩ = some (.int .i64 cc) := hF 6 _ rfl
          have hal := fun (o : Obj) j (u : Value) (e : wr.cell? ⟨c0, o0 + k * 7 + j, none⟩ = some u) => (by rw [World.cell?_alloc_old _ _ _ (by show c0 ≠ _; omega)]; exact e : (wr.alloc o).cell? ⟨c0, o0 + k * 7 + j, none⟩ = some u)
          have g0' : ∀ o, (wr.alloc o).cell? ⟨c0, o0 + k * 7, none⟩ = some (.int .i64 (ck2 : Int)) := fun o => hal o 0 _ g0
          have g1' : ∀ o, (wr.alloc o).cell? ⟨c0, o0 + k * 7 + 1, none⟩ = some (.string (mkS csrc)) := fun o => hal o 1 _ g1
          have g2' : ∀ o, (wr.alloc o).cell? ⟨c0, o0 + k * 7 + 2, none⟩ = some (.string (mkS cp)) := fun o => hal o 2 _ g2
          have g3' : ∀ o, (wr.alloc o).cell? ⟨c0, o0 + k * 7 + 3, none⟩ = some (.int .i64 (cb : Int)) := fun o => hal o 3 _ g3
          have g4' : ∀ o, (wr.alloc o).cell? ⟨c0, o0 + k * 7 + 4, none⟩ = some (.int .i64 cz) := fun o => hal o 4 _ g4
          have g5' : ∀ o, (wr.alloc o).cell? ⟨c0, o0 + k * 7 + 5, none⟩ = some (.int .i64 ct) := fun o => hal o 5 _ g5
          have g6' : ∀ o, (wr.alloc o).cell? ⟨c0, o0 + k * 7 + 6, none⟩ = some (.int .i64 cc) := fun o => hal o 6 _ g6
          have a4 : wr.cell? ⟨w.heap.size, 4, none⟩ = some (.slice ps S.length cs) := hC.st.dsk 4
          have a4' : ∀ o, (wr.alloc o).cell? ⟨w.heap.size, 4, none⟩ = some (.slice ps S.length cs) := fun o => (hC.st.alloc o).dsk 4
          have a5 : wr.cell? ⟨w.heap.size, 5, none⟩ = some (.slice h.wp h.wn h.wc) := hC.st.dsk 5
          have a5' : ∀ o, (wr.alloc o).cell? ⟨w.heap.size, 5, none⟩ = some (.slice h.wp h.wn h.wc) := fun o => (hC.st.alloc o).dsk 5
          rw [hpe] at a5 a5'
          have y3 : (0 : Int) ≤ (k : Int) := by omega
          have HPE := Lib.hid hpe
          have HC0 := Lib.hid hc0
          have H0 := Lib.hid (show ((wr.alloc (.cells #[] 71)).drew).ownsRow wr.heap.size 71 5 (.slice (some ⟨wr.heap.size, 0, none⟩) 0 0) 0 [] from own_empty wr wr.heap.size (Nat.le_refl _))
          have HZ0 := Lib.hid (show Below wr.heap.size wr (wr.alloc (.cells #[] 71)).drew from ((Below.refl _ _).alloc (Nat.le_refl _) _).drew)
          have HST2 := Lib.hid hC.st
          have HLS := Lib.hid (show LsC (wr.alloc (.cells #[] 71)).drew ps (S.flatMap encF) from (hC.rf.safe.at_.of_below (show Below _ _ _ from ((Below.refl _ _).alloc (Nat.le_refl _) _).drew)))
          unfold aggC at HDO
          dsimp only at HDO
          clear hF hal hpe hc0 hx0 hx hcx hkb hC hkw hSl
          go_wp2
          go_region_law (first
            | (refine step_appendK elF _ rfl (.tmp 22) (.tmp 24) rfl wr.heap.size rfl H0.out ps S.length cs (S.flatMap encF) (HC.out.rf.safe.len) rfl HLS.out (HC.out.rf.safe.nilp (by decide)) (flat_one encF encF_one S) (by have := HSL.out; omega) HZ0.out.size ?_
               rintro v2 w2 hO2 hg2 _
               rw [Nat.zero_add, List.nil_append] at hO2
               have hB2 := HZ0.out.grown hg2 HZ0.out.size (fun g hg => (H0.out.lt g hg).1)
               have hs2 := HST2.out.next hB2
               replace hO2 := own_lower hO2 HST2.out.size
               have k0 : w2.cell? ⟨c0, o0 + k * 7, none⟩ = some (.int .i64 (ck2 : Int)) := by rw [hB2.cell (p := ⟨c0, o0 + k * 7, none⟩) HC0.out]; exact g0
               have k1 : w2.cell? ⟨c0, o0 + k * 7 + 1, none⟩ = some (.string (mkS csrc)) := by rw [hB2.cell (p := ⟨c0, o0 + k * 7 + 1, none⟩) HC0.out]; exact g1
               have k2 : w2.cell? ⟨c0, o0 + k * 7 + 2, none⟩ = some (.string (mkS cp)) := by rw [hB2.cell (p := ⟨c0, o0 + k * 7 + 2, none⟩) HC0.out]; exact g2
               have k3 : w2.cell? ⟨c0, o0 + k * 7 + 3, none⟩ = some (.int .i64 (cb : Int)) := by rw [hB2.cell (p := ⟨c0, o0 + k * 7 + 3, none⟩) HC0.out]; exact g3
               have k4 : w2.cell? ⟨c0, o0 + k * 7 + 4, none⟩ = some (.int .i64 cz) := by rw [hB2.cell (p := ⟨c0, o0 + k * 7 + 4, none⟩) HC0.out]; exact g4
               have k5 : w2.cell? ⟨c0, o0 + k * 7 + 5, none⟩ = some (.int .i64 ct) := by rw [hB2.cell (p := ⟨c0, o0 + k * 7 + 5, none⟩) HC0.out]; exact g5
               have k6 : w2.cell? ⟨c0, o0 + k * 7 + 6, none⟩ = some (.int .i64 cc) := by rw [hB2.cell (p := ⟨c0, o0 + k * 7 + 6, none⟩) HC0.out]; exact g6
               have k5h : w2.cell? ⟨w.heap.size, 5, none⟩ = some (.slice h.wp h.wn h.wc) := hs2.dsk 5
               rw [HPE.out] at k5h
               obtain ⟨p2, cap2, e2, -, -, -⟩ := own_shape hO2
               subst e2
               have HDC := Lib.hid (HDO.out w2 p2 cap2 hO2 hs2.size)
               have HS2 := Lib.hid hs2
               have HB2 := Lib.hid hB2
               clear hO2 hg2 hs2 hB2)
            | (go_simp; go_at_call 42
               with_reducible refine HDC.out.mono ?_
               rintro e w3 ⟨p3, c3, rfl, hO3, hB3⟩
               have hs3 := HS2.out.next hB3
               have b3 : w3.cell? ⟨w.heap.size, 4, none⟩ = some (.slice ps S.length cs) := hs3.dsk 4
               have b3f : w3.frozen? ⟨w.heap.size, 4, none⟩ = false := hs3.free 4
               have HT3 := Lib.hid (HTK.out w3 (HB2.out.trans (hB3.mono HB2.out.size)) p3 c3 hO3)
               clear hs3 hO3 hB3))
          all_goals
            go_wp2
            exact ⟨⟨k + 1, _, p3, c3, by omega, by go_num, HT3.out⟩, by simp [intOf]; omega⟩
      · have y1 : ¬ (k : Int) < (kn : Int) := by omega
        have y2 : decide ((k : Int) < (kn : Int)) = false := decide_eq_false y1
        have HC2 := Lib.hid (hC.skip hkw (by rw [List.getD_eq_getElem?_getD, List.getElem?_eq_none (by rw [HKN.out]; omega)]; rfl))
        clear hC
        go_wp2
        exact ⟨⟨k + 1, S, ps, cs, by omega, by go_num, HC2.out⟩, by simp [intOf]; omega⟩
    · obtain rfl : k = h.wn := by omega
      have z1 : ¬ (h.wn : Int) < (h.wn : Int) := by omega
      have z2 : decide ((h.wn : Int) < (h.wn : Int)) = false := decide_eq_false z1
      have hlast := hC.last HWL.out
      have HLA := Lib.hid (show crashL m ks = { m with safe := S, seen := S, waits := [] } from by unfold crashL; rw [hlast])
      have HSL := Lib.hid (show S.length < 90000 from by have := hC.len; have := HN.out; have := HFL.out; omega)
      have HB0 := Lib.hid (show Below wr.heap.size wr (wr.alloc (.cells #[] 71)) from (Below.refl _ _).alloc (Nat.le_refl _) _)
      have HO0 := Lib.hid (show (wr.alloc (.cells #[] 71)).ownsRow wr.heap.size 71 5 (.slice (some ⟨wr.heap.size, 0, none⟩) 0 0) 0 [] from own_empty wr wr.heap.size (Nat.le_refl _))
      have q0 : wr.cell? ⟨w.heap.size, 0, none⟩ = some (.int .i64 m.room) := hC.st.dsk 0
      have q0' : ∀ o, (wr.alloc o).cell? ⟨w.heap.size, 0, none⟩ = some (.int .i64 m.room) := fun o => (hC.st.alloc o).dsk 0
      have q1 : wr.cell? ⟨w.heap.size, 1, none⟩ = some (.int .i64 m.count) := hC.st.dsk 1
      have q1' : ∀ o, (wr.alloc o).cell? ⟨w.heap.size, 1, none⟩ = some (.int .i64 m.count) := fun o => (hC.st.alloc o).dsk 1
      have q2 : wr.cell? ⟨w.heap.size, 2, none⟩ = some (.slice h.bp h.bn h.bc) := hC.st.dsk 2
      have q2' : ∀ o, (wr.alloc o).cell? ⟨w.heap.size, 2, none⟩ = some (.slice h.bp h.bn h.bc) := fun o => (hC.st.alloc o).dsk 2
      have q3 : wr.cell? ⟨w.heap.size, 3, none⟩ = some (.slice h.sp h.sn h.sc) := hC.st.dsk 3
      have q3' : ∀ o, (wr.alloc o).cell? ⟨w.heap.size, 3, none⟩ = some (.slice h.sp h.sn h.sc) := fun o => (hC.st.alloc o).dsk 3
      have q4 : wr.cell? ⟨w.heap.size, 4, none⟩ = some (.slice ps S.length cs) := hC.st.dsk 4
      have q4' : ∀ o, (wr.alloc o).cell? ⟨w.heap.size, 4, none⟩ = some (.slice ps S.length cs) := fun o => (hC.st.alloc o).dsk 4
      have q5 : wr.cell? ⟨w.heap.size, 5, none⟩ = some (.slice h.wp h.wn h.wc) := hC.st.dsk 5
      have q5' : ∀ o, (wr.alloc o).cell? ⟨w.heap.size, 5, none⟩ = some (.slice h.wp h.wn h.wc) := fun o => (hC.st.alloc o).dsk 5
      clear hlast hC d5
      go_wp2_with (first
        | (refine wpl_appendK elF _ rfl (.tmp 34) (.tmp 36) rfl wr.heap.size rfl HO0.out ps S.length cs (S.flatMap encF) (HC.out.rf.safe.len) rfl (HC.out.rf.safe.at_.of_below HB0.out) (HC.out.rf.safe.nilp (by decide)) (flat_one encF encF_one S) (by have := HSL.out; omega) HB0.out.size ?_
           rintro v4 w4 hO4 hg4 _
           rw [Nat.zero_add, List.nil_append] at hO4
           have hB4 := HB0.out.grown hg4 HB0.out.size (fun g hg => (HO0.out.lt g hg).1)
           have hs4 := HC.out.st.next hB4
           obtain ⟨p4, c4, e4, -, -, -⟩ := own_shape hO4
           subst e4
           have k0 : w4.cell? ⟨w.heap.size, 0, none⟩ = some (.int .i64 m.room) := hs4.dsk 0
           have k1 : w4.cell? ⟨w.heap.size, 1, none⟩ = some (.int .i64 m.count) := hs4.dsk 1
           have k2 : w4.cell? ⟨w.heap.size, 2, none⟩ = some (.slice h.bp h.bn h.bc) := hs4.dsk 2
           have k3 : w4.cell? ⟨w.heap.size, 3, none⟩ = some (.slice h.sp h.sn h.sc) := hs4.dsk 3
           have k4 : w4.cell? ⟨w.heap.size, 4, none⟩ = some (.slice ps S.length cs) := hs4.dsk 4
           have k5 : w4.cell? ⟨w.heap.size, 5, none⟩ = some (.slice h.wp h.wn h.wc) := hs4.dsk 5
           have kf3 := hs4.free 3
           have kf5 := hs4.free 5
           have r0 : w4.cell? ⟨w.heap.size + 1, 0, none⟩ = some (.int .i64 0) := hs4.res 0
           have r1 : w4.cell? ⟨w.heap.size + 1, 1, none⟩ = some (.int .i64 0) := hs4.res 1
           have r2 : w4.cell? ⟨w.heap.size + 1, 2, none⟩ = some (.slice none 0 0) := hs4.res 2
           have r3 : w4.cell? ⟨w.heap.size + 1, 3, none⟩ = some (.slice none 0 0) := hs4.res 3
           have r4 : w4.cell? ⟨w.heap.size + 1, 4, none⟩ = some (.slice none 0 0) := hs4.res 4
           have r5 : w4.cell? ⟨w.heap.size + 1, 5, none⟩ = some (.slice none 0 0) := hs4.res 5
           have zf0 := hs4.rfree 0
           have zf1 := hs4.rfree 1
           have zf2 := hs4.rfree 2
           have zf3 := hs4.rfree 3
           have zf4 := hs4.rfree 4
           have zf5 := hs4.rfree 5
           have hs5 := (hs4.set 3 (by show 3 < 6; decide) (.slice p4 S.length c4)).set 5 (by show 5 < 6; decide) (.slice none 0 0)
           have HC6 := Lib.hid (put6_cell (.int .i64 m.room) (.int .i64 m.count) (.slice h.bp h.bn h.bc) (.slice p4 S.length c4) (.slice ps S.length cs) (.slice none 0 0) hs5.res)
           have HB6 := Lib.hid (put6_below (b := w.heap.size + 1) (.int .i64 m.room) (.int .i64 m.count) (.slice h.bp h.bn h.bc) (.slice p4 S.length c4) (.slice ps S.length cs) (.slice none 0 0) hs5.bel (by omega))
           have HR := Lib.hid ((RfG.set (j := 3) (v := .slice p4 S.length c4) (show RfG (G2 G w.heap.size) w4 { m with safe := S, seen := S, waits := [] } ⟨h.bp, h.bn, h.bc, p4, S.length, c4, ps, S.length, cs, none, 0, 0⟩ from ⟨(HC.out.rf.of_below hB4).bodies, LsG.fresh hO4 (fun c hc => by have := HC.out.st.size; exact ⟨HG.out c (by omega), by omega, by omega⟩), (HC.out.rf.of_below hB4).safe, LsG.void _ _ _⟩)).set 5 (.slice none 0 0))
           clear hO4 hg4 hB4 hs4 hs5))
      refine bodyPost_ret (v := .agg #[.int .i64 m.room, .int .i64 m.count, .slice h.bp h.bn h.bc, .slice p4 S.length c4, .slice ps S.length cs, .slice none 0 0]) ?_ rfl ?_
      · have e := HC6.out
        unfold put6 at e
        obtain ⟨e0, e1, e2, e3, e4, e5⟩ := e
        simp [results, Tryz.f20, go_sem, e0, e1, e2, e3, e4, e5]
      · have hL := HLA.out
        refine ⟨⟨h.bp, h.bn, h.bc, p4, S.length, c4, ps, S.length, cs, none, 0, 0⟩, by rw [hL], by rw [hL]; exact HR.out.out6 _ _ _ _ _ _, HB6.out⟩
end Go.Proofs.YtjglgohchhdkkaaGreatDoor
