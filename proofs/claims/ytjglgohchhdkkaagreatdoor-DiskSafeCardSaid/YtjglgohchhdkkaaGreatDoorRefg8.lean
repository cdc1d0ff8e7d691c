/- The reference's change, walked. -/
import Derived.Test.YtjglgohchhdkkaaGreatDoorReff8
set_option linter.unusedSimpArgs false
set_option linter.unusedVariables false
namespace Go.Proofs.YtjglgohchhdkkaaGreatDoor
open Go Go.RowKit

/-- Copies of lists may lie behind. -/
theorem LsG.fresh {G : Nat → Prop} {w : World} {E : TypeId} {base n k : Nat} {p : Option Addr} {cap : Nat} {cs : List Value} (h : w.ownsRow base E k (.slice p n cap) n cs) (hG : ∀ c, base ≤ c → G c) : LsG G w p n cap k cs := by
  obtain ⟨p', cap', e, h1⟩ := LsG.own (G := G) h hG
  injection e with e1 e2 e3
  subst e1 e3
  exact h1
/-- A store into the first box leaves such a list alone. -/
theorem own_far {w u : World} {E : TypeId} {k n : Nat} {v : Value} {cs : List Value} {j : Nat} {x : Value} (h : u.ownsRow (w.heap.size + 3) E k v n cs) : (u.setCell ⟨w.heap.size, j, none⟩ x).ownsRow (w.heap.size + 3) E k v n cs :=
  own_keep h fun g hg => Below.heap_setCell u _ x g (by have := (h.lt g hg).1; show g ≠ w.heap.size; omega)
set_option maxRecDepth 100000 in
set_option maxHeartbeats 4000000 in
theorem refChange_any (G : Nat → Prop) (m : Dk) (h : Hd) (c : Ch) (hc : ChOk c) (hsh : ShortF m.seen) (hn : h.sn < 90000) (hwn : h.wn < 90000) (w : World) (hG : ∀ k, w.heap.size ≤ k → G k) (r : RfG G w m h) :
    Calls Tryz.prog 37 #[aggD m h, aggC c] w fun e w' => ∃ h', e = .returned (aggD (changeL m c) h') ∧ RfG G w' (changeL m c) h' ∧ Below w.heap.size w w' := by
  have hst := st9_start w m h c
  have R := Lib.hid r
  have HG := Lib.hid hG
  have HDO := Lib.hid (fun (u : World) (q : Option Addr) (cap : Nat) (own : OwnF u (w.heap.size + 3) (.slice q h.sn cap) m.seen) (hN : w.heap.size + 3 ≤ u.heap.size) => refDo_any c hc m.seen hsh q h.sn cap (w.heap.size + 3) u (by omega) own hN)
  have HWN := Lib.hid hwn
  have HSN := Lib.hid hn
  obtain ⟨bp, bn, bc, sp, sn, sc, fp, fn, fc, wp, wn, wc⟩ := h
  obtain ⟨room, count, bodies, seen, safe, waits⟩ := m
  obtain ⟨ck, csrc, cf⟩ := c
  obtain ⟨cp, cb, cz, ct, cc⟩ := cf
  unfold aggD aggC at *
  dsimp only at *
  clear hc hsh hG r hn hwn
  go_enter Tryz.func37, Tryz.ntmps37
  go_wp2
  rename_i Q' K hK
  obtain ⟨W3, hW3⟩ : ∃ W3, ((w.alloc (.cells #[.int .i64 room, .int .i64 count, .slice bp bn bc, .slice sp sn sc, .slice fp fn fc, .slice wp wn wc] 31)).alloc (.cells #[.int .i64 (ck : Int), .string (mkS csrc), .string (mkS cp), .int .i64 (cb : Int), .int .i64 cz, .int .i64 ct, .int .i64 cc] 86)).alloc (.cells #[.int .i64 0, .int .i64 0, .slice none 0 0, .slice none 0 0, .slice none 0 0, .slice none 0 0] 31) = W3 := ⟨_, rfl⟩
  have hst3 : St9 w (lisD ⟨room, count, bodies, seen, safe, waits⟩ ⟨bp, bn, bc, sp, sn, sc, fp, fn, fc, wp, wn, wc⟩) ⟨ck, csrc, ⟨cp, cb, cz, ct, cc⟩⟩ W3 := by rw [← hW3]; exact hst
  rw [hW3]
  clear hst hW3
  have a3 : W3.cell? ⟨w.heap.size, 3, none⟩ = some (.slice sp sn sc) := hst3.dsk 3
  have a3' : ∀ o, (W3.alloc o).cell? ⟨w.heap.size, 3, none⟩ = some (.slice sp sn sc) := fun o => (hst3.alloc o).dsk 3
  have g0 : W3.cell? ⟨w.heap.size + 1, 0, none⟩ = some (.int .i64 (ck : Int)) := hst3.chg 0
  have g0' : ∀ o, (W3.alloc o).cell? ⟨w.heap.size + 1, 0, none⟩ = some (.int .i64 (ck : Int)) := fun o => (hst3.alloc o).chg 0
  have g1 : W3.cell? ⟨w.heap.size + 1, 1, none⟩ = some (.string (mkS csrc)) := hst3.chg 1
  have g1' : ∀ o, (W3.alloc o).cell? ⟨w.heap.size + 1, 1, none⟩ = some (.string (mkS csrc)) := fun o => (hst3.alloc o).chg 1
  have g2 : W3.cell? ⟨w.heap.size + 1, 2, none⟩ = some (.string (mkS cp)) := hst3.chg 2
  have g2' : ∀ o, (W3.alloc o).cell? ⟨w.heap.size + 1, 2, none⟩ = some (.string (mkS cp)) := fun o => (hst3.alloc o).chg 2
  have g3 : W3.cell? ⟨w.heap.size + 1, 3, none⟩ = some (.int .i64 (cb : Int)) := hst3.chg 3
  have g3' : ∀ o, (W3.alloc o).cell? ⟨w.heap.size + 1, 3, none⟩ = some (.int .i64 (cb : Int)) := fun o => (hst3.alloc o).chg 3
  have g4 : W3.cell? ⟨w.heap.size + 1, 4, none⟩ = some (.int .i64 cz) := hst3.chg 4
  have g4' : ∀ o, (W3.alloc o).cell? ⟨w.heap.size + 1, 4, none⟩ = some (.int .i64 cz) := fun o => (hst3.alloc o).chg 4
  have g5 : W3.cell? ⟨w.heap.size + 1, 5, none⟩ = some (.int .i64 ct) := hst3.chg 5
  have g5' : ∀ o, (W3.alloc o).cell? ⟨w.heap.size + 1, 5, none⟩ = some (.int .i64 ct) := fun o => (hst3.alloc o).chg 5
  have g6 : W3.cell? ⟨w.heap.size + 1, 6, none⟩ = some (.int .i64 cc) := hst3.chg 6
  have g6' : ∀ o, (W3.alloc o).cell? ⟨w.heap.size + 1, 6, none⟩ = some (.int .i64 cc) := fun o => (hst3.alloc o).chg 6
  have HK1 : ∀ (t5 t6 t7 t8 t9 t10 t11 : Value) (u : World) (p3 : Option Addr) (c3 : Nat),
      St9 w [.int .i64 room, .int .i64 count, .slice bp bn bc, .slice p3 (doL seen ⟨ck, csrc, ⟨cp, cb, cz, ct, cc⟩⟩).length c3, .slice fp fn fc, .slice wp wn wc] ⟨ck, csrc, ⟨cp, cb, cz, ct, cc⟩⟩ u →
      OwnF u (w.heap.size + 3) (.slice p3 (doL seen ⟨ck, csrc, ⟨cp, cb, cz, ct, cc⟩⟩).length c3) (doL seen ⟨ck, csrc, ⟨cp, cb, cz, ct, cc⟩⟩) →
      K { tmps := #[.agg #[.int .i64 room, .int .i64 count, .slice bp bn bc, .slice sp sn sc, .slice fp fn fc, .slice wp wn wc], .agg #[.int .i64 (ck : Int), .string (mkS csrc), .string (mkS cp), .int .i64 (cb : Int), .int .i64 cz, .int .i64 ct, .int .i64 cc], .pointer (some ⟨w.heap.size, 0, none⟩), .pointer (some ⟨w.heap.size + 1, 0, none⟩), .pointer (some ⟨w.heap.size + 1 + 1, 0, none⟩), t5, t6, t7, t8, t9, t10, t11, undef, undef, undef, undef, undef, undef, undef, undef, undef], defers := [] } u := by
    intro t5 t6 t7 t8 t9 t10 t11 u p3 c3 hs hown
    refine hK _ _ ?_
    refine wp_seq_k fun K2 hK2 => ?_
    have HK2 : ∀ (t12 t13 t14 t15 t16 t17 t18 t19 : Value) (u5 : World) (p5 : Option Addr) (c5 : Nat),
        St9 w [.int .i64 room, .int .i64 count, .slice bp bn bc, .slice p3 (doL seen ⟨ck, csrc, ⟨cp, cb, cz, ct, cc⟩⟩).length c3, .slice fp fn fc, .slice p5 (wn + 1) c5] ⟨ck, csrc, ⟨cp, cb, cz, ct, cc⟩⟩ u5 →
        OwnF u5 (w.heap.size + 3) (.slice p3 (doL seen ⟨ck, csrc, ⟨cp, cb, cz, ct, cc⟩⟩).length c3) (doL seen ⟨ck, csrc, ⟨cp, cb, cz, ct, cc⟩⟩) →
        u5.ownsRow (w.heap.size + 3) 86 7 (.slice p5 (wn + 1) c5) (wn + 1) (waits.flatMap encC ++ encC ⟨ck, csrc, ⟨cp, cb, cz, ct, cc⟩⟩) →
        K2 { tmps := #[.agg #[.int .i64 room, .int .i64 count, .slice bp bn bc, .slice sp sn sc, .slice fp fn fc, .slice wp wn wc], .agg #[.int .i64 (ck : Int), .string (mkS csrc), .string (mkS cp), .int .i64 (cb : Int), .int .i64 cz, .int .i64 ct, .int .i64 cc], .pointer (some ⟨w.heap.size, 0, none⟩), .pointer (some ⟨w.heap.size + 1, 0, none⟩), .pointer (some ⟨w.heap.size + 1 + 1, 0, none⟩), t5, t6, t7, t8, t9, t10, t11, t12, t13, t14, t15, t16, t17, t18, t19, undef], defers := [] } u5 := by
      intro t12 t13 t14 t15 t16 t17 t18 t19 u5 p5 c5 hs5 hof hoc
      refine hK2 _ _ ?_
      have d0 : u5.cell? ⟨w.heap.size, 0, none⟩ = some (.int .i64 room) := hs5.dsk 0
      have d1 : u5.cell? ⟨w.heap.size, 1, none⟩ = some (.int .i64 count) := hs5.dsk 1
      have d2 : u5.cell? ⟨w.heap.size, 2, none⟩ = some (.slice bp bn bc) := hs5.dsk 2
      have d3 : u5.cell? ⟨w.heap.size, 3, none⟩ = some (.slice p3 (doL seen ⟨ck, csrc, ⟨cp, cb, cz, ct, cc⟩⟩).length c3) := hs5.dsk 3
      have d4 : u5.cell? ⟨w.heap.size, 4, none⟩ = some (.slice fp fn fc) := hs5.dsk 4
      have d5 : u5.cell? ⟨w.heap.size, 5, none⟩ = some (.slice p5 (wn + 1) c5) := hs5.dsk 5
      have r0 : u5.cell? ⟨w.heap.size + 1 + 1, 0, none⟩ = some (.int .i64 0) := hs5.res 0
      have r1 : u5.cell? ⟨w.heap.size + 1 + 1, 1, none⟩ = some (.int .i64 0) := hs5.res 1
      have r2 : u5.cell? ⟨w.heap.size + 1 + 1, 2, none⟩ = some (.slice none 0 0) := hs5.res 2
      have r3 : u5.cell? ⟨w.heap.size + 1 + 1, 3, none⟩ = some (.slice none 0 0) := hs5.res 3
      have r4 : u5.cell? ⟨w.heap.size + 1 + 1, 4, none⟩ = some (.slice none 0 0) := hs5.res 4
      have r5 : u5.cell? ⟨w.heap.size + 1 + 1, 5, none⟩ = some (.slice none 0 0) := hs5.res 5
      have z0 := hs5.rfree 0
      have z1 := hs5.rfree 1
      have z2 := hs5.rfree 2
      have z3 := hs5.rfree 3
      have z4 := hs5.rfree 4
      have z5 := hs5.rfree 5
      have HC6 := Lib.hid (put6_cell (.int .i64 room) (.int .i64 count) (.slice bp bn bc) (.slice p3 (doL seen ⟨ck, csrc, ⟨cp, cb, cz, ct, cc⟩⟩).length c3) (.slice fp fn fc) (.slice p5 (wn + 1) c5) hs5.res)
      have HB6 := Lib.hid (put6_below (b := w.heap.size + 1 + 1) (.int .i64 room) (.int .i64 count) (.slice bp bn bc) (.slice p3 (doL seen ⟨ck, csrc, ⟨cp, cb, cz, ct, cc⟩⟩).length c3) (.slice fp fn fc) (.slice p5 (wn + 1) c5) hs5.bel (by omega))
      have far : ∀ {E : TypeId} {k n : Nat} {v : Value} {cs : List Value}, u5.ownsRow (w.heap.size + 3) E k v n cs → (put6 u5 (w.heap.size + 1 + 1) (.int .i64 room) (.int .i64 count) (.slice bp bn bc) (.slice p3 (doL seen ⟨ck, csrc, ⟨cp, cb, cz, ct, cc⟩⟩).length c3) (.slice fp fn fc) (.slice p5 (wn + 1) c5)).ownsRow (w.heap.size + 3) E k v n cs := fun h => own_keep h fun g hg => put6_heap _ _ _ _ _ _ _ _ (by have := (h.lt g hg).1; omega)
      have HF6 := Lib.hid (far hof)
      have HO6 := Lib.hid (far hoc)
      clear far hof hoc hs5
      go_wp2
      refine bodyPost_ret (v := .agg #[.int .i64 room, .int .i64 count, .slice bp bn bc, .slice p3 (doL seen ⟨ck, csrc, ⟨cp, cb, cz, ct, cc⟩⟩).length c3, .slice fp fn fc, .slice p5 (wn + 1) c5]) ?_ rfl ?_
      · have e := HC6.out
        unfold put6 at e
        obtain ⟨e0, e1, e2, e3, e4, e5⟩ := e
        simp [results, Tryz.f37, go_sem, e0, e1, e2, e3, e4, e5]
      · refine ⟨⟨bp, bn, bc, p3, (doL seen ⟨ck, csrc, ⟨cp, cb, cz, ct, cc⟩⟩).length, c3, fp, fn, fc, p5, wn + 1, c5⟩, rfl, ?_, HB6.out⟩
        refine ⟨R.out.bodies.of_below HB6.out, LsG.fresh HF6.out (fun k hk => HG.out k (by omega)), R.out.safe.of_below HB6.out, ?_⟩
        have := LsG.fresh (G := G) HO6.out (fun k hk => HG.out k (by omega))
        show LsG G _ p5 (wn + 1) c5 7 ((waits ++ [(⟨ck, csrc, ⟨cp, cb, cz, ct, cc⟩⟩ : Ch)]).flatMap encC)
        have e7 : (waits ++ [(⟨ck, csrc, ⟨cp, cb, cz, ct, cc⟩⟩ : Ch)]).flatMap encC = waits.flatMap encC ++ encC ⟨ck, csrc, ⟨cp, cb, cz, ct, cc⟩⟩ := by simp [List.flatMap_append]
        rw [e7]
        exact this
    have g0 : u.cell? ⟨w.heap.size + 1, 0, none⟩ = some (.int .i64 (ck : Int)) := hs.chg 0
    have g0' : ∀ o, (u.alloc o).cell? ⟨w.heap.size + 1, 0, none⟩ = some (.int .i64 (ck : Int)) := fun o => (hs.alloc o).chg 0
    have g1 : u.cell? ⟨w.heap.size + 1, 1, none⟩ = some (.string (mkS csrc)) := hs.chg 1
    have g1' : ∀ o, (u.alloc o).cell? ⟨w.heap.size + 1, 1, none⟩ = some (.string (mkS csrc)) := fun o => (hs.alloc o).chg 1
    have g2 : u.cell? ⟨w.heap.size + 1, 2, none⟩ = some (.string (mkS cp)) := hs.chg 2
    have g2' : ∀ o, (u.alloc o).cell? ⟨w.heap.size + 1, 2, none⟩ = some (.string (mkS cp)) := fun o => (hs.alloc o).chg 2
    have g3 : u.cell? ⟨w.heap.size + 1, 3, none⟩ = some (.int .i64 (cb : Int)) := hs.chg 3
    have g3' : ∀ o, (u.alloc o).cell? ⟨w.heap.size + 1, 3, none⟩ = some (.int .i64 (cb : Int)) := fun o => (hs.alloc o).chg 3
    have g4 : u.cell? ⟨w.heap.size + 1, 4, none⟩ = some (.int .i64 cz) := hs.chg 4
    have g4' : ∀ o, (u.alloc o).cell? ⟨w.heap.size + 1, 4, none⟩ = some (.int .i64 cz) := fun o => (hs.alloc o).chg 4
    have g5 : u.cell? ⟨w.heap.size + 1, 5, none⟩ = some (.int .i64 ct) := hs.chg 5
    have g5' : ∀ o, (u.alloc o).cell? ⟨w.heap.size + 1, 5, none⟩ = some (.int .i64 ct) := fun o => (hs.alloc o).chg 5
    have g6 : u.cell? ⟨w.heap.size + 1, 6, none⟩ = some (.int .i64 cc) := hs.chg 6
    have g6' : ∀ o, (u.alloc o).cell? ⟨w.heap.size + 1, 6, none⟩ = some (.int .i64 cc) := fun o => (hs.alloc o).chg 6
    have a5 : u.cell? ⟨w.heap.size, 5, none⟩ = some (.slice wp wn wc) := hs.dsk 5
    have a5' : ∀ o, (u.alloc o).cell? ⟨w.heap.size, 5, none⟩ = some (.slice wp wn wc) := fun o => (hs.alloc o).dsk 5
    have a5'' : ∀ o o', ((u.alloc o).alloc o').cell? ⟨w.heap.size, 5, none⟩ = some (.slice wp wn wc) := fun o o' => ((hs.alloc o).alloc o').dsk 5
    have HE1 := Lib.hid (show ((u.alloc (.cells #[] 86)).drew).ownsRow u.heap.size 86 7 (.slice (some ⟨u.heap.size, 0, none⟩) 0 0) 0 [] from own_empty u u.heap.size (Nat.le_refl _))
    have HE2 := Lib.hid (show (((u.alloc (.cells #[] 86)).alloc (.cells #[.int .i64 (ck : Int), .string (mkS csrc), .string (mkS cp), .int .i64 (cb : Int), .int .i64 cz, .int .i64 ct, .int .i64 cc] 86)).drew).ownsRow u.heap.size 86 7 (.slice (some ⟨u.heap.size, 0, none⟩) 0 0) 0 [] from own_below HE1.out (show Below _ _ _ from (Below.refl _ _).alloc (Nat.le_refl _) _))
    have HE3 := Lib.hid (show (((u.alloc (.cells #[.int .i64 (ck : Int), .string (mkS csrc), .string (mkS cp), .int .i64 (cb : Int), .int .i64 cz, .int .i64 ct, .int .i64 cc] 86)).alloc (.cells #[] 86)).drew).ownsRow u.heap.size 86 7 (.slice (some ⟨u.heap.size + 1, 0, none⟩) 0 0) 0 [] from by have := own_empty (E := 86) (k := 7) (u.alloc (.cells #[.int .i64 (ck : Int), .string (mkS csrc), .string (mkS cp), .int .i64 (cb : Int), .int .i64 cz, .int .i64 ct, .int .i64 cc] 86)) u.heap.size (by simp); rw [World.size_alloc] at this; exact this)
    have HZ1 := Lib.hid (show Below u.heap.size u (u.alloc (.cells #[] 86)).drew from ((Below.refl _ _).alloc (Nat.le_refl _) _).drew)
    have HZ2 := Lib.hid (show Below u.heap.size u ((u.alloc (.cells #[] 86)).alloc (.cells #[.int .i64 (ck : Int), .string (mkS csrc), .string (mkS cp), .int .i64 (cb : Int), .int .i64 cz, .int .i64 ct, .int .i64 cc] 86)).drew from (((Below.refl _ _).alloc (Nat.le_refl _) _).alloc (by simp) _).drew)
    have HZ3 := Lib.hid (show Below u.heap.size u ((u.alloc (.cells #[.int .i64 (ck : Int), .string (mkS csrc), .string (mkS cp), .int .i64 (cb : Int), .int .i64 cz, .int .i64 ct, .int .i64 cc] 86)).alloc (.cells #[] 86)).drew from (((Below.refl _ _).alloc (Nat.le_refl _) _).alloc (by simp) _).drew)
    have HM2 := Lib.hid (show LsC ((u.alloc (.cells #[] 86)).alloc (.cells #[.int .i64 (ck : Int), .string (mkS csrc), .string (mkS cp), .int .i64 (cb : Int), .int .i64 cz, .int .i64 ct, .int .i64 cc] 86)).drew (some ⟨u.heap.size + 1, 0, none⟩) (encC ⟨ck, csrc, ⟨cp, cb, cz, ct, cc⟩⟩) from by have := LsC.made (u.alloc (.cells #[] 86)) (encC ⟨ck, csrc, ⟨cp, cb, cz, ct, cc⟩⟩) 86; rw [World.size_alloc] at this; exact this)
    have HM3 := Lib.hid (show LsC ((u.alloc (.cells #[.int .i64 (ck : Int), .string (mkS csrc), .string (mkS cp), .int .i64 (cb : Int), .int .i64 cz, .int .i64 ct, .int .i64 cc] 86)).alloc (.cells #[] 86)).drew (some ⟨u.heap.size, 0, none⟩) (encC ⟨ck, csrc, ⟨cp, cb, cz, ct, cc⟩⟩) from (LsC.made u (encC ⟨ck, csrc, ⟨cp, cb, cz, ct, cc⟩⟩) 86).of_below (((Below.refl _ _).alloc (Nat.le_refl _) _).drew))
    have HST := Lib.hid hs
    have HOF := Lib.hid hown
    have MADE := Lib.hid (fun (x : World) => (show LsC (x.alloc (.cells #[.int .i64 (ck : Int), .string (mkS csrc), .string (mkS cp), .int .i64 (cb : Int), .int .i64 cz, .int .i64 ct, .int .i64 cc] 86)) (some ⟨x.heap.size, 0, none⟩) (encC ⟨ck, csrc, ⟨cp, cb, cz, ct, cc⟩⟩) from LsC.made x (encC ⟨ck, csrc, ⟨cp, cb, cz, ct, cc⟩⟩) 86))
    clear hs hown
    go_region_law (first
      | (refine step_appendK elC _ rfl (.tmp 12) (.tmp 14) rfl u.heap.size rfl HE1.out wp wn wc (waits.flatMap encC) (R.out.waits.len) rfl (R.out.waits.at_.of_below (HST.out.bel.trans (HZ1.out.mono HST.out.bel.size))) (R.out.waits.nilp (by decide)) (flat_one encC encC_one waits) (by have := HWN.out; omega) HZ1.out.size ?_
         rintro v2 u2 hO2 hg2 _
         have hB2 := HZ1.out.grown hg2 HZ1.out.size (fun g hg => (HE1.out.lt g hg).1)
         rw [Nat.zero_add, List.nil_append] at hO2
         have hs2 := HST.out.next hB2
         have k0 : u2.cell? ⟨w.heap.size + 1, 0, none⟩ = some (.int .i64 (ck : Int)) := hs2.chg 0
         have k1 : u2.cell? ⟨w.heap.size + 1, 1, none⟩ = some (.string (mkS csrc)) := hs2.chg 1
         have k2 : u2.cell? ⟨w.heap.size + 1, 2, none⟩ = some (.string (mkS cp)) := hs2.chg 2
         have k3 : u2.cell? ⟨w.heap.size + 1, 3, none⟩ = some (.int .i64 (cb : Int)) := hs2.chg 3
         have k4 : u2.cell? ⟨w.heap.size + 1, 4, none⟩ = some (.int .i64 cz) := hs2.chg 4
         have k5 : u2.cell? ⟨w.heap.size + 1, 5, none⟩ = some (.int .i64 ct) := hs2.chg 5
         have k6 : u2.cell? ⟨w.heap.size + 1, 6, none⟩ = some (.int .i64 cc) := hs2.chg 6
         obtain ⟨p2, cap2, e2, -, -, -⟩ := own_shape hO2
         subst e2
         have HMS := Lib.hid (MADE.out u2)
         have HOS := Lib.hid (own_below (w' := u2.alloc (.cells #[.int .i64 (ck : Int), .string (mkS csrc), .string (mkS cp), .int .i64 (cb : Int), .int .i64 cz, .int .i64 ct, .int .i64 cc] 86)) hO2 ((Below.refl _ _).alloc (Nat.le_refl _) _))
         have HBS := Lib.hid (show Below u.heap.size u (u2.alloc (.cells #[.int .i64 (ck : Int), .string (mkS csrc), .string (mkS cp), .int .i64 (cb : Int), .int .i64 cz, .int .i64 ct, .int .i64 cc] 86)) from hB2.alloc hB2.size _)
         clear hO2 hg2 hs2 hB2)
      | (refine step_appendK elC _ rfl (.tmp 12) (.tmp 14) rfl u.heap.size rfl HE2.out wp wn wc (waits.flatMap encC) (R.out.waits.len) rfl (R.out.waits.at_.of_below (HST.out.bel.trans (HZ2.out.mono HST.out.bel.size))) (R.out.waits.nilp (by decide)) (flat_one encC encC_one waits) (by have := HWN.out; omega) HZ2.out.size ?_
         rintro v2 u2 hO2 hg2 _
         have hB2 := HZ2.out.grown hg2 HZ2.out.size (fun g hg => (HE2.out.lt g hg).1)
         have hgl : World.grownBy _ u2 (some u.heap.size) := hg2
         have HMS := Lib.hid (HM2.out.keep (w' := u2) (fun c o e hc => by injection e with e; injection e with e1 e2; subst e1; exact hgl.block _ hc (by simp)))
         clear hgl
         rw [Nat.zero_add, List.nil_append] at hO2
         have hs2 := HST.out.next hB2
         have k0 : u2.cell? ⟨w.heap.size + 1, 0, none⟩ = some (.int .i64 (ck : Int)) := hs2.chg 0
         have k1 : u2.cell? ⟨w.heap.size + 1, 1, none⟩ = some (.string (mkS csrc)) := hs2.chg 1
         have k2 : u2.cell? ⟨w.heap.size + 1, 2, none⟩ = some (.string (mkS cp)) := hs2.chg 2
         have k3 : u2.cell? ⟨w.heap.size + 1, 3, none⟩ = some (.int .i64 (cb : Int)) := hs2.chg 3
         have k4 : u2.cell? ⟨w.heap.size + 1, 4, none⟩ = some (.int .i64 cz) := hs2.chg 4
         have k5 : u2.cell? ⟨w.heap.size + 1, 5, none⟩ = some (.int .i64 ct) := hs2.chg 5
         have k6 : u2.cell? ⟨w.heap.size + 1, 6, none⟩ = some (.int .i64 cc) := hs2.chg 6
         obtain ⟨p2, cap2, e2, -, -, -⟩ := own_shape hO2
         subst e2
         have HOS := Lib.hid hO2
         have HBS := Lib.hid hB2
         clear hO2 hg2 hs2 hB2)
      | (refine step_appendK elC _ rfl (.tmp 12) (.tmp 14) rfl u.heap.size rfl HE3.out wp wn wc (waits.flatMap encC) (R.out.waits.len) rfl (R.out.waits.at_.of_below (HST.out.bel.trans (HZ3.out.mono HST.out.bel.size))) (R.out.waits.nilp (by decide)) (flat_one encC encC_one waits) (by have := HWN.out; omega) HZ3.out.size ?_
         rintro v2 u2 hO2 hg2 _
         have hB2 := HZ3.out.grown hg2 HZ3.out.size (fun g hg => (HE3.out.lt g hg).1)
         have hgl : World.grownBy _ u2 (some (u.heap.size + 1)) := hg2
         have HMS := Lib.hid (HM3.out.keep (w' := u2) (fun c o e hc => by injection e with e; injection e with e1 e2; subst e1; exact hgl.block _ hc (by simp)))
         clear hgl
         rw [Nat.zero_add, List.nil_append] at hO2
         have hs2 := HST.out.next hB2
         have k0 : u2.cell? ⟨w.heap.size + 1, 0, none⟩ = some (.int .i64 (ck : Int)) := hs2.chg 0
         have k1 : u2.cell? ⟨w.heap.size + 1, 1, none⟩ = some (.string (mkS csrc)) := hs2.chg 1
         have k2 : u2.cell? ⟨w.heap.size + 1, 2, none⟩ = some (.string (mkS cp)) := hs2.chg 2
         have k3 : u2.cell? ⟨w.heap.size + 1, 3, none⟩ = some (.int .i64 (cb : Int)) := hs2.chg 3
         have k4 : u2.cell? ⟨w.heap.size + 1, 4, none⟩ = some (.int .i64 cz) := hs2.chg 4
         have k5 : u2.cell? ⟨w.heap.size + 1, 5, none⟩ = some (.int .i64 ct) := hs2.chg 5
         have k6 : u2.cell? ⟨w.heap.size + 1, 6, none⟩ = some (.int .i64 cc) := hs2.chg 6
         obtain ⟨p2, cap2, e2, -, -, -⟩ := own_shape hO2
         subst e2
         have HOS := Lib.hid hO2
         have HBS := Lib.hid hB2
         clear hO2 hg2 hs2 hB2)
      | (refine step_appendK elC _ rfl (.tmp 15) (.tmp 17) rfl u.heap.size rfl HOS.out (some _) 1 1 (encC ⟨ck, csrc, ⟨cp, cb, cz, ct, cc⟩⟩) rfl rfl HMS.out (fun e => by cases e) (encC_one _) (by have := HWN.out; omega) HBS.out.size ?_
         rintro v4 u4 hO4 hg4 _
         have hB4 := HBS.out.grown hg4 HBS.out.size (fun g hg => (HOS.out.lt g hg).1)
         have hs4 := HST.out.next hB4
         have b5 : u4.cell? ⟨w.heap.size, 5, none⟩ = some (.slice wp wn wc) := hs4.dsk 5
         have b5f : u4.frozen? ⟨w.heap.size, 5, none⟩ = false := hs4.free 5
         replace hO4 := own_lower hO4 HST.out.size
         obtain ⟨p4, c4, e4, -, -, -⟩ := own_shape hO4
         subst e4
         have HS4 := Lib.hid (hs4.set 5 (by show 5 < 6; decide) (.slice p4 (wn + 1) c4))
         have HO4 := Lib.hid (own_far (j := 5) (x := .slice p4 (wn + 1) c4) hO4)
         have HF4 := Lib.hid (show OwnF _ _ _ _ from own_far (j := 5) (x := .slice p4 (wn + 1) c4) (own_below HOF.out hB4))
         clear hO4 hg4 hs4 hB4))
    all_goals exact HK2 _ _ _ _ _ _ _ _ _ p4 c4 HS4.out HF4.out HO4.out
  have H0 := Lib.hid (show ((W3.alloc (.cells #[] 71)).drew).ownsRow W3.heap.size 71 5 (.slice (some ⟨W3.heap.size, 0, none⟩) 0 0) 0 [] from own_empty W3 W3.heap.size (Nat.le_refl _))
  have HZ0 := Lib.hid (show Below W3.heap.size W3 (W3.alloc (.cells #[] 71)).drew from ((Below.refl _ _).alloc (Nat.le_refl _) _).drew)
  have HST := Lib.hid hst3
  have HLS := Lib.hid (show LsC (W3.alloc (.cells #[] 71)).drew sp (seen.flatMap encF) from (R.out.seen.at_.of_below ((hst3.alloc _).drew).bel))
  clear hst3
  go_region_law (first
    | (refine step_appendK elF _ rfl (.tmp 5) (.tmp 7) rfl W3.heap.size rfl H0.out sp sn sc (seen.flatMap encF) (R.out.seen.len) rfl HLS.out (R.out.seen.nilp (by decide)) (flat_one encF encF_one seen) (by have := HSN.out; omega) HZ0.out.size ?_
       rintro v2 w2 hO2 hg2 _
       rw [Nat.zero_add, List.nil_append] at hO2
       have hs2 := HST.out.next (HZ0.out.grown hg2 HZ0.out.size (fun g hg => (H0.out.lt g hg).1))
       replace hO2 := own_lower hO2 HST.out.size
       have k0 : w2.cell? ⟨w.heap.size + 1, 0, none⟩ = some (.int .i64 (ck : Int)) := hs2.chg 0
       have k1 : w2.cell? ⟨w.heap.size + 1, 1, none⟩ = some (.string (mkS csrc)) := hs2.chg 1
       have k2 : w2.cell? ⟨w.heap.size + 1, 2, none⟩ = some (.string (mkS cp)) := hs2.chg 2
       have k3 : w2.cell? ⟨w.heap.size + 1, 3, none⟩ = some (.int .i64 (cb : Int)) := hs2.chg 3
       have k4 : w2.cell? ⟨w.heap.size + 1, 4, none⟩ = some (.int .i64 cz) := hs2.chg 4
       have k5 : w2.cell? ⟨w.heap.size + 1, 5, none⟩ = some (.int .i64 ct) := hs2.chg 5
       have k6 : w2.cell? ⟨w.heap.size + 1, 6, none⟩ = some (.int .i64 cc) := hs2.chg 6
       obtain ⟨p2, cap2, e2, -, -, -⟩ := own_shape hO2
       subst e2
       have HDC := Lib.hid (HDO.out w2 p2 cap2 (by unfold OwnF; rw [R.out.sn]; exact hO2) hs2.size)
       have HS2 := Lib.hid hs2
       clear hO2 hg2 hs2)
    | (go_simp; go_at_call 42
       with_reducible refine HDC.out.mono ?_
       rintro e w3 ⟨p3, c3, rfl, hO3, hB3⟩
       have hs3 := HS2.out.next hB3
       have b3 : w3.cell? ⟨w.heap.size, 3, none⟩ = some (.slice sp sn sc) := hs3.dsk 3
       have b3f : w3.frozen? ⟨w.heap.size, 3, none⟩ = false := hs3.free 3
       have HS3 := Lib.hid (hs3.set 3 (by show 3 < 6; decide) (.slice p3 (doL seen ⟨ck, csrc, ⟨cp, cb, cz, ct, cc⟩⟩).length c3))
       have HO3 := Lib.hid (own_far (j := 3) (x := .slice p3 (doL seen ⟨ck, csrc, ⟨cp, cb, cz, ct, cc⟩⟩).length c3) hO3)
       clear hs3 hO3 hB3))
  all_goals exact HK1 _ _ _ _ _ _ _ _ p3 c3 HS3.out HO3.out
end Go.Proofs.YtjglgohchhdkkaaGreatDoor
