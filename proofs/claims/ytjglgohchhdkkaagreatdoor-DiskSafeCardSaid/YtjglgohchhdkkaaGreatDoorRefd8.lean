/- The reference's do, whatever the change: over a list of the call's own. -/
import Derived.Test.YtjglgohchhdkkaaGreatDoorRefc8
set_option linter.unusedSimpArgs false
set_option linter.unusedVariables false
namespace Go.Proofs.YtjglgohchhdkkaaGreatDoor
open Go Go.RowKit

set_option maxHeartbeats 2000000 in
theorem refDo_remove (l : List Fl) (q : Option Addr) (n cap : Nat) (src : S8) (f : Fl) (hn : n < 100000) (hs : src.length < 100000) (hsh : ShortF l) (w : World) (h : LsF w q n cap l) :
    Calls Tryz.prog 42 #[.slice q n cap, aggC ⟨3, src, f⟩] w fun e w' => ∃ v, e = .returned v ∧ OwnF w' w.heap.size v (withoutL l src false) ∧ Below w.heap.size w w' := by
  have HW := Lib.hid (without_on (N := w.heap.size) l q n cap src false (by omega) hs hsh h (Nat.le_refl _))
  have HBX := Lib.hid (show Below w.heap.size w (w.alloc (boxC 3 src f)) from (Below.refl _ _).alloc (Nat.le_refl _) _)
  generalize withoutL l src false = Y at *
  obtain ⟨x, fb, fs, ft, fc⟩ := f
  unfold aggC
  dsimp only at *
  clear hsh h
  go_enter Tryz.func42, Tryz.ntmps42
  go_wp2_with fail
  refine (HW.out _ HBX.out).mono ?_
  rintro e w2 ⟨v, rfl, hO, hB⟩
  have HO := Lib.hid hO
  have HB := Lib.hid (HBX.out.trans (hB.mono HBX.out.size))
  obtain ⟨p2, cap2, e2, -, -⟩ := hO.shape
  subst e2
  clear hO hB
  go_wp2
  go_ret
  exact ⟨_, rfl, HO.out, HB.out⟩
/-- A rename of a file that is not there. -/
theorem refDo_none (l : List Fl) (q : Option Addr) (n cap : Nat) (src : S8) (f : Fl) (hn : n < 100000) (w : World) (h : LsF w q n cap l) (hf : findL l src = none) :
    Calls Tryz.prog 42 #[.slice q n cap, aggC ⟨2, src, f⟩] w fun e w' => e = .returned (.slice q n cap) ∧ Below w.heap.size w w' := by
  have HBX := Lib.hid (show Below w.heap.size w (w.alloc (boxC 2 src f)) from (Below.refl _ _).alloc (Nat.le_refl _) _)
  have HF := Lib.hid (refFind_any l q n cap src (by omega) _ (h.of_below HBX.out))
  rw [show findI l src = -1 by unfold findI; rw [hf]] at HF
  obtain ⟨x, fb, fs, ft, fc⟩ := f
  unfold aggC
  dsimp only at *
  clear h
  go_enter Tryz.func42, Tryz.ntmps42
  go_wp2_with fail
  refine HF.out.mono ?_
  rintro e w' ⟨rfl, rfl⟩
  go_wp2
  go_ret
  exact ⟨rfl, HBX.out⟩
/-- The box of a file. -/
def boxF (f : Fl) : Obj := .cells #[.string (mkS f.p), .int .i64 (f.body : Int), .int .i64 f.size, .int .i64 f.time, .int .i64 f.chg] 71
theorem boxF_cell (w : World) (f : Fl) (j : Nat) : (w.alloc (boxF f)).cell? ⟨w.heap.size, j, none⟩ = (encF f)[j]? := by
  have h := World.alloc_heap_new w (boxF f)
  unfold boxF at *
  rw [cell_of_row _ w.heap.size j _ _ (0, 0) h]
  simp [encF]
/-- Ahead of the appending: two boxes lie behind w, the second one a file's. -/
def St8 (w : World) (X : Fl) (u : World) : Prop := Below w.heap.size w u ∧ w.heap.size + 2 ≤ u.heap.size ∧ ∀ j, u.cell? ⟨w.heap.size + 1, j, none⟩ = (encF X)[j]?
theorem St8.next {w u u' : World} {X : Fl} (h : St8 w X u) (hB : Below u.heap.size u u') : St8 w X u' :=
  ⟨h.1.trans (hB.mono h.1.size), Nat.le_trans h.2.1 hB.size, fun j => by rw [hB.cell (p := ⟨w.heap.size + 1, j, none⟩) (by show w.heap.size + 1 < _; have := h.2.1; omega)]; exact h.2.2 j⟩
theorem St8.alloc {w u : World} {X : Fl} (h : St8 w X u) (o : Obj) : St8 w X (u.alloc o) := h.next ((Below.refl _ _).alloc (Nat.le_refl _) _)
theorem St8.drew {w u : World} {X : Fl} (h : St8 w X u) : St8 w X u.drew := ⟨h.1.drew, h.2.1, h.2.2⟩
/-- without, in such a state; a slice that was built ahead stays. -/
theorem without_st {w u : World} {X : Fl} (hS : St8 w X u) (l : List Fl) (q : Option Addr) (n cap : Nat) (s : S8) (cl : Bool) (hn : n < 1000000) (hs : s.length < 100000) (hsh : ShortF l) (h : LsF u q n cap l) (g : Option Addr) (cs : List Value) (hg : LsC u g cs) :
    Calls Tryz.prog 56 #[.slice q n cap, .string (mkS s), .bool cl] u fun e w' => ∃ p c, e = .returned (.slice p (withoutL l s cl).length c) ∧ OwnF w' w.heap.size (.slice p (withoutL l s cl).length c) (withoutL l s cl) ∧ St8 w X w' ∧ LsC w' g cs :=
  (refWithout_any l q n cap s cl hn hs hsh u h).mono fun e w' ⟨v, e1, e2, e3⟩ => by
    obtain ⟨p, c, rfl, -, -⟩ := e2.shape
    exact ⟨p, c, e1, own_lower e2 hS.1.size, hS.next e3, hg.of_below e3⟩
set_option maxRecDepth 100000 in
set_option maxHeartbeats 2000000 in
theorem refDo_rename (l : List Fl) (q : Option Addr) (n cap : Nat) (src x : S8) (fz : Fl) (hn : n < 100000) (hsl : src.length < 100000) (hs : x.length ≤ 100) (hsh : ShortF l) (w : World) (h : LsF w q n cap l) (i : Nat) (hf : findL l src = some i) (hi : i < n) :
    Calls Tryz.prog 42 #[.slice q n cap, aggC ⟨2, src, { fz with p := x }⟩] w fun e w' => ∃ v, e = .returned v ∧ OwnF w' w.heap.size v (withoutL (withoutL l src false) x true ++ [{ l.getD i fl0 with p := x }]) ∧ Below w.heap.size w w' := by
  have HBX := Lib.hid (show Below w.heap.size w (w.alloc (boxC 2 src { fz with p := x })) from (Below.refl _ _).alloc (Nat.le_refl _) _)
  have HF := Lib.hid (refFind_any l q n cap src (by omega) _ (h.of_below HBX.out))
  rw [show findI l src = (i : Int) by unfold findI; rw [hf]] at HF
  have hL1 := h.of_below HBX.out
  obtain ⟨f, hfe⟩ : ∃ f, l.getD i fl0 = f := ⟨_, rfl⟩
  have hcl := fun j u (hu : (encF f)[j]? = some u) => hL1.cell (i := i) (j := j) hi (by rw [hfe]; exact hu)
  rw [hfe]
  have hY1 : ShortF (withoutL l src false) := fun j => by
    by_cases hj : j < (withoutL l src false).length
    · have hm := List.getElem_mem hj
      unfold withoutL at hm
      obtain ⟨hm, _⟩ := List.mem_filter.1 hm
      obtain ⟨j', hj', e⟩ := List.getElem_of_mem hm
      have := hsh j'
      rw [List.getD_eq_getElem?_getD, List.getElem?_eq_getElem hj'] at this
      rw [List.getD_eq_getElem?_getD, List.getElem?_eq_getElem hj]
      show ((withoutL l src false)[j]).p.length ≤ 100
      have e2 : (withoutL l src false)[j] = l[j'] := e.symm
      rw [e2]; exact this
    · rw [List.getD_eq_getElem?_getD, List.getElem?_eq_none (by omega)]; simp [fl0]
  have hle1 := withoutL_le l src false
  rw [h.len] at hle1
  have hle2 := withoutL_le (withoutL l src false) x true
  have HY := Lib.hid (And.intro hY1 hle1)
  have HX := Lib.hid (show (withoutL (withoutL l src false) x true).length + 1 < 100000000 by omega)
  have HL := Lib.hid (And.intro hsh (fun (u : World) (hu : Below w.heap.size w u) => h.of_below hu))
  obtain ⟨fp, fb, fs, ft, fc⟩ := f
  obtain ⟨_, zb, zs, zt, zc⟩ := fz
  have HBC := Lib.hid (fun j => boxC_cell w 2 src ⟨x, zb, zs, zt, zc⟩ j)
  dsimp only at *
  have hfx := fun j => boxF_cell (w.alloc (boxC 2 src ⟨x, zb, zs, zt, zc⟩)) ⟨x, fb, fs, ft, fc⟩ j
  simp only [World.size_alloc] at hfx
  have HFX := Lib.hid hfx
  clear hfx
  have HBY := Lib.hid (HBX.out.alloc HBX.out.size (boxF ⟨x, fb, fs, ft, fc⟩))
  have b2 : (w.alloc (boxC 2 src ⟨x, zb, zs, zt, zc⟩)).cell? ⟨w.heap.size, 2, none⟩ = some (.string (mkS x)) := HBC.out 2
  have b1' : ∀ o, ((w.alloc (boxC 2 src ⟨x, zb, zs, zt, zc⟩)).alloc o).cell? ⟨w.heap.size, 1, none⟩ = some (.string (mkS src)) := fun o => by
    have hB : Below (w.alloc (boxC 2 src ⟨x, zb, zs, zt, zc⟩)).heap.size (w.alloc (boxC 2 src ⟨x, zb, zs, zt, zc⟩)) ((w.alloc (boxC 2 src ⟨x, zb, zs, zt, zc⟩)).alloc o) := (Below.refl _ _).alloc (Nat.le_refl _) _
    rw [hB.cell (p := ⟨w.heap.size, 1, none⟩) (by simp)]
    exact HBC.out 1
  have HB1' := Lib.hid (b1' (boxF ⟨x, fb, fs, ft, fc⟩))
  clear b1'
  obtain ⟨c0, o0, hpe, hc0, g0⟩ := hcl 0 _ rfl
  subst hpe
  have hcl2 := fun j u (hu : (encF ⟨fp, fb, fs, ft, fc⟩)[j]? = some u) => (by
    obtain ⟨c1, o1, e1, _, h1⟩ := hcl j u hu
    injection e1 with e1
    injection e1 with e1 e2
    subst e1 e2
    rw [← Nat.add_assoc] at h1
    exact h1 : (w.alloc (boxC 2 src ⟨x, zb, zs, zt, zc⟩)).cell? ⟨c0, o0 + i * 5 + j, none⟩ = some u)
  have g1 := hcl2 1 _ rfl
  have g2 := hcl2 2 _ rfl
  have g3 := hcl2 3 _ rfl
  have g4 := hcl2 4 _ rfl
  rw [Nat.add_zero] at g0
  have z1 : (i : Int) < (n : Int) := by omega
  have z2 : ((i : Int) < 0) = False := by simp
  have z3 : decide ((i : Int) < 0) = false := decide_eq_false (by omega)
  unfold aggC
  dsimp only
  clear hcl hcl2 hsh h hL1 hfe hf hY1 hle1 hle2
  go_enter Tryz.func42, Tryz.ntmps42
  go_wp2_with fail
  refine HF.out.mono ?_
  rintro e w' ⟨rfl, rfl⟩
  go_wp2
  obtain ⟨W2, hW2⟩ : ∃ W2, (w.alloc (boxC 2 src ⟨x, zb, zs, zt, zc⟩)).alloc (.cells #[.string (mkS x), .int .i64 (fb : Int), .int .i64 fs, .int .i64 ft, .int .i64 fc] 71) = W2 := ⟨_, rfl⟩
  have s2 : W2.heap.size = w.heap.size + 2 := by rw [← hW2]; simp
  have hst : St8 w ⟨x, fb, fs, ft, fc⟩ W2 := ⟨by rw [← hW2]; exact HBY.out, by omega, fun j => by rw [← hW2]; exact HFX.out j⟩
  have p1 : W2.cell? ⟨w.heap.size, 1, none⟩ = some (.string (mkS src)) := by rw [← hW2]; exact HB1'.out
  have p0 : W2.cell? ⟨w.heap.size + 1, 0, none⟩ = some (.string (mkS x)) := hst.2.2 0
  have q1 : W2.cell? ⟨w.heap.size + 1, 1, none⟩ = some (.int .i64 (fb : Int)) := hst.2.2 1
  have q2 : W2.cell? ⟨w.heap.size + 1, 2, none⟩ = some (.int .i64 fs) := hst.2.2 2
  have q3 : W2.cell? ⟨w.heap.size + 1, 3, none⟩ = some (.int .i64 ft) := hst.2.2 3
  have q4 : W2.cell? ⟨w.heap.size + 1, 4, none⟩ = some (.int .i64 fc) := hst.2.2 4
  have p0' : ∀ o, (W2.alloc o).cell? ⟨w.heap.size + 1, 0, none⟩ = some (.string (mkS x)) := fun o => (hst.alloc o).2.2 0
  have p1' : ∀ o, (W2.alloc o).cell? ⟨w.heap.size, 1, none⟩ = some (.string (mkS src)) := fun o => by
    have hBo : Below W2.heap.size W2 (W2.alloc o) := (Below.refl _ _).alloc (Nat.le_refl _) _
    rw [hBo.cell (p := ⟨w.heap.size, 1, none⟩) (by show w.heap.size < _; omega)]
    exact p1
  have made : ∀ u : World, LsC (u.alloc (.cells #[.string (mkS x), .int .i64 (fb : Int), .int .i64 fs, .int .i64 ft, .int .i64 fc] 71)) (some ⟨u.heap.size, 0, none⟩) (encF ⟨x, fb, fs, ft, fc⟩) := fun u => LsC.made u (encF ⟨x, fb, fs, ft, fc⟩) 71
  have H1a := Lib.hid (without_st (hst.drew) l (some ⟨c0, o0, none⟩) n cap src false (by omega) hsl HL.out.1 (HL.out.2 _ hst.drew.1) none [] (LsC.nil _ _))
  have H1b := Lib.hid (without_st ((hst.alloc (.cells #[.string (mkS x), .int .i64 (fb : Int), .int .i64 fs, .int .i64 ft, .int .i64 fc] 71)).drew) l (some ⟨c0, o0, none⟩) n cap src false (by omega) hsl HL.out.1 (HL.out.2 _ (hst.alloc (.cells #[.string (mkS x), .int .i64 (fb : Int), .int .i64 fs, .int .i64 ft, .int .i64 fc] 71)).drew.1) (some ⟨W2.heap.size, 0, none⟩) (encF ⟨x, fb, fs, ft, fc⟩) (made W2))
  have H2 := Lib.hid (fun (u : World) (hS : St8 w ⟨x, fb, fs, ft, fc⟩ u) (p : Option Addr) (c : Nat) (g : Option Addr) (cs : List Value) (hg : LsC u g cs) (ho : LsF u p (withoutL l src false).length c (withoutL l src false)) => without_st hS (withoutL l src false) p (withoutL l src false).length c x true (by have := HY.out.2; omega) (by omega) HY.out.1 ho g cs hg)
  have MADE := Lib.hid made
  rw [hW2]
  clear hW2 b2 g0 g1 g2 g3 g4 hst s2 made
  generalize hY1e : withoutL l src false = Y1 at *
  have HYE := Lib.hid hY1e
  clear hY1e
  go_region_law (first
    | (go_simp; go_at_call 56
       first
         | (with_reducible refine H1a.out.mono ?_
            rintro e w2 ⟨p2, cap2, rfl, hO, hS, -⟩
            have HM2 := Lib.hid (show LsC w2 none [] from LsC.nil _ _)
            have k0 : w2.cell? ⟨w.heap.size + 1, 0, none⟩ = some (.string (mkS x)) := hS.2.2 0
            have k1 : w2.cell? ⟨w.heap.size + 1, 1, none⟩ = some (.int .i64 (fb : Int)) := hS.2.2 1
            have k2 : w2.cell? ⟨w.heap.size + 1, 2, none⟩ = some (.int .i64 fs) := hS.2.2 2
            have k3 : w2.cell? ⟨w.heap.size + 1, 3, none⟩ = some (.int .i64 ft) := hS.2.2 3
            have k4 : w2.cell? ⟨w.heap.size + 1, 4, none⟩ = some (.int .i64 fc) := hS.2.2 4
            have k0' : ∀ o, (w2.alloc o).cell? ⟨w.heap.size + 1, 0, none⟩ = some (.string (mkS x)) := fun o => (hS.alloc o).2.2 0
            obtain ⟨pp, cc, e2, hls2, -⟩ := hO.shape
            injection e2 with e2a e2b e2c
            subst e2a e2c
            have H2a := Lib.hid (H2.out w2 hS _ _ _ _ HM2.out hls2)
            have H2b := Lib.hid (H2.out (w2.alloc (.cells #[.string (mkS x), .int .i64 (fb : Int), .int .i64 fs, .int .i64 ft, .int .i64 fc] 71)) (hS.alloc (.cells #[.string (mkS x), .int .i64 (fb : Int), .int .i64 fs, .int .i64 ft, .int .i64 fc] 71)) _ _ _ _ (MADE.out w2) (hls2.of_below ((Below.refl _ _).alloc (Nat.le_refl _) _)))
            clear hS hO hls2)
         | (with_reducible refine H1b.out.mono ?_
            rintro e w2 ⟨p2, cap2, rfl, hO, hS, hM⟩
            have HM2 := Lib.hid hM
            clear hM
            have k0 : w2.cell? ⟨w.heap.size + 1, 0, none⟩ = some (.string (mkS x)) := hS.2.2 0
            have k1 : w2.cell? ⟨w.heap.size + 1, 1, none⟩ = some (.int .i64 (fb : Int)) := hS.2.2 1
            have k2 : w2.cell? ⟨w.heap.size + 1, 2, none⟩ = some (.int .i64 fs) := hS.2.2 2
            have k3 : w2.cell? ⟨w.heap.size + 1, 3, none⟩ = some (.int .i64 ft) := hS.2.2 3
            have k4 : w2.cell? ⟨w.heap.size + 1, 4, none⟩ = some (.int .i64 fc) := hS.2.2 4
            have k0' : ∀ o, (w2.alloc o).cell? ⟨w.heap.size + 1, 0, none⟩ = some (.string (mkS x)) := fun o => (hS.alloc o).2.2 0
            obtain ⟨pp, cc, e2, hls2, -⟩ := hO.shape
            injection e2 with e2a e2b e2c
            subst e2a e2c
            have H2a := Lib.hid (H2.out w2 hS _ _ _ _ HM2.out hls2)
            have H2b := Lib.hid (H2.out (w2.alloc (.cells #[.string (mkS x), .int .i64 (fb : Int), .int .i64 fs, .int .i64 ft, .int .i64 fc] 71)) (hS.alloc (.cells #[.string (mkS x), .int .i64 (fb : Int), .int .i64 fs, .int .i64 ft, .int .i64 fc] 71)) _ _ _ _ (MADE.out w2) (hls2.of_below ((Below.refl _ _).alloc (Nat.le_refl _) _)))
            clear hS hO hls2)
         | (with_reducible refine H2a.out.mono ?_
            rintro e w3 ⟨p3, cap3, rfl, hO, hS, hM⟩
            have m0 : w3.cell? ⟨w.heap.size + 1, 0, none⟩ = some (.string (mkS x)) := hS.2.2 0
            have m1 : w3.cell? ⟨w.heap.size + 1, 1, none⟩ = some (.int .i64 (fb : Int)) := hS.2.2 1
            have m2 : w3.cell? ⟨w.heap.size + 1, 2, none⟩ = some (.int .i64 fs) := hS.2.2 2
            have m3 : w3.cell? ⟨w.heap.size + 1, 3, none⟩ = some (.int .i64 ft) := hS.2.2 3
            have m4 : w3.cell? ⟨w.heap.size + 1, 4, none⟩ = some (.int .i64 fc) := hS.2.2 4
            first
              | (have HMA := Lib.hid (show LsC w3 (some _) (encF ⟨x, fb, fs, ft, fc⟩) from hM)
                 have HOA := Lib.hid hO
                 have HBA := Lib.hid hS.1)
              | (have HMA := Lib.hid (MADE.out w3)
                 have HOA := Lib.hid (own_below (w' := w3.alloc (.cells #[.string (mkS x), .int .i64 (fb : Int), .int .i64 fs, .int .i64 ft, .int .i64 fc] 71)) hO ((Below.refl _ _).alloc (Nat.le_refl _) _))
                 have HBA := Lib.hid (hS.alloc (.cells #[.string (mkS x), .int .i64 (fb : Int), .int .i64 fs, .int .i64 ft, .int .i64 fc] 71)).1)
            clear hM hO hS)
         | (with_reducible refine H2b.out.mono ?_
            rintro e w3 ⟨p3, cap3, rfl, hO, hS, hM⟩
            have m0 : w3.cell? ⟨w.heap.size + 1, 0, none⟩ = some (.string (mkS x)) := hS.2.2 0
            have m1 : w3.cell? ⟨w.heap.size + 1, 1, none⟩ = some (.int .i64 (fb : Int)) := hS.2.2 1
            have m2 : w3.cell? ⟨w.heap.size + 1, 2, none⟩ = some (.int .i64 fs) := hS.2.2 2
            have m3 : w3.cell? ⟨w.heap.size + 1, 3, none⟩ = some (.int .i64 ft) := hS.2.2 3
            have m4 : w3.cell? ⟨w.heap.size + 1, 4, none⟩ = some (.int .i64 fc) := hS.2.2 4
            have HMA := Lib.hid hM
            have HOA := Lib.hid hO
            have HBA := Lib.hid hS.1
            clear hM hO hS))
    | (refine step_appendK elF _ rfl (.tmp 43) (.tmp 45) rfl w.heap.size rfl HOA.out (some _) 1 1 (encF ⟨x, fb, fs, ft, fc⟩) rfl rfl HMA.out (fun e => by cases e) (encF_one _) HX.out HBA.out.size ?_
       rintro v4 w4 hO4 hg4 _
       have HO4 := Lib.hid hO4
       have HB4 := Lib.hid (HBA.out.grown hg4 HBA.out.size (fun g hg => (HOA.out.lt g hg).1))
       clear hO4 hg4))
  all_goals
    go_wp2
    go_ret
    have HF := own_more HO4.out
    rw [← HYE.out] at HF
    exact ⟨_, rfl, HF, HB4.out⟩
end Go.Proofs.YtjglgohchhdkkaaGreatDoor
