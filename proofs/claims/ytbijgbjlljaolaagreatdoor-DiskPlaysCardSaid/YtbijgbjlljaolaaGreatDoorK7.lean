/- Merged texts: Refd8, Hnd8, Refe8, Reff8, Refg8, Refh8. -/
import Derived.Test.YtbijgbjlljaolaaGreatDoorK6
import Derived.Test.YtbijgbjlljaolaaGreatDoorK2
import Derived.RangeFuncOwn
import Derived.Deep.QuietTactic
set_option linter.unusedSimpArgs false
set_option linter.unusedVariables false
/- The reference's do, whatever the change: over a list of the call's own. -/
namespace Go.Proofs.YtbijgbjlljaolaaGreatDoor
open Go Go.RowKit

set_option maxHeartbeats 2000000 in
theorem refDo_remove (l : List Fl) (q : Option Addr) (n cap : Nat) (src : S8) (f : Fl) (hn : n < 100000) (hs : src.length < 100000) (hsh : ShortF l) (w : World) (h : LsF w q n cap l) :
    Calls Tryz.prog 42 #[.slice q n cap, aggC ⟨3, src, f⟩] w fun e w' => ∃ v, e = .returned v ∧ OwnF w' w.heap.size v (withoutL l src false) ∧ Below w.heap.size w w' := by
  have HW := Lib.hid (without_on (N := w.heap.size) l q n cap src false (by omega) hs hsh h (Nat.le_refl _))
  have HBX := Lib.hid (show Below w.heap.size w (w.alloc (boxC 3 src f)) from (Below.refl _ _).alloc (Nat.le_refl _) _)
  generalize withoutL l src false = Y at *
  obtain ⟨x, fb, fs, ft, fc⟩ := f
  unfold aggC
  dsimp only at *
  clear hsh h
  go_enter Tryz.func42, Tryz.ntmps42
  go_wp2_with fail
  refine (HW.out _ HBX.out).mono ?_
  rintro e w2 ⟨v, rfl, hO, hB⟩
  have HO := Lib.hid hO
  have HB := Lib.hid (HBX.out.trans (hB.mono HBX.out.size))
  obtain ⟨p2, cap2, e2, -, -⟩ := hO.shape
  subst e2
  clear hO hB
  go_wp2
  go_ret
  exact ⟨_, rfl, HO.out, HB.out⟩
/-- A rename of a file that is not there. -/
theorem refDo_none (l : List Fl) (q : Option Addr) (n cap : Nat) (src : S8) (f : Fl) (hn : n < 100000) (w : World) (h : LsF w q n cap l) (hf : findL l src = none) :
    Calls Tryz.prog 42 #[.slice q n cap, aggC ⟨2, src, f⟩] w fun e w' => e = .returned (.slice q n cap) ∧ Below w.heap.size w w' := by
  have HBX := Lib.hid (show Below w.heap.size w (w.alloc (boxC 2 src f)) from (Below.refl _ _).alloc (Nat.le_refl _) _)
  have HF := Lib.hid (refFind_any l q n cap src (by omega) _ (h.of_below HBX.out))
  rw [show findI l src = -1 by unfold findI; rw [hf]] at HF
  obtain ⟨x, fb, fs, ft, fc⟩ := f
  unfold aggC
  dsimp only at *
  clear h
  go_enter Tryz.func42, Tryz.ntmps42
  go_wp2_with fail
  refine HF.out.mono ?_
  rintro e w' ⟨rfl, rfl⟩
  go_wp2
  go_ret
  exact ⟨rfl, HBX.out⟩
/-- The box of a file. -/
def boxF (f : Fl) : Obj := .cells #[.string (mkS f.p), .int .i64 (f.body : Int), .int .i64 f.size, .int .i64 f.time, .int .i64 f.chg] 71
theorem boxF_cell (w : World) (f : Fl) (j : Nat) : (w.alloc (boxF f)).cell? ⟨w.heap.size, j, none⟩ = (encF f)[j]? := by
  have h := World.alloc_heap_new w (boxF f)
  unfold boxF at *
  rw [cell_of_row _ w.heap.size j _ _ (0, 0) h]
  simp [encF]
/-- Ahead of the appending: two boxes lie behind w, the second one a file's. -/
def St8 (w : World) (X : Fl) (u : World) : Prop := Below w.heap.size w u ∧ w.heap.size + 2 ≤ u.heap.size ∧ ∀ j, u.cell? ⟨w.heap.size + 1, j, none⟩ = (encF X)[j]?
theorem St8.next {w u u' : World} {X : Fl} (h : St8 w X u) (hB : Below u.heap.size u u') : St8 w X u' :=
  ⟨h.1.trans (hB.mono h.1.size), Nat.le_trans h.2.1 hB.size, fun j => by rw [hB.cell (p := ⟨w.heap.size + 1, j, none⟩) (by show w.heap.size + 1 < _; have := h.2.1; omega)]; exact h.2.2 j⟩
theorem St8.alloc {w u : World} {X : Fl} (h : St8 w X u) (o : Obj) : St8 w X (u.alloc o) := h.next ((Below.refl _ _).alloc (Nat.le_refl _) _)
theorem St8.drew {w u : World} {X : Fl} (h : St8 w X u) : St8 w X u.drew := ⟨h.1.drew, h.2.1, h.2.2⟩
/-- without, in such a state; a slice that was built ahead stays. -/
theorem without_st {w u : World} {X : Fl} (hS : St8 w X u) (l : List Fl) (q : Option Addr) (n cap : Nat) (s : S8) (cl : Bool) (hn : n < 1000000) (hs : s.length < 100000) (hsh : ShortF l) (h : LsF u q n cap l) (g : Option Addr) (cs : List Value) (hg : LsC u g cs) :
    Calls Tryz.prog 56 #[.slice q n cap, .string (mkS s), .bool cl] u fun e w' => ∃ p c, e = .returned (.slice p (withoutL l s cl).length c) ∧ OwnF w' w.heap.size (.slice p (withoutL l s cl).length c) (withoutL l s cl) ∧ St8 w X w' ∧ LsC w' g cs :=
  (refWithout_any l q n cap s cl hn hs hsh u h).mono fun e w' ⟨v, e1, e2, e3⟩ => by
    obtain ⟨p, c, rfl, -, -⟩ := e2.shape
    exact ⟨p, c, e1, own_lower e2 hS.1.size, hS.next e3, hg.of_below e3⟩
set_option maxRecDepth 100000 in
set_option maxHeartbeats 2000000 in
theorem refDo_rename (l : List Fl) (q : Option Addr) (n cap : Nat) (src x : S8) (fz : Fl) (hn : n < 100000) (hsl : src.length < 100000) (hs : x.length ≤ 100) (hsh : ShortF l) (w : World) (h : LsF w q n cap l) (i : Nat) (hf : findL l src = some i) (hi : i < n) :
    Calls Tryz.prog 42 #[.slice q n cap, aggC ⟨2, src, { fz with p := x }⟩] w fun e w' => ∃ v, e = .returned v ∧ OwnF w' w.heap.size v (withoutL (withoutL l src false) x true ++ [{ l.getD i fl0 with p := x }]) ∧ Below w.heap.size w w' := by
  have HBX := Lib.hid (show Below w.heap.size w (w.alloc (boxC 2 src { fz with p := x })) from (Below.refl _ _).alloc (Nat.le_refl _) _)
  have HF := Lib.hid (refFind_any l q n cap src (by omega) _ (h.of_below HBX.out))
  rw [show findI l src = (i : Int) by unfold findI; rw [hf]] at HF
  have hL1 := h.of_below HBX.out
  obtain ⟨f, hfe⟩ : ∃ f, l.getD i fl0 = f := ⟨_, rfl⟩
  have hcl := fun j u (hu : (encF f)[j]? = some u) => hL1.cell (i := i) (j := j) hi (by rw [hfe]; exact hu)
  rw [hfe]
  have hY1 : ShortF (withoutL l src false) := fun j => by
    by_cases hj : j < (withoutL l src false).length
    · have hm := List.getElem_mem hj
      unfold withoutL at hm
      obtain ⟨hm, _⟩ := List.mem_filter.1 hm
      obtain ⟨j', hj', e⟩ := List.getElem_of_mem hm
      have := hsh j'
      rw [List.getD_eq_getElem?_getD, List.getElem?_eq_getElem hj'] at this
      rw [List.getD_eq_getElem?_getD, List.getElem?_eq_getElem hj]
      show ((withoutL l src false)[j]).p.length ≤ 100
      have e2 : (withoutL l src false)[j] = l[j'] := e.symm
      rw [e2]; exact this
    · rw [List.getD_eq_getElem?_getD, List.getElem?_eq_none (by omega)]; simp [fl0]
  have hle1 := withoutL_le l src false
  rw [h.len] at hle1
  have hle2 := withoutL_le (withoutL l src false) x true
  have HY := Lib.hid (And.intro hY1 hle1)
  have HX := Lib.hid (show (withoutL (withoutL l src false) x true).length + 1 < 100000000 by omega)
  have HL := Lib.hid (And.intro hsh (fun (u : World) (hu : Below w.heap.size w u) => h.of_below hu))
  obtain ⟨fp, fb, fs, ft, fc⟩ := f
  obtain ⟨_, zb, zs, zt, zc⟩ := fz
  have HBC := Lib.hid (fun j => boxC_cell w 2 src ⟨x, zb, zs, zt, zc⟩ j)
  dsimp only at *
  have hfx := fun j => boxF_cell (w.alloc (boxC 2 src ⟨x, zb, zs, zt, zc⟩)) ⟨x, fb, fs, ft, fc⟩ j
  simp only [World.size_alloc] at hfx
  have HFX := Lib.hid hfx
  clear hfx
  have HBY := Lib.hid (HBX.out.alloc HBX.out.size (boxF ⟨x, fb, fs, ft, fc⟩))
  have b2 : (w.alloc (boxC 2 src ⟨x, zb, zs, zt, zc⟩)).cell? ⟨w.heap.size, 2, none⟩ = some (.string (mkS x)) := HBC.out 2
  have b1' : ∀ o, ((w.alloc (boxC 2 src ⟨x, zb, zs, zt, zc⟩)).alloc o).cell? ⟨w.heap.size, 1, none⟩ = some (.string (mkS src)) := fun o => by
    have hB : Below (w.alloc (boxC 2 src ⟨x, zb, zs, zt, zc⟩)).heap.size (w.alloc (boxC 2 src ⟨x, zb, zs, zt, zc⟩)) ((w.alloc (boxC 2 src ⟨x, zb, zs, zt, zc⟩)).alloc o) := (Below.refl _ _).alloc (Nat.le_refl _) _
    rw [hB.cell (p := ⟨w.heap.size, 1, none⟩) (by simp)]
    exact HBC.out 1
  have HB1' := Lib.hid (b1' (boxF ⟨x, fb, fs, ft, fc⟩))
  clear b1'
  obtain ⟨c0, o0, hpe, hc0, g0⟩ := hcl 0 _ rfl
  subst hpe
  have hcl2 := fun j u (hu : (encF ⟨fp, fb, fs, ft, fc⟩)[j]? = some u) => (by
    obtain ⟨c1, o1, e1, _, h1⟩ := hcl j u hu
    injection e1 with e1
    injection e1 with e1 e2
    subst e1 e2
    rw [← Nat.add_assoc] at h1
    exact h1 : (w.alloc (boxC 2 src ⟨x, zb, zs, zt, zc⟩)).cell? ⟨c0, o0 + i * 5 + j, none⟩ = some u)
  have g1 := hcl2 1 _ rfl
  have g2 := hcl2 2 _ rfl
  have g3 := hcl2 3 _ rfl
  have g4 := hcl2 4 _ rfl
  rw [Nat.add_zero] at g0
  have z1 : (i : Int) < (n : Int) := by omega
  have z2 : ((i : Int) < 0) = False := by simp
  have z3 : decide ((i : Int) < 0) = false := decide_eq_false (by omega)
  unfold aggC
  dsimp only
  clear hcl hcl2 hsh h hL1 hfe hf hY1 hle1 hle2
  go_enter Tryz.func42, Tryz.ntmps42
  go_wp2_with fail
  refine HF.out.mono ?_
  rintro e w' ⟨rfl, rfl⟩
  go_wp2
  obtain ⟨W2, hW2⟩ : ∃ W2, (w.alloc (boxC 2 src ⟨x, zb, zs, zt, zc⟩)).alloc (.cells #[.string (mkS x), .int .i64 (fb : Int), .int .i64 fs, .int .i64 ft, .int .i64 fc] 71) = W2 := ⟨_, rfl⟩
  have s2 : W2.heap.size = w.heap.size + 2 := by rw [← hW2]; simp
  have hst : St8 w ⟨x, fb, fs, ft, fc⟩ W2 := ⟨by rw [← hW2]; exact HBY.out, by omega, fun j => by rw [← hW2]; exact HFX.out j⟩
  have p1 : W2.cell? ⟨w.heap.size, 1, none⟩ = some (.string (mkS src)) := by rw [← hW2]; exact HB1'.out
  have p0 : W2.cell? ⟨w.heap.size + 1, 0, none⟩ = some (.string (mkS x)) := hst.2.2 0
  have q1 : W2.cell? ⟨w.heap.size + 1, 1, none⟩ = some (.int .i64 (fb : Int)) := hst.2.2 1
  have q2 : W2.cell? ⟨w.heap.size + 1, 2, none⟩ = some (.int .i64 fs) := hst.2.2 2
  have q3 : W2.cell? ⟨w.heap.size + 1, 3, none⟩ = some (.int .i64 ft) := hst.2.2 3
  have q4 : W2.cell? ⟨w.heap.size + 1, 4, none⟩ = some (.int .i64 fc) := hst.2.2 4
  have p0' : ∀ o, (W2.alloc o).cell? ⟨w.heap.size + 1, 0, none⟩ = some (.string (mkS x)) := fun o => (hst.alloc o).2.2 0
  have p1' : ∀ o, (W2.alloc o).cell? ⟨w.heap.size, 1, none⟩ = some (.string (mkS src)) := fun o => by
    have hBo : Below W2.heap.size W2 (W2.alloc o) := (Below.refl _ _).alloc (Nat.le_refl _) _
    rw [hBo.cell (p := ⟨w.heap.size, 1, none⟩) (by show w.heap.size < _; omega)]
    exact p1
  have made : ∀ u : World, LsC (u.alloc (.cells #[.string (mkS x), .int .i64 (fb : Int), .int .i64 fs, .int .i64 ft, .int .i64 fc] 71)) (some ⟨u.heap.size, 0, none⟩) (encF ⟨x, fb, fs, ft, fc⟩) := fun u => LsC.made u (encF ⟨x, fb, fs, ft, fc⟩) 71
  have H1a := Lib.hid (without_st (hst.drew) l (some ⟨c0, o0, none⟩) n cap src false (by omega) hsl HL.out.1 (HL.out.2 _ hst.drew.1) none [] (LsC.nil _ _))
  have H1b := Lib.hid (without_st ((hst.alloc (.cells #[.string (mkS x), .int .i64 (fb : Int), .int .i64 fs, .int .i64 ft, .int .i64 fc] 71)).drew) l (some ⟨c0, o0, none⟩) n cap src false (by omega) hsl HL.out.1 (HL.out.2 _ (hst.alloc (.cells #[.string (mkS x), .int .i64 (fb : Int), .int .i64 fs, .int .i64 ft, .int .i64 fc] 71)).drew.1) (some ⟨W2.heap.size, 0, none⟩) (encF ⟨x, fb, fs, ft, fc⟩) (made W2))
  have H2 := Lib.hid (fun (u : World) (hS : St8 w ⟨x, fb, fs, ft, fc⟩ u) (p : Option Addr) (c : Nat) (g : Option Addr) (cs : List Value) (hg : LsC u g cs) (ho : LsF u p (withoutL l src false).length c (withoutL l src false)) => without_st hS (withoutL l src false) p (withoutL l src false).length c x true (by have := HY.out.2; omega) (by omega) HY.out.1 ho g cs hg)
  have MADE := Lib.hid made
  rw [hW2]
  clear hW2 b2 g0 g1 g2 g3 g4 hst s2 made
  generalize hY1e : withoutL l src false = Y1 at *
  have HYE := Lib.hid hY1e
  clear hY1e
  go_region_law (first
    | (go_simp; go_at_call 56
       first
         | (with_reducible refine H1a.out.mono ?_
            rintro e w2 ⟨p2, cap2, rfl, hO, hS, -⟩
            have HM2 := Lib.hid (show LsC w2 none [] from LsC.nil _ _)
            have k0 : w2.cell? ⟨w.heap.size + 1, 0, none⟩ = some (.string (mkS x)) := hS.2.2 0
            have k1 : w2.cell? ⟨w.heap.size + 1, 1, none⟩ = some (.int .i64 (fb : Int)) := hS.2.2 1
            have k2 : w2.cell? ⟨w.heap.size + 1, 2, none⟩ = some (.int .i64 fs) := hS.2.2 2
            have k3 : w2.cell? ⟨w.heap.size + 1, 3, none⟩ = some (.int .i64 ft) := hS.2.2 3
            have k4 : w2.cell? ⟨w.heap.size + 1, 4, none⟩ = some (.int .i64 fc) := hS.2.2 4
            have k0' : ∀ o, (w2.alloc o).cell? ⟨w.heap.size + 1, 0, none⟩ = some (.string (mkS x)) := fun o => (hS.alloc o).2.2 0
            obtain ⟨pp, cc, e2, hls2, -⟩ := hO.shape
            injection e2 with e2a e2b e2c
            subst e2a e2c
            have H2a := Lib.hid (H2.out w2 hS _ _ _ _ HM2.out hls2)
            have H2b := Lib.hid (H2.out (w2.alloc (.cells #[.string (mkS x), .int .i64 (fb : Int), .int .i64 fs, .int .i64 ft, .int .i64 fc] 71)) (hS.alloc (.cells #[.string (mkS x), .int .i64 (fb : Int), .int .i64 fs, .int .i64 ft, .int .i64 fc] 71)) _ _ _ _ (MADE.out w2) (hls2.of_below ((Below.refl _ _).alloc (Nat.le_refl _) _)))
            clear hS hO hls2)
         | (with_reducible refine H1b.out.mono ?_
            rintro e w2 ⟨p2, cap2, rfl, hO, hS, hM⟩
            have HM2 := Lib.hid hM
            clear hM
            have k0 : w2.cell? ⟨w.heap.size + 1, 0, none⟩ = some (.string (mkS x)) := hS.2.2 0
            have k1 : w2.cell? ⟨w.heap.size + 1, 1, none⟩ = some (.int .i64 (fb : Int)) := hS.2.2 1
            have k2 : w2.cell? ⟨w.heap.size + 1, 2, none⟩ = some (.int .i64 fs) := hS.2.2 2
            have k3 : w2.cell? ⟨w.heap.size + 1, 3, none⟩ = some (.int .i64 ft) := hS.2.2 3
            have k4 : w2.cell? ⟨w.heap.size + 1, 4, none⟩ = some (.int .i64 fc) := hS.2.2 4
            have k0' : ∀ o, (w2.alloc o).cell? ⟨w.heap.size + 1, 0, none⟩ = some (.string (mkS x)) := fun o => (hS.alloc o).2.2 0
            obtain ⟨pp, cc, e2, hls2, -⟩ := hO.shape
            injection e2 with e2a e2b e2c
            subst e2a e2c
            have H2a := Lib.hid (H2.out w2 hS _ _ _ _ HM2.out hls2)
            have H2b := Lib.hid (H2.out (w2.alloc (.cells #[.string (mkS x), .int .i64 (fb : Int), .int .i64 fs, .int .i64 ft, .int .i64 fc] 71)) (hS.alloc (.cells #[.string (mkS x), .int .i64 (fb : Int), .int .i64 fs, .int .i64 ft, .int .i64 fc] 71)) _ _ _ _ (MADE.out w2) (hls2.of_below ((Below.refl _ _).alloc (Nat.le_refl _) _)))
            clear hS hO hls2)
         | (with_reducible refine H2a.out.mono ?_
            rintro e w3 ⟨p3, cap3, rfl, hO, hS, hM⟩
            have m0 : w3.cell? ⟨w.heap.size + 1, 0, none⟩ = some (.string (mkS x)) := hS.2.2 0
            have m1 : w3.cell? ⟨w.heap.size + 1, 1, none⟩ = some (.int .i64 (fb : Int)) := hS.2.2 1
            have m2 : w3.cell? ⟨w.heap.size + 1, 2, none⟩ = some (.int .i64 fs) := hS.2.2 2
            have m3 : w3.cell? ⟨w.heap.size + 1, 3, none⟩ = some (.int .i64 ft) := hS.2.2 3
            have m4 : w3.cell? ⟨w.heap.size + 1, 4, none⟩ = some (.int .i64 fc) := hS.2.2 4
            first
              | (have HMA := Lib.hid (show LsC w3 (some _) (encF ⟨x, fb, fs, ft, fc⟩) from hM)
                 have HOA := Lib.hid hO
                 have HBA := Lib.hid hS.1)
              | (have HMA := Lib.hid (MADE.out w3)
                 have HOA := Lib.hid (own_below (w' := w3.alloc (.cells #[.string (mkS x), .int .i64 (fb : Int), .int .i64 fs, .int .i64 ft, .int .i64 fc] 71)) hO ((Below.refl _ _).alloc (Nat.le_refl _) _))
                 have HBA := Lib.hid (hS.alloc (.cells #[.string (mkS x), .int .i64 (fb : Int), .int .i64 fs, .int .i64 ft, .int .i64 fc] 71)).1)
            clear hM hO hS)
         | (with_reducible refine H2b.out.mono ?_
            rintro e w3 ⟨p3, cap3, rfl, hO, hS, hM⟩
            have m0 : w3.cell? ⟨w.heap.size + 1, 0, none⟩ = some (.string (mkS x)) := hS.2.2 0
            have m1 : w3.cell? ⟨w.heap.size + 1, 1, none⟩ = some (.int .i64 (fb : Int)) := hS.2.2 1
            have m2 : w3.cell? ⟨w.heap.size + 1, 2, none⟩ = some (.int .i64 fs) := hS.2.2 2
            have m3 : w3.cell? ⟨w.heap.size + 1, 3, none⟩ = some (.int .i64 ft) := hS.2.2 3
            have m4 : w3.cell? ⟨w.heap.size + 1, 4, none⟩ = some (.int .i64 fc) := hS.2.2 4
            have HMA := Lib.hid hM
            have HOA := Lib.hid hO
            have HBA := Lib.hid hS.1
            clear hM hO hS))
    | (refine step_appendK elF _ rfl (.tmp 43) (.tmp 45) rfl w.heap.size rfl HOA.out (some _) 1 1 (encF ⟨x, fb, fs, ft, fc⟩) rfl rfl HMA.out (fun e => by cases e) (encF_one _) HX.out HBA.out.size ?_
       rintro v4 w4 hO4 hg4 _
       have HO4 := Lib.hid hO4
       have HB4 := Lib.hid (HBA.out.grown hg4 HBA.out.size (fun g hg => (HOA.out.lt g hg).1))
       clear hO4 hg4))
  all_goals
    go_wp2
    go_ret
    have HF := own_more HO4.out
    rw [← HYE.out] at HF
    exact ⟨_, rfl, HF, HB4.out⟩
end Go.Proofs.YtbijgbjlljaolaaGreatDoor
/- The reference's disk in memory: where its lists lie. -/
namespace Go.Proofs.YtbijgbjlljaolaaGreatDoor
open Go Go.RowKit

theorem elR : ElK 27 32 (.slice none 0 0) 1 24 := ⟨by kernel_rfl, by kernel_rfl, rfl, by decide, by decide⟩
theorem LsG.files {G : Nat → Prop} {w : World} {p : Option Addr} {n cap : Nat} {l : List Fl} (h : LsG G w p n cap 5 (l.flatMap encF)) : LsF w p n cap l :=
  ⟨h.at_, by have := h.len; rw [flat_len encF 5 encF_len] at this; omega, h.nil, h.le⟩
/-- A row of headers, and the bytes behind each. -/
structure BsG (G : Nat → Prop) (w : World) (p : Option Addr) (n cap : Nat) (l : List S8) : Prop where
  len : l.length = n
  row : ∃ cs, LsG G w p n cap 1 cs ∧ ∀ i, i < l.length → ∃ q c, cs[i]? = some (.slice q (l.getD i []).length c) ∧ LsG G w q (l.getD i []).length c 1 (bytC (l.getD i []))
section
variable {G G' : Nat → Prop} {w w' : World} {p : Option Addr} {n cap : Nat} {l : List S8}
theorem BsG.keep (h : BsG G w p n cap l) (hk : ∀ c, G c → c < w.heap.size → w'.heap[c]? = w.heap[c]?) (hs : w.heap.size ≤ w'.heap.size) : BsG G w' p n cap l := by
  obtain ⟨cs, h1, h2⟩ := h.row
  exact ⟨h.len, cs, h1.keep hk hs, fun i hi => by obtain ⟨q, c, e1, e2⟩ := h2 i hi; exact ⟨q, c, e1, e2.keep hk hs⟩⟩
theorem BsG.of_below (h : BsG G w p n cap l) (hB : Below w.heap.size w w') : BsG G w' p n cap l := h.keep (fun c _ hc => hB.block c hc) hB.size
theorem BsG.wider (h : BsG G w p n cap l) (hG : ∀ c, G c → c < w.heap.size → G' c) : BsG G' w p n cap l := by
  obtain ⟨cs, h1, h2⟩ := h.row
  exact ⟨h.len, cs, h1.wider hG, fun i hi => by obtain ⟨q, c, e1, e2⟩ := h2 i hi; exact ⟨q, c, e1, e2.wider hG⟩⟩
/-- The header of number i. -/
theorem BsG.head (h : BsG G w p n cap l) {i : Nat} (hi : i < n) : ∃ a o q c, p = some ⟨a, o, none⟩ ∧ a < w.heap.size ∧ w.cell? ⟨a, o + i, none⟩ = some (.slice q (l.getD i []).length c) ∧ LsG G w q (l.getD i []).length c 1 (bytC (l.getD i [])) := by
  obtain ⟨cs, h1, h2⟩ := h.row
  obtain ⟨q, c, e1, e2⟩ := h2 i (by rw [h.len]; exact hi)
  obtain ⟨a, o, e3, e4, e5⟩ := h1.at_.cell e1
  exact ⟨a, o, q, c, e3, e4, e5, e2⟩
end
structure Hd where
  bp : Option Addr
  bn : Nat
  bc : Nat
  sp : Option Addr
  sn : Nat
  sc : Nat
  fp : Option Addr
  fn : Nat
  fc : Nat
  wp : Option Addr
  wn : Nat
  wc : Nat
def aggD (m : Dk) (h : Hd) : Value := .agg #[.int .i64 m.room, .int .i64 m.count, .slice h.bp h.bn h.bc, .slice h.sp h.sn h.sc, .slice h.fp h.fn h.fc, .slice h.wp h.wn h.wc]
def boxD (m : Dk) (h : Hd) : Obj := .cells #[.int .i64 m.room, .int .i64 m.count, .slice h.bp h.bn h.bc, .slice h.sp h.sn h.sc, .slice h.fp h.fn h.fc, .slice h.wp h.wn h.wc] 31
/-- The disk's lists lie there. -/
structure RfG (G : Nat → Prop) (w : World) (m : Dk) (h : Hd) : Prop where
  bodies : BsG G w h.bp h.bn h.bc m.bodies
  seen : LsG G w h.sp h.sn h.sc 5 (m.seen.flatMap encF)
  safe : LsG G w h.fp h.fn h.fc 5 (m.safe.flatMap encF)
  waits : LsG G w h.wp h.wn h.wc 7 (m.waits.flatMap encC)
section
variable {G G' : Nat → Prop} {w w' : World} {m : Dk} {h : Hd}
theorem RfG.keep (r : RfG G w m h) (hk : ∀ c, G c → c < w.heap.size → w'.heap[c]? = w.heap[c]?) (hs : w.heap.size ≤ w'.heap.size) : RfG G w' m h :=
  ⟨r.bodies.keep hk hs, r.seen.keep hk hs, r.safe.keep hk hs, r.waits.keep hk hs⟩
theorem RfG.of_below (r : RfG G w m h) (hB : Below w.heap.size w w') : RfG G w' m h := r.keep (fun c _ hc => hB.block c hc) hB.size
theorem RfG.wider (r : RfG G w m h) (hG : ∀ c, G c → c < w.heap.size → G' c) : RfG G' w m h := ⟨r.bodies.wider hG, r.seen.wider hG, r.safe.wider hG, r.waits.wider hG⟩
theorem RfG.sn (r : RfG G w m h) : m.seen.length = h.sn := by have := r.seen.len; rw [flat_len encF 5 encF_len] at this; omega
theorem RfG.fn (r : RfG G w m h) : m.safe.length = h.fn := by have := r.safe.len; rw [flat_len encF 5 encF_len] at this; omega
theorem RfG.wn (r : RfG G w m h) : m.waits.length = h.wn := by have := r.waits.len; rw [flat_len encC 7 encC_len] at this; omega
end
/-- Nothing at all. -/
def hd0 : Hd := ⟨none, 0, 0, none, 0, 0, none, 0, 0, none, 0, 0⟩
theorem RfG.zero (G : Nat → Prop) (w : World) (room : Int) : RfG G w ⟨room, 0, [], [], [], []⟩ hd0 := by
  have z : ∀ k, LsG G w none 0 0 k [] := fun k => ⟨LsC.nil _ _, by simp, fun c o e _ => by (exfalso; cases e), fun _ => rfl, Nat.le_refl _⟩
  exact ⟨⟨rfl, [], z 1, fun i hi => absurd hi (by simp)⟩, z 5, z 5, z 7⟩
end Go.Proofs.YtbijgbjlljaolaaGreatDoor
/- The reference's do and change. -/
namespace Go.Proofs.YtbijgbjlljaolaaGreatDoor
open Go Go.RowKit

theorem refDo_any (c : Ch) (hc : ChOk c) (l : List Fl) (hsh : ShortF l) (q : Option Addr) (n cap N : Nat) (u : World) (hn : n < 100000) (own : OwnF u N (.slice q n cap) l) (hN : N ≤ u.heap.size) :
    Calls Tryz.prog 42 #[.slice q n cap, aggC c] u fun e w' => ∃ p c', e = .returned (.slice p (doL l c).length c') ∧ OwnF w' N (.slice p (doL l c).length c') (doL l c) ∧ Below u.heap.size u w' := by
  obtain ⟨pp, cc, e, hls, -⟩ := own.shape
  injection e with e1 e2 e3
  subst e1 e2 e3
  have fin : ∀ (Y : List Fl) e w', (∃ v, e = Ending.returned v ∧ OwnF w' u.heap.size v Y ∧ Below u.heap.size u w') → ∃ p c', e = .returned (.slice p Y.length c') ∧ OwnF w' N (.slice p Y.length c') Y ∧ Below u.heap.size u w' := fun Y e w' ⟨v, h1, h2, h3⟩ => by
    obtain ⟨p, c', rfl, -, -⟩ := h2.shape
    exact ⟨p, c', h1, own_lower h2 hN, h3⟩
  obtain ⟨k, src, f⟩ := c
  obtain ⟨hk, hp, hsr⟩ := hc
  dsimp only at hk hp hsr
  rcases hk with rfl | rfl | rfl
  · exact (refDo_write l q _ cap src f hn (by omega) hsh u hls).mono (fin _)
  · cases hf : findL l src with
    | none =>
      have hd : doL l ⟨2, src, f⟩ = l := by unfold doL; simp only [hf]
      rw [hd]
      refine (refDo_none l q _ cap src f hn u hls hf).mono ?_
      rintro e w' ⟨rfl, hB⟩
      exact ⟨q, cap, rfl, own_below own hB, hB⟩
    | some i =>
      have hd : doL l ⟨2, src, f⟩ = withoutL (withoutL l src false) f.p true ++ [{ l.getD i fl0 with p := f.p }] := by unfold doL; simp only [hf]
      rw [hd]
      exact (refDo_rename l q _ cap src f.p f hn hsr hp hsh u hls i hf (findL_lt hf)).mono (fin _)
  · exact (refDo_remove l q _ cap src f hn hsr hsh u hls).mono (fin _)
end Go.Proofs.YtbijgbjlljaolaaGreatDoor
/- The reference's change: a change that is seen, and waits. -/
namespace Go.Proofs.YtbijgbjlljaolaaGreatDoor
open Go Go.RowKit

theorem boxD_cell (w : World) (m : Dk) (h : Hd) (j : Nat) : (w.alloc (boxD m h)).cell? ⟨w.heap.size, j, none⟩ = ([.int .i64 m.room, .int .i64 m.count, .slice h.bp h.bn h.bc, .slice h.sp h.sn h.sc, .slice h.fp h.fn h.fc, .slice h.wp h.wn h.wc] : List Value)[j]? := by
  have hh := World.alloc_heap_new w (boxD m h)
  unfold boxD at *
  rw [cell_of_row _ w.heap.size j _ _ (0, 0) hh]
  simp
def zerD : List Value := [.int .i64 0, .int .i64 0, .slice none 0 0, .slice none 0 0, .slice none 0 0, .slice none 0 0]
def lisD (m : Dk) (h : Hd) : List Value := [.int .i64 m.room, .int .i64 m.count, .slice h.bp h.bn h.bc, .slice h.sp h.sn h.sc, .slice h.fp h.fn h.fc, .slice h.wp h.wn h.wc]
/-- Three boxes behind w: a disk's cells, a change, a result's. -/
structure St9 (w : World) (dv : List Value) (c : Ch) (u : World) : Prop where
  bel : Below w.heap.size w u
  size : w.heap.size + 3 ≤ u.heap.size
  dsk : ∀ j, u.cell? ⟨w.heap.size, j, none⟩ = dv[j]?
  free : ∀ j, u.frozen? ⟨w.heap.size, j, none⟩ = false
  chg : ∀ j, u.cell? ⟨w.heap.size + 1, j, none⟩ = (encC c)[j]?
  res : ∀ j, u.cell? ⟨w.heap.size + 1 + 1, j, none⟩ = zerD[j]?
  rfree : ∀ j, u.frozen? ⟨w.heap.size + 1 + 1, j, none⟩ = false
section
variable {w u u' : World} {dv : List Value} {c : Ch}
theorem St9.next (h : St9 w dv c u) (hB : Below u.heap.size u u') : St9 w dv c u' := by
  have hs := h.size
  have lt0 : ∀ j, (⟨w.heap.size, j, none⟩ : Addr).block < u.heap.size := fun j => by show w.heap.size < _; omega
  have lt1 : ∀ j, (⟨w.heap.size + 1, j, none⟩ : Addr).block < u.heap.size := fun j => by show w.heap.size + 1 < _; omega
  have lt2 : ∀ j, (⟨w.heap.size + 1 + 1, j, none⟩ : Addr).block < u.heap.size := fun j => by show w.heap.size + 1 + 1 < _; omega
  exact ⟨h.bel.trans (hB.mono h.bel.size), Nat.le_trans hs hB.size, fun j => by rw [hB.cell (lt0 j)]; exact h.dsk j, fun j => by rw [hB.frozen (lt0 j)]; exact h.free j, fun j => by rw [hB.cell (lt1 j)]; exact h.chg j,
    fun j => by rw [hB.cell (lt2 j)]; exact h.res j, fun j => by rw [hB.frozen (lt2 j)]; exact h.rfree j⟩
theorem St9.alloc (h : St9 w dv c u) (o : Obj) : St9 w dv c (u.alloc o) := h.next ((Below.refl _ _).alloc (Nat.le_refl _) _)
theorem St9.drew (h : St9 w dv c u) : St9 w dv c u.drew := ⟨h.bel.drew, h.size, h.dsk, h.free, h.chg, h.res, h.rfree⟩
theorem St9.set (h : St9 w dv c u) (j : Nat) (hj : j < dv.length) (v : Value) : St9 w (dv.set j v) c (u.setCell ⟨w.heap.size, j, none⟩ v) := by
  refine ⟨h.bel.setCell (p := ⟨w.heap.size, j, none⟩) (by simp) v, ?_, fun i => ?_, fun i => ?_, fun i => ?_, fun i => ?_, fun i => ?_⟩
  · exact Nat.le_trans h.size (KeepsOthers.setCell u ⟨w.heap.size, j, none⟩ v).size
  · by_cases e : i = j
    · subst e
      rw [World.cell?_setCell_same' _ _ _ (by rw [h.dsk i, List.getElem?_eq_getElem hj]; rfl), List.getElem?_set_self hj]
    · rw [World.cell?_setCell_other _ _ _ _ (by intro ee; injection ee with _ e2; exact e e2.symm), h.dsk i, List.getElem?_set_ne (fun ee => e ee.symm)]
  · rw [World.frozen?_setCell]; exact h.free i
  · rw [World.cell?_setCell_other _ _ _ _ (by intro ee; injection ee with e1 _; omega)]; exact h.chg i
  · rw [World.cell?_setCell_other _ _ _ _ (by intro ee; injection ee with e1 _; omega)]; exact h.res i
  · rw [World.frozen?_setCell]; exact h.rfree i
end
theorem st9_start (w : World) (m : Dk) (h : Hd) (c : Ch) : St9 w (lisD m h) c (((w.alloc (boxD m h)).alloc (boxC c.kind c.src c.file)).alloc (.cells zerD.toArray 31)) := by
  have b1 : Below w.heap.size w (w.alloc (boxD m h)) := (Below.refl _ _).alloc (Nat.le_refl _) _
  have k0 := fun j => boxD_cell w m h j
  have hh := World.alloc_heap_new w (boxD m h)
  have k1 := fun j => boxC_cell (w.alloc (boxD m h)) c.kind c.src c.file j
  have hh1 := World.alloc_heap_new (w.alloc (boxD m h)) (boxC c.kind c.src c.file)
  have hh2 := World.alloc_heap_new ((w.alloc (boxD m h)).alloc (boxC c.kind c.src c.file)) (.cells zerD.toArray 31)
  have B1 : Below (w.alloc (boxD m h)).heap.size (w.alloc (boxD m h)) ((w.alloc (boxD m h)).alloc (boxC c.kind c.src c.file)) := (Below.refl _ _).alloc (Nat.le_refl _) _
  have B2 : Below ((w.alloc (boxD m h)).alloc (boxC c.kind c.src c.file)).heap.size ((w.alloc (boxD m h)).alloc (boxC c.kind c.src c.file)) (((w.alloc (boxD m h)).alloc (boxC c.kind c.src c.file)).alloc (.cells zerD.toArray 31)) := (Below.refl _ _).alloc (Nat.le_refl _) _
  simp only [World.size_alloc] at k1 hh1 hh2 B1 B2
  have frz : ∀ (W : World) (b j : Nat) (cs : Array Value) (t : TypeId), W.heap[b]? = some (.cells cs t (0, 0)) → W.frozen? ⟨b, j, none⟩ = false := fun W b j cs t e => by
    unfold World.frozen?
    simp [e]
  refine ⟨b1.trans ((B1.mono (by omega)).trans (B2.mono (by omega))), by simp, fun j => ?_, fun j => ?_, fun j => ?_, fun j => ?_, fun j => ?_⟩
  · rw [B2.cell (p := ⟨w.heap.size, j, none⟩) (by show w.heap.size < _; omega), B1.cell (p := ⟨w.heap.size, j, none⟩) (by show w.heap.size < _; omega)]
    exact k0 j
  · rw [B2.frozen (p := ⟨w.heap.size, j, none⟩) (by show w.heap.size < _; omega), B1.frozen (p := ⟨w.heap.size, j, none⟩) (by show w.heap.size < _; omega)]
    exact frz _ _ _ _ _ hh
  · rw [B2.cell (p := ⟨w.heap.size + 1, j, none⟩) (by show w.heap.size + 1 < _; omega)]
    exact k1 j
  · rw [cell_of_row _ (w.heap.size + 1 + 1) j _ _ (0, 0) hh2]
    simp
  · exact frz _ _ _ _ _ hh2
/-- A disk's six cells, stored one after another. -/
def put6 (u : World) (b : Nat) (v0 v1 v2 v3 v4 v5 : Value) : World := (((((u.setCell ⟨b, 0, none⟩ v0).setCell ⟨b, 1, none⟩ v1).setCell ⟨b, 2, none⟩ v2).setCell ⟨b, 3, none⟩ v3).setCell ⟨b, 4, none⟩ v4).setCell ⟨b, 5, none⟩ v5
theorem put6_heap (u : World) (b : Nat) (v0 v1 v2 v3 v4 v5 : Value) {k : Nat} (h : k ≠ b) : (put6 u b v0 v1 v2 v3 v4 v5).heap[k]? = u.heap[k]? := by
  unfold put6
  rw [Below.heap_setCell _ _ _ k h, Below.heap_setCell _ _ _ k h, Below.heap_setCell _ _ _ k h, Below.heap_setCell _ _ _ k h, Below.heap_setCell _ _ _ k h, Below.heap_setCell _ _ _ k h]
theorem put6_below {N : Nat} {w u : World} {b : Nat} (v0 v1 v2 v3 v4 v5 : Value) (h : Below N w u) (hb : N ≤ b) : Below N w (put6 u b v0 v1 v2 v3 v4 v5) :=
  (((((h.setCell (p := ⟨b, 0, none⟩) hb v0).setCell (p := ⟨b, 1, none⟩) hb v1).setCell (p := ⟨b, 2, none⟩) hb v2).setCell (p := ⟨b, 3, none⟩) hb v3).setCell (p := ⟨b, 4, none⟩) hb v4).setCell (p := ⟨b, 5, none⟩) hb v5
theorem put6_cell {u : World} {b : Nat} (v0 v1 v2 v3 v4 v5 : Value) (h : ∀ j, u.cell? ⟨b, j, none⟩ = zerD[j]?) :
    (put6 u b v0 v1 v2 v3 v4 v5).cell? ⟨b, 0, none⟩ = some v0 ∧ (put6 u b v0 v1 v2 v3 v4 v5).cell? ⟨b, 1, none⟩ = some v1 ∧ (put6 u b v0 v1 v2 v3 v4 v5).cell? ⟨b, 2, none⟩ = some v2 ∧ (put6 u b v0 v1 v2 v3 v4 v5).cell? ⟨b, 3, none⟩ = some v3 ∧ (put6 u b v0 v1 v2 v3 v4 v5).cell? ⟨b, 4, none⟩ = some v4 ∧ (put6 u b v0 v1 v2 v3 v4 v5).cell? ⟨b, 5, none⟩ = some v5 := by
  have o : ∀ (W : World) (i j : Nat) (v : Value), i ≠ j → (W.setCell ⟨b, j, none⟩ v).cell? ⟨b, i, none⟩ = W.cell? ⟨b, i, none⟩ := fun W i j v hne => World.cell?_setCell_other _ _ _ _ (by intro e; injection e with _ e2; first | exact hne e2 | exact hne e2.symm)
  have s : ∀ (W : World) (j : Nat) (v : Value), W.cell? ⟨b, j, none⟩ = zerD[j]? → j < 6 → (W.setCell ⟨b, j, none⟩ v).cell? ⟨b, j, none⟩ = some v := fun W j v e hj => World.cell?_setCell_same' _ _ _ (by rw [e, List.getElem?_eq_getElem (by show j < 6; exact hj)]; rfl)
  unfold put6
  refine ⟨?_, ?_, ?_, ?_, ?_, ?_⟩
  · rw [o _ 0 5 _ (by decide), o _ 0 4 _ (by decide), o _ 0 3 _ (by decide), o _ 0 2 _ (by decide), o _ 0 1 _ (by decide)]
    exact s _ 0 _ (h 0) (by decide)
  · rw [o _ 1 5 _ (by decide), o _ 1 4 _ (by decide), o _ 1 3 _ (by decide), o _ 1 2 _ (by decide)]
    exact s _ 1 _ (by rw [o _ 1 0 _ (by decide)]; exact h 1) (by decide)
  · rw [o _ 2 5 _ (by decide), o _ 2 4 _ (by decide), o _ 2 3 _ (by decide)]
    exact s _ 2 _ (by rw [o _ 2 1 _ (by decide), o _ 2 0 _ (by decide)]; exact h 2) (by decide)
  · rw [o _ 3 5 _ (by decide), o _ 3 4 _ (by decide)]
    exact s _ 3 _ (by rw [o _ 3 2 _ (by decide), o _ 3 1 _ (by decide), o _ 3 0 _ (by decide)]; exact h 3) (by decide)
  · rw [o _ 4 5 _ (by decide)]
    exact s _ 4 _ (by rw [o _ 4 3 _ (by decide), o _ 4 2 _ (by decide), o _ 4 1 _ (by decide), o _ 4 0 _ (by decide)]; exact h 4) (by decide)
  · exact s _ 5 _ (by rw [o _ 5 4 _ (by decide), o _ 5 3 _ (by decide), o _ 5 2 _ (by decide), o _ 5 1 _ (by decide), o _ 5 0 _ (by decide)]; exact h 5) (by decide)
end Go.Proofs.YtbijgbjlljaolaaGreatDoor
/- The reference's change, walked. -/
namespace Go.Proofs.YtbijgbjlljaolaaGreatDoor
open Go Go.RowKit

/-- Copies of lists may lie behind. -/
theorem LsG.fresh {G : Nat → Prop} {w : World} {E : TypeId} {base n k : Nat} {p : Option Addr} {cap : Nat} {cs : List Value} (h : w.ownsRow base E k (.slice p n cap) n cs) (hG : ∀ c, base ≤ c → G c) : LsG G w p n cap k cs := by
  obtain ⟨p', cap', e, h1⟩ := LsG.own (G := G) h hG
  injection e with e1 e2 e3
  subst e1 e3
  exact h1
/-- A store into the first box leaves such a list alone. -/
theorem own_far {w u : World} {E : TypeId} {k n : Nat} {v : Value} {cs : List Value} {j : Nat} {x : Value} (h : u.ownsRow (w.heap.size + 3) E k v n cs) : (u.setCell ⟨w.heap.size, j, none⟩ x).ownsRow (w.heap.size + 3) E k v n cs :=
  own_keep h fun g hg => Below.heap_setCell u _ x g (by have := (h.lt g hg).1; show g ≠ w.heap.size; omega)
set_option maxRecDepth 100000 in
set_option maxHeartbeats 4000000 in
theorem refChange_any (G : Nat → Prop) (m : Dk) (h : Hd) (c : Ch) (hc : ChOk c) (hsh : ShortF m.seen) (hn : h.sn < 90000) (hwn : h.wn < 90000) (w : World) (hG : ∀ k, w.heap.size ≤ k → G k) (r : RfG G w m h) :
    Calls Tryz.prog 37 #[aggD m h, aggC c] w fun e w' => ∃ h', e = .returned (aggD (changeL m c) h') ∧ RfG G w' (changeL m c) h' ∧ Below w.heap.size w w' := by
  have hst := st9_start w m h c
  have R := Lib.hid r
  have HG := Lib.hid hG
  have HDO := Lib.hid (fun (u : World) (q : Option Addr) (cap : Nat) (own : OwnF u (w.heap.size + 3) (.slice q h.sn cap) m.seen) (hN : w.heap.size + 3 ≤ u.heap.size) => refDo_any c hc m.seen hsh q h.sn cap (w.heap.size + 3) u (by omega) own hN)
  have HWN := Lib.hid hwn
  have HSN := Lib.hid hn
  obtain ⟨bp, bn, bc, sp, sn, sc, fp, fn, fc, wp, wn, wc⟩ := h
  obtain ⟨room, count, bodies, seen, safe, waits⟩ := m
  obtain ⟨ck, csrc, cf⟩ := c
  obtain ⟨cp, cb, cz, ct, cc⟩ := cf
  unfold aggD aggC at *
  dsimp only at *
  clear hc hsh hG r hn hwn
  go_enter Tryz.func37, Tryz.ntmps37
  go_wp2
  rename_i Q' K hK
  obtain ⟨W3, hW3⟩ : ∃ W3, ((w.alloc (.cells #[.int .i64 room, .int .i64 count, .slice bp bn bc, .slice sp sn sc, .slice fp fn fc, .slice wp wn wc] 31)).alloc (.cells #[.int .i64 (ck : Int), .string (mkS csrc), .string (mkS cp), .int .i64 (cb : Int), .int .i64 cz, .int .i64 ct, .int .i64 cc] 86)).alloc (.cells #[.int .i64 0, .int .i64 0, .slice none 0 0, .slice none 0 0, .slice none 0 0, .slice none 0 0] 31) = W3 := ⟨_, rfl⟩
  have hst3 : St9 w (lisD ⟨room, count, bodies, seen, safe, waits⟩ ⟨bp, bn, bc, sp, sn, sc, fp, fn, fc, wp, wn, wc⟩) ⟨ck, csrc, ⟨cp, cb, cz, ct, cc⟩⟩ W3 := by rw [← hW3]; exact hst
  rw [hW3]
  clear hst hW3
  have a3 : W3.cell? ⟨w.heap.size, 3, none⟩ = some (.slice sp sn sc) := hst3.dsk 3
  have a3' : ∀ o, (W3.alloc o).cell? ⟨w.heap.size, 3, none⟩ = some (.slice sp sn sc) := fun o => (hst3.alloc o).dsk 3
  have g0 : W3.cell? ⟨w.heap.size + 1, 0, none⟩ = some (.int .i64 (ck : Int)) := hst3.chg 0
  have g0' : ∀ o, (W3.alloc o).cell? ⟨w.heap.size + 1, 0, none⟩ = some (.int .i64 (ck : Int)) := fun o => (hst3.alloc o).chg 0
  have g1 : W3.cell? ⟨w.heap.size + 1, 1, none⟩ = some (.string (mkS csrc)) := hst3.chg 1
  have g1' : ∀ o, (W3.alloc o).cell? ⟨w.heap.size + 1, 1, none⟩ = some (.string (mkS csrc)) := fun o => (hst3.alloc o).chg 1
  have g2 : W3.cell? ⟨w.heap.size + 1, 2, none⟩ = some (.string (mkS cp)) := hst3.chg 2
  have g2' : ∀ o, (W3.alloc o).cell? ⟨w.heap.size + 1, 2, none⟩ = some (.string (mkS cp)) := fun o => (hst3.alloc o).chg 2
  have g3 : W3.cell? ⟨w.heap.size + 1, 3, none⟩ = some (.int .i64 (cb : Int)) := hst3.chg 3
  have g3' : ∀ o, (W3.alloc o).cell? ⟨w.heap.size + 1, 3, none⟩ = some (.int .i64 (cb : Int)) := fun o => (hst3.alloc o).chg 3
  have g4 : W3.cell? ⟨w.heap.size + 1, 4, none⟩ = some (.int .i64 cz) := hst3.chg 4
  have g4' : ∀ o, (W3.alloc o).cell? ⟨w.heap.size + 1, 4, none⟩ = some (.int .i64 cz) := fun o => (hst3.alloc o).chg 4
  have g5 : W3.cell? ⟨w.heap.size + 1, 5, none⟩ = some (.int .i64 ct) := hst3.chg 5
  have g5' : ∀ o, (W3.alloc o).cell? ⟨w.heap.size + 1, 5, none⟩ = some (.int .i64 ct) := fun o => (hst3.alloc o).chg 5
  have g6 : W3.cell? ⟨w.heap.size + 1, 6, none⟩ = some (.int .i64 cc) := hst3.chg 6
  have g6' : ∀ o, (W3.alloc o).cell? ⟨w.heap.size + 1, 6, none⟩ = some (.int .i64 cc) := fun o => (hst3.alloc o).chg 6
  have HK1 : ∀ (t5 t6 t7 t8 t9 t10 t11 : Value) (u : World) (p3 : Option Addr) (c3 : Nat),
      St9 w [.int .i64 room, .int .i64 count, .slice bp bn bc, .slice p3 (doL seen ⟨ck, csrc, ⟨cp, cb, cz, ct, cc⟩⟩).length c3, .slice fp fn fc, .slice wp wn wc] ⟨ck, csrc, ⟨cp, cb, cz, ct, cc⟩⟩ u →
      OwnF u (w.heap.size + 3) (.slice p3 (doL seen ⟨ck, csrc, ⟨cp, cb, cz, ct, cc⟩⟩).length c3) (doL seen ⟨ck, csrc, ⟨cp, cb, cz, ct, cc⟩⟩) →
      K { tmps := #[.agg #[.int .i64 room, .int .i64 count, .slice bp bn bc, .slice sp sn sc, .slice fp fn fc, .slice wp wn wc], .agg #[.int .i64 (ck : Int), .string (mkS csrc), .string (mkS cp), .int .i64 (cb : Int), .int .i64 cz, .int .i64 ct, .int .i64 cc], .pointer (some ⟨w.heap.size, 0, none⟩), .pointer (some ⟨w.heap.size + 1, 0, none⟩), .pointer (some ⟨w.heap.size + 1 + 1, 0, none⟩), t5, t6, t7, t8, t9, t10, t11, undef, undef, undef, undef, undef, undef, undef, undef, undef], defers := [] } u := by
    intro t5 t6 t7 t8 t9 t10 t11 u p3 c3 hs hown
    refine hK _ _ ?_
    refine wp_seq_k fun K2 hK2 => ?_
    have HK2 : ∀ (t12 t13 t14 t15 t16 t17 t18 t19 : Value) (u5 : World) (p5 : Option Addr) (c5 : Nat),
        St9 w [.int .i64 room, .int .i64 count, .slice bp bn bc, .slice p3 (doL seen ⟨ck, csrc, ⟨cp, cb, cz, ct, cc⟩⟩).length c3, .slice fp fn fc, .slice p5 (wn + 1) c5] ⟨ck, csrc, ⟨cp, cb, cz, ct, cc⟩⟩ u5 →
        OwnF u5 (w.heap.size + 3) (.slice p3 (doL seen ⟨ck, csrc, ⟨cp, cb, cz, ct, cc⟩⟩).length c3) (doL seen ⟨ck, csrc, ⟨cp, cb, cz, ct, cc⟩⟩) →
        u5.ownsRow (w.heap.size + 3) 86 7 (.slice p5 (wn + 1) c5) (wn + 1) (waits.flatMap encC ++ encC ⟨ck, csrc, ⟨cp, cb, cz, ct, cc⟩⟩) →
        K2 { tmps := #[.agg #[.int .i64 room, .int .i64 count, .slice bp bn bc, .slice sp sn sc, .slice fp fn fc, .slice wp wn wc], .agg #[.int .i64 (ck : Int), .string (mkS csrc), .string (mkS cp), .int .i64 (cb : Int), .int .i64 cz, .int .i64 ct, .int .i64 cc], .pointer (some ⟨w.heap.size, 0, none⟩), .pointer (some ⟨w.heap.size + 1, 0, none⟩), .pointer (some ⟨w.heap.size + 1 + 1, 0, none⟩), t5, t6, t7, t8, t9, t10, t11, t12, t13, t14, t15, t16, t17, t18, t19, undef], defers := [] } u5 := by
      intro t12 t13 t14 t15 t16 t17 t18 t19 u5 p5 c5 hs5 hof hoc
      refine hK2 _ _ ?_
      have d0 : u5.cell? ⟨w.heap.size, 0, none⟩ = some (.int .i64 room) := hs5.dsk 0
      have d1 : u5.cell? ⟨w.heap.size, 1, none⟩ = some (.int .i64 count) := hs5.dsk 1
      have d2 : u5.cell? ⟨w.heap.size, 2, none⟩ = some (.slice bp bn bc) := hs5.dsk 2
      have d3 : u5.cell? ⟨w.heap.size, 3, none⟩ = some (.slice p3 (doL seen ⟨ck, csrc, ⟨cp, cb, cz, ct, cc⟩⟩).length c3) := hs5.dsk 3
      have d4 : u5.cell? ⟨w.heap.size, 4, none⟩ = some (.slice fp fn fc) := hs5.dsk 4
      have d5 : u5.cell? ⟨w.heap.size, 5, none⟩ = some (.slice p5 (wn + 1) c5) := hs5.dsk 5
      have r0 : u5.cell? ⟨w.heap.size + 1 + 1, 0, none⟩ = some (.int .i64 0) := hs5.res 0
      have r1 : u5.cell? ⟨w.heap.size + 1 + 1, 1, none⟩ = some (.int .i64 0) := hs5.res 1
      have r2 : u5.cell? ⟨w.heap.size + 1 + 1, 2, none⟩ = some (.slice none 0 0) := hs5.res 2
      have r3 : u5.cell? ⟨w.heap.size + 1 + 1, 3, none⟩ = some (.slice none 0 0) := hs5.res 3
      have r4 : u5.cell? ⟨w.heap.size + 1 + 1, 4, none⟩ = some (.slice none 0 0) := hs5.res 4
      have r5 : u5.cell? ⟨w.heap.size + 1 + 1, 5, none⟩ = some (.slice none 0 0) := hs5.res 5
      have z0 := hs5.rfree 0
      have z1 := hs5.rfree 1
      have z2 := hs5.rfree 2
      have z3 := hs5.rfree 3
      have z4 := hs5.rfree 4
      have z5 := hs5.rfree 5
      have HC6 := Lib.hid (put6_cell (.int .i64 room) (.int .i64 count) (.slice bp bn bc) (.slice p3 (doL seen ⟨ck, csrc, ⟨cp, cb, cz, ct, cc⟩⟩).length c3) (.slice fp fn fc) (.slice p5 (wn + 1) c5) hs5.res)
      have HB6 := Lib.hid (put6_below (b := w.heap.size + 1 + 1) (.int .i64 room) (.int .i64 count) (.slice bp bn bc) (.slice p3 (doL seen ⟨ck, csrc, ⟨cp, cb, cz, ct, cc⟩⟩).length c3) (.slice fp fn fc) (.slice p5 (wn + 1) c5) hs5.bel (by omega))
      have far : ∀ {E : TypeId} {k n : Nat} {v : Value} {cs : List Value}, u5.ownsRow (w.heap.size + 3) E k v n cs → (put6 u5 (w.heap.size + 1 + 1) (.int .i64 room) (.int .i64 count) (.slice bp bn bc) (.slice p3 (doL seen ⟨ck, csrc, ⟨cp, cb, cz, ct, cc⟩⟩).length c3) (.slice fp fn fc) (.slice p5 (wn + 1) c5)).ownsRow (w.heap.size + 3) E k v n cs := fun h => own_keep h fun g hg => put6_heap _ _ _ _ _ _ _ _ (by have := (h.lt g hg).1; omega)
      have HF6 := Lib.hid (far hof)
      have HO6 := Lib.hid (far hoc)
      clear far hof hoc hs5
      go_wp2
      refine bodyPost_ret (v := .agg #[.int .i64 room, .int .i64 count, .slice bp bn bc, .slice p3 (doL seen ⟨ck, csrc, ⟨cp, cb, cz, ct, cc⟩⟩).length c3, .slice fp fn fc, .slice p5 (wn + 1) c5]) ?_ rfl ?_
      · have e := HC6.out
        unfold put6 at e
        obtain ⟨e0, e1, e2, e3, e4, e5⟩ := e
        simp [results, Tryz.f37, go_sem, e0, e1, e2, e3, e4, e5]
      · refine ⟨⟨bp, bn, bc, p3, (doL seen ⟨ck, csrc, ⟨cp, cb, cz, ct, cc⟩⟩).length, c3, fp, fn, fc, p5, wn + 1, c5⟩, rfl, ?_, HB6.out⟩
        refine ⟨R.out.bodies.of_below HB6.out, LsG.fresh HF6.out (fun k hk => HG.out k (by omega)), R.out.safe.of_below HB6.out, ?_⟩
        have := LsG.fresh (G := G) HO6.out (fun k hk => HG.out k (by omega))
        show LsG G _ p5 (wn + 1) c5 7 ((waits ++ [(⟨ck, csrc, ⟨cp, cb, cz, ct, cc⟩⟩ : Ch)]).flatMap encC)
        have e7 : (waits ++ [(⟨ck, csrc, ⟨cp, cb, cz, ct, cc⟩⟩ : Ch)]).flatMap encC = waits.flatMap encC ++ encC ⟨ck, csrc, ⟨cp, cb, cz, ct, cc⟩⟩ := by simp [List.flatMap_append]
        rw [e7]
        exact this
    have g0 : u.cell? ⟨w.heap.size + 1, 0, none⟩ = some (.int .i64 (ck : Int)) := hs.chg 0
    have g0' : ∀ o, (u.alloc o).cell? ⟨w.heap.size + 1, 0, none⟩ = some (.int .i64 (ck : Int)) := fun o => (hs.alloc o).chg 0
    have g1 : u.cell? ⟨w.heap.size + 1, 1, none⟩ = some (.string (mkS csrc)) := hs.chg 1
    have g1' : ∀ o, (u.alloc o).cell? ⟨w.heap.size + 1, 1, none⟩ = some (.string (mkS csrc)) := fun o => (hs.alloc o).chg 1
    have g2 : u.cell? ⟨w.heap.size + 1, 2, none⟩ = some (.string (mkS cp)) := hs.chg 2
    have g2' : ∀ o, (u.alloc o).cell? ⟨w.heap.size + 1, 2, none⟩ = some (.string (mkS cp)) := fun o => (hs.alloc o).chg 2
    have g3 : u.cell? ⟨w.heap.size + 1, 3, none⟩ = some (.int .i64 (cb : Int)) := hs.chg 3
    have g3' : ∀ o, (u.alloc o).cell? ⟨w.heap.size + 1, 3, none⟩ = some (.int .i64 (cb : Int)) := fun o => (hs.alloc o).chg 3
    have g4 : u.cell? ⟨w.heap.size + 1, 4, none⟩ = some (.int .i64 cz) := hs.chg 4
    have g4' : ∀ o, (u.alloc o).cell? ⟨w.heap.size + 1, 4, none⟩ = some (.int .i64 cz) := fun o => (hs.alloc o).chg 4
    have g5 : u.cell? ⟨w.heap.size + 1, 5, none⟩ = some (.int .i64 ct) := hs.chg 5
    have g5' : ∀ o, (u.alloc o).cell? ⟨w.heap.size + 1, 5, none⟩ = some (.int .i64 ct) := fun o => (hs.alloc o).chg 5
    have g6 : u.cell? ⟨w.heap.size + 1, 6, none⟩ = some (.int .i64 cc) := hs.chg 6
    have g6' : ∀ o, (u.alloc o).cell? ⟨w.heap.size + 1, 6, none⟩ = some (.int .i64 cc) := fun o => (hs.alloc o).chg 6
    have a5 : u.cell? ⟨w.heap.size, 5, none⟩ = some (.slice wp wn wc) := hs.dsk 5
    have a5' : ∀ o, (u.alloc o).cell? ⟨w.heap.size, 5, none⟩ = some (.slice wp wn wc) := fun o => (hs.alloc o).dsk 5
    have a5'' : ∀ o o', ((u.alloc o).alloc o').cell? ⟨w.heap.size, 5, none⟩ = some (.slice wp wn wc) := fun o o' => ((hs.alloc o).alloc o').dsk 5
    have HE1 := Lib.hid (show ((u.alloc (.cells #[] 86)).drew).ownsRow u.heap.size 86 7 (.slice (some ⟨u.heap.size, 0, none⟩) 0 0) 0 [] from own_empty u u.heap.size (Nat.le_refl _))
    have HE2 := Lib.hid (show (((u.alloc (.cells #[] 86)).alloc (.cells #[.int .i64 (ck : Int), .string (mkS csrc), .string (mkS cp), .int .i64 (cb : Int), .int .i64 cz, .int .i64 ct, .int .i64 cc] 86)).drew).ownsRow u.heap.size 86 7 (.slice (some ⟨u.heap.size, 0, none⟩) 0 0) 0 [] from own_below HE1.out (show Below _ _ _ from (Below.refl _ _).alloc (Nat.le_refl _) _))
    have HE3 := Lib.hid (show (((u.alloc (.cells #[.int .i64 (ck : Int), .string (mkS csrc), .string (mkS cp), .int .i64 (cb : Int), .int .i64 cz, .int .i64 ct, .int .i64 cc] 86)).alloc (.cells #[] 86)).drew).ownsRow u.heap.size 86 7 (.slice (some ⟨u.heap.size + 1, 0, none⟩) 0 0) 0 [] from by have := own_empty (E := 86) (k := 7) (u.alloc (.cells #[.int .i64 (ck : Int), .string (mkS csrc), .string (mkS cp), .int .i64 (cb : Int), .int .i64 cz, .int .i64 ct, .int .i64 cc] 86)) u.heap.size (by simp); rw [World.size_alloc] at this; exact this)
    have HZ1 := Lib.hid (show Below u.heap.size u (u.alloc (.cells #[] 86)).drew from ((Below.refl _ _).alloc (Nat.le_refl _) _).drew)
    have HZ2 := Lib.hid (show Below u.heap.size u ((u.alloc (.cells #[] 86)).alloc (.cells #[.int .i64 (ck : Int), .string (mkS csrc), .string (mkS cp), .int .i64 (cb : Int), .int .i64 cz, .int .i64 ct, .int .i64 cc] 86)).drew from (((Below.refl _ _).alloc (Nat.le_refl _) _).alloc (by simp) _).drew)
    have HZ3 := Lib.hid (show Below u.heap.size u ((u.alloc (.cells #[.int .i64 (ck : Int), .string (mkS csrc), .string (mkS cp), .int .i64 (cb : Int), .int .i64 cz, .int .i64 ct, .int .i64 cc] 86)).alloc (.cells #[] 86)).drew from (((Below.refl _ _).alloc (Nat.le_refl _) _).alloc (by simp) _).drew)
    have HM2 := Lib.hid (show LsC ((u.alloc (.cells #[] 86)).alloc (.cells #[.int .i64 (ck : Int), .string (mkS csrc), .string (mkS cp), .int .i64 (cb : Int), .int .i64 cz, .int .i64 ct, .int .i64 cc] 86)).drew (some ⟨u.heap.size + 1, 0, none⟩) (encC ⟨ck, csrc, ⟨cp, cb, cz, ct, cc⟩⟩) from by have := LsC.made (u.alloc (.cells #[] 86)) (encC ⟨ck, csrc, ⟨cp, cb, cz, ct, cc⟩⟩) 86; rw [World.size_alloc] at this; exact this)
    have HM3 := Lib.hid (show LsC ((u.alloc (.cells #[.int .i64 (ck : Int), .string (mkS csrc), .string (mkS cp), .int .i64 (cb : Int), .int .i64 cz, .int .i64 ct, .int .i64 cc] 86)).alloc (.cells #[] 86)).drew (some ⟨u.heap.size, 0, none⟩) (encC ⟨ck, csrc, ⟨cp, cb, cz, ct, cc⟩⟩) from (LsC.made u (encC ⟨ck, csrc, ⟨cp, cb, cz, ct, cc⟩⟩) 86).of_below (((Below.refl _ _).alloc (Nat.le_refl _) _).drew))
    have HST := Lib.hid hs
    have HOF := Lib.hid hown
    have MADE := Lib.hid (fun (x : World) => (show LsC (x.alloc (.cells #[.int .i64 (ck : Int), .string (mkS csrc), .string (mkS cp), .int .i64 (cb : Int), .int .i64 cz, .int .i64 ct, .int .i64 cc] 86)) (some ⟨x.heap.size, 0, none⟩) (encC ⟨ck, csrc, ⟨cp, cb, cz, ct, cc⟩⟩) from LsC.made x (encC ⟨ck, csrc, ⟨cp, cb, cz, ct, cc⟩⟩) 86))
    clear hs hown
    go_region_law (first
      | (refine step_appendK elC _ rfl (.tmp 12) (.tmp 14) rfl u.heap.size rfl HE1.out wp wn wc (waits.flatMap encC) (R.out.waits.len) rfl (R.out.waits.at_.of_below (HST.out.bel.trans (HZ1.out.mono HST.out.bel.size))) (R.out.waits.nilp (by decide)) (flat_one encC encC_one waits) (by have := HWN.out; omega) HZ1.out.size ?_
         rintro v2 u2 hO2 hg2 _
         have hB2 := HZ1.out.grown hg2 HZ1.out.size (fun g hg => (HE1.out.lt g hg).1)
         rw [Nat.zero_add, List.nil_append] at hO2
         have hs2 := HST.out.next hB2
         have k0 : u2.cell? ⟨w.heap.size + 1, 0, none⟩ = some (.int .i64 (ck : Int)) := hs2.chg 0
         have k1 : u2.cell? ⟨w.heap.size + 1, 1, none⟩ = some (.string (mkS csrc)) := hs2.chg 1
         have k2 : u2.cell? ⟨w.heap.size + 1, 2, none⟩ = some (.string (mkS cp)) := hs2.chg 2
         have k3 : u2.cell? ⟨w.heap.size + 1, 3, none⟩ = some (.int .i64 (cb : Int)) := hs2.chg 3
         have k4 : u2.cell? ⟨w.heap.size + 1, 4, none⟩ = some (.int .i64 cz) := hs2.chg 4
         have k5 : u2.cell? ⟨w.heap.size + 1, 5, none⟩ = some (.int .i64 ct) := hs2.chg 5
         have k6 : u2.cell? ⟨w.heap.size + 1, 6, none⟩ = some (.int .i64 cc) := hs2.chg 6
         obtain ⟨p2, cap2, e2, -, -, -⟩ := own_shape hO2
         subst e2
         have HMS := Lib.hid (MADE.out u2)
         have HOS := Lib.hid (own_below (w' := u2.alloc (.cells #[.int .i64 (ck : Int), .string (mkS csrc), .string (mkS cp), .int .i64 (cb : Int), .int .i64 cz, .int .i64 ct, .int .i64 cc] 86)) hO2 ((Below.refl _ _).alloc (Nat.le_refl _) _))
         have HBS := Lib.hid (show Below u.heap.size u (u2.alloc (.cells #[.int .i64 (ck : Int), .string (mkS csrc), .string (mkS cp), .int .i64 (cb : Int), .int .i64 cz, .int .i64 ct, .int .i64 cc] 86)) from hB2.alloc hB2.size _)
         clear hO2 hg2 hs2 hB2)
      | (refine step_appendK elC _ rfl (.tmp 12) (.tmp 14) rfl u.heap.size rfl HE2.out wp wn wc (waits.flatMap encC) (R.out.waits.len) rfl (R.out.waits.at_.of_below (HST.out.bel.trans (HZ2.out.mono HST.out.bel.size))) (R.out.waits.nilp (by decide)) (flat_one encC encC_one waits) (by have := HWN.out; omega) HZ2.out.size ?_
         rintro v2 u2 hO2 hg2 _
         have hB2 := HZ2.out.grown hg2 HZ2.out.size (fun g hg => (HE2.out.lt g hg).1)
         have hgl : World.grownBy _ u2 (some u.heap.size) := hg2
         have HMS := Lib.hid (HM2.out.keep (w' := u2) (fun c o e hc => by injection e with e; injection e with e1 e2; subst e1; exact hgl.block _ hc (by simp)))
         clear hgl
         rw [Nat.zero_add, List.nil_append] at hO2
         have hs2 := HST.out.next hB2
         have k0 : u2.cell? ⟨w.heap.size + 1, 0, none⟩ = some (.int .i64 (ck : Int)) := hs2.chg 0
         have k1 : u2.cell? ⟨w.heap.size + 1, 1, none⟩ = some (.string (mkS csrc)) := hs2.chg 1
         have k2 : u2.cell? ⟨w.heap.size + 1, 2, none⟩ = some (.string (mkS cp)) := hs2.chg 2
         have k3 : u2.cell? ⟨w.heap.size + 1, 3, none⟩ = some (.int .i64 (cb : Int)) := hs2.chg 3
         have k4 : u2.cell? ⟨w.heap.size + 1, 4, none⟩ = some (.int .i64 cz) := hs2.chg 4
         have k5 : u2.cell? ⟨w.heap.size + 1, 5, none⟩ = some (.int .i64 ct) := hs2.chg 5
         have k6 : u2.cell? ⟨w.heap.size + 1, 6, none⟩ = some (.int .i64 cc) := hs2.chg 6
         obtain ⟨p2, cap2, e2, -, -, -⟩ := own_shape hO2
         subst e2
         have HOS := Lib.hid hO2
         have HBS := Lib.hid hB2
         clear hO2 hg2 hs2 hB2)
      | (refine step_appendK elC _ rfl (.tmp 12) (.tmp 14) rfl u.heap.size rfl HE3.out wp wn wc (waits.flatMap encC) (R.out.waits.len) rfl (R.out.waits.at_.of_below (HST.out.bel.trans (HZ3.out.mono HST.out.bel.size))) (R.out.waits.nilp (by decide)) (flat_one encC encC_one waits) (by have := HWN.out; omega) HZ3.out.size ?_
         rintro v2 u2 hO2 hg2 _
         have hB2 := HZ3.out.grown hg2 HZ3.out.size (fun g hg => (HE3.out.lt g hg).1)
         have hgl : World.grownBy _ u2 (some (u.heap.size + 1)) := hg2
         have HMS := Lib.hid (HM3.out.keep (w' := u2) (fun c o e hc => by injection e with e; injection e with e1 e2; subst e1; exact hgl.block _ hc (by simp)))
         clear hgl
         rw [Nat.zero_add, List.nil_append] at hO2
         have hs2 := HST.out.next hB2
         have k0 : u2.cell? ⟨w.heap.size + 1, 0, none⟩ = some (.int .i64 (ck : Int)) := hs2.chg 0
         have k1 : u2.cell? ⟨w.heap.size + 1, 1, none⟩ = some (.string (mkS csrc)) := hs2.chg 1
         have k2 : u2.cell? ⟨w.heap.size + 1, 2, none⟩ = some (.string (mkS cp)) := hs2.chg 2
         have k3 : u2.cell? ⟨w.heap.size + 1, 3, none⟩ = some (.int .i64 (cb : Int)) := hs2.chg 3
         have k4 : u2.cell? ⟨w.heap.size + 1, 4, none⟩ = some (.int .i64 cz) := hs2.chg 4
         have k5 : u2.cell? ⟨w.heap.size + 1, 5, none⟩ = some (.int .i64 ct) := hs2.chg 5
         have k6 : u2.cell? ⟨w.heap.size + 1, 6, none⟩ = some (.int .i64 cc) := hs2.chg 6
         obtain ⟨p2, cap2, e2, -, -, -⟩ := own_shape hO2
         subst e2
         have HOS := Lib.hid hO2
         have HBS := Lib.hid hB2
         clear hO2 hg2 hs2 hB2)
      | (refine step_appendK elC _ rfl (.tmp 15) (.tmp 17) rfl u.heap.size rfl HOS.out (some _) 1 1 (encC ⟨ck, csrc, ⟨cp, cb, cz, ct, cc⟩⟩) rfl rfl HMS.out (fun e => by cases e) (encC_one _) (by have := HWN.out; omega) HBS.out.size ?_
         rintro v4 u4 hO4 hg4 _
         have hB4 := HBS.out.grown hg4 HBS.out.size (fun g hg => (HOS.out.lt g hg).1)
         have hs4 := HST.out.next hB4
         have b5 : u4.cell? ⟨w.heap.size, 5, none⟩ = some (.slice wp wn wc) := hs4.dsk 5
         have b5f : u4.frozen? ⟨w.heap.size, 5, none⟩ = false := hs4.free 5
         replace hO4 := own_lower hO4 HST.out.size
         obtain ⟨p4, c4, e4, -, -, -⟩ := own_shape hO4
         subst e4
         have HS4 := Lib.hid (hs4.set 5 (by show 5 < 6; decide) (.slice p4 (wn + 1) c4))
         have HO4 := Lib.hid (own_far (j := 5) (x := .slice p4 (wn + 1) c4) hO4)
         have HF4 := Lib.hid (show OwnF _ _ _ _ from own_far (j := 5) (x := .slice p4 (wn + 1) c4) (own_below HOF.out hB4))
         clear hO4 hg4 hs4 hB4))
    all_goals exact HK2 _ _ _ _ _ _ _ _ _ p4 c4 HS4.out HF4.out HO4.out
  have H0 := Lib.hid (show ((W3.alloc (.cells #[] 71)).drew).ownsRow W3.heap.size 71 5 (.slice (some ⟨W3.heap.size, 0, none⟩) 0 0) 0 [] from own_empty W3 W3.heap.size (Nat.le_refl _))
  have HZ0 := Lib.hid (show Below W3.heap.size W3 (W3.alloc (.cells #[] 71)).drew from ((Below.refl _ _).alloc (Nat.le_refl _) _).drew)
  have HST := Lib.hid hst3
  have HLS := Lib.hid (show LsC (W3.alloc (.cells #[] 71)).drew sp (seen.flatMap encF) from (R.out.seen.at_.of_below ((hst3.alloc _).drew).bel))
  clear hst3
  go_region_law (first
    | (refine step_appendK elF _ rfl (.tmp 5) (.tmp 7) rfl W3.heap.size rfl H0.out sp sn sc (seen.flatMap encF) (R.out.seen.len) rfl HLS.out (R.out.seen.nilp (by decide)) (flat_one encF encF_one seen) (by have := HSN.out; omega) HZ0.out.size ?_
       rintro v2 w2 hO2 hg2 _
       rw [Nat.zero_add, List.nil_append] at hO2
       have hs2 := HST.out.next (HZ0.out.grown hg2 HZ0.out.size (fun g hg => (H0.out.lt g hg).1))
       replace hO2 := own_lower hO2 HST.out.size
       have k0 : w2.cell? ⟨w.heap.size + 1, 0, none⟩ = some (.int .i64 (ck : Int)) := hs2.chg 0
       have k1 : w2.cell? ⟨w.heap.size + 1, 1, none⟩ = some (.string (mkS csrc)) := hs2.chg 1
       have k2 : w2.cell? ⟨w.heap.size + 1, 2, none⟩ = some (.string (mkS cp)) := hs2.chg 2
       have k3 : w2.cell? ⟨w.heap.size + 1, 3, none⟩ = some (.int .i64 (cb : Int)) := hs2.chg 3
       have k4 : w2.cell? ⟨w.heap.size + 1, 4, none⟩ = some (.int .i64 cz) := hs2.chg 4
       have k5 : w2.cell? ⟨w.heap.size + 1, 5, none⟩ = some (.int .i64 ct) := hs2.chg 5
       have k6 : w2.cell? ⟨w.heap.size + 1, 6, none⟩ = some (.int .i64 cc) := hs2.chg 6
       obtain ⟨p2, cap2, e2, -, -, -⟩ := own_shape hO2
       subst e2
       have HDC := Lib.hid (HDO.out w2 p2 cap2 (by unfold OwnF; rw [R.out.sn]; exact hO2) hs2.size)
       have HS2 := Lib.hid hs2
       clear hO2 hg2 hs2)
    | (go_simp; go_at_call 42
       with_reducible refine HDC.out.mono ?_
       rintro e w3 ⟨p3, c3, rfl, hO3, hB3⟩
       have hs3 := HS2.out.next hB3
       have b3 : w3.cell? ⟨w.heap.size, 3, none⟩ = some (.slice sp sn sc) := hs3.dsk 3
       have b3f : w3.frozen? ⟨w.heap.size, 3, none⟩ = false := hs3.free 3
       have HS3 := Lib.hid (hs3.set 3 (by show 3 < 6; decide) (.slice p3 (doL seen ⟨ck, csrc, ⟨cp, cb, cz, ct, cc⟩⟩).length c3))
       have HO3 := Lib.hid (own_far (j := 3) (x := .slice p3 (doL seen ⟨ck, csrc, ⟨cp, cb, cz, ct, cc⟩⟩).length c3) hO3)
       clear hs3 hO3 hB3))
  all_goals exact HK1 _ _ _ _ _ _ _ _ p3 c3 HS3.out HO3.out
end Go.Proofs.YtbijgbjlljaolaaGreatDoor
/- The reference's Used, Sync. -/
namespace Go.Proofs.YtbijgbjlljaolaaGreatDoor
open Go Go.RowKit

set_option maxHeartbeats 4000000 in
theorem refUsed_any (G : Nat → Prop) (m : Dk) (h : Hd) (hn : h.sn < 90000) (hin : InB m) (hsb : ShortB m) (w : World) (r : RfG G w m h) : Calls Tryz.prog 27 #[aggD m h] w fun e w' => e = .returned (.int .i64 (usedL m : Int)) ∧ Below w.heap.size w w' := by
  have R := Lib.hid r
  have HIN := Lib.hid hin
  have HSB := Lib.hid hsb
  have HL := Lib.hid r.sn
  have hbx := boxD_cell w m h
  have c2 : (w.alloc (boxD m h)).cell? ⟨w.heap.size, 2, none⟩ = some (.slice h.bp h.bn h.bc) := hbx 2
  have c3 : (w.alloc (boxD m h)).cell? ⟨w.heap.size, 3, none⟩ = some (.slice h.sp h.sn h.sc) := hbx 3
  have HB := Lib.hid (show Below w.heap.size w (w.alloc (boxD m h)) from (Below.refl _ _).alloc (Nat.le_refl _) _)
  obtain ⟨W1, hW1⟩ : ∃ W1, w.alloc (boxD m h) = W1 := ⟨_, rfl⟩
  have e1 : w.alloc (.cells #[.int .i64 m.room, .int .i64 m.count, .slice h.bp h.bn h.bc, .slice h.sp h.sn h.sc, .slice h.fp h.fn h.fc, .slice h.wp h.wn h.wc] 31) = W1 := hW1
  rw [hW1] at c2 c3 HB
  have HE := Lib.hid e1
  have R1 := Lib.hid (R.out.of_below HB.out)
  unfold aggD
  clear hbx r hin hsb hW1 e1
  go_enter Tryz.func27, Tryz.ntmps27
  go_wp2
  rw [HE.out]
  go_loopw [3, 4, 8] (fun v3 v4 v8 wr => ∃ k : Nat, k ≤ h.sn ∧ v8 = .int .i64 k ∧ v3 = .int .i64 (usedTo m k : Int) ∧ Dr W1 wr) (fun v3 v4 v8 _ => h.sn - (intOf v8).toNat)
  case atStart => exact ⟨0, Nat.zero_le _, rfl, rfl, Dr.refl _⟩
  case round =>
    obtain ⟨k, hk, rfl, rfl, hD⟩ := hrel
    have HD := Lib.hid hD
    have b2 : wr.cell? ⟨w.heap.size, 2, none⟩ = some (.slice h.bp h.bn h.bc) := by rw [hD.cell]; exact c2
    have b3 : wr.cell? ⟨w.heap.size, 3, none⟩ = some (.slice h.sp h.sn h.sc) := by rw [hD.cell]; exact c3
    by_cases hlt : k < h.sn
    · have z1 : (k : Int) < (h.sn : Int) := by omega
      have z2 : decide ((k : Int) < (h.sn : Int)) = true := decide_eq_true z1
      have hw := i64s k (by omega)
      have hkl : k < m.seen.length := by rw [HL.out]; exact hlt
      obtain ⟨f, hf⟩ : ∃ f, m.seen.getD k fl0 = f := ⟨_, rfl⟩
      obtain ⟨c0, o0, hpe, _, hx⟩ := R1.out.seen.files.cell (i := k) (j := 1) hlt (u := .int .i64 (f.body : Int)) (by rw [hf]; rfl)
      rw [← Nat.add_assoc] at hx
      have hbn : f.body < h.bn := by rw [← R.out.bodies.len, ← hf]; exact HIN.out k hkl
      obtain ⟨c4, o4, q, c5, hpe2, _, hy, _⟩ := R1.out.bodies.head hbn
      have HU := Lib.hid (usedTo_succ m k hkl)
      have hbl : (m.bodies.getD f.body []).length ≤ 300000 := HSB.out _
      have hul := usedTo_le m HSB.out k
      have hbd : bodyL m f = m.bodies.getD f.body [] := rfl
      rw [hf, hbd] at HU
      obtain ⟨bl, hble⟩ : ∃ bl, (m.bodies.getD f.body []).length = bl := ⟨_, rfl⟩
      rw [hble] at HU hbl hy
      obtain ⟨ut, hut⟩ : ∃ ut, usedTo m k = ut := ⟨_, rfl⟩
      rw [hut] at HU hul
      have hy2 : wr.cell? ⟨c4, o4 + f.body, none⟩ = some (.slice q bl c5) := by rw [hD.cell]; exact hy
      have hx2 : wr.cell? ⟨c0, o0 + k * 5 + 1, none⟩ = some (.int .i64 (f.body : Int)) := by rw [hD.cell]; exact hx
      have q1 : (0 : Int) ≤ (f.body : Int) := by omega
      have q2 : (f.body : Int) < (h.bn : Int) := by omega
      have hws : IntKind.i64.wrap ((ut : Int) + (bl : Int)) = (ut : Int) + (bl : Int) := by rw [IntKind.wrap_i64]; omega
      rw [hpe] at b3
      rw [hpe2] at b2
      rw [hut]
      clear hx hy hD hble hut hf hbd hkl hbn hpe hpe2
      go_wp2
      go_quiet (fail)
      go_wp2
      exact ⟨⟨k + 1, by omega, by go_num, by rw [HU.out]; push_cast; rfl, HD.out.drewN nq⟩, by simp [intOf]; omega⟩
    · obtain rfl : k = h.sn := by omega
      have z1 : ¬ (h.sn : Int) < (h.sn : Int) := by omega
      have z2 : decide ((h.sn : Int) < (h.sn : Int)) = false := decide_eq_false z1
      have hall : usedTo m h.sn = usedL m := by rw [← HL.out]; exact usedTo_all m
      rw [hall]
      clear hall hD
      go_wp2
      go_ret
      exact ⟨rfl, HB.out.trans (HD.out.below _)⟩
end Go.Proofs.YtbijgbjlljaolaaGreatDoor
