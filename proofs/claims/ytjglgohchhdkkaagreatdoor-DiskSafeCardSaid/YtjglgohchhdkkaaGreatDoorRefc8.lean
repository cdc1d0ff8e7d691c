/- The reference's do: a change, to files. -/
import Derived.Test.YtjglgohchhdkkaaGreatDoorRefb8
import Derived.Deep.QuietTactic
import Derived.RegionTactic
import Derived.Deep.RegionLaw
set_option linter.unusedSimpArgs false
set_option linter.unusedVariables false
namespace Go.Proofs.YtjglgohchhdkkaaGreatDoor
open Go Go.RowKit

def aggC (c : Ch) : Value := .agg #[.int .i64 (c.kind : Int), .string (mkS c.src), .string (mkS c.file.p), .int .i64 (c.file.body : Int), .int .i64 c.file.size, .int .i64 c.file.time, .int .i64 c.file.chg]
/-- The box of a change. -/
def boxC (k : Nat) (src : S8) (f : Fl) : Obj := .cells #[.int .i64 (k : Int), .string (mkS src), .string (mkS f.p), .int .i64 (f.body : Int), .int .i64 f.size, .int .i64 f.time, .int .i64 f.chg] 86
theorem boxC_cell (w : World) (k : Nat) (src : S8) (f : Fl) (j : Nat) : (w.alloc (boxC k src f)).cell? ⟨w.heap.size, j, none⟩ = (encC ⟨k, src, f⟩)[j]? := by
  have h := World.alloc_heap_new w (boxC k src f)
  unfold boxC at *
  rw [cell_of_row _ w.heap.size j _ _ (0, 0) h]
  simp [encC, encF]
/-- without, called further on. -/
theorem without_on {N : Nat} {w : World} (l : List Fl) (q : Option Addr) (n cap : Nat) (s : S8) (cl : Bool) (hn : n < 1000000) (hs : s.length < 100000) (hsh : ShortF l) (h : LsF w q n cap l) (hN : N ≤ w.heap.size) (u : World) (hu : Below w.heap.size w u) :
    Calls Tryz.prog 56 #[.slice q n cap, .string (mkS s), .bool cl] u fun e w' => ∃ v, e = .returned v ∧ OwnF w' N v (withoutL l s cl) ∧ Below u.heap.size u w' :=
  (refWithout_any l q n cap s cl hn hs hsh u (h.of_below hu)).mono fun e w' ⟨v, e1, e2, e3⟩ => ⟨v, e1, own_lower e2 (Nat.le_trans hN hu.size), e3⟩
theorem own_more {w : World} {base : Nat} {v : Value} {l : List Fl} {f : Fl} (h : w.ownsRow base 71 5 v (l.length + 1) (l.flatMap encF ++ encF f)) : OwnF w base v (l ++ [f]) := by
  unfold OwnF
  rw [List.length_append, List.flatMap_append]
  simpa using h
set_option maxHeartbeats 4000000 in
theorem refDo_write (l : List Fl) (q : Option Addr) (n cap : Nat) (src : S8) (f : Fl) (hn : n < 100000) (hs : f.p.length < 100000) (hsh : ShortF l) (w : World) (h : LsF w q n cap l) :
    Calls Tryz.prog 42 #[.slice q n cap, aggC ⟨1, src, f⟩] w fun e w' => ∃ v, e = .returned v ∧ OwnF w' w.heap.size v (withoutL l f.p true ++ [f]) ∧ Below w.heap.size w w' := by
  have HW := Lib.hid (without_on (N := w.heap.size) l q n cap f.p true (by omega) hs hsh h (Nat.le_refl _))
  have hLen := withoutL_le l f.p true
  have HX := Lib.hid (show (withoutL l f.p true).length + 1 < 100000000 by rw [h.len] at hLen; omega)
  have hb := boxC_cell w 1 src f
  have HBX := Lib.hid (show Below w.heap.size w (w.alloc (boxC 1 src f)) from (Below.refl _ _).alloc (Nat.le_refl _) _)
  obtain ⟨x, fb, fs, ft, fc⟩ := f
  have HB1 := Lib.hid (show Below w.heap.size w (w.alloc (boxC 1 src ⟨x, fb, fs, ft, fc⟩)).drew from HBX.out.drew)
  have HB2 := Lib.hid (show Below w.heap.size w ((w.alloc (boxC 1 src ⟨x, fb, fs, ft, fc⟩)).alloc (.cells (encF ⟨x, fb, fs, ft, fc⟩).toArray 71)).drew from (HBX.out.alloc HBX.out.size _).drew)
  have hmd := LsC.made (w.alloc (boxC 1 src ⟨x, fb, fs, ft, fc⟩)) (encF ⟨x, fb, fs, ft, fc⟩) 71
  rw [World.size_alloc] at hmd
  have HMD := Lib.hid hmd
  clear hmd
  generalize withoutL l x true = Y at *
  unfold aggC
  dsimp only at *
  clear hsh h hLen
  go_enter Tryz.func42, Tryz.ntmps42
  go_wp2
  go_region_law (first
    | (go_simp; go_at_call 56
       first
         | (refine (HW.out _ HB1.out).mono ?_
            rintro e w2 ⟨v, rfl, hO, hB⟩
            have hk := fun j u (hu : (encC ⟨1, src, ⟨x, fb, fs, ft, fc⟩⟩)[j]? = some u) => (show w2.cell? ⟨w.heap.size, j, none⟩ = some u from by rw [hB.cell (p := ⟨w.heap.size, j, none⟩) (by simp)]; exact (hb j).trans hu)
            have k2 := hk 2 _ rfl
            have k3 := hk 3 _ rfl
            have k4 := hk 4 _ rfl
            have k5 := hk 5 _ rfl
            have k6 := hk 6 _ rfl
            have HBw := Lib.hid (HB1.out.trans (hB.mono HB1.out.size))
            have HOA := Lib.hid (own_below (w' := w2.alloc (.cells (encF ⟨x, fb, fs, ft, fc⟩).toArray 71)) hO ((Below.refl _ _).alloc (Nat.le_refl _) _))
            have HMA := Lib.hid (LsC.made w2 (encF ⟨x, fb, fs, ft, fc⟩) 71)
            have HBA := Lib.hid (HBw.out.alloc HBw.out.size (.cells (encF ⟨x, fb, fs, ft, fc⟩).toArray 71))
            obtain ⟨p2, cap2, e2, -, -⟩ := hO.shape
            subst e2
            clear hk hB hO)
         | (refine (HW.out _ HB2.out).mono ?_
            rintro e w2 ⟨v, rfl, hO, hB⟩
            have HBA := Lib.hid (HB2.out.trans (hB.mono HB2.out.size))
            have HOA := Lib.hid hO
            have HMA := Lib.hid (HMD.out.keep (w' := w2) (fun c o e hc => hB.block c hc))
            obtain ⟨p2, cap2, e2, -, -⟩ := hO.shape
            subst e2
            clear hB hO))
    | (refine step_appendK elF _ rfl (.tmp 15) (.tmp 18) rfl w.heap.size rfl HOA.out (some _) 1 1 (encF ⟨x, fb, fs, ft, fc⟩) rfl rfl HMA.out (fun e => by cases e) (encF_one _) HX.out HBA.out.size ?_
       rintro v4 w4 hO4 hg4 _
       have HO4 := Lib.hid hO4
       have HB4 := Lib.hid (HBA.out.grown hg4 HBA.out.size (fun g hg => (HOA.out.lt g hg).1))
       clear hO4 hg4))
  all_goals
    go_wp2
    go_ret
    exact ⟨_, rfl, own_more HO4.out, HB4.out⟩
end Go.Proofs.YtjglgohchhdkkaaGreatDoor
