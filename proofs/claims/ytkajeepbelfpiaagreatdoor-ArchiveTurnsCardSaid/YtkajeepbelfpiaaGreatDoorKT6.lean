/- Merged texts: Put8, Cls8, Lsg8, Disk8, Dkd8, Lib8, Cln8, Arc11, Own11, Cut10, Cuts10, AppL6, Rct10, RefS7, RefK7, Gdm10, Rof10, Rog10, RdBP6. -/
import Derived.OwnWalk
import Derived.Test.YtkajeepbelfpiaaGreatDoorKT5
import Derived.Test.YtkajeepbelfpiaaGreatDoorKT2
import Derived.Test.YtkajeepbelfpiaaGreatDoorOwnK8
import Derived.Test.YtkajeepbelfpiaaGreatDoorStr7
import Derived.Shelf.SlGeneric
import Derived.Shelf.LaysM
import Derived.Shelf.Strconv.Clone
import Derived.Shelf.Sort.Plain
import Derived.Shelf.Slices.In.SortNone
import Derived.Shelf.SlIter.Nil
import Derived.Ground.GgzProg
import Derived.Test.YtkajeepbelfpiaaGreatDoorProg
import Derived.Shelf.SlMaps.Clone
import Derived.Test.YtkajeepbelfpiaaGreatDoorKT4
import Derived.RegionTactic
import Derived.Maps.AppendAt
import Derived.Test.YtkajeepbelfpiaaGreatDoorBytes
import Derived.Test.YtkajeepbelfpiaaGreatDoorKT1
set_option linter.unusedSimpArgs false
set_option linter.unusedVariables false
/- The program's put: what clashes is removed, then the file is laid into the map. -/
set_option maxRecDepth 100000
namespace Go.Proofs.YtkajeepbelfpiaaGreatDoor
open Go Go.RowKit
attribute [-go_sem] Sha.exec_store

theorem mapT : Tryz.prog.underlying 127 = some (.map 9 196) := by kernel_rfl
set_option maxHeartbeats 1000000 in
/-- The closure that says which are to be removed. -/
theorem putC_any (other p : S8) (a t c : Int) (q : Option Addr) (n k : Nat) (bx : Nat) (w : World) (hb : w.cell? ⟨bx, 0, none⟩ = some (.string (mkS p))) (ho : other.length < 100000) (hp : p.length < 100000) :
    Calls Tryz.prog 193 #[.string (mkS other), .agg #[.int .i64 a, .int .i64 t, .int .i64 c, .slice q n k], .pointer (some ⟨bx, 0, none⟩)] w fun e w' => e = .returned (.bool (clashL other p)) ∧ Below w.heap.size w w' := by
  have hbl := World.block_lt_of_cell? w _ hb
  have HC := Lib.hid (fun u => clash_any other p u ho hp)
  have hB := (Below.refl w.heap.size w).alloc (Nat.le_refl _) (.cells #[.int .i64 a, .int .i64 t, .int .i64 c, .slice q n k] 196)
  have HB := Lib.hid hB
  have hb2 := (hB.cell hbl).trans hb
  have HR := Lib.hid (show clashL other p = (inL other p || inL p other) from rfl)
  generalize clashL other p = r at *
  clear hB
  go_enter Tryz.func193, Tryz.ntmps193
  go_wp2_with fail
  refine (HC.out _).mono ?_
  rintro e w2 ⟨rfl, hB2⟩
  have HB2 := Lib.hid (HB.out.trans (hB2.mono HB.out.size))
  clear hB2
  go_wp2
  go_ret
  exact ⟨by rw [HR.out]; rfl, HB2.out⟩
theorem delV_cons {l r : List (S8 × Value)} {k : S8} {v : Value} (hn : (l.map (·.1)).Nodup) (hp : l.Perm ((k, v) :: r)) : (delV l k).Perm r := by
  have h2 := ((hp.map (·.1)).nodup_iff).1 hn
  rw [List.map_cons, List.nodup_cons] at h2
  have h3 := hp.filter (fun x => x.1 != k)
  have h4 : r.filter (fun x => x.1 != k) = r := List.filter_eq_self.2 (fun x hx => by
    rw [bne_iff_ne]
    intro e
    exact h2.1 (by show k ∈ _; rw [← e]; exact List.mem_map.2 ⟨x, hx, rfl⟩))
  rw [List.filter_cons_of_neg (by simp), h4] at h3
  exact h3
theorem below_grown {w w' : World} (h : Below w.heap.size w w') (row : Option Nat) : w.grownBy w' row := ⟨h.os, h.tape, h.output, h.size, fun i hi _ => h.block i hi⟩
set_option maxHeartbeats 4000000 in
/-- maps.DeleteFunc at that closure. -/
theorem delF_any (sl : Nat → Hn) (l : List Fl) (p : S8) (bx mb : Nat) (w : World) (h : MpB w mb (l.map (entV sl))) (hb : w.cell? ⟨bx, 0, none⟩ = some (.string (mkS p))) (hp : p.length < 100000) (hs : ShortF l) (hbm : bx ≠ mb) :
    Calls Tryz.prog 192 #[.map (some mb), .func (.func 193) #[] #[.pointer (some ⟨bx, 0, none⟩)]] w fun e w' => e = .returned (.tuple #[]) ∧ MpB w' mb ((l.map (entV sl)).filter fun x => !clashL x.1 p) ∧ w.grownBy w' (some mb) := by
  have hbl := World.block_lt_of_cell? w _ hb
  have hml := h.lt
  have H := Lib.hid h
  have HBX := Lib.hid hb
  have HS := Lib.hid hs
  clear h hb
  go_enter Tryz.func192, Tryz.ntmps192
  go_wp2_with (first | (at_range; refine wpl_range8 _ rfl _ rfl mapT rfl H.out ?_; intro w0 hR0 hB0 hz0) | go_in)
  go_loopw [8] (fun _ wr => ∃ done todo : List (S8 × Value), (l.map (entV sl)).Perm (done ++ todo) ∧ RngB wr mb w.heap.size ((done.filter fun x => !clashL x.1 p) ++ todo) todo ∧ w.grownBy wr (some mb)) (fun _ wr => wr.rangeLeft mb w.heap.size)
  case atStart => exact ⟨[], l.map (entV sl), by simp, hR0, ⟨hB0.os, hB0.tape, hB0.output, hB0.size, fun k hk _ => hB0.block k hk⟩⟩
  case round =>
    obtain ⟨done, todo, hperm, hR, hG⟩ := hrel
    have HPM := Lib.hid hperm
    have HG := Lib.hid hG
    clear hperm hG
    go_wp2_with (first | (at_next; refine wpl_next8 _ rfl _ rfl rfl hR ?_ ?_) | go_in)
    · intro htodo
      subst htodo
      go_wp2
      go_end0
      refine ⟨rfl, ?_, HG.out⟩
      have := hR.map
      rw [List.append_nil] at this
      refine this.of_perm ?_
      have hp2 := HPM.out
      rw [List.append_nil] at hp2
      exact (hp2.filter _).symm
    · intro k v todo' w1 hp1 hm1 hR1 hen hg1 hz1
      have hkv : (k, v) ∈ l.map (entV sl) := HPM.out.mem_iff.2 (List.mem_append_right _ (hp1.mem_iff.2 List.mem_cons_self))
      obtain ⟨f, hf, hfe⟩ := List.mem_map.1 hkv
      unfold entV at hfe
      injection hfe with hfk hfv
      have hks : k.length < 100000 := by
        obtain ⟨j, hj, rfl⟩ := List.getElem_of_mem hf
        have := HS.out j
        rw [List.getD_eq_getElem?_getD, List.getElem?_eq_getElem hj] at this
        rw [← hfk]
        simp at this
        omega
      have hG1 : w.grownBy w1 (some mb) := HG.out.andThen hg1 (fun j hj => by cases hj; exact .inl (Nat.le_refl _))
      have HG1 := Lib.hid hG1
      have hbx1 : w1.cell? ⟨bx, 0, none⟩ = some (.string (mkS p)) := by
        rw [World.cell?_of_block (w := w) (hG1.block bx hbl (by simpa using hbm))]
        exact HBX.out
      have hbl1 : bx < w1.heap.size := Nat.lt_of_lt_of_le hbl hG1.size
      have hB1 := (Below.refl w1.heap.size w1).alloc (Nat.le_refl _) (.cells (fileC sl f) 196)
      have hbx2 := (hB1.cell hbl1).trans hbx1
      have HC := Lib.hid (putC_any k p f.size f.time f.chg (sl f.body).q (sl f.body).n (sl f.body).c bx (w1.alloc (.cells (fileC sl f) 196)) hbx2 hks hp)
      have HR1 := Lib.hid (hR1.of_below hB1)
      have HB1 := Lib.hid hB1
      subst hfv
      have HM := Lib.hid hm1
      have HP1 := Lib.hid hp1
      have HRL := Lib.hid hR.left
      have HNW := Lib.hid (Nat.le_trans (Nat.le_of_eq rfl) (Nat.lt_of_lt_of_le hR.lt (Nat.le_of_eq hz1.symm)))
      have hkl : ∀ x ∈ todo', x.1 ≠ k := by
        have hnd := hR1.map.keys
        intro x hx e
        have hsub : ((k, fileV sl f) :: todo').Sublist ((k, fileV sl f) :: todo') := List.Sublist.refl _
        have hnd2 : ((todo).map (·.1)).Nodup := by
          rw [List.map_append] at hnd
          exact (List.nodup_append.1 hnd).2.1
        have hnd3 := ((hp1.map (·.1)).nodup_iff).1 hnd2
        rw [List.map_cons, List.nodup_cons] at hnd3
        exact hnd3.1 (by show k ∈ _; rw [← e]; exact List.mem_map.2 ⟨x, hx, rfl⟩)
      have HKL := Lib.hid hkl
      clear hB1 hg1 hR hR1 hG1 hbx1 hbx2 hkv hm1 hp1 hz1 hkl
      unfold fileV fileC at *
      go_wp2_with fail
      refine HC.out.mono ?_
      rintro e w2 ⟨rfl, hB2⟩
      have HR2 := Lib.hid (HR1.out.of_below hB2)
      have hgrow : w.grownBy w2 (some mb) := HG1.out.andThen (show w1.grownBy w2 none from ⟨hB2.os.trans HB1.out.os, hB2.tape.trans HB1.out.tape, hB2.output.trans HB1.out.output, Nat.le_trans HB1.out.size hB2.size, fun i hi _ => (hB2.block i (Nat.lt_of_lt_of_le hi HB1.out.size)).trans (HB1.out.block i hi)⟩) (fun j hj => by cases hj)
      have HG2 := Lib.hid hgrow
      clear hgrow hB2 hen
      cases hc : clashL k p with
      | true =>
        have HCL := Lib.hid hc
        clear hc
        go_wp2_with (first | (refine wpl_drop8 _ rfl _ _ rfl mapT strT rfl HR2.out k rfl HKL.out ?_; intro w3 hR3 hg3 hz3; simp only [Act.put]) | go_in)
        go_roundw
        case rel =>
          refine ⟨(k, fileV sl f) :: done, todo', ?_, ?_, HG2.out.andThen hg3 (fun j hj => .inr hj)⟩
          · exact HPM.out.trans (((HP1.out.append_left done).trans List.perm_middle))
          · refine hR3.of_perm ?_
            rw [List.filter_cons_of_neg (by simpa using HCL.out)]
            exact delV_cons HR2.out.map.keys ((HP1.out.append_left _).trans List.perm_middle)
        case measure => rw [hR3.left, HRL.out, HP1.out.length_eq]; simp
      | false =>
        have HCL := Lib.hid hc
        clear hc
        go_wp2
        go_roundw
        case rel =>
          refine ⟨(k, fileV sl f) :: done, todo', ?_, ?_, HG2.out⟩
          · exact HPM.out.trans (((HP1.out.append_left done).trans List.perm_middle))
          · refine HR2.out.of_perm ?_
            rw [List.filter_cons_of_pos (by simpa using HCL.out)]
            exact ((HP1.out.append_left _).trans List.perm_middle)
        case measure => rw [HR2.out.left, HRL.out, HP1.out.length_eq]; simp
theorem box4_cell (w : World) (T : TypeId) (a b c d : Value) (j : Nat) : (w.alloc (.cells #[a, b, c, d] T)).cell? ⟨w.heap.size, j, none⟩ = [a, b, c, d][j]? := by
  unfold World.cell?
  rw [World.alloc_heap_new]
  simp
set_option maxHeartbeats 4000000 in
/-- put: what clashes is removed; the file is laid. -/
theorem put_any (sl : Nat → Hn) (l : List Fl) (p : S8) (f : Fl) (hf : f.p = p) (mb : Nat) (w : World) (h : MpB w mb (l.map (entV sl))) (hp : p.length < 100000) (hs : ShortF l) :
    Calls Tryz.prog 163 #[.map (some mb), .string (mkS p), fileV sl f] w fun e w' => e = .returned (.tuple #[]) ∧ MpB w' mb ((withoutL l p true ++ [f]).map (entV sl)) ∧ w.grownBy w' (some mb) := by
  have hml := h.lt
  have HPF := Lib.hid (putV_ent sl l p f hf)
  have hB0 := ((Below.refl w.heap.size w).alloc (Nat.le_refl _) (.cells #[.string (mkS p)] 9))
  have hB1 := hB0.alloc hB0.size (.cells (fileC sl f) 196)
  have hc0 : ((w.alloc (.cells #[.string (mkS p)] 9)).alloc (.cells (fileC sl f) 196)).cell? ⟨w.heap.size, 0, none⟩ = some (.string (mkS p)) := by
    rw [World.cell?_of_block (w := w.alloc (.cells #[.string (mkS p)] 9)) (((Below.refl _ (w.alloc (.cells #[.string (mkS p)] 9))).alloc (Nat.le_refl _) (.cells (fileC sl f) 196)).block w.heap.size (by rw [World.size_alloc]; omega))]
    exact World.cell?_alloc_new _ _ _ _
  have HD := Lib.hid (delF_any sl l p w.heap.size mb _ (h.of_below hB1) hc0 hp hs (by omega))
  have hcf : ∀ j, ((w.alloc (.cells #[.string (mkS p)] 9)).alloc (.cells (fileC sl f) 196)).cell? ⟨w.heap.size + 1, j, none⟩ = (fileC sl f).toList[j]? := fun j => by
    have := box4_cell (w.alloc (.cells #[.string (mkS p)] 9)) 196 (.int .i64 f.size) (.int .i64 f.time) (.int .i64 f.chg) (.slice (sl f.body).q (sl f.body).n (sl f.body).c) j
    rw [World.size_alloc] at this
    exact this
  have hsz : ((w.alloc (.cells #[.string (mkS p)] 9)).alloc (.cells (fileC sl f) 196)).heap.size = w.heap.size + 2 := by rw [World.size_alloc, World.size_alloc]
  have HB1 := Lib.hid hB1
  have HC0 := Lib.hid hc0
  have HCF := Lib.hid hcf
  have HSZ := Lib.hid hsz
  clear hB0 hB1 hc0 hcf hsz h
  unfold fileV fileC at *
  go_enter Tryz.func163, Tryz.ntmps163
  go_wp2_with fail
  refine HD.out.mono ?_
  rintro e w2 ⟨rfl, hM2, hg2⟩
  have HG := Lib.hid ((below_grown HB1.out (some mb)).andThen hg2 (fun j hj => .inr hj))
  have hk0 : w2.cell? ⟨w.heap.size, 0, none⟩ = some (.string (mkS p)) := by
    rw [World.cell?_of_block (hg2.block w.heap.size (by rw [HSZ.out]; omega) (by simp; omega))]
    exact HC0.out
  have hkf : ∀ j, w2.cell? ⟨w.heap.size + 1, j, none⟩ = [Value.int .i64 f.size, .int .i64 f.time, .int .i64 f.chg, .slice (sl f.body).q (sl f.body).n (sl f.body).c][j]? := fun j => by
    rw [World.cell?_of_block (hg2.block (w.heap.size + 1) (by rw [HSZ.out]; omega) (by simp; omega))]
    exact HCF.out j
  have f0 := hkf 0
  have f1 := hkf 1
  have f2 := hkf 2
  have f3 := hkf 3
  simp at f0 f1 f2 f3
  have HM2 := Lib.hid hM2
  clear hkf hg2 hM2 HD
  go_wp2_with (first | (refine wpl_update8 _ rfl _ _ _ rfl mapT strT rfl HM2.out p rfl _ rfl ?_; intro w3 hM3 hg3 hz3; simp only [Act.put]) | go_in)
  go_end0
  exact ⟨rfl, hM3.of_perm HPF.out, HG.out.andThen hg3 (fun j hj => .inr hj)⟩
end Go.Proofs.YtkajeepbelfpiaaGreatDoor
/- The program's changes: closures that do to a map what a change does. -/
set_option maxRecDepth 100000
namespace Go.Proofs.YtkajeepbelfpiaaGreatDoor
open Go Go.RowKit
attribute [-go_sem] Sha.exec_store

/-- A box of a string. -/
def BoxS (w : World) (b : Nat) (p : S8) : Prop := w.heap[b]? = some (.cells #[.string (mkS p)] 9 (0, 0))
/-- A box of a file. -/
def BoxF (w : World) (b : Nat) (sl : Nat → Hn) (f : Fl) : Prop := w.heap[b]? = some (.cells (fileC sl f) 196 (0, 0))
theorem BoxS.cell {w : World} {b : Nat} {p : S8} (h : BoxS w b p) : w.cell? ⟨b, 0, none⟩ = some (.string (mkS p)) := by
  unfold World.cell?
  rw [show w.heap[b]? = _ from h]
  simp
theorem BoxF.cell {w : World} {b : Nat} {sl : Nat → Hn} {f : Fl} (h : BoxF w b sl f) (j : Nat) : w.cell? ⟨b, j, none⟩ = [Value.int .i64 f.size, .int .i64 f.time, .int .i64 f.chg, .slice (sl f.body).q (sl f.body).n (sl f.body).c][j]? := by
  unfold World.cell?
  rw [show w.heap[b]? = _ from h]
  simp [fileC]
theorem BoxS.lt {w : World} {b : Nat} {p : S8} (h : BoxS w b p) : b < w.heap.size := (Array.getElem?_eq_some_iff.1 h).1
theorem BoxF.lt {w : World} {b : Nat} {sl : Nat → Hn} {f : Fl} (h : BoxF w b sl f) : b < w.heap.size := (Array.getElem?_eq_some_iff.1 h).1
/-- A value is the closure of a change; what it has captured lies where S holds. -/
inductive ClsV (w : World) (S : Nat → Prop) (sl : Nat → Hn) (c : Ch) (v : Value) : Prop
  | write (b1 b2 : Nat) (hk : c.kind = 1) (hv : v = .func (.func 162) #[] #[.pointer (some ⟨b1, 0, none⟩), .pointer (some ⟨b2, 0, none⟩)]) (h1 : BoxS w b1 c.file.p) (h2 : BoxF w b2 sl c.file) (s1 : S b1) (s2 : S b2)
  | rename (b1 b2 : Nat) (hk : c.kind = 2) (hv : v = .func (.func 167) #[] #[.pointer (some ⟨b1, 0, none⟩), .pointer (some ⟨b2, 0, none⟩)]) (h1 : BoxS w b1 c.src) (h2 : BoxS w b2 c.file.p) (s1 : S b1) (s2 : S b2)
  | remove (b1 : Nat) (hk : c.kind = 3) (hv : v = .func (.func 168) #[] #[.pointer (some ⟨b1, 0, none⟩)]) (h1 : BoxS w b1 c.src) (s1 : S b1)
theorem ClsV.keep {w w' : World} {S S' : Nat → Prop} {sl : Nat → Hn} {c : Ch} {v : Value} (h : ClsV w S sl c v) (hk : ∀ k T cs, S k → w.heap[k]? = some (.cells cs T (0, 0)) → (T = 9 ∨ T = 196) → w'.heap[k]? = w.heap[k]?) (hS : ∀ k, S k → S' k) : ClsV w' S' sl c v := by
  cases h with
  | write b1 b2 hk1 hv h1 h2 s1 s2 => exact .write b1 b2 hk1 hv ((hk b1 _ _ s1 h1 (.inl rfl)).trans h1) ((hk b2 _ _ s2 h2 (.inr rfl)).trans h2) (hS _ s1) (hS _ s2)
  | rename b1 b2 hk1 hv h1 h2 s1 s2 => exact .rename b1 b2 hk1 hv ((hk b1 _ _ s1 h1 (.inl rfl)).trans h1) ((hk b2 _ _ s2 h2 (.inl rfl)).trans h2) (hS _ s1) (hS _ s2)
  | remove b1 hk1 hv h1 s1 => exact .remove b1 hk1 hv ((hk b1 _ _ s1 h1 (.inl rfl)).trans h1) (hS _ s1)
set_option maxHeartbeats 4000000 in
theorem wrC_any (sl : Nat → Hn) (l : List Fl) (c : Ch) (b1 b2 mb : Nat) (w : World) (hk : c.kind = 1) (h : MpB w mb (l.map (entV sl))) (h1 : BoxS w b1 c.file.p) (h2 : BoxF w b2 sl c.file) (hp : c.file.p.length < 100000) (hs : ShortF l) :
    Calls Tryz.prog 162 #[.map (some mb), .pointer (some ⟨b1, 0, none⟩), .pointer (some ⟨b2, 0, none⟩)] w fun e w' => e = .returned (.tuple #[]) ∧ MpB w' mb ((doL l c).map (entV sl)) ∧ w.grownBy w' (some mb) := by
  have HP := Lib.hid (put_any sl l c.file.p c.file rfl mb w h hp hs)
  have e1 : doL l c = withoutL l c.file.p true ++ [c.file] := by unfold doL; rw [hk]; rfl
  have HE := Lib.hid e1
  have f0 := h1.cell
  have g0 := h2.cell 0
  have g1 := h2.cell 1
  have g2 := h2.cell 2
  have g3 := h2.cell 3
  simp at g0 g1 g2 g3
  clear h1 h2 h e1
  unfold fileV fileC at *
  go_enter Tryz.func162, Tryz.ntmps162
  go_wp2_with fail
  refine HP.out.mono ?_
  rintro e w2 ⟨rfl, hM2, hg2⟩
  have HM := Lib.hid hM2
  have HG := Lib.hid hg2
  clear hM2 hg2
  go_wp2
  go_end0
  exact ⟨rfl, by rw [HE.out]; exact HM.out, HG.out⟩
set_option maxHeartbeats 4000000 in
theorem rmC_any (sl : Nat → Hn) (l : List Fl) (c : Ch) (b1 mb : Nat) (w : World) (hk : c.kind = 3) (h : MpB w mb (l.map (entV sl))) (h1 : BoxS w b1 c.src) : Calls Tryz.prog 168 #[.map (some mb), .pointer (some ⟨b1, 0, none⟩)] w fun e w' => e = .returned (.tuple #[]) ∧ MpB w' mb ((doL l c).map (entV sl)) ∧ w.grownBy w' (some mb) := by
  have e1 : doL l c = withoutL l c.src false := by unfold doL; rw [hk]; rfl
  have HE := Lib.hid (e1.symm ▸ delV_ent sl l c.src)
  have f0 := h1.cell
  have HM := Lib.hid h
  clear h1 h e1
  go_enter Tryz.func168, Tryz.ntmps168
  go_wp2_with (first | (refine wpl_delete8 _ rfl _ _ rfl mapT strT rfl HM.out c.src rfl ?_; intro w3 hM3 hg3 hz3; simp only [Act.put]) | go_in)
  go_end0
  exact ⟨rfl, by rw [← HE.out]; exact hM3, hg3⟩
theorem zeroFile (w : World) : (zeroValue 196).run Tryz.prog w = .ok (.agg #[.int .i64 0, .int .i64 0, .int .i64 0, .slice none 0 0]) w := by kernel_rfl
theorem look_none {sl : Nat → Hn} {l : List Fl} {p : S8} {mb : Nat} {w : World} (h : MpB w mb (l.map (entV sl))) (hf : findL l p = none) :
    (Instr.lookup 127 (.map (some mb)) (.string (mkS p)) true).run Tryz.prog w = .ok (.tuple #[.agg #[.int .i64 0, .int .i64 0, .int .i64 0, .slice none 0 0], .bool false]) w := by
  have hl := run_lookup8 (P := Tryz.prog) mapT strT (zeroFile w) h p true
  rw [findV_ent, hf] at hl
  exact hl
theorem look_some {sl : Nat → Hn} {l : List Fl} {p : S8} {mb : Nat} {w : World} (h : MpB w mb (l.map (entV sl))) {i : Nat} (hf : findL l p = some i) (x : Fl) (hx : l.getD i fl0 = x) :
    (Instr.lookup 127 (.map (some mb)) (.string (mkS p)) true).run Tryz.prog w = .ok (.tuple #[.agg #[.int .i64 x.size, .int .i64 x.time, .int .i64 x.chg, .slice (sl x.body).q (sl x.body).n (sl x.body).c], .bool true]) w := by
  have hl := run_lookup8 (P := Tryz.prog) mapT strT (zeroFile w) h p true
  rw [findV_ent, hf] at hl
  subst hx
  exact hl
theorem without_short {l : List Fl} {p : S8} {cl : Bool} (h : ShortF l) : ShortF (withoutL l p cl) := by
  rw [shortF_iff] at h ⊢
  exact fun f hf => h f (without_mem hf)
set_option maxRecDepth 100000 in
set_option maxHeartbeats 8000000 in
theorem rnC_any (sl : Nat → Hn) (l : List Fl) (c : Ch) (b1 b2 mb : Nat) (w : World) (hk : c.kind = 2) (h : MpB w mb (l.map (entV sl))) (h1 : BoxS w b1 c.src) (h2 : BoxS w b2 c.file.p) (hp : c.file.p.length < 100000) (hs : ShortF l) (hm1 : b1 ≠ mb) (hm2 : b2 ≠ mb) :
    Calls Tryz.prog 167 #[.map (some mb), .pointer (some ⟨b1, 0, none⟩), .pointer (some ⟨b2, 0, none⟩)] w fun e w' => e = .returned (.tuple #[]) ∧ MpB w' mb ((doL l c).map (entV sl)) ∧ w.grownBy w' (some mb) := by
  have f1 := h1.cell
  cases hf : findL l c.src with
  | none =>
    have hl := look_none h hf
    have e1 : doL l c = l := by unfold doL; rw [hk]; dsimp only; rw [hf]; rfl
    have hB := ((Below.refl w.heap.size w).alloc (Nat.le_refl _) (.cells #[.int .i64 0, .int .i64 0, .int .i64 0, .slice none 0 0] 196))
    have HM := Lib.hid (h.of_below hB)
    have HG := Lib.hid (below_grown hB (some mb))
    have HE := Lib.hid e1
    clear h h1 h2 e1 hB
    go_enter Tryz.func167, Tryz.ntmps167
    go_wp2
    refine bodyPost_ret (results_none rfl _ _ _) rfl ?_
    exact ⟨rfl, by rw [HE.out]; exact HM.out, HG.out⟩
  | some i =>
    obtain ⟨x, hx⟩ : ∃ x, l.getD i fl0 = x := ⟨_, rfl⟩
    have hl := look_some h hf x hx
    have e1 : doL l c = withoutL (withoutL l c.src false) c.file.p true ++ [{ x with p := c.file.p }] := by unfold doL; rw [hk]; dsimp only; rw [hf, ← hx]; rfl
    have HE := Lib.hid e1
    have hB := ((Below.refl w.heap.size w).alloc (Nat.le_refl _) (.cells #[.int .i64 x.size, .int .i64 x.time, .int .i64 x.chg, .slice (sl x.body).q (sl x.body).n (sl x.body).c] 196))
    have HM := Lib.hid (h.of_below hB)
    have HG := Lib.hid (below_grown hB (some mb))
    have hmb := h.lt
    have hb1 := (hB.cell h1.lt).trans f1
    have HF1 := Lib.hid hb1
    have HF2 := Lib.hid ((hB.cell h2.lt).trans h2.cell)
    have HL1 := Lib.hid h1.lt
    have HL2 := Lib.hid h2.lt
    have HX := Lib.hid (box4_cell w 196 (.int .i64 x.size) (.int .i64 x.time) (.int .i64 x.chg) (.slice (sl x.body).q (sl x.body).n (sl x.body).c))
    have HS := Lib.hid (without_short (p := c.src) (cl := false) hs)
    have HK := Lib.hid (fun (w3 : World) (hg3 : (w.alloc (.cells #[.int .i64 x.size, .int .i64 x.time, .int .i64 x.chg, .slice (sl x.body).q (sl x.body).n (sl x.body).c] 196)).grownBy w3 (some mb)) => (by
      have k3 : ∀ j, w3.cell? ⟨w.heap.size, j, none⟩ = [Value.int .i64 x.size, .int .i64 x.time, .int .i64 x.chg, .slice (sl x.body).q (sl x.body).n (sl x.body).c][j]? := fun j => by
        rw [World.cell?_of_block (hg3.block w.heap.size (by rw [World.size_alloc]; omega) (by simp; omega))]
        exact HX.out j
      refine ⟨?_, k3 0, k3 1, k3 2, k3 3⟩
      rw [World.cell?_of_block (hg3.block b2 (by rw [World.size_alloc]; have := HL2.out; omega) (by simpa using hm2))]
      exact HF2.out : w3.cell? ⟨b2, 0, none⟩ = some (.string (mkS c.file.p)) ∧ w3.cell? ⟨w.heap.size, 0, none⟩ = some (.int .i64 x.size) ∧ w3.cell? ⟨w.heap.size, 1, none⟩ = some (.int .i64 x.time) ∧ w3.cell? ⟨w.heap.size, 2, none⟩ = some (.int .i64 x.chg) ∧ w3.cell? ⟨w.heap.size, 3, none⟩ = some (.slice (sl x.body).q (sl x.body).n (sl x.body).c)))
    have HPU := Lib.hid (fun (w3 : World) (hM3 : MpB w3 mb ((withoutL l c.src false).map (entV sl))) => (by exact put_any sl _ c.file.p { x with p := c.file.p } rfl mb w3 hM3 hp HS.out : Calls Tryz.prog 163 #[.map (some mb), .string (mkS c.file.p), .agg #[.int .i64 x.size, .int .i64 x.time, .int .i64 x.chg, .slice (sl x.body).q (sl x.body).n (sl x.body).c]] w3 fun e w' => e = .returned (.tuple #[]) ∧ MpB w' mb ((withoutL (withoutL l c.src false) c.file.p true ++ [{ x with p := c.file.p }]).map (entV sl)) ∧ w3.grownBy w' (some mb)))
    clear h h1 h2 e1 hB
    go_enter Tryz.func167, Tryz.ntmps167
    go_wp2_with (first | (refine wpl_delete8 _ rfl _ _ rfl mapT strT rfl HM.out c.src rfl ?_; intro w3 hM3 hg3 hz3; obtain ⟨k2, g0, g1, g2, g3⟩ := HK.out w3 hg3; rw [delV_ent] at hM3; have HM3 := Lib.hid hM3; have HG3 := Lib.hid (HG.out.andThen hg3 (fun j hj => .inr hj)); clear hM3 hg3 hz3 hl hb1 f1; simp only [Act.put]) | (go_at_call 163; refine (HPU.out _ HM3.out).mono ?_; rintro e w4 ⟨rfl, hM4, hg4⟩) | go_in)
    have HM4 := Lib.hid hM4
    have HG4 := Lib.hid (HG3.out.andThen hg4 (fun j hj => .inr hj))
    go_end0
    exact ⟨rfl, by rw [HE.out]; exact HM4.out, HG4.out⟩
end Go.Proofs.YtkajeepbelfpiaaGreatDoor
/- Bytes as cells; cells lie where a slice begins, in a block where they may. -/
set_option maxRecDepth 100000
namespace Go.Proofs.YtkajeepbelfpiaaGreatDoor
open Go Go.RowKit
attribute [-go_sem] Sha.exec_store

theorem elB : ElK 56 5 (.int .u8 0) 1 1 := ⟨by kernel_rfl, by kernel_rfl, rfl, by decide, by decide⟩
/-- Bytes as cells. -/
def bytC (b : S8) : List Value := b.map fun c => .int .u8 (c.toNat : Int)
theorem bytC_len (b : S8) : (bytC b).length = b.length := by unfold bytC; rw [List.length_map]
theorem bytC_one (b : S8) : ∀ u ∈ bytC b, u.oneCell' = true := by
  intro u hu
  unfold bytC at hu
  obtain ⟨c, _, rfl⟩ := List.mem_map.1 hu
  rfl
/-- Cells lie where a slice begins, in a block where they may. -/
structure LsG (G : Nat → Prop) (w : World) (p : Option Addr) (n cap k : Nat) (cs : List Value) : Prop where
  at_ : LsC w p cs
  len : cs.length = n * k
  may : ∀ c o, p = some ⟨c, o, none⟩ → 0 < cs.length → G c ∧ c < w.heap.size
  nil : p = none → cap = 0
  le : n ≤ cap
section
variable {G G' : Nat → Prop} {w w' : World} {p : Option Addr} {n cap k : Nat} {cs : List Value}
theorem LsG.keep (h : LsG G w p n cap k cs) (hk : ∀ c, G c → c < w.heap.size → w'.heap[c]? = w.heap[c]?) (hs : w.heap.size ≤ w'.heap.size) : LsG G w' p n cap k cs :=
  ⟨fun j hj => by
    obtain ⟨c, o, e, hc⟩ := h.at_ j hj
    have hm := h.may c o e (by omega)
    exact ⟨c, o, e, (World.cell?_of_block (w := w) (w' := w') (a := ⟨c, o + j, none⟩) (hk c hm.1 hm.2)).trans hc⟩, h.len, fun c o e hl => ⟨(h.may c o e hl).1, Nat.lt_of_lt_of_le (h.may c o e hl).2 hs⟩, h.nil, h.le⟩
theorem LsG.of_below (h : LsG G w p n cap k cs) (hB : Below w.heap.size w w') : LsG G w' p n cap k cs := h.keep (fun c _ hc => hB.block c hc) hB.size
theorem LsG.own {E : TypeId} {base : Nat} {v : Value} (h : w.ownsRow base E k v n cs) (hG : ∀ c, base ≤ c → G c) : ∃ p cap, v = .slice p n cap ∧ LsG G w p n cap k cs := by
  obtain ⟨p, cap, e, h1, h2, h3, h4⟩ := own_shape h
  exact ⟨p, cap, e, h1, h.1, fun c o ec _ => ⟨hG c (h4 c o ec).1, (h4 c o ec).2⟩, h2, h3⟩
end
end Go.Proofs.YtkajeepbelfpiaaGreatDoor
/- What the statements' walks ask of the program's package disk . -/
set_option maxRecDepth 100000
namespace Go.Proofs.YtkajeepbelfpiaaGreatDoor
open Go Go.RowKit
attribute [-go_sem] Sha.exec_store

/-- Nothing changes but blocks where S holds, and new ones. -/
structure Kq8 (S : Nat → Prop) (w w' : World) : Prop where
  os : w'.os = w.os
  tape : w'.tape = w.tape
  output : w'.output = w.output
  size : w.heap.size ≤ w'.heap.size
  block : ∀ k, k < w.heap.size → ¬ S k → w'.heap[k]? = w.heap[k]?
section
variable {S S' : Nat → Prop} {w w' w'' : World}
theorem Kq8.of_below (h : Below w.heap.size w w') : Kq8 S w w' := ⟨h.os, h.tape, h.output, h.size, fun k hk _ => h.block k hk⟩
/-- S' has grown out of S by new blocks only. -/
def GrewTo (N : Nat) (S S' : Nat → Prop) : Prop := ∀ k, S' k → S k ∨ N ≤ k
theorem GrewTo.trans {N N' : Nat} {S S' S'' : Nat → Prop} (h : GrewTo N S S') (k : GrewTo N' S' S'') (hN : N ≤ N') : GrewTo N S S'' := fun i hi => by
  rcases k i hi with x | x
  · exact h i x
  · exact .inr (Nat.le_trans hN x)
theorem Kq8.trans (h : Kq8 S w w') (g : GrewTo w.heap.size S S') (k : Kq8 S' w' w'') : Kq8 S w w'' :=
  ⟨k.os.trans h.os, k.tape.trans h.tape, k.output.trans h.output, Nat.le_trans h.size k.size, fun i hi hn => by
    rw [k.block i (Nat.lt_of_lt_of_le hi h.size) (fun x => by rcases g i x with y | y; exact hn y; omega)]
    exact h.block i hi hn⟩
end
def clampL (room : Int) : Int := min (max room 0) 1048576
/-- A file's bytes. -/
def readL (m : Dk) (p : S8) : Option S8 := (findL m.seen p).map fun i => bodyD m (m.seen.getD i fl0)
def readN (m : Dk) (p : S8) : Int := if (readL m p).isSome then 0 else 8
def fileL (m : Dk) (p : S8) : Option Fl := (findL m.seen p).map fun i => m.seen.getD i fl0
end Go.Proofs.YtkajeepbelfpiaaGreatDoor
/- The program's disk in memory: a box, two maps, the files' bytes, the pending changes. -/
set_option maxRecDepth 100000
namespace Go.Proofs.YtkajeepbelfpiaaGreatDoor
open Go Go.RowKit
attribute [-go_sem] Sha.exec_store

def Hn.v (h : Hn) : Value := .slice h.q h.n h.c
/-- The bytes of all files, each in a block of its own. -/
structure BdOk (w : World) (S : Nat → Prop) (bs : List S8) (sl : Nat → Hn) : Prop where
  own : ∀ i, i < bs.length → w.ownsRow 0 5 1 (sl i).v (bs.getD i []).length (bytC (bs.getD i []))
  in_ : ∀ i, i < bs.length → ∀ g, (sl i).v.ownBlock = some g → S g
  ap : ∀ i j, i < bs.length → j < bs.length → i ≠ j → ∀ g, (sl i).v.ownBlock = some g → (sl j).v.ownBlock ≠ some g
/-- The pending changes. -/
structure PdOk (w : World) (S : Nat → Prop) (ws : List Ch) (sl : Nat → Hn) (pv : Value) (vs : List Value) : Prop where
  own : w.ownsRow 0 193 1 pv ws.length vs
  in_ : ∀ g, pv.ownBlock = some g → S g
  cls : ∀ i (h : i < ws.length), ∃ v, vs[i]? = some v ∧ ClsV w S sl ws[i] v
structure SzOk (m : Dk) : Prop where
  seen : ∀ f ∈ m.seen, f.size = ((bodyD m f).length : Int)
  safe : ∀ f ∈ m.safe, f.size = ((bodyD m f).length : Int)
  waits : ∀ c ∈ m.waits, c.kind = 1 → c.file.size = ((bodyD m c.file).length : Int)
structure Dp (w : World) (S : Nat → Prop) (b : Nat) (m : Dk) (mv md : Nat) (pv : Value) (vs : List Value) (sl : Nat → Hn) : Prop where
  box : w.heap[b]? = some (.cells #[.int .i64 m.room, .int .i64 m.count, .map (some mv), .map (some md), pv] 130 (0, 0))
  sb : S b
  sv : S mv
  sd : S md
  ne : mv ≠ md
  vis : MpB w mv (m.seen.map (entV sl))
  dur : MpB w md (m.safe.map (entV sl))
  bod : BdOk w S m.bodies sl
  pd : PdOk w S m.waits sl pv vs
  sz : SzOk m
  low : ∀ k, S k → k < w.heap.size
theorem own_type {w : World} {base : Nat} {E : TypeId} {k n : Nat} {v : Value} {cs : List Value} (h : w.ownsRow base E k v n cs) {g : Nat} (hg : v.ownBlock = some g) : ∃ cur, w.heap[g]? = some (.cells cur E (0, 0)) := by
  rcases h.2 with ⟨hv, _⟩ | ⟨g2, cap2, cur, hv, hb2, hg2, _⟩
  · rw [hv] at hg; cases hg
  · rw [hv] at hg
    injection hg with hg
    rw [← hg]
    exact ⟨cur, hg2⟩
theorem own_slice {w : World} {base : Nat} {E : TypeId} {k n : Nat} {v : Value} {cs : List Value} (h : w.ownsRow base E k v n cs) : ∃ q c, v = .slice q n c := by
  obtain ⟨p, cap, e, _⟩ := own_shape h
  exact ⟨p, cap, e⟩
section
variable {w w' : World} {S S' : Nat → Prop} {b : Nat} {m : Dk} {mv md : Nat} {pv : Value} {vs : List Value} {sl : Nat → Hn}
theorem BdOk.keep {bs : List S8} (h : BdOk w S bs sl) (hk : ∀ k cur, S k → w.heap[k]? = some (.cells cur 5 (0, 0)) → w'.heap[k]? = w.heap[k]?) (hS : ∀ k, S k → S' k) : BdOk w' S' bs sl :=
  ⟨fun i hi => own_keep (h.own i hi) fun g hg => by obtain ⟨cur, hc⟩ := own_type (h.own i hi) hg; exact hk g cur (h.in_ i hi g hg) hc, fun i hi g hg => hS _ (h.in_ i hi g hg), h.ap⟩
theorem PdOk.keep {ws : List Ch} (h : PdOk w S ws sl pv vs) (hk : ∀ k T cs, S k → w.heap[k]? = some (.cells cs T (0, 0)) → (T = 9 ∨ T = 196 ∨ T = 193) → w'.heap[k]? = w.heap[k]?) (hS : ∀ k, S k → S' k) : PdOk w' S' ws sl pv vs :=
  ⟨own_keep h.own fun g hg => by obtain ⟨cur, hc⟩ := own_type h.own hg; exact hk g _ cur (h.in_ g hg) hc (.inr (.inr rfl)), fun g hg => hS _ (h.in_ g hg), fun i hi => by
    obtain ⟨v, e, hc⟩ := h.cls i hi
    exact ⟨v, e, hc.keep (fun k T cs h1 h2 h3 => hk k T cs h1 h2 (by rcases h3 with x | x; exact .inl x; exact .inr (.inl x))) hS⟩⟩
theorem Dp.keep (h : Dp w S b m mv md pv vs sl) (hk : ∀ k, S k → w'.heap[k]? = w.heap[k]?) (hS : ∀ k, S k → S' k) (hlow : ∀ k, S' k → k < w'.heap.size) : Dp w' S' b m mv md pv vs sl :=
  ⟨(hk b h.sb).trans h.box, hS _ h.sb, hS _ h.sv, hS _ h.sd, h.ne, h.vis.keep (hk _ h.sv), h.dur.keep (hk _ h.sd), h.bod.keep (fun k _ hs _ => hk k hs) hS, h.pd.keep (fun k _ _ hs _ _ => hk k hs) hS, h.sz, hlow⟩
theorem Dp.of_below (h : Dp w S b m mv md pv vs sl) (hB : Below w.heap.size w w') : Dp w' S b m mv md pv vs sl :=
  h.keep (fun k hk => hB.block k (h.low k hk)) (fun k hk => hk) (fun k hk => Nat.lt_of_lt_of_le (h.low k hk) hB.size)
theorem Dp.cell (h : Dp w S b m mv md pv vs sl) (j : Nat) : w.cell? ⟨b, j, none⟩ = [Value.int .i64 m.room, .int .i64 m.count, .map (some mv), .map (some md), pv][j]? := by
  unfold World.cell?
  rw [h.box]
  simp
theorem Dp.free (h : Dp w S b m mv md pv vs sl) (j : Nat) : w.frozen? ⟨b, j, none⟩ = false := by
  unfold World.frozen?
  rw [h.box]
  simp
theorem Dp.lt (h : Dp w S b m mv md pv vs sl) : b < w.heap.size := h.low _ h.sb
/-- The bytes of a file, as a slice. -/
theorem Dp.bytes (h : Dp w S b m mv md pv vs sl) (i : Nat) (hi : i < m.bodies.length) : (sl i).n = (m.bodies.getD i []).length ∧ LsC w (sl i).q (bytC (m.bodies.getD i [])) ∧ ((sl i).q = none → (sl i).c = 0) ∧ (sl i).n ≤ (sl i).c := by
  obtain ⟨p, cap, e, h1, h2, h3, h4⟩ := own_shape (h.bod.own i hi)
  unfold Hn.v at e
  injection e with e1 e2 e3
  exact ⟨e2, by rw [e1]; exact h1, by rw [e1, e3]; exact h2, by rw [e2, e3]; exact h3⟩
end
theorem ent_congr {sl sl' : Nat → Hn} {l : List Fl} (h : ∀ f ∈ l, sl f.body = sl' f.body) : l.map (entV sl) = l.map (entV sl') :=
  List.map_congr_left fun f hf => by unfold entV fileV fileC; rw [h f hf]
end Go.Proofs.YtkajeepbelfpiaaGreatDoor
/- strings.Clone, slices.Sort, maps.Keys, slices.Sorted at this seat's dump: the library's contracts, laid. -/
set_option maxRecDepth 100000
namespace Go.Proofs
open Go.Shelf
def Tryz.laysM316_ren : Go.Shelf.Ren := ⟨fun | 316 => 104 | n => n, fun | 9 => 9 | 3 => 3 | 4 => 4 | 37 => 56 | 0 => 0 | 127 => 225 | 5 => 5 | n => n, fun | n => n⟩
theorem Tryz.laysM316 : Go.Proofs.LaysM.n316 Tryz.prog Tryz.laysM316_ren := {
  mixed := by kernel_rfl
  f316 := Tryz.func104.trans (congrArg some (by kernel_rfl))
  t0 := Tryz.underlying0
  a0 := Tryz.isAgg0
  z0 := Tryz.sizeOf0
  v0 := Tryz.zeroValue0
  t3 := Tryz.underlying3
  a3 := Tryz.isAgg3
  z3 := Tryz.sizeOf3
  v3 := Tryz.zeroValue3
  t4 := Tryz.underlying4
  a4 := Tryz.isAgg4
  z4 := Tryz.sizeOf4
  v4 := Tryz.zeroValue4
  t9 := Tryz.underlying9
  a9 := Tryz.isAgg9
  z9 := Tryz.sizeOf9
  v9 := Tryz.zeroValue9
  t37 := Tryz.underlying56
  a37 := Tryz.isAgg56
  z37 := Tryz.sizeOf56
  v37 := Tryz.zeroValue56
  t127 := Tryz.underlying225
  a127 := Tryz.isAgg225
  z127 := Tryz.sizeOf225
  v127 := Tryz.zeroValue225
  t5 := Tryz.underlying5
  a5 := Tryz.isAgg5
  z5 := Tryz.sizeOf5
  v5 := Tryz.zeroValue5
  i0 := by kernel_rfl
  i3 := by kernel_rfl
  i4 := by kernel_rfl
  i5 := by kernel_rfl
  i9 := by kernel_rfl
  i37 := by kernel_rfl
  i127 := by kernel_rfl }
open Go.RowKit in
theorem Tryz.stringslite_Clone (s : ByteArray) (w : World) (hlim : s.size ≤ 281474976710656) :
    Calls Tryz.prog 104 #[.string s] w fun e w' => e = .returned (.string s) ∧ Below w.heap.size w w' := Any.stringslite_Clone Tryz.laysM316 s w hlim
def Tryz.lays190_ren : Go.Shelf.Ren := ⟨fun | 190 => 127 | 125 => 173 | 258 => 172 | 128 => 207 | 129 => 208 | 302 => 198 | 303 => 199 | 304 => 200 | 305 => 201 | 306 => 202 | 307 => 203 | 308 => 204 | 309 => 205 | 310 => 206 | 333 => 227 | 329 => 228 | 330 => 229 | 334 => 230 | 335 => 231 | 336 => 232 | 344 => 246 | n => n, fun | 31 => 23 | 9 => 9 | 3 => 3 | 46 => 175 | 0 => 0 | 51 => 219 | 53 => 235 | 4 => 4 | 183 => 268 | 182 => 267 | 131 => 272 | 5 => 5 | 218 => 292 | 222 => 296 | 228 => 304 | 229 => 248 | n => n, fun | n => n⟩
theorem Tryz.lays190 : Go.Proofs.Lays.n190 Tryz.prog Tryz.lays190_ren := {
  mixed := by kernel_rfl
  f125 := Tryz.func173.trans (congrArg some (by kernel_rfl))
  f128 := Tryz.func207.trans (congrArg some (by kernel_rfl))
  f129 := Tryz.func208.trans (congrArg some (by kernel_rfl))
  f190 := Tryz.func127.trans (congrArg some (by kernel_rfl))
  f258 := Tryz.func172.trans (congrArg some (by kernel_rfl))
  f302 := Tryz.func198.trans (congrArg some (by kernel_rfl))
  f303 := Tryz.func199.trans (congrArg some (by kernel_rfl))
  f304 := Tryz.func200.trans (congrArg some (by kernel_rfl))
  f305 := Tryz.func201.trans (congrArg some (by kernel_rfl))
  f306 := Tryz.func202.trans (congrArg some (by kernel_rfl))
  f307 := Tryz.func203.trans (congrArg some (by kernel_rfl))
  f308 := Tryz.func204.trans (congrArg some (by kernel_rfl))
  f309 := Tryz.func205.trans (congrArg some (by kernel_rfl))
  f310 := Tryz.func206.trans (congrArg some (by kernel_rfl))
  f329 := Tryz.func228.trans (congrArg some (by kernel_rfl))
  f330 := Tryz.func229.trans (congrArg some (by kernel_rfl))
  f333 := Tryz.func227.trans (congrArg some (by kernel_rfl))
  f334 := Tryz.func230.trans (congrArg some (by kernel_rfl))
  f335 := Tryz.func231.trans (congrArg some (by kernel_rfl))
  f336 := Tryz.func232.trans (congrArg some (by kernel_rfl))
  f344 := Tryz.func246.trans (congrArg some (by kernel_rfl))
  t0 := Tryz.underlying0
  a0 := Tryz.isAgg0
  z0 := Tryz.sizeOf0
  v0 := Tryz.zeroValue0
  t3 := Tryz.underlying3
  a3 := Tryz.isAgg3
  z3 := Tryz.sizeOf3
  v3 := Tryz.zeroValue3
  t4 := Tryz.underlying4
  a4 := Tryz.isAgg4
  z4 := Tryz.sizeOf4
  v4 := Tryz.zeroValue4
  t5 := Tryz.underlying5
  a5 := Tryz.isAgg5
  z5 := Tryz.sizeOf5
  v5 := Tryz.zeroValue5
  t9 := Tryz.underlying9
  a9 := Tryz.isAgg9
  z9 := Tryz.sizeOf9
  v9 := Tryz.zeroValue9
  t31 := Tryz.underlying23
  a31 := Tryz.isAgg23
  z31 := Tryz.sizeOf23
  v31 := Tryz.zeroValue23
  t46 := Tryz.underlying175
  a46 := Tryz.isAgg175
  z46 := Tryz.sizeOf175
  v46 := Tryz.zeroValue175
  t51 := Tryz.underlying219
  a51 := Tryz.isAgg219
  z51 := Tryz.sizeOf219
  v51 := Tryz.zeroValue219
  t53 := Tryz.underlying235
  a53 := Tryz.isAgg235
  z53 := Tryz.sizeOf235
  v53 := Tryz.zeroValue235
  t131 := Tryz.underlying272
  a131 := Tryz.isAgg272
  z131 := Tryz.sizeOf272
  v131 := Tryz.zeroValue272
  t182 := Tryz.underlying267
  a182 := Tryz.isAgg267
  z182 := Tryz.sizeOf267
  v182 := Tryz.zeroValue267
  t183 := Tryz.underlying268
  a183 := Tryz.isAgg268
  z183 := Tryz.sizeOf268
  v183 := Tryz.zeroValue268
  t218 := Tryz.underlying292
  a218 := Tryz.isAgg292
  z218 := Tryz.sizeOf292
  v218 := Tryz.zeroValue292
  t222 := Tryz.underlying296
  a222 := Tryz.isAgg296
  z222 := Tryz.sizeOf296
  v222 := Tryz.zeroValue296
  t228 := Tryz.underlying304
  a228 := Tryz.isAgg304
  z228 := Tryz.sizeOf304
  v228 := Tryz.zeroValue304
  t229 := Tryz.underlying248
  a229 := Tryz.isAgg248
  z229 := Tryz.sizeOf248
  v229 := Tryz.zeroValue248 }
open Go.Sort Go.RowKit in
theorem Tryz.slices_Sort_string (blk off cap : Nat) (ss : List (List UInt8)) (w : World) (hH : Holds encStr w blk off ss.toArray) (hblk : blk < w.heap.size) (hsz : ss.length < 4611686018427387904) :
    Calls Tryz.prog 127 #[.slice (some ⟨blk, off, none⟩) ss.length cap] w fun e w' =>
      e = .returned (.tuple #[]) ∧ ∃ n os, w' = grow (putRow encStr (Sort.ahead w n) blk off (ss.mergeSort fun x y => decide (x ≤ y)).toArray) os := Any.slices_Sort_string Tryz.lays190 blk off cap ss w hH hblk hsz
open Go.RowKit Go.Sort in
theorem Tryz.slices_Sort_string_none (p : Option Addr) (cap : Nat) (w : World) :
    Calls Tryz.prog 127 #[.slice p 0 cap] w fun e w' => e = .returned (.tuple #[]) ∧ w' = w := Any.slices_Sort_string_none Tryz.lays190 p cap w
def Tryz.keys96_ren : Go.Shelf.Ren := ⟨fun | 7 => 96 | 10 => 147 | n => n, fun | 23 => 106 | 26 => 9 | 3 => 44 | 28 => 154 | 0 => 0 | 27 => 153 | 33 => 99 | 4 => 4 | n => n, fun | n => n⟩
theorem Tryz.keys96 : Go.Proofs.SlLaysZ.n7 Tryz.prog Tryz.keys96_ren := {
  mixed := by kernel_rfl
  f7 := ⟨Tryz.f96.name, by decide, Tryz.func96.trans (congrArg some (by kernel_rfl))⟩
  f10 := ⟨Tryz.f147.name, by decide, Tryz.func147.trans (congrArg some (by kernel_rfl))⟩
  t0 := Tryz.underlying0
  a0 := Tryz.isAgg0
  z0 := Tryz.sizeOf0
  v0 := Tryz.zeroValue0
  t4 := Tryz.underlying4
  a4 := Tryz.isAgg4
  z4 := Tryz.sizeOf4
  v4 := Tryz.zeroValue4
  t23 := Tryz.underlying106
  a23 := Tryz.isAgg106
  z23 := Tryz.sizeOf106
  v23 := Tryz.zeroValue106
  t26 := Tryz.underlying9
  a26 := Tryz.isAgg9
  z26 := Tryz.sizeOf9
  v26 := Tryz.zeroValue9
  t27 := Tryz.underlying153
  a27 := Tryz.isAgg153
  z27 := Tryz.sizeOf153
  v27 := Tryz.zeroValue153
  t28 := Tryz.underlying154
  a28 := Tryz.isAgg154
  z28 := Tryz.sizeOf154
  v28 := Tryz.zeroValue154
  t33 := Tryz.underlying99
  a33 := Tryz.isAgg99
  z33 := Tryz.sizeOf99
  v33 := Tryz.zeroValue99 }
def Tryz.sorted81_ren : Go.Shelf.Ren := ⟨fun | 6 => 81 | 8 => 126 | 9 => 127 | 11 => 171 | 13 => 173 | 12 => 172 | 23 => 207 | 24 => 208 | 14 => 198 | 15 => 199 | 16 => 200 | 17 => 201 | 18 => 202 | 19 => 203 | 20 => 204 | 21 => 205 | 22 => 206 | 25 => 227 | 26 => 228 | 27 => 229 | 28 => 230 | 29 => 231 | 30 => 232 | 31 => 246 | n => n, fun | 26 => 9 | 28 => 154 | 24 => 23 | 0 => 0 | 3 => 3 | 37 => 175 | 48 => 219 | 50 => 235 | 4 => 4 | 40 => 268 | 39 => 267 | 45 => 272 | 5 => 5 | 9 => 9 | 51 => 292 | 55 => 296 | 57 => 304 | 58 => 248 | 33 => 99 | n => n, fun | n => n⟩
theorem Tryz.sorted81 : Go.Proofs.SlLaysZ.n6 Tryz.prog Tryz.sorted81_ren := {
  mixed := by kernel_rfl
  f6 := ⟨Tryz.f81.name, by decide, Tryz.func81.trans (congrArg some (by kernel_rfl))⟩
  f8 := ⟨Tryz.f126.name, by decide, Tryz.func126.trans (congrArg some (by kernel_rfl))⟩
  f11 := ⟨Tryz.f171.name, by decide, Tryz.func171.trans (congrArg some (by kernel_rfl))⟩
  t0 := Tryz.underlying0
  a0 := Tryz.isAgg0
  z0 := Tryz.sizeOf0
  v0 := Tryz.zeroValue0
  t24 := Tryz.underlying23
  a24 := Tryz.isAgg23
  z24 := Tryz.sizeOf23
  v24 := Tryz.zeroValue23
  t26 := Tryz.underlying9
  a26 := Tryz.isAgg9
  z26 := Tryz.sizeOf9
  v26 := Tryz.zeroValue9
  t28 := Tryz.underlying154
  a28 := Tryz.isAgg154
  z28 := Tryz.sizeOf154
  v28 := Tryz.zeroValue154
  i26 := by kernel_rfl }
open Go.RowKit Go.Maps Go.Sort in
theorem Tryz.sorts81 (m : Nat) : AnyZ.SortsIn Tryz.prog Tryz.sorted81_ren Fence.wide m :=
  ⟨fun blk off cap ss W hH hblk hsz => callsIn_wide.2 (Any.slices_Sort_string Tryz.lays190 blk off cap ss W hH hblk hsz),
   fun p cap W => callsIn_wide.2 (Any.slices_Sort_string_none Tryz.lays190 p cap W)⟩
open Go.RowKit Go.Maps Go.Sort in
theorem Tryz.maps_Keys_96 (mb : Option Nat) (W : World) : CallsIn Fence.wide 5 Tryz.prog 96 #[.map mb] W fun e w' => e = .returned (.func (.func 147) #[] #[.pointer (some ⟨W.heap.size, 0, none⟩)]) ∧ w' = W.alloc (.cells #[.map mb] 106) :=
  AnyZ.keys_in Tryz.keys96 Fence.wide 5 trivial rfl mb W
open Go.RowKit Go.Maps Go.Sort in
theorem Tryz.slices_Sorted_keys_81_96 {H : Type} (b nn : Nat) (D0 : DataW H) (R : Value → Option (DataW H × List MemPlace)) (w : World) (hown : w.ownsMap Tryz.prog 9 R b nn D0) (hmax : Maps.size D0 ≤ maxLen) (hbytes : Maps.size D0 * 16 ≤ 140737488355328) :
    CallsIn Fence.wide 5 Tryz.prog 81 #[.func (.func 147) #[] #[.pointer (some ⟨w.heap.size, 0, none⟩)]] (w.alloc (.cells #[.map (some b)] 106)) fun e w' => ∃ (v : Value) (ss : List (List UInt8)), e = .returned v ∧ ss.Perm (strKeys D0) ∧
      w'.ownsRow (w.alloc (.cells #[.map (some b)] 106)).heap.size 9 1 v ss.length ((ss.mergeSort (fun x y => decide (x ≤ y))).map encStr) ∧ (v = .slice none 0 0 ↔ ss = []) ∧ Below (w.alloc (.cells #[.map (some b)] 106)).heap.size (w.alloc (.cells #[.map (some b)] 106)) w' := by
  have hbl := hown.lt
  have hseq : SeqGives Fence.wide 2 Tryz.prog 147 #[.pointer (some ⟨w.heap.size, 0, none⟩)] encStr (fun ss => ss.Perm (strKeys D0)) (Maps.size D0) (w.alloc (.cells #[.map (some b)] 106)) :=
    AnyZ.keys_gives (ρ := Tryz.keys96_ren) { Tryz.keys96 with } Fence.wide _ trivial rfl (by omega) w.heap.size b nn D0 _ (by simp) (by simp) (by
      obtain ⟨es, clock, hb, Ft, hs, hD⟩ := hown
      exact ⟨es, clock, (Below.heap_alloc _ _ b hbl).trans hb, Ft, hs, hD⟩)
  exact AnyZ.sorted_in Tryz.sorted81 Fence.wide 5 trivial trivial trivial trivial rfl (by omega) (Tryz.sorts81 _) (enters_of Tryz.func127 (by kernel_rfl) rfl) 147 #[.pointer (some ⟨w.heap.size, 0, none⟩)] trivial (enters_of Tryz.func147 (by kernel_rfl) rfl) _ _ hmax hbytes _ hseq
def Tryz.keys174_ren : Go.Shelf.Ren := ⟨fun | 7 => 174 | 10 => 209 | n => n, fun | 23 => 127 | 26 => 9 | 3 => 196 | 28 => 154 | 0 => 0 | 27 => 153 | 33 => 99 | 4 => 4 | n => n, fun | n => n⟩
theorem Tryz.keys174 : Go.Proofs.SlLaysZ.n7 Tryz.prog Tryz.keys174_ren := {
  mixed := by kernel_rfl
  f7 := ⟨Tryz.f174.name, by decide, Tryz.func174.trans (congrArg some (by kernel_rfl))⟩
  f10 := ⟨Tryz.f209.name, by decide, Tryz.func209.trans (congrArg some (by kernel_rfl))⟩
  t0 := Tryz.underlying0
  a0 := Tryz.isAgg0
  z0 := Tryz.sizeOf0
  v0 := Tryz.zeroValue0
  t4 := Tryz.underlying4
  a4 := Tryz.isAgg4
  z4 := Tryz.sizeOf4
  v4 := Tryz.zeroValue4
  t23 := Tryz.underlying127
  a23 := Tryz.isAgg127
  z23 := Tryz.sizeOf127
  v23 := Tryz.zeroValue127
  t26 := Tryz.underlying9
  a26 := Tryz.isAgg9
  z26 := Tryz.sizeOf9
  v26 := Tryz.zeroValue9
  t27 := Tryz.underlying153
  a27 := Tryz.isAgg153
  z27 := Tryz.sizeOf153
  v27 := Tryz.zeroValue153
  t28 := Tryz.underlying154
  a28 := Tryz.isAgg154
  z28 := Tryz.sizeOf154
  v28 := Tryz.zeroValue154
  t33 := Tryz.underlying99
  a33 := Tryz.isAgg99
  z33 := Tryz.sizeOf99
  v33 := Tryz.zeroValue99 }
open Go.RowKit Go.Maps Go.Sort in
theorem Tryz.maps_Keys_174 (mb : Option Nat) (W : World) : CallsIn Fence.wide 5 Tryz.prog 174 #[.map mb] W fun e w' => e = .returned (.func (.func 209) #[] #[.pointer (some ⟨W.heap.size, 0, none⟩)]) ∧ w' = W.alloc (.cells #[.map mb] 127) :=
  AnyZ.keys_in Tryz.keys174 Fence.wide 5 trivial rfl mb W
open Go.RowKit Go.Maps Go.Sort in
theorem Tryz.slices_Sorted_keys_81_174 {H : Type} (b nn : Nat) (D0 : DataW H) (R : Value → Option (DataW H × List MemPlace)) (w : World) (hown : w.ownsMap Tryz.prog 9 R b nn D0) (hmax : Maps.size D0 ≤ maxLen) (hbytes : Maps.size D0 * 16 ≤ 140737488355328) :
    CallsIn Fence.wide 5 Tryz.prog 81 #[.func (.func 209) #[] #[.pointer (some ⟨w.heap.size, 0, none⟩)]] (w.alloc (.cells #[.map (some b)] 127)) fun e w' => ∃ (v : Value) (ss : List (List UInt8)), e = .returned v ∧ ss.Perm (strKeys D0) ∧
      w'.ownsRow (w.alloc (.cells #[.map (some b)] 127)).heap.size 9 1 v ss.length ((ss.mergeSort (fun x y => decide (x ≤ y))).map encStr) ∧ (v = .slice none 0 0 ↔ ss = []) ∧ Below (w.alloc (.cells #[.map (some b)] 127)).heap.size (w.alloc (.cells #[.map (some b)] 127)) w' := by
  have hbl := hown.lt
  have hseq : SeqGives Fence.wide 2 Tryz.prog 209 #[.pointer (some ⟨w.heap.size, 0, none⟩)] encStr (fun ss => ss.Perm (strKeys D0)) (Maps.size D0) (w.alloc (.cells #[.map (some b)] 127)) :=
    AnyZ.keys_gives (ρ := Tryz.keys174_ren) { Tryz.keys174 with } Fence.wide _ trivial rfl (by omega) w.heap.size b nn D0 _ (by simp) (by simp) (by
      obtain ⟨es, clock, hb, Ft, hs, hD⟩ := hown
      exact ⟨es, clock, (Below.heap_alloc _ _ b hbl).trans hb, Ft, hs, hD⟩)
  exact AnyZ.sorted_in Tryz.sorted81 Fence.wide 5 trivial trivial trivial trivial rfl (by omega) (Tryz.sorts81 _) (enters_of Tryz.func127 (by kernel_rfl) rfl) 209 #[.pointer (some ⟨w.heap.size, 0, none⟩)] trivial (enters_of Tryz.func209 (by kernel_rfl) rfl) _ _ hmax hbytes _ hseq
end Go.Proofs
/- bytes.Clone, maps.Clone, strings.Clone. -/
set_option maxRecDepth 100000
namespace Go.Proofs.YtkajeepbelfpiaaGreatDoor
open Go Go.RowKit
attribute [-go_sem] Sha.exec_store

theorem nil_yes8 (w : World) : (binOp BinOp.eql 56 (.slice none 0 0) (.slice none 0 0)).run Tryz.prog w = .ok (.bool true) w := by kernel_rfl
theorem nil_no8 (a : Addr) (n cap : Nat) (w : World) : (binOp BinOp.eql 56 (.slice (some a) n cap) (.slice none 0 0)).run Tryz.prog w = .ok (.bool false) w := by kernel_rfl
section
attribute [local go_sem] nil_yes8 nil_no8
set_option maxHeartbeats 1000000 in
theorem clone8_any (l : S8) (p : Option Addr) (n cap : Nat) (w : World) (hl : l.length = n) (hs : LsC w p (bytC l)) (hp : p = none → cap = 0) (hnc : n ≤ cap) (hn : n < 90000000) : Calls Tryz.prog 109 #[.slice p n cap] w fun e w' => ∃ v, e = .returned v ∧ w'.ownsRow w.heap.size 5 1 v n (bytC l) ∧ Below w.heap.size w w' := by
  cases p with
  | none =>
    obtain rfl := hp rfl
    obtain rfl : n = 0 := by omega
    have hl0 : l = [] := List.eq_nil_of_length_eq_zero hl
    subst hl0
    clear hs hp hnc hn hl
    go_enter Tryz.func109, Tryz.ntmps109
    go_wp2
    go_ret
    exact ⟨_, rfl, ⟨rfl, .inl ⟨rfl, rfl⟩⟩, Below.refl _ _⟩
  | some a =>
    have HSE := Lib.hid (hs.of_below (show Below w.heap.size w (w.alloc (.cells #[] 5)) from (Below.refl _ _).alloc (Nat.le_refl _) _))
    have HO := Lib.hid (own_empty (E := 5) (k := 1) w w.heap.size (Nat.le_refl _))
    have HB := Lib.hid (show Below w.heap.size w (w.alloc (.cells #[] 5)) from (Below.refl _ _).alloc (Nat.le_refl _) _)
    have HL := Lib.hid (show (bytC l).length = n * 1 by rw [bytC_len, hl, Nat.mul_one])
    have hsz : w.heap.size ≤ (w.alloc (.cells #[] 5)).heap.size := by rw [World.size_alloc]; omega
    clear hs hp hl
    go_enter Tryz.func109, Tryz.ntmps109
    go_wp2_with (first | (refine wpl_appendK (v := .slice (some ⟨w.heap.size, 0, none⟩) 0 0) elB _ rfl (.tmp 5) (.tmp 6) rfl w.heap.size rfl HO.out (some a) n cap (bytC l) HL.out rfl HSE.out (fun h => by cases h) (bytC_one l) (by omega) hsz ?_; rintro v3 w3 hO3 hg3 _; rw [List.nil_append, Nat.zero_add] at hO3; have HO3 := Lib.hid hO3; have HG3 := Lib.hid hg3; clear hO3 hg3))
    go_wp2
    go_ret
    exact ⟨_, rfl, HO3.out, HB.out.grown HG3.out hsz (fun k hk => by have : w.heap.size = k := (by simpa [Value.ownBlock] using hk); omega)⟩
end
theorem sclone_any (s : S8) (w : World) (h : s.length < 100000000) : Calls Tryz.prog 104 #[.string (mkS s)] w fun e w' => Gives (.string (mkS s)) w e w' :=
  Tryz.stringslite_Clone (mkS s) w (by rw [mkS_size]; omega)
set_option maxHeartbeats 1000000 in
theorem strClone_any (s : S8) (w : World) (h : s.length < 100000000) : Calls Tryz.prog 52 #[.string (mkS s)] w fun e w' => Gives (.string (mkS s)) w e w' := by
  have HC := Lib.hid (sclone_any s w h)
  go_enter Tryz.func52, Tryz.ntmps52
  go_wp2_with fail
  refine HC.out.mono ?_
  rintro e w' ⟨rfl, hB⟩
  have HB := Lib.hid hB
  clear hB
  go_wp2
  go_ret
  exact ⟨rfl, HB.out⟩
set_option maxRecDepth 100000 in
set_option maxHeartbeats 2000000 in
theorem mapClone_any (b : Nat) (es : Array MapEntry) (clock : Nat) (w : World) (hb : w.heap[b]? = some (.map es clock)) :
    Calls Tryz.prog 123 #[.map (some b)] w fun e w' => e = .returned (.map (some w.heap.size)) ∧ w' = w.alloc (.map es clock) := by
  have hq := fun w => run_eql_map_nil_sl (P := Tryz.prog) w 127 _ _ (some b) mapT
  go_enter Tryz.func123, Tryz.ntmps123
  go_wp2
  rw [run_callFunc_extern Tryz.func97 (by kernel_rfl) (by kernel_rfl) (by kernel_rfl) (e := Extern.MapsClone.clone) (by kernel_rfl), run_maps_clone_sl w 127 hb]
  simp only [Result.andThen]
  rw [Oper.upon_value]
  go_wp2
  rw [run_typeAssert_map_sl _ 127 _ _ _ _ mapT]
  simp only [Result.andThen]
  rw [Oper.upon_value]
  go_wp2
  go_ret
  exact ⟨rfl, rfl⟩
end Go.Proofs.YtkajeepbelfpiaaGreatDoor
/- An archive in memory; archive.New, Generation, Len, Copy. -/
set_option maxRecDepth 100000
namespace Go.Proofs.YtkajeepbelfpiaaGreatDoor
open Go Go.RowKit

attribute [-go_sem] Sha.exec_store
/-- A record, and what its digests are. -/
abbrev Ent := Rc × List By
def entA (e : Ent) : S8 × Value := (e.1.path, rcV e.1)
/-- An archive in block b, its map in block mb. -/
structure ArAt (w : World) (b mb : Nat) (gen : Int) (es : List Ent) : Prop where
  box : w.heap[b]? = some (.cells #[.int .i64 gen, .map (some mb)] 108 (0, 0))
  map : MpB w mb (es.map entA)
  dg : ∀ e ∈ es, DgAt w e.1 e.2
  good : ∀ e ∈ es, goodR e.1 = true
  inn : ∀ e ∈ es, e.1.time < 9223372036854775808 ∧ e.1.chg < 9223372036854775808
  few : es.length ≤ 128
theorem LsC.kp_map {w u : World} {q : Option Addr} {cs : List Value} {mb : Nat} (h : LsC w q cs) (hm : ∃ es clock, w.heap[mb]? = some (.map es clock)) (hk : Kp mb w u) : LsC u q cs := fun j hj => by
  obtain ⟨c, o, e, hc⟩ := h j hj
  refine ⟨c, o, e, ?_⟩
  obtain ⟨es, clock, hm⟩ := hm
  have hne : c ≠ mb := fun e => by
    subst e
    rw [List.getElem?_eq_getElem hj] at hc
    unfold World.cell? at hc
    rw [hm] at hc
    cases hc
  rw [List.getElem?_eq_getElem hj] at hc ⊢
  rw [hk.cell (by exact World.block_lt_of_cell? w _ hc) (by exact hne)]
  exact hc
theorem DgAt.kp_map {w u : World} {r : Rc} {ds : List By} {mb : Nat} (h : DgAt w r ds) (hm : ∃ es clock, w.heap[mb]? = some (.map es clock)) (hk : Kp mb w u) : DgAt u r ds := ⟨h.n, h.lie.kp_map hm hk, h.each, h.nil, h.le, h.whole⟩
theorem MpB.is {w : World} {b : Nat} {l : List (S8 × Value)} (h : MpB w b l) : ∃ es clock, w.heap[b]? = some (.map es clock) := by
  obtain ⟨es, clock, hb, -⟩ := h
  exact ⟨es, clock, hb⟩
section
variable {w w' : World} {b mb : Nat} {gen : Int} {es : List Ent}
theorem ArAt.lt (h : ArAt w b mb gen es) : b < w.heap.size := (Array.getElem?_eq_some_iff.1 h.box).1
theorem ArAt.of_below (h : ArAt w b mb gen es) (hB : Below w.heap.size w w') : ArAt w' b mb gen es :=
  ⟨(hB.block b h.lt).trans h.box, h.map.of_below hB, fun e he => (h.dg e he).of_below hB, h.good, h.inn, h.few⟩
theorem ArAt.ne (h : ArAt w b mb gen es) : b ≠ mb := fun e => by
  obtain ⟨es, clock, hm⟩ := h.map.is
  rw [← e, h.box] at hm
  cases hm
/-- Another map is changed. -/
theorem ArAt.apart {m2 : Nat} (h : ArAt w b mb gen es) (hm : ∃ es clock, w.heap[m2]? = some (.map es clock)) (hk : Kp m2 w w') (hne : mb ≠ m2) : ArAt w' b mb gen es := by
  have hb : b ≠ m2 := fun e => by
    obtain ⟨es, clock, hm⟩ := hm
    rw [← e, h.box] at hm
    cases hm
  exact ⟨(hk.block b h.lt hb).trans h.box, h.map.keep (hk.block mb h.map.lt hne), fun e he => (h.dg e he).kp_map hm hk, h.good, h.inn, h.few⟩
theorem ArAt.cell0 (h : ArAt w b mb gen es) : w.cell? ⟨b, 0, none⟩ = some (.int .i64 gen) := by unfold World.cell?; rw [h.box]; simp
theorem ArAt.cell1 (h : ArAt w b mb gen es) : w.cell? ⟨b, 1, none⟩ = some (.map (some mb)) := by unfold World.cell?; rw [h.box]; simp
theorem ArAt.keys (h : ArAt w b mb gen es) : (es.map fun e => e.1.path).Nodup := by
  have := h.map.keys
  rw [List.map_map] at this
  exact this
end
theorem mapA : Tryz.prog.underlying 106 = some (.map 9 44) := by kernel_rfl
set_option maxHeartbeats 4000000 in
theorem anew_any (w : World) : Calls Tryz.prog 19 #[] w fun e w' => e = .returned (.pointer (some ⟨w.heap.size + 1, 0, none⟩)) ∧ ArAt w' (w.heap.size + 1) w.heap.size 0 [] ∧ Below w.heap.size w w' := by
  have hmm := @run_makeMap Tryz.prog
  have h1 := MpB.made w
  have hB0 := (Below.refl w.heap.size w).alloc (Nat.le_refl _) (.map #[] 0)
  have z1 : (w.alloc (.map #[] 0)).heap.size = w.heap.size + 1 := World.size_alloc _ _
  have hD : ArAt ((w.alloc (.map #[] 0)).alloc (.cells #[.int .i64 0, .map (some w.heap.size)] 108)) (w.heap.size + 1) w.heap.size 0 [] ∧ Below w.heap.size w ((w.alloc (.map #[] 0)).alloc (.cells #[.int .i64 0, .map (some w.heap.size)] 108)) := by
    have hb := World.alloc_heap_new (w.alloc (.map #[] 0)) (.cells #[.int .i64 0, .map (some w.heap.size)] 108)
    rw [z1] at hb
    exact ⟨⟨hb, h1.of_below ((Below.refl _ _).alloc (Nat.le_refl _) _), fun e he => (by cases he), fun e he => (by cases he), fun e he => (by cases he), by simp⟩, hB0.alloc hB0.size _⟩
  have HD := Lib.hid hD
  clear h1 hB0 hD
  go_enter Tryz.func19, Tryz.ntmps19
  go_wp2
  go_ret
  exact ⟨rfl, HD.out.1, HD.out.2⟩
section
variable {w : World} {b mb : Nat} {gen : Int} {es : List Ent}
theorem agen_any (h : ArAt w b mb gen es) : Calls Tryz.prog 39 #[.pointer (some ⟨b, 0, none⟩)] w fun e w' => e = .returned (.int .i64 gen) ∧ w = w' := by
  have c0 := h.cell0
  clear h
  go_enter Tryz.func39, Tryz.ntmps39
  go_wp2
  go_ret
  exact ⟨rfl, rfl⟩
theorem run_lenA {w : World} {ty : TypeId} {l : List (S8 × Value)} (h : MpB w mb l) : (Builtin.len_ #[106] ty #[.map (some mb)]).run Tryz.prog w = .ok (.int .i64 (l.length : Int)) w := run_len8 (P := Tryz.prog) mapA h
theorem alen_any (h : ArAt w b mb gen es) : Calls Tryz.prog 23 #[.pointer (some ⟨b, 0, none⟩)] w fun e w' => e = .returned (.int .i64 (es.length : Int)) ∧ w = w' := by
  have c1 := h.cell1
  have hl := fun ty => run_lenA (ty := ty) h.map
  rw [List.length_map] at hl
  clear h
  go_enter Tryz.func23, Tryz.ntmps23
  go_wp2
  go_ret
  exact ⟨rfl, rfl⟩
end
set_option maxRecDepth 100000 in
set_option maxHeartbeats 2000000 in
theorem mapCloneA_any (b : Nat) (es : Array MapEntry) (clock : Nat) (w : World) (hb : w.heap[b]? = some (.map es clock)) :
    Calls Tryz.prog 45 #[.map (some b)] w fun e w' => e = .returned (.map (some w.heap.size)) ∧ w' = w.alloc (.map es clock) := by
  have hq := fun w => run_eql_map_nil_sl (P := Tryz.prog) w 106 _ _ (some b) mapA
  go_enter Tryz.func45, Tryz.ntmps45
  go_wp2
  rw [run_callFunc_extern Tryz.func97 (by kernel_rfl) (by kernel_rfl) (by kernel_rfl) (e := Extern.MapsClone.clone) (by kernel_rfl), run_maps_clone_sl w 106 hb]
  simp only [Result.andThen]
  rw [Oper.upon_value]
  go_wp2
  rw [run_typeAssert_map_sl _ 106 _ _ _ _ mapA]
  simp only [Result.andThen]
  rw [Oper.upon_value]
  go_wp2
  go_ret
  exact ⟨rfl, rfl⟩
end Go.Proofs.YtkajeepbelfpiaaGreatDoor
/- archive.own: a record whose digests are new memory. -/
set_option maxRecDepth 100000
namespace Go.Proofs.YtkajeepbelfpiaaGreatDoor
open Go Go.RowKit

attribute [-go_sem] Sha.exec_store
theorem nilD_yes (w : World) : (binOp BinOp.eql 42 (.slice none 0 0) (.slice none 0 0)).run Tryz.prog w = .ok (.bool true) w := by kernel_rfl
theorem nilD_no (a : Addr) (n cap : Nat) (w : World) : (binOp BinOp.eql 42 (.slice (some a) n cap) (.slice none 0 0)).run Tryz.prog w = .ok (.bool false) w := by kernel_rfl
section
attribute [local go_sem ↓] exec_bs
attribute [local go_sem] nilD_yes nilD_no bsD0
set_option maxHeartbeats 1000000 in
theorem cloneD_any (ds : List By) (q : Option Addr) (n cap : Nat) (w : World) (hn : n = ds.length) (hl : LsC w q (ds.flatMap digC)) (he : ∀ d ∈ ds, d.length = 32) (hq : q = none → cap = 0) (hc : n ≤ cap) (hlen : ds.length < 100000) :
    Calls Tryz.prog 98 #[.slice q n cap] w fun e w' => ∃ q' cap', e = .returned (.slice q' ds.length cap') ∧ (∀ c o, q' = some ⟨c, o, none⟩ → w.heap.size ≤ c ∧ c < w'.heap.size) ∧ (∀ r : Rc, r.q = q' → r.n = ds.length → r.cap = cap' → r.whole.length = 32 → DgAt w' r ds) ∧ Below w.heap.size w w' := by
  cases q with
  | none =>
    obtain rfl := hq rfl
    obtain rfl : n = 0 := by omega
    have hds : ds = [] := List.eq_nil_of_length_eq_zero hn.symm
    subst hds
    clear hl hq hc hlen he hn
    go_enter Tryz.func98, Tryz.ntmps98
    go_wp2
    go_ret
    exact ⟨none, 0, rfl, (fun c o e => by cases e), fun r h1 h2 h3 h4 => dg_nil _ r h1 h2 h3 h4, Below.refl _ _⟩
  | some a =>
    have HSE := Lib.hid (hl.of_below (show Below w.heap.size w (w.alloc (.cells #[] 41)) from (Below.refl _ _).alloc (Nat.le_refl _) _))
    have HO := Lib.hid (own_empty (E := 41) (k := 32) w w.heap.size (Nat.le_refl _))
    have HB := Lib.hid (show Below w.heap.size w (w.alloc (.cells #[] 41)) from (Below.refl _ _).alloc (Nat.le_refl _) _)
    have HL := Lib.hid (show (ds.flatMap digC).length = n * 32 by rw [flat_digC, List.length_map, flat_len32 he, hn])
    have HONE := Lib.hid (show ∀ u ∈ ds.flatMap digC, u.oneCell' = true from by rw [flat_digC]; exact one_map _)
    have hsz : w.heap.size ≤ (w.alloc (.cells #[] 41)).heap.size := by rw [World.size_alloc]; omega
    have HN := Lib.hid hn
    have HE := Lib.hid he
    have hn2 : n < 100000 := by omega
    clear hl hq hn he hlen hc
    go_enter Tryz.func98, Tryz.ntmps98
    go_wp2_with (first | (refine wpl_appendK (v := .slice (some ⟨w.heap.size, 0, none⟩) 0 0) elD _ rfl (.tmp 5) (.tmp 6) rfl w.heap.size rfl HO.out (some a) n cap (ds.flatMap digC) HL.out rfl HSE.out (fun h => by cases h) HONE.out (by omega) hsz ?_; rintro v3 w3 hO3 hg3 _; rw [List.nil_append, Nat.zero_add] at hO3; have HO3 := Lib.hid hO3; have HG3 := Lib.hid hg3; clear hO3 hg3))
    go_wp2
    go_ret
    obtain ⟨q7, c7, rfl, hlt7, hdg7⟩ := dg_own HO3.out HN.out HE.out
    exact ⟨q7, c7, rfl, hlt7, hdg7, HB.out.grown HG3.out hsz (fun k hk => by have : w.heap.size = k := (by simpa [Value.ownBlock] using hk); omega)⟩
end
theorem setB53o {w : World} {b : Nat} {T : TypeId} {p : S8} {s t c : Int} {f : Nat → Int} {d : Bool} {wh : By} {q : Option Addr} {n cap : Nat} (h : Row w b T 54 (rcF ⟨p, s, t, c, f, d, wh, q, n, cap⟩)) (q' : Option Addr) (n' cap' : Nat) : Row (w.setCell ⟨b, 53, none⟩ (.slice q' n' cap')) b T 54 (rcF ⟨p, s, t, c, f, d, wh, q', n', cap'⟩) := by
  refine (h.set 53 (.slice q' n' cap')).congr fun i hi => ?_
  by_cases i1 : i = 53
  · rw [if_pos i1, i1]; rfl
  · rw [if_neg i1]
    unfold rcF
    repeat (first | rfl | (split; rfl))
    all_goals (first | rfl | omega)
attribute [local go_sem ↓] exec_boxP exec_allocP exec_storeP exec_loadP
attribute [local go_sem] boxP
set_option maxRecDepth 100000 in
set_option maxHeartbeats 4000000 in
theorem own_any0 (p : S8) (s t c : Int) (f : Nat → Int) (d : Bool) (wh : By) (q : Option Addr) (cap : Nat) (ds : List By) (w : World) (h : DgAt w ⟨p, s, t, c, f, d, wh, q, ds.length, cap⟩ ds) (hn : ds.length < 100000) :
    Calls Tryz.prog 47 #[rcV ⟨p, s, t, c, f, d, wh, q, ds.length, cap⟩] w fun e w' => ∃ q' cap', e = .returned (rcV (Rc.mov ⟨p, s, t, c, f, d, wh, q, ds.length, cap⟩ q' cap')) ∧ Below w.heap.size w w' ∧ DgAt w' (Rc.mov ⟨p, s, t, c, f, d, wh, q, ds.length, cap⟩ q' cap') ds ∧ ∀ c o, q' = some ⟨c, o, none⟩ → w.heap.size ≤ c ∧ c < w'.heap.size := by
  obtain ⟨b1, hb1⟩ : ∃ b, w.heap.size = b := ⟨_, rfl⟩
  obtain ⟨W1, hW1⟩ : ∃ W, w.alloc (.cells (tab 54 (rcF ⟨p, s, t, c, f, d, wh, q, ds.length, cap⟩)) 44) = W := ⟨_, rfl⟩
  obtain ⟨W2, hW2⟩ : ∃ W, W1.alloc (.cells (tab 54 (rcF rc0)) 44) = W := ⟨_, rfl⟩
  have hB1 : Below w.heap.size w W1 := by rw [← hW1]; exact below_newD _ _
  have hB2 : Below W1.heap.size W1 W2 := by rw [← hW2]; exact below_newD _ _
  have hB := hB1.trans (hB2.mono hB1.size)
  have z1 : W1.heap.size = b1 + 1 := by rw [← hW1, ← hb1]; simp
  have z2 : W2.heap.size = b1 + 2 := by rw [← hW2]; simp [z1]
  have hR1 : Row W2 b1 44 54 (rcF ⟨p, s, t, c, f, d, wh, q, ds.length, cap⟩) := by rw [← hb1]; exact (by rw [← hW1]; exact Row.new w _ 54 _ : Row W1 w.heap.size 44 54 (rcF ⟨p, s, t, c, f, d, wh, q, ds.length, cap⟩)).of_below hB2
  have hR2 : Row W2 (b1 + 1) 44 54 (rcF rc0) := by rw [← z1, ← hW2]; exact Row.new W1 _ 54 _
  have x1 := boxP w ⟨p, s, t, c, f, d, wh, q, ds.length, cap⟩
  rw [hW1, hb1] at x1
  have x2 := exec_allocP
  have HC := Lib.hid (cloneD_any ds q ds.length cap W2 h.n ((h.of_below hB).lie) h.each h.nil h.le hn)
  have c53 := rc_blocks hR1
  have HR := Lib.hid (And.intro hR1 hR2)
  have HB := Lib.hid hB
  have HZ := Lib.hid z2
  have HW := Lib.hid h.whole
  have HN := Lib.hid h.n
  have hw2 : W1.alloc (.cells (tab 54 (rcF rc0)) 44) = W2 := hW2
  obtain ⟨V, hV⟩ : ∃ V, rcV ⟨p, s, t, c, f, d, wh, q, ds.length, cap⟩ = V := ⟨_, rfl⟩
  rw [hV] at x1 ⊢
  clear hB1 hB2 hB z2 hR1 hR2 hW1 hV h hW2 x2
  go_enter Tryz.func47, Tryz.ntmps47
  go_wp2_with fail
  try rw [hw2]
  try rw [z1]
  refine HC.out.mono ?_
  rintro e w3 ⟨q', c', rfl, hlt, hdg, hB3⟩
  have hR13 := HR.out.1.of_below hB3
  have hR23 := HR.out.2.of_below hB3
  have h53 := rc_blocks hR13
  have f53 := hR13.free 53
  have h53s : (w3.cell? ⟨b1, 53, none⟩).isSome = true := by rw [h53]; rfl
  have hR4 := setB53o hR13 q' ds.length c'
  have hB34 : Below w.heap.size w (w3.setCell ⟨b1, 53, none⟩ (.slice q' ds.length c')) := (HB.out.trans (hB3.mono HB.out.size)).setCell (show w.heap.size ≤ (⟨b1, 53, none⟩ : Addr).block by rw [hb1]; exact Nat.le_refl _) _
  have hR24 : Row (w3.setCell ⟨b1, 53, none⟩ (.slice q' ds.length c')) (b1 + 1) 44 54 (rcF rc0) := hR23.of_block (Below.heap_setCell _ _ _ _ (show b1 + 1 ≠ b1 by omega))
  obtain ⟨w4, hw4⟩ : ∃ x, w3.setCell ⟨b1, 53, none⟩ (.slice q' ds.length c') = x := ⟨_, rfl⟩
  rw [hw4] at hR4 hB34 hR24
  have ld4 := loadRT rtP hR4
  obtain ⟨w5, hst, hR5, hK5⟩ := storeRT rtP hR24 ⟨p, s, t, c, f, d, wh, q', ds.length, c'⟩
  have hw3 : w3.heap.size = w4.heap.size := by rw [← hw4]; simp
  have HDG := Lib.hid (show DgAt w5 ⟨p, s, t, c, f, d, wh, q', ds.length, c'⟩ ds from (hdg ⟨p, s, t, c, f, d, wh, q', ds.length, c'⟩ rfl rfl rfl HW.out).keep (fun cc oo e hl => by
    have h1 := hlt cc oo e
    have h2 := HZ.out
    have h3 : w4.heap[cc]? = w3.heap[cc]? := by rw [← hw4]; exact Below.heap_setCell _ _ _ _ (show cc ≠ b1 by omega)
    exact (hK5.block cc (by omega) (by omega)).trans h3))
  have HLT := Lib.hid (show ∀ cc oo, q' = some ⟨cc, oo, none⟩ → b1 ≤ cc ∧ cc < w5.heap.size from fun cc oo e => by
    have h1 := hlt cc oo e
    have h2 := HZ.out
    have h3 := hK5.size
    omega)
  have HB5 := Lib.hid (hB34.trans (hK5.below (by omega) hB34.size))
  have HR5 := Lib.hid hR5
  obtain ⟨V4, hV4⟩ : ∃ V, rcV ⟨p, s, t, c, f, d, wh, q', ds.length, c'⟩ = V := ⟨_, rfl⟩
  have HV4 := Lib.hid hV4
  rw [hV4] at ld4 hst
  clear hR13 hR23 hR4 hB34 hR24 hR5 hK5 hw3 hlt hdg hB3 hV4 c53
  go_wp2
  refine bodyPost_ret (resR rtP rfl _ w5 (b1 + 1) 44 ⟨p, s, t, c, f, d, wh, q', ds.length, c'⟩ rfl HR5.out) rfl ?_
  refine ⟨q', c', ?_, HB5.out, ?_, ?_⟩
  · rfl
  · exact HDG.out
  · rw [hb1]; exact HLT.out
theorem own_any (r : Rc) (ds : List By) (w : World) (h : DgAt w r ds) (hn : ds.length < 100000) :
    Calls Tryz.prog 47 #[rcV r] w fun e w' => ∃ q' cap', e = .returned (rcV (r.mov q' cap')) ∧ Below w.heap.size w w' ∧ DgAt w' (r.mov q' cap') ds ∧ ∀ c o, q' = some ⟨c, o, none⟩ → w.heap.size ≤ c ∧ c < w'.heap.size := by
  obtain ⟨p, s, t, c, f, d, wh, q, n, cap⟩ := r
  have hnn : n = ds.length := h.n
  subst hnn
  exact own_any0 p s t c f d wh q cap ds w h hn
end Go.Proofs.YtkajeepbelfpiaaGreatDoor
/- record.Cut. -/
set_option maxRecDepth 100000
namespace Go.Proofs.YtkajeepbelfpiaaGreatDoor
open Go Go.RowKit Go.Shelf
attribute [-go_sem] Sha.exec_store

attribute [local go_sem] Oper.semAt_some
/-- What the walk of Cut carries. -/
def InvC (w : World) (N : Nat) (l : List (BitVec 8)) (pre : List Nat) (A : World) : Prop :=
  ∃ v, A.cell? ⟨N, 0, none⟩ = some v ∧ A.frozen? ⟨N, 0, none⟩ = false ∧ Hds A (N + 4) v (pre.map (blkL l)) ∧ Below w.heap.size w A ∧ N + 2 ≤ A.heap.size
theorem InvC.of_below {w : World} {N : Nat} {l : List (BitVec 8)} {pre : List Nat} {A A' : World} (h : InvC w N l pre A) (hw : w.heap.size ≤ N) (hB : Below A.heap.size A A') : InvC w N l pre A' := by
  obtain ⟨v, h1, h2, h3, h4, h5⟩ := h
  have hlt := World.block_lt_of_cell? A _ h1
  exact ⟨v, by rw [hB.cell (by exact hlt)]; exact h1, by rw [hB.frozen (by exact hlt)]; exact h2, h3.of_below hB, h4.trans (hB.mono h4.size), Nat.le_trans h5 hB.size⟩
theorem InvC.bears (w : World) (N : Nat) (l : List (BitVec 8)) (hw : w.heap.size = N) : BearsP (N + 2) (InvC w N l) :=
  ⟨fun pre A o h => h.of_below (by omega) ((Below.refl _ _).alloc (Nat.le_refl _) _),
   fun pre A o hlt h => by
    obtain ⟨v, h1, h2, h3, h4, h5⟩ := h
    have hB := below_putP (N := N + 2 + 1) o (Nat.le_refl _) hlt
    exact ⟨v, by rw [hB.cell (by show N < _; omega)]; exact h1, by rw [hB.frozen (by show N < _; omega)]; exact h2, h3.put hlt, h4.trans (hB.mono (by omega)), Nat.le_trans h5 hB.size⟩,
   fun pre A k h => h.of_below (by omega) ((show Dr A (A.drewN k) from ⟨k, rfl⟩).below _)⟩
end Go.Proofs.YtkajeepbelfpiaaGreatDoor
/- Slices of slices of bytes, as they read; the blocks of bytes one behind the other. -/
set_option maxRecDepth 100000
namespace Go.Proofs.YtkajeepbelfpiaaGreatDoor
open Go Go.RowKit
attribute [-go_sem] Sha.exec_store

/-- The headers hs are those of the bytes bs. -/
def Hrows (w : World) (hs : List Value) (bs : List (List (BitVec 8))) : Prop := ∀ i, i < bs.length → ∃ p cap, hs[i]? = some (.slice p (bs.getD i []).length cap) ∧ Sl w p (bs.getD i []) ∧ (p = none → cap = 0)
theorem Hrows.append {w : World} {hs hs' : List Value} {bs bs' : List (List (BitVec 8))} (h : Hrows w hs bs) (h' : Hrows w hs' bs') (hl : hs.length = bs.length) : Hrows w (hs ++ hs') (bs ++ bs') := fun i hi => by
  rw [List.length_append] at hi
  by_cases c : i < bs.length
  · obtain ⟨p, cap, e1, e2, e3⟩ := h i c
    have hg : (bs ++ bs').getD i [] = bs.getD i [] := by simp [List.getD_eq_getElem?_getD, List.getElem?_append_left c]
    rw [hg]
    exact ⟨p, cap, by rw [List.getElem?_append_left (by omega)]; exact e1, e2, e3⟩
  · obtain ⟨p, cap, e1, e2, e3⟩ := h' (i - bs.length) (by omega)
    have hg : (bs ++ bs').getD i [] = bs'.getD (i - bs.length) [] := by simp [List.getD_eq_getElem?_getD, List.getElem?_append_right (Nat.le_of_not_lt c)]
    rw [hg]
    exact ⟨p, cap, by rw [List.getElem?_append_right (by omega), hl]; exact e1, e2, e3⟩
theorem Hrows.of_below {w w' : World} {hs : List Value} {bs : List (List (BitVec 8))} (h : Hrows w hs bs) (k : Below w.heap.size w w') : Hrows w' hs bs := fun i hi => by
  obtain ⟨p, cap, e1, e2, e3⟩ := h i hi
  exact ⟨p, cap, e1, e2.of_below k, e3⟩
theorem Hds.open {w : World} {N : Nat} {v : Value} {bs : List (List (BitVec 8))} (h : Hds w N v bs) : ∃ hs p cap, v = .slice p bs.length cap ∧ hs.length = bs.length ∧ LsC w p hs ∧ (p = none → cap = 0 ∧ bs.length = 0) ∧ bs.length ≤ cap ∧ Hrows w hs bs ∧ (∀ u ∈ hs, u.oneCell' = true) := by
  obtain ⟨hs, h1, h2⟩ := h
  obtain ⟨p, cap, e, h3, h4, h5, -⟩ := own_shape h1
  have hl : hs.length = bs.length := by have := h1.1; omega
  refine ⟨hs, p, cap, e, hl, h3, fun e => ⟨h4 e, by have := h4 e; omega⟩, h5, fun i hi => ?_, fun u hu => ?_⟩
  · obtain ⟨q, d, e1, e2, e3, -⟩ := h2 i hi
    exact ⟨q, d, e1, e2, e3⟩
  · obtain ⟨i, hi, e⟩ := List.getElem_of_mem hu
    obtain ⟨q, d, e1, -⟩ := h2 i (by omega)
    rw [List.getElem?_eq_getElem hi, e] at e1
    injection e1 with e1
    rw [e1]
    rfl
/-- A header that is read. -/
theorem Hrows.cell {w : World} {hs : List Value} {bs : List (List (BitVec 8))} {p : Option Addr} (h : Hrows w hs bs) (hl : LsC w p hs) (i : Nat) (hi : i < bs.length) : ∃ c o q d, p = some ⟨c, o, none⟩ ∧ w.cell? ⟨c, o + i, none⟩ = some (.slice q (bs.getD i []).length d) ∧ Sl w q (bs.getD i []) ∧ (q = none → d = 0) := by
  obtain ⟨q, d, e1, e2, e3⟩ := h i hi
  obtain ⟨c, o, ep, -, hc⟩ := hl.cell e1
  exact ⟨c, o, q, d, ep, hc, e2, e3⟩
end Go.Proofs.YtkajeepbelfpiaaGreatDoor
/- Bytes appended to a slice of the call's own: the block afterwards is the old one or a new one. -/
set_option maxRecDepth 100000
namespace Go.Proofs.YtkajeepbelfpiaaGreatDoor
open Go Go.RowKit
attribute [-go_sem] Sha.exec_store

theorem append_ownL (w : World) (base : Nat) (ty : TypeId) (v : Value) (l : List (BitVec 8)) (hown : OwnB w base v l) (p : Option Addr) (n cap : Nat) (bs : List (BitVec 8)) (hbl : bs.length = n) (hs : Sl w p bs) (hc : p = none → cap = 0)
    (hn : l.length + n < 1000000000000) (hb : base ≤ w.heap.size) :
    ∃ v' w', (Builtin.append_ #[56, 56] ty #[v, .slice p n cap]).run Tryz.prog w = .ok v' w' ∧ OwnB w' base v' (l ++ bs) ∧ w.grownBy w' v.ownBlock ∧ (v'.ownBlock = v.ownBlock ∨ v'.ownBlock = some w.heap.size) := by
  subst hbl
  obtain ⟨i0, hi, hz0, hz1, hz2⟩ := info_parts info5
  cases p with
  | some a =>
    obtain ⟨v', w', h1, h2, h3, _, h5⟩ := run_append_own_at (P := Tryz.prog) w base 56 ty 5 i0 (.int .u8 0) 1 1 und35 hi hz0 hz1 hz2 rfl (by decide) v l.length (l.map B) hown a bs.length cap (bs.map B) (by simp) hs.news (one_map bs)
      (by simp only [maxLen]; omega) (by omega) hb
    exact ⟨v', w', h1, by unfold OwnB; rw [List.length_append, List.map_append]; exact h2, h3, h5⟩
  | none =>
    have : bs = [] := by
      cases bs with
      | nil => rfl
      | cons x r => obtain ⟨c, o, e, _⟩ := hs 0 (by simp); cases e
    subst this
    obtain rfl := hc rfl
    exact ⟨v, w, run_append_owned_none (P := Tryz.prog) w base 56 ty 5 i0 1 und35 hi v l.length (l.map B) hown, by rw [List.append_nil]; exact hown, World.grownBy.refl _ _, .inl rfl⟩
theorem wpl_appendL {ops : Array Oper} {rest : List Oper} {o : Oper} {a : Act} {Q : Exit → Act → World → Prop} (w : World) (hgd : o.guard = none) (s x : Operand)
    (ho : o.op = .call { callee := .builtin .append, args := #[s, x], argTypes := #[56, 56] })
    (base : Nat) (v : Value) (l : List (BitVec 8)) (hs : a.eval s = v) (hown : OwnB w base v l) (p : Option Addr) (n cap : Nat) (bs : List (BitVec 8)) (hbl : bs.length = n) (hx : a.eval x = .slice p n cap) (hsl : Sl w p bs) (hc : p = none → cap = 0)
    (hn : l.length + n < 1000000000000) (hb : base ≤ w.heap.size)
    (h : ∀ v' w', OwnB w' base v' (l ++ bs) → w.grownBy w' v.ownBlock → (v'.ownBlock = v.ownBlock ∨ v'.ownBlock = some w.heap.size) → wpList Tryz.prog ops Q rest (a.put o.dst v') w') : wpList Tryz.prog ops Q (o :: rest) a w := by
  refine wpList_plain hgd fun K hK => ?_
  obtain ⟨v', w', hr, h2, h3, h4⟩ := append_ownL w base o.type v l hown p n cap bs hbl hsl hc hn hb
  unfold Oper.wp execOp
  simp only [ho, resolve, invoke, builtin, Sem.run_bind, Sem.run_pure, Result.andThen_ok, List.map_toArray, List.map_cons, List.map_nil, hs, hx, hr]
  exact hK _ _ (h v' w' h2 h3 h4)
theorem step_appendL {ops : Array Oper} {o : Oper} {a : Act} {Q : Exit → Act → World → Prop} {K : Act → World → Prop} {Z : Prop} (w : World) (hgd : o.guard = none) (s x : Operand)
    (ho : o.op = .call { callee := .builtin .append, args := #[s, x], argTypes := #[56, 56] })
    (base : Nat) (v : Value) (l : List (BitVec 8)) (hs : a.eval s = v) (hown : OwnB w base v l) (p : Option Addr) (n cap : Nat) (bs : List (BitVec 8)) (hbl : bs.length = n) (hx : a.eval x = .slice p n cap) (hsl : Sl w p bs) (hc : p = none → cap = 0)
    (hn : l.length + n < 1000000000000) (hb : base ≤ w.heap.size)
    (h : ∀ v' w', OwnB w' base v' (l ++ bs) → w.grownBy w' v.ownBlock → (v'.ownBlock = v.ownBlock ∨ v'.ownBlock = some w.heap.size) → K (a.put o.dst v') w') : if Region.wanted o (yielded ops a.tmps) = true then Oper.wp Tryz.prog o a w K Q else Z := by
  have hw : Region.wanted o (yielded ops a.tmps) = true := by simp [Region.wanted, hgd]
  rw [if_pos hw]
  obtain ⟨v', w', hr, h2, h3, h4⟩ := append_ownL w base o.type v l hown p n cap bs hbl hsl hc hn hb
  unfold Oper.wp execOp
  simp only [ho, resolve, invoke, builtin, Sem.run_bind, Sem.run_pure, Result.andThen_ok, List.map_toArray, List.map_cons, List.map_nil, hs, hx, hr]
  exact h v' w' h2 h3 h4
end Go.Proofs.YtkajeepbelfpiaaGreatDoor
/- The reference's blocks and their digests. -/
set_option maxRecDepth 100000
namespace Go.Proofs.YtkajeepbelfpiaaGreatDoor
open Go Go.RowKit Go.Shelf

attribute [-go_sem] Sha.exec_store
theorem below_newR (w : World) (o : Obj) : Below w.heap.size w (w.alloc o) := (Below.refl _ _).alloc (Nat.le_refl _) _
theorem own_sliceR {w : World} {base : Nat} {E : TypeId} {k n : Nat} {v : Value} {cs : List Value} (h : w.ownsRow base E k v n cs) : ∃ q c, v = .slice q n c := by
  obtain ⟨p, cap, e, _⟩ := own_shape h
  exact ⟨p, cap, e⟩
end Go.Proofs.YtkajeepbelfpiaaGreatDoor
/- The reference of layer 7: beginnings. -/
set_option maxRecDepth 100000
namespace Go.Proofs.YtkajeepbelfpiaaGreatDoor
open Go Go.RowKit
attribute [-go_sem] Sha.exec_store

set_option maxHeartbeats 1000000 in
theorem refStarts_any (s t : S8) (hs : s.length < 1000000) (ht : t.length < 1000000) (w : World) : Calls Tryz.prog 101 #[.string (mkS s), .string (mkS t)] w fun e w' => e = .returned (.bool (startsL s t)) ∧ w = w' := by
  by_cases h : t.length ≤ s.length
  · have h1 : (t.length : Int) ≤ (s.length : Int) := by omega
    have h2 : decide ((t.length : Int) ≤ (s.length : Int)) = true := decide_eq_true h1
    have HS := Lib.hid (show startsL s t = (s.take t.length == t) from by unfold startsL; rw [decide_eq_true h]; rfl)
    go_enter Tryz.func101, Tryz.ntmps101
    go_wp2
    go_ret
    exact ⟨by rw [HS.out]; rfl, rfl⟩
  · have h1 : ¬ (t.length : Int) ≤ (s.length : Int) := by omega
    have h2 : decide ((t.length : Int) ≤ (s.length : Int)) = false := decide_eq_false h1
    have HS := Lib.hid (show startsL s t = false from by unfold startsL; rw [decide_eq_false h]; rfl)
    go_enter Tryz.func101, Tryz.ntmps101
    go_wp2
    go_ret
    exact ⟨by rw [HS.out]; rfl, rfl⟩
end Go.Proofs.YtkajeepbelfpiaaGreatDoor
/- The reference's kinds. -/
set_option maxRecDepth 100000
namespace Go.Proofs.YtkajeepbelfpiaaGreatDoor
open Go Go.RowKit
attribute [-go_sem] Sha.exec_store

set_option maxHeartbeats 1000000 in
theorem refKind_any (l : S8) (hl : l.length < 100000) (w : World) : Calls Tryz.prog 49 #[.string (mkS l)] w fun e w' => Gives (.int .i64 (kindL l : Int)) w e w' := by
  obtain ⟨X, hX⟩ : ∃ X, kindL l = X := ⟨_, rfl⟩
  rw [hX]
  have HX := Lib.hid (hX.symm.trans (show kindL l = if goodL l then (if startsL (baseL l) tmpS then 1 else if startsL (baseL l) parS then 2 else 3) else 0 from rfl))
  clear hX
  have HG := Lib.hid (fun u => refGood_any l (by omega) u)
  have HS := Lib.hid (fun u => refSlash_any l (by omega) u)
  have hkl := kL_le l
  have hbl : (l.drop (kL l)).length < 1000000 := by rw [List.length_drop]; omega
  have HT := Lib.hid (fun u => refStarts_any (l.drop (kL l)) tmpS hbl (by decide) u)
  have HP := Lib.hid (fun u => refStarts_any (l.drop (kL l)) parS hbl (by decide) u)
  rw [show mkS tmpS = ⟨#[46, 116, 109, 112, 126]⟩ from (mkS_lit tmpS).symm] at HT
  rw [show mkS parS = ⟨#[46, 112, 97, 114, 126]⟩ from (mkS_lit parS).symm] at HP
  have HX2 := Lib.hid (HX.out.trans (show _ = if goodL l then (if startsL (l.drop (kL l)) tmpS then 1 else if startsL (l.drop (kL l)) parS then 2 else 3) else 0 from rfl))
  clear HX hbl
  generalize goodL l = g at *
  generalize startsL (l.drop (kL l)) tmpS = b1 at *
  generalize startsL (l.drop (kL l)) parS = b2 at *
  generalize kL l = k at *
  have k1 : IntKind.i64.wrap (k : Int) = (k : Int) := by rw [IntKind.wrap_i64]; omega
  have k2 : wrap64 (k : Int) = (k : Int) := by unfold wrap64; omega
  have k3 : (k : Int) - 1 + 1 = (k : Int) := by omega
  go_enter Tryz.func49, Tryz.ntmps49
  go_wp2_with fail
  refine (HG.out _).mono ?_
  rintro e w' ⟨rfl, rfl⟩
  cases g with
  | false =>
    obtain rfl : X = 0 := by rw [HX2.out]; rfl
    go_wp2
    go_ret
    exact ⟨rfl, Below.refl _ _⟩
  | true =>
    go_wp2_with fail
    refine (HS.out _).mono ?_
    rintro e w' ⟨rfl, rfl⟩
    go_wp2_with fail
    refine (HT.out _).mono ?_
    rintro e w' ⟨rfl, rfl⟩
    cases b1 with
    | true =>
      obtain rfl : X = 1 := by rw [HX2.out]; rfl
      go_wp2
      go_ret
      exact ⟨rfl, Below.refl _ _⟩
    | false =>
      go_wp2_with fail
      refine (HP.out _).mono ?_
      rintro e w' ⟨rfl, rfl⟩
      cases b2 with
      | true =>
        obtain rfl : X = 2 := by rw [HX2.out]; rfl
        go_wp2
        go_ret
        exact ⟨rfl, Below.refl _ _⟩
      | false =>
        obtain rfl : X = 3 := by rw [HX2.out]; rfl
        go_wp2
        go_ret
        exact ⟨rfl, Below.refl _ _⟩
end Go.Proofs.YtkajeepbelfpiaaGreatDoor
/- Which records are good: the reference. -/
set_option maxRecDepth 100000
namespace Go.Proofs.YtkajeepbelfpiaaGreatDoor
open Go Go.RowKit

attribute [-go_sem] Sha.exec_store
attribute [local go_sem ↓] exec_boxA exec_loadA exec_indexA exec_allocA exec_storeA exec_buildA exec_eqlA exec_neqA exec_boxV exec_loadV exec_indexV exec_allocV exec_storeV exec_buildV exec_eqlV exec_neqV
attribute [local go_sem] boxA indexA storeNewA buildA eqlA neqA boxV indexV storeNewV buildV eqlV neqV

attribute [local go_sem ↓] exec_boxM exec_load32 exec_build32 exec_eqlD exec_neqD
attribute [local go_sem] boxM bd32 eqlD neqD
theorem goodR_true {r : Rc} (h : kindL r.path = 3 ∧ gdV r.ver = true ∧ veq r.ver (fun _ => 0) = false ∧ 0 ≤ r.size ∧ r.size ≤ 16384 ∧ 0 ≤ r.time ∧ 0 ≤ r.chg ∧ r.n = nblk r.size.toNat) :
    goodR r = (!r.dead || (decide (r.size = 0) && deq r.whole z32)) := by
  obtain ⟨h1, h2, h3, h4, h5, h6, h7, h8⟩ := h
  unfold goodR rfE okV
  rw [if_pos h1, okS_iff.2 ⟨h4, h5, h6, h7⟩, h2, h3, decide_eq_true h8]
  simp
theorem goodR_false {r : Rc} (h : ¬ (kindL r.path = 3 ∧ gdV r.ver = true ∧ veq r.ver (fun _ => 0) = false ∧ 0 ≤ r.size ∧ r.size ≤ 16384 ∧ 0 ≤ r.time ∧ 0 ≤ r.chg ∧ r.n = nblk r.size.toNat)) : goodR r = false := by
  cases e : goodR r with
  | false => rfl
  | true =>
    exfalso
    apply h
    unfold goodR at e
    rw [Bool.and_eq_true, Bool.and_eq_true, decide_eq_true_eq, decide_eq_true_eq] at e
    obtain ⟨h1, h2, h3⟩ := rfE_zero e.1
    obtain ⟨h4, h5, h6, h7⟩ := okS_iff.1 h2
    unfold okV at h3
    rw [Bool.and_eq_true, Bool.not_eq_true'] at h3
    exact ⟨h1, h3.1, h3.2, h4, h5, h6, h7, e.2.1⟩
set_option maxRecDepth 100000 in
set_option maxHeartbeats 4000000 in
theorem refGood10_any (r : Rc) (hp : r.path.length < 100000) (hw : r.whole.length = 32) (w : World) :
    Calls Tryz.prog 18 #[rcV r] w fun e w' => e = .returned (.bool (goodR r)) ∧ Below w.heap.size w w' := by
  have HK := Lib.hid (fun u => refKind_any r.path hp u)
  have HG := Lib.hid (fun u => refGood9_any r.ver u)
  obtain ⟨W, hW⟩ : ∃ W, w.alloc (.cells (tab 54 (rcF r)) 49) = W := ⟨_, rfl⟩
  have hR : Row W w.heap.size 49 54 (rcF r) := by rw [← hW]; exact Row.new w _ 54 (rcF r)
  have HB := Lib.hid (show Below w.heap.size w W from by rw [← hW]; exact (Below.refl _ _).alloc (Nat.le_refl _) _)
  have HS := Lib.hid (fun (u : World) (hu : Below W.heap.size W u) => (show _ ∧ _ ∧ _ ∧ _ ∧ _ ∧ _ ∧ _ ∧ _ from ⟨loadVT vtA (rc_ver (hR.of_below hu)), ld_dig (rc_whole (hR.of_below hu) hw) hw, rc_path (hR.of_below hu), rc_size (hR.of_below hu), rc_time (hR.of_below hu), rc_chg (hR.of_below hu), rc_dead (hR.of_below hu), rc_blocks (hR.of_below hu)⟩))
  have HE := Lib.hid hW
  clear hW hR
  have HN := Lib.hid (@goodR_false r)
  have HY := Lib.hid (@goodR_true r)
  obtain ⟨Y, hY⟩ : ∃ Y, goodR r = Y := ⟨_, rfl⟩
  rw [hY] at HN HY ⊢
  clear hY
  obtain ⟨V, hV⟩ : ∃ V, rcV r = V := ⟨_, rfl⟩
  have HV := Lib.hid (show ∀ u : World, (bxT 49 V).run Tryz.prog u = .ok (.value (.pointer (some ⟨u.heap.size, 0, none⟩))) (u.alloc (.cells (tab 54 (rcF r)) 49)) from fun u => by rw [← hV]; exact boxM u r)
  rw [hV]
  have hV2 := HV.out w
  rw [HE.out] at hV2
  clear hV HV
  obtain ⟨p, s, t, c, f, d, wh, q, n, cap⟩ := r
  dsimp only at *
  obtain ⟨k, hk⟩ : ∃ k, kindL p = k := ⟨_, rfl⟩
  obtain ⟨g, hg⟩ : ∃ g, gdV f = g := ⟨_, rfl⟩
  obtain ⟨m, hm⟩ : ∃ m, nblk s.toNat = m := ⟨_, rfl⟩
  have HM := Lib.hid (fun (h1 : 0 ≤ s) (h2 : s ≤ 16384) => (show ((s + 255).tdiv 256 = (m : Int) ∧ (s + 255) / 256 = (m : Int)) ∧ IntKind.i64.wrap (s + 255) = s + 255 ∧ IntKind.i64.wrap (m : Int) = (m : Int) from by
    unfold nblk at hm
    have : (s + 255) / 256 = (m : Int) := by omega
    refine ⟨⟨by rw [Int.tdiv_eq_ediv_of_nonneg (by omega)]; exact this, this⟩, by rw [IntKind.wrap_i64]; omega, by rw [IntKind.wrap_i64]; omega⟩))
  rw [hk] at HK HN HY
  rw [hg] at HG HN HY
  rw [hm] at HN HY
  clear hk hg hm
  have l0 := (HS.out W (Below.refl _ _)).2.2.1
  go_enter Tryz.func18, Tryz.ntmps18
  go_wp2_with fail
  clear hV2 l0
  refine (HK.out _).mono ?_
  rintro e u ⟨rfl, hB⟩
  have HBu := Lib.hid hB
  clear hB
  by_cases h3 : k = 3
  · subst h3
    have l1 := (HS.out u HBu.out).1
    go_wp2_with fail
    clear l1
    refine (HG.out _).mono ?_
    rintro e u2 ⟨rfl, hB2⟩
    obtain ⟨l1, l2, -, l4, l5, l6, l7, l8⟩ := HS.out u2 (HBu.out.trans (hB2.mono HBu.out.size))
    have HBB := Lib.hid (HB.out.trans ((HBu.out.trans (hB2.mono HBu.out.size)).mono HB.out.size))
    clear hB2
    cases g with
    | false =>
      clear l2 l4 l5 l6 l7 l8
      go_wp2
      go_ret
      exact ⟨by rw [HN.out (fun h => by cases h.2.1)]; rfl, HBB.out⟩
    | true =>
      cases hz : veq f fun _ => 0 with
      | true =>
        rw [hz] at HN
        clear l2 l4 l5 l6 l7 l8
        go_wp2
        go_ret
        exact ⟨by rw [HN.out (fun h => by cases h.2.2.1)]; rfl, HBB.out⟩
      | false =>
        rw [hz] at HN HY
        by_cases h1 : s < 0
        · have d1 : decide (s < 0) = true := decide_eq_true h1
          have H1 := Lib.hid h1
          clear l2 l5 l6 l7 l8 h1
          go_wp2
          go_ret
          exact ⟨by rw [HN.out (fun h => by have := h.2.2.2.1; have := H1.out; omega)]; rfl, HBB.out⟩
        · have d1 : decide (s < 0) = false := decide_eq_false h1
          by_cases h2 : 16384 < s
          · have d2 : decide (16384 < s) = true := decide_eq_true h2
            have H2 := Lib.hid h2
            clear l2 l5 l6 l7 l8
            go_wp2
            go_ret
            exact ⟨by rw [HN.out (fun h => by have := h.2.2.2.2.1; have := H2.out; omega)]; rfl, HBB.out⟩
          · have d2 : decide (16384 < s) = false := decide_eq_false h2
            by_cases h4 : t < 0
            · have d4 : decide (t < 0) = true := decide_eq_true h4
              have H4 := Lib.hid h4
              clear l2 l6 l7 l8
              go_wp2
              go_ret
              exact ⟨by rw [HN.out (fun h => by have := h.2.2.2.2.2.1; have := H4.out; omega)]; rfl, HBB.out⟩
            · have d4 : decide (t < 0) = false := decide_eq_false h4
              by_cases h5 : c < 0
              · have d5 : decide (c < 0) = true := decide_eq_true h5
                have H5 := Lib.hid h5
                clear l2 l7 l8
                go_wp2
                go_ret
                exact ⟨by rw [HN.out (fun h => by have := h.2.2.2.2.2.2.1; have := H5.out; omega)]; rfl, HBB.out⟩
              · have d5 : decide (c < 0) = false := decide_eq_false h5
                obtain ⟨⟨x1, x2⟩, x3, x4⟩ := HM.out (by omega) (by omega)
                by_cases h6 : n = m
                · have d6 : decide ((n : Int) = (m : Int)) = true := decide_eq_true (by omega)
                  have HYY := Lib.hid (HY.out ⟨by trivial, by trivial, by trivial, by omega, by omega, by omega, by omega, by first | trivial | exact h6⟩)
                  subst h6
                  cases d with
                  | false =>
                    clear l2
                    go_wp2
                    go_ret
                    exact ⟨by rw [HYY.out]; rfl, HBB.out⟩
                  | true =>
                    by_cases h0 : s = 0
                    · have d0 : decide (s = 0) = true := decide_eq_true h0
                      have H0 := Lib.hid h0
                      clear h0
                      go_wp2
                      · go_ret
                        exact ⟨by rw [HYY.out, d0]; rfl, HBB.out⟩
                      all_goals exact absurd H0.out (by assumption)
                    · have d0 : decide (s = 0) = false := decide_eq_false h0
                      clear l2
                      go_wp2
                      go_ret
                      exact ⟨by rw [HYY.out, d0]; rfl, HBB.out⟩
                · have d6 : decide ((n : Int) = (m : Int)) = false := decide_eq_false (by omega)
                  have H6 := Lib.hid h6
                  have d7 : ((n : Int) != (m : Int)) = true := by rw [bne_iff_ne]; omega
                  clear l2 l7 h6
                  go_wp2
                  go_ret
                  exact ⟨by rw [HN.out (fun h => H6.out h.2.2.2.2.2.2.2)]; rfl, HBB.out⟩
  · have hk1 : ¬ (k : Int) = 3 := by omega
    have hk2 : decide ((k : Int) = 3) = false := decide_eq_false hk1
    have H3 := Lib.hid h3
    have HBB := Lib.hid (HB.out.trans (HBu.out.mono HB.out.size))
    clear h3
    go_wp2
    go_ret
    exact ⟨by rw [HN.out (fun h => H3.out h.1)]; rfl, HBB.out⟩
end Go.Proofs.YtkajeepbelfpiaaGreatDoor
/- The reference's digests of blocks, and its record of bytes. -/
set_option maxRecDepth 100000
namespace Go.Proofs.YtkajeepbelfpiaaGreatDoor
open Go Go.RowKit Go.Shelf

attribute [-go_sem] Sha.exec_store
section
attribute [local go_sem] bsD1
attribute [local go_sem ↓] exec_bs
end
end Go.Proofs.YtkajeepbelfpiaaGreatDoor
/- The reference's record of bytes, and of a deleted file. -/
set_option maxRecDepth 100000
namespace Go.Proofs.YtkajeepbelfpiaaGreatDoor
open Go Go.RowKit Go.Shelf

attribute [-go_sem] Sha.exec_store
theorem exec_loadM (r : Operand → Value) (dst : Option Tmp) (p : Operand) (ty : TypeId) (pos : String) (after : Array Edge) (guard : Option (Nat × Bool)) :
    execOp r ⟨dst, .load 49 p, ty, pos, after, guard⟩ = ldT 49 (r p) := rfl
theorem exec_store32F (r : Operand → Value) (dst : Option Tmp) (p v : Operand) (ty : TypeId) (pos : String) (after : Array Edge) (guard : Option (Nat × Bool)) :
    execOp r ⟨dst, .store 41 p v, ty, pos, after, guard⟩ = stT 41 (r p) (r v) := rfl
/-- The digest of all, stored in a record. -/
theorem st_whole {w : World} {b : Nat} {T : TypeId} {r : Rc} (hR : Row w b T 54 (rcF r)) (d : By) (hd : d.length = 32) :
    ∃ w', (stT 41 (.pointer (some ⟨b, 21, none⟩)) (digV d)).run Tryz.prog w = .ok .skip w' ∧ Row w' b T 54 (rcF { r with whole := d }) ∧ Kp b w w' := by
  have h := run_storeCells_at (P := Tryz.prog) b 21 T (digC d) 0 (tab 54 (rcF r)) w hR (by rw [digC_len, tab_size]; omega) (digC_one d)
  have e : ((tab 54 (rcF r)).toList.take (21 + 0) ++ digC d ++ (tab 54 (rcF r)).toList.drop (21 + 0 + (digC d).length)).toArray = tab 54 (rcF { r with whole := d }) := by
    apply Array.ext_getElem?
    intro i
    rw [List.getElem?_toArray, digC_len, hd]
    have hlt : ((tab 54 (rcF r)).toList.take (21 + 0)).length = 21 := by simp [tab]
    by_cases h1 : i < 21
    · rw [List.append_assoc, List.getElem?_append_left (by omega), List.getElem?_take, if_pos h1, Array.getElem?_toList, tab_get 54 _ i (by omega), tab_get 54 _ i (by omega)]
      unfold rcF
      repeat (first | rfl | (split; rfl))
      all_goals (first | rfl | omega)
    · by_cases h2 : i < 53
      · rw [List.append_assoc, List.getElem?_append_right (by omega), hlt, List.getElem?_append_left (by rw [digC_len]; omega), tab_get 54 _ i (by omega)]
        unfold digC rcF dgF
        rw [if_neg (by omega), if_neg (by omega), if_neg (by omega), if_neg (by omega), if_neg (by omega), if_neg (by omega), if_pos (by omega)]
        have h32 : i - 21 < d.length := by omega
        rw [List.getElem?_map, List.getElem?_eq_getElem h32, List.getD_eq_getElem?_getD, List.getElem?_eq_getElem h32]
        rfl
      · by_cases h3 : i < 54
        · obtain rfl : i = 53 := by omega
          rw [List.append_assoc, List.getElem?_append_right (by omega), hlt, List.getElem?_append_right (by rw [digC_len]; omega), digC_len, hd, List.getElem?_drop, Array.getElem?_toList, tab_get 54 _ _ (by omega), tab_get 54 _ 53 (by omega)]
          rfl
        · rw [List.getElem?_eq_none (by simp [tab, digC_len, hd]; omega), Array.getElem?_eq_none (by rw [tab_size]; omega)]
  rw [e] at h
  refine ⟨w.setRow b (tab 54 (rcF { r with whole := d })), ?_, setRow_heap w b _ _ T _ hR, ⟨rfl, rfl, rfl, by simp [World.setRow], fun k _ hk => setRow_other w b k _ hk⟩⟩
  have hs := size32
  have hds : (tab 32 (dgF d)).toList = digC d := dig_tab hd
  cases hq : Tryz.prog.info? 41 with
  | none => rw [hq] at hs; cases hs
  | some i =>
    rw [hq] at hs
    have hs2 : i.size = 32 := by simpa using hs
    unfold digV
    simp [stT, Instr.storeAt, Instr.sureAddr, storeVar, sizeOf, typeInfo, hq, Value.cells, hs2, hds, h, tab_size]
attribute [local go_sem ↓] exec_boxA exec_loadA exec_indexA exec_allocA exec_storeA exec_buildA exec_eqlA exec_neqA exec_boxV exec_loadV exec_indexV exec_allocV exec_storeV exec_buildV exec_eqlV exec_neqV
attribute [local go_sem] boxA indexA storeNewA buildA eqlA neqA boxV indexV storeNewV buildV eqlV neqV
attribute [local go_sem ↓] exec_loadS exec_boxS exec_boxP exec_boxM exec_allocP exec_allocM exec_storeP exec_storeM exec_buildP exec_buildM exec_buildS exec_load32 exec_build32 exec_eqlD exec_neqD exec_loadM exec_store32F
attribute [local go_sem] box_stamp boxP boxM bd32 eqlD neqD bdM0 bdP0 bdS3
end Go.Proofs.YtkajeepbelfpiaaGreatDoor
/- The reader's bytes and texts. -/
set_option maxRecDepth 100000
namespace Go.Proofs.YtkajeepbelfpiaaGreatDoor
open Go Go.RowKit
attribute [-go_sem] Sha.exec_store

/-- cut where there are that many. -/
theorem cut_ok (p : Option Addr) (N : Nat) (w : World) (a : Addr) (l : List (BitVec 8)) (n : Nat) (h : RdP p N w a l) (hn : n ≤ l.length) : Calls Tryz.prog 183 #[.pointer (some a), .int .i64 (n : Int)] w fun e w' => Kp a.block w w' ∧ (∃ q : Option Addr, e = .returned (.slice q n n) ∧ Sl w' q (l.take n) ∧ (q = none → n = 0) ∧ (0 < n → ∀ c o, q = some ⟨c, o, none⟩ → c < N)) ∧ RdP p N w' a (l.drop n) :=
  (cut_any p N w a l n h).mono fun e w' ⟨hK, hc⟩ => by
    rcases hc with ⟨-, hq, hR⟩ | ⟨hbad, -⟩
    · exact ⟨hK, hq, hR⟩
    · exact absurd hn (by omega)
/-- cut where there are fewer. -/
theorem cut_no (p : Option Addr) (N : Nat) (w : World) (a : Addr) (l : List (BitVec 8)) (n : Nat) (h : RdP p N w a l) (hn : l.length < n) : Calls Tryz.prog 183 #[.pointer (some a), .int .i64 (n : Int)] w fun e w' => Kp a.block w w' ∧ ∃ v, ThrP a 6 w' v ∧ e = .panicked [{ v := v, recovered := false }] :=
  (cut_any p N w a l n h).mono fun e w' ⟨hK, hc⟩ => by
    rcases hc with ⟨hbad, -⟩ | ⟨-, v, hv, rfl⟩
    · exact absurd hn (by omega)
    · exact ⟨hK, v, hv, rfl⟩
theorem num_ok (p : Option Addr) (N : Nat) (w : World) (a : Addr) (l : List (BitVec 8)) (most : Int) (n k : Nat) (h : RdP p N w a l) (ht : takeI l most = (n, k, 0)) : Calls Tryz.prog 138 #[.pointer (some a), .int .i64 most] w fun e w' => Kp a.block w w' ∧ e = .returned (.int .i64 (n : Int)) ∧ RdP p N w' a (l.drop k) :=
  (rdP_number p N w a l most h).mono fun e w' ⟨hK, hc⟩ => by
    rw [ht] at hc
    rcases hc with ⟨-, ⟨v, rfl, rfl⟩, hR⟩ | ⟨hbad, -⟩
    · exact ⟨hK, rfl, hR⟩
    · exact absurd rfl hbad
theorem num_no (p : Option Addr) (N : Nat) (w : World) (a : Addr) (l : List (BitVec 8)) (most : Int) (c : Nat) (h : RdP p N w a l) (ht : (takeI l most).2.2 = c) (hc0 : c ≠ 0) : Calls Tryz.prog 138 #[.pointer (some a), .int .i64 most] w fun e w' => Kp a.block w w' ∧ ∃ v, ThrP a c w' v ∧ e = .panicked [{ v := v, recovered := false }] :=
  (rdP_number p N w a l most h).mono fun e w' ⟨hK, hc⟩ => by
    rw [ht] at hc
    rcases hc with ⟨hbad, -⟩ | ⟨-, v, hv, rfl⟩
    · exact absurd hbad hc0
    · exact ⟨hK, v, hv, rfl⟩
set_option maxHeartbeats 1000000 in
theorem rdP_bytes (p : Option Addr) (N : Nat) (w : World) (a : Addr) (l : List (BitVec 8)) (most : Int) (h : RdP p N w a l) : Calls Tryz.prog 140 #[.pointer (some a), .int .i64 most] w (RdPost RdP ThrP p N w a l (nextI l 1 most).2.2 (nextI l 1 most).2.1 fun v w' => OwnB w' w.heap.size v (nextI l 1 most).1.b) := by
  have hlen : l.length < 1000000 := by obtain ⟨_, _, _, _, _, _, _, _, _, h7, _⟩ := h; exact h7
  rw [nextI_take (by decide) (by decide)]
  by_cases hc : (takeI l most).2.2 = 0
  · rw [if_neg (by omega), if_neg (by decide)]
    have hok := takeI_ok hc
    obtain ⟨n, k, c, ht⟩ : ∃ n k c, takeI l most = (n, k, c) := ⟨_, _, _, rfl⟩
    rw [ht] at hok hc ⊢
    obtain rfl : c = 0 := hc
    dsimp only at hok ⊢
    have HN := Lib.hid (num_ok p N w a l most n k h ht)
    by_cases hsh : l.length - k < n
    · rw [if_pos hsh]
      have hsh2 : (l.drop k).length < n := by rw [List.length_drop]; exact hsh
      have HSH := Lib.hid hsh2
      clear h ht hok hsh hsh2
      go_enter Tryz.func140, Tryz.ntmps140
      go_wp2_with fail
      refine HN.out.mono ?_
      rintro e w2 ⟨hK, rfl, hR⟩
      have HC := Lib.hid (cut_no p N w2 a _ n hR HSH.out)
      have HK := Lib.hid hK
      clear hK hR
      go_wp2_with fail
      refine HC.out.mono ?_
      rintro e w3 ⟨hK3, v, hv, rfl⟩
      exact ⟨rfl, HK.out.trans hK3, .inr ⟨by decide, v, hv, rfl⟩⟩
    · rw [if_neg hsh]
      have hsh2 : n ≤ (l.drop k).length := by rw [List.length_drop]; omega
      have HSH := Lib.hid hsh2
      have hn : n < 2000000000 := by omega
      clear h ht hok hsh hsh2
      go_enter Tryz.func140, Tryz.ntmps140
      go_wp2_with fail
      refine HN.out.mono ?_
      rintro e w2 ⟨hK, rfl, hR⟩
      have HC := Lib.hid (cut_ok p N w2 a _ n hR HSH.out)
      have HK := Lib.hid hK
      clear hK hR
      go_wp2_with fail
      refine HC.out.mono ?_
      rintro e w3 ⟨hK3, ⟨q, rfl, hS3, hq, -⟩, hR3⟩
      have HCL := Lib.hid (clone_any _ q n n w3 (by rw [List.length_take]; have := HSH.out; omega) hS3 hq (Nat.le_refl _) hn)
      have HK3 := Lib.hid (HK.out.trans hK3)
      have HR3 := Lib.hid hR3
      clear hK3 hR3 hS3 hq
      go_wp2_with fail
      refine HCL.out.mono ?_
      rintro e w4 ⟨v, rfl, hO, hB⟩
      have HO := Lib.hid (hO.lower HK3.out.size)
      have HK4 := Lib.hid (HK3.out.of_below hB)
      have HR4 := Lib.hid (rdP_stay _ _ _ _ _ _ HR3.out hB.size (hB.block _ (rdP_lie _ _ _ _ _ HR3.out).2) fun c o _ hc => hB.block _ (by have := rdP_lie _ _ _ _ _ HR3.out; omega))
      clear hO hB
      go_wp2
      go_ret
      exact ⟨HK4.out, .inl ⟨rfl, ⟨_, rfl, HO.out⟩, by have := HR4.out; rwa [List.drop_drop] at this⟩⟩
  · rw [if_pos hc]
    have HN := Lib.hid (num_no p N w a l most _ h rfl hc)
    generalize (takeI l most).2.2 = c at *
    have HC := Lib.hid hc
    clear h hc
    go_enter Tryz.func140, Tryz.ntmps140
    go_wp2_with fail
    refine HN.out.mono ?_
    rintro e w2 ⟨hK, v, hv, rfl⟩
    exact ⟨rfl, hK, .inr ⟨HC.out, v, hv, rfl⟩⟩
set_option maxHeartbeats 1000000 in
theorem rdP_text (p : Option Addr) (N : Nat) (w : World) (a : Addr) (l : List (BitVec 8)) (most : Int) (h : RdP p N w a l) : Calls Tryz.prog 234 #[.pointer (some a), .int .i64 most] w (RdPost RdP ThrP p N w a l (nextI l 2 most).2.2 (nextI l 2 most).2.1 fun v _ => v = .string (strOf (nextI l 2 most).1.b)) := by
  rw [nextI_take (by decide) (by decide)]
  by_cases hc : (takeI l most).2.2 = 0
  · rw [if_neg (by omega), if_neg (by decide)]
    obtain ⟨n, k, c, ht⟩ : ∃ n k c, takeI l most = (n, k, c) := ⟨_, _, _, rfl⟩
    rw [ht] at hc ⊢
    obtain rfl : c = 0 := hc
    dsimp only
    have HN := Lib.hid (num_ok p N w a l most n k h ht)
    by_cases hsh : l.length - k < n
    · rw [if_pos hsh]
      have hsh2 : (l.drop k).length < n := by rw [List.length_drop]; exact hsh
      have HSH := Lib.hid hsh2
      clear h ht hsh hsh2
      go_enter Tryz.func234, Tryz.ntmps234
      go_wp2_with fail
      refine HN.out.mono ?_
      rintro e w2 ⟨hK, rfl, hR⟩
      have HC := Lib.hid (cut_no p N w2 a _ n hR HSH.out)
      have HK := Lib.hid hK
      clear hK hR
      go_wp2_with fail
      refine HC.out.mono ?_
      rintro e w3 ⟨hK3, v, hv, rfl⟩
      exact ⟨rfl, HK.out.trans hK3, .inr ⟨by decide, v, hv, rfl⟩⟩
    · rw [if_neg hsh]
      have hsh2 : n ≤ (l.drop k).length := by rw [List.length_drop]; omega
      have HSH := Lib.hid hsh2
      clear h ht hsh hsh2
      go_enter Tryz.func234, Tryz.ntmps234
      go_wp2_with fail
      refine HN.out.mono ?_
      rintro e w2 ⟨hK, rfl, hR⟩
      have HC := Lib.hid (cut_ok p N w2 a _ n hR HSH.out)
      have HK := Lib.hid hK
      clear hK hR
      go_wp2_with fail
      refine HC.out.mono ?_
      rintro e w3 ⟨hK3, ⟨q, rfl, hS3, hq, -⟩, hR3⟩
      have hcv := conv_str w3 q _ n n hS3 (by rw [List.length_take]; have := HSH.out; omega) hq
      have HK3 := Lib.hid (HK.out.trans hK3)
      have HR3 := Lib.hid hR3
      obtain ⟨sv, hsv⟩ : ∃ sv, strOf (List.take n (List.drop k l)) = sv := ⟨_, rfl⟩
      rw [hsv] at hcv
      have HSV := Lib.hid hsv
      clear hK3 hR3 hS3 hq hsv
      go_wp2
      go_ret
      exact ⟨HK3.out, .inl ⟨rfl, ⟨_, rfl, by rw [HSV.out]; rfl⟩, by have := HR3.out; rwa [List.drop_drop] at this⟩⟩
  · rw [if_pos hc]
    have HN := Lib.hid (num_no p N w a l most _ h rfl hc)
    generalize (takeI l most).2.2 = c at *
    have HC := Lib.hid hc
    clear h hc
    go_enter Tryz.func234, Tryz.ntmps234
    go_wp2_with fail
    refine HN.out.mono ?_
    rintro e w2 ⟨hK, v, hv, rfl⟩
    exact ⟨rfl, hK, .inr ⟨HC.out, v, hv, rfl⟩⟩
end Go.Proofs.YtkajeepbelfpiaaGreatDoor
