/- The program's put: what clashes is removed, then the file is laid into the map. -/
import Derived.Test.YtjglgohchhdkkaaDoorDkv8
import Derived.Test.YtjglgohchhdkkaaDoorCla8
import Derived.OwnWalk
set_option linter.unusedSimpArgs false
set_option linter.unusedVariables false
namespace Go.Proofs.YtjglgohchhdkkaaDoor
open Go Go.RowKit

theorem mapT : Tryd.prog.underlying 53 = some (.map 9 64) := by kernel_rfl
set_option maxHeartbeats 1000000 in
/-- The closure that says which are to be removed. -/
theorem putC_any (other p : S8) (a t c : Int) (q : Option Addr) (n k : Nat) (bx : Nat) (w : World) (hb : w.cell? ⟨bx, 0, none⟩ = some (.string (mkS p))) (ho : other.length < 100000) (hp : p.length < 100000) :
    Calls Tryd.prog 48 #[.string (mkS other), .agg #[.int .i64 a, .int .i64 t, .int .i64 c, .slice q n k], .pointer (some ⟨bx, 0, none⟩)] w fun e w' => e = .returned (.bool (clashL other p)) ∧ Below w.heap.size w w' := by
  have hbl := World.block_lt_of_cell? w _ hb
  have HC := Lib.hid (fun u => clash_any other p u ho hp)
  have hB := (Below.refl w.heap.size w).alloc (Nat.le_refl _) (.cells #[.int .i64 a, .int .i64 t, .int .i64 c, .slice q n k] 64)
  have HB := Lib.hid hB
  have hb2 := (hB.cell hbl).trans hb
  have HR := Lib.hid (show clashL other p = (inL other p || inL p other) from rfl)
  generalize clashL other p = r at *
  clear hB
  go_enter Tryd.func48, Tryd.ntmps48
  go_wp2_with fail
  refine (HC.out _).mono ?_
  rintro e w2 ⟨rfl, hB2⟩
  have HB2 := Lib.hid (HB.out.trans (hB2.mono HB.out.size))
  clear hB2
  go_wp2
  go_ret
  exact ⟨by rw [HR.out]; rfl, HB2.out⟩
theorem delV_cons {l r : List (S8 × Value)} {k : S8} {v : Value} (hn : (l.map (·.1)).Nodup) (hp : l.Perm ((k, v) :: r)) : (delV l k).Perm r := by
  have h2 := ((hp.map (·.1)).nodup_iff).1 hn
  rw [List.map_cons, List.nodup_cons] at h2
  have h3 := hp.filter (fun x => x.1 != k)
  have h4 : r.filter (fun x => x.1 != k) = r := List.filter_eq_self.2 (fun x hx => by
    rw [bne_iff_ne]
    intro e
    exact h2.1 (by show k ∈ _; rw [← e]; exact List.mem_map.2 ⟨x, hx, rfl⟩))
  rw [List.filter_cons_of_neg (by simp), h4] at h3
  exact h3
theorem below_grown {w w' : World} (h : Below w.heap.size w w') (row : Option Nat) : w.grownBy w' row := ⟨h.os, h.tape, h.output, h.size, fun i hi _ => h.block i hi⟩
set_option maxHeartbeats 4000000 in
/-- maps.DeleteFunc at that closure. -/
theorem delF_any (sl : Nat → Hn) (l : List Fl) (p : S8) (bx mb : Nat) (w : World) (h : MpB w mb (l.map (entV sl))) (hb : w.cell? ⟨bx, 0, none⟩ = some (.string (mkS p))) (hp : p.length < 100000) (hs : ShortF l) (hbm : bx ≠ mb) :
    Calls Tryd.prog 47 #[.map (some mb), .func (.func 48) #[] #[.pointer (some ⟨bx, 0, none⟩)]] w fun e w' => e = .returned (.tuple #[]) ∧ MpB w' mb ((l.map (entV sl)).filter fun x => !clashL x.1 p) ∧ w.grownBy w' (some mb) := by
  have hbl := World.block_lt_of_cell? w _ hb
  have hml := h.lt
  have H := Lib.hid h
  have HBX := Lib.hid hb
  have HS := Lib.hid hs
  clear h hb
  go_enter Tryd.func47, Tryd.ntmps47
  go_wp2_with (first | (at_range; refine wpl_range8 _ rfl _ rfl mapT rfl H.out ?_; intro w0 hR0 hB0 hz0) | go_in)
  go_loopw [8] (fun _ wr => ∃ done todo : List (S8 × Value), (l.map (entV sl)).Perm (done ++ todo) ∧ RngB wr mb w.heap.size ((done.filter fun x => !clashL x.1 p) ++ todo) todo ∧ w.grownBy wr (some mb)) (fun _ wr => wr.rangeLeft mb w.heap.size)
  case atStart => exact ⟨[], l.map (entV sl), by simp, hR0, ⟨hB0.os, hB0.tape, hB0.output, hB0.size, fun k hk _ => hB0.block k hk⟩⟩
  case round =>
    obtain ⟨done, todo, hperm, hR, hG⟩ := hrel
    have HPM := Lib.hid hperm
    have HG := Lib.hid hG
    clear hperm hG
    go_wp2_with (first | (at_next; refine wpl_next8 _ rfl _ rfl rfl hR ?_ ?_) | go_in)
    · intro htodo
      subst htodo
      go_wp2
      go_end0
      refine ⟨rfl, ?_, HG.out⟩
      have := hR.map
      rw [List.append_nil] at this
      refine this.of_perm ?_
      have hp2 := HPM.out
      rw [List.append_nil] at hp2
      exact (hp2.filter _).symm
    · intro k v todo' w1 hp1 hm1 hR1 hen hg1 hz1
      have hkv : (k, v) ∈ l.map (entV sl) := HPM.out.mem_iff.2 (List.mem_append_right _ (hp1.mem_iff.2 List.mem_cons_self))
      obtain ⟨f, hf, hfe⟩ := List.mem_map.1 hkv
      unfold entV at hfe
      injection hfe with hfk hfv
      have hks : k.length < 100000 := by
        obtain ⟨j, hj, rfl⟩ := List.getElem_of_mem hf
        have := HS.out j
        rw [List.getD_eq_getElem?_getD, List.getElem?_eq_getElem hj] at this
        rw [← hfk]
        simp at this
        omega
      have hG1 : w.grownBy w1 (some mb) := HG.out.andThen hg1 (fun j hj => by cases hj; exact .inl (Nat.le_refl _))
      have HG1 := Lib.hid hG1
      have hbx1 : w1.cell? ⟨bx, 0, none⟩ = some (.string (mkS p)) := by
        rw [World.cell?_of_block (w := w) (hG1.block bx hbl (by simpa using hbm))]
        exact HBX.out
      have hbl1 : bx < w1.heap.size := Nat.lt_of_lt_of_le hbl hG1.size
      have hB1 := (Below.refl w1.heap.size w1).alloc (Nat.le_refl _) (.cells (fileC sl f) 64)
      have hbx2 := (hB1.cell hbl1).trans hbx1
      have HC := Lib.hid (putC_any k p f.size f.time f.chg (sl f.body).q (sl f.body).n (sl f.body).c bx (w1.alloc (.cells (fileC sl f) 64)) hbx2 hks hp)
      have HR1 := Lib.hid (hR1.of_below hB1)
      have HB1 := Lib.hid hB1
      subst hfv
      have HM := Lib.hid hm1
      have HP1 := Lib.hid hp1
      have HRL := Lib.hid hR.left
      have HNW := Lib.hid (Nat.le_trans (Nat.le_of_eq rfl) (Nat.lt_of_lt_of_le hR.lt (Nat.le_of_eq hz1.symm)))
      have hkl : ∀ x ∈ todo', x.1 ≠ k := by
        have hnd := hR1.map.keys
        intro x hx e
        have hsub : ((k, fileV sl f) :: todo').Sublist ((k, fileV sl f) :: todo') := List.Sublist.refl _
        have hnd2 : ((todo).map (·.1)).Nodup := by
          rw [List.map_append] at hnd
          exact (List.nodup_append.1 hnd).2.1
        have hnd3 := ((hp1.map (·.1)).nodup_iff).1 hnd2
        rw [List.map_cons, List.nodup_cons] at hnd3
        exact hnd3.1 (by show k ∈ _; rw [← e]; exact List.mem_map.2 ⟨x, hx, rfl⟩)
      have HKL := Lib.hid hkl
      clear hB1 hg1 hR hR1 hG1 hbx1 hbx2 hkv hm1 hp1 hz1 hkl
      unfold fileV fileC at *
      go_wp2_with fail
      refine HC.out.mono ?_
      rintro e w2 ⟨rfl, hB2⟩
      have HR2 := Lib.hid (HR1.out.of_below hB2)
      have hgrow : w.grownBy w2 (some mb) := HG1.out.andThen (show w1.grownBy w2 none from ⟨hB2.os.trans HB1.out.os, hB2.tape.trans HB1.out.tape, hB2.output.trans HB1.out.output, Nat.le_trans HB1.out.size hB2.size, fun i hi _ => (hB2.block i (Nat.lt_of_lt_of_le hi HB1.out.size)).trans (HB1.out.block i hi)⟩) (fun j hj => by cases hj)
      have HG2 := Lib.hid hgrow
      clear hgrow hB2 hen
      cases hc : clashL k p with
      | true =>
        have HCL := Lib.hid hc
        clear hc
        go_wp2_with (first | (refine wpl_drop8 _ rfl _ _ rfl mapT strT rfl HR2.out k rfl HKL.out ?_; intro w3 hR3 hg3 hz3; simp only [Act.put]) | go_in)
        go_roundw
        case rel =>
          refine ⟨(k, fileV sl f) :: done, todo', ?_, ?_, HG2.out.andThen hg3 (fun j hj => .inr hj)⟩
          · exact HPM.out.trans (((HP1.out.append_left done).trans List.perm_middle))
          · refine hR3.of_perm ?_
            rw [List.filter_cons_of_neg (by simpa using HCL.out)]
            exact delV_cons HR2.out.map.keys ((HP1.out.append_left _).trans List.perm_middle)
        case measure => rw [hR3.left, HRL.out, HP1.out.length_eq]; simp
      | false =>
        have HCL := Lib.hid hc
        clear hc
        go_wp2
        go_roundw
        case rel =>
          refine ⟨(k, fileV sl f) :: done, todo', ?_, ?_, HG2.out⟩
          · exact HPM.out.trans (((HP1.out.append_left done).trans List.perm_middle))
          · refine HR2.out.of_perm ?_
            rw [List.filter_cons_of_pos (by simpa using HCL.out)]
            exact ((HP1.out.append_left _).trans List.perm_middle)
        case measure => rw [HR2.out.left, HRL.out, HP1.out.length_eq]; simp
theorem box4_cell (w : World) (T : TypeId) (a b c d : Value) (j : Nat) : (w.alloc (.cells #[a, b, c, d] T)).cell? ⟨w.heap.size, j, none⟩ = [a, b, c, d][j]? := by
  unfold World.cell?
  rw [World.alloc_heap_new]
  simp
set_option maxHeartbeats 4000000 in
/-- put: what clashes is removed; the file is laid. -/
theorem put_any (sl : Nat → Hn) (l : List Fl) (p : S8) (f : Fl) (hf : f.p = p) (mb : Nat) (w : World) (h : MpB w mb (l.map (entV sl))) (hp : p.length < 100000) (hs : ShortF l) :
    Calls Tryd.prog 36 #[.map (some mb), .string (mkS p), fileV sl f] w fun e w' => e = .returned (.tuple #[]) ∧ MpB w' mb ((withoutL l p true ++ [f]).map (entV sl)) ∧ w.grownBy w' (some mb) := by
  have hml := h.lt
  have HPF := Lib.hid (putV_ent sl l p f hf)
  have hB0 := ((Below.refl w.heap.size w).alloc (Nat.le_refl _) (.cells #[.string (mkS p)] 9))
  have hB1 := hB0.alloc hB0.size (.cells (fileC sl f) 64)
  have hc0 : ((w.alloc (.cells #[.string (mkS p)] 9)).alloc (.cells (fileC sl f) 64)).cell? ⟨w.heap.size, 0, none⟩ = some (.string (mkS p)) := by
    rw [World.cell?_of_block (w := w.alloc (.cells #[.string (mkS p)] 9)) (((Below.refl _ (w.alloc (.cells #[.string (mkS p)] 9))).alloc (Nat.le_refl _) (.cells (fileC sl f) 64)).block w.heap.size (by rw [World.size_alloc]; omega))]
    exact World.cell?_alloc_new _ _ _ _
  have HD := Lib.hid (delF_any sl l p w.heap.size mb _ (h.of_below hB1) hc0 hp hs (by omega))
  have hcf : ∀ j, ((w.alloc (.cells #[.string (mkS p)] 9)).alloc (.cells (fileC sl f) 64)).cell? ⟨w.heap.size + 1, j, none⟩ = (fileC sl f).toList[j]? := fun j => by
    have := box4_cell (w.alloc (.cells #[.string (mkS p)] 9)) 64 (.int .i64 f.size) (.int .i64 f.time) (.int .i64 f.chg) (.slice (sl f.body).q (sl f.body).n (sl f.body).c) j
    rw [World.size_alloc] at this
    exact this
  have hsz : ((w.alloc (.cells #[.string (mkS p)] 9)).alloc (.cells (fileC sl f) 64)).heap.size = w.heap.size + 2 := by rw [World.size_alloc, World.size_alloc]
  have HB1 := Lib.hid hB1
  have HC0 := Lib.hid hc0
  have HCF := Lib.hid hcf
  have HSZ := Lib.hid hsz
  clear hB0 hB1 hc0 hcf hsz h
  unfold fileV fileC at *
  go_enter Tryd.func36, Tryd.ntmps36
  go_wp2_with fail
  refine HD.out.mono ?_
  rintro e w2 ⟨rfl, hM2, hg2⟩
  have HG := Lib.hid ((below_grown HB1.out (some mb)).andThen hg2 (fun j hj => .inr hj))
  have hk0 : w2.cell? ⟨w.heap.size, 0, none⟩ = some (.string (mkS p)) := by
    rw [World.cell?_of_block (hg2.block w.heap.size (by rw [HSZ.out]; omega) (by simp; omega))]
    exact HC0.out
  have hkf : ∀ j, w2.cell? ⟨w.heap.size + 1, j, none⟩ = [Value.int .i64 f.size, .int .i64 f.time, .int .i64 f.chg, .slice (sl f.body).q (sl f.body).n (sl f.body).c][j]? := fun j => by
    rw [World.cell?_of_block (hg2.block (w.heap.size + 1) (by rw [HSZ.out]; omega) (by simp; omega))]
    exact HCF.out j
  have f0 := hkf 0
  have f1 := hkf 1
  have f2 := hkf 2
  have f3 := hkf 3
  simp at f0 f1 f2 f3
  have HM2 := Lib.hid hM2
  clear hkf hg2 hM2 HD
  go_wp2_with (first | (refine wpl_update8 _ rfl _ _ _ rfl mapT strT rfl HM2.out p rfl _ rfl ?_; intro w3 hM3 hg3 hz3; simp only [Act.put]) | go_in)
  go_end0
  exact ⟨rfl, hM3.of_perm HPF.out, HG.out.andThen hg3 (fun j hj => .inr hj)⟩
end Go.Proofs.YtjglgohchhdkkaaDoor
