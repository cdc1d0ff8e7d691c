/- Paths of the program's disk: the map's keys, sorted. -/
import Derived.Test.YtjglgohchhdkkaaDoorWri8
import Derived.Sort.KeysCollected
set_option linter.unusedSimpArgs false
set_option linter.unusedVariables false
namespace Go.Proofs.YtjglgohchhdkkaaDoor
open Go Go.RowKit Go.WideShapes
open Go.WideElems (rd rg rd_mk rg_of)
open Go.WideMaps (keyOf_string_mk)

def kbS : Value → S8
  | .string s => s.data.toList
  | _ => []
theorem mkS_data (p : S8) : (mkS p).data.toList = p := by unfold mkS; simp
theorem kbS_mk (p : S8) : kbS (.string (mkS p)) = p := mkS_data p
def unitR (_ : Value) : Option (DataW Unit × List MemPlace) := some (.nil, [])
theorem MpB.owns {w : World} {b : Nat} {l : List (S8 × Value)} (h : MpB w b l) (hk : ∀ x ∈ l, x.1.length ≤ 1000) (hn : l.length ≤ 100000) :
    ∃ D : DataW Unit, w.ownsMap Tryd.prog 9 unitR b l.length D ∧ (strKeys D).Perm (l.map (·.1)) ∧ Maps.size D = l.length := by
  obtain ⟨es, clock, hb, r⟩ := h
  have hsz := r.size
  have hrd : ∀ x ∈ es.toList, rd Tryd.prog 9 unitR x = some (.string (kbS x.key), .nil) := fun x hx => by
    obtain ⟨p, v, hm, e1, e2⟩ := r.mem hx
    have hl : p.length ≤ 1000 := hk _ hm
    have hkey := keyOf_string_mk (P := Tryd.prog) strT (s := mkS p) (by rw [mkS_size]; simp only [maxLen]; omega)
    rw [mkS_data] at hkey
    obtain ⟨key, val, born⟩ := x
    dsimp only at e1
    subst e1
    rw [kbS_mk]
    exact rd_mk (R := unitR) (yv := (DataW.nil, [])) hkey rfl
  have hrg : es.toList.map (rg Tryd.prog 9 unitR) = es.toList.map fun x => (.string (kbS x.key), .nil) := List.map_congr_left fun x hx => rg_of (hrd x hx)
  refine ⟨_, ⟨es, clock, hb, ⟨by simp only [maxLen]; omega, r.st, fun x hx => ⟨_, hrd x hx⟩⟩, by omega, rfl⟩, ?_, ?_⟩
  · show ((List.foldr DataW.insert [] _).map fun p => _root_.Go.strOf p.1).Perm _
    refine ((sorted_perm _).map _).trans ?_
    rw [hrg, List.map_map]
    have e1 : (es.toList.map ((fun p : Lit × DataW Unit => _root_.Go.strOf p.1) ∘ fun x : MapEntry => (Lit.string (kbS x.key), DataW.nil))) = (es.toList.map kvE).map fun x => kbS x.1 := by
      rw [List.map_map]
      rfl
    rw [e1]
    refine (r.kv.map _).trans (List.Perm.of_eq ?_)
    rw [List.map_map]
    exact List.map_congr_left fun x _ => kbS_mk x.1
  · show (List.foldr DataW.insert [] _).length = _
    rw [length_sorted, List.length_map, ← hsz]
    simp
theorem elS : ElK 37 9 (.string ⟨#[]⟩) 1 16 := ⟨by kernel_rfl, by kernel_rfl, rfl, by decide, by decide⟩
theorem encStr_mk (l : List S8) : l.map encStr = l.map fun s => .string (mkS s) := List.map_congr_left fun s _ => by show Value.string ⟨s.toArray⟩ = _; rw [mkS_lit]
section
variable {w w' : World} {S S' : Nat → Prop} {b : Nat} {m : Dk} {mv md : Nat} {pv : Value} {vs : List Value} {sl : Nat → Hn}
theorem sort_strict {l : List S8} (hn : l.Nodup) : ((l.mergeSort fun x y => decide (x ≤ y))).Pairwise fun x y => decide (y ≤ x) = false := by
  have tr : ∀ a b c : S8, (fun x y : S8 => decide (x ≤ y)) a b = true → (fun x y : S8 => decide (x ≤ y)) b c = true → (fun x y : S8 => decide (x ≤ y)) a c = true := fun a b c h1 h2 => by simp only [decide_eq_true_eq] at *; exact List.le_trans h1 h2
  have to : ∀ a b : S8, ((fun x y : S8 => decide (x ≤ y)) a b || (fun x y : S8 => decide (x ≤ y)) b a) = true := fun a b => by simp only [Bool.or_eq_true, decide_eq_true_eq]; exact List.le_total a b
  have h1 := List.pairwise_mergeSort tr to l
  have h2 : (l.mergeSort fun x y => decide (x ≤ y)).Nodup := ((List.mergeSort_perm l _).nodup_iff).2 hn
  refine (h1.and h2).imp fun {x y} h => ?_
  rw [decide_eq_false_iff_not]
  intro h3
  have h4 : x ≤ y := by simpa using h.1
  exact h.2 (List.le_antisymm h4 h3)
set_option maxRecDepth 100000 in
set_option maxHeartbeats 4000000 in
theorem paths_any (h : Dp w S b m mv md pv vs sl) (hok : DkOk 300 m) : Calls Tryd.prog 13 #[.pointer (some ⟨b, 0, none⟩)] w fun e w' => ∃ (v : Value) (ls : List S8), e = .returned v ∧ ls.Perm (m.seen.map Fl.p) ∧ ls.Pairwise (fun x y => decide (y ≤ x) = false) ∧ w'.ownsRow w.heap.size 9 1 v ls.length (ls.map fun s => .string (mkS s)) ∧ Below w.heap.size w w' := by
  have c2 := h.cell 2
  simp at c2
  obtain ⟨D, hown, hperm, hsize⟩ := h.vis.owns (fun x hx => by
    obtain ⟨f, hf, rfl⟩ := List.mem_map.1 hx
    have := (shortF_iff.1 hok.shS) f hf
    exact Nat.le_trans this (by decide)) (by rw [List.length_map]; have := hok.seen; omega)
  rw [List.length_map] at hsize hown
  have e0 : (m.seen.map (entV sl)).map (·.1) = m.seen.map Fl.p := by rw [List.map_map]; rfl
  rw [e0] at hperm
  have HPM := Lib.hid hperm
  have HON := Lib.hid h.vis.once
  have HKY := Lib.hid (callsIn_wide.1 (Tryd.maps_Keys_31 (some mv) w))
  have hsn := hok.seen
  have HST := Lib.hid (callsIn_wide.1 (Tryd.slices_Sorted_keys_30_31 mv m.seen.length D unitR w hown (by rw [hsize]; simp only [maxLen]; omega) (by rw [hsize]; omega)))
  have HSZ := Lib.hid (World.size_alloc w (.cells #[.map (some mv)] 53))
  have HB := Lib.hid ((Below.refl w.heap.size w).alloc (Nat.le_refl _) (.cells #[.map (some mv)] 53))
  clear h hok hown hperm hsize hsn e0
  go_enter Tryd.func13, Tryd.ntmps13
  go_wp2_with fail
  refine HKY.out.mono ?_
  rintro e w2 ⟨rfl, rfl⟩
  go_wp2_with fail
  refine HST.out.mono ?_
  rintro e w3 ⟨v, ss, rfl, hp, hrow, _, hB⟩
  have HX := Lib.hid (And.intro hp (And.intro hrow hB))
  clear hp hrow hB HKY HST
  go_wp2
  go_ret
  obtain ⟨hp, hrow, hB⟩ := HX.out
  have hpp := hp.trans HPM.out
  refine ⟨v, ss.mergeSort (fun x y => decide (x ≤ y)), rfl, (List.mergeSort_perm ss _).trans hpp, sort_strict ((hpp.nodup_iff).2 HON.out), ?_, HB.out.trans (hB.mono HB.out.size)⟩
  rw [(List.mergeSort_perm ss _).length_eq, ← encStr_mk]
  exact own_lower hrow HB.out.size
end
end Go.Proofs.YtjglgohchhdkkaaDoor
