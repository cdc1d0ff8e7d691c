/- slices.SortFunc of files by their paths. -/
import Derived.Test.YtcgilacmdckbfaaDoorWrk14
import Derived.Test.YtcgilacmdckbfaaDoorLib14
import Derived.Shelf.SlSortCmp.NoneTotal
set_option linter.unusedSimpArgs false
set_option maxRecDepth 100000
set_option linter.unusedVariables false
namespace Go.Proofs.YtcgilacmdckbfaaDoor
open Go Go.RowKit Go.Shelf Go.Sort Go.Lib

/-- What cmp.Compare tells of two paths. -/
def cmpF (x y : Fl) : Int := if x.path < y.path then -1 else if y.path < x.path then 1 else 0
theorem ltF14 (x y : Fl) : ltOf cmpF x y = decide (x.path < y.path) := by
  unfold ltOf cmpF
  by_cases h1 : x.path < y.path
  · simp [h1]
  · by_cases h2 : y.path < x.path <;> simp [h1, h2]
theorem swoF : SWO (ltOf cmpF) where
  irrefl x := by rw [ltF14]; simp [List.lt_irrefl]
  trans x y z h1 h2 := by
    rw [ltF14] at *
    simp only [decide_eq_true_eq] at *
    exact List.lt_trans h1 h2
  ntrans x y z h1 h2 := by
    rw [ltF14] at *
    simp only [decide_eq_false_iff_not] at *
    rw [List.not_lt] at *
    exact List.le_trans h2 h1
theorem isNaN_any (s : ByteArray) (w : World) : Calls Tryd.prog 49 #[.string s] w fun e w' => e = .returned (.bool false) ∧ w' = w := by
  go_enter Tryd.func49, Tryd.ntmps49
  go_wp2
  go_ret
  exact ⟨by simp, rfl⟩
theorem compare_str (x y : S8) (w : World) : Calls Tryd.prog 35 #[.string (mkS x), .string (mkS y)] w fun e w' => e = .returned (.int .i64 (if x < y then -1 else if y < x then 1 else 0)) ∧ w' = w := by
  have HN := fun s => isNaN_any s w
  have hgt : ∀ u, (binOp .gtr 9 (.string (mkS x)) (.string (mkS y))).run Tryd.prog u = .ok (.bool (decide (y < x))) u := fun u => by
    have e : (!(Op.bytesLess (mkS x).toList (mkS y).toList || ((mkS x).toList == (mkS y).toList))) = decide (y < x) := by
      rw [mkS_toList, mkS_toList, bytesLess_eq]
      by_cases h1 : y < x
      · have h2 : ¬ x < y := fun h => List.lt_irrefl _ (List.lt_trans h h1)
        have h3 : x ≠ y := fun h => List.lt_irrefl _ (h ▸ h1)
        simp [h1, h2, h3]
      · by_cases h2 : x < y
        · simp [h1, h2]
        · have h3 : x = y := List.le_antisymm (by rwa [List.not_lt] at h1) (by rwa [List.not_lt] at h2)
          subst h3
          simp
    rw [← e]
    rfl
  by_cases h1 : x < y
  · have hb : Op.bytesLess x y = true := by rw [bytesLess_eq]; exact decide_eq_true h1
    go_enter Tryd.func35, Tryd.ntmps35
    go_wp2_with (go_at_call 49; refine (HN _).mono ?_; rintro e w' ⟨rfl, rfl⟩)
    go_ret
    exact ⟨rfl, rfl⟩
  · have hb : Op.bytesLess x y = false := by rw [bytesLess_eq]; exact decide_eq_false h1
    by_cases h2 : y < x
    · rw [decide_eq_true h2] at hgt
      rw [if_neg h1, if_pos h2]
      go_enter Tryd.func35, Tryd.ntmps35
      go_wp2_with (go_at_call 49; refine (HN _).mono ?_; rintro e w' ⟨rfl, rfl⟩)
      go_ret
      exact ⟨rfl, rfl⟩
    · rw [decide_eq_false h2] at hgt
      rw [if_neg h1, if_neg h2]
      go_enter Tryd.func35, Tryd.ntmps35
      go_wp2_with (go_at_call 49; refine (HN _).mono ?_; rintro e w' ⟨rfl, rfl⟩)
      go_ret
      exact ⟨rfl, rfl⟩
theorem cmpClos (x y : Fl) (W : World) : Calls Tryd.prog 34 #[.agg (flC x).toArray, .agg (flC y).toArray] W fun e w' => e = .returned (.int .i64 (cmpF x y)) ∧ ∃ q os', w' = grow (W.drewN q) os' := by
  have HC := fun u => compare_str x.path y.path u
  unfold cmpF
  generalize (if x.path < y.path then (-1 : Int) else if y.path < x.path then 1 else 0) = r at HC ⊢
  show Calls Tryd.prog 34 #[.agg #[.string (mkS x.path), .int .i64 (x.blocks : Int), .int .i64 (x.done : Int), .int .i64 (x.tick : Int)], .agg #[.string (mkS y.path), .int .i64 (y.blocks : Int), .int .i64 (y.done : Int), .int .i64 (y.tick : Int)]] W fun e w' => e = .returned (.int .i64 r) ∧ ∃ q os', w' = grow (W.drewN q) os'
  go_enter Tryd.func34, Tryd.ntmps34
  go_wp2_with (go_at_call 35; refine (HC _).mono ?_; rintro e w' ⟨rfl, rfl⟩)
  go_ret
  exact ⟨rfl, 0, _, by rw [alloc_eq_grow, alloc_eq_grow, grow_grow]; rfl⟩
theorem heap_sortF {w : World} {g n : Nat} {os : Array Obj} {cur : Array Value} {e : TypeId} {fr : Nat × Nat} (d : Array Fl) (hb : w.heap[g]? = some (.cells cur e fr)) :
    (sortWorldK flC 4 w g 0 n d os).heap[g]? = some (.cells (putCells id 0 (flatK flC 4 d) cur) e fr) := by
  have hg : g < w.heap.size := (Array.getElem?_eq_some_iff.1 hb).1
  unfold sortWorldK
  rw [heap_grow_old _ _ (by simpa [putRowK] using hg)]
  simp [putRowK, putRow, mapBlock, Sort.ahead, Array.getElem?_modify, hb, onCells]
theorem kpF_sortF (w : World) (g n : Nat) (os : Array Obj) (d : Array Fl) : KpF (fun k => k = g) w (sortWorldK flC 4 w g 0 n d os) := by
  unfold sortWorldK
  refine ⟨rfl, rfl, rfl, by simp [putRowK], fun k hk hne => ?_⟩
  rw [heap_grow_old _ _ (by simpa [putRowK] using hk)]
  have : g ≠ k := fun e => hne e.symm
  simp [putRowK, putRow, mapBlock, Sort.ahead, Array.getElem?_modify, this]
theorem flsC_at (l : List Fl) (t : Nat) (ht : t < l.length * 4) : (flsC l)[t]? = (flC (l.getD (t / 4) fl0))[t % 4]? := by
  have := flsC_get l (t / 4) (t % 4) (by omega) (by omega)
  rw [show t / 4 * 4 + t % 4 = t by omega] at this
  exact this
theorem flat_get (d : Array Fl) (t : Nat) (ht : t < d.size * 4) : some (flatK flC 4 d)[t]! = (flsC d.toList)[t]? := by
  rw [get_flatK flC 4 d t ht, flsC_at _ t (by simpa using ht)]
  have h1 : d.toList.getD (t / 4) fl0 = d[t / 4]! := by
    have : t / 4 < d.size := by omega
    rw [List.getD_eq_getElem?_getD, Array.getElem?_toList, Array.getElem?_eq_getElem this, getElem!_pos d (t / 4) this]
    rfl
  rw [h1]
  have h2 : t % 4 < (flC d[t / 4]!).length := by simp [flC]; omega
  rw [List.getElem?_eq_getElem h2, getElem!_pos (flC d[t / 4]!) (t % 4) h2]
theorem take_putF (cur : Array Value) (d : Array Fl) (h : d.size * 4 ≤ cur.size) : (putCells id 0 (flatK flC 4 d) cur).toList.take (d.size * 4) = flsC d.toList := by
  apply List.ext_getElem?
  intro j
  by_cases hj : j < d.size * 4
  · rw [List.getElem?_take_of_lt hj, Array.getElem?_toList, ← flat_get d j hj]
    simp only [putCells, Array.getElem?_mapIdx]
    rw [Array.getElem?_eq_getElem (show j < cur.size by omega)]
    simp only [Option.map_some]
    rw [if_pos ⟨Nat.zero_le _, by rw [size_flatK]; omega⟩]
    rfl
  · rw [List.getElem?_take_eq_none (by omega), List.getElem?_eq_none (by rw [flsC_len]; simp; omega)]
/-- The files by their paths. -/
def byPath (l : List Fl) : Prop := l.Pairwise fun x y => ¬ y.path < x.path
theorem sort_any {v : Value} {l : List Fl} (w : World) (h : w.ownsRow 0 EF 4 v l.length (flsC l)) (hn : l.length < 100000000) :
    Calls Tryd.prog 33 #[v, .func (.func 34) #[] #[]] w fun e w' => e = .returned (.tuple #[]) ∧ ∃ l', l'.Perm l ∧ byPath l' ∧ w'.ownsRow 0 EF 4 v l'.length (flsC l') ∧ KpF (fun g => v.ownBlock = some g) w w' := by
  by_cases hl : l = []
  · subst hl
    obtain ⟨p, cap, rfl, -⟩ := own_shape h
    have := AnyF.slices_SortFunc_none Tryd.sortF14 p cap (.func (.func 34) #[] #[]) w
    change Calls Tryd.prog 33 _ _ _ at this
    refine this.mono ?_
    rintro e w' ⟨rfl, rfl⟩
    exact ⟨rfl, [], .refl _, .nil, h, .refl _ _⟩
  · have hO := h
    rcases h.2 with ⟨rfl, hn0⟩ | ⟨g, cap, cur, rfl, hb, hg, hle, hcm, hsz, ht⟩
    · exact absurd (List.eq_nil_of_length_eq_zero hn0) hl
    · have hgl : g < w.heap.size := (Array.getElem?_eq_some_iff.1 hg).1
      have hH : HoldsK flC 4 w g 0 l.toArray := fun j hj => by
        rw [size_flatK] at hj
        have hj' : j < l.length * 4 := by simpa using hj
        have e := flat_get l.toArray j (by simpa using hj')
        rw [Nat.zero_add]
        refine ⟨?_, by simp [World.frozen?, hg]⟩
        show w.cell? _ = some (flatK flC 4 l.toArray)[j]!
        rw [e, show l.toArray.toList = l from rfl, ← ht, List.getElem?_take_of_lt hj', Array.getElem?_toList]
        simp [World.cell?, hg]
      have eg : ∀ args w, (callFunc 34 args).run Tryd.prog w = .ok (.enter 34 args) w := enters_of Tryd.func34 (by kernel_rfl) rfl
      have key := AnyQ.slices_SortFunc Tryd.sortF14 4 Tryd.isAgg74 Tryd.sizeOf74 flC (fun _ => rfl) (fun x u hu => flC_one x u hu) cmpF swoF 34 #[] g 0 cap l.toArray w eg (fun m os dk hdk x y => cmpClos x y _) hH hgl (by simp; omega)
      change Calls Tryd.prog 33 _ _ _ at key
      rw [show l.toArray.size = l.length from by simp] at key
      refine key.mono ?_
      rintro e w' ⟨rfl, d', n, os, hp, hs, rfl⟩
      have hsz' : d'.size = l.length := by simpa using hp.1
      have hperm : d'.toList.Perm l := by
        have := hp.2.2
        rw [Array.extract_eq_self_of_le (by omega), Array.extract_eq_self_of_le (by simp)] at this
        exact this
      refine ⟨rfl, d'.toList, hperm, ?_, ⟨by rw [flsC_len], .inr ⟨g, cap, _, ?_, Nat.zero_le _, heap_sortF d' hg, by simp; omega, hcm, by simp [putCells]; exact hsz, ?_⟩⟩, (kpF_sortF w g n os d').mono fun k _ hk => by rw [hk]; rfl⟩
      · rw [byPath, List.pairwise_iff_getElem]
        intro i j hi hj hij
        have := hs i j (Nat.zero_le _) hij (by simpa [hsz'] using hj)
        rw [ltF14] at this
        have h3 := of_decide_eq_false this
        rw [getElem!_pos d' j (by simpa using hj), getElem!_pos d' i (by simpa using hi)] at h3
        exact h3
      · simp [hsz']
      · rw [Array.length_toList]
        exact take_putF cur d' (by omega)
end Go.Proofs.YtcgilacmdckbfaaDoor
