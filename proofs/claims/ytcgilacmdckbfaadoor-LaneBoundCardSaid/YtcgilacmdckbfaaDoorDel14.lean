/- slices.Delete of files. -/
import Derived.Test.YtcgilacmdckbfaaDoorMem14
import Derived.Shelf.RegionOpenPlain
import Derived.WalkKit
import Derived.Deep.RegionLaw
import Derived.Lib.Walk
set_option linter.unusedSimpArgs false
set_option maxRecDepth 100000
set_option linter.unusedVariables false
namespace Go.Proofs.YtcgilacmdckbfaaDoor
open Go Go.RowKit

/-- Held back. -/
def Hd (p : Prop) : Prop := p
theorem Hd.out {p : Prop} (h : Hd p) : p := h

/-- Cells of a block set one by one. -/
def setL : Array Value → Nat → List Value → Array Value
  | cur, _, [] => cur
  | cur, o, v :: r => setL (cur.setIfInBounds o v) (o + 1) r
theorem setL_size : ∀ (vs : List Value) (cur : Array Value) (o : Nat), (setL cur o vs).size = cur.size
  | [], _, _ => rfl
  | v :: r, cur, o => by rw [setL, setL_size r]; simp
theorem setL_get : ∀ (vs : List Value) (cur : Array Value) (o j : Nat), (setL cur o vs)[j]? = if o ≤ j ∧ j < o + vs.length ∧ j < cur.size then vs[j - o]? else cur[j]?
  | [], cur, o, j => by simp [setL]; omega
  | v :: r, cur, o, j => by
    rw [setL, setL_get r]
    simp only [Array.size_setIfInBounds, List.length_cons]
    by_cases h1 : o + 1 ≤ j ∧ j < o + 1 + r.length ∧ j < cur.size
    · rw [if_pos h1, if_pos (by omega), show j - o = (j - (o + 1)) + 1 by omega]
      simp
    · rw [if_neg h1]
      by_cases h2 : j = o
      · subst h2
        by_cases h3 : j < cur.size
        · rw [if_pos (by omega)]; simp [h3]
        · rw [if_neg (by omega)]; simp [h3]
      · rw [if_neg (by omega), Array.getElem?_setIfInBounds, if_neg (by omega)]
theorem setCells_heap (b : Nat) : ∀ (vs : List Value) (o : Nat) (w : World) (cur : Array Value) (t : TypeId) (fz : Nat × Nat), w.heap[b]? = some (.cells cur t fz) → (w.setCells b o vs).heap[b]? = some (.cells (setL cur o vs) t fz)
  | [], _, _, _, _, _, h => h
  | v :: r, o, w, cur, t, fz, h => by
    rw [World.setCells, setL]
    exact setCells_heap b r (o + 1) _ _ t fz (by simp [World.setCell, Array.getElem?_modify, h])
theorem setCells_kpF {S : Nat → Prop} (b : Nat) (hs : S b) : ∀ (vs : List Value) (o : Nat) (w : World), KpF S w (w.setCells b o vs)
  | [], _, w => .refl _ _
  | v :: r, o, w => (KpF.setCell w ⟨b, o, none⟩ v hs).trans (setCells_kpF b hs r (o + 1) _)
theorem clear14 (w : World) (ty : TypeId) (g o m c : Nat) (hm : 0 < m) (hc : ∀ j, j < m * 4 → (w.cell? ⟨g, o + j, none⟩).isSome = true) (hf : ∀ j, j < m * 4 → w.frozen? ⟨g, o + j, none⟩ = false) :
    ∃ zs, zs.length = m * 4 ∧ (Builtin.clear_ #[TF] ty #[.slice (some ⟨g, o, none⟩) m c]).run Tryd.prog w = .ok (.tuple #[]) (w.setCells g o zs) := by
  obtain ⟨zs, hzs⟩ : ∃ zs, (Builtin.zeroCells zF.cells m).toList = zs := ⟨_, rfl⟩
  have hl : zs.length = m * 4 := by rw [← hzs]; simp [Builtin.zeroCells, zF, Value.cells]
  have h1 : ∀ v ∈ zs, v.oneCell' = true := by
    rw [← hzs]
    intro v hv
    simp only [Builtin.zeroCells, zF] at hv
    obtain ⟨i, hi⟩ := List.getElem?_of_mem hv
    simp [Value.cells] at hi
    obtain ⟨a, -, rfl⟩ := hi
    have h4 : a % 4 = 0 ∨ a % 4 = 1 ∨ a % 4 = 2 ∨ a % 4 = 3 := by omega
    rcases h4 with h | h | h | h <;> rw [h] <;> rfl
  have hst := run_storeCells_cells (P := Tryd.prog) g o zs 0 w (by rw [hl]; simpa using hc) (by rw [hl]; simpa using hf) h1
  simp only [Nat.add_zero] at hst
  refine ⟨zs, hl, ?_⟩
  obtain ⟨k, rfl⟩ : ∃ k, m = k + 1 := ⟨m - 1, by omega⟩
  have hz : ∀ w, (zeroValue EF).run Tryd.prog w = .ok zF w := Tryd.zeroValue74
  simp [Builtin.clear_, run_underlying elF.und, hz, hzs, hst]
theorem del_list {cs : List Value} {n i j : Nat} (cur : Array Value) (hl : cs.length = n * 4) (ht : cur.toList.take (n * 4) = cs) (hsz : n * 4 ≤ cur.size) (hij : i ≤ j) (hj : j ≤ n) (zs : List Value) (o : Nat) (ho : o = (i + (n - j)) * 4) :
    (setL (setL cur (0 + i * 4) (cs.drop (j * 4))) o zs).toList.take ((n - (j - i)) * 4) = cs.take (i * 4) ++ cs.drop (j * 4) := by
  apply List.ext_getElem?
  intro t
  have hcs : ∀ u, u < n * 4 → cs[u]? = cur[u]? := fun u hu => by rw [← ht, List.getElem?_take, if_pos hu, Array.getElem?_toList]
  rw [List.getElem?_take]
  by_cases h1 : t < (n - (j - i)) * 4
  · rw [if_pos h1, Array.getElem?_toList, setL_get, if_neg (by omega), setL_get]
    by_cases h2 : t < i * 4
    · rw [if_neg (by omega), List.getElem?_append_left (by simp [hl]; omega), List.getElem?_take, if_pos h2, hcs t (by omega)]
    · rw [if_pos (by simp [hl]; omega), List.getElem?_append_right (by simp [hl]; omega)]
      congr 1
      simp [hl]
      omega
  · rw [if_neg h1]
    symm
    apply List.getElem?_eq_none
    simp [hl]
    omega
/-- What Delete leaves. -/
def DelP (w : World) (base : Nat) (v : Value) (m : Nat) (cs : List Value) (v' : Value) (w' : World) : Prop :=
  w'.ownsRow base EF 4 v' m cs ∧ v'.ownBlock = v.ownBlock ∧ KpF (fun g => v.ownBlock = some g) w w'
set_option maxRecDepth 1000000 in
set_option maxHeartbeats 4000000 in
theorem delete_any {base : Nat} {v : Value} {n : Nat} {cs : List Value} (w : World) (h : w.ownsRow base EF 4 v n cs) (i j : Nat) (hij : i ≤ j) (hj : j ≤ n) (hn : n < 100000000) (h1 : ∀ u ∈ cs, u.oneCell' = true) :
    Calls Tryd.prog 30 #[v, .int .i64 i, .int .i64 j] w fun e w' => ∃ v', e = .returned v' ∧ DelP w base v (n - (j - i)) (cs.take (i * 4) ++ cs.drop (j * 4)) v' w' := by
  have hlen := h.1
  by_cases heq : i = j
  · subst heq
    have hcs : cs.take (i * 4) ++ cs.drop (i * 4) = cs := List.take_append_drop _ _
    rw [hcs, Nat.sub_self, Nat.sub_zero]
    obtain ⟨p, cap, rfl, -, hpc, hle, -⟩ := own_shape h
    have hnc : i ≤ cap := by omega
    have HG := Lib.hid (show DelP w base (.slice p n cap) n cs (.slice p n cap) w from ⟨h, rfl, .refl _ _⟩)
    clear h hlen hcs h1
    by_cases hin : i = n
    · subst hin
      go_enter Tryd.func30, Tryd.ntmps30
      go_wp2
      all_goals go_ret
      all_goals exact ⟨_, rfl, HG.out⟩
    · go_enter Tryd.func30, Tryd.ntmps30
      go_wp2
      all_goals go_ret
      all_goals exact ⟨_, rfl, HG.out⟩
  · have hlt : i < j := by omega
    rcases h.2 with ⟨rfl, hn0⟩ | ⟨g, cap, cur, rfl, hb, hg, hle, hcm, hsz, ht⟩
    · exact absurd hj (by omega)
    · obtain ⟨news, hnews⟩ : ∃ news, news = cs.drop (j * 4) := ⟨_, rfl⟩
      have hnl : news.length = (n - j) * 4 := by rw [hnews, List.length_drop, hlen]; omega
      have hcell : ∀ u, u < cap * 4 → w.cell? ⟨g, 0 + u, none⟩ = cur[u]? := fun u hu => by
        unfold World.cell?; rw [hg]; simp
      have hfz : ∀ u, w.frozen? ⟨g, u, none⟩ = false := fun u => by
        unfold World.frozen?; rw [hg]; simp
      have hget : ∀ t u, news[t]? = some u → cur[j * 4 + t]? = some u := fun t u hu => by
        rw [hnews, List.getElem?_drop] at hu
        have hlt' : j * 4 + t < n * 4 := by
          have := (List.getElem?_eq_some_iff.1 hu).1; omega
        rw [← ht, List.getElem?_take, if_pos hlt', Array.getElem?_toList] at hu
        exact hu
      obtain ⟨A, hA, hsrc⟩ : ∃ A : Addr, (if cap = j then (some ⟨g, 0, none⟩ : Option Addr) else some ⟨g, 0 + j * 4, none⟩) = some A ∧ Hd (∀ t u, news[t]? = some u → w.drew.cell? (A.add t) = some u) := by
        by_cases hc : cap = j
        · refine ⟨⟨g, 0, none⟩, by simp [hc], fun t u hu => ?_⟩
          have h0 : news.length = 0 := by rw [hnl]; omega
          rw [List.length_eq_zero_iff.1 h0] at hu
          simp at hu
        · refine ⟨⟨g, 0 + j * 4, none⟩, by simp [hc], fun t u hu => ?_⟩
          have h2 := hget t u hu
          have hlt' := (Array.getElem?_eq_some_iff.1 h2).1
          rw [Addr.add_mid]
          show w.cell? _ = _
          rw [show 0 + j * 4 + t = 0 + (j * 4 + t) by omega, hcell _ (by omega)]
          exact h2
      have s1 : Hd (news.length = (n - j) * 4) := hnl
      have s2 : Hd (∀ u ∈ news, u.oneCell' = true) := fun u hu => by
        rw [hnews] at hu
        exact h1 u (List.drop_subset _ _ hu)
      have s3 : Hd (∀ t, t < news.length → (w.drew.cell? ⟨g, 0 + i * 4 + t, none⟩).isSome = true ∧ w.drew.frozen? ⟨g, 0 + i * 4 + t, none⟩ = false) := fun t ht' => by
        refine ⟨?_, hfz _⟩
        show (w.cell? _).isSome = true
        rw [show 0 + i * 4 + t = 0 + (i * 4 + t) by omega, hcell _ (by omega)]
        have : i * 4 + t < cur.size := by omega
        simp [this]
      obtain ⟨W1, hW1⟩ : ∃ W1, W1 = w.drew.setCells g (0 + i * 4) news := ⟨_, rfl⟩
      have hg1 : W1.heap[g]? = some (.cells (setL cur (0 + i * 4) news) EF (0, 0)) := by rw [hW1]; exact setCells_heap g news _ _ cur EF (0, 0) hg
      have hk1 : KpF (fun x => x = g) w W1 := by rw [hW1]; exact (KpF.drew w).trans (setCells_kpF (S := fun x => x = g) g rfl news _ _)
      obtain ⟨o, ho⟩ : ∃ o, o = (i + (n - j)) * 4 := ⟨_, rfl⟩
      obtain ⟨zs, hzl, hcl⟩ := clear14 W1 0 g o (n - (i + (n - j))) (cap - (i + (n - j))) (by omega) (fun t ht' => by
        unfold World.cell?
        rw [hg1]
        have : o + t < (setL cur (0 + i * 4) news).size := by rw [setL_size]; omega
        rw [setL_size] at this
        simp [setL_size, this]) (fun t ht' => by unfold World.frozen?; rw [hg1]; simp)
      have hfin := del_list cur hlen ht (by omega) hij hj zs o ho
      have hg2 := setCells_heap g zs o W1 _ EF (0, 0) hg1
      have hk2 := hk1.trans (setCells_kpF (S := fun x => x = g) g rfl zs o W1)
      obtain ⟨W2, hW2⟩ : ∃ W2, W1.setCells g o zs = W2 := ⟨_, rfl⟩
      rw [hW2] at hg2 hk2 hcl
      have hic : i ≤ cap := by omega
      have hjc : j ≤ cap := by omega
      have HF := Lib.hid (show DelP w base (.slice (some ⟨g, 0, none⟩) n cap) (n - (j - i)) (cs.take (i * 4) ++ cs.drop (j * 4)) (.slice (some ⟨g, 0, none⟩) (i + (n - j)) cap) W2 from by
        rw [show i + (n - j) = n - (j - i) by omega]
        exact ⟨⟨by simp [hlen]; omega, .inr ⟨g, cap, _, rfl, hb, hg2, by omega, hcm, by rw [setL_size, setL_size]; exact hsz, by rw [hnews]; exact hfin⟩⟩, rfl, hk2.mono fun k _ hk => by rw [hk]; rfl⟩)
      have X : Hd (W1 = w.drew.setCells g (0 + i * 4) news) := hW1
      have hcl : ∀ ty, (Builtin.clear_ #[TF] ty #[.slice (some ⟨g, (i + (n - j)) * 4, none⟩) (n - (i + (n - j))) (cap - (i + (n - j)))]).run Tryd.prog W1 = .ok (.tuple #[]) W2 := fun ty => by rw [← ho]; exact hcl
      clear hg hg1 hg2 hk1 hk2 hcell hfz hget hW1 hW2 hfin ht hlen hnews hnl h hsz h1 ho hzl
      go_enter Tryd.func30, Tryd.ntmps30
      go_wp2_with fail
      go_region_law (first | (refine step_append_room rfl (.tmp 22) (.tmp 25) TF rfl EF _ 4 elF.und rfl rfl g 0 i cap (by simp [Act.eval, Act.put]) A (n - j) (cap - j) news (by rw [← hA]; simp [Act.eval, Act.put]) s1.out hsrc.out s2.out (by omega) s3.out ?_; rw [← X.out]))
      go_wp2
      all_goals go_ret
      · have hcj : cap = j := by assumption
        subst hcj
        exact ⟨_, rfl, HF.out⟩
      · exact ⟨_, rfl, HF.out⟩
end Go.Proofs.YtcgilacmdckbfaaDoor
