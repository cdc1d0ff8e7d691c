/- The ward in memory: a box, a map from paths to maps from blocks to reasons. -/
import Derived.Test.YtllpcllgliknpaaGreatDoorKpf15
import Derived.Test.YtllpcllgliknpaaGreatDoorMapI15
set_option linter.unusedSimpArgs false
set_option maxRecDepth 100000
set_option linter.unusedVariables false
namespace Go.Proofs.YtllpcllgliknpaaGreatDoor
open Go Go.RowKit

abbrev TWd : TypeId := 37
abbrev TWm : TypeId := 35
abbrev TRs : TypeId := 61
theorem wmT : Tryz.prog.underlying TWm = some (.map 9 TRs) := by kernel_rfl
theorem rsT : Tryz.prog.underlying TRs = some (.map 3 3) := by kernel_rfl
theorem stT15 : Tryz.prog.underlying 9 = some .string := by kernel_rfl
theorem inT15 : Tryz.prog.underlying 3 = some (.int .i64) := by kernel_rfl
theorem zeroRs (w : World) : (zeroValue TRs).run Tryz.prog w = .ok (.map none) w := by kernel_rfl
theorem zeroIn (w : World) : (zeroValue 3).run Tryz.prog w = .ok (.int .i64 0) w := by kernel_rfl

/-- What is held of a path: blocks and reasons. -/
abbrev Hs := List (Int × Int)
abbrev Ws := List (S8 × Hs)
def hsV (h : Hs) : List (Int × Value) := h.map fun x => (x.1, .int .i64 x.2)
def wsV (bk : S8 → Nat) (s : Ws) : List (S8 × Value) := s.map fun x => (x.1, .map (some (bk x.1)))
def findW (s : Ws) (p : S8) : Option Hs := (s.find? fun x => x.1 == p).map (·.2)
def ofW (s : Ws) (p : S8) : Hs := (findW s p).getD []
def whyW (h : Hs) (k : Int) : Option Int := (h.find? fun x => x.1 == k).map (·.2)
def delW (s : Ws) (p : S8) : Ws := s.filter fun x => x.1 != p
def delH (h : Hs) (k : Int) : Hs := h.filter fun x => x.1 != k
def putH (h : Hs) (k r : Int) : Hs := (k, r) :: delH h k
def putW (s : Ws) (p : S8) (k r : Int) : Ws := (p, putH (ofW s p) k r) :: delW s p
def lenW (s : Ws) : Nat := (s.map fun x => x.2.length).sum
theorem findI_hs (h : Hs) (k : Int) : findI (hsV h) k = (whyW h k).map fun r => .int .i64 r := by
  unfold findI hsV whyW
  induction h with
  | nil => rfl
  | cons x h ih =>
    rw [List.map_cons, List.find?_cons, List.find?_cons]
    cases hx : (x.1 == k) with
    | true => rfl
    | false => exact ih
theorem findV_ws (bk : S8 → Nat) (s : Ws) (p : S8) : findV (wsV bk s) p = (findW s p).map fun _ => .map (some (bk p)) := by
  unfold findV wsV findW
  induction s with
  | nil => rfl
  | cons x s ih =>
    rw [List.map_cons, List.find?_cons, List.find?_cons]
    cases hx : (x.1 == p) with
    | true => rw [show x.1 = p by simpa using hx]; rfl
    | false => exact ih
theorem findW_in {s : Ws} {p : S8} {h : Hs} (hf : findW s p = some h) : (p, h) ∈ s := by
  unfold findW at hf
  cases hx : s.find? (fun x => x.1 == p) with
  | none => rw [hx] at hf; cases hf
  | some x =>
    rw [hx] at hf
    injection hf with hf
    have h1 := List.mem_of_find?_eq_some hx
    have h2 := List.find?_some hx
    have : x.1 = p := by simpa using h2
    subst this hf
    exact h1
theorem findW_none {s : Ws} {p : S8} (hf : findW s p = none) : ∀ x ∈ s, x.1 ≠ p := by
  unfold findW at hf
  rw [Option.map_eq_none_iff, List.find?_eq_none] at hf
  exact fun x hx => by simpa using hf x hx
theorem delI_hs (h : Hs) (k : Int) : delI (hsV h) k = hsV (delH h k) := by
  unfold delI hsV delH
  rw [List.filter_map]
  rfl
theorem putI_hs (h : Hs) (k r : Int) : putI (hsV h) k (.int .i64 r) = hsV (putH h k r) := by
  unfold putI putH
  rw [delI_hs]
  rfl
theorem delV_ws (bk : S8 → Nat) (s : Ws) (p : S8) : delV (wsV bk s) p = wsV bk (delW s p) := by
  unfold delV wsV delW
  rw [List.filter_map]
  rfl
theorem hsV_len (h : Hs) : (hsV h).length = h.length := by simp [hsV]
theorem delW_mem {s : Ws} {p : S8} {x : S8 × Hs} (h : x ∈ delW s p) : x ∈ s ∧ x.1 ≠ p := by
  unfold delW at h
  rw [List.mem_filter] at h
  exact ⟨h.1, by simpa using h.2⟩
/-- Where a path's map is put again, the others stay. -/
theorem ws_perm {s : Ws} (hk : (s.map (·.1)).Nodup) {p : S8} {h : Hs} (hm : (p, h) ∈ s) (bk : S8 → Nat) (h' : Hs) : (wsV bk s).Perm (wsV bk ((p, h') :: delW s p)) := by
  induction s with
  | nil => cases hm
  | cons x s ih =>
    rw [List.map_cons, List.nodup_cons] at hk
    by_cases hx : x.1 = p
    · have : delW (x :: s) p = s := by
        unfold delW
        rw [List.filter_cons, if_neg (by simp [hx]), List.filter_eq_self]
        intro y hy
        simp only [bne_iff_ne, ne_eq]
        intro e
        exact hk.1 (List.mem_map.2 ⟨y, hy, by rw [e, hx]⟩)
      rw [this]
      unfold wsV
      rw [List.map_cons, List.map_cons, hx]
    · have hm' : (p, h) ∈ s := by
        rcases List.mem_cons.1 hm with e | e
        · exact absurd (by rw [← e]) hx
        · exact e
      have h1 := ih hk.2 hm'
      have : delW (x :: s) p = x :: delW s p := by
        unfold delW
        rw [List.filter_cons, if_pos (by simpa using hx)]
      rw [this]
      unfold wsV at h1 ⊢
      rw [List.map_cons, List.map_cons, List.map_cons]
      rw [List.map_cons] at h1
      exact (h1.cons _).trans (List.Perm.swap _ _ _)
/-- A ward in block b; all its blocks are of F. -/
structure WdAt (w : World) (b : Nat) (F : Nat → Prop) (s : Ws) (mb : Nat) (bk : S8 → Nat) : Prop where
  box : w.heap[b]? = some (.cells #[.map (some mb)] TWd (0, 0))
  map : MpB w mb (wsV bk s)
  each : ∀ x ∈ s, MiB w (bk x.1) (hsV x.2)
  ne : ∀ x ∈ s, bk x.1 ≠ mb
  inj : ∀ x ∈ s, ∀ y ∈ s, bk x.1 = bk y.1 → x.1 = y.1
  fb : F b
  fm : F mb
  fk : ∀ x ∈ s, F (bk x.1)
section
variable {w w' : World} {b mb : Nat} {F T : Nat → Prop} {s : Ws} {bk : S8 → Nat}
theorem WdAt.lt (h : WdAt w b F s mb bk) : b < w.heap.size := (Array.getElem?_eq_some_iff.1 h.box).1
theorem WdAt.keys (h : WdAt w b F s mb bk) : (s.map (·.1)).Nodup := by
  have := h.map.keys
  unfold wsV at this
  rw [List.map_map] at this
  exact this
theorem WdAt.keep {S : Nat → Prop} (h : WdAt w b F s mb bk) (hK : KpF S w w') (hs : ∀ g, F g → ¬ S g) : WdAt w' b F s mb bk :=
  ⟨(hK.block b h.lt (hs b h.fb)).trans h.box, h.map.keep (hK.block _ h.map.lt (hs _ h.fm)), fun x hx => (h.each x hx).keep (hK.block _ (h.each x hx).lt (hs _ (h.fk x hx))), h.ne, h.inj, h.fb, h.fm, h.fk⟩
theorem WdAt.of_new (h : WdAt w b F s mb bk) (hB : Below w.heap.size w w') : WdAt w' b F s mb bk :=
  ⟨(hB.block b h.lt).trans h.box, h.map.of_below hB, fun x hx => (h.each x hx).of_below hB, h.ne, h.inj, h.fb, h.fm, h.fk⟩
theorem WdAt.mono (h : WdAt w b F s mb bk) (hs : ∀ g, g < w.heap.size → F g → T g) : WdAt w b T s mb bk :=
  ⟨h.box, h.map, h.each, h.ne, h.inj, hs b h.lt h.fb, hs mb h.map.lt h.fm, fun x hx => hs _ (h.each x hx).lt (h.fk x hx)⟩
theorem WdAt.cell (h : WdAt w b F s mb bk) : w.cell? ⟨b, 0, none⟩ = some (.map (some mb)) := by
  unfold World.cell?
  rw [h.box]
  simp
theorem WdAt.of (h : WdAt w b F s mb bk) {p : S8} {l : Hs} (hf : findW s p = some l) : MiB w (bk p) (hsV l) := h.each (p, l) (findW_in hf)
/-- A block is held for a reason, its path being there. -/
theorem WdAt.put (h : WdAt w b F s mb bk) {p : S8} {l : Hs} (hf : findW s p = some l) (k r : Int) (hm : MiB w' (bk p) (putI (hsV l) k (.int .i64 r))) (hg : w.grownBy w' (some (bk p))) : WdAt w' b F (putW s p k r) mb bk := by
  have hin := findW_in hf
  have hof : ofW s p = l := by unfold ofW; rw [hf]; rfl
  have hbp := h.ne _ hin
  have hk : ∀ g, g < w.heap.size → g ≠ bk p → w'.heap[g]? = w.heap[g]? := fun g hl hne => hg.block g hl (fun e => hne (by injection e with e))
  refine ⟨(hk b h.lt (fun e => ?_)).trans h.box, ?_, fun x hx => ?_, fun x hx => ?_, fun x hx y hy => ?_, h.fb, h.fm, fun x hx => ?_⟩
  · obtain ⟨es, clock, hb, -⟩ := h.each _ hin
    rw [← e, h.box] at hb
    cases hb
  · refine (h.map.keep (hk mb h.map.lt (Ne.symm hbp))).of_perm ?_
    exact ws_perm h.keys hin bk _
  · rcases List.mem_cons.1 hx with rfl | hx
    · rw [hof, ← putI_hs]; exact hm
    · obtain ⟨h1, h2⟩ := delW_mem hx
      exact (h.each x h1).keep (hk _ (h.each x h1).lt fun e => h2 (h.inj x h1 (p, l) hin e))
  · rcases List.mem_cons.1 hx with rfl | hx
    · exact hbp
    · exact h.ne x (delW_mem hx).1
  · rcases List.mem_cons.1 hx with rfl | hx <;> rcases List.mem_cons.1 hy with rfl | hy
    · exact fun _ => rfl
    · exact h.inj (p, l) hin y (delW_mem hy).1
    · exact h.inj x (delW_mem hx).1 (p, l) hin
    · exact h.inj x (delW_mem hx).1 y (delW_mem hy).1
  · rcases List.mem_cons.1 hx with rfl | hx
    · exact h.fk (p, l) hin
    · exact h.fk x (delW_mem hx).1
/-- A new map for a path that is not there, which is then put. -/
theorem WdAt.fresh (h : WdAt w b F s mb bk) {p : S8} (hf : findW s p = none) {g : Nat} (hn : MiB w g (hsV [])) (hgb : ∀ x ∈ s, bk x.1 ≠ g) (hgm : g ≠ mb) (hFg : F g)
    (hm : MpB w' mb (putV (wsV bk s) p (.map (some g)))) (hg : w.grownBy w' (some mb)) : WdAt w' b F ((p, []) :: s) mb (fun q => if q = p then g else bk q) := by
  have hk : ∀ k, k < w.heap.size → k ≠ mb → w'.heap[k]? = w.heap[k]? := fun k hl hne => hg.block k hl (fun e => hne (by injection e with e))
  have hnp := findW_none hf
  have hbk : ∀ x ∈ s, (if x.1 = p then g else bk x.1) = bk x.1 := fun x hx => if_neg (hnp x hx)
  have hdel : delV (wsV bk s) p = wsV bk s := by
    rw [delV_ws]
    unfold delW
    rw [List.filter_eq_self.2]
    intro x hx
    simpa using hnp x hx
  refine ⟨(hk b h.lt (fun e => ?_)).trans h.box, ?_, fun x hx => ?_, fun x hx => ?_, fun x hx y hy => ?_, h.fb, h.fm, fun x hx => ?_⟩
  · obtain ⟨es, clock, hb, -⟩ := h.map
    rw [← e, h.box] at hb
    cases hb
  · have e : wsV (fun q => if q = p then g else bk q) ((p, []) :: s) = putV (wsV bk s) p (.map (some g)) := by
      unfold putV
      rw [hdel]
      unfold wsV
      rw [List.map_cons]
      show (p, Value.map (some (if p = p then g else bk p))) :: _ = _
      rw [if_pos rfl]
      congr 1
      exact List.map_congr_left fun x hx => by show (x.1, Value.map (some (if x.1 = p then g else bk x.1))) = _; rw [hbk x hx]
    rw [e]
    exact hm
  · rcases List.mem_cons.1 hx with rfl | hx
    · show MiB w' (if p = p then g else bk p) _
      rw [if_pos rfl]
      exact hn.keep (hk g hn.lt hgm)
    · show MiB w' (if x.1 = p then g else bk x.1) _
      rw [hbk x hx]
      exact (h.each x hx).keep (hk _ (h.each x hx).lt (h.ne x hx))
  · rcases List.mem_cons.1 hx with rfl | hx
    · show (if p = p then g else bk p) ≠ mb
      rw [if_pos rfl]; exact hgm
    · show (if x.1 = p then g else bk x.1) ≠ mb
      rw [hbk x hx]; exact h.ne x hx
  · show (if x.1 = p then g else bk x.1) = (if y.1 = p then g else bk y.1) → _
    rcases List.mem_cons.1 hx with rfl | hx <;> rcases List.mem_cons.1 hy with rfl | hy
    · exact fun _ => rfl
    · rw [if_pos rfl, hbk y hy]; exact fun e => absurd e.symm (hgb y hy)
    · rw [if_pos rfl, hbk x hx]; exact fun e => absurd e (hgb x hx)
    · rw [hbk x hx, hbk y hy]; exact h.inj x hx y hy
  · show F (if x.1 = p then g else bk x.1)
    rcases List.mem_cons.1 hx with rfl | hx
    · rw [if_pos rfl]; exact hFg
    · rw [hbk x hx]; exact h.fk x hx
end
end Go.Proofs.YtllpcllgliknpaaGreatDoor
