/- Merged texts: MapR8, Lbs14, Dns14, Bns14, Awk14. -/
import Derived.Test.YtcgilacmdckbfaaDoorKB4
import Derived.Test.YtcgilacmdckbfaaDoorLnx14
import Derived.Test.YtcgilacmdckbfaaDoorKB2
import Derived.Test.YtcgilacmdckbfaaDoorBase
import Derived.Test.YtcgilacmdckbfaaDoorLst14
set_option linter.unusedSimpArgs false
set_option linter.unusedVariables false
/- A range over a map from strings: each of its entries once, in whatever order; the walk's laws at the operations on maps. -/
set_option maxRecDepth 100000
namespace Go.Proofs.YtcgilacmdckbfaaDoor
open Go Go.RowKit Go.MapKept
open Go.ChangeMaps (setBlock)

/-- A range over the map in block b, its iterator in block r: these are still to come. -/
def RngB (w : World) (b r : Nat) (l todo : List (S8 × Value)) : Prop :=
  ∃ es clock since seen c0, w.heap[b]? = some (.map es clock) ∧ MpOk es clock l ∧ w.heap[r]? = some (.mapIter (some b) since seen c0) ∧ (∀ x ∈ es.toList, x.born < since) ∧ since ≤ c0 ∧ since ≤ clock ∧ ((leftOf es seen).toList.map kvE).Perm (todo.map kvS)
section
variable {w w' : World} {b r : Nat} {l todo : List (S8 × Value)}
theorem RngB.map (h : RngB w b r l todo) : MpB w b l := by
  obtain ⟨es, clock, _, _, _, hb, h1, _⟩ := h
  exact ⟨es, clock, hb, h1⟩
theorem RngB.ne (h : RngB w b r l todo) : r ≠ b := by
  obtain ⟨es, clock, since, seen, c0, hb, _, hr, _⟩ := h
  intro e
  rw [e, hb] at hr
  cases hr
theorem RngB.lt (h : RngB w b r l todo) : r < w.heap.size := by
  obtain ⟨es, clock, since, seen, c0, hb, _, hr, _⟩ := h
  exact (Array.getElem?_eq_some_iff.1 hr).1
theorem RngB.left (h : RngB w b r l todo) : w.rangeLeft b r = todo.length := by
  obtain ⟨es, clock, since, seen, c0, hb, _, hr, _, _, _, hp⟩ := h
  simp only [World.rangeLeft, hb, hr]
  have := hp.length_eq
  simpa using this
theorem RngB.keep (h : RngB w b r l todo) (hb : w'.heap[b]? = w.heap[b]?) (hr : w'.heap[r]? = w.heap[r]?) : RngB w' b r l todo := by
  obtain ⟨es, clock, since, seen, c0, h1, h2, h3, h4⟩ := h
  exact ⟨es, clock, since, seen, c0, by rw [hb]; exact h1, h2, by rw [hr]; exact h3, h4⟩
theorem RngB.of_below (h : RngB w b r l todo) (hB : Below w.heap.size w w') : RngB w' b r l todo := h.keep (hB.block b h.map.lt) (hB.block r h.lt)
theorem RngB.of_perm (h : RngB w b r l todo) {l' : List (S8 × Value)} (hp : l.Perm l') : RngB w b r l' todo := by
  obtain ⟨es, clock, since, seen, c0, h1, h2, h3⟩ := h
  exact ⟨es, clock, since, seen, c0, h1, h2.of_perm hp, h3⟩
end
section
variable {P : Program} {T K E : TypeId} (hT : P.underlying T = some (.map K E)) (hK : P.underlying K = some .string)
variable {w : World} {b r : Nat} {l todo : List (S8 × Value)}
include hT
omit hT
include hT hK
end
section
variable {P : Program} (w : World) {ops : Array Oper} {rest : List Oper} {o : Oper} {a : Go.Act} {Q : Exit → Go.Act → World → Prop} {T K E : TypeId} {b r : Nat} {l todo : List (S8 × Value)}
theorem wpl_delete8 (hg : o.guard = none) (m x : Operand) (hop : o.op = Op.call { callee := Callee.builtin Builtin.delete, args := #[m, x], argTypes := #[T, K] }) (hT : P.underlying T = some (.map K E)) (hK : P.underlying K = some .string)
    (hm : a.eval m = .map (some b)) (h : MpB w b l) (p : S8) (hx : a.eval x = .string (mkS p))
    (hQ : ∀ w', MpB w' b (delV l p) → w.grownBy w' (some b) → w'.heap.size = w.heap.size → wpList P ops Q rest (a.put o.dst (.tuple #[])) w') : wpList P ops Q (o :: rest) a w := by
  refine wpList_plain hg fun K' hK' => ?_
  obtain ⟨w', hrun, r1, r2, r3⟩ := run_delete8 (P := P) hT hK (ty := o.type) h p
  unfold Oper.wp
  simp [execOp, hop, resolve, invoke, builtin, hm, hx, hrun, Result.andThen]
  exact hK' _ _ (hQ w' r1 r2 r3)
end
end Go.Proofs.YtcgilacmdckbfaaDoor
/- LaneBound: lanes, the map of blocks and the row of paths in memory. -/
set_option maxRecDepth 100000
namespace Go.Proofs.YtcgilacmdckbfaaDoor
open Go Go.RowKit

abbrev TMi : TypeId := 49
abbrev TSt : TypeId := 9
abbrev TSs : TypeId := 48
theorem miT : Tryd.prog.underlying TMi = some (.map 9 3) := by kernel_rfl
theorem stT14 : Tryd.prog.underlying 9 = some .string := by kernel_rfl
theorem zeroIn14 (w : World) : (zeroValue 3).run Tryd.prog w = .ok (.int .i64 0) w := by kernel_rfl
def bmV (l : List Fl) : List (S8 × Value) := l.map fun f => (f.path, .int .i64 (f.blocks : Int))
def psC (ps : List S8) : List Value := ps.map fun p => .string (mkS p)
theorem psC_len (ps : List S8) : (psC ps).length = ps.length := by simp [psC]
theorem psC_one (ps : List S8) : ∀ u ∈ psC ps, u.oneCell' = true := fun u hu => by
  obtain ⟨p, -, rfl⟩ := List.mem_map.1 hu
  rfl
theorem bm_del (l : List Fl) (p : S8) : delV (bmV l) p = bmV (dropF l p) := by
  unfold delV bmV dropF
  rw [List.filter_map]
  refine congrArg _ (List.filter_congr fun x _ => ?_)
  simp only [Function.comp]
  by_cases h : x.path = p <;> simp [h]
theorem bm_put (l : List Fl) (p : S8) (n : Int) (hn : 0 ≤ n) : putV (bmV l) p (.int .i64 n) = bmV (⟨p, n.toNat, 0, 0⟩ :: dropF l p) := by
  unfold putV
  rw [bm_del]
  unfold bmV
  rw [List.map_cons]
  show (p, Value.int .i64 n) :: _ = (p, Value.int .i64 ((n.toNat : Nat) : Int)) :: _
  rw [Int.toNat_of_nonneg hn]
def hasP (l : List Fl) (p : S8) : Bool := l.any fun f => decide (f.path = p)
theorem bm_find (l : List Fl) (p : S8) : (findV (bmV l) p).isSome = hasP l p := by
  unfold findV bmV hasP
  induction l with
  | nil => rfl
  | cons f l ih =>
    rw [List.map_cons, List.find?_cons, List.any_cons]
    by_cases h : f.path = p
    · have e : (f.path == p) = true := by simpa using h
      simp [e, h]
    · have e : (f.path == p) = false := by simpa using h
      rw [decide_eq_false h, Bool.false_or, ← ih]
      simp [e]
structure LbS (w0 u : World) (b mb : Nat) (F : Nat → Prop) (s : Ln) (Q : List Fl) (v : Value) (ps : List S8) : Prop where
  ln : LnAt u b F s
  fl : ∀ g, F g → w0.heap.size ≤ g ∧ g < u.heap.size
  bel : Below w0.heap.size w0 u
  mp : MpB u mb (bmV Q)
  nm : ¬ F mb ∧ w0.heap.size ≤ mb
  ow : u.ownsRow w0.heap.size TSt 1 v ps.length (psC ps)
  no : ∀ g, v.ownBlock = some g → ¬ F g
section
variable {w0 u u' : World} {b mb : Nat} {F : Nat → Prop} {s s' : Ln} {Q Q' : List Fl} {v v' : Value} {ps ps' : List S8}
theorem LbS.ne (h : LbS w0 u b mb F s Q v ps) {g : Nat} (hg : v.ownBlock = some g) : g ≠ mb := fun e => by
  obtain ⟨es, clock, hb, -⟩ := h.mp
  rcases h.ow.2 with ⟨hv, -⟩ | ⟨g', cap, cur, hv, -, hh, -⟩
  · rw [hv] at hg; cases hg
  · rw [hv] at hg
    injection hg with hg
    have hg' : g' = g := hg
    rw [hg', e, hb] at hh
    cases hh
theorem LbS.next (h : LbS w0 u b mb F s Q v ps) (hB : Below u.heap.size u u') : LbS w0 u' b mb F s Q v ps :=
  ⟨h.ln.of_new hB, fun g hg => ⟨(h.fl g hg).1, Nat.lt_of_lt_of_le (h.fl g hg).2 hB.size⟩, h.bel.trans (hB.mono h.bel.size), h.mp.of_below hB, h.nm, own_below h.ow hB, h.no⟩
theorem LbS.call (h : LbS w0 u b mb F s Q v ps) (hL : LnAt u' b (newF F u u') s') (hK : KpF F u u') : LbS w0 u' b mb (newF F u u') s' Q v ps := by
  have hs := hK.size
  have hw := h.bel.size
  refine ⟨hL, fun g hg => ?_, h.bel.trans (hK.below (fun k hk => (h.fl k hk).1) hw), h.mp.keep (hK.block mb h.mp.lt h.nm.1), ⟨fun hc => ?_, h.nm.2⟩, own_kpF h.ow hK h.no, fun g hg hc => ?_⟩
  · rcases hg with hg | hg
    · have := h.fl g hg; omega
    · omega
  · rcases hc with hc | hc
    · exact h.nm.1 hc
    · have := h.mp.lt; omega
  · rcases hc with hc | hc
    · exact h.no g hg hc
    · have := (h.ow.lt g hg).2; omega
/-- The map changes. -/
theorem LbS.upd (h : LbS w0 u b mb F s Q v ps) (hm : MpB u' mb (bmV Q')) (hg : u.grownBy u' (some mb)) (hz : u'.heap.size = u.heap.size) : LbS w0 u' b mb F s Q' v ps := by
  have hK : KpF (fun g => g = mb) u u' := KpF.of_grown hg fun k e => by injection e with e; exact e.symm
  exact ⟨h.ln.keep hK (fun g hg e => h.nm.1 (e ▸ hg)), fun g hg => by have := h.fl g hg; omega, h.bel.trans (hK.below (fun k e => by have e : k = mb := e; have := h.nm.2; omega) h.bel.size), hm, h.nm, own_kpF h.ow hK (fun g hg e => h.ne hg e), h.no⟩
/-- The row changes. -/
theorem LbS.row (h : LbS w0 u b mb F s Q v ps) (ho : u'.ownsRow w0.heap.size TSt 1 v' ps'.length (psC ps')) (hK : KpF (fun g => v.ownBlock = some g) u u') (hor : v'.ownBlock = v.ownBlock ∨ v'.ownBlock = some u.heap.size) : LbS w0 u' b mb F s Q v' ps' := by
  have hs := hK.size
  refine ⟨h.ln.keep hK (fun g hg e => h.no g e hg), fun g hg => by have := h.fl g hg; omega, h.bel.trans (hK.below (fun k e => (h.ow.lt k e).1) h.bel.size), h.mp.keep (hK.block mb h.mp.lt (fun e => h.ne e rfl)), h.nm, ho, fun g hg hc => ?_⟩
  rcases hor with h1 | h1
  · rw [h1] at hg; exact h.no g hg hc
  · rw [h1] at hg
    injection hg with hg
    have := (h.fl g hc).2
    omega
end
theorem del_list1 {cs : List Value} {n i : Nat} (cur : Array Value) (hl : cs.length = n) (ht : cur.toList.take n = cs) (hsz : n ≤ cur.size) (hi : i < n) :
    (setL cur i (cs.drop (i + 1))).toList.take (n - 1) = cs.take i ++ cs.drop (i + 1) := by
  apply List.ext_getElem?
  intro t
  have hcs : ∀ u, u < n → cs[u]? = cur[u]? := fun u hu => by rw [← ht, List.getElem?_take, if_pos hu, Array.getElem?_toList]
  rw [List.getElem?_take]
  by_cases h1 : t < n - 1
  · rw [if_pos h1, Array.getElem?_toList, setL_get]
    by_cases h2 : t < i
    · rw [if_neg (by omega), List.getElem?_append_left (by simp [hl]; omega), List.getElem?_take, if_pos h2, hcs t (by omega)]
    · rw [if_pos (by simp [hl]; omega), List.getElem?_append_right (by simp [hl]; omega)]
      congr 1
      simp [hl]
      omega
  · rw [if_neg h1]
    symm
    apply List.getElem?_eq_none
    simp [hl]
    omega
end Go.Proofs.YtcgilacmdckbfaaDoor
/- LaneBound: the map of what is done, in memory. -/
set_option maxRecDepth 100000
namespace Go.Proofs.YtcgilacmdckbfaaDoor
open Go Go.RowKit

abbrev TMb : TypeId := 52
abbrev TBs : TypeId := 53
abbrev TBo : TypeId := 4
theorem mbT14 : Tryd.prog.underlying TMb = some (.map 9 53) := by kernel_rfl
theorem undBs14 : Tryd.prog.underlying TBs = some (.slice TBo) := by kernel_rfl
theorem infoBo14 : (Tryd.prog.info? TBo).map (fun i => (i.zero, i.size, i.bytes)) = some (some (.bool false), 1, 1) := by kernel_rfl
theorem zeroBs14 (w : World) : (zeroValue 53).run Tryd.prog w = .ok (.slice none 0 0) w := by kernel_rfl
theorem mkBl14 (n : Nat) (w : World) (hn : n < 4294967296) : (mkT TBs (.int .i64 (n : Int)) (.int .i64 (n : Int))).run Tryd.prog w = .ok (.value (.slice (some ⟨w.heap.size, 0, none⟩) n n)) (w.alloc (.cells (tab n (fun _ => .bool false)) TBo)) := by
  have hi := infoBo14
  cases hq : Tryd.prog.info? TBo with
  | none => simp [hq] at hi
  | some i =>
    rw [hq] at hi
    simp only [Option.map_some, Option.some.injEq, Prod.mk.injEq] at hi
    obtain ⟨h1, h2, h3⟩ := hi
    have := run_make (P := Tryd.prog) w TBs TBo i (.bool false) undBs14 hq h1 .i64 .i64 n n (by omega) (Int.le_refl _) (by rw [h3]; omega) (by omega)
    rw [h2] at this
    simp only [Int.toNat_natCast, Nat.mul_one] at this
    simp only [mkT, Sem.run_bind, this, Result.andThen_ok, Sem.run_pure]
    congr 2
    congr 1
    apply Array.ext_getElem?
    intro j
    by_cases hj : j < n
    · rw [tab_get _ _ _ hj]
      simp [madeCells, Value.cells, hj, Nat.mod_one]
    · simp [madeCells, Value.cells, hj, tab]
/-- What is done of each path: a row of bools each. -/
def dnV (G bl : S8 → Nat) (ps : List S8) : List (S8 × Value) := ps.map fun p => (p, .slice (some ⟨G p, 0, none⟩) (bl p) (bl p))
structure DnS (w0 u : World) (md : Nat) (F : Nat → Prop) (G bl : S8 → Nat) (C : S8 → Nat → Bool) (ps : List S8) : Prop where
  mp : MpB u md (dnV G bl ps)
  row : ∀ p ∈ ps, u.heap[G p]? = some (.cells (tab (bl p) (fun j => .bool (C p j))) TBo (0, 0))
  inj : ∀ p ∈ ps, ∀ q ∈ ps, G p = G q → p = q
  nf : ∀ p ∈ ps, ¬ F (G p) ∧ w0.heap.size ≤ G p
  nm : ¬ F md ∧ w0.heap.size ≤ md
theorem dn_find (G bl : S8 → Nat) (ps : List S8) (p : S8) (hp : p ∈ ps) : findV (dnV G bl ps) p = some (.slice (some ⟨G p, 0, none⟩) (bl p) (bl p)) := by
  unfold findV dnV
  induction ps with
  | nil => cases hp
  | cons q ps ih =>
    rw [List.map_cons, List.find?_cons]
    by_cases h : q = p
    · subst h; simp
    · have e : (q == p) = false := by simpa using h
      simp only [e]
      exact ih (by rcases List.mem_cons.1 hp with e | e; exact absurd e.symm h; exact e)
section
variable {w0 u u' : World} {md : Nat} {F : Nat → Prop} {G bl : S8 → Nat} {C C' : S8 → Nat → Bool} {ps : List S8}
theorem DnS.keep (h : DnS w0 u md F G bl C ps) {F' : Nat → Prop} (hk : ∀ k, k < u.heap.size → (k = md ∨ ∃ p ∈ ps, k = G p) → u'.heap[k]? = u.heap[k]?) (hf : ∀ k, k < u.heap.size → F' k → F k) : DnS w0 u' md F' G bl C ps := by
  have hl : ∀ p ∈ ps, G p < u.heap.size := fun p hp => (Array.getElem?_eq_some_iff.1 (h.row p hp)).1
  exact ⟨h.mp.keep (hk md h.mp.lt (.inl rfl)), fun p hp => (hk _ (hl p hp) (.inr ⟨p, hp, rfl⟩)).trans (h.row p hp), h.inj, fun p hp => ⟨fun hc => (h.nf p hp).1 (hf _ (hl p hp) hc), (h.nf p hp).2⟩, ⟨fun hc => h.nm.1 (hf _ h.mp.lt hc), h.nm.2⟩⟩
theorem DnS.next (h : DnS w0 u md F G bl C ps) (hB : Below u.heap.size u u') : DnS w0 u' md F G bl C ps := h.keep (fun k hk _ => hB.block k hk) (fun _ _ hf => hf)
theorem DnS.call (h : DnS w0 u md F G bl C ps) (hK : KpF F u u') : DnS w0 u' md (newF F u u') G bl C ps :=
  h.keep (fun k hk hc => hK.block k hk (fun hf => by
    rcases hc with rfl | ⟨p, hp, rfl⟩
    · exact h.nm.1 hf
    · exact (h.nf p hp).1 hf)) (fun k hk hf => by
    rcases hf with hf | hf
    · exact hf
    · omega)
/-- A block is marked. -/
theorem DnS.mark (h : DnS w0 u md F G bl C ps) {p : S8} (hp : p ∈ ps) {j : Nat} (hj : j < bl p) : DnS w0 (u.setCell ⟨G p, j, none⟩ (.bool true)) md F G bl (fun q i => C q i || (decide (q = p) && decide (i = j))) ps := by
  have hr := h.row p hp
  have hne : md ≠ G p := fun e => by
    obtain ⟨es, clk, hb, -⟩ := h.mp
    rw [e, hr] at hb
    cases hb
  refine ⟨h.mp.keep (setOff14 hne), fun q hq => ?_, h.inj, h.nf, h.nm⟩
  by_cases he : q = p
  · subst he
    rw [setAt14 hr]
    congr 2
    apply Array.ext_getElem?
    intro i
    rw [Array.getElem?_setIfInBounds, tab_size]
    by_cases hi : i < bl q
    · rw [tab_get _ _ _ hi, tab_get _ _ _ hi]
      by_cases hij : j = i
      · subst hij; simp [hi]
      · rw [if_neg hij]; simp [Ne.symm hij]
    · rw [if_neg (by omega), Array.getElem?_eq_none (by rw [tab_size]; omega), Array.getElem?_eq_none (by rw [tab_size]; omega)]
  · rw [setOff14 (fun e => he (h.inj q hq p hp e)), h.row q hq]
    congr 2
    exact tab_congr fun i _ => by simp [he]
theorem DnS.congr (h : DnS w0 u md F G bl C ps) (hc : ∀ p ∈ ps, ∀ j, j < bl p → C p j = C' p j) : DnS w0 u md F G bl C' ps :=
  ⟨h.mp, fun p hp => by rw [h.row p hp]; congr 2; exact tab_congr fun j hj => by rw [hc p hp j hj], h.inj, h.nf, h.nm⟩
/-- One path more. -/
theorem DnS.more {u1 u2 : World} (h : DnS w0 u md F G bl (fun _ _ => false) ps) {p : S8} (hp : ¬ p ∈ ps) (n : Nat) (hn : bl p = n) {g : Nat} (hg : u.heap.size = g) (h1 : u.alloc (.cells (tab n (fun _ => .bool false)) TBo) = u1)
    (hm : MpB u2 md (putV (dnV G bl ps) p (.slice (some ⟨g, 0, none⟩) n n))) (hgr : u1.grownBy u2 (some md)) (hF : ∀ k, F k → k < u.heap.size) (hw : w0.heap.size ≤ u.heap.size) : DnS w0 u2 md F (fun q => if q = p then g else G q) bl (fun _ _ => false) (ps ++ [p]) := by
  have hl : ∀ q ∈ ps, G q < u.heap.size := fun q hq => (Array.getElem?_eq_some_iff.1 (h.row q hq)).1
  have hBa : Below u.heap.size u u1 := by rw [← h1]; exact (Below.refl _ _).alloc (Nat.le_refl _) _
  have hs1 : u1.heap.size = u.heap.size + 1 := by rw [← h1]; simp
  have hne : ∀ q ∈ ps, md ≠ G q := fun q hq e => by
    obtain ⟨es, clk, hb, -⟩ := h.mp
    rw [e, h.row q hq] at hb
    cases hb
  have hmd := h.mp.lt
  have hif : ∀ q ∈ ps, (if q = p then g else G q) = G q := fun q hq => if_neg (fun e : q = p => hp (e ▸ hq))
  have hdel : delV (dnV G bl ps) p = dnV G bl ps := by
    unfold delV
    rw [List.filter_eq_self]
    intro x hx
    obtain ⟨q, hq, rfl⟩ := List.mem_map.1 hx
    simp only [bne_iff_ne, ne_eq]
    intro e
    have e : q = p := e
    exact hp (e ▸ hq)
  refine ⟨hm.of_perm ?_, fun q hq => ?_, fun q hq r hr => ?_, fun q hq => ?_, h.nm⟩
  · unfold putV
    rw [hdel]
    have e : dnV (fun q => if q = p then g else G q) bl (ps ++ [p]) = dnV G bl ps ++ [(p, .slice (some ⟨g, 0, none⟩) n n)] := by
      unfold dnV
      rw [List.map_append, List.map_cons, List.map_nil]
      congr 1
      · exact List.map_congr_left fun q hq => by show (q, Value.slice (some ⟨if q = p then g else G q, 0, none⟩) _ _) = _; rw [hif q hq]
      · show [(p, Value.slice (some ⟨if p = p then g else G p, 0, none⟩) (bl p) (bl p))] = _
        rw [if_pos rfl, hn]
    rw [e]
    exact (List.perm_append_singleton _ _).symm
  · show u2.heap[if q = p then g else G q]? = _
    rcases List.mem_append.1 hq with hq | hq
    · rw [hif q hq, hgr.block _ (by have := hl q hq; omega) (fun e => by injection e with e; exact hne q hq e.symm), hBa.block _ (hl q hq)]
      exact h.row q hq
    · obtain rfl : q = p := by simpa using hq
      rw [if_pos rfl, hgr.block _ (by omega) (fun e => by injection e with e; omega), ← h1, ← hg, hn]
      exact World.alloc_heap_new _ _
  · show (if q = p then g else G q) = (if r = p then g else G r) → _
    rcases List.mem_append.1 hq with h3 | h3 <;> rcases List.mem_append.1 hr with h4 | h4
    · rw [hif q h3, hif r h4]; exact h.inj q h3 r h4
    · have h5 : r = p := by simpa using h4
      rw [hif q h3, if_pos h5]
      exact fun e => by have := hl q h3; omega
    · have h5 : q = p := by simpa using h3
      rw [hif r h4, if_pos h5]
      exact fun e => by have := hl r h4; omega
    · have h5 : q = p := by simpa using h3
      have h6 : r = p := by simpa using h4
      exact fun _ => h5.trans h6.symm
  · show ¬ F (if q = p then g else G q) ∧ w0.heap.size ≤ (if q = p then g else G q)
    rcases List.mem_append.1 hq with hq | hq
    · rw [hif q hq]; exact h.nf q hq
    · obtain rfl : q = p := by simpa using hq
      rw [if_pos rfl]
      exact ⟨fun hc => by have := hF g hc; omega, by omega⟩
end
/-- The blocks of a path. -/
def blF (Q : List Fl) (p : S8) : Nat := ((Q.find? fun f => f.path == p).map (·.blocks)).getD 0
theorem find_at {Q : List Fl} (hn : (Q.map (·.path)).Nodup) {f : Fl} (hf : f ∈ Q) : (Q.find? fun g => g.path == f.path) = some f := by
  induction Q with
  | nil => cases hf
  | cons a Q ih =>
    rw [List.map_cons, List.nodup_cons] at hn
    rw [List.find?_cons]
    rcases List.mem_cons.1 hf with rfl | h1
    · simp
    · have e : (a.path == f.path) = false := by
        rw [beq_eq_false_iff_ne]
        intro e
        exact hn.1 (e ▸ List.mem_map.2 ⟨f, h1, rfl⟩)
      rw [e]
      exact ih hn.2 h1
theorem blF_at {Q : List Fl} (hn : (Q.map (·.path)).Nodup) {f : Fl} (hf : f ∈ Q) : blF Q f.path = f.blocks := by
  unfold blF
  rw [find_at hn hf]
  rfl
theorem bm_at {Q : List Fl} (hn : (Q.map (·.path)).Nodup) {f : Fl} (hf : f ∈ Q) : findV (bmV Q) f.path = some (.int .i64 (f.blocks : Int)) := by
  have h := find_at hn hf
  unfold findV bmV
  rw [List.find?_map]
  show Option.map _ (Option.map _ (Q.find? fun g => g.path == f.path)) = _
  rw [h]
  rfl
/-- Another map changes. -/
theorem LbS.off {w0 u u' : World} {b mb md : Nat} {F : Nat → Prop} {s : Ln} {Q : List Fl} {v : Value} {ps : List S8} (h : LbS w0 u b mb F s Q v ps) (hg : u.grownBy u' (some md)) (hm : ¬ F md ∧ w0.heap.size ≤ md) (hne : md ≠ mb) (hmp : ∃ es clk, u.heap[md]? = some (.map es clk)) : LbS w0 u' b mb F s Q v ps := by
  have hK : KpF (fun g => g = md) u u' := KpF.of_grown hg fun k e => by injection e with e; exact e.symm
  obtain ⟨es, clk, hb⟩ := hmp
  have hrow : ∀ g, v.ownBlock = some g → g ≠ md := fun g hv e => by
    rcases h.ow.2 with ⟨h1, -⟩ | ⟨g', cap, cur, h1, -, hh, -⟩
    · rw [h1] at hv; cases hv
    · rw [h1] at hv
      injection hv with hv
      have hv' : g' = g := hv
      rw [hv', e, hb] at hh
      cases hh
  have hsz := hK.size
  exact ⟨h.ln.keep hK (fun g hg e => hm.1 (e ▸ hg)), fun g hg => ⟨(h.fl g hg).1, by have := (h.fl g hg).2; omega⟩, h.bel.trans (hK.below (fun k e => by have e : k = md := e; have := hm.2; omega) h.bel.size), h.mp.keep (hK.block mb h.mp.lt (fun e => hne e.symm)), h.nm, own_kpF h.ow hK (fun g hg e => hrow g hg e), h.no⟩
end Go.Proofs.YtcgilacmdckbfaaDoor
/- LaneBound: what the ticks' loops need, plain. -/
set_option maxRecDepth 100000
namespace Go.Proofs.YtcgilacmdckbfaaDoor
open Go Go.RowKit

theorem work_in (tk : Nat) (en : Bool) (q : List Fl) (L : Nat) (hq : okL q) : ∀ x ∈ (workL tk en q L).out, ∃ f ∈ q, f.path = x.path ∧ x.lo ≤ x.hi ∧ x.hi ≤ f.blocks := by
  induction q generalizing L with
  | nil => intro x hx; cases hx
  | cons f q ih =>
    have hf := (hq f (by simp)).1
    have hq' : okL q := fun g hg => hq g (by simp [hg])
    intro x hx
    simp only [workL] at hx
    split at hx
    · split at hx
      · rcases List.mem_cons.1 hx with rfl | hx
        · exact ⟨f, List.mem_cons_self, rfl, hf, Nat.le_refl _⟩
        · obtain ⟨g, hg, r⟩ := ih _ hq' x hx
          exact ⟨g, List.mem_cons_of_mem _ hg, r⟩
      · rename_i c1 c2
        obtain rfl : x = ⟨f.path, f.done, f.done + L, en, false⟩ := by simpa using hx
        exact ⟨f, List.mem_cons_self, rfl, Nat.le_add_right _ _, by show f.done + L ≤ f.blocks; omega⟩
    · cases hx
theorem tick_in {s : Ln} {k : Nat} (I : LbI s k) (h : Nat) : ∀ x ∈ tickOut s h, ∃ f ∈ s.en ++ s.sc, f.path = x.path ∧ x.lo ≤ x.hi ∧ x.hi ≤ f.blocks := by
  intro x hx
  rcases List.mem_append.1 hx with hx | hx
  · obtain ⟨f, hf, r⟩ := work_in _ _ _ _ I.oe x hx
    exact ⟨f, List.mem_append_left _ hf, r⟩
  · obtain ⟨f, hf, r⟩ := work_in _ _ _ _ I.os x hx
    exact ⟨f, List.mem_append_right _ hf, r⟩
theorem sumW_app (a b : List Wk) : sumW (a ++ b) = sumW a + sumW b := by simp [sumW]
theorem tick_sum {s : Ln} {k : Nat} (I : LbI s k) (h : Nat) : sumW (tickOut s h) ≤ 2 * h := by
  obtain ⟨-, -, -, -, -, a6, -, -⟩ := workL_enrol (s.clock + 1) true s.en h I.oe
  obtain ⟨-, -, -, -, -, b6, -, -⟩ := workL_enrol (s.clock + 1) false s.sc ((tickA s h).left + h) I.os
  unfold tickOut
  rw [sumW_app]
  unfold tickB
  unfold tickA at *
  omega
theorem sumW_takeB {l : List Wk} {i : Nat} (hi : i < l.length) : sumW (l.take (i + 1)) = sumW (l.take i) + (l[i].hi - l[i].lo) := by
  rw [List.take_succ_eq_append_getElem hi, sumW_app]
  simp [sumW]
theorem sumW_leB (l : List Wk) (i : Nat) : sumW (l.take i) ≤ sumW l := by
  have h := sumW_app (l.take i) (l.drop i)
  rw [List.take_append_drop] at h
  omega
theorem cov_take {l : List Wk} {i : Nat} (hi : i < l.length) (p : S8) (j : Nat) : covW (l.take (i + 1)) p j = (covW (l.take i) p j || (decide (l[i].path = p) && (decide (l[i].lo ≤ j) && decide (j < l[i].hi)))) := by
  rw [List.take_succ_eq_append_getElem hi, covW_app]
  simp [covW]
theorem LbS.keepG {w0 u u' : World} {b mb md : Nat} {F : Nat → Prop} {s : Ln} {Q : List Fl} {v : Value} {ps : List S8} {G bl : S8 → Nat} {C : S8 → Nat → Bool} (h : LbS w0 u b mb F s Q v ps) (hD : DnS w0 u md F G bl C ps) (hK : KpF (fun g => ∃ p ∈ ps, g = G p) u u') : LbS w0 u' b mb F s Q v ps := by
  have hrow : ∀ g, v.ownBlock = some g → ¬ ∃ p ∈ ps, g = G p := fun g hv ⟨p, hp, e⟩ => by
    have hr := hD.row p hp
    rcases h.ow.2 with ⟨h1, -⟩ | ⟨g', cap, cur, h1, -, hh, -⟩
    · rw [h1] at hv; cases hv
    · rw [h1] at hv
      injection hv with hv
      have hv' : g' = g := hv
      rw [hv', e, hr] at hh
      injection hh with hh
      injection hh with _ hh _
      exact absurd hh (by decide)
  have hmb : ¬ ∃ p ∈ ps, mb = G p := fun ⟨p, hp, e⟩ => by
    have hr := hD.row p hp
    obtain ⟨es, clk, hb, -⟩ := h.mp
    rw [e, hr] at hb
    cases hb
  have hsz := hK.size
  exact ⟨h.ln.keep hK (fun g hg ⟨p, hp, e⟩ => (hD.nf p hp).1 (e ▸ hg)), fun g hg => ⟨(h.fl g hg).1, by have := (h.fl g hg).2; omega⟩, h.bel.trans (hK.below (fun k ⟨p, hp, e⟩ => e ▸ (hD.nf p hp).2) h.bel.size), h.mp.keep (hK.block mb h.mp.lt hmb), h.nm, own_kpF h.ow hK hrow, h.no⟩
theorem last_sc {s : Ln} (hn : okLn s) {g : Fl} (hg : g ∈ s.sc) : lastV s g.path = (g.tick : Int) ∧ lastE s g.path = 0 := by
  unfold okLn at hn
  rw [List.map_append, List.nodup_append] at hn
  obtain ⟨h1, h2, h3⟩ := hn
  have he : findI s.en g.path = -1 := by
    rcases findI_spec s.en g.path with ⟨e, -⟩ | ⟨i, e, hi, hp⟩
    · exact e
    · exact absurd hp (h3 _ (List.mem_map.2 ⟨_, getD_memF hi, rfl⟩) _ (List.mem_map.2 ⟨g, hg, rfl⟩))
  unfold lastV lastE
  simp only [he, show ¬ (0 : Int) ≤ -1 by decide, if_false]
  rcases findI_spec s.sc g.path with ⟨e, e2⟩ | ⟨i, e, hi, hp⟩
  · exact absurd rfl (e2 g hg)
  · rw [e, if_pos (by omega), if_pos (by omega)]
    have hgi : s.sc.getD i fl0 = g := by
      obtain ⟨j, hj, e3⟩ := List.getElem_of_mem hg
      have hgd : s.sc.getD i fl0 = s.sc[i] := by rw [List.getD_eq_getElem?_getD, List.getElem?_eq_getElem hi]; rfl
      rw [hgd] at hp ⊢
      have h4 : (s.sc.map (·.path))[i]'(by simpa using hi) = (s.sc.map (·.path))[j]'(by simpa using hj) := by simp [hp, e3]
      have h5 : i = j := (List.getElem_inj h2).1 h4
      subst h5
      exact e3
    rw [Int.toNat_natCast, hgi]
    exact ⟨rfl, rfl⟩
theorem en_nil {s : Ln} (hn : okLn s) (h : ∀ f ∈ s.en, ∃ g ∈ s.sc, g.path = f.path) : s.en = [] := by
  unfold okLn at hn
  rw [List.map_append, List.nodup_append] at hn
  cases he : s.en with
  | nil => rfl
  | cons f l =>
    exfalso
    have hf : f ∈ s.en := by rw [he]; exact List.mem_cons_self
    obtain ⟨g, hg, e⟩ := h f hf
    exact hn.2.2 _ (List.mem_map.2 ⟨f, hf, rfl⟩) _ (List.mem_map.2 ⟨g, hg, rfl⟩) e.symm
theorem blk_bound (l : List Fl) (h : okL l) : blk l ≤ 64 * l.length := by
  induction l with
  | nil => exact Nat.le_refl _
  | cons f l ih =>
    have h1 := (h f (by simp)).2
    have h2 := ih fun g hg => h g (by simp [hg])
    have h3 : blk (f :: l) = f.blocks + blk l := by simp [blk]
    rw [h3, List.length_cons]
    omega
theorem w64n (a : Nat) (h : a < 1000000) : wrap64 (a : Int) = (a : Int) := by
  have h1 : IntKind.i64.wrap (a : Int) = (a : Int) := by rw [IntKind.wrap_i64]; omega
  rw [IntKind.wrap_i64] at h1
  unfold wrap64
  exact h1
theorem ticks_many {B h e : Nat} (hh : 1 ≤ h) (he : (2 * B + 2 * h - 1) / (2 * h) = e) : B + 2 * h ≤ (e + 2) * h := by
  have h1 := Nat.div_add_mod (2 * B + 2 * h - 1) (2 * h)
  have h2 := Nat.mod_lt (2 * B + 2 * h - 1) (show 0 < 2 * h by omega)
  rw [he] at h1
  have h3 : 2 * h * e = 2 * (e * h) := by rw [Nat.mul_assoc, Nat.mul_comm h e]
  have h4 : (e + 2) * h = e * h + 2 * h := by rw [Nat.add_mul]
  omega
end Go.Proofs.YtcgilacmdckbfaaDoor
/- darnerlaw14.awake. -/
set_option maxRecDepth 100000
namespace Go.Proofs.YtcgilacmdckbfaaDoor
open Go Go.RowKit

def sx0 : Ln := ⟨0, [⟨[120], 0, 0, 0⟩], []⟩
theorem sx_put : putC [120] 0 = 0 ∧ putS ln0 [120] 0 = sx0 := by
  have h0 : putC [120] 0 = 0 := by
    unfold putC
    rw [if_neg (by have := kind_one 23 (by decide); rw [show ([120] : S8) = [UInt8.ofNat (97 + 23)] from by decide, this]; decide), if_neg (by decide)]
  refine ⟨h0, ?_⟩
  unfold putS
  rw [if_pos h0]
  rfl
theorem sx_out : tickOut sx0 1 = [⟨[120], 0, 0, true, true⟩] := by
  simp [tickOut, tickA, tickB, sx0, workL]
set_option maxHeartbeats 4000000 in
theorem awake14 (w : World) : Calls Tryd.prog 7 #[] w fun e w' => e = .returned (.bool true) ∧ Below w.heap.size w w' := by
  have HNW := Lib.hid (new14_any w)
  go_enter Tryd.func7, Tryd.ntmps7
  go_wp2_with fail
  refine HNW.out.mono ?_
  rintro e w1 ⟨rfl, hL, hB⟩
  obtain ⟨b, hb⟩ : ∃ b, w.heap.size = b := ⟨_, rfl⟩
  have hS : St14 w w1 b ln0 := ⟨by rw [← hb]; exact hL, hB⟩
  rw [hb]
  have hput := put_any hS.1 (by unfold okLn; simp [ln0]) ⟨by simp [ln0], by simp [ln0]⟩ [120] (by simp) 0 (by omega) (by omega)
  have HS := Lib.hid hS
  rw [← mkS_lit [120]] at hput
  have HP := Lib.hid hput
  clear hL hB hS hput HNW hb
  go_wp2_with fail
  refine HP.out.mono ?_
  rintro e w2 ⟨he, hL, hK⟩
  rw [sx_put.1] at he
  subst he
  have hS := HS.out.next hL hK
  rw [sx_put.2] at hS
  have HS2 := Lib.hid hS
  have hok : okL sx0.en ∧ okL sx0.sc := ⟨fun f hf => by have : f = ⟨[120], 0, 0, 0⟩ := by simpa [sx0] using hf
                                                        subst this; exact ⟨Nat.le_refl _, by decide⟩, fun f hf => by cases hf⟩
  have HT := Lib.hid (tick_go hS.1 hok.1 hok.2 ⟨by simp [sx0], by simp [sx0]⟩ (by simp [sx0]) 2 1 (by omega) (by omega) (by omega))
  clear hL hK hS HP HS hok
  go_wp2_with fail
  refine HT.out.mono ?_
  rintro e w3 ⟨v, ns, rfl, hO, -, -, hL, hK⟩
  have hS := HS2.out.next hL hK
  rw [sx_out] at hO
  obtain ⟨p, cap, ev, hl, -, hcap, -⟩ := own_shape hO
  change v = .slice p 1 cap at ev
  subst ev
  obtain ⟨c, o, ep, hc4⟩ := hl 4 (by decide)
  subst ep
  change _ = some (Value.bool true) at hc4
  have HS3 := Lib.hid hS
  have hck := clock_any hS.1
  rw [show (tickS sx0 1 ns).clock = 1 from rfl] at hck
  have HCK := Lib.hid hck
  clear hck
  have hcap1 : 1 ≤ cap := hcap
  clear hO hl hL hK hS HT HS2 hcap
  go_wp2_with (go_at_call 18; refine HCK.out.mono ?_; rintro e w' ⟨rfl, rfl⟩)
  go_ret
  exact ⟨rfl, HS3.out.2⟩
end Go.Proofs.YtcgilacmdckbfaaDoor
