/- A range over a map from strings: each of its entries once, in whatever order; the walk's laws at the operations on maps. -/
import Derived.Test.YtllpcllgliknpaaGreatDoorMap8
set_option linter.unusedSimpArgs false
set_option maxRecDepth 100000
set_option linter.unusedVariables false
namespace Go.Proofs.YtllpcllgliknpaaGreatDoor
open Go Go.RowKit Go.MapKept
open Go.ChangeMaps (setBlock)

/-- A range over the map in block b, its iterator in block r: these are still to come. -/
def RngB (w : World) (b r : Nat) (l todo : List (S8 × Value)) : Prop :=
  ∃ es clock since seen c0, w.heap[b]? = some (.map es clock) ∧ MpOk es clock l ∧ w.heap[r]? = some (.mapIter (some b) since seen c0) ∧ (∀ x ∈ es.toList, x.born < since) ∧ since ≤ c0 ∧ since ≤ clock ∧ ((leftOf es seen).toList.map kvE).Perm (todo.map kvS)
theorem leftOf_list (es : Array MapEntry) (seen : Array Nat) : (leftOf es seen).toList = es.toList.filter fun e => !seen.contains e.born := by simp [leftOf]
section
variable {w w' : World} {b r : Nat} {l todo : List (S8 × Value)}
theorem RngB.map (h : RngB w b r l todo) : MpB w b l := by
  obtain ⟨es, clock, _, _, _, hb, h1, _⟩ := h
  exact ⟨es, clock, hb, h1⟩
theorem RngB.ne (h : RngB w b r l todo) : r ≠ b := by
  obtain ⟨es, clock, since, seen, c0, hb, _, hr, _⟩ := h
  intro e
  rw [e, hb] at hr
  cases hr
theorem RngB.lt (h : RngB w b r l todo) : r < w.heap.size := by
  obtain ⟨es, clock, since, seen, c0, hb, _, hr, _⟩ := h
  exact (Array.getElem?_eq_some_iff.1 hr).1
theorem RngB.left (h : RngB w b r l todo) : w.rangeLeft b r = todo.length := by
  obtain ⟨es, clock, since, seen, c0, hb, _, hr, _, _, _, hp⟩ := h
  simp only [World.rangeLeft, hb, hr]
  have := hp.length_eq
  simpa using this
theorem RngB.keep (h : RngB w b r l todo) (hb : w'.heap[b]? = w.heap[b]?) (hr : w'.heap[r]? = w.heap[r]?) : RngB w' b r l todo := by
  obtain ⟨es, clock, since, seen, c0, h1, h2, h3, h4⟩ := h
  exact ⟨es, clock, since, seen, c0, by rw [hb]; exact h1, h2, by rw [hr]; exact h3, h4⟩
theorem RngB.of_below (h : RngB w b r l todo) (hB : Below w.heap.size w w') : RngB w' b r l todo := h.keep (hB.block b h.map.lt) (hB.block r h.lt)
theorem RngB.of_perm (h : RngB w b r l todo) {l' : List (S8 × Value)} (hp : l.Perm l') : RngB w b r l' todo := by
  obtain ⟨es, clock, since, seen, c0, h1, h2, h3⟩ := h
  exact ⟨es, clock, since, seen, c0, h1, h2.of_perm hp, h3⟩
end
section
variable {P : Program} {T K E : TypeId} (hT : P.underlying T = some (.map K E)) (hK : P.underlying K = some .string)
variable {w : World} {b r : Nat} {l todo : List (S8 × Value)}
include hT
theorem run_range8 (h : MpB w b l) : ∃ w', (Instr.range T (.map (some b))).run P w = .ok (.pointer (some ⟨w.heap.size, 0, none⟩)) w' ∧ RngB w' b w.heap.size l l ∧ Below w.heap.size w w' ∧ w'.heap.size = w.heap.size + 1 := by
  have hlt := h.lt
  obtain ⟨es, clock, hb, h1⟩ := h
  refine ⟨_, run_range_map w T K E b es clock hT hb, ⟨es, clock, clock, #[], clock, ((MapKept.heap_alloc w _).2 b hlt).trans hb, h1, (MapKept.heap_alloc w _).1, h1.old, Nat.le_refl _, Nat.le_refl _, ?_⟩, (Below.refl _ _).alloc (Nat.le_refl _) _, by simp⟩
  rw [leftOf_list, List.filter_eq_self.2 (fun x _ => by simp)]
  exact h1.kv
omit hT
theorem run_next8 (ty : TypeId) (h : RngB w b r l todo) :
    (todo = [] ∧ (Instr.next (.pointer (some ⟨r, 0, none⟩)) false ty).run P w = .ok (.tuple #[.bool false]) w) ∨
    ∃ p v todo' w', todo.Perm ((p, v) :: todo') ∧ (p, v) ∈ l ∧ (Instr.next (.pointer (some ⟨r, 0, none⟩)) false ty).run P w = .ok (.tuple #[.bool true, .string (mkS p), v]) w' ∧ RngB w' b r l todo' ∧
      (Instr.entry (.pointer (some ⟨r, 0, none⟩))).run P w' = .ok (.tuple #[.string (mkS p), v]) w' ∧ w.grownBy w' (some r) ∧ w'.heap.size = w.heap.size := by
  have hne := h.ne
  obtain ⟨es, clock, since, seen, c0, hb, h1, hr, hold, hsc, hsk, hp⟩ := h
  rcases run_next_at (P := P) w ty r b since c0 seen es clock hr hb hold hsc with ⟨h0, hrun⟩ | ⟨e, he, w1, hal, hrun⟩
  · refine Or.inl ⟨?_, hrun⟩
    have := hp.length_eq
    simp only [List.length_map, Array.length_toList] at this
    exact List.eq_nil_of_length_eq_zero (by omega)
  · obtain ⟨hem, hes⟩ := mem_left he
    obtain ⟨p, v, hm, ek, ev⟩ := h1.mem hem
    have hr1 : w1.heap[r]? = some (.mapIter (some b) since seen c0) := by rcases hal with rfl | rfl <;> exact hr
    have hb1 : w1.heap[b]? = some (.map es clock) := by rcases hal with rfl | rfl <;> exact hb
    have hset := heap_set (o' := .mapIter (some b) since (seen.push e.born) clock) hr1
    have hb' : (setBlock w1 r (.mapIter (some b) since (seen.push e.born) clock)).heap[b]? = some (.map es clock) := (hset.2 b (fun e1 => hne e1.symm)).trans hb1
    have hin : kvE e ∈ todo.map kvS := hp.mem_iff.1 (List.mem_map.2 ⟨e, he, rfl⟩)
    obtain ⟨x, hx, ex⟩ := List.mem_map.1 hin
    have hxe : x = (p, v) := by
      rw [kvS, kvE, Prod.mk.injEq, ek, ev] at ex
      have : x.1 = p := keyV_inj.1 ex.1
      exact Prod.ext this ex.2
    subst hxe
    obtain ⟨todo', ht⟩ := List.append_of_mem hx
    obtain ⟨t2, ht⟩ := ht
    have hperm : todo.Perm ((p, v) :: (todo' ++ t2)) := by rw [ht]; exact List.perm_middle
    have hlp : (leftOf es seen).toList.Perm (e :: (leftOf es (seen.push e.born)).toList) := by
      rw [leftOf_list, leftOf_list]
      have hnd : ∀ (L : List MapEntry), (L.map (·.born)).Nodup → e ∈ L → (L.filter fun x => !seen.contains x.born).Perm (e :: L.filter fun x => !(seen.push e.born).contains x.born) := by
        intro L
        induction L with
        | nil => intro _ h; exact absurd h (by simp)
        | cons y r ih =>
          intro hn hy
          rw [List.map_cons, List.nodup_cons] at hn
          rcases List.mem_cons.1 hy with rfl | hy
          · rw [List.filter_cons_of_pos (by rw [hes]; rfl), List.filter_cons_of_neg (by rw [contains_push]; simp)]
            refine List.Perm.cons _ (List.Perm.of_eq (List.filter_congr fun z hz => ?_))
            rw [contains_push]
            have : (z.born == e.born) = false := by
              rw [beq_eq_false_iff_ne]
              intro e9
              exact hn.1 (by rw [← e9]; exact List.mem_map.2 ⟨z, hz, rfl⟩)
            rw [this]
            simp
          · have hyb : (y.born == e.born) = false := by
              rw [beq_eq_false_iff_ne]
              intro e9
              exact hn.1 (by rw [e9]; exact List.mem_map.2 ⟨e, hy, rfl⟩)
            rw [List.filter_cons, List.filter_cons, contains_push, hyb]
            cases hs : seen.contains y.born
            · simp only [Bool.not_false, if_true, Bool.or_false]
              exact ((ih hn.2 hy).cons y).trans (List.Perm.swap _ _ _)
            · simp only [Bool.not_true, Bool.false_eq_true, if_false, Bool.or_false, Bool.true_or, Bool.not_true]
              exact ih hn.2 hy
      exact hnd es.toList h1.born hem
    have hrest : ((leftOf es (seen.push e.born)).toList.map kvE).Perm ((todo' ++ t2).map kvS) := by
      have q1 := (hlp.map kvE).symm.trans (hp.trans (hperm.map kvS))
      rw [List.map_cons, List.map_cons] at q1
      have e3 : kvE e = kvS (p, v) := by rw [kvE, kvS, ek, ev]
      rw [e3] at q1
      exact q1.cons_inv
    refine Or.inr ⟨p, v, todo' ++ t2, _, hperm, hm, by rw [ek, ev] at hrun; exact hrun, ⟨es, clock, since, seen.push e.born, clock, hb', h1, hset.1, hold, hsk, hsk, hrest⟩, by rw [← ek, ← ev]; exact run_entry_at _ r b since seen es clock e hset.1 hb' hem h1.born, ?_, ?_⟩
    · rcases hal with rfl | rfl <;> exact ⟨rfl, rfl, rfl, by simp [setBlock], fun i _ hi => hset.2 i (fun e1 => hi (by rw [e1]))⟩
    · rcases hal with rfl | rfl <;> simp [setBlock]
include hT hK
/-- An entry that has come is deleted. -/
theorem run_drop8 {ty : TypeId} (h : RngB w b r l todo) (p : S8) (hp : ∀ x ∈ todo, x.1 ≠ p) : ∃ w', (Builtin.delete_ #[T, K] ty #[.map (some b), .string (mkS p)]).run P w = .ok (.tuple #[]) w' ∧ RngB w' b r (delV l p) todo ∧ w.grownBy w' (some b) ∧ w'.heap.size = w.heap.size := by
  have hm := h.map
  have hne := h.ne
  have hlt := hm.lt
  obtain ⟨es, clock, since, seen, c0, hb, h1, hr, hold, hsc, hsk, hl⟩ := h
  have hkey : IsKey .string (.string (mkS p)) := trivial
  obtain ⟨w', hrun, ⟨es2, clock2, hb2, h2⟩, hg, hs⟩ := run_delete8 hT hK (ty := ty) hm p
  refine ⟨w', hrun, ?_, hg, hs⟩
  have hr2 : w'.heap[r]? = some (.mapIter (some b) since seen c0) := by rw [hg.block r ((Array.getElem?_eq_some_iff.1 hr).1) (by simpa using hne)]; exact hr
  rcases findNow_spec hkey es.toList 0 h1.isKey with ⟨g1, g2⟩ | ⟨j, e, g1, g2, g3⟩
  · have hrun2 : (Builtin.delete_ #[T, K] ty #[.map (some b), .string (mkS p)]).run P w = .ok (.tuple #[]) (setBlock w b (.map es clock)) := by
      simp [Builtin.delete_, run_underlying hT, MapKept.run_getObj_map hb, run_checkKey hK hkey, run_findKey hK g1, MapKept.run_setObj_map _ hb, Result.andThen, setBlock]
    rw [hrun] at hrun2
    injection hrun2 with _ hrun2
    subst hrun2
    rw [setB_at hlt] at hb2
    injection hb2 with hb2
    injection hb2 with e1 e2
    subst e1 e2
    exact ⟨es, clock, since, seen, c0, setB_at hlt, h2, hr2, hold, hsc, hsk, hl⟩
  · have hjl : j < es.toList.length := (List.getElem?_eq_some_iff.1 g2).1
    have hjs : j < es.size := by simpa using hjl
    have hrun2 : (Builtin.delete_ #[T, K] ty #[.map (some b), .string (mkS p)]).run P w = .ok (.tuple #[]) (setBlock w b (.map (es.eraseIdxIfInBounds j) clock)) := by
      simp [Builtin.delete_, run_underlying hT, MapKept.run_getObj_map hb, run_checkKey hK hkey, run_findKey hK g1, MapKept.run_setObj_map _ hb, Result.andThen, setBlock]
    rw [hrun] at hrun2
    injection hrun2 with _ hrun2
    subst hrun2
    rw [setB_at hlt] at hb2
    injection hb2 with hb2
    injection hb2 with e1 e2
    subst e1 e2
    have hsub : (es.eraseIdxIfInBounds j).toList = es.toList.eraseIdx j := by
      unfold Array.eraseIdxIfInBounds
      rw [dif_pos hjs]
      simp
    refine ⟨_, clock, since, seen, c0, setB_at hlt, h2, hr2, fun x hx => hold x (by rw [hsub] at hx; exact (List.eraseIdx_sublist _ _).subset hx), hsc, hsk, ?_⟩
    have q2 : es.toList.Perm (e :: es.toList.eraseIdx j) := by
      have q5 := ChangeMaps.set_perm es.toList j hjl e
      have q6 : es.toList.set j e = es.toList := by
        rw [List.getElem?_eq_getElem hjl] at g2
        injection g2 with g2
        rw [← g2, List.set_getElem_self]
      rw [q6] at q5
      exact q5
    have hseen : seen.contains e.born = true := by
      cases hc : seen.contains e.born
      · exfalso
        have he : e ∈ (leftOf es seen).toList := by
          rw [leftOf_list, List.mem_filter]
          exact ⟨List.mem_of_getElem? g2, by rw [hc]; rfl⟩
        have hin : kvE e ∈ todo.map kvS := hl.mem_iff.1 (List.mem_map.2 ⟨e, he, rfl⟩)
        obtain ⟨x, hx, ex⟩ := List.mem_map.1 hin
        rw [kvS, kvE, Prod.mk.injEq, g3] at ex
        exact hp x hx (keyV_inj.1 ex.1)
      · rfl
    rw [leftOf_list, hsub]
    rw [leftOf_list] at hl
    have q7 := (q2.filter (fun e => !seen.contains e.born))
    rw [List.filter_cons_of_neg (by rw [hseen]; decide)] at q7
    exact (q7.symm.map kvE).trans hl
end
section
variable {P : Program} (w : World) {ops : Array Oper} {rest : List Oper} {o : Oper} {a : Go.Act} {Q : Exit → Go.Act → World → Prop} {T K E : TypeId} {b r : Nat} {l todo : List (S8 × Value)}
theorem wpl_range8 (hg : o.guard = none) (m : Operand) (hop : o.op = Op.range T m) (hT : P.underlying T = some (.map K E)) (hm : a.eval m = .map (some b)) (h : MpB w b l)
    (hQ : ∀ w', RngB w' b w.heap.size l l → Below w.heap.size w w' → w'.heap.size = w.heap.size + 1 → wpList P ops Q rest (a.put o.dst (.pointer (some ⟨w.heap.size, 0, none⟩))) w') : wpList P ops Q (o :: rest) a w := by
  refine wpList_plain hg fun K' hK' => ?_
  obtain ⟨w', hrun, r1, r2, r3⟩ := run_range8 (P := P) hT h
  unfold Oper.wp
  simp [execOp, hop, hm, hrun, Result.andThen]
  exact hK' _ _ (hQ w' r1 r2 r3)
theorem wpl_next8 (hg : o.guard = none) (it : Operand) (hop : o.op = Op.next it false) (hit : a.eval it = .pointer (some ⟨r, 0, none⟩)) (h : RngB w b r l todo)
    (hD : todo = [] → wpList P ops Q rest (a.put o.dst (.tuple #[.bool false])) w)
    (hM : ∀ p v todo' w', todo.Perm ((p, v) :: todo') → (p, v) ∈ l → RngB w' b r l todo' → (Instr.entry (.pointer (some ⟨r, 0, none⟩))).run P w' = .ok (.tuple #[.string (mkS p), v]) w' → w.grownBy w' (some r) → w'.heap.size = w.heap.size → wpList P ops Q rest (a.put o.dst (.tuple #[.bool true, .string (mkS p), v])) w') : wpList P ops Q (o :: rest) a w := by
  refine wpList_plain hg fun K' hK' => ?_
  unfold Oper.wp
  rcases run_next8 (P := P) o.type h with ⟨h0, hrun⟩ | ⟨p, v, todo', w', h1, h2, hrun, h3, h4, h5, h6⟩
  · simp [execOp, hop, hit, hrun, Result.andThen]
    exact hK' _ _ (hD h0)
  · simp [execOp, hop, hit, hrun, Result.andThen]
    exact hK' _ _ (hM p v todo' w' h1 h2 h3 h4 h5 h6)
theorem wpl_drop8 (hg : o.guard = none) (m x : Operand) (hop : o.op = Op.call { callee := Callee.builtin Builtin.delete, args := #[m, x], argTypes := #[T, K] }) (hT : P.underlying T = some (.map K E)) (hK : P.underlying K = some .string)
    (hm : a.eval m = .map (some b)) (h : RngB w b r l todo) (p : S8) (hx : a.eval x = .string (mkS p)) (hp : ∀ x ∈ todo, x.1 ≠ p)
    (hQ : ∀ w', RngB w' b r (delV l p) todo → w.grownBy w' (some b) → w'.heap.size = w.heap.size → wpList P ops Q rest (a.put o.dst (.tuple #[])) w') : wpList P ops Q (o :: rest) a w := by
  refine wpList_plain hg fun K' hK' => ?_
  obtain ⟨w', hrun, r1, r2, r3⟩ := run_drop8 (P := P) hT hK (ty := o.type) h p hp
  unfold Oper.wp
  simp [execOp, hop, resolve, invoke, builtin, hm, hx, hrun, Result.andThen]
  exact hK' _ _ (hQ w' r1 r2 r3)
theorem wpl_delete8 (hg : o.guard = none) (m x : Operand) (hop : o.op = Op.call { callee := Callee.builtin Builtin.delete, args := #[m, x], argTypes := #[T, K] }) (hT : P.underlying T = some (.map K E)) (hK : P.underlying K = some .string)
    (hm : a.eval m = .map (some b)) (h : MpB w b l) (p : S8) (hx : a.eval x = .string (mkS p))
    (hQ : ∀ w', MpB w' b (delV l p) → w.grownBy w' (some b) → w'.heap.size = w.heap.size → wpList P ops Q rest (a.put o.dst (.tuple #[])) w') : wpList P ops Q (o :: rest) a w := by
  refine wpList_plain hg fun K' hK' => ?_
  obtain ⟨w', hrun, r1, r2, r3⟩ := run_delete8 (P := P) hT hK (ty := o.type) h p
  unfold Oper.wp
  simp [execOp, hop, resolve, invoke, builtin, hm, hx, hrun, Result.andThen]
  exact hK' _ _ (hQ w' r1 r2 r3)
theorem wpl_update8 (hg : o.guard = none) (m x v : Operand) (hop : o.op = Op.mapUpdate T m x v) (hT : P.underlying T = some (.map K E)) (hK : P.underlying K = some .string)
    (hm : a.eval m = .map (some b)) (h : MpB w b l) (p : S8) (hx : a.eval x = .string (mkS p)) (val : Value) (hv : a.eval v = val)
    (hQ : ∀ w', MpB w' b (putV l p val) → w.grownBy w' (some b) → w'.heap.size = w.heap.size → wpList P ops Q rest (a.put o.dst undef) w') : wpList P ops Q (o :: rest) a w := by
  refine wpList_plain hg fun K' hK' => ?_
  obtain ⟨w', hrun, r1, r2, r3⟩ := run_update8 (P := P) hT hK h p val
  unfold Oper.wp
  simp [execOp, hop, hm, hx, hv, hrun, Result.andThen]
  exact hK' _ _ (hQ w' r1 r2 r3)
end
end Go.Proofs.YtllpcllgliknpaaGreatDoor
