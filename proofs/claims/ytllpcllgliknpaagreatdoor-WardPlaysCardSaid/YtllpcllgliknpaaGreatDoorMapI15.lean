/- Maps from ints in memory: as Map8 and MapR8 for strings. -/
import Derived.Test.YtllpcllgliknpaaGreatDoorMapR8
import Derived.MapKept
import Derived.Maps.Range
import Derived.Maps.Keyed
import Derived.Maps.RangeWalk
import Derived.RangeFuncRecord
import Derived.Deep.QuietTactic
import Derived.ChangeMaps4
set_option linter.unusedSimpArgs false
set_option maxRecDepth 100000
set_option linter.unusedVariables false
namespace Go.Proofs.YtllpcllgliknpaaGreatDoor
open Go Go.RowKit Go.MapKept
open Go.ChangeMaps (setBlock)

/-- What a list of keys and values has at a key. -/
def findI (l : List (Int × Value)) (p : Int) : Option Value := (l.find? fun x => x.1 == p).map (·.2)
def delI (l : List (Int × Value)) (p : Int) : List (Int × Value) := l.filter fun x => x.1 != p
def putI (l : List (Int × Value)) (p : Int) (v : Value) : List (Int × Value) := (p, v) :: delI l p
def kvI (p : Int × Value) : Value × Value := (.int .i64 p.1, p.2)
structure MiOk (es : Array MapEntry) (clock : Nat) (l : List (Int × Value)) : Prop where
  st : Stamped es clock
  kv : (es.toList.map kvE).Perm (l.map kvI)
/-- Block b is a map of these. -/
def MiB (w : World) (b : Nat) (l : List (Int × Value)) : Prop := ∃ es clock, w.heap[b]? = some (.map es clock) ∧ MiOk es clock l
theorem keyI_inj {a b : Int} : (Value.int .i64 a = Value.int .i64 b) ↔ a = b := by simp
section
variable {es : Array MapEntry} {clock : Nat} {l : List (Int × Value)}
theorem MiOk.born (h : MiOk es clock l) : (es.toList.map (·.born)).Nodup := ((stamped_iff es clock).1 h.st).2.1
theorem MiOk.old (h : MiOk es clock l) : ∀ x ∈ es.toList, x.born < clock := ((stamped_iff es clock).1 h.st).1
theorem MiOk.apart (h : MiOk es clock l) : es.toList.Pairwise (fun x y => x.key ≠ y.key) := ((stamped_iff es clock).1 h.st).2.2
theorem MiOk.of_perm (h : MiOk es clock l) {l' : List (Int × Value)} (hp : l.Perm l') : MiOk es clock l' := ⟨h.st, h.kv.trans (hp.map _)⟩
theorem MiOk.mem (h : MiOk es clock l) {e : MapEntry} (he : e ∈ es.toList) : ∃ p v, (p, v) ∈ l ∧ e.key = .int .i64 p ∧ e.val = v := by
  have : kvE e ∈ l.map kvI := h.kv.mem_iff.1 (List.mem_map.2 ⟨e, he, rfl⟩)
  obtain ⟨x, hx, e2⟩ := List.mem_map.1 this
  rw [kvI, kvE, Prod.mk.injEq] at e2
  exact ⟨x.1, x.2, hx, e2.1.symm, e2.2.symm⟩
theorem MiOk.size (h : MiOk es clock l) : es.size = l.length := by
  have := h.kv.length_eq
  simpa using this
theorem MiOk.keys (h : MiOk es clock l) : (l.map (·.1)).Nodup := by
  have h1 : ((es.toList.map kvE).map (·.1)).Nodup := by
    rw [List.map_map]
    show (es.toList.map (·.key)).Nodup
    rw [List.Nodup, List.pairwise_map]
    exact h.apart
  have h2 : ((l.map kvI).map (·.1)).Nodup := ((h.kv.map (·.1)).nodup_iff).1 h1
  rw [List.map_map] at h2
  rw [List.Nodup, List.pairwise_map] at h2 ⊢
  exact h2.imp fun hne e => hne (by show Value.int .i64 _ = Value.int .i64 _; rw [e])
theorem MiOk.isKey (h : MiOk es clock l) : ∀ x ∈ es.toList, IsKey (.int .i64) x.key := fun x hx => by
  obtain ⟨p, v, _, e, _⟩ := h.mem hx
  rw [e]
  trivial
end
theorem findI_mem {l : List (Int × Value)} (hk : (l.map (·.1)).Nodup) {p : Int} {v : Value} (h : (p, v) ∈ l) : findI l p = some v := by
  unfold findI
  induction l with
  | nil => exact absurd h (by simp)
  | cons x r ih =>
    rw [List.map_cons, List.nodup_cons] at hk
    rw [List.find?_cons]
    rcases List.mem_cons.1 h with h1 | h1
    · rw [← h1]
      simp
    · have : (x.1 == p) = false := by
        rw [beq_eq_false_iff_ne]
        intro e
        exact hk.1 (by rw [e]; exact List.mem_map.2 ⟨_, h1, rfl⟩)
      rw [this]
      exact ih hk.2 h1
theorem findI_none {l : List (Int × Value)} {p : Int} (h : ∀ x ∈ l, x.1 ≠ p) : findI l p = none := by
  unfold findI
  rw [List.find?_eq_none.2 (fun x hx => by simpa using h x hx)]
  rfl
theorem findI_in {l : List (Int × Value)} {p : Int} {v : Value} (h : findI l p = some v) : (p, v) ∈ l := by
  unfold findI at h
  cases hf : l.find? (fun x => x.1 == p) with
  | none => rw [hf] at h; cases h
  | some x =>
    rw [hf] at h
    injection h with h
    have h1 := List.mem_of_find?_eq_some hf
    have h2 := List.find?_some hf
    have : x.1 = p := by simpa using h2
    subst this h
    exact h1
theorem findI_perm {l l' : List (Int × Value)} (hk : (l.map (·.1)).Nodup) (hp : l.Perm l') (p : Int) : findI l p = findI l' p := by
  have hk' : (l'.map (·.1)).Nodup := ((hp.map (·.1)).nodup_iff).1 hk
  cases h : findI l p with
  | some v => exact (findI_mem hk' (hp.mem_iff.1 (findI_in h))).symm
  | none =>
    cases h' : findI l' p with
    | none => rfl
    | some v =>
      rw [findI_mem hk (hp.mem_iff.2 (findI_in h'))] at h
      cases h
section
variable {w w' : World} {b : Nat} {l : List (Int × Value)}
theorem MiB.lt (h : MiB w b l) : b < w.heap.size := by
  obtain ⟨es, clock, hb, _⟩ := h
  exact (Array.getElem?_eq_some_iff.1 hb).1
theorem MiB.keep (h : MiB w b l) (hk : w'.heap[b]? = w.heap[b]?) : MiB w' b l := by
  obtain ⟨es, clock, hb, r⟩ := h
  exact ⟨es, clock, by rw [hk]; exact hb, r⟩
theorem MiB.of_below (h : MiB w b l) (hB : Below w.heap.size w w') : MiB w' b l := h.keep (hB.block b h.lt)
theorem MiB.of_perm (h : MiB w b l) {l' : List (Int × Value)} (hp : l.Perm l') : MiB w b l' := by
  obtain ⟨es, clock, hb, r⟩ := h
  exact ⟨es, clock, hb, r.of_perm hp⟩
theorem MiB.keys (h : MiB w b l) : (l.map (·.1)).Nodup := by
  obtain ⟨es, clock, hb, r⟩ := h
  exact r.keys
theorem MiB.made (w : World) : MiB (w.alloc (.map #[] 0)) w.heap.size [] := ⟨#[], 0, World.alloc_heap_new w _, stamped_empty 0, by simp⟩
theorem MiB.copied (h : MiB w b l) (es : Array MapEntry) (clock : Nat) (hb : w.heap[b]? = some (.map es clock)) : MiB (w.alloc (.map es clock)) w.heap.size l := by
  obtain ⟨es2, clock2, hb2, r⟩ := h
  rw [hb] at hb2
  injection hb2 with hb2
  injection hb2 with e1 e2
  subst e1 e2
  exact ⟨es, clock, World.alloc_heap_new w _, r⟩
end
section
variable {P : Program} {T K E : TypeId} (hT : P.underlying T = some (.map K E)) (hK : P.underlying K = some (.int .i64))
variable {w : World} {b : Nat} {l : List (Int × Value)}
include hT hK
theorem run_lookupI15 {z : Value} (hz : (zeroValue E).run P w = .ok z w) (h : MiB w b l) (p : Int) (c : Bool) :
    (Instr.lookup T (.map (some b)) (.int .i64 p) c).run P w = .ok (if c then .tuple #[(findI l p).getD z, .bool (findI l p).isSome] else (findI l p).getD z) w := by
  obtain ⟨es, clock, hb, r⟩ := h
  have hkey : IsKey (.int .i64) (.int .i64 p) := rfl
  rcases findNow_spec hkey es.toList 0 r.isKey with ⟨h1, h2⟩ | ⟨j, e, h1, h2, h3⟩
  · have hf : findI l p = none := findI_none fun x hx e => by
      have : kvI x ∈ es.toList.map kvE := r.kv.mem_iff.2 (List.mem_map.2 ⟨x, hx, rfl⟩)
      obtain ⟨y, hy, e2⟩ := List.mem_map.1 this
      rw [kvI, kvE, Prod.mk.injEq] at e2
      exact h2 y hy (by rw [e2.1, e])
    rw [hf]
    simp [Instr.lookup, run_underlying hT, MapKept.run_getObj_map hb, run_checkKey hK hkey, run_findKey hK h1, hz, Result.andThen]
  · have hm : e ∈ es.toList := List.mem_of_getElem? h2
    obtain ⟨q, v, hq, e1, e2⟩ := r.mem hm
    have hqp : q = p := keyI_inj.1 (by rw [← e1, h3])
    subst hqp
    have hf : findI l q = some e.val := by rw [e2]; exact findI_mem r.keys hq
    rw [hf]
    simp [Instr.lookup, run_underlying hT, MapKept.run_getObj_map hb, run_checkKey hK hkey, run_findKey hK h1, Result.andThen]
theorem run_updateI15 (h : MiB w b l) (p : Int) (v : Value) : ∃ w', (Instr.mapUpdate T (.map (some b)) (.int .i64 p) v).run P w = .ok () w' ∧ MiB w' b (putI l p v) ∧ w.grownBy w' (some b) ∧ w'.heap.size = w.heap.size := by
  classical
  have hlt := h.lt
  obtain ⟨es, clock, hb, r⟩ := h
  have hkey : IsKey (.int .i64) (.int .i64 p) := rfl
  rcases findNow_spec hkey es.toList 0 r.isKey with ⟨h1, h2⟩ | ⟨j, e, h1, h2, h3⟩
  · refine ⟨setBlock w b (.map (es.push { key := .int .i64 p, val := v, born := clock }) (clock + 1)), ?_, ⟨_, _, setB_at hlt, stamped_push r.st h2, ?_⟩, setB_grown, setB_size⟩
    · simp [Instr.mapUpdate, run_underlying hT, MapKept.run_getObj_map hb, run_checkKey hK hkey, run_findKey hK h1, MapKept.run_setObj_map _ hb, Result.andThen, setBlock]
    · have hd : delI l p = l := by
        unfold delI
        rw [List.filter_eq_self]
        intro x hx
        have : kvI x ∈ es.toList.map kvE := r.kv.mem_iff.2 (List.mem_map.2 ⟨x, hx, rfl⟩)
        obtain ⟨y, hy, e2⟩ := List.mem_map.1 this
        rw [kvI, kvE, Prod.mk.injEq] at e2
        simp only [bne_iff_ne, ne_eq]
        intro e3
        exact h2 y hy (by rw [e2.1, e3])
      rw [Array.toList_push, List.map_append, putI, hd, List.map_cons]
      refine List.Perm.trans ?_ (List.perm_append_singleton _ _)
      exact r.kv.append (List.Perm.refl _)
  · have hj : es[j]? = some e := by simpa using h2
    have hjl : j < es.toList.length := (List.getElem?_eq_some_iff.1 h2).1
    have hkf : ∀ e', es[j]? = some e' → ({ e' with key := .int .i64 p, val := v } : MapEntry).key = e'.key := fun e' he' => by rw [hj] at he'; cases he'; exact h3.symm
    have hlist : (es.modify j (fun e' => { e' with key := .int .i64 p, val := v })).toList = es.toList.set j { e with key := .int .i64 p, val := v } := by
      apply List.ext_getElem?
      intro i
      rw [Array.getElem?_toList, Array.getElem?_modify, List.getElem?_set]
      by_cases hi : j = i
      · subst hi
        rw [if_pos rfl, if_pos rfl, hj]
        simp at hjl
        simp [hjl]
      · rw [if_neg hi, if_neg hi, Array.getElem?_toList]
    refine ⟨setBlock w b (.map (es.modify j fun e' => { e' with key := .int .i64 p, val := v }) clock), ?_, ⟨_, _, setB_at hlt, stamped_modify r.st _ _ (fun _ _ => rfl) (fun e' _ he' => hkf e' he'), ?_⟩, setB_grown, setB_size⟩
    · simp [Instr.mapUpdate, run_underlying hT, MapKept.run_getObj_map hb, run_checkKey hK hkey, run_findKey hK h1, hj, h3, run_keyThatStays hkey, MapKept.run_setObj_map _ hb, Result.andThen, setBlock]
    · rw [hlist]
      have q1 : (es.toList.set j { e with key := .int .i64 p, val := v }).Perm ({ e with key := .int .i64 p, val := v } :: es.toList.eraseIdx j) := by
        exact ChangeMaps.set_perm _ _ hjl _
      have q2 : es.toList.Perm (e :: es.toList.eraseIdx j) := by
        have q5 := ChangeMaps.set_perm es.toList j hjl e
        have q6 : es.toList.set j e = es.toList := by
          rw [List.getElem?_eq_getElem hjl] at h2
          injection h2 with h2
          rw [← h2, List.set_getElem_self]
        rw [q6] at q5
        exact q5
      refine ((q1.map kvE).trans ?_)
      rw [List.map_cons, putI, List.map_cons]
      refine List.Perm.cons _ ?_
      have q3 : ((e :: es.toList.eraseIdx j).map kvE).Perm (l.map kvI) := (q2.symm.map kvE).trans r.kv
      have q4 := q3.filter (fun x => decide (x.1 ≠ Value.int .i64 p))
      have a1 : (es.toList.eraseIdx j).Pairwise (fun x y => x.key ≠ y.key) ∧ ∀ x ∈ es.toList.eraseIdx j, e.key ≠ x.key := by
        have := (q2.pairwise_iff (R := fun x y : MapEntry => x.key ≠ y.key) (fun {a b} h => Ne.symm h)).1 r.apart
        rw [List.pairwise_cons] at this
        exact ⟨this.2, this.1⟩
      rw [List.map_cons, List.filter_cons_of_neg (by simp [kvE, h3]), List.filter_eq_self.2 (fun x hx => by
        obtain ⟨y, hy, rfl⟩ := List.mem_map.1 hx
        simp only [decide_eq_true_eq]
        intro e3
        exact a1.2 y hy (by rw [h3]; exact e3.symm))] at q4
      refine q4.trans ?_
      rw [List.filter_map]
      refine (List.Perm.of_eq ?_).map kvI
      unfold delI
      refine List.filter_congr fun x _ => ?_
      simp only [Function.comp, kvI]
      rw [Bool.eq_iff_iff]
      simp [Value.int.injEq]
theorem run_deleteI15 {ty : TypeId} (h : MiB w b l) (p : Int) : ∃ w', (Builtin.delete_ #[T, K] ty #[.map (some b), .int .i64 p]).run P w = .ok (.tuple #[]) w' ∧ MiB w' b (delI l p) ∧ w.grownBy w' (some b) ∧ w'.heap.size = w.heap.size := by
  classical
  have hlt := h.lt
  obtain ⟨es, clock, hb, r⟩ := h
  have hkey : IsKey (.int .i64) (.int .i64 p) := rfl
  have q0 : ((es.toList.map kvE).filter (fun x => decide (x.1 ≠ Value.int .i64 p))).Perm ((delI l p).map kvI) := by
    refine (r.kv.filter _).trans ?_
    rw [List.filter_map]
    refine (List.Perm.of_eq ?_).map kvI
    unfold delI
    refine List.filter_congr fun x _ => ?_
    simp only [Function.comp, kvI]
    rw [Bool.eq_iff_iff]
    simp [Value.int.injEq]
  rcases findNow_spec hkey es.toList 0 r.isKey with ⟨h1, h2⟩ | ⟨j, e, h1, h2, h3⟩
  · refine ⟨setBlock w b (.map es clock), ?_, ⟨_, _, setB_at hlt, r.st, ?_⟩, setB_grown, setB_size⟩
    · simp [Builtin.delete_, run_underlying hT, MapKept.run_getObj_map hb, run_checkKey hK hkey, run_findKey hK h1, MapKept.run_setObj_map _ hb, Result.andThen, setBlock]
    · rw [List.filter_eq_self.2 (fun x hx => by
        obtain ⟨y, hy, rfl⟩ := List.mem_map.1 hx
        simp only [decide_eq_true_eq]
        exact h2 y hy)] at q0
      exact q0
  · have hjl : j < es.toList.length := (List.getElem?_eq_some_iff.1 h2).1
    have hjs : j < es.size := by simpa using hjl
    have hsub : (es.eraseIdxIfInBounds j).toList = es.toList.eraseIdx j := by
      unfold Array.eraseIdxIfInBounds
      rw [dif_pos hjs]
      simp
    have q2 : es.toList.Perm (e :: es.toList.eraseIdx j) := by
      have q5 := ChangeMaps.set_perm es.toList j hjl e
      have q6 : es.toList.set j e = es.toList := by
        rw [List.getElem?_eq_getElem hjl] at h2
        injection h2 with h2
        rw [← h2, List.set_getElem_self]
      rw [q6] at q5
      exact q5
    refine ⟨setBlock w b (.map (es.eraseIdxIfInBounds j) clock), ?_, ⟨_, _, setB_at hlt, stamped_erase r.st j, ?_⟩, setB_grown, setB_size⟩
    · simp [Builtin.delete_, run_underlying hT, MapKept.run_getObj_map hb, run_checkKey hK hkey, run_findKey hK h1, MapKept.run_setObj_map _ hb, Result.andThen, setBlock]
    · rw [hsub]
      have a1 : ∀ x ∈ es.toList.eraseIdx j, e.key ≠ x.key := by
        have := (q2.pairwise_iff (R := fun x y : MapEntry => x.key ≠ y.key) (fun {a b} h => Ne.symm h)).1 r.apart
        rw [List.pairwise_cons] at this
        exact this.1
      have q3 := ((q2.map kvE).filter (fun x => decide (x.1 ≠ Value.int .i64 p)))
      have q7 : ((es.toList.eraseIdx j).map kvE).filter (fun x => decide (x.1 ≠ Value.int .i64 p)) = (es.toList.eraseIdx j).map kvE := List.filter_eq_self.2 (fun x hx => by
        obtain ⟨y, hy, rfl⟩ := List.mem_map.1 hx
        simp only [decide_eq_true_eq]
        intro e3
        exact a1 y hy (by rw [h3]; exact e3.symm))
      rw [List.map_cons, List.filter_cons_of_neg (by simp [kvE, h3]), q7] at q3
      exact q3.symm.trans q0
omit hK in
theorem run_lenI15 {ty : TypeId} (h : MiB w b l) : (Builtin.len_ #[T] ty #[.map (some b)]).run P w = .ok (.int .i64 (l.length : Int)) w := by
  obtain ⟨es, clock, hb, r⟩ := h
  simp [Builtin.len_, goInt, run_underlying hT, MapKept.run_getObj_map hb, Result.andThen, r.size]
end
/-- A range over the map in block b, its iterator in block r: these are still to come. -/
def RngI8 (w : World) (b r : Nat) (l todo : List (Int × Value)) : Prop :=
  ∃ es clock since seen c0, w.heap[b]? = some (.map es clock) ∧ MiOk es clock l ∧ w.heap[r]? = some (.mapIter (some b) since seen c0) ∧ (∀ x ∈ es.toList, x.born < since) ∧ since ≤ c0 ∧ since ≤ clock ∧ ((leftOf es seen).toList.map kvE).Perm (todo.map kvI)
section
variable {w w' : World} {b r : Nat} {l todo : List (Int × Value)}
theorem RngI8.map (h : RngI8 w b r l todo) : MiB w b l := by
  obtain ⟨es, clock, _, _, _, hb, h1, _⟩ := h
  exact ⟨es, clock, hb, h1⟩
theorem RngI8.ne (h : RngI8 w b r l todo) : r ≠ b := by
  obtain ⟨es, clock, since, seen, c0, hb, _, hr, _⟩ := h
  intro e
  rw [e, hb] at hr
  cases hr
theorem RngI8.lt (h : RngI8 w b r l todo) : r < w.heap.size := by
  obtain ⟨es, clock, since, seen, c0, hb, _, hr, _⟩ := h
  exact (Array.getElem?_eq_some_iff.1 hr).1
theorem RngI8.left (h : RngI8 w b r l todo) : w.rangeLeft b r = todo.length := by
  obtain ⟨es, clock, since, seen, c0, hb, _, hr, _, _, _, hp⟩ := h
  simp only [World.rangeLeft, hb, hr]
  have := hp.length_eq
  simpa using this
theorem RngI8.keep (h : RngI8 w b r l todo) (hb : w'.heap[b]? = w.heap[b]?) (hr : w'.heap[r]? = w.heap[r]?) : RngI8 w' b r l todo := by
  obtain ⟨es, clock, since, seen, c0, h1, h2, h3, h4⟩ := h
  exact ⟨es, clock, since, seen, c0, by rw [hb]; exact h1, h2, by rw [hr]; exact h3, h4⟩
theorem RngI8.of_below (h : RngI8 w b r l todo) (hB : Below w.heap.size w w') : RngI8 w' b r l todo := h.keep (hB.block b h.map.lt) (hB.block r h.lt)
theorem RngI8.of_perm (h : RngI8 w b r l todo) {l' : List (Int × Value)} (hp : l.Perm l') : RngI8 w b r l' todo := by
  obtain ⟨es, clock, since, seen, c0, h1, h2, h3⟩ := h
  exact ⟨es, clock, since, seen, c0, h1, h2.of_perm hp, h3⟩
end
section
variable {P : Program} {T K E : TypeId} (hT : P.underlying T = some (.map K E)) (hK : P.underlying K = some (.int .i64))
variable {w : World} {b r : Nat} {l todo : List (Int × Value)}
include hT
theorem run_rangeI15 (h : MiB w b l) : ∃ w', (Instr.range T (.map (some b))).run P w = .ok (.pointer (some ⟨w.heap.size, 0, none⟩)) w' ∧ RngI8 w' b w.heap.size l l ∧ Below w.heap.size w w' ∧ w'.heap.size = w.heap.size + 1 := by
  have hlt := h.lt
  obtain ⟨es, clock, hb, h1⟩ := h
  refine ⟨_, run_range_map w T K E b es clock hT hb, ⟨es, clock, clock, #[], clock, ((MapKept.heap_alloc w _).2 b hlt).trans hb, h1, (MapKept.heap_alloc w _).1, h1.old, Nat.le_refl _, Nat.le_refl _, ?_⟩, (Below.refl _ _).alloc (Nat.le_refl _) _, by simp⟩
  rw [leftOf_list, List.filter_eq_self.2 (fun x _ => by simp)]
  exact h1.kv
omit hT
theorem run_nextI15 (ty : TypeId) (h : RngI8 w b r l todo) :
    (todo = [] ∧ (Instr.next (.pointer (some ⟨r, 0, none⟩)) false ty).run P w = .ok (.tuple #[.bool false]) w) ∨
    ∃ p v todo' w', todo.Perm ((p, v) :: todo') ∧ (p, v) ∈ l ∧ (Instr.next (.pointer (some ⟨r, 0, none⟩)) false ty).run P w = .ok (.tuple #[.bool true, .int .i64 p, v]) w' ∧ RngI8 w' b r l todo' ∧
      (Instr.entry (.pointer (some ⟨r, 0, none⟩))).run P w' = .ok (.tuple #[.int .i64 p, v]) w' ∧ w.grownBy w' (some r) ∧ w'.heap.size = w.heap.size := by
  have hne := h.ne
  obtain ⟨es, clock, since, seen, c0, hb, h1, hr, hold, hsc, hsk, hp⟩ := h
  rcases run_next_at (P := P) w ty r b since c0 seen es clock hr hb hold hsc with ⟨h0, hrun⟩ | ⟨e, he, w1, hal, hrun⟩
  · refine Or.inl ⟨?_, hrun⟩
    have := hp.length_eq
    simp only [List.length_map, Array.length_toList] at this
    exact List.eq_nil_of_length_eq_zero (by omega)
  · obtain ⟨hem, hes⟩ := mem_left he
    obtain ⟨p, v, hm, ek, ev⟩ := h1.mem hem
    have hr1 : w1.heap[r]? = some (.mapIter (some b) since seen c0) := by rcases hal with rfl | rfl <;> exact hr
    have hb1 : w1.heap[b]? = some (.map es clock) := by rcases hal with rfl | rfl <;> exact hb
    have hset := heap_set (o' := .mapIter (some b) since (seen.push e.born) clock) hr1
    have hb' : (setBlock w1 r (.mapIter (some b) since (seen.push e.born) clock)).heap[b]? = some (.map es clock) := (hset.2 b (fun e1 => hne e1.symm)).trans hb1
    have hin : kvE e ∈ todo.map kvI := hp.mem_iff.1 (List.mem_map.2 ⟨e, he, rfl⟩)
    obtain ⟨x, hx, ex⟩ := List.mem_map.1 hin
    have hxe : x = (p, v) := by
      rw [kvI, kvE, Prod.mk.injEq, ek, ev] at ex
      have : x.1 = p := keyI_inj.1 ex.1
      exact Prod.ext this ex.2
    subst hxe
    obtain ⟨todo', ht⟩ := List.append_of_mem hx
    obtain ⟨t2, ht⟩ := ht
    have hperm : todo.Perm ((p, v) :: (todo' ++ t2)) := by rw [ht]; exact List.perm_middle
    have hlp : (leftOf es seen).toList.Perm (e :: (leftOf es (seen.push e.born)).toList) := by
      rw [leftOf_list, leftOf_list]
      have hnd : ∀ (L : List MapEntry), (L.map (·.born)).Nodup → e ∈ L → (L.filter fun x => !seen.contains x.born).Perm (e :: L.filter fun x => !(seen.push e.born).contains x.born) := by
        intro L
        induction L with
        | nil => intro _ h; exact absurd h (by simp)
        | cons y r ih =>
          intro hn hy
          rw [List.map_cons, List.nodup_cons] at hn
          rcases List.mem_cons.1 hy with rfl | hy
          · rw [List.filter_cons_of_pos (by rw [hes]; rfl), List.filter_cons_of_neg (by rw [contains_push]; simp)]
            refine List.Perm.cons _ (List.Perm.of_eq (List.filter_congr fun z hz => ?_))
            rw [contains_push]
            have : (z.born == e.born) = false := by
              rw [beq_eq_false_iff_ne]
              intro e9
              exact hn.1 (by rw [← e9]; exact List.mem_map.2 ⟨z, hz, rfl⟩)
            rw [this]
            simp
          · have hyb : (y.born == e.born) = false := by
              rw [beq_eq_false_iff_ne]
              intro e9
              exact hn.1 (by rw [e9]; exact List.mem_map.2 ⟨e, hy, rfl⟩)
            rw [List.filter_cons, List.filter_cons, contains_push, hyb]
            cases hs : seen.contains y.born
            · simp only [Bool.not_false, if_true, Bool.or_false]
              exact ((ih hn.2 hy).cons y).trans (List.Perm.swap _ _ _)
            · simp only [Bool.not_true, Bool.false_eq_true, if_false, Bool.or_false, Bool.true_or, Bool.not_true]
              exact ih hn.2 hy
      exact hnd es.toList h1.born hem
    have hrest : ((leftOf es (seen.push e.born)).toList.map kvE).Perm ((todo' ++ t2).map kvI) := by
      have q1 := (hlp.map kvE).symm.trans (hp.trans (hperm.map kvI))
      rw [List.map_cons, List.map_cons] at q1
      have e3 : kvE e = kvI (p, v) := by rw [kvE, kvI, ek, ev]
      rw [e3] at q1
      exact q1.cons_inv
    refine Or.inr ⟨p, v, todo' ++ t2, _, hperm, hm, by rw [ek, ev] at hrun; exact hrun, ⟨es, clock, since, seen.push e.born, clock, hb', h1, hset.1, hold, hsk, hsk, hrest⟩, by rw [← ek, ← ev]; exact run_entry_at _ r b since seen es clock e hset.1 hb' hem h1.born, ?_, ?_⟩
    · rcases hal with rfl | rfl <;> exact ⟨rfl, rfl, rfl, by simp [setBlock], fun i _ hi => hset.2 i (fun e1 => hi (by rw [e1]))⟩
    · rcases hal with rfl | rfl <;> simp [setBlock]
include hT hK
/-- An entry that has come is deleted. -/
theorem run_dropI15 {ty : TypeId} (h : RngI8 w b r l todo) (p : Int) (hp : ∀ x ∈ todo, x.1 ≠ p) : ∃ w', (Builtin.delete_ #[T, K] ty #[.map (some b), .int .i64 p]).run P w = .ok (.tuple #[]) w' ∧ RngI8 w' b r (delI l p) todo ∧ w.grownBy w' (some b) ∧ w'.heap.size = w.heap.size := by
  have hm := h.map
  have hne := h.ne
  have hlt := hm.lt
  obtain ⟨es, clock, since, seen, c0, hb, h1, hr, hold, hsc, hsk, hl⟩ := h
  have hkey : IsKey (.int .i64) (.int .i64 p) := rfl
  obtain ⟨w', hrun, ⟨es2, clock2, hb2, h2⟩, hg, hs⟩ := run_deleteI15 hT hK (ty := ty) hm p
  refine ⟨w', hrun, ?_, hg, hs⟩
  have hr2 : w'.heap[r]? = some (.mapIter (some b) since seen c0) := by rw [hg.block r ((Array.getElem?_eq_some_iff.1 hr).1) (by simpa using hne)]; exact hr
  rcases findNow_spec hkey es.toList 0 h1.isKey with ⟨g1, g2⟩ | ⟨j, e, g1, g2, g3⟩
  · have hrun2 : (Builtin.delete_ #[T, K] ty #[.map (some b), .int .i64 p]).run P w = .ok (.tuple #[]) (setBlock w b (.map es clock)) := by
      simp [Builtin.delete_, run_underlying hT, MapKept.run_getObj_map hb, run_checkKey hK hkey, run_findKey hK g1, MapKept.run_setObj_map _ hb, Result.andThen, setBlock]
    rw [hrun] at hrun2
    injection hrun2 with _ hrun2
    subst hrun2
    rw [setB_at hlt] at hb2
    injection hb2 with hb2
    injection hb2 with e1 e2
    subst e1 e2
    exact ⟨es, clock, since, seen, c0, setB_at hlt, h2, hr2, hold, hsc, hsk, hl⟩
  · have hjl : j < es.toList.length := (List.getElem?_eq_some_iff.1 g2).1
    have hjs : j < es.size := by simpa using hjl
    have hrun2 : (Builtin.delete_ #[T, K] ty #[.map (some b), .int .i64 p]).run P w = .ok (.tuple #[]) (setBlock w b (.map (es.eraseIdxIfInBounds j) clock)) := by
      simp [Builtin.delete_, run_underlying hT, MapKept.run_getObj_map hb, run_checkKey hK hkey, run_findKey hK g1, MapKept.run_setObj_map _ hb, Result.andThen, setBlock]
    rw [hrun] at hrun2
    injection hrun2 with _ hrun2
    subst hrun2
    rw [setB_at hlt] at hb2
    injection hb2 with hb2
    injection hb2 with e1 e2
    subst e1 e2
    have hsub : (es.eraseIdxIfInBounds j).toList = es.toList.eraseIdx j := by
      unfold Array.eraseIdxIfInBounds
      rw [dif_pos hjs]
      simp
    refine ⟨_, clock, since, seen, c0, setB_at hlt, h2, hr2, fun x hx => hold x (by rw [hsub] at hx; exact (List.eraseIdx_sublist _ _).subset hx), hsc, hsk, ?_⟩
    have q2 : es.toList.Perm (e :: es.toList.eraseIdx j) := by
      have q5 := ChangeMaps.set_perm es.toList j hjl e
      have q6 : es.toList.set j e = es.toList := by
        rw [List.getElem?_eq_getElem hjl] at g2
        injection g2 with g2
        rw [← g2, List.set_getElem_self]
      rw [q6] at q5
      exact q5
    have hseen : seen.contains e.born = true := by
      cases hc : seen.contains e.born
      · exfalso
        have he : e ∈ (leftOf es seen).toList := by
          rw [leftOf_list, List.mem_filter]
          exact ⟨List.mem_of_getElem? g2, by rw [hc]; rfl⟩
        have hin : kvE e ∈ todo.map kvI := hl.mem_iff.1 (List.mem_map.2 ⟨e, he, rfl⟩)
        obtain ⟨x, hx, ex⟩ := List.mem_map.1 hin
        rw [kvI, kvE, Prod.mk.injEq, g3] at ex
        exact hp x hx (keyI_inj.1 ex.1)
      · rfl
    rw [leftOf_list, hsub]
    rw [leftOf_list] at hl
    have q7 := (q2.filter (fun e => !seen.contains e.born))
    rw [List.filter_cons_of_neg (by rw [hseen]; decide)] at q7
    exact (q7.symm.map kvE).trans hl
end
section
variable {P : Program} (w : World) {ops : Array Oper} {rest : List Oper} {o : Oper} {a : Go.Act} {Q : Exit → Go.Act → World → Prop} {T K E : TypeId} {b r : Nat} {l todo : List (Int × Value)}
theorem wpl_rangeI15 (hg : o.guard = none) (m : Operand) (hop : o.op = Op.range T m) (hT : P.underlying T = some (.map K E)) (hm : a.eval m = .map (some b)) (h : MiB w b l)
    (hQ : ∀ w', RngI8 w' b w.heap.size l l → Below w.heap.size w w' → w'.heap.size = w.heap.size + 1 → wpList P ops Q rest (a.put o.dst (.pointer (some ⟨w.heap.size, 0, none⟩))) w') : wpList P ops Q (o :: rest) a w := by
  refine wpList_plain hg fun K' hK' => ?_
  obtain ⟨w', hrun, r1, r2, r3⟩ := run_rangeI15 (P := P) hT h
  unfold Oper.wp
  simp [execOp, hop, hm, hrun, Result.andThen]
  exact hK' _ _ (hQ w' r1 r2 r3)
theorem wpl_nextI15 (hg : o.guard = none) (it : Operand) (hop : o.op = Op.next it false) (hit : a.eval it = .pointer (some ⟨r, 0, none⟩)) (h : RngI8 w b r l todo)
    (hD : todo = [] → wpList P ops Q rest (a.put o.dst (.tuple #[.bool false])) w)
    (hM : ∀ p v todo' w', todo.Perm ((p, v) :: todo') → (p, v) ∈ l → RngI8 w' b r l todo' → (Instr.entry (.pointer (some ⟨r, 0, none⟩))).run P w' = .ok (.tuple #[.int .i64 p, v]) w' → w.grownBy w' (some r) → w'.heap.size = w.heap.size → wpList P ops Q rest (a.put o.dst (.tuple #[.bool true, .int .i64 p, v])) w') : wpList P ops Q (o :: rest) a w := by
  refine wpList_plain hg fun K' hK' => ?_
  unfold Oper.wp
  rcases run_nextI15 (P := P) o.type h with ⟨h0, hrun⟩ | ⟨p, v, todo', w', h1, h2, hrun, h3, h4, h5, h6⟩
  · simp [execOp, hop, hit, hrun, Result.andThen]
    exact hK' _ _ (hD h0)
  · simp [execOp, hop, hit, hrun, Result.andThen]
    exact hK' _ _ (hM p v todo' w' h1 h2 h3 h4 h5 h6)
theorem wpl_dropI15 (hg : o.guard = none) (m x : Operand) (hop : o.op = Op.call { callee := Callee.builtin Builtin.delete, args := #[m, x], argTypes := #[T, K] }) (hT : P.underlying T = some (.map K E)) (hK : P.underlying K = some (.int .i64))
    (hm : a.eval m = .map (some b)) (h : RngI8 w b r l todo) (p : Int) (hx : a.eval x = .int .i64 p) (hp : ∀ x ∈ todo, x.1 ≠ p)
    (hQ : ∀ w', RngI8 w' b r (delI l p) todo → w.grownBy w' (some b) → w'.heap.size = w.heap.size → wpList P ops Q rest (a.put o.dst (.tuple #[])) w') : wpList P ops Q (o :: rest) a w := by
  refine wpList_plain hg fun K' hK' => ?_
  obtain ⟨w', hrun, r1, r2, r3⟩ := run_dropI15 (P := P) hT hK (ty := o.type) h p hp
  unfold Oper.wp
  simp [execOp, hop, resolve, invoke, builtin, hm, hx, hrun, Result.andThen]
  exact hK' _ _ (hQ w' r1 r2 r3)
theorem wpl_deleteI15 (hg : o.guard = none) (m x : Operand) (hop : o.op = Op.call { callee := Callee.builtin Builtin.delete, args := #[m, x], argTypes := #[T, K] }) (hT : P.underlying T = some (.map K E)) (hK : P.underlying K = some (.int .i64))
    (hm : a.eval m = .map (some b)) (h : MiB w b l) (p : Int) (hx : a.eval x = .int .i64 p)
    (hQ : ∀ w', MiB w' b (delI l p) → w.grownBy w' (some b) → w'.heap.size = w.heap.size → wpList P ops Q rest (a.put o.dst (.tuple #[])) w') : wpList P ops Q (o :: rest) a w := by
  refine wpList_plain hg fun K' hK' => ?_
  obtain ⟨w', hrun, r1, r2, r3⟩ := run_deleteI15 (P := P) hT hK (ty := o.type) h p
  unfold Oper.wp
  simp [execOp, hop, resolve, invoke, builtin, hm, hx, hrun, Result.andThen]
  exact hK' _ _ (hQ w' r1 r2 r3)
theorem wpl_updateI15 (hg : o.guard = none) (m x v : Operand) (hop : o.op = Op.mapUpdate T m x v) (hT : P.underlying T = some (.map K E)) (hK : P.underlying K = some (.int .i64))
    (hm : a.eval m = .map (some b)) (h : MiB w b l) (p : Int) (hx : a.eval x = .int .i64 p) (val : Value) (hv : a.eval v = val)
    (hQ : ∀ w', MiB w' b (putI l p val) → w.grownBy w' (some b) → w'.heap.size = w.heap.size → wpList P ops Q rest (a.put o.dst undef) w') : wpList P ops Q (o :: rest) a w := by
  refine wpList_plain hg fun K' hK' => ?_
  obtain ⟨w', hrun, r1, r2, r3⟩ := run_updateI15 (P := P) hT hK h p val
  unfold Oper.wp
  simp [execOp, hop, hm, hx, hv, hrun, Result.andThen]
  exact hK' _ _ (hQ w' r1 r2 r3)
end
end Go.Proofs.YtllpcllgliknpaaGreatDoor
