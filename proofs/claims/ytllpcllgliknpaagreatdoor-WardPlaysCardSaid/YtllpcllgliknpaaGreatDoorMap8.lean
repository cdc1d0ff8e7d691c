/- Maps from strings in memory: a block holds a map whose entries, in whatever order they lie, are these. -/
import Derived.Test.YtllpcllgliknpaaGreatDoorStr7
import Derived.MapKept
import Derived.Maps.Range
import Derived.Maps.Keyed
import Derived.Maps.RangeWalk
import Derived.RangeFuncRecord
import Derived.Deep.QuietTactic
import Derived.ChangeMaps4
set_option linter.unusedSimpArgs false
set_option maxRecDepth 100000
set_option linter.unusedVariables false
namespace Go.Proofs.YtllpcllgliknpaaGreatDoor
open Go Go.RowKit Go.MapKept
open Go.ChangeMaps (setBlock)

/-- What a list of keys and values has at a key. -/
def findV (l : List (S8 × Value)) (p : S8) : Option Value := (l.find? fun x => x.1 == p).map (·.2)
def delV (l : List (S8 × Value)) (p : S8) : List (S8 × Value) := l.filter fun x => x.1 != p
def putV (l : List (S8 × Value)) (p : S8) (v : Value) : List (S8 × Value) := (p, v) :: delV l p
def kvE (e : MapEntry) : Value × Value := (e.key, e.val)
def kvS (p : S8 × Value) : Value × Value := (.string (mkS p.1), p.2)
structure MpOk (es : Array MapEntry) (clock : Nat) (l : List (S8 × Value)) : Prop where
  st : Stamped es clock
  kv : (es.toList.map kvE).Perm (l.map kvS)
/-- Block b is a map of these. -/
def MpB (w : World) (b : Nat) (l : List (S8 × Value)) : Prop := ∃ es clock, w.heap[b]? = some (.map es clock) ∧ MpOk es clock l
theorem keyV_inj {a b : S8} : (Value.string (mkS a) = Value.string (mkS b)) ↔ a = b := by
  rw [Value.string.injEq, mkS_inj]
section
variable {es : Array MapEntry} {clock : Nat} {l : List (S8 × Value)}
theorem MpOk.born (h : MpOk es clock l) : (es.toList.map (·.born)).Nodup := ((stamped_iff es clock).1 h.st).2.1
theorem MpOk.old (h : MpOk es clock l) : ∀ x ∈ es.toList, x.born < clock := ((stamped_iff es clock).1 h.st).1
theorem MpOk.apart (h : MpOk es clock l) : es.toList.Pairwise (fun x y => x.key ≠ y.key) := ((stamped_iff es clock).1 h.st).2.2
theorem MpOk.of_perm (h : MpOk es clock l) {l' : List (S8 × Value)} (hp : l.Perm l') : MpOk es clock l' := ⟨h.st, h.kv.trans (hp.map _)⟩
theorem MpOk.mem (h : MpOk es clock l) {e : MapEntry} (he : e ∈ es.toList) : ∃ p v, (p, v) ∈ l ∧ e.key = .string (mkS p) ∧ e.val = v := by
  have : kvE e ∈ l.map kvS := h.kv.mem_iff.1 (List.mem_map.2 ⟨e, he, rfl⟩)
  obtain ⟨x, hx, e2⟩ := List.mem_map.1 this
  rw [kvS, kvE, Prod.mk.injEq] at e2
  exact ⟨x.1, x.2, hx, e2.1.symm, e2.2.symm⟩
theorem MpOk.size (h : MpOk es clock l) : es.size = l.length := by
  have := h.kv.length_eq
  simpa using this
theorem MpOk.keys (h : MpOk es clock l) : (l.map (·.1)).Nodup := by
  have h1 : ((es.toList.map kvE).map (·.1)).Nodup := by
    rw [List.map_map]
    show (es.toList.map (·.key)).Nodup
    rw [List.Nodup, List.pairwise_map]
    exact h.apart
  have h2 : ((l.map kvS).map (·.1)).Nodup := ((h.kv.map (·.1)).nodup_iff).1 h1
  rw [List.map_map] at h2
  rw [List.Nodup, List.pairwise_map] at h2 ⊢
  exact h2.imp fun hne e => hne (by show Value.string _ = Value.string _; rw [e])
theorem MpOk.isKey (h : MpOk es clock l) : ∀ x ∈ es.toList, IsKey .string x.key := fun x hx => by
  obtain ⟨p, v, _, e, _⟩ := h.mem hx
  rw [e]
  trivial
end
theorem findV_mem {l : List (S8 × Value)} (hk : (l.map (·.1)).Nodup) {p : S8} {v : Value} (h : (p, v) ∈ l) : findV l p = some v := by
  unfold findV
  induction l with
  | nil => exact absurd h (by simp)
  | cons x r ih =>
    rw [List.map_cons, List.nodup_cons] at hk
    rw [List.find?_cons]
    rcases List.mem_cons.1 h with h1 | h1
    · rw [← h1]
      simp
    · have : (x.1 == p) = false := by
        rw [beq_eq_false_iff_ne]
        intro e
        exact hk.1 (by rw [e]; exact List.mem_map.2 ⟨_, h1, rfl⟩)
      rw [this]
      exact ih hk.2 h1
theorem findV_none {l : List (S8 × Value)} {p : S8} (h : ∀ x ∈ l, x.1 ≠ p) : findV l p = none := by
  unfold findV
  rw [List.find?_eq_none.2 (fun x hx => by simpa using h x hx)]
  rfl
theorem findV_in {l : List (S8 × Value)} {p : S8} {v : Value} (h : findV l p = some v) : (p, v) ∈ l := by
  unfold findV at h
  cases hf : l.find? (fun x => x.1 == p) with
  | none => rw [hf] at h; cases h
  | some x =>
    rw [hf] at h
    injection h with h
    have h1 := List.mem_of_find?_eq_some hf
    have h2 := List.find?_some hf
    have : x.1 = p := by simpa using h2
    subst this h
    exact h1
theorem findV_perm {l l' : List (S8 × Value)} (hk : (l.map (·.1)).Nodup) (hp : l.Perm l') (p : S8) : findV l p = findV l' p := by
  have hk' : (l'.map (·.1)).Nodup := ((hp.map (·.1)).nodup_iff).1 hk
  cases h : findV l p with
  | some v => exact (findV_mem hk' (hp.mem_iff.1 (findV_in h))).symm
  | none =>
    cases h' : findV l' p with
    | none => rfl
    | some v =>
      rw [findV_mem hk (hp.mem_iff.2 (findV_in h'))] at h
      cases h
section
variable {w w' : World} {b : Nat} {l : List (S8 × Value)}
theorem MpB.lt (h : MpB w b l) : b < w.heap.size := by
  obtain ⟨es, clock, hb, _⟩ := h
  exact (Array.getElem?_eq_some_iff.1 hb).1
theorem MpB.keep (h : MpB w b l) (hk : w'.heap[b]? = w.heap[b]?) : MpB w' b l := by
  obtain ⟨es, clock, hb, r⟩ := h
  exact ⟨es, clock, by rw [hk]; exact hb, r⟩
theorem MpB.of_below (h : MpB w b l) (hB : Below w.heap.size w w') : MpB w' b l := h.keep (hB.block b h.lt)
theorem MpB.of_perm (h : MpB w b l) {l' : List (S8 × Value)} (hp : l.Perm l') : MpB w b l' := by
  obtain ⟨es, clock, hb, r⟩ := h
  exact ⟨es, clock, hb, r.of_perm hp⟩
theorem MpB.keys (h : MpB w b l) : (l.map (·.1)).Nodup := by
  obtain ⟨es, clock, hb, r⟩ := h
  exact r.keys
theorem MpB.made (w : World) : MpB (w.alloc (.map #[] 0)) w.heap.size [] := ⟨#[], 0, World.alloc_heap_new w _, stamped_empty 0, by simp⟩
theorem MpB.copied (h : MpB w b l) (es : Array MapEntry) (clock : Nat) (hb : w.heap[b]? = some (.map es clock)) : MpB (w.alloc (.map es clock)) w.heap.size l := by
  obtain ⟨es2, clock2, hb2, r⟩ := h
  rw [hb] at hb2
  injection hb2 with hb2
  injection hb2 with e1 e2
  subst e1 e2
  exact ⟨es, clock, World.alloc_heap_new w _, r⟩
end
theorem setB_at {w : World} {b : Nat} {o : Obj} (h : b < w.heap.size) : (setBlock w b o).heap[b]? = some o := by simp [setBlock, h]
theorem setB_else {w : World} {b k : Nat} {o : Obj} (h : k ≠ b) : (setBlock w b o).heap[k]? = w.heap[k]? := by simp [setBlock, Array.getElem?_setIfInBounds, Ne.symm h]
theorem setB_size {w : World} {b : Nat} {o : Obj} : (setBlock w b o).heap.size = w.heap.size := by simp [setBlock]
theorem setB_grown {w : World} {b : Nat} {o : Obj} : w.grownBy (setBlock w b o) (some b) := ⟨rfl, rfl, rfl, by rw [setB_size]; exact Nat.le_refl _, fun k hk hne => setB_else (fun e => hne (by rw [e]))⟩
section
variable {P : Program} {T K E : TypeId} (hT : P.underlying T = some (.map K E)) (hK : P.underlying K = some .string)
variable {w : World} {b : Nat} {l : List (S8 × Value)}
include hT hK
theorem run_lookup8 {z : Value} (hz : (zeroValue E).run P w = .ok z w) (h : MpB w b l) (p : S8) (c : Bool) :
    (Instr.lookup T (.map (some b)) (.string (mkS p)) c).run P w = .ok (if c then .tuple #[(findV l p).getD z, .bool (findV l p).isSome] else (findV l p).getD z) w := by
  obtain ⟨es, clock, hb, r⟩ := h
  have hkey : IsKey .string (.string (mkS p)) := trivial
  rcases findNow_spec hkey es.toList 0 r.isKey with ⟨h1, h2⟩ | ⟨j, e, h1, h2, h3⟩
  · have hf : findV l p = none := findV_none fun x hx e => by
      have : kvS x ∈ es.toList.map kvE := r.kv.mem_iff.2 (List.mem_map.2 ⟨x, hx, rfl⟩)
      obtain ⟨y, hy, e2⟩ := List.mem_map.1 this
      rw [kvS, kvE, Prod.mk.injEq] at e2
      exact h2 y hy (by rw [e2.1, e])
    rw [hf]
    simp [Instr.lookup, run_underlying hT, MapKept.run_getObj_map hb, run_checkKey hK hkey, run_findKey hK h1, hz, Result.andThen]
  · have hm : e ∈ es.toList := List.mem_of_getElem? h2
    obtain ⟨q, v, hq, e1, e2⟩ := r.mem hm
    have hqp : q = p := keyV_inj.1 (by rw [← e1, h3])
    subst hqp
    have hf : findV l q = some e.val := by rw [e2]; exact findV_mem r.keys hq
    rw [hf]
    simp [Instr.lookup, run_underlying hT, MapKept.run_getObj_map hb, run_checkKey hK hkey, run_findKey hK h1, Result.andThen]
theorem run_update8 (h : MpB w b l) (p : S8) (v : Value) : ∃ w', (Instr.mapUpdate T (.map (some b)) (.string (mkS p)) v).run P w = .ok () w' ∧ MpB w' b (putV l p v) ∧ w.grownBy w' (some b) ∧ w'.heap.size = w.heap.size := by
  classical
  have hlt := h.lt
  obtain ⟨es, clock, hb, r⟩ := h
  have hkey : IsKey .string (.string (mkS p)) := trivial
  rcases findNow_spec hkey es.toList 0 r.isKey with ⟨h1, h2⟩ | ⟨j, e, h1, h2, h3⟩
  · refine ⟨setBlock w b (.map (es.push { key := .string (mkS p), val := v, born := clock }) (clock + 1)), ?_, ⟨_, _, setB_at hlt, stamped_push r.st h2, ?_⟩, setB_grown, setB_size⟩
    · simp [Instr.mapUpdate, run_underlying hT, MapKept.run_getObj_map hb, run_checkKey hK hkey, run_findKey hK h1, MapKept.run_setObj_map _ hb, Result.andThen, setBlock]
    · have hd : delV l p = l := by
        unfold delV
        rw [List.filter_eq_self]
        intro x hx
        have : kvS x ∈ es.toList.map kvE := r.kv.mem_iff.2 (List.mem_map.2 ⟨x, hx, rfl⟩)
        obtain ⟨y, hy, e2⟩ := List.mem_map.1 this
        rw [kvS, kvE, Prod.mk.injEq] at e2
        simp only [bne_iff_ne, ne_eq]
        intro e3
        exact h2 y hy (by rw [e2.1, e3])
      rw [Array.toList_push, List.map_append, putV, hd, List.map_cons]
      refine List.Perm.trans ?_ (List.perm_append_singleton _ _)
      exact r.kv.append (List.Perm.refl _)
  · have hj : es[j]? = some e := by simpa using h2
    have hjl : j < es.toList.length := (List.getElem?_eq_some_iff.1 h2).1
    have hkf : ∀ e', es[j]? = some e' → ({ e' with key := .string (mkS p), val := v } : MapEntry).key = e'.key := fun e' he' => by rw [hj] at he'; cases he'; exact h3.symm
    have hlist : (es.modify j (fun e' => { e' with key := .string (mkS p), val := v })).toList = es.toList.set j { e with key := .string (mkS p), val := v } := by
      apply List.ext_getElem?
      intro i
      rw [Array.getElem?_toList, Array.getElem?_modify, List.getElem?_set]
      by_cases hi : j = i
      · subst hi
        rw [if_pos rfl, if_pos rfl, hj]
        simp at hjl
        simp [hjl]
      · rw [if_neg hi, if_neg hi, Array.getElem?_toList]
    refine ⟨setBlock w b (.map (es.modify j fun e' => { e' with key := .string (mkS p), val := v }) clock), ?_, ⟨_, _, setB_at hlt, stamped_modify r.st _ _ (fun _ _ => rfl) (fun e' _ he' => hkf e' he'), ?_⟩, setB_grown, setB_size⟩
    · simp [Instr.mapUpdate, run_underlying hT, MapKept.run_getObj_map hb, run_checkKey hK hkey, run_findKey hK h1, hj, h3, run_keyThatStays hkey, MapKept.run_setObj_map _ hb, Result.andThen, setBlock]
    · rw [hlist]
      have q1 : (es.toList.set j { e with key := .string (mkS p), val := v }).Perm ({ e with key := .string (mkS p), val := v } :: es.toList.eraseIdx j) := by
        exact ChangeMaps.set_perm _ _ hjl _
      have q2 : es.toList.Perm (e :: es.toList.eraseIdx j) := by
        have q5 := ChangeMaps.set_perm es.toList j hjl e
        have q6 : es.toList.set j e = es.toList := by
          rw [List.getElem?_eq_getElem hjl] at h2
          injection h2 with h2
          rw [← h2, List.set_getElem_self]
        rw [q6] at q5
        exact q5
      refine ((q1.map kvE).trans ?_)
      rw [List.map_cons, putV, List.map_cons]
      refine List.Perm.cons _ ?_
      have q3 : ((e :: es.toList.eraseIdx j).map kvE).Perm (l.map kvS) := (q2.symm.map kvE).trans r.kv
      have q4 := q3.filter (fun x => decide (x.1 ≠ Value.string (mkS p)))
      have a1 : (es.toList.eraseIdx j).Pairwise (fun x y => x.key ≠ y.key) ∧ ∀ x ∈ es.toList.eraseIdx j, e.key ≠ x.key := by
        have := (q2.pairwise_iff (R := fun x y : MapEntry => x.key ≠ y.key) (fun {a b} h => Ne.symm h)).1 r.apart
        rw [List.pairwise_cons] at this
        exact ⟨this.2, this.1⟩
      rw [List.map_cons, List.filter_cons_of_neg (by simp [kvE, h3]), List.filter_eq_self.2 (fun x hx => by
        obtain ⟨y, hy, rfl⟩ := List.mem_map.1 hx
        simp only [decide_eq_true_eq]
        intro e3
        exact a1.2 y hy (by rw [h3]; exact e3.symm))] at q4
      refine q4.trans ?_
      rw [List.filter_map]
      refine (List.Perm.of_eq ?_).map kvS
      unfold delV
      refine List.filter_congr fun x _ => ?_
      simp only [Function.comp, kvS]
      rw [Bool.eq_iff_iff]
      simp [mkS_inj]
theorem run_delete8 {ty : TypeId} (h : MpB w b l) (p : S8) : ∃ w', (Builtin.delete_ #[T, K] ty #[.map (some b), .string (mkS p)]).run P w = .ok (.tuple #[]) w' ∧ MpB w' b (delV l p) ∧ w.grownBy w' (some b) ∧ w'.heap.size = w.heap.size := by
  classical
  have hlt := h.lt
  obtain ⟨es, clock, hb, r⟩ := h
  have hkey : IsKey .string (.string (mkS p)) := trivial
  have q0 : ((es.toList.map kvE).filter (fun x => decide (x.1 ≠ Value.string (mkS p)))).Perm ((delV l p).map kvS) := by
    refine (r.kv.filter _).trans ?_
    rw [List.filter_map]
    refine (List.Perm.of_eq ?_).map kvS
    unfold delV
    refine List.filter_congr fun x _ => ?_
    simp only [Function.comp, kvS]
    rw [Bool.eq_iff_iff]
    simp [mkS_inj]
  rcases findNow_spec hkey es.toList 0 r.isKey with ⟨h1, h2⟩ | ⟨j, e, h1, h2, h3⟩
  · refine ⟨setBlock w b (.map es clock), ?_, ⟨_, _, setB_at hlt, r.st, ?_⟩, setB_grown, setB_size⟩
    · simp [Builtin.delete_, run_underlying hT, MapKept.run_getObj_map hb, run_checkKey hK hkey, run_findKey hK h1, MapKept.run_setObj_map _ hb, Result.andThen, setBlock]
    · rw [List.filter_eq_self.2 (fun x hx => by
        obtain ⟨y, hy, rfl⟩ := List.mem_map.1 hx
        simp only [decide_eq_true_eq]
        exact h2 y hy)] at q0
      exact q0
  · have hjl : j < es.toList.length := (List.getElem?_eq_some_iff.1 h2).1
    have hjs : j < es.size := by simpa using hjl
    have hsub : (es.eraseIdxIfInBounds j).toList = es.toList.eraseIdx j := by
      unfold Array.eraseIdxIfInBounds
      rw [dif_pos hjs]
      simp
    have q2 : es.toList.Perm (e :: es.toList.eraseIdx j) := by
      have q5 := ChangeMaps.set_perm es.toList j hjl e
      have q6 : es.toList.set j e = es.toList := by
        rw [List.getElem?_eq_getElem hjl] at h2
        injection h2 with h2
        rw [← h2, List.set_getElem_self]
      rw [q6] at q5
      exact q5
    refine ⟨setBlock w b (.map (es.eraseIdxIfInBounds j) clock), ?_, ⟨_, _, setB_at hlt, stamped_erase r.st j, ?_⟩, setB_grown, setB_size⟩
    · simp [Builtin.delete_, run_underlying hT, MapKept.run_getObj_map hb, run_checkKey hK hkey, run_findKey hK h1, MapKept.run_setObj_map _ hb, Result.andThen, setBlock]
    · rw [hsub]
      have a1 : ∀ x ∈ es.toList.eraseIdx j, e.key ≠ x.key := by
        have := (q2.pairwise_iff (R := fun x y : MapEntry => x.key ≠ y.key) (fun {a b} h => Ne.symm h)).1 r.apart
        rw [List.pairwise_cons] at this
        exact this.1
      have q3 := ((q2.map kvE).filter (fun x => decide (x.1 ≠ Value.string (mkS p))))
      have q7 : ((es.toList.eraseIdx j).map kvE).filter (fun x => decide (x.1 ≠ Value.string (mkS p))) = (es.toList.eraseIdx j).map kvE := List.filter_eq_self.2 (fun x hx => by
        obtain ⟨y, hy, rfl⟩ := List.mem_map.1 hx
        simp only [decide_eq_true_eq]
        intro e3
        exact a1 y hy (by rw [h3]; exact e3.symm))
      rw [List.map_cons, List.filter_cons_of_neg (by simp [kvE, h3]), q7] at q3
      exact q3.symm.trans q0
omit hK in
theorem run_len8 {ty : TypeId} (h : MpB w b l) : (Builtin.len_ #[T] ty #[.map (some b)]).run P w = .ok (.int .i64 (l.length : Int)) w := by
  obtain ⟨es, clock, hb, r⟩ := h
  simp [Builtin.len_, goInt, run_underlying hT, MapKept.run_getObj_map hb, Result.andThen, r.size]
end
end Go.Proofs.YtllpcllgliknpaaGreatDoor
