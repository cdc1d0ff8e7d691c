/- Merged texts: Map8, MapR8, Dkv8, LibP7, Cla8, Put8. -/
import Derived.MapKept
import Derived.Maps.Range
import Derived.Maps.Keyed
import Derived.Maps.RangeWalk
import Derived.RangeFuncRecord
import Derived.Deep.QuietTactic
import Derived.ChangeMaps4
import Derived.Test.YtjglgohchhdkkaaGreatDoorStr7
import Derived.Test.YtjglgohchhdkkaaGreatDoorDkp8
import Derived.Laws.Externs
import Derived.OwnWalk
import Derived.Lib.Hide
import Derived.Lib.OthersKept
set_option linter.unusedSimpArgs false
set_option linter.unusedVariables false
/- Maps from strings in memory: a block holds a map whose entries, in whatever order they lie, are these. -/
namespace Go.Proofs.YtjglgohchhdkkaaGreatDoor
open Go Go.RowKit Go.MapKept
open Go.ChangeMaps (setBlock)

/-- What a list of keys and values has at a key. -/
def findV (l : List (S8 × Value)) (p : S8) : Option Value := (l.find? fun x => x.1 == p).map (·.2)
def delV (l : List (S8 × Value)) (p : S8) : List (S8 × Value) := l.filter fun x => x.1 != p
def putV (l : List (S8 × Value)) (p : S8) (v : Value) : List (S8 × Value) := (p, v) :: delV l p
def kvE (e : MapEntry) : Value × Value := (e.key, e.val)
def kvS (p : S8 × Value) : Value × Value := (.string (mkS p.1), p.2)
structure MpOk (es : Array MapEntry) (clock : Nat) (l : List (S8 × Value)) : Prop where
  st : Stamped es clock
  kv : (es.toList.map kvE).Perm (l.map kvS)
/-- Block b is a map of these. -/
def MpB (w : World) (b : Nat) (l : List (S8 × Value)) : Prop := ∃ es clock, w.heap[b]? = some (.map es clock) ∧ MpOk es clock l
theorem keyV_inj {a b : S8} : (Value.string (mkS a) = Value.string (mkS b)) ↔ a = b := by
  rw [Value.string.injEq, mkS_inj]
section
variable {es : Array MapEntry} {clock : Nat} {l : List (S8 × Value)}
theorem MpOk.born (h : MpOk es clock l) : (es.toList.map (·.born)).Nodup := ((stamped_iff es clock).1 h.st).2.1
theorem MpOk.old (h : MpOk es clock l) : ∀ x ∈ es.toList, x.born < clock := ((stamped_iff es clock).1 h.st).1
theorem MpOk.apart (h : MpOk es clock l) : es.toList.Pairwise (fun x y => x.key ≠ y.key) := ((stamped_iff es clock).1 h.st).2.2
theorem MpOk.of_perm (h : MpOk es clock l) {l' : List (S8 × Value)} (hp : l.Perm l') : MpOk es clock l' := ⟨h.st, h.kv.trans (hp.map _)⟩
theorem MpOk.mem (h : MpOk es clock l) {e : MapEntry} (he : e ∈ es.toList) : ∃ p v, (p, v) ∈ l ∧ e.key = .string (mkS p) ∧ e.val = v := by
  have : kvE e ∈ l.map kvS := h.kv.mem_iff.1 (List.mem_map.2 ⟨e, he, rfl⟩)
  obtain ⟨x, hx, e2⟩ := List.mem_map.1 this
  rw [kvS, kvE, Prod.mk.injEq] at e2
  exact ⟨x.1, x.2, hx, e2.1.symm, e2.2.symm⟩
theorem MpOk.size (h : MpOk es clock l) : es.size = l.length := by
  have := h.kv.length_eq
  simpa using this
theorem MpOk.keys (h : MpOk es clock l) : (l.map (·.1)).Nodup := by
  have h1 : ((es.toList.map kvE).map (·.1)).Nodup := by
    rw [List.map_map]
    show (es.toList.map (·.key)).Nodup
    rw [List.Nodup, List.pairwise_map]
    exact h.apart
  have h2 : ((l.map kvS).map (·.1)).Nodup := ((h.kv.map (·.1)).nodup_iff).1 h1
  rw [List.map_map] at h2
  rw [List.Nodup, List.pairwise_map] at h2 ⊢
  exact h2.imp fun hne e => hne (by show Value.string _ = Value.string _; rw [e])
theorem MpOk.isKey (h : MpOk es clock l) : ∀ x ∈ es.toList, IsKey .string x.key := fun x hx => by
  obtain ⟨p, v, _, e, _⟩ := h.mem hx
  rw [e]
  trivial
end
theorem findV_mem {l : List (S8 × Value)} (hk : (l.map (·.1)).Nodup) {p : S8} {v : Value} (h : (p, v) ∈ l) : findV l p = some v := by
  unfold findV
  induction l with
  | nil => exact absurd h (by simp)
  | cons x r ih =>
    rw [List.map_cons, List.nodup_cons] at hk
    rw [List.find?_cons]
    rcases List.mem_cons.1 h with h1 | h1
    · rw [← h1]
      simp
    · have : (x.1 == p) = false := by
        rw [beq_eq_false_iff_ne]
        intro e
        exact hk.1 (by rw [e]; exact List.mem_map.2 ⟨_, h1, rfl⟩)
      rw [this]
      exact ih hk.2 h1
theorem findV_none {l : List (S8 × Value)} {p : S8} (h : ∀ x ∈ l, x.1 ≠ p) : findV l p = none := by
  unfold findV
  rw [List.find?_eq_none.2 (fun x hx => by simpa using h x hx)]
  rfl
theorem findV_in {l : List (S8 × Value)} {p : S8} {v : Value} (h : findV l p = some v) : (p, v) ∈ l := by
  unfold findV at h
  cases hf : l.find? (fun x => x.1 == p) with
  | none => rw [hf] at h; cases h
  | some x =>
    rw [hf] at h
    injection h with h
    have h1 := List.mem_of_find?_eq_some hf
    have h2 := List.find?_some hf
    have : x.1 = p := by simpa using h2
    subst this h
    exact h1
theorem findV_perm {l l' : List (S8 × Value)} (hk : (l.map (·.1)).Nodup) (hp : l.Perm l') (p : S8) : findV l p = findV l' p := by
  have hk' : (l'.map (·.1)).Nodup := ((hp.map (·.1)).nodup_iff).1 hk
  cases h : findV l p with
  | some v => exact (findV_mem hk' (hp.mem_iff.1 (findV_in h))).symm
  | none =>
    cases h' : findV l' p with
    | none => rfl
    | some v =>
      rw [findV_mem hk (hp.mem_iff.2 (findV_in h'))] at h
      cases h
section
variable {w w' : World} {b : Nat} {l : List (S8 × Value)}
theorem MpB.lt (h : MpB w b l) : b < w.heap.size := by
  obtain ⟨es, clock, hb, _⟩ := h
  exact (Array.getElem?_eq_some_iff.1 hb).1
theorem MpB.keep (h : MpB w b l) (hk : w'.heap[b]? = w.heap[b]?) : MpB w' b l := by
  obtain ⟨es, clock, hb, r⟩ := h
  exact ⟨es, clock, by rw [hk]; exact hb, r⟩
theorem MpB.of_below (h : MpB w b l) (hB : Below w.heap.size w w') : MpB w' b l := h.keep (hB.block b h.lt)
theorem MpB.of_perm (h : MpB w b l) {l' : List (S8 × Value)} (hp : l.Perm l') : MpB w b l' := by
  obtain ⟨es, clock, hb, r⟩ := h
  exact ⟨es, clock, hb, r.of_perm hp⟩
theorem MpB.keys (h : MpB w b l) : (l.map (·.1)).Nodup := by
  obtain ⟨es, clock, hb, r⟩ := h
  exact r.keys
theorem MpB.made (w : World) : MpB (w.alloc (.map #[] 0)) w.heap.size [] := ⟨#[], 0, World.alloc_heap_new w _, stamped_empty 0, by simp⟩
theorem MpB.copied (h : MpB w b l) (es : Array MapEntry) (clock : Nat) (hb : w.heap[b]? = some (.map es clock)) : MpB (w.alloc (.map es clock)) w.heap.size l := by
  obtain ⟨es2, clock2, hb2, r⟩ := h
  rw [hb] at hb2
  injection hb2 with hb2
  injection hb2 with e1 e2
  subst e1 e2
  exact ⟨es, clock, World.alloc_heap_new w _, r⟩
end
theorem setB_at {w : World} {b : Nat} {o : Obj} (h : b < w.heap.size) : (setBlock w b o).heap[b]? = some o := by simp [setBlock, h]
theorem setB_else {w : World} {b k : Nat} {o : Obj} (h : k ≠ b) : (setBlock w b o).heap[k]? = w.heap[k]? := by simp [setBlock, Array.getElem?_setIfInBounds, Ne.symm h]
theorem setB_size {w : World} {b : Nat} {o : Obj} : (setBlock w b o).heap.size = w.heap.size := by simp [setBlock]
theorem setB_grown {w : World} {b : Nat} {o : Obj} : w.grownBy (setBlock w b o) (some b) := ⟨rfl, rfl, rfl, by rw [setB_size]; exact Nat.le_refl _, fun k hk hne => setB_else (fun e => hne (by rw [e]))⟩
section
variable {P : Program} {T K E : TypeId} (hT : P.underlying T = some (.map K E)) (hK : P.underlying K = some .string)
variable {w : World} {b : Nat} {l : List (S8 × Value)}
include hT hK
theorem run_lookup8 {z : Value} (hz : (zeroValue E).run P w = .ok z w) (h : MpB w b l) (p : S8) (c : Bool) :
    (Instr.lookup T (.map (some b)) (.string (mkS p)) c).run P w = .ok (if c then .tuple #[(findV l p).getD z, .bool (findV l p).isSome] else (findV l p).getD z) w := by
  obtain ⟨es, clock, hb, r⟩ := h
  have hkey : IsKey .string (.string (mkS p)) := trivial
  rcases findNow_spec hkey es.toList 0 r.isKey with ⟨h1, h2⟩ | ⟨j, e, h1, h2, h3⟩
  · have hf : findV l p = none := findV_none fun x hx e => by
      have : kvS x ∈ es.toList.map kvE := r.kv.mem_iff.2 (List.mem_map.2 ⟨x, hx, rfl⟩)
      obtain ⟨y, hy, e2⟩ := List.mem_map.1 this
      rw [kvS, kvE, Prod.mk.injEq] at e2
      exact h2 y hy (by rw [e2.1, e])
    rw [hf]
    simp [Instr.lookup, run_underlying hT, MapKept.run_getObj_map hb, run_checkKey hK hkey, run_findKey hK h1, hz, Result.andThen]
  · have hm : e ∈ es.toList := List.mem_of_getElem? h2
    obtain ⟨q, v, hq, e1, e2⟩ := r.mem hm
    have hqp : q = p := keyV_inj.1 (by rw [← e1, h3])
    subst hqp
    have hf : findV l q = some e.val := by rw [e2]; exact findV_mem r.keys hq
    rw [hf]
    simp [Instr.lookup, run_underlying hT, MapKept.run_getObj_map hb, run_checkKey hK hkey, run_findKey hK h1, Result.andThen]
theorem run_update8 (h : MpB w b l) (p : S8) (v : Value) : ∃ w', (Instr.mapUpdate T (.map (some b)) (.string (mkS p)) v).run P w = .ok () w' ∧ MpB w' b (putV l p v) ∧ w.grownBy w' (some b) ∧ w'.heap.size = w.heap.size := by
  classical
  have hlt := h.lt
  obtain ⟨es, clock, hb, r⟩ := h
  have hkey : IsKey .string (.string (mkS p)) := trivial
  rcases findNow_spec hkey es.toList 0 r.isKey with ⟨h1, h2⟩ | ⟨j, e, h1, h2, h3⟩
  · refine ⟨setBlock w b (.map (es.push { key := .string (mkS p), val := v, born := clock }) (clock + 1)), ?_, ⟨_, _, setB_at hlt, stamped_push r.st h2, ?_⟩, setB_grown, setB_size⟩
    · simp [Instr.mapUpdate, run_underlying hT, MapKept.run_getObj_map hb, run_checkKey hK hkey, run_findKey hK h1, MapKept.run_setObj_map _ hb, Result.andThen, setBlock]
    · have hd : delV l p = l := by
        unfold delV
        rw [List.filter_eq_self]
        intro x hx
        have : kvS x ∈ es.toList.map kvE := r.kv.mem_iff.2 (List.mem_map.2 ⟨x, hx, rfl⟩)
        obtain ⟨y, hy, e2⟩ := List.mem_map.1 this
        rw [kvS, kvE, Prod.mk.injEq] at e2
        simp only [bne_iff_ne, ne_eq]
        intro e3
        exact h2 y hy (by rw [e2.1, e3])
      rw [Array.toList_push, List.map_append, putV, hd, List.map_cons]
      refine List.Perm.trans ?_ (List.perm_append_singleton _ _)
      exact r.kv.append (List.Perm.refl _)
  · have hj : es[j]? = some e := by simpa using h2
    have hjl : j < es.toList.length := (List.getElem?_eq_some_iff.1 h2).1
    have hkf : ∀ e', es[j]? = some e' → ({ e' with key := .string (mkS p), val := v } : MapEntry).key = e'.key := fun e' he' => by rw [hj] at he'; cases he'; exact h3.symm
    have hlist : (es.modify j (fun e' => { e' with key := .string (mkS p), val := v })).toList = es.toList.set j { e with key := .string (mkS p), val := v } := by
      apply List.ext_getElem?
      intro i
      rw [Array.getElem?_toList, Array.getElem?_modify, List.getElem?_set]
      by_cases hi : j = i
      · subst hi
        rw [if_pos rfl, if_pos rfl, hj]
        simp at hjl
        simp [hjl]
      · rw [if_neg hi, if_neg hi, Array.getElem?_toList]
    refine ⟨setBlock w b (.map (es.modify j fun e' => { e' with key := .string (mkS p), val := v }) clock), ?_, ⟨_, _, setB_at hlt, stamped_modify r.st _ _ (fun _ _ => rfl) (fun e' _ he' => hkf e' he'), ?_⟩, setB_grown, setB_size⟩
    · simp [Instr.mapUpdate, run_underlying hT, MapKept.run_getObj_map hb, run_checkKey hK hkey, run_findKey hK h1, hj, h3, run_keyThatStays hkey, MapKept.run_setObj_map _ hb, Result.andThen, setBlock]
    · rw [hlist]
      have q1 : (es.toList.set j { e with key := .string (mkS p), val := v }).Perm ({ e with key := .string (mkS p), val := v } :: es.toList.eraseIdx j) := by
        exact ChangeMaps.set_perm _ _ hjl _
      have q2 : es.toList.Perm (e :: es.toList.eraseIdx j) := by
        have q5 := ChangeMaps.set_perm es.toList j hjl e
        have q6 : es.toList.set j e = es.toList := by
          rw [List.getElem?_eq_getElem hjl] at h2
          injection h2 with h2
          rw [← h2, List.set_getElem_self]
        rw [q6] at q5
        exact q5
      refine ((q1.map kvE).trans ?_)
      rw [List.map_cons, putV, List.map_cons]
      refine List.Perm.cons _ ?_
      have q3 : ((e :: es.toList.eraseIdx j).map kvE).Perm (l.map kvS) := (q2.symm.map kvE).trans r.kv
      have q4 := q3.filter (fun x => decide (x.1 ≠ Value.string (mkS p)))
      have a1 : (es.toList.eraseIdx j).Pairwise (fun x y => x.key ≠ y.key) ∧ ∀ x ∈ es.toList.eraseIdx j, e.key ≠ x.key := by
        have := (q2.pairwise_iff (R := fun x y : MapEntry => x.key ≠ y.key) (fun {a b} h => Ne.symm h)).1 r.apart
        rw [List.pairwise_cons] at this
        exact ⟨this.2, this.1⟩
      rw [List.map_cons, List.filter_cons_of_neg (by simp [kvE, h3]), List.filter_eq_self.2 (fun x hx => by
        obtain ⟨y, hy, rfl⟩ := List.mem_map.1 hx
        simp only [decide_eq_true_eq]
        intro e3
        exact a1.2 y hy (by rw [h3]; exact e3.symm))] at q4
      refine q4.trans ?_
      rw [List.filter_map]
      refine (List.Perm.of_eq ?_).map kvS
      unfold delV
      refine List.filter_congr fun x _ => ?_
      simp only [Function.comp, kvS]
      rw [Bool.eq_iff_iff]
      simp [mkS_inj]
theorem run_delete8 {ty : TypeId} (h : MpB w b l) (p : S8) : ∃ w', (Builtin.delete_ #[T, K] ty #[.map (some b), .string (mkS p)]).run P w = .ok (.tuple #[]) w' ∧ MpB w' b (delV l p) ∧ w.grownBy w' (some b) ∧ w'.heap.size = w.heap.size := by
  classical
  have hlt := h.lt
  obtain ⟨es, clock, hb, r⟩ := h
  have hkey : IsKey .string (.string (mkS p)) := trivial
  have q0 : ((es.toList.map kvE).filter (fun x => decide (x.1 ≠ Value.string (mkS p)))).Perm ((delV l p).map kvS) := by
    refine (r.kv.filter _).trans ?_
    rw [List.filter_map]
    refine (List.Perm.of_eq ?_).map kvS
    unfold delV
    refine List.filter_congr fun x _ => ?_
    simp only [Function.comp, kvS]
    rw [Bool.eq_iff_iff]
    simp [mkS_inj]
  rcases findNow_spec hkey es.toList 0 r.isKey with ⟨h1, h2⟩ | ⟨j, e, h1, h2, h3⟩
  · refine ⟨setBlock w b (.map es clock), ?_, ⟨_, _, setB_at hlt, r.st, ?_⟩, setB_grown, setB_size⟩
    · simp [Builtin.delete_, run_underlying hT, MapKept.run_getObj_map hb, run_checkKey hK hkey, run_findKey hK h1, MapKept.run_setObj_map _ hb, Result.andThen, setBlock]
    · rw [List.filter_eq_self.2 (fun x hx => by
        obtain ⟨y, hy, rfl⟩ := List.mem_map.1 hx
        simp only [decide_eq_true_eq]
        exact h2 y hy)] at q0
      exact q0
  · have hjl : j < es.toList.length := (List.getElem?_eq_some_iff.1 h2).1
    have hjs : j < es.size := by simpa using hjl
    have hsub : (es.eraseIdxIfInBounds j).toList = es.toList.eraseIdx j := by
      unfold Array.eraseIdxIfInBounds
      rw [dif_pos hjs]
      simp
    have q2 : es.toList.Perm (e :: es.toList.eraseIdx j) := by
      have q5 := ChangeMaps.set_perm es.toList j hjl e
      have q6 : es.toList.set j e = es.toList := by
        rw [List.getElem?_eq_getElem hjl] at h2
        injection h2 with h2
        rw [← h2, List.set_getElem_self]
      rw [q6] at q5
      exact q5
    refine ⟨setBlock w b (.map (es.eraseIdxIfInBounds j) clock), ?_, ⟨_, _, setB_at hlt, stamped_erase r.st j, ?_⟩, setB_grown, setB_size⟩
    · simp [Builtin.delete_, run_underlying hT, MapKept.run_getObj_map hb, run_checkKey hK hkey, run_findKey hK h1, MapKept.run_setObj_map _ hb, Result.andThen, setBlock]
    · rw [hsub]
      have a1 : ∀ x ∈ es.toList.eraseIdx j, e.key ≠ x.key := by
        have := (q2.pairwise_iff (R := fun x y : MapEntry => x.key ≠ y.key) (fun {a b} h => Ne.symm h)).1 r.apart
        rw [List.pairwise_cons] at this
        exact this.1
      have q3 := ((q2.map kvE).filter (fun x => decide (x.1 ≠ Value.string (mkS p))))
      have q7 : ((es.toList.eraseIdx j).map kvE).filter (fun x => decide (x.1 ≠ Value.string (mkS p))) = (es.toList.eraseIdx j).map kvE := List.filter_eq_self.2 (fun x hx => by
        obtain ⟨y, hy, rfl⟩ := List.mem_map.1 hx
        simp only [decide_eq_true_eq]
        intro e3
        exact a1 y hy (by rw [h3]; exact e3.symm))
      rw [List.map_cons, List.filter_cons_of_neg (by simp [kvE, h3]), q7] at q3
      exact q3.symm.trans q0
omit hK in
theorem run_len8 {ty : TypeId} (h : MpB w b l) : (Builtin.len_ #[T] ty #[.map (some b)]).run P w = .ok (.int .i64 (l.length : Int)) w := by
  obtain ⟨es, clock, hb, r⟩ := h
  simp [Builtin.len_, goInt, run_underlying hT, MapKept.run_getObj_map hb, Result.andThen, r.size]
end
end Go.Proofs.YtjglgohchhdkkaaGreatDoor
/- A range over a map from strings: each of its entries once, in whatever order; the walk's laws at the operations on maps. -/
namespace Go.Proofs.YtjglgohchhdkkaaGreatDoor
open Go Go.RowKit Go.MapKept
open Go.ChangeMaps (setBlock)

/-- A range over the map in block b, its iterator in block r: these are still to come. -/
def RngB (w : World) (b r : Nat) (l todo : List (S8 × Value)) : Prop :=
  ∃ es clock since seen c0, w.heap[b]? = some (.map es clock) ∧ MpOk es clock l ∧ w.heap[r]? = some (.mapIter (some b) since seen c0) ∧ (∀ x ∈ es.toList, x.born < since) ∧ since ≤ c0 ∧ since ≤ clock ∧ ((leftOf es seen).toList.map kvE).Perm (todo.map kvS)
theorem leftOf_list (es : Array MapEntry) (seen : Array Nat) : (leftOf es seen).toList = es.toList.filter fun e => !seen.contains e.born := by simp [leftOf]
section
variable {w w' : World} {b r : Nat} {l todo : List (S8 × Value)}
theorem RngB.map (h : RngB w b r l todo) : MpB w b l := by
  obtain ⟨es, clock, _, _, _, hb, h1, _⟩ := h
  exact ⟨es, clock, hb, h1⟩
theorem RngB.ne (h : RngB w b r l todo) : r ≠ b := by
  obtain ⟨es, clock, since, seen, c0, hb, _, hr, _⟩ := h
  intro e
  rw [e, hb] at hr
  cases hr
theorem RngB.lt (h : RngB w b r l todo) : r < w.heap.size := by
  obtain ⟨es, clock, since, seen, c0, hb, _, hr, _⟩ := h
  exact (Array.getElem?_eq_some_iff.1 hr).1
theorem RngB.left (h : RngB w b r l todo) : w.rangeLeft b r = todo.length := by
  obtain ⟨es, clock, since, seen, c0, hb, _, hr, _, _, _, hp⟩ := h
  simp only [World.rangeLeft, hb, hr]
  have := hp.length_eq
  simpa using this
theorem RngB.keep (h : RngB w b r l todo) (hb : w'.heap[b]? = w.heap[b]?) (hr : w'.heap[r]? = w.heap[r]?) : RngB w' b r l todo := by
  obtain ⟨es, clock, since, seen, c0, h1, h2, h3, h4⟩ := h
  exact ⟨es, clock, since, seen, c0, by rw [hb]; exact h1, h2, by rw [hr]; exact h3, h4⟩
theorem RngB.of_below (h : RngB w b r l todo) (hB : Below w.heap.size w w') : RngB w' b r l todo := h.keep (hB.block b h.map.lt) (hB.block r h.lt)
theorem RngB.of_perm (h : RngB w b r l todo) {l' : List (S8 × Value)} (hp : l.Perm l') : RngB w b r l' todo := by
  obtain ⟨es, clock, since, seen, c0, h1, h2, h3⟩ := h
  exact ⟨es, clock, since, seen, c0, h1, h2.of_perm hp, h3⟩
end
section
variable {P : Program} {T K E : TypeId} (hT : P.underlying T = some (.map K E)) (hK : P.underlying K = some .string)
variable {w : World} {b r : Nat} {l todo : List (S8 × Value)}
include hT
theorem run_range8 (h : MpB w b l) : ∃ w', (Instr.range T (.map (some b))).run P w = .ok (.pointer (some ⟨w.heap.size, 0, none⟩)) w' ∧ RngB w' b w.heap.size l l ∧ Below w.heap.size w w' ∧ w'.heap.size = w.heap.size + 1 := by
  have hlt := h.lt
  obtain ⟨es, clock, hb, h1⟩ := h
  refine ⟨_, run_range_map w T K E b es clock hT hb, ⟨es, clock, clock, #[], clock, ((MapKept.heap_alloc w _).2 b hlt).trans hb, h1, (MapKept.heap_alloc w _).1, h1.old, Nat.le_refl _, Nat.le_refl _, ?_⟩, (Below.refl _ _).alloc (Nat.le_refl _) _, by simp⟩
  rw [leftOf_list, List.filter_eq_self.2 (fun x _ => by simp)]
  exact h1.kv
omit hT
theorem run_next8 (ty : TypeId) (h : RngB w b r l todo) :
    (todo = [] ∧ (Instr.next (.pointer (some ⟨r, 0, none⟩)) false ty).run P w = .ok (.tuple #[.bool false]) w) ∨
    ∃ p v todo' w', todo.Perm ((p, v) :: todo') ∧ (p, v) ∈ l ∧ (Instr.next (.pointer (some ⟨r, 0, none⟩)) false ty).run P w = .ok (.tuple #[.bool true, .string (mkS p), v]) w' ∧ RngB w' b r l todo' ∧
      (Instr.entry (.pointer (some ⟨r, 0, none⟩))).run P w' = .ok (.tuple #[.string (mkS p), v]) w' ∧ w.grownBy w' (some r) ∧ w'.heap.size = w.heap.size := by
  have hne := h.ne
  obtain ⟨es, clock, since, seen, c0, hb, h1, hr, hold, hsc, hsk, hp⟩ := h
  rcases run_next_at (P := P) w ty r b since c0 seen es clock hr hb hold hsc with ⟨h0, hrun⟩ | ⟨e, he, w1, hal, hrun⟩
  · refine Or.inl ⟨?_, hrun⟩
    have := hp.length_eq
    simp only [List.length_map, Array.length_toList] at this
    exact List.eq_nil_of_length_eq_zero (by omega)
  · obtain ⟨hem, hes⟩ := mem_left he
    obtain ⟨p, v, hm, ek, ev⟩ := h1.mem hem
    have hr1 : w1.heap[r]? = some (.mapIter (some b) since seen c0) := by rcases hal with rfl | rfl <;> exact hr
    have hb1 : w1.heap[b]? = some (.map es clock) := by rcases hal with rfl | rfl <;> exact hb
    have hset := heap_set (o' := .mapIter (some b) since (seen.push e.born) clock) hr1
    have hb' : (setBlock w1 r (.mapIter (some b) since (seen.push e.born) clock)).heap[b]? = some (.map es clock) := (hset.2 b (fun e1 => hne e1.symm)).trans hb1
    have hin : kvE e ∈ todo.map kvS := hp.mem_iff.1 (List.mem_map.2 ⟨e, he, rfl⟩)
    obtain ⟨x, hx, ex⟩ := List.mem_map.1 hin
    have hxe : x = (p, v) := by
      rw [kvS, kvE, Prod.mk.injEq, ek, ev] at ex
      have : x.1 = p := keyV_inj.1 ex.1
      exact Prod.ext this ex.2
    subst hxe
    obtain ⟨todo', ht⟩ := List.append_of_mem hx
    obtain ⟨t2, ht⟩ := ht
    have hperm : todo.Perm ((p, v) :: (todo' ++ t2)) := by rw [ht]; exact List.perm_middle
    have hlp : (leftOf es seen).toList.Perm (e :: (leftOf es (seen.push e.born)).toList) := by
      rw [leftOf_list, leftOf_list]
      have hnd : ∀ (L : List MapEntry), (L.map (·.born)).Nodup → e ∈ L → (L.filter fun x => !seen.contains x.born).Perm (e :: L.filter fun x => !(seen.push e.born).contains x.born) := by
        intro L
        induction L with
        | nil => intro _ h; exact absurd h (by simp)
        | cons y r ih =>
          intro hn hy
          rw [List.map_cons, List.nodup_cons] at hn
          rcases List.mem_cons.1 hy with rfl | hy
          · rw [List.filter_cons_of_pos (by rw [hes]; rfl), List.filter_cons_of_neg (by rw [contains_push]; simp)]
            refine List.Perm.cons _ (List.Perm.of_eq (List.filter_congr fun z hz => ?_))
            rw [contains_push]
            have : (z.born == e.born) = false := by
              rw [beq_eq_false_iff_ne]
              intro e9
              exact hn.1 (by rw [← e9]; exact List.mem_map.2 ⟨z, hz, rfl⟩)
            rw [this]
            simp
          · have hyb : (y.born == e.born) = false := by
              rw [beq_eq_false_iff_ne]
              intro e9
              exact hn.1 (by rw [e9]; exact List.mem_map.2 ⟨e, hy, rfl⟩)
            rw [List.filter_cons, List.filter_cons, contains_push, hyb]
            cases hs : seen.contains y.born
            · simp only [Bool.not_false, if_true, Bool.or_false]
              exact ((ih hn.2 hy).cons y).trans (List.Perm.swap _ _ _)
            · simp only [Bool.not_true, Bool.false_eq_true, if_false, Bool.or_false, Bool.true_or, Bool.not_true]
              exact ih hn.2 hy
      exact hnd es.toList h1.born hem
    have hrest : ((leftOf es (seen.push e.born)).toList.map kvE).Perm ((todo' ++ t2).map kvS) := by
      have q1 := (hlp.map kvE).symm.trans (hp.trans (hperm.map kvS))
      rw [List.map_cons, List.map_cons] at q1
      have e3 : kvE e = kvS (p, v) := by rw [kvE, kvS, ek, ev]
      rw [e3] at q1
      exact q1.cons_inv
    refine Or.inr ⟨p, v, todo' ++ t2, _, hperm, hm, by rw [ek, ev] at hrun; exact hrun, ⟨es, clock, since, seen.push e.born, clock, hb', h1, hset.1, hold, hsk, hsk, hrest⟩, by rw [← ek, ← ev]; exact run_entry_at _ r b since seen es clock e hset.1 hb' hem h1.born, ?_, ?_⟩
    · rcases hal with rfl | rfl <;> exact ⟨rfl, rfl, rfl, by simp [setBlock], fun i _ hi => hset.2 i (fun e1 => hi (by rw [e1]))⟩
    · rcases hal with rfl | rfl <;> simp [setBlock]
include hT hK
/-- An entry that has come is deleted. -/
theorem run_drop8 {ty : TypeId} (h : RngB w b r l todo) (p : S8) (hp : ∀ x ∈ todo, x.1 ≠ p) : ∃ w', (Builtin.delete_ #[T, K] ty #[.map (some b), .string (mkS p)]).run P w = .ok (.tuple #[]) w' ∧ RngB w' b r (delV l p) todo ∧ w.grownBy w' (some b) ∧ w'.heap.size = w.heap.size := by
  have hm := h.map
  have hne := h.ne
  have hlt := hm.lt
  obtain ⟨es, clock, since, seen, c0, hb, h1, hr, hold, hsc, hsk, hl⟩ := h
  have hkey : IsKey .string (.string (mkS p)) := trivial
  obtain ⟨w', hrun, ⟨es2, clock2, hb2, h2⟩, hg, hs⟩ := run_delete8 hT hK (ty := ty) hm p
  refine ⟨w', hrun, ?_, hg, hs⟩
  have hr2 : w'.heap[r]? = some (.mapIter (some b) since seen c0) := by rw [hg.block r ((Array.getElem?_eq_some_iff.1 hr).1) (by simpa using hne)]; exact hr
  rcases findNow_spec hkey es.toList 0 h1.isKey with ⟨g1, g2⟩ | ⟨j, e, g1, g2, g3⟩
  · have hrun2 : (Builtin.delete_ #[T, K] ty #[.map (some b), .string (mkS p)]).run P w = .ok (.tuple #[]) (setBlock w b (.map es clock)) := by
      simp [Builtin.delete_, run_underlying hT, MapKept.run_getObj_map hb, run_checkKey hK hkey, run_findKey hK g1, MapKept.run_setObj_map _ hb, Result.andThen, setBlock]
    rw [hrun] at hrun2
    injection hrun2 with _ hrun2
    subst hrun2
    rw [setB_at hlt] at hb2
    injection hb2 with hb2
    injection hb2 with e1 e2
    subst e1 e2
    exact ⟨es, clock, since, seen, c0, setB_at hlt, h2, hr2, hold, hsc, hsk, hl⟩
  · have hjl : j < es.toList.length := (List.getElem?_eq_some_iff.1 g2).1
    have hjs : j < es.size := by simpa using hjl
    have hrun2 : (Builtin.delete_ #[T, K] ty #[.map (some b), .string (mkS p)]).run P w = .ok (.tuple #[]) (setBlock w b (.map (es.eraseIdxIfInBounds j) clock)) := by
      simp [Builtin.delete_, run_underlying hT, MapKept.run_getObj_map hb, run_checkKey hK hkey, run_findKey hK g1, MapKept.run_setObj_map _ hb, Result.andThen, setBlock]
    rw [hrun] at hrun2
    injection hrun2 with _ hrun2
    subst hrun2
    rw [setB_at hlt] at hb2
    injection hb2 with hb2
    injection hb2 with e1 e2
    subst e1 e2
    have hsub : (es.eraseIdxIfInBounds j).toList = es.toList.eraseIdx j := by
      unfold Array.eraseIdxIfInBounds
      rw [dif_pos hjs]
      simp
    refine ⟨_, clock, since, seen, c0, setB_at hlt, h2, hr2, fun x hx => hold x (by rw [hsub] at hx; exact (List.eraseIdx_sublist _ _).subset hx), hsc, hsk, ?_⟩
    have q2 : es.toList.Perm (e :: es.toList.eraseIdx j) := by
      have q5 := ChangeMaps.set_perm es.toList j hjl e
      have q6 : es.toList.set j e = es.toList := by
        rw [List.getElem?_eq_getElem hjl] at g2
        injection g2 with g2
        rw [← g2, List.set_getElem_self]
      rw [q6] at q5
      exact q5
    have hseen : seen.contains e.born = true := by
      cases hc : seen.contains e.born
      · exfalso
        have he : e ∈ (leftOf es seen).toList := by
          rw [leftOf_list, List.mem_filter]
          exact ⟨List.mem_of_getElem? g2, by rw [hc]; rfl⟩
        have hin : kvE e ∈ todo.map kvS := hl.mem_iff.1 (List.mem_map.2 ⟨e, he, rfl⟩)
        obtain ⟨x, hx, ex⟩ := List.mem_map.1 hin
        rw [kvS, kvE, Prod.mk.injEq, g3] at ex
        exact hp x hx (keyV_inj.1 ex.1)
      · rfl
    rw [leftOf_list, hsub]
    rw [leftOf_list] at hl
    have q7 := (q2.filter (fun e => !seen.contains e.born))
    rw [List.filter_cons_of_neg (by rw [hseen]; decide)] at q7
    exact (q7.symm.map kvE).trans hl
end
section
variable {P : Program} (w : World) {ops : Array Oper} {rest : List Oper} {o : Oper} {a : Go.Act} {Q : Exit → Go.Act → World → Prop} {T K E : TypeId} {b r : Nat} {l todo : List (S8 × Value)}
theorem wpl_range8 (hg : o.guard = none) (m : Operand) (hop : o.op = Op.range T m) (hT : P.underlying T = some (.map K E)) (hm : a.eval m = .map (some b)) (h : MpB w b l)
    (hQ : ∀ w', RngB w' b w.heap.size l l → Below w.heap.size w w' → w'.heap.size = w.heap.size + 1 → wpList P ops Q rest (a.put o.dst (.pointer (some ⟨w.heap.size, 0, none⟩))) w') : wpList P ops Q (o :: rest) a w := by
  refine wpList_plain hg fun K' hK' => ?_
  obtain ⟨w', hrun, r1, r2, r3⟩ := run_range8 (P := P) hT h
  unfold Oper.wp
  simp [execOp, hop, hm, hrun, Result.andThen]
  exact hK' _ _ (hQ w' r1 r2 r3)
theorem wpl_next8 (hg : o.guard = none) (it : Operand) (hop : o.op = Op.next it false) (hit : a.eval it = .pointer (some ⟨r, 0, none⟩)) (h : RngB w b r l todo)
    (hD : todo = [] → wpList P ops Q rest (a.put o.dst (.tuple #[.bool false])) w)
    (hM : ∀ p v todo' w', todo.Perm ((p, v) :: todo') → (p, v) ∈ l → RngB w' b r l todo' → (Instr.entry (.pointer (some ⟨r, 0, none⟩))).run P w' = .ok (.tuple #[.string (mkS p), v]) w' → w.grownBy w' (some r) → w'.heap.size = w.heap.size → wpList P ops Q rest (a.put o.dst (.tuple #[.bool true, .string (mkS p), v])) w') : wpList P ops Q (o :: rest) a w := by
  refine wpList_plain hg fun K' hK' => ?_
  unfold Oper.wp
  rcases run_next8 (P := P) o.type h with ⟨h0, hrun⟩ | ⟨p, v, todo', w', h1, h2, hrun, h3, h4, h5, h6⟩
  · simp [execOp, hop, hit, hrun, Result.andThen]
    exact hK' _ _ (hD h0)
  · simp [execOp, hop, hit, hrun, Result.andThen]
    exact hK' _ _ (hM p v todo' w' h1 h2 h3 h4 h5 h6)
theorem wpl_drop8 (hg : o.guard = none) (m x : Operand) (hop : o.op = Op.call { callee := Callee.builtin Builtin.delete, args := #[m, x], argTypes := #[T, K] }) (hT : P.underlying T = some (.map K E)) (hK : P.underlying K = some .string)
    (hm : a.eval m = .map (some b)) (h : RngB w b r l todo) (p : S8) (hx : a.eval x = .string (mkS p)) (hp : ∀ x ∈ todo, x.1 ≠ p)
    (hQ : ∀ w', RngB w' b r (delV l p) todo → w.grownBy w' (some b) → w'.heap.size = w.heap.size → wpList P ops Q rest (a.put o.dst (.tuple #[])) w') : wpList P ops Q (o :: rest) a w := by
  refine wpList_plain hg fun K' hK' => ?_
  obtain ⟨w', hrun, r1, r2, r3⟩ := run_drop8 (P := P) hT hK (ty := o.type) h p hp
  unfold Oper.wp
  simp [execOp, hop, resolve, invoke, builtin, hm, hx, hrun, Result.andThen]
  exact hK' _ _ (hQ w' r1 r2 r3)
theorem wpl_delete8 (hg : o.guard = none) (m x : Operand) (hop : o.op = Op.call { callee := Callee.builtin Builtin.delete, args := #[m, x], argTypes := #[T, K] }) (hT : P.underlying T = some (.map K E)) (hK : P.underlying K = some .string)
    (hm : a.eval m = .map (some b)) (h : MpB w b l) (p : S8) (hx : a.eval x = .string (mkS p))
    (hQ : ∀ w', MpB w' b (delV l p) → w.grownBy w' (some b) → w'.heap.size = w.heap.size → wpList P ops Q rest (a.put o.dst (.tuple #[])) w') : wpList P ops Q (o :: rest) a w := by
  refine wpList_plain hg fun K' hK' => ?_
  obtain ⟨w', hrun, r1, r2, r3⟩ := run_delete8 (P := P) hT hK (ty := o.type) h p
  unfold Oper.wp
  simp [execOp, hop, resolve, invoke, builtin, hm, hx, hrun, Result.andThen]
  exact hK' _ _ (hQ w' r1 r2 r3)
theorem wpl_update8 (hg : o.guard = none) (m x v : Operand) (hop : o.op = Op.mapUpdate T m x v) (hT : P.underlying T = some (.map K E)) (hK : P.underlying K = some .string)
    (hm : a.eval m = .map (some b)) (h : MpB w b l) (p : S8) (hx : a.eval x = .string (mkS p)) (val : Value) (hv : a.eval v = val)
    (hQ : ∀ w', MpB w' b (putV l p val) → w.grownBy w' (some b) → w'.heap.size = w.heap.size → wpList P ops Q rest (a.put o.dst undef) w') : wpList P ops Q (o :: rest) a w := by
  refine wpList_plain hg fun K' hK' => ?_
  obtain ⟨w', hrun, r1, r2, r3⟩ := run_update8 (P := P) hT hK h p val
  unfold Oper.wp
  simp [execOp, hop, hm, hx, hv, hrun, Result.andThen]
  exact hK' _ _ (hQ w' r1 r2 r3)
end
end Go.Proofs.YtjglgohchhdkkaaGreatDoor
/- Files as the entries of a map. -/
namespace Go.Proofs.YtjglgohchhdkkaaGreatDoor
open Go Go.RowKit

/-- Where bytes lie. -/
structure Hn where
  q : Option Addr
  n : Nat
  c : Nat
/-- A file as a value: its stamp and where its bytes lie. -/
def fileC (sl : Nat → Hn) (f : Fl) : Array Value := #[.int .i64 f.size, .int .i64 f.time, .int .i64 f.chg, .slice (sl f.body).q (sl f.body).n (sl f.body).c]
def fileV (sl : Nat → Hn) (f : Fl) : Value := .agg (fileC sl f)
def entV (sl : Nat → Hn) (f : Fl) : S8 × Value := (f.p, fileV sl f)
section
variable (sl : Nat → Hn) (l : List Fl)
theorem findV_ent (p : S8) : findV (l.map (entV sl)) p = (findL l p).map fun i => fileV sl (l.getD i fl0) := by
  induction l with
  | nil => rfl
  | cons x r ih =>
    have e2 : findL (x :: r) p = if x.p == p then some 0 else (findL r p).map (· + 1) := by
      unfold findL
      rw [List.findIdx?_cons]
    have e1 : findV (entV sl x :: r.map (entV sl)) p = if x.p == p then some (fileV sl x) else findV (r.map (entV sl)) p := by
      unfold findV
      rw [List.find?_cons]
      show Option.map _ (match x.p == p with | true => some (entV sl x) | false => _) = _
      cases x.p == p <;> rfl
    rw [List.map_cons, e1, e2]
    by_cases h : (x.p == p) = true
    · rw [if_pos h, if_pos h]
      rfl
    · rw [if_neg h, if_neg h, ih]
      cases findL r p <;> rfl
theorem delV_ent (p : S8) : delV (l.map (entV sl)) p = (withoutL l p false).map (entV sl) := by
  unfold delV withoutL
  rw [List.filter_map]
  refine congrArg (List.map (entV sl)) (List.filter_congr fun f _ => ?_)
  simp [entV]
theorem putV_ent (p : S8) (f : Fl) (hf : f.p = p) : (putV ((l.map (entV sl)).filter fun x => !clashL x.1 p) p (fileV sl f)).Perm ((withoutL l p true ++ [f]).map (entV sl)) := by
  unfold putV
  have e : delV ((l.map (entV sl)).filter fun x => !clashL x.1 p) p = (withoutL l p true).map (entV sl) := by
    unfold delV withoutL
    rw [List.filter_filter, List.filter_map]
    refine congrArg (List.map (entV sl)) (List.filter_congr fun x _ => ?_)
    simp [entV]
  rw [e, List.map_append, List.map_cons, List.map_nil]
  have : entV sl f = (p, fileV sl f) := by unfold entV; rw [hf]
  rw [this]
  exact (List.perm_append_singleton _ _).symm
end
/-- The paths in a list are each there once. -/
def OnceF (l : List Fl) : Prop := (l.map Fl.p).Nodup
theorem MpB.once {w : World} {b : Nat} {sl : Nat → Hn} {l : List Fl} (h : MpB w b (l.map (entV sl))) : OnceF l := by
  have := h.keys
  rw [List.map_map] at this
  exact this
theorem fileV_eq (sl : Nat → Hn) (f : Fl) (p : S8) : fileV sl { f with p := p } = fileV sl f := rfl
/-- The sum of the sizes. -/
def sizeSum (l : List Fl) : Int := (l.map Fl.size).sum
theorem clashes_any_of (l : List Fl) (p but : S8) : clashesL l p but = (l.any fun f => f.p != but && clashL f.p p) := rfl
end Go.Proofs.YtjglgohchhdkkaaGreatDoor
/- strings.LastIndexByte at "/"; HasPrefix, CutPrefix. -/
namespace Go.Proofs.YtjglgohchhdkkaaGreatDoor
open Go Go.RowKit

set_option maxHeartbeats 1000000 in
theorem prefix_in (s t : S8) (w : World) : Calls Tryz.prog 109 #[.string (mkS s), .string (mkS t)] w fun e w' => e = .returned (.bool (startsL s t)) ∧ w = w' := by
  by_cases h : t.length ≤ s.length
  · have h1 : (t.length : Int) ≤ (s.length : Int) := by omega
    have h2 : decide ((t.length : Int) ≤ (s.length : Int)) = true := decide_eq_true h1
    have HS := Lib.hid (show startsL s t = (s.take t.length == t) from by unfold startsL; rw [decide_eq_true h]; rfl)
    go_enter Tryz.func109, Tryz.ntmps109
    go_wp2
    go_ret
    exact ⟨by rw [HS.out]; rfl, rfl⟩
  · have h1 : ¬ (t.length : Int) ≤ (s.length : Int) := by omega
    have h2 : decide ((t.length : Int) ≤ (s.length : Int)) = false := decide_eq_false h1
    have HS := Lib.hid (show startsL s t = false from by unfold startsL; rw [decide_eq_false h]; rfl)
    go_enter Tryz.func109, Tryz.ntmps109
    go_wp2
    go_ret
    exact ⟨by rw [HS.out]; rfl, rfl⟩
/-- What is behind a beginning, and whether there is that beginning. -/
def behindL (s t : S8) : S8 := if startsL s t then s.drop t.length else s
set_option maxHeartbeats 1000000 in
theorem cutPrefix_in (s t : S8) (w : World) : Calls Tryz.prog 95 #[.string (mkS s), .string (mkS t)] w fun e w' => e = .returned (.tuple #[.string (mkS (behindL s t)), .bool (startsL s t)]) ∧ w = w' := by
  have HC := Lib.hid (prefix_in s t w)
  have hle : startsL s t = true → t.length ≤ s.length := fun h => by unfold startsL at h; rw [Bool.and_eq_true, decide_eq_true_eq] at h; exact h.1
  have HB := Lib.hid (show behindL s t = if startsL s t then s.drop t.length else s from rfl)
  obtain ⟨x, hx⟩ : ∃ x, behindL s t = x := ⟨_, rfl⟩
  rw [hx] at HB ⊢
  clear hx
  generalize startsL s t = b at *
  cases b with
  | true =>
    have hl := hle rfl
    obtain rfl : x = s.drop t.length := by rw [HB.out]; rfl
    have h1 : (t.length : Int) ≤ (s.length : Int) := by omega
    clear hle
    go_enter Tryz.func95, Tryz.ntmps95
    go_wp2_with fail
    refine HC.out.mono ?_
    rintro e w' ⟨rfl, rfl⟩
    go_wp2
    go_ret2
    exact ⟨rfl, rfl⟩
  | false =>
    obtain rfl : x = s := by rw [HB.out]; rfl
    clear hle
    go_enter Tryz.func95, Tryz.ntmps95
    go_wp2_with fail
    refine HC.out.mono ?_
    rintro e w' ⟨rfl, rfl⟩
    go_wp2
    go_ret2
    exact ⟨rfl, rfl⟩
set_option maxHeartbeats 1000000 in
theorem cutPrefix_any (s t : S8) (w : World) : Calls Tryz.prog 79 #[.string (mkS s), .string (mkS t)] w fun e w' => e = .returned (.tuple #[.string (mkS (behindL s t)), .bool (startsL s t)]) ∧ w = w' := by
  have HC := Lib.hid (cutPrefix_in s t w)
  generalize startsL s t = b at *
  generalize behindL s t = x at *
  go_enter Tryz.func79, Tryz.ntmps79
  go_wp2_with fail
  refine HC.out.mono ?_
  rintro e w' ⟨rfl, rfl⟩
  go_wp2
  go_ret2
  exact ⟨rfl, rfl⟩
end Go.Proofs.YtjglgohchhdkkaaGreatDoor
/- In, Clash. -/
namespace Go.Proofs.YtjglgohchhdkkaaGreatDoor
open Go Go.RowKit

theorem starts_parts {s d : S8} (h : startsL s d = true) : s = d ++ s.drop d.length := by
  unfold startsL at h
  rw [Bool.and_eq_true, beq_iff_eq] at h
  conv => lhs; rw [← List.take_append_drop d.length s, h.2]
theorem inL_parts (s d : S8) : inL s d = (startsL s d && (decide (1 < (s.drop d.length).length) && (chr (s.drop d.length) 0 == 47))) := by
  cases h : startsL s d with
  | true =>
    rw [Bool.true_and]
    have e := starts_parts h
    generalize s.drop d.length = t at *
    subst e
    unfold inL
    cases t with
    | nil => rw [decide_eq_false (by simp), decide_eq_false (by simp)]; rfl
    | cons c r =>
      have e1 : (d ++ c :: r).take (d.length + 1) = d ++ [c] := by
        simp [List.take_append, List.take_of_length_le]
      rw [e1]
      have hc : chr (c :: r) 0 = c.toNat := by rw [chr_eq (by simp)]; rfl
      rw [hc]
      have e2 : decide (d.length + 1 < (d ++ c :: r).length) = decide (1 < (c :: r).length) := by
        congr 1
        simp
      rw [e2]
      congr 1
      by_cases h47 : c = 47
      · subst h47; simp
      · have : ¬ c.toNat = 47 := fun e => h47 (UInt8.toNat_inj.1 e)
        rw [beq_eq_false_iff_ne.2 this]
        exact beq_eq_false_iff_ne.2 (fun e => h47 (by simpa using e))
  | false =>
    rw [Bool.false_and]
    unfold inL
    by_cases hl : d.length + 1 < s.length
    · rw [decide_eq_true hl, Bool.true_and]
      refine beq_eq_false_iff_ne.2 fun e => ?_
      have : startsL s d = true := by
        unfold startsL
        rw [decide_eq_true (by omega), Bool.true_and, beq_iff_eq]
        have := congrArg (List.take d.length) e
        rw [List.take_take, List.take_left] at this
        rwa [Nat.min_eq_left (by omega)] at this
      rw [this] at h; cases h
    · rw [decide_eq_false hl]; rfl
set_option maxHeartbeats 1000000 in
theorem lies_any (s d : S8) (w : World) (hs : s.length < 100000) (hd : d.length < 100000) : Calls Tryz.prog 67 #[.string (mkS s), .string (mkS d)] w fun e w' => Gives (.bool (inL s d)) w e w' := by
  have HC := Lib.hid (cutPrefix_any s d w)
  have HP := Lib.hid (inL_parts s d)
  have HB := Lib.hid (show behindL s d = if startsL s d then s.drop d.length else s from rfl)
  have hlen : (s.drop d.length).length ≤ s.length := by rw [List.length_drop]; omega
  generalize behindL s d = x at *
  generalize s.drop d.length = t at *
  generalize inL s d = v at *
  generalize startsL s d = b at *
  cases b with
  | false =>
    obtain rfl : v = false := by rw [HP.out]; rfl
    go_enter Tryz.func67, Tryz.ntmps67
    go_wp2_with fail
    refine HC.out.mono ?_
    rintro e w' ⟨rfl, rfl⟩
    go_wp2
    go_ret
    exact ⟨rfl, Below.refl _ _⟩
  | true =>
    obtain rfl : x = t := by rw [HB.out]; rfl
    by_cases h1 : 1 < x.length
    · have z1 : (1 : Int) < (x.length : Int) := by omega
      have z2 : decide ((1 : Int) < (x.length : Int)) = true := decide_eq_true z1
      have hix : ∀ u, (Instr.index 9 (.string (mkS x)) (.int .i64 0)).run Tryz.prog u = .ok (.int .u8 (chr x 0 : Int)) u := fun u => ix_S x 0 u (by omega)
      have HP2 := Lib.hid (show v = (chr x 0 == 47) from by rw [HP.out, decide_eq_true h1, Bool.true_and, Bool.true_and])
      clear HP
      generalize chr x 0 = c at *
      by_cases h47 : c = 47
      · subst h47
        obtain rfl : v = true := by rw [HP2.out]; rfl
        go_enter Tryz.func67, Tryz.ntmps67
        go_wp2_with fail
        refine HC.out.mono ?_
        rintro e w' ⟨rfl, rfl⟩
        go_wp2
        go_ret
        exact ⟨rfl, Below.refl _ _⟩
      · have hz : ((c : Int) == 47) = false := by simp; omega
        obtain rfl : v = false := by rw [HP2.out]; simpa using h47
        go_enter Tryz.func67, Tryz.ntmps67
        go_wp2_with fail
        refine HC.out.mono ?_
        rintro e w' ⟨rfl, rfl⟩
        go_wp2
        go_ret
        exact ⟨rfl, Below.refl _ _⟩
    · have z1 : ¬ (1 : Int) < (x.length : Int) := by omega
      have z2 : decide ((1 : Int) < (x.length : Int)) = false := decide_eq_false z1
      obtain rfl : v = false := by rw [HP.out, decide_eq_false h1]; rfl
      go_enter Tryz.func67, Tryz.ntmps67
      go_wp2_with fail
      refine HC.out.mono ?_
      rintro e w' ⟨rfl, rfl⟩
      go_wp2
      go_ret
      exact ⟨rfl, Below.refl _ _⟩
set_option maxHeartbeats 1000000 in
theorem clash_any (a b : S8) (w : World) (ha : a.length < 100000) (hb : b.length < 100000) : Calls Tryz.prog 53 #[.string (mkS a), .string (mkS b)] w fun e w' => Gives (.bool (inL a b || inL b a)) w e w' := by
  have H1 := Lib.hid (lies_any a b w ha hb)
  have H2 := Lib.hid (fun u => lies_any b a u hb ha)
  generalize inL a b = x at *
  generalize inL b a = y at *
  cases x with
  | true =>
    go_enter Tryz.func53, Tryz.ntmps53
    go_wp2_with fail
    refine H1.out.mono ?_
    rintro e w1 ⟨rfl, hB⟩
    have HB := Lib.hid hB
    clear hB H1
    go_wp2
    go_ret
    exact ⟨rfl, HB.out⟩
  | false =>
    go_enter Tryz.func53, Tryz.ntmps53
    go_wp2_with fail
    refine H1.out.mono ?_
    rintro e w1 ⟨rfl, hB⟩
    have HB := Lib.hid hB
    clear hB H1
    go_wp2_with fail
    refine (H2.out _).mono ?_
    rintro e w2 ⟨rfl, hB⟩
    have HB2 := Lib.hid (HB.out.trans (hB.mono HB.out.size))
    clear hB H2
    go_wp2
    go_ret
    exact ⟨rfl, HB2.out⟩
end Go.Proofs.YtjglgohchhdkkaaGreatDoor
/- The program's put: what clashes is removed, then the file is laid into the map. -/
namespace Go.Proofs.YtjglgohchhdkkaaGreatDoor
open Go Go.RowKit

theorem mapT : Tryz.prog.underlying 48 = some (.map 9 74) := by kernel_rfl
set_option maxHeartbeats 1000000 in
/-- The closure that says which are to be removed. -/
theorem putC_any (other p : S8) (a t c : Int) (q : Option Addr) (n k : Nat) (bx : Nat) (w : World) (hb : w.cell? ⟨bx, 0, none⟩ = some (.string (mkS p))) (ho : other.length < 100000) (hp : p.length < 100000) :
    Calls Tryz.prog 62 #[.string (mkS other), .agg #[.int .i64 a, .int .i64 t, .int .i64 c, .slice q n k], .pointer (some ⟨bx, 0, none⟩)] w fun e w' => e = .returned (.bool (clashL other p)) ∧ Below w.heap.size w w' := by
  have hbl := World.block_lt_of_cell? w _ hb
  have HC := Lib.hid (fun u => clash_any other p u ho hp)
  have hB := (Below.refl w.heap.size w).alloc (Nat.le_refl _) (.cells #[.int .i64 a, .int .i64 t, .int .i64 c, .slice q n k] 74)
  have HB := Lib.hid hB
  have hb2 := (hB.cell hbl).trans hb
  have HR := Lib.hid (show clashL other p = (inL other p || inL p other) from rfl)
  generalize clashL other p = r at *
  clear hB
  go_enter Tryz.func62, Tryz.ntmps62
  go_wp2_with fail
  refine (HC.out _).mono ?_
  rintro e w2 ⟨rfl, hB2⟩
  have HB2 := Lib.hid (HB.out.trans (hB2.mono HB.out.size))
  clear hB2
  go_wp2
  go_ret
  exact ⟨by rw [HR.out]; rfl, HB2.out⟩
theorem delV_cons {l r : List (S8 × Value)} {k : S8} {v : Value} (hn : (l.map (·.1)).Nodup) (hp : l.Perm ((k, v) :: r)) : (delV l k).Perm r := by
  have h2 := ((hp.map (·.1)).nodup_iff).1 hn
  rw [List.map_cons, List.nodup_cons] at h2
  have h3 := hp.filter (fun x => x.1 != k)
  have h4 : r.filter (fun x => x.1 != k) = r := List.filter_eq_self.2 (fun x hx => by
    rw [bne_iff_ne]
    intro e
    exact h2.1 (by show k ∈ _; rw [← e]; exact List.mem_map.2 ⟨x, hx, rfl⟩))
  rw [List.filter_cons_of_neg (by simp), h4] at h3
  exact h3
theorem below_grown {w w' : World} (h : Below w.heap.size w w') (row : Option Nat) : w.grownBy w' row := ⟨h.os, h.tape, h.output, h.size, fun i hi _ => h.block i hi⟩
set_option maxHeartbeats 4000000 in
/-- maps.DeleteFunc at that closure. -/
theorem delF_any (sl : Nat → Hn) (l : List Fl) (p : S8) (bx mb : Nat) (w : World) (h : MpB w mb (l.map (entV sl))) (hb : w.cell? ⟨bx, 0, none⟩ = some (.string (mkS p))) (hp : p.length < 100000) (hs : ShortF l) (hbm : bx ≠ mb) :
    Calls Tryz.prog 61 #[.map (some mb), .func (.func 62) #[] #[.pointer (some ⟨bx, 0, none⟩)]] w fun e w' => e = .returned (.tuple #[]) ∧ MpB w' mb ((l.map (entV sl)).filter fun x => !clashL x.1 p) ∧ w.grownBy w' (some mb) := by
  have hbl := World.block_lt_of_cell? w _ hb
  have hml := h.lt
  have H := Lib.hid h
  have HBX := Lib.hid hb
  have HS := Lib.hid hs
  clear h hb
  go_enter Tryz.func61, Tryz.ntmps61
  go_wp2_with (first | (at_range; refine wpl_range8 _ rfl _ rfl mapT rfl H.out ?_; intro w0 hR0 hB0 hz0) | go_in)
  go_loopw [8] (fun _ wr => ∃ done todo : List (S8 × Value), (l.map (entV sl)).Perm (done ++ todo) ∧ RngB wr mb w.heap.size ((done.filter fun x => !clashL x.1 p) ++ todo) todo ∧ w.grownBy wr (some mb)) (fun _ wr => wr.rangeLeft mb w.heap.size)
  case atStart => exact ⟨[], l.map (entV sl), by simp, hR0, ⟨hB0.os, hB0.tape, hB0.output, hB0.size, fun k hk _ => hB0.block k hk⟩⟩
  case round =>
    obtain ⟨done, todo, hperm, hR, hG⟩ := hrel
    have HPM := Lib.hid hperm
    have HG := Lib.hid hG
    clear hperm hG
    go_wp2_with (first | (at_next; refine wpl_next8 _ rfl _ rfl rfl hR ?_ ?_) | go_in)
    · intro htodo
      subst htodo
      go_wp2
      go_end0
      refine ⟨rfl, ?_, HG.out⟩
      have := hR.map
      rw [List.append_nil] at this
      refine this.of_perm ?_
      have hp2 := HPM.out
      rw [List.append_nil] at hp2
      exact (hp2.filter _).symm
    · intro k v todo' w1 hp1 hm1 hR1 hen hg1 hz1
      have hkv : (k, v) ∈ l.map (entV sl) := HPM.out.mem_iff.2 (List.mem_append_right _ (hp1.mem_iff.2 List.mem_cons_self))
      obtain ⟨f, hf, hfe⟩ := List.mem_map.1 hkv
      unfold entV at hfe
      injection hfe with hfk hfv
      have hks : k.length < 100000 := by
        obtain ⟨j, hj, rfl⟩ := List.getElem_of_mem hf
        have := HS.out j
        rw [List.getD_eq_getElem?_getD, List.getElem?_eq_getElem hj] at this
        rw [← hfk]
        simp at this
        omega
      have hG1 : w.grownBy w1 (some mb) := HG.out.andThen hg1 (fun j hj => by cases hj; exact .inl (Nat.le_refl _))
      have HG1 := Lib.hid hG1
      have hbx1 : w1.cell? ⟨bx, 0, none⟩ = some (.string (mkS p)) := by
        rw [World.cell?_of_block (w := w) (hG1.block bx hbl (by simpa using hbm))]
        exact HBX.out
      have hbl1 : bx < w1.heap.size := Nat.lt_of_lt_of_le hbl hG1.size
      have hB1 := (Below.refl w1.heap.size w1).alloc (Nat.le_refl _) (.cells (fileC sl f) 74)
      have hbx2 := (hB1.cell hbl1).trans hbx1
      have HC := Lib.hid (putC_any k p f.size f.time f.chg (sl f.body).q (sl f.body).n (sl f.body).c bx (w1.alloc (.cells (fileC sl f) 74)) hbx2 hks hp)
      have HR1 := Lib.hid (hR1.of_below hB1)
      have HB1 := Lib.hid hB1
      subst hfv
      have HM := Lib.hid hm1
      have HP1 := Lib.hid hp1
      have HRL := Lib.hid hR.left
      have HNW := Lib.hid (Nat.le_trans (Nat.le_of_eq rfl) (Nat.lt_of_lt_of_le hR.lt (Nat.le_of_eq hz1.symm)))
      have hkl : ∀ x ∈ todo', x.1 ≠ k := by
        have hnd := hR1.map.keys
        intro x hx e
        have hsub : ((k, fileV sl f) :: todo').Sublist ((k, fileV sl f) :: todo') := List.Sublist.refl _
        have hnd2 : ((todo).map (·.1)).Nodup := by
          rw [List.map_append] at hnd
          exact (List.nodup_append.1 hnd).2.1
        have hnd3 := ((hp1.map (·.1)).nodup_iff).1 hnd2
        rw [List.map_cons, List.nodup_cons] at hnd3
        exact hnd3.1 (by show k ∈ _; rw [← e]; exact List.mem_map.2 ⟨x, hx, rfl⟩)
      have HKL := Lib.hid hkl
      clear hB1 hg1 hR hR1 hG1 hbx1 hbx2 hkv hm1 hp1 hz1 hkl
      unfold fileV fileC at *
      go_wp2_with fail
      refine HC.out.mono ?_
      rintro e w2 ⟨rfl, hB2⟩
      have HR2 := Lib.hid (HR1.out.of_below hB2)
      have hgrow : w.grownBy w2 (some mb) := HG1.out.andThen (show w1.grownBy w2 none from ⟨hB2.os.trans HB1.out.os, hB2.tape.trans HB1.out.tape, hB2.output.trans HB1.out.output, Nat.le_trans HB1.out.size hB2.size, fun i hi _ => (hB2.block i (Nat.lt_of_lt_of_le hi HB1.out.size)).trans (HB1.out.block i hi)⟩) (fun j hj => by cases hj)
      have HG2 := Lib.hid hgrow
      clear hgrow hB2 hen
      cases hc : clashL k p with
      | true =>
        have HCL := Lib.hid hc
        clear hc
        go_wp2_with (first | (refine wpl_drop8 _ rfl _ _ rfl mapT strT rfl HR2.out k rfl HKL.out ?_; intro w3 hR3 hg3 hz3; simp only [Act.put]) | go_in)
        go_roundw
        case rel =>
          refine ⟨(k, fileV sl f) :: done, todo', ?_, ?_, HG2.out.andThen hg3 (fun j hj => .inr hj)⟩
          · exact HPM.out.trans (((HP1.out.append_left done).trans List.perm_middle))
          · refine hR3.of_perm ?_
            rw [List.filter_cons_of_neg (by simpa using HCL.out)]
            exact delV_cons HR2.out.map.keys ((HP1.out.append_left _).trans List.perm_middle)
        case measure => rw [hR3.left, HRL.out, HP1.out.length_eq]; simp
      | false =>
        have HCL := Lib.hid hc
        clear hc
        go_wp2
        go_roundw
        case rel =>
          refine ⟨(k, fileV sl f) :: done, todo', ?_, ?_, HG2.out⟩
          · exact HPM.out.trans (((HP1.out.append_left done).trans List.perm_middle))
          · refine HR2.out.of_perm ?_
            rw [List.filter_cons_of_pos (by simpa using HCL.out)]
            exact ((HP1.out.append_left _).trans List.perm_middle)
        case measure => rw [HR2.out.left, HRL.out, HP1.out.length_eq]; simp
theorem box4_cell (w : World) (T : TypeId) (a b c d : Value) (j : Nat) : (w.alloc (.cells #[a, b, c, d] T)).cell? ⟨w.heap.size, j, none⟩ = [a, b, c, d][j]? := by
  unfold World.cell?
  rw [World.alloc_heap_new]
  simp
set_option maxHeartbeats 4000000 in
/-- put: what clashes is removed; the file is laid. -/
theorem put_any (sl : Nat → Hn) (l : List Fl) (p : S8) (f : Fl) (hf : f.p = p) (mb : Nat) (w : World) (h : MpB w mb (l.map (entV sl))) (hp : p.length < 100000) (hs : ShortF l) :
    Calls Tryz.prog 48 #[.map (some mb), .string (mkS p), fileV sl f] w fun e w' => e = .returned (.tuple #[]) ∧ MpB w' mb ((withoutL l p true ++ [f]).map (entV sl)) ∧ w.grownBy w' (some mb) := by
  have hml := h.lt
  have HPF := Lib.hid (putV_ent sl l p f hf)
  have hB0 := ((Below.refl w.heap.size w).alloc (Nat.le_refl _) (.cells #[.string (mkS p)] 9))
  have hB1 := hB0.alloc hB0.size (.cells (fileC sl f) 74)
  have hc0 : ((w.alloc (.cells #[.string (mkS p)] 9)).alloc (.cells (fileC sl f) 74)).cell? ⟨w.heap.size, 0, none⟩ = some (.string (mkS p)) := by
    rw [World.cell?_of_block (w := w.alloc (.cells #[.string (mkS p)] 9)) (((Below.refl _ (w.alloc (.cells #[.string (mkS p)] 9))).alloc (Nat.le_refl _) (.cells (fileC sl f) 74)).block w.heap.size (by rw [World.size_alloc]; omega))]
    exact World.cell?_alloc_new _ _ _ _
  have HD := Lib.hid (delF_any sl l p w.heap.size mb _ (h.of_below hB1) hc0 hp hs (by omega))
  have hcf : ∀ j, ((w.alloc (.cells #[.string (mkS p)] 9)).alloc (.cells (fileC sl f) 74)).cell? ⟨w.heap.size + 1, j, none⟩ = (fileC sl f).toList[j]? := fun j => by
    have := box4_cell (w.alloc (.cells #[.string (mkS p)] 9)) 74 (.int .i64 f.size) (.int .i64 f.time) (.int .i64 f.chg) (.slice (sl f.body).q (sl f.body).n (sl f.body).c) j
    rw [World.size_alloc] at this
    exact this
  have hsz : ((w.alloc (.cells #[.string (mkS p)] 9)).alloc (.cells (fileC sl f) 74)).heap.size = w.heap.size + 2 := by rw [World.size_alloc, World.size_alloc]
  have HB1 := Lib.hid hB1
  have HC0 := Lib.hid hc0
  have HCF := Lib.hid hcf
  have HSZ := Lib.hid hsz
  clear hB0 hB1 hc0 hcf hsz h
  unfold fileV fileC at *
  go_enter Tryz.func48, Tryz.ntmps48
  go_wp2_with fail
  refine HD.out.mono ?_
  rintro e w2 ⟨rfl, hM2, hg2⟩
  have HG := Lib.hid ((below_grown HB1.out (some mb)).andThen hg2 (fun j hj => .inr hj))
  have hk0 : w2.cell? ⟨w.heap.size, 0, none⟩ = some (.string (mkS p)) := by
    rw [World.cell?_of_block (hg2.block w.heap.size (by rw [HSZ.out]; omega) (by simp; omega))]
    exact HC0.out
  have hkf : ∀ j, w2.cell? ⟨w.heap.size + 1, j, none⟩ = [Value.int .i64 f.size, .int .i64 f.time, .int .i64 f.chg, .slice (sl f.body).q (sl f.body).n (sl f.body).c][j]? := fun j => by
    rw [World.cell?_of_block (hg2.block (w.heap.size + 1) (by rw [HSZ.out]; omega) (by simp; omega))]
    exact HCF.out j
  have f0 := hkf 0
  have f1 := hkf 1
  have f2 := hkf 2
  have f3 := hkf 3
  simp at f0 f1 f2 f3
  have HM2 := Lib.hid hM2
  clear hkf hg2 hM2 HD
  go_wp2_with (first | (refine wpl_update8 _ rfl _ _ _ rfl mapT strT rfl HM2.out p rfl _ rfl ?_; intro w3 hM3 hg3 hz3; simp only [Act.put]) | go_in)
  go_end0
  exact ⟨rfl, hM3.of_perm HPF.out, HG.out.andThen hg3 (fun j hj => .inr hj)⟩
end Go.Proofs.YtjglgohchhdkkaaGreatDoor
