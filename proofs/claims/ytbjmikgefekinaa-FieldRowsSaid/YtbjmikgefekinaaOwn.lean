/- Bytes appended to a slice of the call's own; slices of bytes as strings; rows as lists. -/
import Derived.Test.YtbjmikgefekinaaKnown
set_option linter.unusedSimpArgs false
set_option linter.unusedVariables false
namespace Go.Proofs.Ytbjmikgefekinaa
open Go Go.RowKit

theorem info5 : (Try.prog.info? 5).map (fun i => (i.zero, i.size, i.bytes)) = some (some (.int .u8 0), 1, 1) := by kernel_rfl
theorem und35 : Try.prog.underlying 35 = some (.slice 5) := by kernel_rfl
/-- The slice v, among the blocks from base on, holds the bytes l. -/
def OwnB (w : World) (base : Nat) (v : Value) (l : List (BitVec 8)) : Prop := w.ownsRow base 5 1 v l.length (l.map B)
theorem Sl.news {w : World} {a : Addr} {l : List (BitVec 8)} (h : Sl w (some a) l) : ∀ j u, (l.map B)[j]? = some u → w.cell? (a.add j) = some u := fun j u hu => by
  have hj : j < l.length := by
    have := (List.getElem?_eq_some_iff.1 hu).1
    simpa using this
  obtain ⟨c, o, e, hc⟩ := h j hj
  injection e with e
  subst e
  rw [Addr.add_mid, hc]
  simp [hj] at hu
  simp [hj, hu]
theorem one_map (l : List (BitVec 8)) : ∀ u ∈ l.map B, u.oneCell' = true := by
  intro u hu
  simp only [List.mem_map] at hu
  obtain ⟨x, _, rfl⟩ := hu
  exact one_B x
theorem append_own (w : World) (base : Nat) (ty : TypeId) (v : Value) (l : List (BitVec 8)) (hown : OwnB w base v l) (p : Option Addr) (n cap : Nat) (bs : List (BitVec 8)) (hbl : bs.length = n) (hs : Sl w p bs) (hc : p = none → cap = 0)
    (hn : l.length + n < 1000000000000) (hb : base ≤ w.heap.size) :
    ∃ v' w', (Builtin.append_ #[35, 35] ty #[v, .slice p n cap]).run Try.prog w = .ok v' w' ∧ OwnB w' base v' (l ++ bs) ∧ w.grownBy w' v.ownBlock := by
  subst hbl
  obtain ⟨i0, hi, hz0, hz1, hz2⟩ := info_parts info5
  cases p with
  | some a =>
    obtain ⟨v', w', h1, h2, h3, _⟩ := run_append_own (P := Try.prog) w base 35 ty 5 i0 (.int .u8 0) 1 1 und35 hi hz0 hz1 hz2 rfl (by decide) v l.length (l.map B) hown a bs.length cap (bs.map B) (by simp) hs.news (one_map bs)
      (by simp only [maxLen]; omega) (by omega) hb
    exact ⟨v', w', h1, by unfold OwnB; rw [List.length_append, List.map_append]; exact h2, h3⟩
  | none =>
    have : bs = [] := by
      cases bs with
      | nil => rfl
      | cons x r => obtain ⟨c, o, e, _⟩ := hs 0 (by simp); cases e
    subst this
    obtain rfl := hc rfl
    exact ⟨v, w, run_append_owned_none (P := Try.prog) w base 35 ty 5 i0 1 und35 hi v l.length (l.map B) hown, by rw [List.append_nil]; exact hown, World.grownBy.refl _ _⟩
theorem wpl_append {ops : Array Oper} {rest : List Oper} {o : Oper} {a : Act} {Q : Exit → Act → World → Prop} (w : World) (hgd : o.guard = none) (s x : Operand)
    (ho : o.op = .call { callee := .builtin .append, args := #[s, x], argTypes := #[35, 35] })
    (base : Nat) (v : Value) (l : List (BitVec 8)) (hs : a.eval s = v) (hown : OwnB w base v l) (p : Option Addr) (n cap : Nat) (bs : List (BitVec 8)) (hbl : bs.length = n) (hx : a.eval x = .slice p n cap) (hsl : Sl w p bs) (hc : p = none → cap = 0)
    (hn : l.length + n < 1000000000000) (hb : base ≤ w.heap.size)
    (h : ∀ v' w', OwnB w' base v' (l ++ bs) → w.grownBy w' v.ownBlock → wpList Try.prog ops Q rest (a.put o.dst v') w') : wpList Try.prog ops Q (o :: rest) a w := by
  refine wpList_plain hgd fun K hK => ?_
  obtain ⟨v', w', hr, h2, h3⟩ := append_own w base o.type v l hown p n cap bs hbl hsl hc hn hb
  unfold Oper.wp execOp
  simp only [ho, resolve, invoke, builtin, Sem.run_bind, Sem.run_pure, Result.andThen_ok, List.map_toArray, List.map_cons, List.map_nil, hs, hx, hr]
  exact hK _ _ (h v' w' h2 h3)
section
variable {w w' : World} {base : Nat} {v : Value} {l : List (BitVec 8)}
theorem OwnB.shape (h : OwnB w base v l) : ∃ p cap, v = .slice p l.length cap ∧ Sl w p l ∧ (p = none → cap = 0) ∧ l.length ≤ cap := by
  rcases h.2 with ⟨hv, hl⟩ | ⟨g, cap, cur, hv, _, hg, hle, _, hsz, ht⟩
  · refine ⟨none, 0, by rw [hv, hl], fun j hj => absurd hj (by omega), fun _ => rfl, by omega⟩
  · refine ⟨some ⟨g, 0, none⟩, cap, hv, fun j hj => ⟨g, 0, rfl, ?_⟩, (fun h => by cases h), hle⟩
    rw [Nat.zero_add, cell_of_row w g j cur 5 (0, 0) hg]
    have h1 : (cur.toList.take (l.length * 1))[j]? = (l.map B)[j]? := by rw [ht]
    rw [List.getElem?_take, if_pos (by omega)] at h1
    simpa [hj] using h1
theorem OwnB.lt (h : OwnB w base v l) : ∀ k, v.ownBlock = some k → base ≤ k ∧ k < w.heap.size := World.ownsRow.lt h
theorem OwnB.keep (h : OwnB w base v l) (hb : ∀ k, v.ownBlock = some k → w'.heap[k]? = w.heap[k]?) : OwnB w' base v l := by
  refine ⟨h.1, ?_⟩
  rcases h.2 with h' | ⟨g, cap, cur, hv, h1, hg, r⟩
  · exact .inl h'
  · exact .inr ⟨g, cap, cur, hv, h1, by rw [hb g (by rw [hv]; rfl)]; exact hg, r⟩
theorem OwnB.of_below (h : OwnB w base v l) (k : Below w.heap.size w w') : OwnB w' base v l := h.keep fun g hg => k.block g (h.lt g hg).2
theorem OwnB.empty (w : World) (base : Nat) (hb : base ≤ w.heap.size) : OwnB (w.alloc (.cells #[] 5)) base (.slice (some ⟨w.heap.size, 0, none⟩) 0 0) [] := by
  have := World.ownsRow_lit (e := 5) (size := 1) (base := base) w #[] 0 hb (by simp only [maxLen]; omega) (by simp)
  unfold OwnB
  simpa using this
end
/-- Bytes as a string. -/
def strOf (l : List (BitVec 8)) : ByteArray := ⟨(l.map UInt8.ofBitVec).toArray⟩
theorem conv_str (w : World) (p : Option Addr) (l : List (BitVec 8)) (n cap : Nat) (h : Sl w p l) (hl : l.length = n) (hp : p = none → cap = 0) :
    (convert 35 9 (.slice p n cap)).run Try.prog w = .ok (.string (strOf l)) w := by
  subst hl
  cases p with
  | none =>
    have : l = [] := by
      cases l with
      | nil => rfl
      | cons x r => obtain ⟨c, o, e, _⟩ := h 0 (by simp); cases e
    subst this
    show (convert 35 9 (.slice none 0 cap)).run Try.prog w = _
    rw [run_convert_bytes_string (P := Try.prog) w 35 9 5 none 0 cap und35 (by kernel_rfl) (by kernel_rfl)]
    rfl
  | some a =>
    have := run_convert_bytes_back (P := Try.prog) w 35 9 5 a cap (l.map UInt8.ofBitVec) und35 (by kernel_rfl) (by kernel_rfl) (fun j hj => by
      have hj' : j < l.length := by simpa using hj
      obtain ⟨c', o', e, hc⟩ := h j hj'
      injection e with e
      subst e
      rw [Addr.add_mid, hc]
      simp [hj', B_eq'])
    rw [List.length_map] at this
    exact this
theorem Row.sl {w : World} {b : Nat} {T : TypeId} {n : Nat} {f : Nat → BitVec 8} (h : Row w b T n (fun j => B (f j))) : Sl w (some ⟨b, 0, none⟩) ((List.range n).map f) :=
  Sl.row h (by simp) (fun j hj => by
    have : j < n := by simpa using hj
    simp [List.getD_eq_getElem?_getD, this])
theorem map_getD (f : BitVec 8 → BitVec 8) (l : List (BitVec 8)) (n : Nat) (h : l.length = n) : (List.range n).map (fun j => f (l.getD j 0#8)) = l.map f := by
  subst h
  apply List.ext_getElem?
  intro j
  by_cases hj : j < l.length <;> simp [List.getD_eq_getElem?_getD, hj]
/-- Two rows added. -/
def zx (l m : List (BitVec 8)) : List (BitVec 8) := (List.range l.length).map fun j => l.getD j 0#8 ^^^ m.getD j 0#8
theorem zx_length (l m : List (BitVec 8)) : (zx l m).length = l.length := by simp [zx]
theorem zx_get (l m : List (BitVec 8)) (j : Nat) (h : j < l.length) : (zx l m).getD j 0#8 = l.getD j 0#8 ^^^ m.getD j 0#8 := by
  simp [zx, List.getD_eq_getElem?_getD, h]
theorem zx_zx (l m : List (BitVec 8)) : zx (zx l m) m = l := by
  apply List.ext_getElem?
  intro j
  by_cases hj : j < l.length
  · have h1 : (zx (zx l m) m)[j]? = some ((zx (zx l m) m).getD j 0#8) := by
      simp [List.getD_eq_getElem?_getD, zx_length, hj]
    rw [h1, zx_get _ _ _ (by rw [zx_length]; exact hj), zx_get _ _ _ hj, BitVec.xor_assoc, BitVec.xor_self, BitVec.xor_zero]
    simp [List.getD_eq_getElem?_getD, hj]
  · rw [List.getElem?_eq_none (by simpa [zx_length] using hj), List.getElem?_eq_none (by simpa using hj)]
theorem map_back (x : BitVec 8) (hx : x ≠ 0#8) (l : List (BitVec 8)) : (l.map (gm x)).map (gm (gi x)) = l := by
  rw [List.map_map]
  have : (gm (gi x)) ∘ (gm x) = id := by
    funext y
    show gm (gi x) (gm x y) = y
    rw [← gm_assoc, gm_comm (gi x), gm_gi x hx, gm_one]
  rw [this, List.map_id]
section
variable (w0 w : World) (b : Nat) (h : Gd w0 b w)
include h
theorem mulS (x y : BitVec 8) (p : Option Addr) (hs : Sl w p [x, y]) : Calls Try.prog 11 #[.pointer (some ⟨b, 0, none⟩), .slice p 2 2] w fun e w' => e = .returned (B (gm x y)) ∧ Gd w0 b w' :=
  (mul_any b [x, y] p 2 2 w h.1 hs rfl (by decide)).mono fun e w' ⟨he, hd⟩ => ⟨by rw [he, pr_two], h.dr hd⟩
theorem scaleL (x : BitVec 8) (l : List (BitVec 8)) (p : Option Addr) (n cap : Nat) (hs : Sl w p l) (hl : l.length = n) (hn : n < 4294967296) :
    Calls Try.prog 17 #[.pointer (some ⟨b, 0, none⟩), B x, .slice p n cap] w fun e w' =>
      e = .returned (.slice (some ⟨w.heap.size, 0, none⟩) n n) ∧ Gd w0 b w' ∧ Below w.heap.size w w' ∧ Sl w' (some ⟨w.heap.size, 0, none⟩) (l.map (gm x)) :=
  (scale_any b x l p n cap w h.1 hs hl hn).mono fun e w' ⟨he, hr, hb⟩ => ⟨he, h.step hb, hb, by
    have := hr.sl
    rwa [map_getD (gm x) l n hl] at this⟩
theorem plusL (l m : List (BitVec 8)) (p q : Option Addr) (n cap cap' : Nat) (hs : Sl w p l) (ht : Sl w q m) (hl : l.length = n) (hm : m.length = n) (hn : n < 4294967296) :
    Calls Try.prog 18 #[.pointer (some ⟨b, 0, none⟩), .slice p n cap, .slice q n cap'] w fun e w' =>
      e = .returned (.tuple #[.slice (some ⟨w.heap.size, 0, none⟩) n n, .int .i64 0]) ∧ Gd w0 b w' ∧ Below w.heap.size w w' ∧ Sl w' (some ⟨w.heap.size, 0, none⟩) (zx l m) :=
  (plus_any b l m p q n cap cap' w hs ht hl hm hn).mono fun e w' ⟨he, hr, hb⟩ => ⟨he, h.step hb, hb, by
    have := hr.sl
    unfold zx
    rwa [hl]⟩
theorem plusO (p q : Option Addr) (m n c d : Nat) (hm : m < 4294967296) (hn : n < 4294967296) (hne : m ≠ n) :
    Calls Try.prog 18 #[.pointer (some ⟨b, 0, none⟩), .slice p m c, .slice q n d] w fun e w' => e = .returned (.tuple #[.slice none 0 0, .int .i64 2]) ∧ Gd w0 b w' :=
  (plus_odd _ p q m n c d w hm hn hne).mono fun e w' ⟨he, hw⟩ => ⟨he, by rw [← hw]; exact h⟩
end
end Go.Proofs.Ytbjmikgefekinaa
