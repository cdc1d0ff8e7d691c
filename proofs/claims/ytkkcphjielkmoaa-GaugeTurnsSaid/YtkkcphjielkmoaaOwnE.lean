/- Slices of floats and of words of 64 bits: of the call's own, appended to, cut, copied, made. -/
import Derived.Test.YtkkcphjielkmoaaLiftG
import Derived.Test.YtkkcphjielkmoaaSwapR
import Derived.Deep.AppendLies
import Derived.ArgAppend
import Derived.Laws.CopyOwn
set_option linter.unusedSimpArgs false
set_option linter.unusedVariables false
namespace Go.Proofs.Ytkkcphjielkmoaa
open Go Go.RowKit

/-- A kind of elements of one cell. -/
structure El (T E : TypeId) (zv : Value) (enc : Nat → Value) : Prop where
  info : (Try.prog.info? E).map (fun i => (i.zero, i.size, i.bytes)) = some (some zv, 1, 8)
  und : Try.prog.underlying T = some (.slice E)
  zc : zv.cells.size = 1
  one : ∀ x, (enc x).oneCell' = true
def fV (x : Nat) : Value := .float .f64 x
def uV (x : Nat) : Value := .int .u64 (x : Int)
theorem elF : El 31 24 (.float .f64 0) fV := ⟨by kernel_rfl, by kernel_rfl, rfl, fun _ => rfl⟩
theorem elU : El 30 22 (.int .u64 0) uV := ⟨by kernel_rfl, by kernel_rfl, rfl, fun _ => rfl⟩
/-- The elements l lie where a slice of their number begins. -/
def Le (enc : Nat → Value) (w : World) (p : Option Addr) (l : List Nat) : Prop := ∀ j, j < l.length → ∃ c o, p = some ⟨c, o, none⟩ ∧ c < w.heap.size ∧ w.cell? ⟨c, o + j, none⟩ = some (enc (l.getD j 0))
theorem Ul.le {w : World} {p : Option Addr} {l : List Nat} (h : Ul w p l) : Le uV w p l := h
section
variable {enc : Nat → Value} {w w' : World} {p : Option Addr} {l : List Nat}
theorem Le.of_below (h : Le enc w p l) (k : Below w.heap.size w w') : Le enc w' p l := fun j hj => by
  obtain ⟨c, o, e, hb, hc⟩ := h j hj
  exact ⟨c, o, e, Nat.lt_of_lt_of_le hb k.size, by rw [k.cell (by exact hb)]; exact hc⟩
theorem Le.nil (w : World) (p : Option Addr) : Le enc w p [] := fun j hj => absurd hj (by simp)
theorem Le.news {a : Addr} (h : Le enc w (some a) l) : ∀ j u, (l.map enc)[j]? = some u → w.cell? (a.add j) = some u := fun j u hu => by
  have hj : j < l.length := by
    have := (List.getElem?_eq_some_iff.1 hu).1
    simpa using this
  obtain ⟨c, o, e, hb, hc⟩ := h j hj
  injection e with e
  subst e
  rw [Addr.add_mid, hc]
  simp [hj] at hu
  simp [hj, hu]
theorem Le.take (h : Le enc w p l) (k : Nat) : Le enc w p (l.take k) := fun j hj => by
  have hj' : j < k ∧ j < l.length := by simp [List.length_take] at hj; omega
  obtain ⟨c, o, e, hb, hc⟩ := h j hj'.2
  refine ⟨c, o, e, hb, ?_⟩
  rw [hc]
  simp [List.getD_eq_getElem?_getD, hj'.1]
/-- Where the elements from number k on lie. -/
def cutE (q : Option Addr) (cap k : Nat) : Option Addr := if cap = k then q else q.map (·.add k)
theorem cutE_zero (q : Option Addr) (cap : Nat) : cutE q cap 0 = q := by
  unfold cutE
  split
  · rfl
  · cases q with
    | none => rfl
    | some a => show some (a.add 0) = some a; rw [Addr.add_zero']
theorem Le.drop {cap : Nat} (h : Le enc w p l) (hc : l.length ≤ cap) (k : Nat) : Le enc w (cutE p cap k) (l.drop k) := fun j hj => by
  have hj' : k + j < l.length := by simp at hj; omega
  obtain ⟨c, o, e, hb, hx⟩ := h (k + j) hj'
  subst e
  refine ⟨c, o + k, ?_, hb, ?_⟩
  · unfold cutE
    rw [if_neg (by omega)]
    show some (Addr.add _ k) = _
    rw [Addr.add_mid]
  · rw [Nat.add_assoc, hx]
    simp [List.getD_eq_getElem?_getD, List.getElem?_drop]
theorem cutE_none {q : Option Addr} {cap k : Nat} (h : q = none → cap = 0) (e : cutE q cap k = none) : cap - k = 0 := by
  cases q with
  | none => rw [h rfl, Nat.zero_sub]
  | some a =>
    unfold cutE at e
    split at e <;> cases e
theorem one_mapE {T E : TypeId} {zv : Value} (K : El T E zv enc) (l : List Nat) : ∀ u ∈ l.map enc, u.oneCell' = true := by
  intro u hu
  obtain ⟨x, _, rfl⟩ := List.mem_map.1 hu
  exact K.one x
end
/-- The slice v, among the blocks from base on, holds the elements l. -/
def OwnE (E : TypeId) (enc : Nat → Value) (w : World) (base : Nat) (v : Value) (l : List Nat) : Prop := w.ownsRow base E 1 v l.length (l.map enc)
section
variable {T E : TypeId} {zv : Value} {enc : Nat → Value} {w w' : World} {base : Nat} {v : Value} {l : List Nat}
theorem OwnE.lt (h : OwnE E enc w base v l) : ∀ k, v.ownBlock = some k → base ≤ k ∧ k < w.heap.size := World.ownsRow.lt h
theorem OwnE.keep (h : OwnE E enc w base v l) (hb : ∀ k, v.ownBlock = some k → w'.heap[k]? = w.heap[k]?) : OwnE E enc w' base v l := by
  refine ⟨h.1, ?_⟩
  rcases h.2 with h' | ⟨g, cap, cur, hv, h1, hg, r⟩
  · exact .inl h'
  · exact .inr ⟨g, cap, cur, hv, h1, by rw [hb g (by rw [hv]; rfl)]; exact hg, r⟩
theorem OwnE.of_below (h : OwnE E enc w base v l) (k : Below w.heap.size w w') : OwnE E enc w' base v l := h.keep fun g hg => k.block g (h.lt g hg).2
theorem OwnE.lower (h : OwnE E enc w base v l) {b2 : Nat} (hb : b2 ≤ base) : OwnE E enc w b2 v l := by
  refine ⟨h.1, ?_⟩
  rcases h.2 with h' | ⟨g, cap, cur, hv, h1, r⟩
  · exact .inl h'
  · exact .inr ⟨g, cap, cur, hv, by omega, r⟩
theorem OwnE.nil (w : World) (base : Nat) : OwnE E enc w base (.slice none 0 0) [] := ⟨rfl, .inl ⟨rfl, rfl⟩⟩
theorem OwnE.empty (w : World) (base : Nat) (hb : base ≤ w.heap.size) : OwnE E enc (w.alloc (.cells #[] E)) base (.slice (some ⟨w.heap.size, 0, none⟩) 0 0) [] := by
  have := World.ownsRow_lit (e := E) (size := 1) (base := base) w #[] 0 hb (by simp only [maxLen]; omega) (by simp)
  unfold OwnE
  simpa using this
theorem OwnE.shape (h : OwnE E enc w base v l) : ∃ p cap, v = .slice p l.length cap ∧ Le enc w p l ∧ (p = none → cap = 0) ∧ l.length ≤ cap := by
  rcases h.2 with ⟨hv, hl⟩ | ⟨g, cap, cur, hv, hb, hg, hle, _, hsz, ht⟩
  · refine ⟨none, 0, by rw [hv, hl], fun j hj => absurd hj (by omega), fun _ => rfl, by omega⟩
  · have hlt : g < w.heap.size := by
      rcases Nat.lt_or_ge g w.heap.size with h' | h'
      · exact h'
      · rw [Array.getElem?_eq_none h'] at hg; cases hg
    refine ⟨some ⟨g, 0, none⟩, cap, hv, fun j hj => ⟨g, 0, rfl, hlt, ?_⟩, (fun h => by cases h), hle⟩
    rw [Nat.zero_add, cell_of_row w g j cur E (0, 0) hg]
    have h1 : (cur.toList.take (l.length * 1))[j]? = (l.map enc)[j]? := by rw [ht]
    rw [List.getElem?_take, if_pos (by omega)] at h1
    simpa [hj] using h1
theorem appendE (K : El T E zv enc) (w : World) (base : Nat) (ty : TypeId) (v : Value) (l : List Nat) (hown : OwnE E enc w base v l) (p : Option Addr) (n cap : Nat) (bs : List Nat) (hbl : bs.length = n) (hs : Le enc w p bs) (hc : p = none → cap = 0)
    (hn : l.length + n < 100000000) (hb : base ≤ w.heap.size) :
    ∃ v' w', (Builtin.append_ #[T, T] ty #[v, .slice p n cap]).run Try.prog w = .ok v' w' ∧ OwnE E enc w' base v' (l ++ bs) ∧ w.grownBy w' v.ownBlock := by
  subst hbl
  obtain ⟨i0, hi, hz0, hz1, hz2⟩ := info_parts K.info
  cases p with
  | some a =>
    obtain ⟨v', w', h1, h2, h3, _⟩ := run_append_own (P := Try.prog) w base T ty E i0 zv 1 8 K.und hi hz0 hz1 hz2 K.zc (by decide) v l.length (l.map enc) hown a bs.length cap (bs.map enc) (by simp) hs.news (one_mapE K bs)
      (by simp only [maxLen]; omega) (by omega) hb
    exact ⟨v', w', h1, by unfold OwnE; rw [List.length_append, List.map_append]; exact h2, h3⟩
  | none =>
    have : bs = [] := by
      cases bs with
      | nil => rfl
      | cons x r => obtain ⟨c, o, e, _⟩ := hs 0 (by simp); cases e
    subst this
    obtain rfl := hc rfl
    exact ⟨v, w, run_append_owned_none (P := Try.prog) w base T ty E i0 1 K.und hi v l.length (l.map enc) hown, by rw [List.append_nil]; exact hown, World.grownBy.refl _ _⟩
/-- One element appended to a slice without room: new memory. -/
theorem append_full (K : El T E zv enc) (w : World) (ty : TypeId) (p : Option Addr) (n : Nat) (hl : l.length = n) (hp : p = none → n = 0) (hs : Le enc w p l) (ad : Addr) (u : Nat) (c : Nat) (hc : w.cell? ad = some (enc u)) (hn : n < 100000000) :
    ∃ v' w', (Builtin.append_ #[T, T] ty #[.slice p n n, .slice (some ad) 1 c]).run Try.prog w = .ok v' w' ∧ OwnE E enc w' w.heap.size v' (l ++ [u]) ∧ w.grownBy w' none := by
  obtain ⟨i0, hi, hz0, hz1, hz2⟩ := info_parts K.info
  have hnews : ∀ j u', [enc u][j]? = some u' → w.cell? (ad.add j) = some u' := fun j u' hu => by
    have : j = 0 := by
      rcases Nat.eq_zero_or_pos j with h | h
      · exact h
      · rw [List.getElem?_eq_none (by simp; omega)] at hu; cases hu
    subst this
    rw [Addr.add_zero', hc]
    simpa using hu
  cases p with
  | some b =>
    obtain ⟨v', w', h1, h2, h3⟩ := run_append_arg_grows (P := Try.prog) w T ty E i0 zv 1 8 K.und hi hz0 hz1 hz2 K.zc (by decide) b n n (l.map enc) (by simp [hl]) hs.news ad 1 c [enc u] rfl hnews (by omega) (by simp only [maxLen]; omega) (by omega)
    exact ⟨v', w', h1, by unfold OwnE; rw [List.length_append, List.map_append, hl]; exact h2, h3⟩
  | none =>
    obtain rfl := hp rfl
    obtain rfl : l = [] := List.eq_nil_of_length_eq_zero hl
    obtain ⟨v', w', h1, h2, h3, _⟩ := run_append_own (P := Try.prog) w w.heap.size T ty E i0 zv 1 8 K.und hi hz0 hz1 hz2 K.zc (by decide) (.slice none 0 0) 0 [] (World.ownsRow_nil w _ E 1) ad 1 c [enc u] rfl hnews (by intro x hx; simp at hx; subst hx; exact K.one u) (by simp only [maxLen]; omega) (by omega) (Nat.le_refl _)
    exact ⟨v', w', h1, h2, h3⟩
end
section
variable {T E : TypeId} {zv : Value} {enc : Nat → Value} {ops : Array Oper} {rest : List Oper} {o : Oper} {a : Act} {Q : Exit → Act → World → Prop} {K : Act → World → Prop} {Z : Prop}
theorem wpl_appendE (KE : El T E zv enc) (w : World) (hgd : o.guard = none) (s x : Operand) (ho : o.op = .call { callee := .builtin .append, args := #[s, x], argTypes := #[T, T] })
    (base : Nat) (v : Value) (l : List Nat) (hs : a.eval s = v) (hown : OwnE E enc w base v l) (p : Option Addr) (n cap : Nat) (bs : List Nat) (hbl : bs.length = n) (hx : a.eval x = .slice p n cap) (hsl : Le enc w p bs) (hc : p = none → cap = 0)
    (hn : l.length + n < 100000000) (hb : base ≤ w.heap.size)
    (h : ∀ v' w', OwnE E enc w' base v' (l ++ bs) → w.grownBy w' v.ownBlock → wpList Try.prog ops Q rest (a.put o.dst v') w') : wpList Try.prog ops Q (o :: rest) a w := by
  refine wpList_plain hgd fun K hK => ?_
  obtain ⟨v', w', hr, h2, h3⟩ := appendE KE w base o.type v l hown p n cap bs hbl hsl hc hn hb
  unfold Oper.wp execOp
  simp only [ho, resolve, invoke, builtin, Sem.run_bind, Sem.run_pure, Result.andThen_ok, List.map_toArray, List.map_cons, List.map_nil, hs, hx, hr]
  exact hK _ _ (h v' w' h2 h3)
theorem step_appendE (KE : El T E zv enc) (w : World) (hgd : o.guard = none) (s x : Operand) (ho : o.op = .call { callee := .builtin .append, args := #[s, x], argTypes := #[T, T] })
    (base : Nat) (v : Value) (l : List Nat) (hs : a.eval s = v) (hown : OwnE E enc w base v l) (p : Option Addr) (n cap : Nat) (bs : List Nat) (hbl : bs.length = n) (hx : a.eval x = .slice p n cap) (hsl : Le enc w p bs) (hc : p = none → cap = 0)
    (hn : l.length + n < 100000000) (hb : base ≤ w.heap.size)
    (h : ∀ v' w', OwnE E enc w' base v' (l ++ bs) → w.grownBy w' v.ownBlock → K (a.put o.dst v') w') : if Region.wanted o (yielded ops a.tmps) = true then Oper.wp Try.prog o a w K Q else Z := by
  have hw : Region.wanted o (yielded ops a.tmps) = true := by simp [Region.wanted, hgd]
  rw [if_pos hw]
  obtain ⟨v', w', hr, h2, h3⟩ := appendE KE w base o.type v l hown p n cap bs hbl hsl hc hn hb
  unfold Oper.wp execOp
  simp only [ho, resolve, invoke, builtin, Sem.run_bind, Sem.run_pure, Result.andThen_ok, List.map_toArray, List.map_cons, List.map_nil, hs, hx, hr]
  exact h v' w' h2 h3
theorem step_full (KE : El T E zv enc) (w : World) (hgd : o.guard = none) (s x : Operand) (ho : o.op = .call { callee := .builtin .append, args := #[s, x], argTypes := #[T, T] })
    (p : Option Addr) (n : Nat) (l : List Nat) (hs : a.eval s = .slice p n n) (hl : l.length = n) (hp : p = none → n = 0) (hsl : Le enc w p l) (ad : Addr) (c : Nat) (hx : a.eval x = .slice (some ad) 1 c) (u : Nat) (hc : w.cell? ad = some (enc u)) (hn : n < 100000000)
    (h : ∀ v' w', OwnE E enc w' w.heap.size v' (l ++ [u]) → w.grownBy w' none → K (a.put o.dst v') w') : if Region.wanted o (yielded ops a.tmps) = true then Oper.wp Try.prog o a w K Q else Z := by
  have hw : Region.wanted o (yielded ops a.tmps) = true := by simp [Region.wanted, hgd]
  rw [if_pos hw]
  obtain ⟨v', w', hr, h2, h3⟩ := append_full KE w o.type p n hl hp hsl ad u c hc hn
  unfold Oper.wp execOp
  simp only [ho, resolve, invoke, builtin, Sem.run_bind, Sem.run_pure, Result.andThen_ok, List.map_toArray, List.map_cons, List.map_nil, hs, hx, hr]
  exact h v' w' h2 h3
end
/-- A copy of floats into a row of the call's own. -/
theorem tab_spliceF (n : Nat) (g : Nat → Value) (l : List Nat) (hl : l.length = n) :
    ((tab n g).toList.take 0 ++ (l.map fV ++ (tab n g).toList.drop (0 + (l.map fV).length))).toArray = tab n (fun j => fV (l.getD j 0)) := by
  subst hl
  unfold tab
  congr 1
  apply List.ext_getElem?
  intro j
  simp only [List.take_zero, List.nil_append, Nat.zero_add, List.length_map]
  rw [List.getElem?_append]
  by_cases h1 : j < l.length
  · simp [h1, List.getD_eq_getElem?_getD]
  · rw [if_neg (by simpa using h1)]
    have h2 : l.length ≤ j := by omega
    simp [h2]
theorem wpl_copyF {ops : Array Oper} {rest : List Oper} {o : Oper} {a : Act} {Q : Exit → Act → World → Prop} (w : World) (hgd : o.guard = none) (d s : Operand)
    (ho : o.op = .call { callee := .builtin .copy, args := #[d, s], argTypes := #[31, 31] }) (E c : Nat) (g : Nat → Value) (q : Option Addr) (n c' : Nat) (l : List Nat)
    (hd : a.eval d = .slice (some ⟨E, 0, none⟩) n c) (hs : a.eval s = .slice q n c') (hR : Row w E 24 n g) (hl : l.length = n) (hsl : Le fV w q l)
    (h : ∀ w', Fr w' E n (fun j => l.getD j 0) → Kp E w w' → wpList Try.prog ops Q rest (a.put o.dst (.int .i64 (n : Int))) w') : wpList Try.prog ops Q (o :: rest) a w := by
  by_cases h0 : n = 0
  · subst h0
    refine wpList_copy_nothing hgd d s _ _ ho 24 elF.und (by kernel_rfl) _ _ _ _ _ _ hd hs (by exact Nat.zero_min _) ?_
    exact h w (Row.congr hR fun j hj => by omega) (Kp.refl _ _)
  · obtain ⟨c0, o0, rfl, -, hc⟩ := hsl 0 (by omega)
    have key := wpList_copy_own (P := Try.prog) (w := w) (Q := Q) (ops := ops) (rest := rest) (o := o) (a := a) hgd d s _ _ ho 24 elF.und (by kernel_rfl) E 0 n c ⟨c0, o0, none⟩ n c' hd hs (tab n g) 24 hR (l.map fV) (by rw [List.length_map, hl]; exact (Nat.min_self _).symm)
      (fun j v hv => hsl.news j v hv) (by rw [tab_size, List.length_map]; omega) (one_mapE elF l)
    refine key ?_
    rw [tab_spliceF n g l hl]
    have hlen : (l.map fV).length = n := by rw [List.length_map, hl]
    have hgi : goInt ((l.map fV).length : Int) = .int .i64 (n : Int) := by rw [hlen]; rfl
    rw [hgi]
    exact h _ (setRow_heap w E _ _ 24 _ hR) ⟨rfl, rfl, rfl, by simp [World.setRow], fun k _ hk => setRow_other w E k _ hk⟩
theorem mkF (n : Nat) (w : World) (hn : n < 100000000) : (mkT 31 (.int .i64 (n : Int)) (.int .i64 (n : Int))).run Try.prog w = .ok (.value (.slice (some ⟨w.heap.size, 0, none⟩) n n)) (w.alloc (.cells (tab n (fun _ => .float .f64 0)) 24)) := by
  have hi : (Try.prog.info? 24).map (fun i => (i.zero, i.size, i.bytes)) = some (some (.float .f64 0), 1, 8) := elF.info
  cases hq : Try.prog.info? 24 with
  | none => simp [hq] at hi
  | some i =>
    rw [hq] at hi
    simp only [Option.map_some, Option.some.injEq, Prod.mk.injEq] at hi
    obtain ⟨h1, h2, h3⟩ := hi
    have := run_make (P := Try.prog) w 31 24 i (.float .f64 0) elF.und hq h1 .i64 .i64 n n (by omega) (Int.le_refl _) (by rw [h3]; omega) (by omega)
    rw [h2] at this
    simp only [Int.toNat_natCast, Nat.mul_one] at this
    simp only [mkT, Sem.run_bind, this, Result.andThen_ok, Sem.run_pure]
    congr 2
    rw [tab_const]
    congr 1
    apply Array.ext_getElem?
    intro j
    by_cases hj : j < n <;> simp [madeCells, Value.cells, hj, Nat.mod_one]
end Go.Proofs.Ytkkcphjielkmoaa
