/- New, Len, Serve of the ward. -/
import Derived.Test.YtllpcllgliknpaaGreatDoorWpl15
import Derived.Maps.OwnSet
import Derived.Laws.IdiomRangeMap
set_option linter.unusedSimpArgs false
set_option maxRecDepth 100000
set_option linter.unusedVariables false
namespace Go.Proofs.YtllpcllgliknpaaGreatDoor
open Go Go.RowKit Go.MapKept

theorem RngB.of_todoW {w : World} {b r : Nat} {l todo todo2 : List (S8 × Value)} (h : RngB w b r l todo) (hp : todo.Perm todo2) : RngB w b r l todo2 := by
  obtain ⟨es, clock, since, seen, c0, h1, h2, h3, h4, h5, h6, h7⟩ := h
  exact ⟨es, clock, since, seen, c0, h1, h2, h3, h4, h5, h6, h7.trans (hp.map _)⟩
theorem RngI8.of_todoW {w : World} {b r : Nat} {l todo todo2 : List (Int × Value)} (h : RngI8 w b r l todo) (hp : todo.Perm todo2) : RngI8 w b r l todo2 := by
  obtain ⟨es, clock, since, seen, c0, h1, h2, h3, h4, h5, h6, h7⟩ := h
  exact ⟨es, clock, since, seen, c0, h1, h2, h3, h4, h5, h6, h7.trans (hp.map _)⟩
theorem ws_step {bk : S8 → Nat} {todo : Ws} {k : S8} {v : Value} {t : List (S8 × Value)} (h : (wsV bk todo).Perm ((k, v) :: t)) : ∃ x t2, todo.Perm (x :: t2) ∧ k = x.1 ∧ v = .map (some (bk x.1)) ∧ t.Perm (wsV bk t2) := by
  have hm : (k, v) ∈ wsV bk todo := h.mem_iff.2 List.mem_cons_self
  obtain ⟨f, hf, e⟩ := List.mem_map.1 hm
  obtain ⟨a, c, rfl⟩ := List.append_of_mem hf
  have hp : (a ++ f :: c).Perm (f :: (a ++ c)) := List.perm_middle
  have e2 : (f.1, Value.map (some (bk f.1))) = (k, v) := e
  injection e2 with e3 e4
  refine ⟨f, a ++ c, hp, e3.symm, e4.symm, ?_⟩
  have h2 := h.symm.trans (hp.map fun x : S8 × Hs => (x.1, Value.map (some (bk x.1))))
  rw [List.map_cons, e] at h2
  exact h2.cons_inv
theorem hs_step {todo : Hs} {k : Int} {v : Value} {t : List (Int × Value)} (h : (hsV todo).Perm ((k, v) :: t)) : ∃ x t2, todo.Perm (x :: t2) ∧ k = x.1 ∧ v = .int .i64 x.2 ∧ t.Perm (hsV t2) := by
  have hm : (k, v) ∈ hsV todo := h.mem_iff.2 List.mem_cons_self
  obtain ⟨f, hf, e⟩ := List.mem_map.1 hm
  obtain ⟨a, c, rfl⟩ := List.append_of_mem hf
  have hp : (a ++ f :: c).Perm (f :: (a ++ c)) := List.perm_middle
  have e2 : (f.1, Value.int .i64 f.2) = (k, v) := e
  injection e2 with e3 e4
  refine ⟨f, a ++ c, hp, e3.symm, e4.symm, ?_⟩
  have h2 := h.symm.trans (hp.map fun x : Int × Int => (x.1, Value.int .i64 x.2))
  rw [List.map_cons, e] at h2
  exact h2.cons_inv
section
variable {P : Program} (w : World) {ops : Array Oper} {rest : List Oper} {o : Oper} {a : Go.Act} {Q : Exit → Go.Act → World → Prop} {b r : Nat} {T K E : TypeId}
theorem wpl_nextW {l : List (S8 × Value)} {bk : S8 → Nat} {todo : Ws} (hg : o.guard = none) (it : Operand) (hop : o.op = Op.next it false) (hit : a.eval it = .pointer (some ⟨r, 0, none⟩)) (h : RngB w b r l (wsV bk todo))
    (hD : todo = [] → wpList P ops Q rest (a.put o.dst (.tuple #[.bool false])) w)
    (hM : ∀ xp xl t2 w', todo.Perm ((xp, xl) :: t2) → RngB w' b r l (wsV bk t2) → (Instr.entry (.pointer (some ⟨r, 0, none⟩))).run P w' = .ok (.tuple #[.string (mkS xp), .map (some (bk xp))]) w' → w.grownBy w' (some r) → w'.heap.size = w.heap.size → wpList P ops Q rest (a.put o.dst (.tuple #[.bool true, .string (mkS xp), .map (some (bk xp))])) w') : wpList P ops Q (o :: rest) a w := by
  refine wpl_next8 w hg it hop hit h (fun e => hD (List.map_eq_nil_iff.1 e)) fun p v todo' w' h1 _ h3 h4 h5 h6 => ?_
  obtain ⟨x, t2, hp2, rfl, rfl, hp3⟩ := ws_step h1
  exact hM x.1 x.2 t2 w' hp2 (h3.of_todoW hp3) h4 h5 h6
theorem wpl_nextH {l : List (Int × Value)} {todo : Hs} (hg : o.guard = none) (it : Operand) (hop : o.op = Op.next it false) (hit : a.eval it = .pointer (some ⟨r, 0, none⟩)) (h : RngI8 w b r l (hsV todo))
    (hD : todo = [] → wpList P ops Q rest (a.put o.dst (.tuple #[.bool false])) w)
    (hM : ∀ xk xr t2 w', todo.Perm ((xk, xr) :: t2) → RngI8 w' b r l (hsV t2) → (Instr.entry (.pointer (some ⟨r, 0, none⟩))).run P w' = .ok (.tuple #[.int .i64 xk, .int .i64 xr]) w' → w.grownBy w' (some r) → w'.heap.size = w.heap.size → wpList P ops Q rest (a.put o.dst (.tuple #[.bool true, .int .i64 xk, .int .i64 xr])) w') : wpList P ops Q (o :: rest) a w := by
  refine wpl_nextI15 w hg it hop hit h (fun e => hD (List.map_eq_nil_iff.1 e)) fun p v todo' w' h1 _ h3 h4 h5 h6 => ?_
  obtain ⟨x, t2, hp2, rfl, rfl, hp3⟩ := hs_step h1
  exact hM x.1 x.2 t2 w' hp2 (h3.of_todoW hp3) h4 h5 h6
end
theorem lenW_perm {s t : Ws} (h : s.Perm t) : lenW s = lenW t := (h.map fun x : S8 × Hs => x.2.length).sum_nat
theorem lookNil15 (w : World) (k : Int) : (Instr.lookup TRs (.map none) (.int .i64 k) true).run Tryz.prog w = .ok (.tuple #[.int .i64 0, .bool false]) w := by
  have hkey : IsKey (.int .i64) (.int .i64 k) := rfl
  rcases findNow_spec hkey [] 0 (fun x hx => by cases hx) with ⟨h1, _⟩ | ⟨j, e, _, h2, _⟩
  · simp [Instr.lookup, run_underlying rsT, run_checkKey inT15 hkey, run_findKey inT15 h1, zeroIn w, Result.andThen]
  · simp at h2
section
variable {w : World} {b mb : Nat} {F : Nat → Prop} {s : Ws} {bk : S8 → Nat}
theorem look15 (h : WdAt w b F s mb bk) (p : S8) : (Instr.lookup TWm (.map (some mb)) (.string (mkS p)) false).run Tryz.prog w = .ok (.map ((findW s p).map fun _ => bk p)) w := by
  have hl := run_lookup8 (P := Tryz.prog) wmT stT15 (zeroRs w) h.map p false
  rw [findV_ws] at hl
  rw [hl]
  cases findW s p <;> rfl
set_option maxRecDepth 100000 in
set_option maxHeartbeats 4000000 in
theorem len15_any (h : WdAt w b F s mb bk) (hn : lenW s ≤ 100000) : Calls Tryz.prog 19 #[.pointer (some ⟨b, 0, none⟩)] w fun e w' => e = .returned (.int .i64 (lenW s : Int)) ∧ Below w.heap.size w w' := by
  have c0 := h.cell
  have H := Lib.hid h
  have HN := Lib.hid hn
  clear h hn
  go_enter Tryz.func19, Tryz.ntmps19
  go_wp2_with (first | (at_range; refine wpl_range8 _ rfl _ rfl wmT rfl H.out.map ?_; intro w0 hR0 hB0 hz0) | go_in)
  go_frame
  go_loopw [3, 5] (fun v _ wr => ∃ done todo : Ws, s.Perm (done ++ todo) ∧ v = .int .i64 (lenW done : Int) ∧ RngB wr mb w.heap.size (wsV bk s) (wsV bk todo) ∧ Below w.heap.size w wr) (fun _ _ wr => wr.rangeLeft mb w.heap.size)
  case atStart => exact ⟨[], s, List.Perm.refl _, rfl, hR0, hB0⟩
  case round =>
    obtain ⟨done, todo, hperm, rfl, hR, hB⟩ := hrel
    have HPM := Lib.hid hperm
    have HB := Lib.hid hB
    clear hperm hB
    generalize hsum : lenW done = sm at *
    have HSM := Lib.hid hsum
    clear hsum
    have HRL := Lib.hid hR.left
    have HNW := Lib.hid hR.lt
    go_wp2_with (first | (at_next; refine wpl_nextW _ rfl _ rfl rfl hR ?_ ?_) | go_in)
    · intro htodo
      have HE := Lib.hid (show sm = lenW s by
        rw [← HSM.out]
        have := HPM.out
        rw [htodo, List.append_nil] at this
        exact (lenW_perm this).symm)
      clear htodo hR
      go_wp2
      go_ret
      exact ⟨by rw [HE.out]; rfl, HB.out⟩
    · intro xp xl t2 w1 hp1 hR1 hen hg1 hz1
      have hxs : (xp, xl) ∈ s := HPM.out.mem_iff.2 (List.mem_append_right _ (hp1.mem_iff.2 List.mem_cons_self))
      have HB1 := Lib.hid (HB.out.grown hg1 HB.out.size (fun j hj => by cases hj; exact Nat.le_refl _))
      have hmi := (H.out.of_new HB1.out).each (xp, xl) hxs
      have hln := fun ty => run_lenI15 (P := Tryz.prog) (w := w1) (ty := ty) rsT hmi
      rw [hsV_len] at hln
      have hsl : lenW ((xp, xl) :: done) ≤ lenW s := by
        have h1 := lenW_perm (HPM.out.trans ((hp1.append_left done).trans List.perm_middle))
        rw [h1]
        show (xl.length + (done.map fun x => x.2.length).sum) ≤ (xl.length + ((done ++ t2).map fun x => x.2.length).sum)
        rw [List.map_append, List.sum_append]
        omega
      have hcons : lenW ((xp, xl) :: done) = xl.length + sm := by rw [← HSM.out]; rfl
      have hw : IntKind.i64.wrap ((sm : Int) + (xl.length : Int)) = ((lenW ((xp, xl) :: done) : Nat) : Int) := by
        have := HN.out
        rw [IntKind.wrap_i64]
        omega
      have HP1 := Lib.hid hp1
      have HR1 := Lib.hid hR1
      clear hsl hcons hp1 hR hR1 hg1 hz1 hmi hxs
      go_wp2
      go_roundw
      case rel =>
        exact ⟨(xp, xl) :: done, t2, HPM.out.trans ((HP1.out.append_left done).trans List.perm_middle), rfl, HR1.out, HB1.out⟩
      case measure => rw [HR1.out.left, HRL.out]; unfold wsV; rw [List.length_map, List.length_map, HP1.out.length_eq]; simp
set_option maxHeartbeats 4000000 in
theorem new15_any (w : World) : Calls Tryz.prog 5 #[] w fun e w' => e = .returned (.pointer (some ⟨w.heap.size + 1, 0, none⟩)) ∧ WdAt w' (w.heap.size + 1) (fun g => w.heap.size ≤ g) [] w.heap.size (fun _ => 0) ∧ Below w.heap.size w w' := by
  have hmm := @run_makeMap Tryz.prog
  have HM := Lib.hid (MpB.made w)
  have HB := Lib.hid (((Below.refl w.heap.size w).alloc (Nat.le_refl _) (.map #[] 0)).alloc (by simp) (.cells #[.map (some w.heap.size)] TWd))
  have hz : (w.alloc (.map #[] 0)).heap.size = w.heap.size + 1 := by simp
  have HX := Lib.hid (World.alloc_heap_new (w.alloc (.map #[] 0)) (.cells #[.map (some w.heap.size)] TWd))
  rw [hz] at HX
  have HZ := Lib.hid hz
  clear hz
  go_enter Tryz.func5, Tryz.ntmps5
  go_wp2
  go_ret
  refine ⟨rfl, ⟨HX.out, HM.out.of_below ((Below.refl _ _).alloc (Nat.le_refl _) _), (fun x hx => by cases hx), (fun x hx => by cases hx), (fun x hx => by cases hx), Nat.le_succ _, Nat.le_refl _, (fun x hx => by cases hx)⟩, HB.out⟩
end
end Go.Proofs.YtllpcllgliknpaaGreatDoor
