/- strings.SplitSeq at "/": what it hands out. -/
import Derived.Test.YtcgilacmdckbfaaDoorRngC7
import Derived.Test.YtcgilacmdckbfaaDoorLibI7
set_option linter.unusedSimpArgs false
set_option maxRecDepth 100000
set_option linter.unusedVariables false
namespace Go.Proofs.YtcgilacmdckbfaaDoor
open Go Go.RowKit Go.Shelf

attribute [local go_sem] Oper.semAt_some
theorem slash_lit : (ByteArray.mk #[47]) = mkS [47] := mkS_lit [47]
/-- The iterator's three boxes: the separator, what is left, how much of the separator is kept. -/
structure Boxes (b1 b2 b3 : Nat) (r : S8) (A : World) : Prop where
  sep : A.cell? ⟨b1, 0, none⟩ = some (.string ⟨#[47]⟩)
  rest : A.cell? ⟨b2, 0, none⟩ = some (.string (mkS r))
  free : A.frozen? ⟨b2, 0, none⟩ = false
  save : A.cell? ⟨b3, 0, none⟩ = some (.int .i64 0)
theorem Boxes.below {b1 b2 b3 N : Nat} {r : S8} {A A' : World} (h : Boxes b1 b2 b3 r A) (hB : Below N A A') (h1 : b1 < N) (h2 : b2 < N) (h3 : b3 < N) : Boxes b1 b2 b3 r A' :=
  ⟨by rw [hB.cell (p := ⟨b1, 0, none⟩) h1]; exact h.sep, by rw [hB.cell (p := ⟨b2, 0, none⟩) h2]; exact h.rest, by rw [hB.frozen (p := ⟨b2, 0, none⟩) h2]; exact h.free, by rw [hB.cell (p := ⟨b3, 0, none⟩) h3]; exact h.save⟩
theorem Boxes.set {b1 b2 b3 : Nat} {r : S8} {A : World} (h : Boxes b1 b2 b3 r A) (h12 : b1 ≠ b2) (h32 : b3 ≠ b2) (t : S8) : Boxes b1 b2 b3 t (A.setCell ⟨b2, 0, none⟩ (.string (mkS t))) :=
  ⟨by rw [World.cell?_setCell_other _ _ _ _ (by simp [h12])]; exact h.sep, World.cell?_setCell_same' _ _ _ (by rw [h.rest]; rfl), by rw [World.frozen?_setCell]; exact h.free, by rw [World.cell?_setCell_other _ _ _ _ (by simp [h32])]; exact h.save⟩
/-- How much is left. -/
def leftB (b : Nat) (A : World) : Nat := match A.cell? ⟨b, 0, none⟩ with
  | some (.string s) => s.size
  | _ => 0
theorem leftB_eq {b1 b2 b3 : Nat} {r : S8} {A : World} (h : Boxes b1 b2 b3 r A) : leftB b2 A = r.length := by unfold leftB; rw [h.rest]; exact mkS_size r
set_option maxRecDepth 100000 in
set_option maxHeartbeats 2000000 in
theorem split_seq (m : Nat) (hm : 3 ≤ m) (b1 b2 b3 : Nat) (l : S8) (w : World) (h1 : b1 < w.heap.size) (h2 : b2 < w.heap.size) (h3 : b3 < w.heap.size) (h12 : b1 ≠ b2) (h32 : b3 ≠ b2) (hbx : Boxes b1 b2 b3 l w) (hl : l.length < 1000000) :
    Seq m 75 #[.pointer (some ⟨b1, 0, none⟩), .pointer (some ⟨b2, 0, none⟩), .pointer (some ⟨b3, 0, none⟩)] (fun x : S8 => #[.string (mkS x)]) b2 (nm l) w := by
  intro L J Jx A hA hJd hJs hY h0
  have hm1 : 1 ≤ m := by omega
  have hbA := hbx.below hA h1 h2 h3
  have c1 := hbA.sep
  refine callsIn_of_wp Tryd.func75 rfl trivial ?_ rfl
  simp only [Tryd.ntmps75, List.size_toArray, List.length_cons, List.length_nil, Nat.reduceAdd, Nat.reduceSub, Array.replicate_succ, Array.replicate_zero, List.push_toArray, List.append_toArray, List.nil_append, List.cons_append]
  gi_wp2
  gi_loopw [7, 8] (fun v7 v8 wr => ∃ (pre : List S8) (r : S8), nm l = pre ++ nm r ∧ r.length ≤ l.length ∧ Boxes b1 b2 b3 r wr ∧ J pre wr) (fun v7 v8 wr => leftB b2 wr)
  case atStart => exact ⟨[], l, rfl, Nat.le_refl _, hbA, h0⟩
  case round =>
    obtain ⟨pre, r, hn, hr, hbr, hJ0⟩ := hrel
    have d1 := hbr.sep
    have d2 := hbr.rest
    have d3 := hbr.save
    have d4 := hbr.free
    have HBR := Lib.hid hbr
    have HJ0 := Lib.hid hJ0
    have HI := Lib.hid (sindex47 r wr (by omega))
    rw [idx47] at HI
    have hcut := nm_cut r
    have hrest : restS r = if hasS r then r.drop ((headS r).length + 1) else [] := rfl
    have hlen := fun h => congrArg List.length (head_tail r h)
    have htake := fun h => (congrArg (List.take (headS r).length) (head_tail r h)).trans List.take_left
    have hall := head_all r
    by_cases hh : hasS r = true
    · rw [if_pos hh] at HI hcut
      rw [if_pos hh] at hrest
      have hlr : (headS r).length < r.length := by have := hlen hh; rw [List.length_append, List.length_cons] at this; omega
      have HT := Lib.hid (htake hh)
      have hdl : (restS r).length < r.length := rest_len r hh
      obtain ⟨fn, tmps, assign, body, hy, hR⟩ := hY pre (headS r) wr hJ0
      have HN := Lib.hid (show nm l = (pre ++ [headS r]) ++ nm (restS r) from by rw [hn, hcut]; simp)
      have HS := Lib.hid (hrest)
      generalize restS r = t at *
      generalize headS r = x at *
      obtain ⟨k, hk⟩ : ∃ k, x.length = k := ⟨_, rfl⟩
      rw [hk] at HI hlr HT HS
      have z1 : (0 : Int) ≤ (k : Int) := by omega
      have z2 : decide ((k : Int) < 0) = false := decide_eq_false (by omega)
      have hw0 : IntKind.i64.wrap (k : Int) = (k : Int) := by rw [IntKind.wrap_i64]; omega
      have hw : IntKind.i64.wrap ((k : Int) + 1) = (k : Int) + 1 := by rw [IntKind.wrap_i64]; omega
      have hs1 : ∀ u : World, (Instr.slice 9 (.string (mkS r)) none (some (.int .i64 (k : Int))) none).run Tryd.prog u = .ok (.string (mkS x)) u := fun u => by
        rw [sl_to r k u (by omega), HT.out]
      have hs2 : ∀ u : World, (Instr.slice 9 (.string (mkS r)) (some (.int .i64 ((k : Int) + 1))) none none).run Tryd.prog u = .ok (.string (mkS t)) u := fun u => by
        have := sl_from r (k + 1) u (by omega)
        rw [HS.out]
        simpa using this
      have HL := Lib.hid (And.intro hdl hr)
      clear hn hr hbr hJ0 hcut hrest hlen htake hall hh hk hdl
      dsimp only at hy
      gi_wp2_with (refine ⟨trivial, ?_⟩; gi_at_call 77; refine (callsIn_wide.2 HI.out).mono ?_; rintro e w' ⟨rfl, rfl⟩)
      refine hR.mono ?_
      rintro e W3 (⟨rfl, hJ3, hB3⟩ | ⟨rfl, hJx3⟩)
      · have hb3 := HBR.out.below hB3 h1 h2 h3
        have d1 := hb3.sep
        have d2 := hb3.rest
        have d3 := hb3.save
        have d4 := hb3.free
        have HB3 := Lib.hid hb3
        have HJ3 := Lib.hid hJ3
        clear hb3 hJ3 hB3
        gi_wp2
        go_roundw
        case rel => exact ⟨pre ++ [x], t, HN.out, Nat.le_of_lt (Nat.lt_of_lt_of_le HL.out.1 HL.out.2), HB3.out.set h12 h32 t, hJs _ _ _ HJ3.out⟩
        case measure => rw [leftB_eq (HB3.out.set h12 h32 t), leftB_eq HBR.out]; exact HL.out.1
      · gi_wp2
        refine bodyPost_ret (results_none rfl _ _ _) rfl ?_
        exact ⟨⟨_, rfl⟩, .inr ⟨pre ++ [x], ⟨nm t, HN.out.symm⟩, hJx3⟩⟩
    · have hh2 : hasS r = false := by simpa using hh
      rw [if_neg hh] at HI hcut
      have hx := hall hh2
      obtain ⟨fn, tmps, assign, body, hy, hR⟩ := hY pre r wr hJ0
      have HN := Lib.hid (show nm l = pre ++ [r] from by rw [hn, hcut, hx])
      clear hn hr hbr hJ0 hcut hrest hlen htake hall hh hh2 hx
      dsimp only at hy
      gi_wp2_with (refine ⟨trivial, ?_⟩; gi_at_call 77; refine (callsIn_wide.2 HI.out).mono ?_; rintro e w' ⟨rfl, rfl⟩)
      refine hR.mono ?_
      rintro e W3 (⟨rfl, hJ3, hB3⟩ | ⟨rfl, hJx3⟩)
      · gi_wp2
        go_end0
        exact ⟨⟨_, rfl⟩, .inl (by rw [HN.out]; exact hJ3)⟩
      · gi_wp2
        go_end0
        exact ⟨⟨_, rfl⟩, .inr ⟨pre ++ [r], ⟨[], by rw [List.append_nil, HN.out]⟩, hJx3⟩⟩
/-- strings.SplitSeq at "/": three boxes are laid. -/
theorem splitSeq_any (l : S8) (u : World) : Calls Tryd.prog 53 #[.string (mkS l), .string ⟨#[47]⟩] u fun e w' => e = .returned (.func (.func 75) #[] #[.pointer (some ⟨u.heap.size + 1, 0, none⟩), .pointer (some ⟨u.heap.size, 0, none⟩), .pointer (some ⟨u.heap.size + 2, 0, none⟩)]) ∧ w' = ((u.alloc (.cells #[.string (mkS l)] 9)).alloc (.cells #[.string ⟨#[47]⟩] 9)).alloc (.cells #[.int .i64 0] 3) := by
  have hmf : ∀ (fn : Fn) (first cap : Array Value) (w : World), (Instr.makeFunc fn first cap).run Tryd.prog w = .ok (.func fn first cap) w := fun _ _ _ _ => rfl
  have key : Calls Tryd.prog 67 #[.string (mkS l), .string ⟨#[47]⟩, .int .i64 0] u fun e w' => e = .returned (.func (.func 75) #[] #[.pointer (some ⟨u.heap.size + 1, 0, none⟩), .pointer (some ⟨u.heap.size, 0, none⟩), .pointer (some ⟨u.heap.size + 2, 0, none⟩)]) ∧ w' = ((u.alloc (.cells #[.string (mkS l)] 9)).alloc (.cells #[.string ⟨#[47]⟩] 9)).alloc (.cells #[.int .i64 0] 3) := by
    go_enter Tryd.func67, Tryd.ntmps67
    go_wp2
    go_ret
    exact ⟨rfl, rfl⟩
  have HC := Lib.hid key
  clear key
  go_enter Tryd.func53, Tryd.ntmps53
  go_wp2_with fail
  refine HC.out.mono ?_
  rintro e w' ⟨rfl, rfl⟩
  go_wp2
  go_ret
  exact ⟨rfl, rfl⟩
end Go.Proofs.YtcgilacmdckbfaaDoor
