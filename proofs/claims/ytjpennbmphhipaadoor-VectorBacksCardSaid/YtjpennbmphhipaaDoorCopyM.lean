/- copy of bytes into a row of the call's own: as many as the shorter one has. -/
import Derived.Test.YtjpennbmphhipaaDoorCopyB
import Derived.Test.YtjpennbmphhipaaDoorCuts
import Derived.Deep.RegionLaw
set_option linter.unusedSimpArgs false
set_option maxRecDepth 100000
set_option linter.unusedVariables false
namespace Go.Proofs.YtjpennbmphhipaaDoor
open Go Go.RowKit

/-- A cut of bytes from any number of them on. -/
theorem slb_lo (q : Option Addr) (n cap k : Nat) (w : World) (hk : k ≤ n) :
    (slT 25 (.slice q n cap) (some (.int .i64 (k : Int))) none none).run Tryd.prog w = .ok (.value (.slice (cutA q cap k) (n - k) (cap - k))) w := by
  have h1 := run_sliceAt_slice (P := Tryd.prog) w 25 (.slice q n cap) (some (.int .i64 (k : Int))) none none und35
  rw [run_slice_l (P := Tryd.prog) w 25 q n cap und35 .i64 (k : Int) (by omega) (by omega), sizeB] at h1
  simp only [slT, Sem.run_bind, h1, Result.andThen_ok, Sem.run_pure]
  simp only [sliced, Int.toNat_natCast, Nat.mul_one, cutA]
/-- What the copy leaves. -/
def copied1 (l : List (BitVec 8)) (t : Nat) (g : Nat → Value) : Nat → Value := fun j => if j < t then B (l.getD j 0#8) else g j
theorem run_copyM (w : World) (ty : TypeId) (E m c : Nat) (g : Nat → Value) (q : Option Addr) (n c' : Nat) (l : List (BitVec 8)) (hR : Row w E 5 m g) (hl : l.length = n) (hsl : Sl w q l) (t : Nat) (ht : t = min m n) :
    ∃ w', (Builtin.copy_ #[25, 25] ty #[.slice (some ⟨E, 0, none⟩) m c, .slice q n c']).run Tryd.prog w = .ok (.int .i64 (t : Int)) w' ∧ Row w' E 5 m (copied1 l t g) ∧ Kp E w w' := by
  by_cases h0 : t = 0
  · subst h0
    have hn : Nat.min n m = 0 := by show min n m = 0; omega
    refine ⟨w, ?_, hR.congr fun j _ => by rw [copied1, if_neg (by omega)], Kp.refl _ _⟩
    have := run_copy_none (P := Tryd.prog) w 25 25 ty 5 (some ⟨E, 0, none⟩) q m c n c' und35 (by kernel_rfl) hn
    rw [this]
    rfl
  · obtain ⟨c0, o0, rfl, hc⟩ := hsl 0 (by omega)
    have hlen : ((l.take t).map B).length = t := by rw [List.length_map, List.length_take]; omega
    have key := run_copy_row (P := Tryd.prog) w 25 25 ty 5 E 0 m c ⟨c0, o0, none⟩ n c' (tab m g) 5 ((l.take t).map B) und35 (by kernel_rfl) hR (by rw [hlen, ht]; exact Nat.min_comm _ _)
      (fun j v hv => by
        have hj : j < t := by
          have := (List.getElem?_eq_some_iff.1 hv).1
          rw [hlen] at this; exact this
        refine hsl.news j v ?_
        rw [List.getElem?_map] at hv ⊢
        rw [List.getElem?_take, if_pos hj] at hv
        exact hv) (by rw [tab_size, hlen]; omega) (one_map _)
    have e : ((tab m g).toList.take 0 ++ (l.take t).map B ++ (tab m g).toList.drop (0 + ((l.take t).map B).length)).toArray = tab m (copied1 l t g) := by
      have := tab_splice m t g (l.take t) (by rw [List.length_take]; omega) (by omega)
      rw [List.append_assoc, this]
      refine tab_congr fun j _ => ?_
      unfold copied1
      by_cases hj : j < t
      · rw [if_pos hj, if_pos hj]; congr 1; simp [List.getD_eq_getElem?_getD, hj]
      · rw [if_neg hj, if_neg hj]
    rw [e, hlen] at key
    exact ⟨_, key, setRow_heap w E _ _ 5 _ hR, ⟨rfl, rfl, rfl, by simp [World.setRow], fun k _ hk => setRow_other w E k _ hk⟩⟩
section
variable {ops : Array Oper} {rest : List Oper} {o : Oper} {a : Act} {Q : Exit → Act → World → Prop} (w : World) (hgd : o.guard = none) (d s : Operand)
    (ho : o.op = .call { callee := .builtin .copy, args := #[d, s], argTypes := #[25, 25] }) (E m c : Nat) (g : Nat → Value) (q : Option Addr) (n c' : Nat) (l : List (BitVec 8))
    (hd : a.eval d = .slice (some ⟨E, 0, none⟩) m c) (hs : a.eval s = .slice q n c') (hR : Row w E 5 m g) (hl : l.length = n) (hsl : Sl w q l) (t : Nat) (ht : t = min m n)
include hgd ho hd hs hR hl hsl ht
theorem wpl_copyM (h : ∀ w', Row w' E 5 m (copied1 l t g) → Kp E w w' → wpList Tryd.prog ops Q rest (a.put o.dst (.int .i64 (t : Int))) w') : wpList Tryd.prog ops Q (o :: rest) a w := by
  refine wpList_plain hgd fun K hK => ?_
  obtain ⟨w', hr, h2, h3⟩ := run_copyM w o.type E m c g q n c' l hR hl hsl t ht
  unfold Oper.wp execOp
  simp only [ho, resolve, invoke, builtin, Sem.run_bind, Sem.run_pure, Result.andThen_ok, List.map_toArray, List.map_cons, List.map_nil, hd, hs, hr]
  exact hK _ _ (h w' h2 h3)
theorem step_copyM {K : Act → World → Prop} {Q : Exit → Act → World → Prop} {F : Prop} (h : ∀ w', Row w' E 5 m (copied1 l t g) → Kp E w w' → K (a.put o.dst (.int .i64 (t : Int))) w') :
    if Region.wanted o (yielded ops a.tmps) = true then Oper.wp Tryd.prog o a w K Q else F := by
  have hw : Region.wanted o (yielded ops a.tmps) = true := by simp [Region.wanted, hgd]
  rw [if_pos hw]
  obtain ⟨w', hr, h2, h3⟩ := run_copyM w o.type E m c g q n c' l hR hl hsl t ht
  unfold Oper.wp execOp
  simp only [ho, resolve, invoke, builtin, Sem.run_bind, Sem.run_pure, Result.andThen_ok, List.map_toArray, List.map_cons, List.map_nil, hd, hs, hr]
  exact h w' h2 h3
end
end Go.Proofs.YtjpennbmphhipaaDoor
