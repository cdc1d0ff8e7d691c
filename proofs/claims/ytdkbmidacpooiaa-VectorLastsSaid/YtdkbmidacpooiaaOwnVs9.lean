/- Slices of vectors of the call's own: they are appended to. -/
import Derived.Test.YtdkbmidacpooiaaLst9
import Derived.Test.YtdkbmidacpooiaaOwnK8
set_option linter.unusedSimpArgs false
set_option linter.unusedVariables false
namespace Go.Proofs.Ytdkbmidacpooiaa
open Go Go.RowKit

theorem elV9 : ElK 37 25 (.agg (Array.replicate 16 (Value.int .i64 0))) 16 128 := ⟨by kernel_rfl, by kernel_rfl, rfl, by decide, by decide⟩
/-- A vector's cells. -/
def encV (f : Nat → Int) : List Value := (List.range 16).map (vf f)
theorem encV_len (f : Nat → Int) : (encV f).length = 16 := by unfold encV; simp
theorem encV_get (f : Nat → Int) (j : Nat) (hj : j < 16) : (encV f)[j]? = some (.int .i64 (f j)) := by unfold encV vf; simp [hj]
theorem encV_one (f : Nat → Int) : ∀ u ∈ encV f, u.oneCell' = true := by
  intro u hu
  unfold encV at hu
  obtain ⟨i, _, rfl⟩ := List.mem_map.1 hu
  rfl
theorem encVs_len (l : List (Nat → Int)) : (l.flatMap encV).length = l.length * 16 := by
  induction l with
  | nil => rfl
  | cons f r ih => rw [List.flatMap_cons, List.length_append, ih, encV_len, List.length_cons]; omega
theorem encVs_get (l : List (Nat → Int)) (i j : Nat) (hi : i < l.length) (hj : j < 16) : (l.flatMap encV)[i * 16 + j]? = some (.int .i64 (l[i] j)) := by
  induction l generalizing i with
  | nil => exact absurd hi (by simp)
  | cons f r ih =>
    rw [List.flatMap_cons]
    cases i with
    | zero => rw [Nat.zero_mul, Nat.zero_add, List.getElem?_append_left (by rw [encV_len]; exact hj)]; exact encV_get f j hj
    | succ i =>
      rw [show (i + 1) * 16 + j = 16 + (i * 16 + j) by omega, List.getElem?_append_right (by rw [encV_len]; omega), encV_len, Nat.add_sub_cancel_left]
      exact ih i (by simpa using hi)
/-- The slice v, among the blocks from base on, holds the vectors l. -/
def OwnVs (w : World) (base : Nat) (v : Value) (l : List (Nat → Int)) : Prop := w.ownsRow base 25 16 v l.length (l.flatMap encV)
section
variable {w w' : World} {base : Nat} {v : Value} {l : List (Nat → Int)}
theorem OwnVs.nil (w : World) (base : Nat) : OwnVs w base (.slice none 0 0) [] := ⟨rfl, .inl ⟨rfl, rfl⟩⟩
theorem OwnVs.of_below (h : OwnVs w base v l) (k : Below w.heap.size w w') : OwnVs w' base v l := own_below h k
theorem OwnVs.keep (h : OwnVs w base v l) (hb : ∀ g, v.ownBlock = some g → w'.heap[g]? = w.heap[g]?) : OwnVs w' base v l := own_keep h hb
theorem OwnVs.lt (h : OwnVs w base v l) : ∀ k, v.ownBlock = some k → base ≤ k ∧ k < w.heap.size := World.ownsRow.lt h
theorem OwnVs.vecs (h : OwnVs w base v l) : ∃ p cap, v = .slice p l.length cap ∧ VecsAt w p l.length l ∧ l.length ≤ cap := by
  obtain ⟨p, cap, e, h1, h2, h3, h4⟩ := own_shape h
  refine ⟨p, cap, e, ⟨rfl, fun hn => ?_⟩, h3⟩
  obtain ⟨c, o, hp, hc⟩ := h1 0 (by rw [encVs_len]; omega)
  refine ⟨c, o, hp, fun i hi j hj => ?_⟩
  obtain ⟨c2, o2, hp2, hc2⟩ := h1 (i * 16 + j) (by rw [encVs_len]; omega)
  rw [hp] at hp2
  injection hp2 with hp2
  injection hp2 with e1 e2
  subst e1 e2
  rw [Nat.add_assoc, hc2, encVs_get l i j hi hj]
end
theorem LsC.vec {w : World} {b o : Nat} {f : Nat → Int} (h : VecAt w b o f) : LsC w (some ⟨b, o, none⟩) (encV f) := fun j hj => by
  rw [encV_len] at hj
  exact ⟨b, o, rfl, by rw [h j hj, encV_get f j hj]⟩
/-- One vector appended. -/
theorem wpl_pushV {ops : Array Oper} {rest : List Oper} {o : Oper} {a : Act} {Q : Exit → Act → World → Prop} (w : World) (hgd : o.guard = none) (s x : Operand)
    (ho : o.op = .call { callee := .builtin .append, args := #[s, x], argTypes := #[37, 37] })
    (base : Nat) (v : Value) (l : List (Nat → Int)) (hs : a.eval s = v) (hown : OwnVs w base v l) (b : Nat) (f : Nat → Int) (hx : a.eval x = .slice (some ⟨b, 0, none⟩) 1 1) (hc : VecAt w b 0 f)
    (hlen : l.length < 1000000) (hb : base ≤ w.heap.size)
    (h : ∀ p' cap' w', OwnVs w' base (.slice p' (l.length + 1) cap') (l ++ [f]) → w.grownBy w' v.ownBlock → wpList Try.prog ops Q rest (a.put o.dst (.slice p' (l.length + 1) cap')) w') : wpList Try.prog ops Q (o :: rest) a w :=
  wpl_appendK elV9 w hgd s x ho base hs hown (some ⟨b, 0, none⟩) 1 1 (encV f) (by rw [encV_len]) hx (LsC.vec hc) (fun e => by cases e) (encV_one f) (by omega) hb
    (fun v' w' h1 h2 _ => by
      have h3 : OwnVs w' base v' (l ++ [f]) := by
        unfold OwnVs
        rw [List.flatMap_append, List.length_append, show [f].flatMap encV = encV f by simp]
        exact h1
      obtain ⟨p, cap, e, -⟩ := own_shape h3
      rw [List.length_append] at e
      subst e
      exact h p cap w' h3 h2)
end Go.Proofs.Ytdkbmidacpooiaa
