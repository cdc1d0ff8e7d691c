/- copy of bytes into a row of the call's own. -/
import Derived.Test.YtfemgkamgokjcaaGreatDoorBytes
import Derived.Laws.CopyOwn
set_option linter.unusedSimpArgs false
set_option maxRecDepth 100000
set_option linter.unusedVariables false
namespace Go.Proofs.YtfemgkamgokjcaaGreatDoor
open Go Go.RowKit

theorem tab_splice (m n : Nat) (g : Nat → Value) (l : List (BitVec 8)) (hl : l.length = n) (hle : n ≤ m) :
    ((tab m g).toList.take 0 ++ (l.map B ++ (tab m g).toList.drop (0 + (l.map B).length))).toArray = tab m (fun j => if j < n then B (l.getD j 0#8) else g j) := by
  subst hl
  unfold tab
  congr 1
  apply List.ext_getElem?
  intro j
  simp only [List.take_zero, List.nil_append, Nat.zero_add, List.length_map]
  rw [List.getElem?_append]
  by_cases h1 : j < l.length
  · have h2 : j < m := by omega
    simp [h1, h2, List.getD_eq_getElem?_getD]
  · rw [if_neg (by simpa using h1)]
    by_cases h2 : j < m
    · have h3 : l.length + (j - l.length) = j := by omega
      simp [h1, h2, h3]
    · have h3 : m ≤ j := by omega
      have h4 : m ≤ l.length + (j - l.length) := by omega
      simp [h3, h4]
theorem wpl_copy {ops : Array Oper} {rest : List Oper} {o : Oper} {a : Act} {Q : Exit → Act → World → Prop} (w : World) (hgd : o.guard = none) (d s : Operand)
    (ho : o.op = .call { callee := .builtin .copy, args := #[d, s], argTypes := #[35, 35] }) (E m c : Nat) (g : Nat → Value) (q : Option Addr) (n c' : Nat) (l : List (BitVec 8))
    (hd : a.eval d = .slice (some ⟨E, 0, none⟩) m c) (hs : a.eval s = .slice q n c') (hR : Row w E 5 m g) (hl : l.length = n) (hle : n ≤ m) (hsl : Sl w q l)
    (h : ∀ w', Row w' E 5 m (fun j => if j < n then B (l.getD j 0#8) else g j) → Kp E w w' → wpList Tryz.prog ops Q rest (a.put o.dst (.int .i64 (n : Int))) w') : wpList Tryz.prog ops Q (o :: rest) a w := by
  by_cases h0 : n = 0
  · subst h0
    refine wpList_copy_nothing hgd d s _ _ ho 5 und35 (by kernel_rfl) _ _ _ _ _ _ hd hs (by exact Nat.zero_min _) ?_
    exact h w (hR.congr fun j _ => by rw [if_neg (by omega)]) (Kp.refl _ _)
  · obtain ⟨c0, o0, rfl, hc⟩ := hsl 0 (by omega)
    have key := wpList_copy_own (P := Tryz.prog) (w := w) (Q := Q) (ops := ops) (rest := rest) (o := o) (a := a) hgd d s _ _ ho 5 und35 (by kernel_rfl) E 0 m c ⟨c0, o0, none⟩ n c' hd hs (tab m g) 5 hR (l.map B) (by rw [List.length_map, hl]; exact (Nat.min_eq_left hle).symm)
      (fun j v hv => hsl.news j v hv) (by rw [tab_size, List.length_map]; omega) (one_map l)
    refine key ?_
    rw [tab_splice m n g l hl hle]
    have hlen : (l.map B).length = n := by rw [List.length_map, hl]
    have hgi : goInt ((l.map B).length : Int) = .int .i64 (n : Int) := by rw [hlen]; rfl
    rw [hgi]
    exact h _ (setRow_heap w E _ _ 5 _ hR) ⟨rfl, rfl, rfl, by simp [World.setRow], fun k _ hk => setRow_other w E k _ hk⟩
end Go.Proofs.YtfemgkamgokjcaaGreatDoor
