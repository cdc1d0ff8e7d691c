/- Bytes as cells; cells lie where a slice begins, in a block where they may. -/
import Derived.Test.YtjglgohchhdkkaaGreatDoorOwnK8
import Derived.Test.YtjglgohchhdkkaaGreatDoorStr7
set_option linter.unusedSimpArgs false
set_option linter.unusedVariables false
namespace Go.Proofs.YtjglgohchhdkkaaGreatDoor
open Go Go.RowKit

theorem elB : ElK 32 5 (.int .u8 0) 1 1 := ⟨by kernel_rfl, by kernel_rfl, rfl, by decide, by decide⟩
/-- Bytes as cells. -/
def bytC (b : S8) : List Value := b.map fun c => .int .u8 (c.toNat : Int)
theorem bytC_len (b : S8) : (bytC b).length = b.length := by unfold bytC; rw [List.length_map]
theorem bytC_one (b : S8) : ∀ u ∈ bytC b, u.oneCell' = true := by
  intro u hu
  unfold bytC at hu
  obtain ⟨c, _, rfl⟩ := List.mem_map.1 hu
  rfl
theorem bytC_get (b : S8) (j : Nat) (hj : j < b.length) : (bytC b)[j]? = some (.int .u8 (chr b j : Int)) := by
  unfold bytC
  rw [List.getElem?_map, List.getElem?_eq_getElem hj, chr_eq hj]
  rfl
/-- Cells lie where a slice begins, in a block where they may. -/
structure LsG (G : Nat → Prop) (w : World) (p : Option Addr) (n cap k : Nat) (cs : List Value) : Prop where
  at_ : LsC w p cs
  len : cs.length = n * k
  may : ∀ c o, p = some ⟨c, o, none⟩ → 0 < cs.length → G c ∧ c < w.heap.size
  nil : p = none → cap = 0
  le : n ≤ cap
section
variable {G G' : Nat → Prop} {w w' : World} {p : Option Addr} {n cap k : Nat} {cs : List Value}
theorem LsG.keep (h : LsG G w p n cap k cs) (hk : ∀ c, G c → c < w.heap.size → w'.heap[c]? = w.heap[c]?) (hs : w.heap.size ≤ w'.heap.size) : LsG G w' p n cap k cs :=
  ⟨fun j hj => by
    obtain ⟨c, o, e, hc⟩ := h.at_ j hj
    have hm := h.may c o e (by omega)
    exact ⟨c, o, e, (World.cell?_of_block (w := w) (w' := w') (a := ⟨c, o + j, none⟩) (hk c hm.1 hm.2)).trans hc⟩, h.len, fun c o e hl => ⟨(h.may c o e hl).1, Nat.lt_of_lt_of_le (h.may c o e hl).2 hs⟩, h.nil, h.le⟩
theorem LsG.of_below (h : LsG G w p n cap k cs) (hB : Below w.heap.size w w') : LsG G w' p n cap k cs := h.keep (fun c _ hc => hB.block c hc) hB.size
theorem LsG.wider (h : LsG G w p n cap k cs) (hG : ∀ c, G c → c < w.heap.size → G' c) : LsG G' w p n cap k cs :=
  ⟨h.at_, h.len, fun c o e hl => ⟨hG c (h.may c o e hl).1 (h.may c o e hl).2, (h.may c o e hl).2⟩, h.nil, h.le⟩
theorem LsG.own {E : TypeId} {base : Nat} {v : Value} (h : w.ownsRow base E k v n cs) (hG : ∀ c, base ≤ c → G c) : ∃ p cap, v = .slice p n cap ∧ LsG G w p n cap k cs := by
  obtain ⟨p, cap, e, h1, h2, h3, h4⟩ := own_shape h
  exact ⟨p, cap, e, h1, h.1, fun c o ec _ => ⟨hG c (h4 c o ec).1, (h4 c o ec).2⟩, h2, h3⟩
theorem LsG.nilp (h : LsG G w p n cap k cs) (hk : 0 < k) : p = none → cap = 0 ∧ n = 0 := fun e => ⟨h.nil e, by have := h.nil e; have := h.le; omega⟩
end
end Go.Proofs.YtjglgohchhdkkaaGreatDoor
