/- The reference's disk in memory: where its lists lie. -/
import Derived.Test.YtjglgohchhdkkaaGreatDoorRefb8
import Derived.Test.YtjglgohchhdkkaaGreatDoorLsg8
set_option linter.unusedSimpArgs false
set_option linter.unusedVariables false
namespace Go.Proofs.YtjglgohchhdkkaaGreatDoor
open Go Go.RowKit

theorem elR : ElK 27 32 (.slice none 0 0) 1 24 := ⟨by kernel_rfl, by kernel_rfl, rfl, by decide, by decide⟩
theorem LsG.files {G : Nat → Prop} {w : World} {p : Option Addr} {n cap : Nat} {l : List Fl} (h : LsG G w p n cap 5 (l.flatMap encF)) : LsF w p n cap l :=
  ⟨h.at_, by have := h.len; rw [flat_len encF 5 encF_len] at this; omega, h.nil, h.le⟩
/-- A row of headers, and the bytes behind each. -/
structure BsG (G : Nat → Prop) (w : World) (p : Option Addr) (n cap : Nat) (l : List S8) : Prop where
  len : l.length = n
  row : ∃ cs, LsG G w p n cap 1 cs ∧ ∀ i, i < l.length → ∃ q c, cs[i]? = some (.slice q (l.getD i []).length c) ∧ LsG G w q (l.getD i []).length c 1 (bytC (l.getD i []))
section
variable {G G' : Nat → Prop} {w w' : World} {p : Option Addr} {n cap : Nat} {l : List S8}
theorem BsG.keep (h : BsG G w p n cap l) (hk : ∀ c, G c → c < w.heap.size → w'.heap[c]? = w.heap[c]?) (hs : w.heap.size ≤ w'.heap.size) : BsG G w' p n cap l := by
  obtain ⟨cs, h1, h2⟩ := h.row
  exact ⟨h.len, cs, h1.keep hk hs, fun i hi => by obtain ⟨q, c, e1, e2⟩ := h2 i hi; exact ⟨q, c, e1, e2.keep hk hs⟩⟩
theorem BsG.of_below (h : BsG G w p n cap l) (hB : Below w.heap.size w w') : BsG G w' p n cap l := h.keep (fun c _ hc => hB.block c hc) hB.size
theorem BsG.wider (h : BsG G w p n cap l) (hG : ∀ c, G c → c < w.heap.size → G' c) : BsG G' w p n cap l := by
  obtain ⟨cs, h1, h2⟩ := h.row
  exact ⟨h.len, cs, h1.wider hG, fun i hi => by obtain ⟨q, c, e1, e2⟩ := h2 i hi; exact ⟨q, c, e1, e2.wider hG⟩⟩
/-- The header of number i. -/
theorem BsG.head (h : BsG G w p n cap l) {i : Nat} (hi : i < n) : ∃ a o q c, p = some ⟨a, o, none⟩ ∧ a < w.heap.size ∧ w.cell? ⟨a, o + i, none⟩ = some (.slice q (l.getD i []).length c) ∧ LsG G w q (l.getD i []).length c 1 (bytC (l.getD i [])) := by
  obtain ⟨cs, h1, h2⟩ := h.row
  obtain ⟨q, c, e1, e2⟩ := h2 i (by rw [h.len]; exact hi)
  obtain ⟨a, o, e3, e4, e5⟩ := h1.at_.cell e1
  exact ⟨a, o, q, c, e3, e4, e5, e2⟩
end
structure Hd where
  bp : Option Addr
  bn : Nat
  bc : Nat
  sp : Option Addr
  sn : Nat
  sc : Nat
  fp : Option Addr
  fn : Nat
  fc : Nat
  wp : Option Addr
  wn : Nat
  wc : Nat
def aggD (m : Dk) (h : Hd) : Value := .agg #[.int .i64 m.room, .int .i64 m.count, .slice h.bp h.bn h.bc, .slice h.sp h.sn h.sc, .slice h.fp h.fn h.fc, .slice h.wp h.wn h.wc]
def boxD (m : Dk) (h : Hd) : Obj := .cells #[.int .i64 m.room, .int .i64 m.count, .slice h.bp h.bn h.bc, .slice h.sp h.sn h.sc, .slice h.fp h.fn h.fc, .slice h.wp h.wn h.wc] 31
/-- The disk's lists lie there. -/
structure RfG (G : Nat → Prop) (w : World) (m : Dk) (h : Hd) : Prop where
  bodies : BsG G w h.bp h.bn h.bc m.bodies
  seen : LsG G w h.sp h.sn h.sc 5 (m.seen.flatMap encF)
  safe : LsG G w h.fp h.fn h.fc 5 (m.safe.flatMap encF)
  waits : LsG G w h.wp h.wn h.wc 7 (m.waits.flatMap encC)
section
variable {G G' : Nat → Prop} {w w' : World} {m : Dk} {h : Hd}
theorem RfG.keep (r : RfG G w m h) (hk : ∀ c, G c → c < w.heap.size → w'.heap[c]? = w.heap[c]?) (hs : w.heap.size ≤ w'.heap.size) : RfG G w' m h :=
  ⟨r.bodies.keep hk hs, r.seen.keep hk hs, r.safe.keep hk hs, r.waits.keep hk hs⟩
theorem RfG.of_below (r : RfG G w m h) (hB : Below w.heap.size w w') : RfG G w' m h := r.keep (fun c _ hc => hB.block c hc) hB.size
theorem RfG.wider (r : RfG G w m h) (hG : ∀ c, G c → c < w.heap.size → G' c) : RfG G' w m h := ⟨r.bodies.wider hG, r.seen.wider hG, r.safe.wider hG, r.waits.wider hG⟩
theorem RfG.sn (r : RfG G w m h) : m.seen.length = h.sn := by have := r.seen.len; rw [flat_len encF 5 encF_len] at this; omega
theorem RfG.fn (r : RfG G w m h) : m.safe.length = h.fn := by have := r.safe.len; rw [flat_len encF 5 encF_len] at this; omega
theorem RfG.wn (r : RfG G w m h) : m.waits.length = h.wn := by have := r.waits.len; rw [flat_len encC 7 encC_len] at this; omega
end
/-- Nothing at all. -/
def hd0 : Hd := ⟨none, 0, 0, none, 0, 0, none, 0, 0, none, 0, 0⟩
theorem RfG.zero (G : Nat → Prop) (w : World) (room : Int) : RfG G w ⟨room, 0, [], [], [], []⟩ hd0 := by
  have z : ∀ k, LsG G w none 0 0 k [] := fun k => ⟨LsC.nil _ _, by simp, fun c o e _ => by (exfalso; cases e), fun _ => rfl, Nat.le_refl _⟩
  exact ⟨⟨rfl, [], z 1, fun i hi => absurd hi (by simp)⟩, z 5, z 5, z 7⟩
end Go.Proofs.YtjglgohchhdkkaaGreatDoor
