/- Bytes that a call made and that may be written; a string as bytes. -/
import Derived.Test.YtgmogbgkokofoaaDig6
import Derived.Lib.ConvBytes
set_option linter.unusedSimpArgs false
set_option linter.unusedVariables false
namespace Go.Proofs.Ytgmogbgkokofoaa
open Go Go.RowKit

/-- The bytes b lie at q, in a block from base on, and may be written. -/
structure Fresh (w : World) (base : Nat) (q : Option Addr) (c : Nat) (b : List (BitVec 8)) : Prop where
  sl : Sl w q b
  nil : q = none → c = 0
  le : b.length ≤ c
  new : 0 < b.length → ∀ d o, q = some ⟨d, o, none⟩ → base ≤ d ∧ d < w.heap.size
  free : ∀ j, j < b.length → ∀ d o, q = some ⟨d, o, none⟩ → w.frozen? ⟨d, o + j, none⟩ = false
section
variable {w w' : World} {base : Nat} {q : Option Addr} {c : Nat} {b : List (BitVec 8)}
theorem Fresh.keep (h : Fresh w base q c b) (hs : w.heap.size ≤ w'.heap.size) (k : ∀ d, base ≤ d → d < w.heap.size → w'.heap[d]? = w.heap[d]?) : Fresh w' base q c b := by
  have hk : ∀ d o, 0 < b.length → q = some ⟨d, o, none⟩ → w'.heap[d]? = w.heap[d]? := fun d o hb e => k d (h.new hb d o e).1 (h.new hb d o e).2
  refine ⟨fun j hj => ?_, h.nil, h.le, fun hb d o e => ⟨(h.new hb d o e).1, Nat.lt_of_lt_of_le (h.new hb d o e).2 hs⟩, fun j hj d o e => ?_⟩
  · obtain ⟨d, o, e, hx⟩ := h.sl j hj
    exact ⟨d, o, e, by rw [World.cell?_of_block (w := w) (hk d o (by omega) e)]; exact hx⟩
  · rw [World.frozen?_of_block (w := w) (hk d o (by omega) e)]
    exact h.free j hj d o e
theorem Fresh.lower (h : Fresh w base q c b) {b2 : Nat} (hb : b2 ≤ base) : Fresh w b2 q c b :=
  ⟨h.sl, h.nil, h.le, fun hl d o e => ⟨Nat.le_trans hb (h.new hl d o e).1, (h.new hl d o e).2⟩, h.free⟩
theorem Fresh.of_below (h : Fresh w base q c b) (k : Below w.heap.size w w') : Fresh w' base q c b := h.keep k.size fun d _ hd => k.block d hd
theorem Fresh.far (h : Fresh w base q c b) {y : Nat} (hy : y < base) (o : Nat) (v : Value) : Fresh (w.setCell ⟨y, o, none⟩ v) base q c b :=
  h.keep (by simp) fun d hd _ => Below.heap_setCell _ _ _ _ (by show d ≠ y; omega)
theorem Fresh.nothing (w : World) (base : Nat) : Fresh w base none 0 [] := ⟨Sl.nil _ _, fun _ => rfl, Nat.le_refl _, fun h => absurd h (Nat.lt_irrefl 0), fun j hj => absurd hj (Nat.not_lt_zero j)⟩
theorem Fresh.bt (h : Fresh w base q c b) (k n : Int) : Bt w ⟨k, n, b⟩ q c := ⟨h.sl, h.nil, h.le⟩
theorem OwnB.fresh {v : Value} (h : OwnB w base v b) : ∃ q c, v = .slice q b.length c ∧ Fresh w base q c b := by
  obtain ⟨q, c, rfl, hs, hp, hc⟩ := h.shape
  refine ⟨q, c, rfl, hs, hp, hc, fun _ d o e => h.lt d (by rw [e]; rfl), fun j hj d o e => ?_⟩
  rcases h.2 with ⟨hv, hl⟩ | ⟨g, cap, cur, hv, _, hg, _⟩
  · injection hv with e1 e2 e3
    rw [e1] at e; cases e
  · injection hv with e1 e2 e3
    rw [e1] at e
    injection e with e
    injection e with e4 e5
    subst e4
    simp only [World.frozen?, hg]
    simp
theorem Row.fresh {E : Nat} {T : TypeId} (h : Row w E T 32 (dgF b)) (hb : base ≤ E) (hl : b.length = 32) : Fresh w base (some ⟨E, 0, none⟩) 32 b :=
  ⟨Sl.row h (by omega) fun j hj => rfl, (fun e => by cases e), by omega, fun _ d o e => by injection e with e; injection e with e1 e2; subst e1; exact ⟨hb, h.lt⟩, fun j hj d o e => by injection e with e; injection e with e1 e2; subst e1; exact h.free _⟩
end
theorem strOf_size (b : List (BitVec 8)) : (strOf b).size = b.length := by simp [strOf, ByteArray.size]
theorem conv_bytes (w : World) (b : List (BitVec 8)) : ∃ c w', (convert 9 23 (.string (strOf b))).run Try.prog w = .ok (.slice (some ⟨w.heap.size, 0, none⟩) b.length c) w' ∧ Fresh w' w.heap.size (some ⟨w.heap.size, 0, none⟩) c b ∧ Below w.heap.size w w' := by
  have h := Go.Lib.run_convert_string_bytes (P := Try.prog) w 9 23 5 (strOf b) (u := .string) (by kernel_rfl) und35 (by kernel_rfl)
  rw [strOf_size] at h
  have hsz := Go.Lib.bytesWorld_size w 5 (strOf b)
  have hge := grownCap_ge w b.length 0 5
  refine ⟨_, _, h, ⟨fun j hj => ⟨w.heap.size, 0, rfl, ?_⟩, (fun e => by cases e), hge, fun _ d o e => ?_, fun j hj d o e => ?_⟩, ?_⟩
  · rw [Nat.zero_add, Go.Lib.bytesWorld_cell w 5 (strOf b) j (by rw [strOf_size]; exact hj), B_eq']
    congr 2
    simp [strOf, List.getD_eq_getElem?_getD, hj]
  · injection e with e
    injection e with e1 e2
    omega
  · injection e with e
    injection e with e1 e2
    subst e1 e2
    have hg := Go.Lib.bytesWorld_at_new w 5 (strOf b)
    simp only [World.frozen?, hg]
    have hcs : (Go.Lib.bytesCells w 5 (strOf b)).size = b.length + (grownCap w b.length 0 5 - b.length) := by
      simp [Go.Lib.bytesCells, strOf, ByteArray.size]
    simp [hcs]
    omega
  · exact ⟨rfl, rfl, rfl, by omega, fun k hk => Go.Lib.bytesWorld_at_old w 5 (strOf b) k hk⟩
end Go.Proofs.Ytgmogbgkokofoaa
