/- Digests: of the program and of the reference, in the words of the other layers. -/
import Derived.Test.YtllpcllgliknpaaGreatDoorShHash
import Derived.Test.YtllpcllgliknpaaGreatDoorShRefS
import Derived.Test.YtllpcllgliknpaaGreatDoorCode6
import Derived.Test.YtllpcllgliknpaaGreatDoorOwnK8
set_option linter.unusedSimpArgs false
set_option maxRecDepth 100000
set_option linter.unusedVariables false
namespace Go.Proofs.YtllpcllgliknpaaGreatDoor
open Go Go.RowKit

theorem shaB (x : BitVec 8) : Sha.B x = B x := by rw [Sha.B_eq', B_eq']
theorem sl_sha {w : World} {p : Option Addr} {l : List (BitVec 8)} (h : Sl w p l) : Sha.Sl w p l := fun j hj => by
  obtain ⟨c, o, e, hc⟩ := h j hj
  exact ⟨c, o, e, by rw [hc, shaB]⟩
/-- The digest of bytes. -/
def digL (l : List (BitVec 8)) : List (BitVec 8) := (List.range 32).map (Sha.dg l)
theorem digL_len (l : List (BitVec 8)) : (digL l).length = 32 := by unfold digL; simp
theorem dig_sha (l : List (BitVec 8)) : Sha.dgV (Sha.dg l) = digV (digL l) := by
  unfold Sha.dgV digV
  have : tab 32 (dgF (digL l)) = Sha.tab 32 (fun i => Sha.B (Sha.dg l i)) := by
    apply Array.ext_getElem?
    intro i
    by_cases h : i < 32
    · rw [tab_get 32 _ i h, Sha.tab_get 32 _ i h]
      unfold dgF digL
      rw [shaB]
      simp [List.getD_eq_getElem?_getD, h]
    · rw [Array.getElem?_eq_none (by rw [tab_size]; omega), Array.getElem?_eq_none (by rw [Sha.tab_size]; omega)]
  rw [this]
/-- The two tables of words lie where the program has them. -/
def Tb (w : World) : Prop := Sha.Ft w ∧ Sha.Kt w ∧ 1 < w.heap.size
theorem Tb.on {w u : World} (h : Tb w) (hB : Below w.heap.size w u) : Tb u := ⟨h.1.of_below hB, h.2.1.of_below hB, Nat.lt_of_lt_of_le h.2.2 hB.size⟩
/-- sha.Sum of one part. -/
theorem sum1_any (l : List (BitVec 8)) (c o : Nat) (q : Option Addr) (n d : Nat) (w : World) (hl : l.length = n) (hc : w.cell? ⟨c, o, none⟩ = some (.slice q n d)) (hs : Sl w q l) (hT : Tb w) (hn : n < 100000000) :
    Calls Tryz.prog 31 #[.slice (some ⟨c, o, none⟩) 1 1] w fun e w' => e = .returned (digV (digL l)) ∧ Below w.heap.size w w' := by
  have h := Sha.shaSum_any [l] (some ⟨c, o, none⟩) 1 w (fun i hi => by
    obtain rfl : i = 0 := by simp at hi; omega
    exact ⟨c, o, q, d, rfl, by rw [Nat.add_zero, hc]; show some (Value.slice q n d) = some (Value.slice q l.length d); rw [hl], sl_sha hs⟩) hT.1 hT.2.1 hT.2.2 (by simp; omega) (by simp)
  refine h.mono fun e w' ⟨h1, h2⟩ => ⟨?_, h2⟩
  rw [h1]
  have : [l].flatten = l := by simp
  rw [this, dig_sha]
theorem refSum1_any (l : List (BitVec 8)) (p : Option Addr) (n cap : Nat) (w : World) (hl : l.length = n) (hs : Sl w p l) (hp : p = none → cap = 0) (hT : Tb w) (hn : n < 100000000) :
    Calls Tryz.prog 35 #[.slice p n cap] w fun e w' => e = .returned (digV (digL l)) ∧ Below w.heap.size w w' := by
  subst hl
  refine (Sha.refSum_any l p cap w (sl_sha hs) hp hT.1 hT.2.1 hT.2.2 (by omega)).mono fun e w' ⟨h1, h2⟩ => ⟨?_, h2⟩
  rw [h1, dig_sha]
end Go.Proofs.YtllpcllgliknpaaGreatDoor
