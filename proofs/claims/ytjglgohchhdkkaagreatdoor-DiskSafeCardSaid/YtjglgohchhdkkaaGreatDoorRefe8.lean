/- The reference's do and change. -/
import Derived.Test.YtjglgohchhdkkaaGreatDoorRefd8
import Derived.Test.YtjglgohchhdkkaaGreatDoorHnd8
set_option linter.unusedSimpArgs false
set_option linter.unusedVariables false
namespace Go.Proofs.YtjglgohchhdkkaaGreatDoor
open Go Go.RowKit

theorem refDo_any (c : Ch) (hc : ChOk c) (l : List Fl) (hsh : ShortF l) (q : Option Addr) (n cap N : Nat) (u : World) (hn : n < 100000) (own : OwnF u N (.slice q n cap) l) (hN : N ≤ u.heap.size) :
    Calls Tryz.prog 42 #[.slice q n cap, aggC c] u fun e w' => ∃ p c', e = .returned (.slice p (doL l c).length c') ∧ OwnF w' N (.slice p (doL l c).length c') (doL l c) ∧ Below u.heap.size u w' := by
  obtain ⟨pp, cc, e, hls, -⟩ := own.shape
  injection e with e1 e2 e3
  subst e1 e2 e3
  have fin : ∀ (Y : List Fl) e w', (∃ v, e = Ending.returned v ∧ OwnF w' u.heap.size v Y ∧ Below u.heap.size u w') → ∃ p c', e = .returned (.slice p Y.length c') ∧ OwnF w' N (.slice p Y.length c') Y ∧ Below u.heap.size u w' := fun Y e w' ⟨v, h1, h2, h3⟩ => by
    obtain ⟨p, c', rfl, -, -⟩ := h2.shape
    exact ⟨p, c', h1, own_lower h2 hN, h3⟩
  obtain ⟨k, src, f⟩ := c
  obtain ⟨hk, hp, hsr⟩ := hc
  dsimp only at hk hp hsr
  rcases hk with rfl | rfl | rfl
  · exact (refDo_write l q _ cap src f hn (by omega) hsh u hls).mono (fin _)
  · cases hf : findL l src with
    | none =>
      have hd : doL l ⟨2, src, f⟩ = l := by unfold doL; simp only [hf]
      rw [hd]
      refine (refDo_none l q _ cap src f hn u hls hf).mono ?_
      rintro e w' ⟨rfl, hB⟩
      exact ⟨q, cap, rfl, own_below own hB, hB⟩
    | some i =>
      have hd : doL l ⟨2, src, f⟩ = withoutL (withoutL l src false) f.p true ++ [{ l.getD i fl0 with p := f.p }] := by unfold doL; simp only [hf]
      rw [hd]
      exact (refDo_rename l q _ cap src f.p f hn hsr hp hsh u hls i hf (findL_lt hf)).mono (fin _)
  · exact (refDo_remove l q _ cap src f hn hsr hsh u hls).mono (fin _)
end Go.Proofs.YtjglgohchhdkkaaGreatDoor
