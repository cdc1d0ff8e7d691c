/- (*lane.Lanes).Drop. -/
import Derived.Test.YtcgilacmdckbfaaDoorFnd14
import Derived.Test.YtcgilacmdckbfaaDoorDel14
import Derived.Test.YtcgilacmdckbfaaDoorRln14
set_option linter.unusedSimpArgs false
set_option maxRecDepth 100000
set_option linter.unusedVariables false
namespace Go.Proofs.YtcgilacmdckbfaaDoor
open Go Go.RowKit

def okLn (s : Ln) : Prop := ((s.en ++ s.sc).map (·.path)).Nodup
def dropS (s : Ln) (p : S8) : Ln := ⟨s.clock, dropF s.en p, dropF s.sc p⟩
def hasL (s : Ln) (p : S8) : Bool := decide (0 ≤ findI s.en p) || decide (0 ≤ findI s.sc p)
theorem dropF_no {l : List Fl} {p : S8} (h : ∀ f ∈ l, f.path ≠ p) : dropF l p = l := by
  unfold dropF
  rw [List.filter_eq_self]
  intro f hf
  simpa using h f hf
theorem lnSet0 {w : World} {b : Nat} {x y z u : Value} {t : TypeId} (h : w.heap[b]? = some (.cells #[x, y, z] t (0, 0))) : (w.setCell ⟨b, 0, none⟩ u).heap[b]? = some (.cells #[u, y, z] t (0, 0)) := by
  simp [World.setCell, Array.getElem?_modify, h]
theorem lnSet1 {w : World} {b : Nat} {x y z u : Value} {t : TypeId} (h : w.heap[b]? = some (.cells #[x, y, z] t (0, 0))) : (w.setCell ⟨b, 1, none⟩ u).heap[b]? = some (.cells #[x, u, z] t (0, 0)) := by
  simp [World.setCell, Array.getElem?_modify, h]
theorem lnSet2 {w : World} {b : Nat} {x y z u : Value} {t : TypeId} (h : w.heap[b]? = some (.cells #[x, y, z] t (0, 0))) : (w.setCell ⟨b, 2, none⟩ u).heap[b]? = some (.cells #[x, y, u] t (0, 0)) := by
  simp [World.setCell, Array.getElem?_modify, h]
theorem lnCells {w : World} {b : Nat} {x y z : Value} {t : TypeId} (h : w.heap[b]? = some (.cells #[x, y, z] t (0, 0))) :
    w.cell? ⟨b, 0, none⟩ = some x ∧ w.cell? ⟨b, 1, none⟩ = some y ∧ w.cell? ⟨b, 2, none⟩ = some z ∧ ∀ o, w.frozen? ⟨b, o, none⟩ = false := by
  refine ⟨?_, ?_, ?_, fun o => ?_⟩ <;> simp [World.cell?, World.frozen?, h]
theorem dropF_cells {l : List Fl} {p : S8} {i : Nat} (hi : i < l.length) (hp : (l.getD i fl0).path = p) (hnd : (l.map (·.path)).Nodup) :
    (flsC l).take (i * 4) ++ (flsC l).drop ((i + 1) * 4) = flsC (dropF l p) ∧ (dropF l p).length = l.length - (i + 1 - i) := by
  rw [← cut_drop hi hp hnd]
  have hs : l = l.take i ++ l.drop i := (List.take_append_drop i l).symm
  have hs2 : l = l.take (i + 1) ++ l.drop (i + 1) := (List.take_append_drop (i + 1) l).symm
  refine ⟨?_, by simp; omega⟩
  rw [flsC_app]
  have e1 : (flsC l).take (i * 4) = flsC (l.take i) := by
    conv => lhs; rw [hs, flsC_app]
    rw [List.take_left' (by rw [flsC_len]; simp; omega)]
  have e2 : (flsC l).drop ((i + 1) * 4) = flsC (l.drop (i + 1)) := by
    conv => lhs; rw [hs2, flsC_app]
    rw [List.drop_left' (by rw [flsC_len]; simp; omega)]
  rw [e1, e2]
/-- A lane's slice is replaced. -/
theorem ln_fin1 {w w1 w2 : World} {b : Nat} {F : Nat → Prop} {s : Ln} {v1 v2 v' : Value} {en' : List Fl} (hB : Below w.heap.size w w1)
    (h1 : w.heap[b]? = some (.cells #[.int .i64 (s.clock : Int), v1, v2] 69 (0, 0))) (h2 : w.ownsRow 0 EF 4 v1 s.en.length (flsC s.en)) (h3 : w.ownsRow 0 EF 4 v2 s.sc.length (flsC s.sc))
    (h4 : F b) (h5 : ∀ g, v1.ownBlock = some g → F g ∧ g ≠ b) (h6 : ∀ g, v2.ownBlock = some g → F g ∧ g ≠ b ∧ v1.ownBlock ≠ some g)
    (hD : w2.ownsRow 0 EF 4 v' en'.length (flsC en')) (hob : ∀ g, v'.ownBlock = some g → v1.ownBlock = some g ∨ w.heap.size ≤ g) (hK : KpF (fun g => v1.ownBlock = some g) w1 w2) :
    LnAt (w2.setCell ⟨b, 1, none⟩ v') b (newF F w (w2.setCell ⟨b, 1, none⟩ v')) ⟨s.clock, en', s.sc⟩ ∧ KpF F w (w2.setCell ⟨b, 1, none⟩ v') := by
  have hlt : b < w.heap.size := (Array.getElem?_eq_some_iff.1 h1).1
  have hb1 : b < w1.heap.size := Nat.lt_of_lt_of_le hlt hB.size
  have hh1 := (hB.block b hlt).trans h1
  have hh2 := (hK.block b hb1 (fun e => (h5 b e).2 rfl)).trans hh1
  have hsz : (w2.setCell ⟨b, 1, none⟩ v').heap.size = w2.heap.size := by simp [World.setCell]
  have hks : KpF (fun g => g = b) w2 (w2.setCell ⟨b, 1, none⟩ v') := KpF.setCell w2 _ v' rfl
  refine ⟨⟨v', v2, lnSet1 hh2, own_kpF hD hks fun g hg => ?_, own_kpF (own_kpF (own_below h3 hB) hK fun g hg => (h6 g hg).2.2) hks fun g hg => (h6 g hg).2.1, .inl h4, fun g hg => ?_, fun g hg => ⟨.inl (h6 g hg).1, (h6 g hg).2.1, fun e => ?_⟩⟩, ?_⟩
  · rcases hob g hg with h | h
    · exact (h5 g h).2
    · omega
  · rcases hob g hg with h | h
    · exact ⟨.inl (h5 g h).1, (h5 g h).2⟩
    · exact ⟨.inr ⟨h, by rw [hsz]; exact (hD.lt g hg).2⟩, by omega⟩
  · rcases hob g e with h | h
    · exact (h6 g hg).2.2 h
    · exact absurd (h3.lt g hg).2 (by omega)
  · exact ((KpF.of_new hB).trans (hK.mono fun k _ hk => (h5 k hk).1)).trans (hks.mono fun k _ hk => by rw [hk]; exact h4)
theorem ln_fin2 {w w1 w2 : World} {b : Nat} {F : Nat → Prop} {s : Ln} {v1 v2 v' : Value} {sc' : List Fl} (hB : Below w.heap.size w w1)
    (h1 : w.heap[b]? = some (.cells #[.int .i64 (s.clock : Int), v1, v2] 69 (0, 0))) (h2 : w.ownsRow 0 EF 4 v1 s.en.length (flsC s.en)) (h3 : w.ownsRow 0 EF 4 v2 s.sc.length (flsC s.sc))
    (h4 : F b) (h5 : ∀ g, v1.ownBlock = some g → F g ∧ g ≠ b) (h6 : ∀ g, v2.ownBlock = some g → F g ∧ g ≠ b ∧ v1.ownBlock ≠ some g)
    (hD : w2.ownsRow 0 EF 4 v' sc'.length (flsC sc')) (hob : ∀ g, v'.ownBlock = some g → v2.ownBlock = some g ∨ w.heap.size ≤ g) (hK : KpF (fun g => v2.ownBlock = some g) w1 w2) :
    LnAt (w2.setCell ⟨b, 2, none⟩ v') b (newF F w (w2.setCell ⟨b, 2, none⟩ v')) ⟨s.clock, s.en, sc'⟩ ∧ KpF F w (w2.setCell ⟨b, 2, none⟩ v') := by
  have hlt : b < w.heap.size := (Array.getElem?_eq_some_iff.1 h1).1
  have hb1 : b < w1.heap.size := Nat.lt_of_lt_of_le hlt hB.size
  have hh1 := (hB.block b hlt).trans h1
  have hh2 := (hK.block b hb1 (fun e => (h6 b e).2.1 rfl)).trans hh1
  have hsz : (w2.setCell ⟨b, 2, none⟩ v').heap.size = w2.heap.size := by simp [World.setCell]
  have hks : KpF (fun g => g = b) w2 (w2.setCell ⟨b, 2, none⟩ v') := KpF.setCell w2 _ v' rfl
  refine ⟨⟨v1, v', lnSet2 hh2, own_kpF (own_kpF (own_below h2 hB) hK fun g hg e => (h6 g e).2.2 hg) hks fun g hg => (h5 g hg).2, own_kpF hD hks fun g hg => ?_, .inl h4, fun g hg => ⟨.inl (h5 g hg).1, (h5 g hg).2⟩, fun g hg => ?_⟩, ?_⟩
  · rcases hob g hg with h | h
    · exact (h6 g h).2.1
    · omega
  · rcases hob g hg with h | h
    · exact ⟨.inl (h6 g h).1, (h6 g h).2.1, (h6 g h).2.2⟩
    · exact ⟨.inr ⟨h, by rw [hsz]; exact (hD.lt g hg).2⟩, by omega, fun e => absurd (h2.lt g e).2 (by omega)⟩
  · exact ((KpF.of_new hB).trans (hK.mono fun k _ hk => (h6 k hk).1)).trans (hks.mono fun k _ hk => by rw [hk]; exact h4)
/-- What Drop leaves. -/
def DrpP (w : World) (b : Nat) (F : Nat → Prop) (s : Ln) (p : S8) (e : Ending) (w' : World) : Prop :=
  e = .returned (.int .i64 (if hasL s p then 0 else 8)) ∧ LnAt w' b (newF F w w') (dropS s p) ∧ KpF F w w'
set_option maxHeartbeats 4000000 in
theorem drop_any {w : World} {b : Nat} {F : Nat → Prop} {s : Ln} (h : LnAt w b F s) (hok : okLn s) (hn : s.en.length < 100000000 ∧ s.sc.length < 100000000) (p : S8) :
    Calls Tryd.prog 12 #[.pointer (some ⟨b, 0, none⟩), .string (mkS p)] w (fun e w' => DrpP w b F s p e w') := by
  have hlt := h.lt
  obtain ⟨v1, v2, h1, h2, h3, h4, h5, h6⟩ := h
  have hnd := hok
  unfold okLn at hnd
  rw [List.map_append, List.nodup_append] at hnd
  obtain ⟨nd1, nd2, nd3⟩ := hnd
  have HF1 := Lib.hid (find_any s.en p w h2 hn.1)
  have HF2 := Lib.hid (fun u (hu : Below w.heap.size w u) => find_any s.sc p u (own_below h3 hu) hn.2)
  obtain ⟨p1, n1, k1, e1⟩ : ∃ p n k, v1 = .slice p n k := by
    obtain ⟨p, k, e, -⟩ := own_shape h2; exact ⟨p, _, k, e⟩
  obtain ⟨p2, n2, k2, e2⟩ : ∃ p n k, v2 = .slice p n k := by
    obtain ⟨p, k, e, -⟩ := own_shape h3; exact ⟨p, _, k, e⟩
  have HC := Lib.hid (fun u (hu : Below w.heap.size w u) => lnCells ((hu.block b hlt).trans h1))
  have HH := Lib.hid (fun u (hu : Below w.heap.size w u) => (hu.block b hlt).trans h1)
  have HO1 := Lib.hid (fun u (hu : Below w.heap.size w u) => own_below h2 hu)
  have HO2 := Lib.hid (fun u (hu : Below w.heap.size w u) => own_below h3 hu)
  have HP := Lib.hid (And.intro h4 (And.intro h5 h6))
  have HIN := Lib.hid (And.intro h1 (And.intro h2 h3))
  have HND := Lib.hid (And.intro nd1 (And.intro nd2 nd3))
  have HZ := Lib.hid (And.intro (own_shape h2) (own_shape h3))
  have HLT := Lib.hid hlt
  have c1 := (lnCells h1).2.1
  rw [e1] at c1
  clear h1 h2 h3 h4 h5 h6 nd1 nd2 nd3 hok
  rcases findI_spec s.en p with ⟨hf, hf2⟩ | ⟨i, hf, hi, hp⟩
  · rcases findI_spec s.sc p with ⟨hg, hg2⟩ | ⟨i, hg, hi, hp⟩
    · have HR := Lib.hid (show hasL s p = false ∧ dropS s p = s from ⟨by unfold hasL; rw [hf, hg]; rfl, by unfold dropS; rw [dropF_no hf2, dropF_no hg2]⟩)
      rw [e1, hf] at HF1
      rw [e2, hg] at HF2
      clear hf hg hf2 hg2
      go_enter Tryd.func12, Tryd.ntmps12
      go_wp2_with (first | (go_at_call 29; refine HF1.out.mono ?_; rintro e w1 ⟨rfl, hB1⟩; have c2 := (HC.out w1 hB1).2.2.1; rw [e2] at c2; have HB1 := Lib.hid hB1; clear hB1) | (go_at_call 29; refine (HF2.out _ HB1.out).mono ?_; rintro e w2 ⟨rfl, hB2⟩; have HB2 := Lib.hid (HB1.out.trans (hB2.mono HB1.out.size)); clear hB2))
      go_ret
      refine ⟨by rw [HR.out.1]; rfl, ?_, KpF.of_new HB2.out⟩
      rw [HR.out.2]
      exact ⟨_, _, HH.out _ HB2.out, HO1.out _ HB2.out, HO2.out _ HB2.out, .inl HP.out.1, (fun g hg => ⟨.inl (HP.out.2.1 g hg).1, (HP.out.2.1 g hg).2⟩), (fun g hg => ⟨.inl (HP.out.2.2 g hg).1, (HP.out.2.2 g hg).2⟩)⟩
    · have HR := Lib.hid (show hasL s p = true ∧ dropS s p = ⟨s.clock, s.en, dropF s.sc p⟩ from ⟨by unfold hasL; rw [hg, decide_eq_true (Int.natCast_nonneg i), Bool.or_true], by unfold dropS; rw [dropF_no hf2]⟩)
      have hi0 : (0 : Int) ≤ (i : Int) := Int.natCast_nonneg i
      have hi1 : decide ((0 : Int) ≤ (i : Int)) = true := decide_eq_true hi0
      have hw6 : IntKind.i64.wrap ((i : Int) + 1) = (i : Int) + 1 := by rw [IntKind.wrap_i64]; omega
      have HDE := Lib.hid (fun u (hu : Below w.heap.size w u) => delete_any u (HO2.out u hu) i (i + 1) (by omega) (by omega) hn.2 (flsC_oneCell s.sc))
      rw [(dropF_cells hi hp HND.out.2.1).1, ← (dropF_cells hi hp HND.out.2.1).2, show ((i + 1 : Nat) : Int) = (i : Int) + 1 by omega] at HDE
      rw [e1, hf] at HF1
      rw [e2, hg] at HF2
      have HE2 := Lib.hid e2
      rw [e2] at HDE
      have e2' := e2
      clear hf hg hf2 hi hp
      go_enter Tryd.func12, Tryd.ntmps12
      go_wp2_with (first | (go_at_call 29; refine HF1.out.mono ?_; rintro e w1 ⟨rfl, hB1⟩; have c2 := (HC.out w1 hB1).2.2.1; rw [e2] at c2; have HB1 := Lib.hid hB1; clear hB1) | (go_at_call 29; refine (HF2.out _ HB1.out).mono ?_; rintro e w2 ⟨rfl, hB2⟩; have HB2 := Lib.hid (HB1.out.trans (hB2.mono HB1.out.size)); clear hB2; have c3 := (HC.out w2 HB2.out).2.2.1; rw [e2] at c3) | (go_at_call 30; refine (HDE.out _ HB2.out).mono ?_; rintro e w3 ⟨v', rfl, hD⟩; have HD := Lib.hid hD; obtain ⟨p', k', e', -⟩ := own_shape hD.1; subst e'; have c4 := (lnCells ((hD.2.2.block b (Nat.lt_of_lt_of_le HLT.out HB2.out.size) (fun e => (HP.out.2.2 b (by rw [HE2.out]; exact e)).2.1 rfl)).trans (HH.out _ HB2.out))).2.2; have c5 := c4.1; have c6 := c4.2 2; clear c4 hD))
      go_ret
      have hfin := ln_fin2 HB2.out HIN.out.1 HIN.out.2.1 HIN.out.2.2 HP.out.1 HP.out.2.1 HP.out.2.2 HD.out.1 (fun g hg => .inl (by rw [HE2.out, ← HD.out.2.1]; exact hg)) (by rw [HE2.out]; exact HD.out.2.2)
      refine ⟨by rw [HR.out.1]; rfl, ?_, hfin.2⟩
      rw [HR.out.2]
      exact hfin.1
  · have HR := Lib.hid (show hasL s p = true ∧ dropS s p = ⟨s.clock, dropF s.en p, s.sc⟩ from ⟨by unfold hasL; rw [hf, decide_eq_true (Int.natCast_nonneg i), Bool.true_or], by
      unfold dropS
      rw [dropF_no (l := s.sc) (fun x hx e => HND.out.2.2 _ (List.mem_map.2 ⟨s.en.getD i fl0, by rw [List.getD_eq_getElem?_getD, List.getElem?_eq_getElem hi]; exact List.getElem_mem _, rfl⟩) _ (List.mem_map.2 ⟨x, hx, rfl⟩) (by rw [hp, e]))]⟩)
    have hi0 : (0 : Int) ≤ (i : Int) := Int.natCast_nonneg i
    have hi1 : decide ((0 : Int) ≤ (i : Int)) = true := decide_eq_true hi0
    have hw6 : IntKind.i64.wrap ((i : Int) + 1) = (i : Int) + 1 := by rw [IntKind.wrap_i64]; omega
    have HDE := Lib.hid (fun u (hu : Below w.heap.size w u) => delete_any u (HO1.out u hu) i (i + 1) (by omega) (by omega) hn.1 (flsC_oneCell s.en))
    rw [(dropF_cells hi hp HND.out.1).1, ← (dropF_cells hi hp HND.out.1).2, show ((i + 1 : Nat) : Int) = (i : Int) + 1 by omega] at HDE
    rw [e1, hf] at HF1
    have HE1 := Lib.hid e1
    rw [e1] at HDE
    clear hf hi hp
    go_enter Tryd.func12, Tryd.ntmps12
    go_wp2_with (first | (go_at_call 29; refine HF1.out.mono ?_; rintro e w1 ⟨rfl, hB1⟩; have c2 := (HC.out w1 hB1).2.1; rw [e1] at c2; have HB2 := Lib.hid hB1; clear hB1) | (go_at_call 30; refine (HDE.out _ HB2.out).mono ?_; rintro e w3 ⟨v', rfl, hD⟩; have HD := Lib.hid hD; obtain ⟨p', k', e', -⟩ := own_shape hD.1; subst e'; have c4 := (lnCells ((hD.2.2.block b (Nat.lt_of_lt_of_le HLT.out HB2.out.size) (fun e => (HP.out.2.1 b (by rw [HE1.out]; exact e)).2 rfl)).trans (HH.out _ HB2.out))).2; have c5 := c4.1; have c6 := c4.2.2 1; clear c4 hD))
    go_ret
    have hfin := ln_fin1 HB2.out HIN.out.1 HIN.out.2.1 HIN.out.2.2 HP.out.1 HP.out.2.1 HP.out.2.2 HD.out.1 (fun g hg => .inl (by rw [HE1.out, ← HD.out.2.1]; exact hg)) (by rw [HE1.out]; exact HD.out.2.2)
    refine ⟨by rw [HR.out.1]; rfl, ?_, hfin.2⟩
    rw [HR.out.2]
    exact hfin.1
end Go.Proofs.YtcgilacmdckbfaaDoor
