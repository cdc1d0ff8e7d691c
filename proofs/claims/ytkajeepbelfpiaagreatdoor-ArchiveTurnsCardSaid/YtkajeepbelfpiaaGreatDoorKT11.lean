/- Merged texts: Pst11, Pas11, Prc11, Par11, Kwn11, Dsx8, Lod11, Awp11, Rfu11, Sav11. -/
import Derived.Test.YtkajeepbelfpiaaGreatDoorKT10
import Derived.Test.YtkajeepbelfpiaaGreatDoorKT2
import Derived.Test.YtkajeepbelfpiaaGreatDoorKT6
import Derived.Deep.RegionHeld3
import Derived.Sort.Walk0
import Derived.Test.YtkajeepbelfpiaaGreatDoorKT7
import Derived.Lib.SlBytesConst
import Derived.Test.YtkajeepbelfpiaaGreatDoorKT9
import Derived.BigQuiet
set_option linter.unusedSimpArgs false
set_option linter.unusedVariables false
/- What is taken of bytes as an archive (plain); what archive.Parse's closure carries. -/
set_option maxRecDepth 100000
namespace Go.Proofs.YtkajeepbelfpiaaGreatDoor
open Go Go.RowKit

attribute [-go_sem] Sha.exec_store
/-- So many slices of bytes; an archive's parts. -/
def takeBs : Nat → By → Except Nat (List By × By)
  | 0, l => .ok ([], l)
  | k + 1, l => stp (nextI l 1 4096) l fun x l1 => (takeBs k l1).map fun y => (x.b :: y.1, y.2)
def takeAr (l : By) : Except Nat ((Nat × List By × By) × By) :=
  stp (takeI l maxT) l fun g l1 => stp (takeI l1 128) l1 fun k l2 => match takeBs k l2 with
    | .error c => .error c
    | .ok (bs, l3) => stp (nextI l3 4 0) l3 fun d l4 => .ok ((g, bs, d.b), l4)
/-- Slices of bytes, with their headers. -/
def HdsC (w : World) (N : Nat) (v : Value) (bs : List By) (cs : List Value) : Prop :=
  w.ownsRow N 56 1 v bs.length cs ∧ ∀ i, i < bs.length → ∃ p cap, cs[i]? = some (.slice p (bs.getD i []).length cap) ∧ Sl w p (bs.getD i []) ∧ (p = none → cap = 0) ∧ (bs.getD i []).length ≤ cap ∧ ∀ c o, p = some ⟨c, o, none⟩ → N ≤ c ∧ c < w.heap.size ∧ v.ownBlock ≠ some c
def HdL (w : World) (N : Nat) (v : Value) (bs : List By) : Prop := ∃ cs, HdsC w N v bs cs
theorem HdsC.keep {w w' : World} {N : Nat} {v : Value} {bs : List By} {cs : List Value} (h : HdsC w N v bs cs) (hs : w.heap.size ≤ w'.heap.size) (hb : ∀ c, N ≤ c → c < w.heap.size → w'.heap[c]? = w.heap[c]?) : HdsC w' N v bs cs := by
  obtain ⟨h1, h2⟩ := h
  refine ⟨own_keep h1 (fun g hg => hb g (h1.lt g hg).1 (h1.lt g hg).2), fun i hi => ?_⟩
  obtain ⟨p, cap, e1, e2, e3, e5, e4⟩ := h2 i hi
  exact ⟨p, cap, e1, e2.keepP (fun c o e hlt => hb c (e4 c o e).1 hlt), e3, e5, fun c o e => ⟨(e4 c o e).1, Nat.lt_of_lt_of_le (e4 c o e).2.1 hs, (e4 c o e).2.2⟩⟩
theorem HdL.keep {w w' : World} {N : Nat} {v : Value} {bs : List By} (h : HdL w N v bs) (hs : w.heap.size ≤ w'.heap.size) (hb : ∀ c, N ≤ c → c < w.heap.size → w'.heap[c]? = w.heap[c]?) : HdL w' N v bs := by
  obtain ⟨cs, h⟩ := h
  exact ⟨cs, h.keep hs hb⟩
theorem HdsC.push {w w' : World} {N : Nat} {v v' : Value} {bs : List By} {cs : List Value} {p : Option Addr} {cap : Nat} {r : By} (h : HdsC w N v bs cs)
    (hs : Sl w p r) (hp : p = none → cap = 0) (hl : r.length ≤ cap) (hb : ∀ c o, p = some ⟨c, o, none⟩ → N ≤ c ∧ c < w.heap.size ∧ v.ownBlock ≠ some c)
    (hO : w'.ownsRow N 56 1 v' (bs.length + 1) (cs ++ [.slice p r.length cap])) (hg : w.grownBy w' v.ownBlock) (hor : v'.ownBlock = v.ownBlock ∨ v'.ownBlock = some w.heap.size) : HdL w' N v' (bs ++ [r]) := by
  obtain ⟨h1, h2⟩ := h
  have hcl : cs.length = bs.length := by have := h1.1; omega
  have key : ∀ c, c < w.heap.size → v.ownBlock ≠ some c → w'.heap[c]? = w.heap[c]? ∧ v'.ownBlock ≠ some c := fun c h3 h4 =>
    ⟨hg.block c h3 (fun e => h4 e.symm), fun e => by
      rcases hor with e2 | e2
      · exact h4 (by rw [← e2]; exact e)
      · rw [e2] at e; injection e with e; omega⟩
  refine ⟨cs ++ [.slice p r.length cap], by rw [List.length_append]; exact hO, fun i hi => ?_⟩
  by_cases h : i < bs.length
  · obtain ⟨p', cap', e1, e2, e3, e5, e4⟩ := h2 i h
    have hgd : (bs ++ [r]).getD i [] = bs.getD i [] := by simp [List.getD_eq_getElem?_getD, List.getElem?_append_left h]
    rw [hgd]
    exact ⟨p', cap', by rw [List.getElem?_append_left (by omega)]; exact e1, e2.keepP (fun c o e hlt => (key c hlt (e4 c o e).2.2).1), e3, e5, fun c o e => ⟨(e4 c o e).1, Nat.lt_of_lt_of_le (e4 c o e).2.1 hg.size, (key c (e4 c o e).2.1 (e4 c o e).2.2).2⟩⟩
  · have hi' : i = bs.length := by rw [List.length_append] at hi; simp at hi; omega
    subst hi'
    have hgd : (bs ++ [r]).getD bs.length [] = r := by simp [List.getD_eq_getElem?_getD]
    rw [hgd]
    exact ⟨p, cap, by rw [← hcl]; simp, hs.keepP (fun c o e hlt => (key c hlt (hb c o e).2.2).1), hp, hl, fun c o e => ⟨(hb c o e).1, Nat.lt_of_lt_of_le (hb c o e).2.1 hg.size, (key c (hb c o e).2.1 (hb c o e).2.2).2⟩⟩
/-- Such a slice's shape. -/
theorem HdL.shape {w : World} {N : Nat} {v : Value} {bs : List By} (h : HdL w N v bs) : ∃ p cap, v = .slice p bs.length cap ∧ (p = none → cap = 0) ∧ bs.length ≤ cap ∧ (∀ c o, p = some ⟨c, o, none⟩ → N ≤ c ∧ c < w.heap.size) ∧
    ∀ i, i < bs.length → ∃ c o q d, p = some ⟨c, o, none⟩ ∧ w.cell? ⟨c, o + i, none⟩ = some (.slice q (bs.getD i []).length d) ∧ Sl w q (bs.getD i []) ∧ (q = none → d = 0) ∧ (bs.getD i []).length ≤ d := by
  obtain ⟨cs, h1, h2⟩ := h
  obtain ⟨p, cap, e, h3, h4, h5, h6⟩ := own_shape h1
  refine ⟨p, cap, e, h4, h5, h6, fun i hi => ?_⟩
  obtain ⟨q, d, e1, e2, e3, e5, -⟩ := h2 i hi
  obtain ⟨c, o, ep, hlt, hc⟩ := h3.cell e1
  exact ⟨c, o, q, d, ep, hc, e2, e3, e5⟩
/-- The boxes of Parse while its closure reads. -/
structure PSt (N : Nat) (w : World) (a : Addr) (b4 b5 b6 : Nat) (g : Int) (v : Value) (g6 : Nat → Value) (x : World) : Prop where
  c4 : x.cell? ⟨b4, 0, none⟩ = some (.int .i64 g)
  f4 : x.frozen? ⟨b4, 0, none⟩ = false
  c5 : x.cell? ⟨b5, 0, none⟩ = some v
  f5 : x.frozen? ⟨b5, 0, none⟩ = false
  r6 : Row x b6 41 32 g6
  lo : Loc N a.block w x
  be : ∀ M, M ≤ b4 → M ≤ b5 → M ≤ b6 → M ≤ N → Below M w x
/-- How the boxes lie. -/
structure PLy (N : Nat) (w : World) (a : Addr) (b4 b5 b6 : Nat) : Prop where
  n4 : b4 < N
  n5 : b5 < N
  n6 : b6 < N
  na : N ≤ a.block
  nw : a.block < w.heap.size
  e45 : b4 ≠ b5
  e46 : b4 ≠ b6
  e56 : b5 ≠ b6
section
variable {N : Nat} {w x y : World} {a : Addr} {b4 b5 b6 : Nat} {g : Int} {v : Value} {g6 : Nat → Value} {p : Option Addr} {l : By}
theorem PSt.kp (L : PLy N w a b4 b5 b6) (h : PSt N w a b4 b5 b6 g v g6 x) (k : Kp a.block x y) : PSt N w a b4 b5 b6 g v g6 y := by
  have h1 := L.n4; have h2 := L.n5; have h3 := L.n6; have h4 := L.na; have h5 := L.nw
  have hs := h.lo.size
  refine ⟨by rw [k.cell (by exact World.block_lt_of_cell? x _ h.c4) (by show b4 ≠ _; omega)]; exact h.c4, by rw [World.frozen?_of_block (w := x) (k.block b4 (by omega) (by omega))]; exact h.f4,
    by rw [k.cell (by exact World.block_lt_of_cell? x _ h.c5) (by show b5 ≠ _; omega)]; exact h.c5, by rw [World.frozen?_of_block (w := x) (k.block b5 (by omega) (by omega))]; exact h.f5,
    h.r6.of_kp k (by omega), h.lo.trans (Loc.ofKp k), fun M m1 m2 m3 m4 => (h.be M m1 m2 m3 m4).trans (k.below (by omega) (by omega))⟩
theorem PSt.below (L : PLy N w a b4 b5 b6) (h : PSt N w a b4 b5 b6 g v g6 x) {M : Nat} (hM : w.heap.size ≤ M) (k : Below M x y) : PSt N w a b4 b5 b6 g v g6 y := by
  have h1 := L.n4; have h2 := L.n5; have h3 := L.n6; have h4 := L.na; have h5 := L.nw
  refine ⟨by rw [k.cell (by show b4 < M; omega)]; exact h.c4, by rw [World.frozen?_of_block (w := x) (k.block b4 (by omega))]; exact h.f4,
    by rw [k.cell (by show b5 < M; omega)]; exact h.c5, by rw [World.frozen?_of_block (w := x) (k.block b5 (by omega))]; exact h.f5,
    h.r6.of_block (k.block b6 (by omega)), ⟨Nat.le_trans h.lo.size k.size, fun i i1 i2 i3 => (k.block i (by omega)).trans (h.lo.block i i1 i2 i3)⟩, fun M' m1 m2 m3 m4 => (h.be M' m1 m2 m3 m4).trans (k.mono (by omega))⟩
theorem PSt.set4 (L : PLy N w a b4 b5 b6) (h : PSt N w a b4 b5 b6 g v g6 x) (g' : Int) : PSt N w a b4 b5 b6 g' v g6 (x.setCell ⟨b4, 0, none⟩ (.int .i64 g')) := by
  have h1 := L.n4; have h2 := L.n5; have h3 := L.n6; have h4 := L.na; have h5 := L.nw; have e1 := L.e45; have e2 := L.e46
  have hb : ∀ k, k ≠ b4 → (x.setCell ⟨b4, 0, none⟩ (.int .i64 g')).heap[k]? = x.heap[k]? := fun k hk => Below.heap_setCell _ _ _ _ hk
  exact ⟨World.cell?_setCell_same _ _ _ h.c4, by rw [World.frozen?_setCell]; exact h.f4, by rw [World.cell?_of_block (w := x) (hb b5 (by omega))]; exact h.c5, by rw [World.frozen?_setCell]; exact h.f5, h.r6.of_block (hb b6 (by omega)),
    h.lo.trans (Loc.low x L.n4 0 _), fun M m1 m2 m3 m4 => (h.be M m1 m2 m3 m4).trans ((Below.refl M x).setCell (by exact m1) _)⟩
theorem PSt.set5 (L : PLy N w a b4 b5 b6) (h : PSt N w a b4 b5 b6 g v g6 x) (v' : Value) : PSt N w a b4 b5 b6 g v' g6 (x.setCell ⟨b5, 0, none⟩ v') := by
  have h1 := L.n4; have h2 := L.n5; have h3 := L.n6; have h4 := L.na; have h5 := L.nw; have e1 := L.e45; have e2 := L.e56
  have hb : ∀ k, k ≠ b5 → (x.setCell ⟨b5, 0, none⟩ v').heap[k]? = x.heap[k]? := fun k hk => Below.heap_setCell _ _ _ _ hk
  exact ⟨by rw [World.cell?_of_block (w := x) (hb b4 (by omega))]; exact h.c4, by rw [World.frozen?_setCell]; exact h.f4, World.cell?_setCell_same _ _ _ h.c5, by rw [World.frozen?_setCell]; exact h.f5, h.r6.of_block (hb b6 (by omega)),
    h.lo.trans (Loc.low x L.n5 0 _), fun M m1 m2 m3 m4 => (h.be M m1 m2 m3 m4).trans ((Below.refl M x).setCell (by exact m2) _)⟩
theorem PSt.put6 (L : PLy N w a b4 b5 b6) (h : PSt N w a b4 b5 b6 g v g6 x) {h6 : Nat → Value} (hr : Row y b6 41 32 h6) (k : Kp b6 x y) : PSt N w a b4 b5 b6 g v h6 y := by
  have h1 := L.n4; have h2 := L.n5; have h3 := L.n6; have h4 := L.na; have h5 := L.nw; have e1 := L.e46; have e2 := L.e56
  have hs := h.lo.size
  refine ⟨by rw [k.cell (by exact World.block_lt_of_cell? x _ h.c4) (by show b4 ≠ _; omega)]; exact h.c4, by rw [World.frozen?_of_block (w := x) (k.block b4 (by omega) (by omega))]; exact h.f4,
    by rw [k.cell (by exact World.block_lt_of_cell? x _ h.c5) (by show b5 ≠ _; omega)]; exact h.c5, by rw [World.frozen?_of_block (w := x) (k.block b5 (by omega) (by omega))]; exact h.f5,
    hr, ⟨Nat.le_trans hs k.size, fun i i1 i2 i3 => (k.block i (by omega) (by omega)).trans (h.lo.block i i1 i2 i3)⟩, fun M m1 m2 m3 m4 => (h.be M m1 m2 m3 m4).trans (k.below m3 (by omega))⟩
/-- The reader behind a store into one of the boxes. -/
theorem rdP_box {b : Nat} (h : RdP p N x a l) (hb : b < N) (hp : 0 < l.length → ∀ c o, p = some ⟨c, o, none⟩ → c ≠ b) (k : Kp b x y) : RdP p N y a l := by
  have hl := rdP_lie _ _ _ _ _ h
  exact rdP_stay4 _ _ _ _ _ _ h (k.block _ hl.2 (by omega)) (fun h0 c o e hc => k.block c (by omega) (hp h0 c o e))
end
end Go.Proofs.YtkajeepbelfpiaaGreatDoor
/- archive.Parse's closure. -/
set_option maxRecDepth 100000
namespace Go.Proofs.YtkajeepbelfpiaaGreatDoor
open Go Go.RowKit

attribute [-go_sem] Sha.exec_store
theorem lsc_one11 (x : World) (v : Value) (T : TypeId) : LsC (x.alloc (.cells #[v] T)) (some ⟨x.heap.size, 0, none⟩) [v] := fun j hj => by
  obtain rfl : j = 0 := by simp at hj; omega
  exact ⟨x.heap.size, 0, rfl, by rw [Nat.add_zero]; exact World.cell?_alloc_new _ _ _ _⟩
/-- What Parse's closure tells. -/
def PasIn (p : Option Addr) (N : Nat) (w : World) (a : Addr) (b4 b5 b6 : Nat) (T : Except Nat ((Nat × List By × By) × By)) (e : Ending) (w' : World) : Prop :=
  Loc N a.block w w' ∧ (∀ M, M ≤ b4 → M ≤ b5 → M ≤ b6 → M ≤ N → Below M w w') ∧ match T with
    | .error c => c ≠ 0 ∧ Thrown (ThrP a) c e w'
    | .ok ((g, bs, d), rest) => e = .returned (.tuple #[]) ∧ RdP p N w' a rest ∧ w'.cell? ⟨b4, 0, none⟩ = some (.int .i64 (g : Int)) ∧ (∃ v, w'.cell? ⟨b5, 0, none⟩ = some v ∧ HdL w' w.heap.size v bs) ∧ Row w' b6 41 32 (dgF d) ∧ d.length = 32
attribute [local go_sem ↓] exec_load32 exec_store32F exec_bs
attribute [local go_sem] bsSl
set_option maxRecDepth 100000 in
set_option maxHeartbeats 16000000 in
theorem pas_in (p : Option Addr) (N : Nat) (w : World) (a : Addr) (l : By) (b4 b5 b6 : Nat) (g6 : Nat → Value) (L : PLy N w a b4 b5 b6) (hR : RdP p N w a l) (hP : PSt N w a b4 b5 b6 0 (.slice none 0 0) g6 w) (hpp : 0 < l.length → ∀ c o, p = some ⟨c, o, none⟩ → c ≠ b4 ∧ c ≠ b5 ∧ c ≠ b6) :
    Calls Tryz.prog 137 (#[.pointer (some a)] ++ #[.pointer (some ⟨b4, 0, none⟩), .pointer (some ⟨b5, 0, none⟩), .pointer (some ⟨b6, 0, none⟩)]) w (PasIn p N w a b4 b5 b6 (takeAr l)) := by
  obtain ⟨T, hT⟩ : ∃ T, takeAr l = T := ⟨_, rfl⟩
  rw [hT]
  unfold takeAr at hT
  have HR0 := Lib.hid hR
  have HP0 := Lib.hid hP
  have HPP := Lib.hid hpp
  obtain ⟨H, hH⟩ : ∃ h, w.heap.size = h := ⟨_, rfl⟩
  have HH := Lib.hid hH
  clear hR hP hpp hH
  show Calls Tryz.prog _ #[.pointer (some a), .pointer (some ⟨b4, 0, none⟩), .pointer (some ⟨b5, 0, none⟩), .pointer (some ⟨b6, 0, none⟩)] w _
  go_enter Tryz.func137, Tryz.ntmps137
  obtain ⟨y, hy⟩ : ∃ y, takeI l maxT = y := ⟨_, rfl⟩
  obtain ⟨g, kx, c⟩ := y
  have HC := Lib.hid (show Calls Tryz.prog 138 #[.pointer (some a), .int .i64 9223372036854775807] w (RdPost RdP ThrP p N w a l (takeI l maxT).2.2 (takeI l maxT).2.1 fun v _ => v = .int .i64 ((takeI l maxT).1 : Int)) from rdP_number p N w a l 9223372036854775807 HR0.out)
  rw [hy] at HC hT
  try dsimp only at HC
  by_cases hc : c = 0
  · subst hc
    rw [stp_ok rfl] at hT
    try dsimp only at hT
    have HE_l1 := Lib.hid hy
    obtain ⟨l1, hl⟩ : ∃ l', l.drop kx = l' := ⟨_, rfl⟩
    have HLE_l1 := Lib.hid (show l1.length ≤ l.length from by rw [← hl, List.length_drop]; omega)
    rw [hl] at hT
    have HLD := Lib.hid hl
    have HT := Lib.hid hT
    clear hT hl hy
    go_wp2_with fail
    refine HC.out.mono ?_
    rintro e w1 ⟨hK, ⟨-, ⟨v, rfl, hval⟩, hR⟩ | ⟨hcc, -⟩⟩
    · rw [HLD.out] at hR
      have HP1 := Lib.hid (PSt.kp L HP0.out hK)
      have HKD_l1 := Lib.hid hK
      have HR_l1 := Lib.hid hR
      have hT := HT.out
      clear HC HT hK hR HLD
      subst hval
      obtain ⟨w2, hw2⟩ : ∃ x, w1.setCell ⟨b4, 0, none⟩ (.int .i64 (g : Int)) = x := ⟨_, rfl⟩
      have cc4 := HP1.out.c4
      have cf4 := HP1.out.f4
      have HP2 := Lib.hid (show PSt N w a b4 b5 b6 (g : Int) (.slice none 0 0) g6 w2 from by rw [← hw2]; exact PSt.set4 L HP1.out g)
      have HR2 := Lib.hid (show RdP p N w2 a l1 from rdP_box HR_l1.out L.n4 (fun h0 c o e => (HPP.out (by have := HLE_l1.out; omega) c o e).1) (by rw [← hw2]; exact (Kp.refl _ _).setCell 0 _))
      obtain ⟨y, hy⟩ : ∃ y, takeI l1 128 = y := ⟨_, rfl⟩
      obtain ⟨m, kx, c⟩ := y
      have HC := Lib.hid (rdP_count p N w2 a l1 128 HR2.out)
      rw [hy] at HC hT
      try dsimp only at HC
      by_cases hc : c = 0
      · subst hc
        rw [stp_ok rfl] at hT
        try dsimp only at hT
        have HE_l2 := Lib.hid hy
        obtain ⟨l2, hl⟩ : ∃ l', l1.drop kx = l' := ⟨_, rfl⟩
        have HLE_l2 := Lib.hid (show l2.length ≤ l1.length from by rw [← hl, List.length_drop]; omega)
        rw [hl] at hT
        have HLD := Lib.hid hl
        have HT := Lib.hid hT
        clear hT hl hy
        go_wp2_with fail
        clear hw2 cc4 cf4
        refine HC.out.mono ?_
        rintro e w3 ⟨hK, ⟨-, ⟨v, rfl, hval⟩, hR⟩ | ⟨hcc, -⟩⟩
        · rw [HLD.out] at hR
          have HP3 := Lib.hid (PSt.kp L HP2.out hK)
          have HKD_l2 := Lib.hid hK
          have HR_l2 := Lib.hid hR
          have hT := HT.out
          clear HC HT hK hR HLD
          subst hval
          have hm := takeI_le HE_l2.out
          have HM := Lib.hid hm
          have HT := Lib.hid hT
          clear hT
          have c5 := HP3.out.c5
          go_wp2
          go_loopw [9] (fun i wr => ∃ (k : Nat) (dn : List By) (li : By) (q : Option Addr) (cap : Nat) (cs : List Value), k ≤ m ∧ i = .int .i64 (k : Int) ∧ dn.length = k ∧ li.length ≤ l.length ∧ takeBs m l2 = (takeBs (m - k) li).map (fun x => (dn ++ x.1, x.2)) ∧ RdP p N wr a li ∧ HdsC wr H (.slice q k cap) dn cs ∧ PSt N w a b4 b5 b6 (g : Int) (.slice q k cap) g6 wr) (fun i _ => m - (intOf i).toNat)
          case atStart => exact ⟨0, [], l2, none, 0, [], Nat.zero_le _, rfl, rfl, by have := HLE_l1.out; have := HLE_l2.out; omega, by rw [Nat.sub_zero]; cases takeBs m l2 <;> simp [Except.map], HR_l2.out, ⟨⟨rfl, .inl ⟨rfl, rfl⟩⟩, fun i h => absurd h (by simp)⟩, HP3.out⟩
          case round =>
            obtain ⟨k, dn, li, q, cap, cs, hkm, rfl, hdn, hll, hnx, hR, hO, hP⟩ := hrel
            have HDN := Lib.hid hdn
            have HX0 := Lib.hid (show RdP p N wr.drew a li ∧ HdsC wr.drew H (.slice q k cap) dn cs ∧ PSt N w a b4 b5 b6 (g : Int) (.slice q k cap) g6 wr.drew from ⟨rdP_below hR (Below.refl _ _).drew, hO.keep (Nat.le_refl _) (fun _ _ _ => rfl), PSt.below L hP hP.lo.size (Below.refl _ _).drew⟩)
            by_cases hlt : k < m
            · have z1 : (k : Int) < (m : Int) := by omega
              have z2 : decide ((k : Int) < (m : Int)) = true := decide_eq_true z1
              have hw6 : IntKind.i64.wrap ((k : Int) + 1) = (k : Int) + 1 := by rw [IntKind.wrap_i64]; have := HM.out; omega
              obtain ⟨j, hj⟩ : ∃ j, m - k = j + 1 := ⟨m - k - 1, by omega⟩
              have hj2 : m - (k + 1) = j := by omega
              obtain ⟨y, hy⟩ : ∃ y, nextI li 1 4096 = y := ⟨_, rfl⟩
              obtain ⟨dx, k4, c4⟩ := y
              have HBY := Lib.hid (fun (u : World) (hu : RdP p N u a li) => (show Calls Tryz.prog 140 #[.pointer (some a), .int .i64 4096] u (RdPost RdP ThrP p N u a li c4 k4 fun v w' => OwnB w' u.heap.size v dx.b) from by have := rdP_bytes p N u a li 4096 hu; rw [hy] at this; exact this))
              rw [hj, takeBs, hy] at hnx
              by_cases hc4 : c4 = 0
              · subst hc4
                rw [stp_ok rfl] at hnx
                obtain ⟨r, hd⟩ : ∃ d, dx.b = d := ⟨_, rfl⟩
                rw [hd] at HBY hnx
                obtain ⟨li2, hli2⟩ : ∃ l', li.drop k4 = l' := ⟨_, rfl⟩
                rw [hli2] at hnx
                have HLI2 := Lib.hid hli2
                have HLL2 := Lib.hid (show li2.length ≤ l.length from by rw [← hli2, List.length_drop]; omega)
                have HNX := Lib.hid (show takeBs m l2 = (takeBs (m - (k + 1)) li2).map (fun x => (dn ++ [r] ++ x.1, x.2)) from by rw [hnx, hj2]; cases takeBs j li2 <;> simp [Except.map])
                have HDL := Lib.hid (show k + 1 < 100000000 by have := HM.out; omega)
                have HSK := Lib.hid (fun (z1 z2 : World) (hx : RdP p N z1 a li ∧ HdsC z1 H (.slice q k cap) dn cs ∧ PSt N w a b4 b5 b6 (g : Int) (.slice q k cap) g6 z1) (hk : Kp a.block z1 z2) (hr : RdP p N z2 a li2) => (show RdP p N z2 a li2 ∧ HdsC z2 H (.slice q k cap) dn cs ∧ PSt N w a b4 b5 b6 (g : Int) (.slice q k cap) g6 z2 from
                  ⟨hr, hx.2.1.keep hk.size (fun c h1 h2 => hk.block c h2 (by have := L.nw; have := HH.out; omega)), PSt.kp L hx.2.2 hk⟩))
                have HSA := Lib.hid (fun (z1 z2 : World) (hx : RdP p N z1 a li2 ∧ HdsC z1 H (.slice q k cap) dn cs ∧ PSt N w a b4 b5 b6 (g : Int) (.slice q k cap) g6 z1) (hb : Below z1.heap.size z1 z2) => (show RdP p N z2 a li2 ∧ HdsC z2 H (.slice q k cap) dn cs ∧ PSt N w a b4 b5 b6 (g : Int) (.slice q k cap) g6 z2 from
                  ⟨rdP_below hx.1 hb, hx.2.1.keep hb.size (fun c h1 h2 => hb.block c h2), PSt.below L hx.2.2 hx.2.2.lo.size hb⟩))
                have HSB := Lib.hid (fun (z1 z2 : World) (q5 : Option Addr) (c5 : Nat) (cs5 : List Value) (hx : RdP p N z1 a li2 ∧ HdsC z1 H (.slice q k cap) dn cs ∧ PSt N w a b4 b5 b6 (g : Int) (.slice q k cap) g6 z1) (ho : HdsC z2 H (.slice q5 (k + 1) c5) (dn ++ [r]) cs5) (hb : Below H z1 z2) => (show RdP p N z2 a li2 ∧ HdsC z2 H (.slice q5 (k + 1) c5) (dn ++ [r]) cs5 ∧ PSt N w a b4 b5 b6 (g : Int) (.slice q k cap) g6 z2 from
                  ⟨rdP_keepM hx.1 (by have := L.nw; have := HH.out; omega) hb, ho, PSt.below L hx.2.2 (by have := HH.out; omega) hb⟩))
                have HSC := Lib.hid (fun (z1 : World) (q5 : Option Addr) (c5 : Nat) (cs5 : List Value) (hx : RdP p N z1 a li2 ∧ HdsC z1 H (.slice q5 (k + 1) c5) (dn ++ [r]) cs5 ∧ PSt N w a b4 b5 b6 (g : Int) (.slice q k cap) g6 z1) => (show RdP p N (z1.setCell ⟨b5, 0, none⟩ (.slice q5 (k + 1) c5)) a li2 ∧ HdsC (z1.setCell ⟨b5, 0, none⟩ (.slice q5 (k + 1) c5)) H (.slice q5 (k + 1) c5) (dn ++ [r]) cs5 ∧ PSt N w a b4 b5 b6 (g : Int) (.slice q5 (k + 1) c5) g6 (z1.setCell ⟨b5, 0, none⟩ (.slice q5 (k + 1) c5)) from by
                  have hk : Kp b5 z1 (z1.setCell ⟨b5, 0, none⟩ (.slice q5 (k + 1) c5)) := (Kp.refl _ _).setCell 0 _
                  exact ⟨rdP_box hx.1 L.n5 (fun h0 c o e => (HPP.out (by have := HLL2.out; omega) c o e).2.1) hk, hx.2.1.keep hk.size (fun c h1 h2 => hk.block c h2 (by have := L.n5; have := L.na; have := L.nw; have := HH.out; omega)), PSt.set5 L hx.2.2 _⟩))
                clear hR hO hP hnx hy hdn hj hj2 hd hli2 hll
                go_wp2
                refine wp_region_noPanic ?_
                refine wp_region_any (by kernel_rfl) ?_
                try (change wpAny _ _ _ _ _ _ _ (World.drew _))
                have HX := Lib.hid (HX0.out)
                generalize wr.drew = x at HX ⊢
                refine wpAny_take (i := 1) (v := ?_) rfl (by kernel_rfl) (by kernel_rfl) (by kernel_rfl) (fun _ _ _ h => h) (Or.inl ⟨by rfl, ?_⟩) ?_
                rotate_left 1
                · (intro w; go_simp; try with_reducible rfl)
                try simp only [Act.put, List.setIfInBounds_toArray, List.set_cons_zero, List.set_cons_succ]
                refine wpAny_ready (rs := [0, 2]) (by kernel_rfl) (by simp) ?_
                refine (AllReady.cons (by simp only [List.getElem?_toArray, List.getElem?_cons_succ, List.getElem?_cons_zero]; exact rfl) (fun K hK => ?_) (AllReady.cons (by simp only [List.getElem?_toArray, List.getElem?_cons_succ, List.getElem?_cons_zero]; exact rfl) (fun K hK => ?_) AllReady.nil))
                · have hcc := HX.out.2.2.c5
                  go_simp
                  refine hK _ _ ?_
                  clear hK K hcc
                  try simp only [Act.put, List.setIfInBounds_toArray, List.set_cons_zero, List.set_cons_succ]
                  refine wpAny_ready (rs := [2]) (by kernel_rfl) (by simp) ?_
                  refine (AllReady.cons (by simp only [List.getElem?_toArray, List.getElem?_cons_succ, List.getElem?_cons_zero]; exact rfl) (fun K hK => ?_) AllReady.nil)
                  go_simp
                  refine (HBY.out x HX.out.1).mono ?_
                  rintro e x2 ⟨hK2, h2⟩
                  obtain ⟨-, ⟨v, rfl, hval⟩, hR2⟩ := h2.resolve_right (fun h => h.1 rfl)
                  obtain ⟨pb, cb, hvb, hsb, hpb, hlb⟩ := hval.shape
                  subst hvb
                  rw [HLI2.out] at hR2
                  have HNB := Lib.hid (show Sl x2 pb r ∧ (pb = none → cb = 0) ∧ r.length ≤ cb ∧ ∀ c o, pb = some ⟨c, o, none⟩ → H ≤ c ∧ c < x2.heap.size ∧ (Value.slice q k cap).ownBlock ≠ some c from ⟨hsb, hpb, hlb, fun c o e => ⟨by have := (hval.lt c (by rw [e]; rfl)).1; have := HX.out.2.2.lo.size; have := HH.out; omega, (hval.lt c (by rw [e]; rfl)).2, fun e2 => by have h1 := (HX.out.2.1.1.lt c e2).2; have h3 := (hval.lt c (by rw [e]; rfl)).1; omega⟩⟩)
                  have HX := Lib.hid (HSK.out x x2 HX.out hK2 hR2)
                  clear hK2 hR2 h2 hval hsb hpb hlb
                  have HKK := Lib.hid hK
                  clear hK
                  go_wp2_with fail
                  refine HKK.out _ _ ?_
                  clear HKK K
                  try simp only [Act.put, List.setIfInBounds_toArray, List.set_cons_zero, List.set_cons_succ]
                  refine wpAny_ready (rs := [3]) (by kernel_rfl) (by simp) ?_
                  refine (AllReady.cons (by simp only [List.getElem?_toArray, List.getElem?_cons_succ, List.getElem?_cons_zero]; exact rfl) (fun K hK => ?_) AllReady.nil)
                  go_simp
                  obtain ⟨x23, hy⟩ : ∃ y, (x2.alloc (.cells #[.slice pb r.length cb] 56)) = y := ⟨_, rfl⟩
                  have hbn : Below x2.heap.size x2 x23 := by rw [← hy]; exact below_newR _ _
                  have HLS := Lib.hid (show LsC x23 (some ⟨x2.heap.size, 0, none⟩) [.slice pb r.length cb] from by rw [← hy]; exact lsc_one11 x2 _ _)
                  have HNB := Lib.hid (show Sl x23 pb r ∧ (pb = none → cb = 0) ∧ r.length ≤ cb ∧ ∀ c o, pb = some ⟨c, o, none⟩ → H ≤ c ∧ c < x23.heap.size ∧ (Value.slice q k cap).ownBlock ≠ some c from ⟨HNB.out.1.of_below hbn, HNB.out.2.1, HNB.out.2.2.1, fun c o e => ⟨(HNB.out.2.2.2 c o e).1, Nat.lt_of_lt_of_le (HNB.out.2.2.2 c o e).2.1 hbn.size, (HNB.out.2.2.2 c o e).2.2⟩⟩)
                  have HX := Lib.hid (HSA.out x2 x23 HX.out hbn)
                  clear hbn
                  refine hK _ _ ?_
                  clear hK K
                  rw [hy]
                  clear hy
                  try simp only [Act.put, List.setIfInBounds_toArray, List.set_cons_zero, List.set_cons_succ]
                  refine wpAny_ready (rs := [4]) (by kernel_rfl) (by simp) ?_
                  refine (AllReady.cons (by simp only [List.getElem?_toArray, List.getElem?_cons_succ, List.getElem?_cons_zero]; exact rfl) (fun K hK => ?_) AllReady.nil)
                  have hO1 : x23.ownsRow H 56 1 (.slice q k cap) k cs := by have h := HX.out.2.1.1; rw [HDN.out] at h; exact h
                  refine step_appendK elR x23 rfl (.tmp 11) (.tmp 14) rfl H rfl hO1 _ 1 1 [.slice pb r.length cb] rfl rfl HLS.out (fun h => by cases h) (fun u hu => by rw [List.mem_singleton] at hu; subst hu; rfl) HDL.out (by have := HX.out.2.2.lo.size; have := HH.out; omega) ?_
                  rintro v5 x234 hO5 hg5 ho5
                  have hB5 : Below H x23 x234 := (Below.refl _ _).grown hg5 (by have := HX.out.2.2.lo.size; have := HH.out; omega) (fun g hg => (HX.out.2.1.1.lt g hg).1)
                  obtain ⟨cs5, hcs5⟩ := HdsC.push HX.out.2.1 HNB.out.1 HNB.out.2.1 HNB.out.2.2.1 HNB.out.2.2.2 (by rw [HDN.out]; exact hO5) hg5 ho5
                  obtain ⟨q5, c5, hve⟩ := own_sliceR hO5
                  subst hve
                  have HY := Lib.hid (HSB.out x23 x234 q5 c5 cs5 HX.out hcs5 hB5)
                  clear hO5 hg5 ho5 hB5 hcs5 hO1
                  refine hK _ _ ?_
                  clear hK K
                  try simp only [Act.put, List.setIfInBounds_toArray, List.set_cons_zero, List.set_cons_succ]
                  refine wpAny_ready (rs := [5]) (by kernel_rfl) (by simp) ?_
                  refine (AllReady.cons (by simp only [List.getElem?_toArray, List.getElem?_cons_succ, List.getElem?_cons_zero]; exact rfl) (fun K hK => ?_) AllReady.nil)
                  have hcc := HY.out.2.2.c5
                  have hcf := HY.out.2.2.f5
                  go_simp
                  refine hK _ _ ?_
                  clear hK K
                  have HZ := Lib.hid (HSC.out x234 q5 c5 cs5 HY.out)
                  clear hcc hcf
                  try simp only [Act.put, List.setIfInBounds_toArray, List.set_cons_zero, List.set_cons_succ]
                  refine wpAny_done (by kernel_rfl) ?_ _
                  refine NoPanic.normal ?_
                  go_wp2
                  go_roundw
                  case rel => exact ⟨k + 1, dn ++ [r], li2, q5, c5, cs5, by omega, by go_num, by rw [List.length_append, HDN.out]; rfl, HLL2.out, HNX.out, HZ.out.1, HZ.out.2.1, HZ.out.2.2⟩
                  case measure => simp [intOf]; omega
                · go_simp
                  refine (HBY.out x HX.out.1).mono ?_
                  rintro e x2 ⟨hK2, h2⟩
                  obtain ⟨-, ⟨v, rfl, hval⟩, hR2⟩ := h2.resolve_right (fun h => h.1 rfl)
                  obtain ⟨pb, cb, hvb, hsb, hpb, hlb⟩ := hval.shape
                  subst hvb
                  rw [HLI2.out] at hR2
                  have HNB := Lib.hid (show Sl x2 pb r ∧ (pb = none → cb = 0) ∧ r.length ≤ cb ∧ ∀ c o, pb = some ⟨c, o, none⟩ → H ≤ c ∧ c < x2.heap.size ∧ (Value.slice q k cap).ownBlock ≠ some c from ⟨hsb, hpb, hlb, fun c o e => ⟨by have := (hval.lt c (by rw [e]; rfl)).1; have := HX.out.2.2.lo.size; have := HH.out; omega, (hval.lt c (by rw [e]; rfl)).2, fun e2 => by have h1 := (HX.out.2.1.1.lt c e2).2; have h3 := (hval.lt c (by rw [e]; rfl)).1; omega⟩⟩)
                  have HX := Lib.hid (HSK.out x x2 HX.out hK2 hR2)
                  clear hK2 hR2 h2 hval hsb hpb hlb
                  have HKK := Lib.hid hK
                  clear hK
                  go_wp2_with fail
                  refine HKK.out _ _ ?_
                  clear HKK K
                  try simp only [Act.put, List.setIfInBounds_toArray, List.set_cons_zero, List.set_cons_succ]
                  refine wpAny_ready (rs := [0, 3]) (by kernel_rfl) (by simp) ?_
                  refine (AllReady.cons (by simp only [List.getElem?_toArray, List.getElem?_cons_succ, List.getElem?_cons_zero]; exact rfl) (fun K hK => ?_) (AllReady.cons (by simp only [List.getElem?_toArray, List.getElem?_cons_succ, List.getElem?_cons_zero]; exact rfl) (fun K hK => ?_) AllReady.nil))
                  · have hcc := HX.out.2.2.c5
                    go_simp
                    refine hK _ _ ?_
                    clear hK K hcc
                    try simp only [Act.put, List.setIfInBounds_toArray, List.set_cons_zero, List.set_cons_succ]
                    refine wpAny_ready (rs := [3]) (by kernel_rfl) (by simp) ?_
                    refine (AllReady.cons (by simp only [List.getElem?_toArray, List.getElem?_cons_succ, List.getElem?_cons_zero]; exact rfl) (fun K hK => ?_) AllReady.nil)
                    go_simp
                    obtain ⟨x23, hy⟩ : ∃ y, (x2.alloc (.cells #[.slice pb r.length cb] 56)) = y := ⟨_, rfl⟩
                    have hbn : Below x2.heap.size x2 x23 := by rw [← hy]; exact below_newR _ _
                    have HLS := Lib.hid (show LsC x23 (some ⟨x2.heap.size, 0, none⟩) [.slice pb r.length cb] from by rw [← hy]; exact lsc_one11 x2 _ _)
                    have HNB := Lib.hid (show Sl x23 pb r ∧ (pb = none → cb = 0) ∧ r.length ≤ cb ∧ ∀ c o, pb = some ⟨c, o, none⟩ → H ≤ c ∧ c < x23.heap.size ∧ (Value.slice q k cap).ownBlock ≠ some c from ⟨HNB.out.1.of_below hbn, HNB.out.2.1, HNB.out.2.2.1, fun c o e => ⟨(HNB.out.2.2.2 c o e).1, Nat.lt_of_lt_of_le (HNB.out.2.2.2 c o e).2.1 hbn.size, (HNB.out.2.2.2 c o e).2.2⟩⟩)
                    have HX := Lib.hid (HSA.out x2 x23 HX.out hbn)
                    clear hbn
                    refine hK _ _ ?_
                    clear hK K
                    rw [hy]
                    clear hy
                    try simp only [Act.put, List.setIfInBounds_toArray, List.set_cons_zero, List.set_cons_succ]
                    refine wpAny_ready (rs := [4]) (by kernel_rfl) (by simp) ?_
                    refine (AllReady.cons (by simp only [List.getElem?_toArray, List.getElem?_cons_succ, List.getElem?_cons_zero]; exact rfl) (fun K hK => ?_) AllReady.nil)
                    have hO1 : x23.ownsRow H 56 1 (.slice q k cap) k cs := by have h := HX.out.2.1.1; rw [HDN.out] at h; exact h
                    refine step_appendK elR x23 rfl (.tmp 11) (.tmp 14) rfl H rfl hO1 _ 1 1 [.slice pb r.length cb] rfl rfl HLS.out (fun h => by cases h) (fun u hu => by rw [List.mem_singleton] at hu; subst hu; rfl) HDL.out (by have := HX.out.2.2.lo.size; have := HH.out; omega) ?_
                    rintro v5 x234 hO5 hg5 ho5
                    have hB5 : Below H x23 x234 := (Below.refl _ _).grown hg5 (by have := HX.out.2.2.lo.size; have := HH.out; omega) (fun g hg => (HX.out.2.1.1.lt g hg).1)
                    obtain ⟨cs5, hcs5⟩ := HdsC.push HX.out.2.1 HNB.out.1 HNB.out.2.1 HNB.out.2.2.1 HNB.out.2.2.2 (by rw [HDN.out]; exact hO5) hg5 ho5
                    obtain ⟨q5, c5, hve⟩ := own_sliceR hO5
                    subst hve
                    have HY := Lib.hid (HSB.out x23 x234 q5 c5 cs5 HX.out hcs5 hB5)
                    clear hO5 hg5 ho5 hB5 hcs5 hO1
                    refine hK _ _ ?_
                    clear hK K
                    try simp only [Act.put, List.setIfInBounds_toArray, List.set_cons_zero, List.set_cons_succ]
                    refine wpAny_ready (rs := [5]) (by kernel_rfl) (by simp) ?_
                    refine (AllReady.cons (by simp only [List.getElem?_toArray, List.getElem?_cons_succ, List.getElem?_cons_zero]; exact rfl) (fun K hK => ?_) AllReady.nil)
                    have hcc := HY.out.2.2.c5
                    have hcf := HY.out.2.2.f5
                    go_simp
                    refine hK _ _ ?_
                    clear hK K
                    have HZ := Lib.hid (HSC.out x234 q5 c5 cs5 HY.out)
                    clear hcc hcf
                    try simp only [Act.put, List.setIfInBounds_toArray, List.set_cons_zero, List.set_cons_succ]
                    refine wpAny_done (by kernel_rfl) ?_ _
                    refine NoPanic.normal ?_
                    go_wp2
                    go_roundw
                    case rel => exact ⟨k + 1, dn ++ [r], li2, q5, c5, cs5, by omega, by go_num, by rw [List.length_append, HDN.out]; rfl, HLL2.out, HNX.out, HZ.out.1, HZ.out.2.1, HZ.out.2.2⟩
                    case measure => simp [intOf]; omega
                  · go_simp
                    obtain ⟨x23, hy⟩ : ∃ y, (x2.alloc (.cells #[.slice pb r.length cb] 56)) = y := ⟨_, rfl⟩
                    have hbn : Below x2.heap.size x2 x23 := by rw [← hy]; exact below_newR _ _
                    have HLS := Lib.hid (show LsC x23 (some ⟨x2.heap.size, 0, none⟩) [.slice pb r.length cb] from by rw [← hy]; exact lsc_one11 x2 _ _)
                    have HNB := Lib.hid (show Sl x23 pb r ∧ (pb = none → cb = 0) ∧ r.length ≤ cb ∧ ∀ c o, pb = some ⟨c, o, none⟩ → H ≤ c ∧ c < x23.heap.size ∧ (Value.slice q k cap).ownBlock ≠ some c from ⟨HNB.out.1.of_below hbn, HNB.out.2.1, HNB.out.2.2.1, fun c o e => ⟨(HNB.out.2.2.2 c o e).1, Nat.lt_of_lt_of_le (HNB.out.2.2.2 c o e).2.1 hbn.size, (HNB.out.2.2.2 c o e).2.2⟩⟩)
                    have HX := Lib.hid (HSA.out x2 x23 HX.out hbn)
                    clear hbn
                    refine hK _ _ ?_
                    clear hK K
                    rw [hy]
                    clear hy
                    try simp only [Act.put, List.setIfInBounds_toArray, List.set_cons_zero, List.set_cons_succ]
                    refine wpAny_ready (rs := [0]) (by kernel_rfl) (by simp) ?_
                    refine (AllReady.cons (by simp only [List.getElem?_toArray, List.getElem?_cons_succ, List.getElem?_cons_zero]; exact rfl) (fun K hK => ?_) AllReady.nil)
                    have hcc := HX.out.2.2.c5
                    go_simp
                    refine hK _ _ ?_
                    clear hK K hcc
                    try simp only [Act.put, List.setIfInBounds_toArray, List.set_cons_zero, List.set_cons_succ]
                    refine wpAny_ready (rs := [4]) (by kernel_rfl) (by simp) ?_
                    refine (AllReady.cons (by simp only [List.getElem?_toArray, List.getElem?_cons_succ, List.getElem?_cons_zero]; exact rfl) (fun K hK => ?_) AllReady.nil)
                    have hO1 : x23.ownsRow H 56 1 (.slice q k cap) k cs := by have h := HX.out.2.1.1; rw [HDN.out] at h; exact h
                    refine step_appendK elR x23 rfl (.tmp 11) (.tmp 14) rfl H rfl hO1 _ 1 1 [.slice pb r.length cb] rfl rfl HLS.out (fun h => by cases h) (fun u hu => by rw [List.mem_singleton] at hu; subst hu; rfl) HDL.out (by have := HX.out.2.2.lo.size; have := HH.out; omega) ?_
                    rintro v5 x234 hO5 hg5 ho5
                    have hB5 : Below H x23 x234 := (Below.refl _ _).grown hg5 (by have := HX.out.2.2.lo.size; have := HH.out; omega) (fun g hg => (HX.out.2.1.1.lt g hg).1)
                    obtain ⟨cs5, hcs5⟩ := HdsC.push HX.out.2.1 HNB.out.1 HNB.out.2.1 HNB.out.2.2.1 HNB.out.2.2.2 (by rw [HDN.out]; exact hO5) hg5 ho5
                    obtain ⟨q5, c5, hve⟩ := own_sliceR hO5
                    subst hve
                    have HY := Lib.hid (HSB.out x23 x234 q5 c5 cs5 HX.out hcs5 hB5)
                    clear hO5 hg5 ho5 hB5 hcs5 hO1
                    refine hK _ _ ?_
                    clear hK K
                    try simp only [Act.put, List.setIfInBounds_toArray, List.set_cons_zero, List.set_cons_succ]
                    refine wpAny_ready (rs := [5]) (by kernel_rfl) (by simp) ?_
                    refine (AllReady.cons (by simp only [List.getElem?_toArray, List.getElem?_cons_succ, List.getElem?_cons_zero]; exact rfl) (fun K hK => ?_) AllReady.nil)
                    have hcc := HY.out.2.2.c5
                    have hcf := HY.out.2.2.f5
                    go_simp
                    refine hK _ _ ?_
                    clear hK K
                    have HZ := Lib.hid (HSC.out x234 q5 c5 cs5 HY.out)
                    clear hcc hcf
                    try simp only [Act.put, List.setIfInBounds_toArray, List.set_cons_zero, List.set_cons_succ]
                    refine wpAny_done (by kernel_rfl) ?_ _
                    refine NoPanic.normal ?_
                    go_wp2
                    go_roundw
                    case rel => exact ⟨k + 1, dn ++ [r], li2, q5, c5, cs5, by omega, by go_num, by rw [List.length_append, HDN.out]; rfl, HLL2.out, HNX.out, HZ.out.1, HZ.out.2.1, HZ.out.2.2⟩
                    case measure => simp [intOf]; omega
              · have HCN := Lib.hid hc4
                rw [stp_no hc4] at hnx
                have hT := HT.out
                rw [hnx] at hT
                dsimp only [Except.map] at hT
                subst hT
                clear hR hO hP hnx hy hdn hj hj2 hc4 HT hll
                go_wp2
                refine wp_region_any (by kernel_rfl) ?_
                try (change wpAny _ _ _ _ _ _ _ (World.drew _))
                have HX := Lib.hid (HX0.out)
                generalize wr.drew = x at HX ⊢
                refine wpAny_take (i := 1) (v := ?_) rfl (by kernel_rfl) (by kernel_rfl) (by kernel_rfl) (fun _ _ _ h => h) (Or.inl ⟨by rfl, ?_⟩) ?_
                rotate_left 1
                · (intro w; go_simp; try with_reducible rfl)
                try simp only [Act.put, List.setIfInBounds_toArray, List.set_cons_zero, List.set_cons_succ]
                refine wpAny_ready (rs := [0, 2]) (by kernel_rfl) (by simp) ?_
                refine (AllReady.cons (by simp only [List.getElem?_toArray, List.getElem?_cons_succ, List.getElem?_cons_zero]; exact rfl) (fun K hK => ?_) (AllReady.cons (by simp only [List.getElem?_toArray, List.getElem?_cons_succ, List.getElem?_cons_zero]; exact rfl) (fun K hK => ?_) AllReady.nil))
                · have hcc := HX.out.2.2.c5
                  go_simp
                  refine hK _ _ ?_
                  clear hK K hcc
                  try simp only [Act.put, List.setIfInBounds_toArray, List.set_cons_zero, List.set_cons_succ]
                  refine wpAny_ready (rs := [2]) (by kernel_rfl) (by simp) ?_
                  refine (AllReady.cons (by simp only [List.getElem?_toArray, List.getElem?_cons_succ, List.getElem?_cons_zero]; exact rfl) (fun K hK => ?_) AllReady.nil)
                  go_simp
                  refine (HBY.out x HX.out.1).mono ?_
                  rintro e y3 ⟨hK3, ⟨hcc, -⟩ | ⟨hcc, v, hv, rfl⟩⟩
                  · exact absurd hcc HCN.out
                  · exact ⟨rfl, (PSt.kp L HX.out.2.2 hK3).lo, (PSt.kp L HX.out.2.2 hK3).be, HCN.out, v, hv, rfl⟩
                · go_simp
                  refine (HBY.out x HX.out.1).mono ?_
                  rintro e y3 ⟨hK3, ⟨hcc, -⟩ | ⟨hcc, v, hv, rfl⟩⟩
                  · exact absurd hcc HCN.out
                  · exact ⟨rfl, (PSt.kp L HX.out.2.2 hK3).lo, (PSt.kp L HX.out.2.2 hK3).be, HCN.out, v, hv, rfl⟩
            · have z1 : ¬ (k : Int) < (m : Int) := by omega
              have z2 : decide ((k : Int) < (m : Int)) = false := decide_eq_false z1
              obtain rfl : k = m := by omega
              rw [show k - k = 0 by omega, takeBs] at hnx
              have hT := HT.out
              rw [hnx] at hT
              dsimp only [Except.map] at hT
              rw [List.append_nil] at hT
              have HP4 := Lib.hid hP
              have HDX := Lib.hid hO
              have HLI := Lib.hid hll
              have HR4 := Lib.hid hR
              clear hR hO hP hnx hdn HT hll
              obtain ⟨y, hy⟩ : ∃ y, nextI li 4 0 = y := ⟨_, rfl⟩
              obtain ⟨dg, kx, c⟩ := y
              have HC := Lib.hid (rdP_digest p N wr a li HR4.out)
              rw [hy] at HC hT
              try dsimp only at HC
              by_cases hc : c = 0
              · subst hc
                rw [stp_ok rfl] at hT
                try dsimp only at hT
                have HE_l4 := Lib.hid hy
                obtain ⟨l4, hl⟩ : ∃ l', li.drop kx = l' := ⟨_, rfl⟩
                have HLE_l4 := Lib.hid (show l4.length ≤ li.length from by rw [← hl, List.length_drop]; omega)
                rw [hl] at hT
                have HLD := Lib.hid hl
                have HT := Lib.hid hT
                clear hT hl hy
                go_wp2_with fail
                refine HC.out.mono ?_
                rintro e w5 ⟨hK, ⟨-, ⟨v, rfl, hval⟩, hR⟩ | ⟨hcc, -⟩⟩
                · rw [HLD.out] at hR
                  have HP5 := Lib.hid (PSt.kp L HP4.out hK)
                  have HKD_l4 := Lib.hid hK
                  have HR_l4 := Lib.hid hR
                  have hT := HT.out
                  clear HC HT hK hR HLD
                  subst hval
                  have hlen : dg.b.length = 32 := by have := (nextI_code HE_l4.out).1 rfl; rw [this.1, List.length_take]; omega
                  obtain ⟨u8, hst8, hR8', hK8'⟩ := st_row32 HP5.out.r6 dg.b
                  subst hT
                  have HFIN := Lib.hid (show PSt N w a b4 b5 b6 (g : Int) (.slice q k cap) (dgF dg.b) u8 from PSt.put6 L HP5.out hR8' hK8')
                  have HRF := Lib.hid (rdP_box HR_l4.out L.n6 (fun h0 c o e => (HPP.out (by have := HLE_l4.out; have := HLI.out; omega) c o e).2.2) hK8')
                  have HDF := Lib.hid ((HDX.out.keep HKD_l4.out.size (fun c h1 h2 => HKD_l4.out.block c h2 (by have := L.nw; have := HH.out; omega))).keep hK8'.size (fun c h1 h2 => hK8'.block c h2 (by have := L.nw; have := HH.out; have := L.n6; have := L.na; omega)))
                  have HLN := Lib.hid hlen
                  clear hlen hR8' hK8'
                  go_wp2
                  go_end0
                  refine ⟨HFIN.out.lo, HFIN.out.be, rfl, HRF.out, HFIN.out.c4, ⟨_, HFIN.out.c5, ?_⟩, HFIN.out.r6, HLN.out⟩
                  have h := HDF.out
                  rw [← HH.out] at h
                  exact ⟨_, h⟩
                · exact absurd rfl hcc
              · rw [stp_no hc] at hT
                subst hT
                clear hy
                go_wp2_with fail
                refine HC.out.mono ?_
                rintro e wx ⟨hK, ⟨hcc, -⟩ | ⟨hcc, v, hv, rfl⟩⟩
                · exact absurd hcc hc
                · exact ⟨rfl, (PSt.kp L HP4.out hK).lo, (PSt.kp L HP4.out hK).be, hc, v, hv, rfl⟩
        · exact absurd rfl hcc
      · rw [stp_no hc] at hT
        subst hT
        clear hy
        go_wp2_with fail
        clear hw2 cc4 cf4
        refine HC.out.mono ?_
        rintro e wx ⟨hK, ⟨hcc, -⟩ | ⟨hcc, v, hv, rfl⟩⟩
        · exact absurd hcc hc
        · exact ⟨rfl, (PSt.kp L HP2.out hK).lo, (PSt.kp L HP2.out hK).be, hc, v, hv, rfl⟩
    · exact absurd rfl hcc
  · rw [stp_no hc] at hT
    subst hT
    clear hy
    go_wp2_with fail
    refine HC.out.mono ?_
    rintro e wx ⟨hK, ⟨hcc, -⟩ | ⟨hcc, v, hv, rfl⟩⟩
    · exact absurd hcc hc
    · exact ⟨rfl, (PSt.kp L HP0.out hK).lo, (PSt.kp L HP0.out hK).be, hc, v, hv, rfl⟩
end Go.Proofs.YtkajeepbelfpiaaGreatDoor
/- archive.parseRecords. -/
set_option maxRecDepth 100000
namespace Go.Proofs.YtkajeepbelfpiaaGreatDoor
open Go Go.RowKit

attribute [-go_sem] Sha.exec_store
/-- The code of parsing the records: what the first one's bytes tell, or that the paths don't rise. -/
def recsF : List By → Bool → S8 → Nat
  | [], inc, _ => if inc then 0 else 6
  | b :: bs, inc, bf => match parseC b with
    | (c, none) => c
    | (_, some r) => recsF bs (inc && decide (bf < pS r.path)) (pS r.path)
theorem lt_mkS (p q : S8) : Op.bytesLess (mkS p).toList (mkS q).toList = decide (p < q) := by rw [bytesLess_eq, mkS_toList, mkS_toList]
theorem takeRc_tc {l : By} {r : RcT} {rest : By} (h : takeRc l = .ok (r, rest)) : (r.time : Int) < 9223372036854775808 ∧ (r.chg : Int) < 9223372036854775808 := by
  unfold takeRc at h
  obtain ⟨h0, h⟩ := stp_inv h
  obtain ⟨h1, h⟩ := stp_inv h
  obtain ⟨h2, h⟩ := stp_inv h
  obtain ⟨h3, h⟩ := stp_inv h
  have e2 := takeI_le (l := (l.drop (nextI l 2 100).2.1).drop (takeI (l.drop (nextI l 2 100).2.1) maxT).2.1) (most := maxT) (n := _) (k := _) (by rw [← h2])
  have e3 := takeI_le (l := ((l.drop (nextI l 2 100).2.1).drop (takeI (l.drop (nextI l 2 100).2.1) maxT).2.1).drop (takeI ((l.drop (nextI l 2 100).2.1).drop (takeI (l.drop (nextI l 2 100).2.1) maxT).2.1) maxT).2.1) (most := maxT) (n := _) (k := _) (by rw [← h3])
  unfold maxT at e2 e3
  split at h
  · cases h
  · obtain ⟨-, h⟩ := stp_inv h
    split at h
    · injection h with h
      injection h with h1 h2
      subst h1 h2
      exact ⟨by dsimp only [maxT] at *; omega, by dsimp only [maxT] at *; omega⟩
    · obtain ⟨-, h⟩ := stp_inv h
      obtain ⟨-, h⟩ := stp_inv h
      split at h
      · cases h
      · injection h with h
        injection h with h1 h2
        subst h1 h2
        exact ⟨by dsimp only [maxT] at *; omega, by dsimp only [maxT] at *; omega⟩
theorem parseC_some {l : By} {c : Nat} {r : RcT} (h : parseC l = (c, some r)) : c = 0 ∧ goodT r = true ∧ (r.time : Int) < 9223372036854775808 ∧ (r.chg : Int) < 9223372036854775808 ∧ r.path.length ≤ 100 := by
  unfold parseC at h
  split at h
  · injection h with _ h; cases h
  · rename_i r1 l1 hT
    split at h
    · split at h
      · split at h
        · rename_i hg
          injection h with h1 h2
          injection h2 with h2
          subst h1 h2
          exact ⟨rfl, hg, (takeRc_tc hT).1, (takeRc_tc hT).2, (takeRc_len hT).2⟩
        · injection h with _ h; cases h
      · injection h with _ h; cases h
    · injection h with _ h; cases h
theorem stp_err {α β : Type} {x : α × Nat × Nat} {l : By} {f : α → By → Except Nat β} {c : Nat} (h : stp x l f = .error c) (hf : ∀ l', f x.1 l' = .error c → c ≠ 0) : c ≠ 0 := by
  unfold stp at h
  split at h
  · exact hf _ h
  · rename_i hne
    injection h with h
    rw [← h]; exact hne
theorem takeRc_err {l : By} {c : Nat} (h : takeRc l = .error c) : c ≠ 0 := by
  unfold takeRc at h
  refine stp_err h fun l1 h => stp_err h fun l2 h => stp_err h fun l3 h => stp_err h fun l4 h => ?_
  split at h
  · injection h with h; rw [← h]; decide
  · refine stp_err h fun l6 h => ?_
    split at h
    · cases h
    · refine stp_err h fun l7 h => stp_err h fun l8 h => ?_
      split at h
      · injection h with h; rw [← h]; decide
      · cases h
theorem parseC_none {l : By} {c : Nat} (h : parseC l = (c, none)) : c ≠ 0 := by
  unfold parseC at h
  split at h
  · rename_i c' hT
    injection h with h1 _
    rw [← h1]; exact takeRc_err hT
  · split at h
    · split at h
      · split at h
        · injection h with _ h; cases h
        · injection h with h _; rw [← h]; decide
      · injection h with h _; rw [← h]; decide
    · injection h with h _; rw [← h]; decide
/-- What parseRecords tells. -/
def RecPost (w : World) (bs : List By) (e : Ending) (w' : World) : Prop := ∃ mv, e = .returned (.tuple #[mv, .int .i64 ((recsF bs true [] : Nat) : Int)]) ∧ Below w.heap.size w w' ∧
  (recsF bs true [] = 0 → mv = .map (some w.heap.size) ∧ ∃ es : List Ent, MpB w' w.heap.size (es.map entA) ∧ (∀ e ∈ es, DgAt w' e.1 e.2 ∧ goodR e.1 = true ∧ e.1.time < 9223372036854775808 ∧ e.1.chg < 9223372036854775808) ∧ es.length ≤ bs.length)
theorem delA_le (es : List Ent) (p : S8) : (delA es p).length ≤ es.length := List.length_filter_le _ _
attribute [local go_sem ↓] exec_boxP exec_allocP exec_storeP exec_loadP exec_loadP2
attribute [local go_sem] boxP lt_mkS
set_option maxRecDepth 100000 in
set_option maxHeartbeats 8000000 in
theorem recs_any (H : Nat) (w : World) (v : Value) (bs : List By) (h : HdL w H v bs) (hn : bs.length ≤ 128) (hb : ∀ b ∈ bs, b.length ≤ 4096) (hT : Tb w) :
    Calls Tryz.prog 142 #[v] w (RecPost w bs) := by
  obtain ⟨p, cap, rfl, hp, hcap, hpb, hcell⟩ := h.shape
  obtain ⟨N, hN⟩ : ∃ n, w.heap.size = n := ⟨_, rfl⟩
  obtain ⟨n, hln⟩ : ∃ n, bs.length = n := ⟨_, rfl⟩
  obtain ⟨W1, hW1⟩ : ∃ W, w.alloc (.map #[] 0) = W := ⟨_, rfl⟩
  have hB1 : Below w.heap.size w W1 := by rw [← hW1]; exact (Below.refl _ _).alloc (Nat.le_refl _) _
  have hM1 : MpB W1 N [] := by rw [← hW1, ← hN]; exact MpB.made w
  have hmm := @run_makeMap Tryz.prog
  have HC := Lib.hid (fun i (hi : i < n) (u : World) (hu : Below N w u) => (show ∃ c o q d, p = some ⟨c, o, none⟩ ∧ u.cell? ⟨c, o + i, none⟩ = some (.slice q (bs.getD i []).length d) ∧ Sl u q (bs.getD i []) ∧ (q = none → d = 0) ∧ (bs.getD i []).length ≤ d from by
    obtain ⟨c, o, q, d, e, h1, h2, h3⟩ := hcell i (by omega)
    have hu' : Below w.heap.size w u := by rw [hN]; exact hu
    exact ⟨c, o, q, d, e, by rw [hu'.cell (by exact World.block_lt_of_cell? w _ h1)]; exact h1, h2.of_below hu', h3⟩))
  have HT := Lib.hid (fun (u : World) (hu : Below N w u) => hT.on (show Below w.heap.size w u by rw [hN]; exact hu))
  have HB := Lib.hid hb
  have HB1 := Lib.hid (show Below N w W1 by rw [← hN]; exact hB1)
  have HM1 := Lib.hid hM1
  have HN := Lib.hid (And.intro hN (And.intro hln (show n ≤ 128 by omega)))
  obtain ⟨F, hF⟩ : ∃ F, recsF bs true [] = F := ⟨_, rfl⟩
  have HF := Lib.hid hF
  clear h hp hcap hpb hcell hT hb hB1 hM1 hF
  unfold RecPost
  rw [HF.out, hN, hln]
  go_enter Tryz.func142, Tryz.ntmps142
  try rw [hN]
  go_wp2
  try rw [hN]
  clear hmm
  go_loopw [5, 6, 14] (fun v5 v6 v14 wr => ∃ (k : Nat) (inc : Bool) (bf : S8) (es : List Ent), k ≤ n ∧ v14 = .int .i64 (k : Int) ∧ v5 = .bool inc ∧ v6 = .string (mkS bf) ∧ F = recsF (bs.drop k) inc bf ∧ MpB wr N (es.map entA) ∧ Below N w wr ∧ (∀ e ∈ es, DgAt wr e.1 e.2 ∧ goodR e.1 = true ∧ e.1.time < 9223372036854775808 ∧ e.1.chg < 9223372036854775808) ∧ es.length ≤ k) (fun v5 v6 v14 _ => n - (intOf v14).toNat)
  case atStart => exact ⟨0, true, [], [], Nat.zero_le _, rfl, rfl, congrArg Value.string (mkS_lit []), HF.out.symm, HM1.out, HB1.out, (fun e he => by cases he), Nat.le_refl _⟩
  case round =>
    obtain ⟨k, inc, bf, es, hk, rfl, rfl, rfl, hF2, hM, hB, hE, hl⟩ := hrel
    have HM := Lib.hid hM
    have HB2 := Lib.hid hB
    have HE := Lib.hid hE
    have HL := Lib.hid hl
    by_cases hlt : k < n
    · have z1 : (k : Int) < (n : Int) := by omega
      have z2 : decide ((k : Int) < (n : Int)) = true := decide_eq_true z1
      have hw6 : IntKind.i64.wrap ((k : Int) + 1) = (k : Int) + 1 := by rw [IntKind.wrap_i64]; have := HN.out; omega
      obtain ⟨c, o, q, d, hp, hc, hs, hq, hd⟩ := HC.out k hlt wr hB
      subst hp
      have hkb : k < bs.length := by have := HN.out; omega
      have hdr : bs.drop k = bs.getD k [] :: bs.drop (k + 1) := by
        rw [List.drop_eq_getElem_cons hkb, List.getD_eq_getElem?_getD, List.getElem?_eq_getElem hkb]; rfl
      have hmem : bs.getD k [] ∈ bs := by
        rw [List.getD_eq_getElem?_getD, List.getElem?_eq_getElem hkb]; exact List.getElem_mem _
      rw [hdr] at hF2
      have hble := HB.out _ hmem
      obtain ⟨b, hbb⟩ : ∃ b, bs.getD k [] = b := ⟨_, rfl⟩
      rw [hbb] at hF2 hc hs hd hble
      have HPA := Lib.hid (parse10_any b q b.length d wr rfl hs hq hd (by omega) (HT.out wr hB))
      have HQ := Lib.hid (show ∀ cc oo, q = some ⟨cc, oo, none⟩ → True from fun _ _ _ => trivial)
      clear hM hB hE hl hs hq hd hdr hmem hble hbb hkb
      cases hpc : parseC b with
      | mk code x =>
        rw [hpc] at HPA
        rw [recsF, hpc] at hF2
        cases x with
        | none =>
          dsimp only at hF2 HPA
          have hc0 := parseC_none hpc
          subst hF2
          have HC0 := Lib.hid hc0
          have z3 : ¬ ((F : Int) = 0) := by omega
          have z4 : decide ((F : Int) = 0) = false := decide_eq_false z3
          clear hpc hc0
          go_wp2_with fail
          refine HPA.out.mono ?_
          rintro e w2 ⟨R, rfl, hB2, hP⟩
          have hX : Below N w w2 := HB2.out.trans (hB2.mono (by have := HB2.out.size; have := HN.out.1; omega))
          have hst := storeNewP w2 w2.heap.size 44 (rcF rc0) R rfl
          have hY : Below N w (w2.alloc (.cells (tab 54 (rcF R)) 44)) := hX.trans ((below_newR _ _).mono (by have := hX.size; have := HN.out.1; omega))
          have HY := Lib.hid hY
          obtain ⟨W3, hW3⟩ : ∃ W, w2.alloc (.cells (tab 54 (rcF R)) 44) = W := ⟨_, rfl⟩
          rw [hW3] at HY hst
          obtain ⟨V, hV⟩ : ∃ V, rcV R = V := ⟨_, rfl⟩
          rw [hV] at hst ⊢
          clear hB2 hP hc hX hY
          go_wp2
          go_ret2
          exact ⟨_, rfl, HY.out, fun e => absurd e HC0.out⟩
        | some r =>
          obtain ⟨rfl, hgT, htm, hch, hpl⟩ := parseC_some hpc
          dsimp only at hF2 HPA
          have HG := Lib.hid (And.intro hgT (And.intro htm hch))
          have HF3 := Lib.hid hF2
          clear hpc hgT htm hch hF2
          go_wp2_with fail
          refine HPA.out.mono ?_
          rintro e w2 ⟨R, rfl, hB2, q', cap', rfl, hDg, hq'⟩
          have hX : Below N w w2 := HB2.out.trans (hB2.mono (by have := HB2.out.size; have := HN.out.1; omega))
          have hst := storeNewP w2 w2.heap.size 44 (rcF rc0) (r.rc q' cap') rfl
          have hb9 : Below w2.heap.size w2 (w2.alloc (.cells (tab 54 (rcF (r.rc q' cap'))) 44)) := below_newR _ _
          have hRow : Row (w2.alloc (.cells (tab 54 (rcF (r.rc q' cap'))) 44)) w2.heap.size 44 54 (rcF (r.rc q' cap')) := Row.new _ _ _ _
          obtain ⟨W3, hW3⟩ : ∃ W, w2.alloc (.cells (tab 54 (rcF (r.rc q' cap'))) 44) = W := ⟨_, rfl⟩
          rw [hW3] at hst hb9 hRow
          have hY : Below N w W3 := hX.trans (hb9.mono (by have := hX.size; have := HN.out.1; omega))
          have hM3 := (HM.out.of_below hB2).of_below hb9
          have hD3 := hDg.of_below hb9
          have hE3 := fun e he => And.intro (((HE.out e he).1.of_below hB2).of_below hb9) (HE.out e he).2
          have cpath := rc_path hRow
          have ld := loadRT rtP hRow
          have hrp : (r.rc q' cap').path = pS r.path := rfl
          rw [hrp] at cpath
          have HM3 := Lib.hid hM3
          have HX3 := Lib.hid (And.intro hY (And.intro hD3 hE3))
          obtain ⟨b9, hb9'⟩ : ∃ b, w2.heap.size = b := ⟨_, rfl⟩
          rw [hb9'] at hst cpath ld
          obtain ⟨pp, hpp⟩ : ∃ pp, pS r.path = pp := ⟨_, rfl⟩
          rw [hpp] at cpath HF3
          obtain ⟨V, hV⟩ : ∃ V, rcV (r.rc q' cap') = V := ⟨_, rfl⟩
          rw [hV] at hst ld ⊢
          have HV := Lib.hid hV
          have HPP := Lib.hid hpp
          obtain ⟨lt, hlt2⟩ : ∃ x, decide (bf < pp) = x := ⟨_, rfl⟩
          rw [hlt2] at HF3
          have hlk : Op.bytesLess bf pp = lt := by rw [bytesLess_eq]; exact hlt2
          clear hB2 hDg hq' hX hb9 hRow hY hM3 hD3 hE3 hc hV hpp hlt2 hrp
          cases inc
          all_goals
            go_wp2_with (first | (refine wpl_update8 _ rfl _ _ _ rfl mapA strT rfl HM3.out pp rfl V rfl ?_; rintro w4 hM4 hg4 hs4; have HM4 := Lib.hid hM4; have HK4 := Lib.hid (kp_grown hg4); clear hM4 hg4 hs4))
          all_goals
            have hX := HX3.out
            have hk4 := HK4.out
            have hes : ∀ e ∈ setA es (r.rc q' cap', r.ds), DgAt w4 e.1 e.2 ∧ goodR e.1 = true ∧ e.1.time < 9223372036854775808 ∧ e.1.chg < 9223372036854775808 := fun e he => by
              rcases List.mem_cons.1 he with rfl | he
              · exact ⟨hX.2.1.kp_map HM3.out.is hk4, HG.out.1, HG.out.2.1, HG.out.2.2⟩
              · have h := hX.2.2 e (List.mem_filter.1 he).1
                exact ⟨h.1.kp_map HM3.out.is hk4, h.2⟩
            have hset : MpB w4 N ((setA es (r.rc q' cap', r.ds)).map entA) := by
              rw [setA_V]
              have h := HM4.out
              rw [← HV.out, ← HPP.out] at h
              exact h
            have hlen : (setA es (r.rc q' cap', r.ds)).length ≤ k + 1 := by
              unfold setA
              rw [List.length_cons]
              have h1 := delA_le es (r.rc q' cap', r.ds).1.path
              have h2 := HL.out
              omega
            exact ⟨⟨k + 1, _, pp, setA es (r.rc q' cap', r.ds), by omega, by go_num, rfl, rfl, HF3.out, hset, hX.1.trans (hk4.below (Nat.le_refl _) (by have := hX.1.size; have := HN.out.1; omega)), hes, hlen⟩, by simp [intOf]; omega⟩
    · have z1 : ¬ (k : Int) < (n : Int) := by omega
      have z2 : decide ((k : Int) < (n : Int)) = false := decide_eq_false z1
      obtain rfl : k = n := by omega
      rw [List.drop_of_length_le (by have := HN.out; omega), recsF] at hF2
      clear hM hB hE hl
      cases inc
      · have HF3 := Lib.hid hF2
        clear hF2
        go_wp2
        go_ret2
        have h := HF3.out
        simp at h
        subst h
        exact ⟨_, rfl, HB2.out, fun e => by cases e⟩
      · have HF3 := Lib.hid hF2
        clear hF2
        go_wp2
        go_ret2
        have h := HF3.out
        simp at h
        subst h
        exact ⟨_, rfl, HB2.out, fun _ => ⟨rfl, es, HM.out, (fun a b hm => HE.out (a, b) hm), by have := HL.out; have := HN.out; omega⟩⟩
end Go.Proofs.YtkajeepbelfpiaaGreatDoor
/- archive.Parse. -/
set_option maxRecDepth 100000
namespace Go.Proofs.YtkajeepbelfpiaaGreatDoor
open Go Go.RowKit

attribute [-go_sem] Sha.exec_store
/-- The code that Parse tells. -/
def parseA (l : By) : Nat := match takeAr l with
  | .error c => c
  | .ok ((_, bs, d), rest) => if rest = [] then (if deq (digL (l.take (l.length - 32))) d then recsF bs true [] else 11) else 6
theorem nextI_bytes {l : By} {most : Int} {x : It} {k : Nat} (h : nextI l 1 most = (x, k, 0)) : (x.b.length : Int) ≤ most := by
  rw [nextI_take (by decide) (by decide)] at h
  split at h
  · rename_i h1; injection h with _ h; injection h with _ h; exact absurd h h1
  · rename_i h1
    rw [if_neg (by decide)] at h
    split at h
    · injection h with _ h; injection h with _ h; cases h
    · have h0 : (takeI l most).2.2 = 0 := by omega
      have := takeI_le (l := l) (n := (takeI l most).1) (k := (takeI l most).2.1) (most := most) (by rw [← h0])
      injection h with h1 _
      rw [← h1]
      dsimp only
      rw [List.length_take]
      have : (min (takeI l most).1 (l.drop (takeI l most).2.1).length : Nat) ≤ (takeI l most).1 := Nat.min_le_left _ _
      omega
theorem takeBs_facts : ∀ {k : Nat} {l : By} {bs : List By} {rest : By}, takeBs k l = .ok (bs, rest) → bs.length = k ∧ (∀ b ∈ bs, b.length ≤ 4096) ∧ rest.length ≤ l.length
  | 0, l, bs, rest, h => by
    rw [takeBs] at h
    injection h with h
    injection h with h1 h2
    subst h1 h2
    exact ⟨rfl, (fun b hb => by cases hb), Nat.le_refl _⟩
  | k + 1, l, bs, rest, h => by
    rw [takeBs] at h
    obtain ⟨h0, h⟩ := stp_inv h
    cases hT : takeBs k (l.drop (nextI l 1 4096).2.1) with
    | error c => rw [hT] at h; cases h
    | ok y =>
      obtain ⟨y1, y2⟩ := y
      rw [hT] at h
      simp only [Except.map] at h
      injection h with h
      injection h with h1 h2
      subst h1 h2
      obtain ⟨i1, i2, i3⟩ := takeBs_facts hT
      refine ⟨by rw [List.length_cons, i1], fun b hb => ?_, ?_⟩
      · rcases List.mem_cons.1 hb with rfl | hb
        · have := nextI_bytes (l := l) (most := 4096) (x := (nextI l 1 4096).1) (k := (nextI l 1 4096).2.1) (by rw [← h0])
          omega
        · exact i2 b hb
      · rw [List.length_drop] at i3; omega
theorem takeAr_facts {l : By} {g : Nat} {bs : List By} {d rest : By} (h : takeAr l = .ok ((g, bs, d), rest)) : (g : Int) < 9223372036854775808 ∧ bs.length ≤ 128 ∧ (∀ b ∈ bs, b.length ≤ 4096) ∧ 32 ≤ l.length := by
  unfold takeAr at h
  obtain ⟨h0, h⟩ := stp_inv h
  obtain ⟨h1, h⟩ := stp_inv h
  have e0 := takeI_le (l := l) (most := maxT) (n := _) (k := _) (by rw [← h0])
  have e1 := takeI_le (l := l.drop (takeI l maxT).2.1) (most := 128) (n := _) (k := _) (by rw [← h1])
  split at h
  · cases h
  · rename_i bs' l3 hT
    obtain ⟨i1, i2, i3⟩ := takeBs_facts hT
    obtain ⟨h2, h⟩ := stp_inv h
    have h3 := (nextI_code (l := l3) (most := 0) (x := (nextI l3 4 0).1) (k := (nextI l3 4 0).2.1) (c := (nextI l3 4 0).2.2) rfl).1 h2
    injection h with h
    injection h with h4 h5
    injection h4 with h6 h7
    injection h7 with h8 h9
    subst h6 h8
    unfold maxT at e0
    refine ⟨by unfold maxT; omega, by omega, i2, ?_⟩
    simp only [List.length_drop] at i3
    omega
theorem HdL.lower11 {w : World} {N M : Nat} {v : Value} {bs : List By} (h : HdL w N v bs) (hM : M ≤ N) : HdL w M v bs := by
  obtain ⟨cs, h1, h2⟩ := h
  refine ⟨cs, own_lower h1 hM, fun i hi => ?_⟩
  obtain ⟨p, cap, e1, e2, e3, e5, e4⟩ := h2 i hi
  exact ⟨p, cap, e1, e2, e3, e5, fun c o e => ⟨Nat.le_trans hM (e4 c o e).1, (e4 c o e).2⟩⟩
theorem enters_par : ∀ args w, (callFunc 137 args).run Tryz.prog w = .ok (.enter 137 args) w := enters_of Tryz.func137 (by kernel_rfl) rfl
attribute [local go_sem] mkFnR
/-- What Read leaves of Parse's variables. -/
def ParJ (l : By) (w : World) (M : Nat) (c : Nat) (u : World) : Prop :=
  Below M w u ∧ M + 6 ≤ u.heap.size ∧ match takeAr l with
    | .error c' => c = c' ∧ c ≠ 0
    | .ok ((g, bs, d), rest) => c = (if rest = [] then 0 else 6) ∧ u.cell? ⟨M, 0, none⟩ = some (.int .i64 (g : Int)) ∧ (∃ v, u.cell? ⟨M + 1, 0, none⟩ = some v ∧ HdL u (M + 6) v bs) ∧ Row u (M + 2) 41 32 (dgF d) ∧ d.length = 32
theorem parJ_stay (l : By) (w : World) (M : Nat) (c : Nat) (x y : World) (h : ParJ l w M c x) (hB : Below (M + 3) x y) (hk : ∀ k, k < x.heap.size → k ≠ M + 3 → k ≠ M + 3 + 1 → y.heap[k]? = x.heap[k]?) : ParJ l w M c y := by
  obtain ⟨h1, h2, h4⟩ := h
  refine ⟨h1.trans (hB.mono (by omega)), Nat.le_trans h2 hB.size, ?_⟩
  cases hT : takeAr l with
  | error c' => rw [hT] at h4; exact h4
  | ok z =>
    obtain ⟨⟨g, bs, d⟩, rest⟩ := z
    rw [hT] at h4
    dsimp only at h4 ⊢
    obtain ⟨a1, a2, ⟨v, a3, a4⟩, a5, a6⟩ := h4
    exact ⟨a1, by rw [hB.cell (by show M < M + 3; omega)]; exact a2, ⟨v, by rw [hB.cell (by show M + 1 < M + 3; omega)]; exact a3, a4.keep hB.size (fun c h3 h4 => hk c h4 (by omega) (by omega))⟩, a5.below hB (by omega), a6⟩
attribute [local go_sem ↓] exec_load32 exec_store32F exec_bs exec_alloc32 exec_eqlD exec_neqD
attribute [local go_sem] bsSl eqlD neqD
def ParOk (w : World) (l : By) (e : Ending) (w' : World) : Prop := ∃ (b mb g : Nat) (bs : List By) (d : By) (es : List Ent), e = .returned (.tuple #[.pointer (some ⟨b, 0, none⟩), .int .i64 0]) ∧ ArAt w' b mb (g : Int) es ∧ takeAr l = .ok ((g, bs, d), []) ∧ es.length ≤ bs.length ∧ w.heap.size ≤ b
/-- What Parse gives. -/
def ParPost (w : World) (l : By) (e : Ending) (w' : World) : Prop := Below w.heap.size w w' ∧
  ((parseA l ≠ 0 ∧ e = .returned (.tuple #[.pointer none, .int .i64 ((parseA l : Nat) : Int)])) ∨
    (parseA l = 0 ∧ ParOk w l e w'))
set_option maxRecDepth 100000 in
set_option maxHeartbeats 8000000 in
theorem parseA_any (l : By) (q : Option Addr) (n cap : Nat) (w : World) (hl : l.length = n) (hs : Sl w q l) (hq : q = none → cap = 0) (hc : n ≤ cap) (hn : n < 1000000) (hTb : Tb w) :
    Calls Tryz.prog 89 #[.slice q n cap] w (ParPost w l) := by
  unfold ParPost
  obtain ⟨PC, hPC⟩ : ∃ PC, parseA l = PC := ⟨_, rfl⟩
  have HPE := Lib.hid hPC
  rw [hPC]
  clear hPC
  obtain ⟨M, hM⟩ : ∃ M, w.heap.size = M := ⟨_, rfl⟩
  obtain ⟨W1, hW1⟩ : ∃ W, w.alloc (.cells #[.int .i64 0] 3) = W := ⟨_, rfl⟩
  obtain ⟨W2, hW2⟩ : ∃ W, W1.alloc (.cells #[.slice none 0 0] 65) = W := ⟨_, rfl⟩
  obtain ⟨W3, hW3⟩ : ∃ W, W2.alloc (.cells (zb 32) 41) = W := ⟨_, rfl⟩
  have hB1 : Below w.heap.size w W1 := by rw [← hW1]; exact below_newR _ _
  have hB2 : Below W1.heap.size W1 W2 := by rw [← hW2]; exact below_newR _ _
  have hB3 : Below W2.heap.size W2 W3 := by rw [← hW3]; exact below_newR _ _
  have z1 : W1.heap.size = M + 1 := by rw [← hW1]; simp [hM]
  have z2 : W2.heap.size = M + 2 := by rw [← hW2]; simp [z1]
  have z3 : W3.heap.size = M + 3 := by rw [← hW3]; simp [z2]
  have k4 : W1.cell? ⟨M, 0, none⟩ = some (.int .i64 0) ∧ W1.frozen? ⟨M, 0, none⟩ = false := by rw [← hW1, ← hM]; exact new_cZ w _ _
  have k5 : W2.cell? ⟨M + 1, 0, none⟩ = some (.slice none 0 0) ∧ W2.frozen? ⟨M + 1, 0, none⟩ = false := by rw [← hW2, ← z1]; exact new_cZ W1 _ _
  have hB23 : Below (M + 1) W1 W3 := by rw [← z1]; exact hB2.trans (hB3.mono hB2.size)
  have hB33 : Below (M + 2) W2 W3 := by rw [← z2]; exact hB3
  have hR5 : Row W3 (M + 2) 41 32 (fun _ => B 0#8) := by
    have e0 : zb 32 = tab 32 (fun _ => B 0#8) := by unfold zb; exact tab_congr fun j hj => by rw [B_eq']
    rw [← z2, ← hW3, e0]; exact Row.new _ _ _ _
  have hBW : Below w.heap.size w W3 := hB1.trans ((hB2.trans (hB3.mono hB2.size)).mono hB1.size)
  have hs3 := hs.of_below hBW
  have hpp : 0 < l.length → ∀ c o, q = some ⟨c, o, none⟩ → c < M := fun h0 c o e => by
    obtain ⟨c', o', e', hx⟩ := hs 0 h0
    rw [e] at e'
    injection e' with e'
    injection e' with e1 _
    subst e1
    rw [← hM]
    exact World.block_lt_of_cell? w _ hx
  have hP3 : ∀ (a : Addr) (u : World), Below W3.heap.size W3 u → PSt W3.heap.size u a M (M + 1) (M + 2) 0 (.slice none 0 0) (fun _ => B 0#8) u := fun a u hb => by
    rw [z3] at hb
    have b1 : Below (M + 1) W1 u := hB23.trans (hb.mono (by omega))
    have b2 : Below (M + 2) W2 u := hB33.trans (hb.mono (by omega))
    exact ⟨by rw [b1.cell (by show M < M + 1; omega)]; exact k4.1, by rw [World.frozen?_of_block (w := W1) (b1.block M (by omega))]; exact k4.2, by rw [b2.cell (by show M + 1 < M + 2; omega)]; exact k5.1, by rw [World.frozen?_of_block (w := W2) (b2.block (M + 1) (by omega))]; exact k5.2, hR5.below hb (by omega), Loc.refl _ _ _, fun M' _ _ _ _ => Below.refl _ _⟩
  have HRD := Lib.hid (readJ_any l q n cap 137 #[.pointer (some ⟨M, 0, none⟩), .pointer (some ⟨M + 1, 0, none⟩), .pointer (some ⟨M + 2, 0, none⟩)] W3 (ParJ l w M) hl hs3 hq hc hn enters_par
    (fun c x y h k1 k2 => parJ_stay l w M c x y h (by rw [← z3]; exact k1) (by rw [← z3]; exact k2))
    (fun a u hb hsz hr => (pas_in q W3.heap.size u a l M (M + 1) (M + 2) _ ⟨by omega, by omega, by omega, (rdP_lie _ _ _ _ _ hr).1, (rdP_lie _ _ _ _ _ hr).2, by omega, by omega, by omega⟩ hr (hP3 a u hb) (fun h0 c o e => by have := hpp h0 c o e; omega)).mono fun e u2 ⟨k1, k2, k3⟩ => by
      refine ⟨k1, ?_⟩
      have hj1 : Below M w u2 := by
        have h1 := k2 M (by omega) (by omega) (by omega) (by omega)
        rw [hM] at hBW
        exact hBW.trans ((hb.mono (by omega)).trans h1)
      have hj2 : M + 6 ≤ u2.heap.size := by have := k1.size; omega
      unfold ParJ
      cases hT : takeAr l with
      | error c' =>
        rw [hT] at k3
        exact .inr ⟨c', k3.2, hj1, hj2, rfl, k3.1⟩
      | ok z =>
        obtain ⟨⟨g, bs, d⟩, rest⟩ := z
        rw [hT] at k3
        dsimp only at k3 ⊢
        obtain ⟨a1, a2, a3, ⟨v, a4, a5⟩, a6, a7⟩ := k3
        refine .inl ⟨rest, a1, a2, hj1, hj2, rfl, a3, ⟨v, a4, ?_⟩, a6, a7⟩
        obtain ⟨cs, hh⟩ := a5
        exact HdL.lower11 ⟨cs, hh⟩ (by omega)))
  have HSL := Lib.hid (And.intro hs (And.intro hl (And.intro hTb hM)))
  have HZ := Lib.hid (And.intro z1 z2)
  clear hB1 hB2 hB3 z1 z2 z3 k4 k5 hB23 hB33 hR5 hBW hs3 hpp hP3 hs hl hq hTb
  go_enter Tryz.func89, Tryz.ntmps89
  try rw [hM]
  go_wp2_with fail
  clear hW1 hW2 hW3
  try rw [hM]
  try rw [HZ.out.1]
  try rw [HZ.out.2]
  refine HRD.out.mono ?_
  rintro e u3 ⟨code, rfl, hJ⟩
  obtain ⟨j1, j2, j4⟩ := hJ
  have HJ := Lib.hid (And.intro j1 j2)
  clear j1 j2 HRD hM
  cases hT : takeAr l with
  | error c' =>
    rw [hT] at j4
    obtain ⟨rfl, hc0⟩ := j4
    obtain rfl : PC = code := by rw [← HPE.out]; unfold parseA; rw [hT]
    have hci : ¬ (PC : Int) = 0 := by omega
    have hcd : decide ((PC : Int) = 0) = false := decide_eq_false hci
    have HC0 := Lib.hid hc0
    clear hT hc0
    go_wp2
    go_ret2
    exact ⟨HJ.out.1, .inl ⟨HC0.out, rfl⟩⟩
  | ok z =>
    obtain ⟨⟨g, bs, d1⟩, rest⟩ := z
    rw [hT] at j4
    dsimp only at j4
    obtain ⟨rfl, a4, ⟨vl, a5, a6⟩, a7, a8⟩ := j4
    have hfc := takeAr_facts hT
    by_cases hr : rest = []
    · subst hr
      simp only [if_pos] at *
      have hn32 : 32 ≤ n := by have := HSL.out.2.1; omega
      have HPC := Lib.hid (show parseA l = if deq (digL (l.take (l.length - 32))) d1 then recsF bs true [] else 11 from by unfold parseA; rw [hT]; rfl)
      obtain ⟨d0, hd0⟩ : ∃ d, digL (l.take (l.length - 32)) = d := ⟨_, rfl⟩
      rw [hd0] at HPC
      have HTT := Lib.hid hT
      have HBS := Lib.hid (And.intro hfc.2.1 hfc.2.2.1)
      have HMM3 := Lib.hid (show M ≤ u3.heap.size by have := HJ.out.2; omega)
      obtain ⟨k9, hk9⟩ : ∃ k, n - 32 = k := ⟨_, rfl⟩
      have HS := Lib.hid (fun (u : World) (hu : Below u3.heap.size u3 u) => (show _ ∧ _ from ⟨ld_dig (dgF_slX (a7.of_below hu) a8) a8, hu⟩))
      have hBu : ∀ u, Below u3.heap.size u3 u → Below w.heap.size w u := fun u hu => by have := HSL.out.2.2.2; rw [this]; exact HJ.out.1.trans (hu.mono (by have := HJ.out.2; omega))
      have HSM := Lib.hid (fun (b : Nat) (u : World) (hu : Below u3.heap.size u3 u) (hc4 : u.cell? ⟨b, 0, none⟩ = some (.slice q k9 cap)) => sum1_any (l.take (l.length - 32)) b 0 q k9 cap u (by rw [List.length_take]; have := HSL.out.2.1; omega) hc4 ((HSL.out.1.of_below (hBu u hu)).take _) (HSL.out.2.2.1.on (hBu u hu)) (by omega))
      rw [hd0] at HSM
      have HBW := Lib.hid (fun (u : World) (hu : Below u3.heap.size u3 u) => (show Below M w u from HJ.out.1.trans (hu.mono HMM3.out)))
      have HTB := Lib.hid (fun (u : World) (hu : Below u3.heap.size u3 u) => (show Tb u from HSL.out.2.2.1.on (hBu u hu)))
      have HC4 := Lib.hid (fun (u : World) (hu : Below u3.heap.size u3 u) => (show u.cell? ⟨M, 0, none⟩ = some (.int .i64 (g : Int)) from by rw [hu.cell (by exact World.block_lt_of_cell? u3 _ a4)]; exact a4))
      have HC5 := Lib.hid (fun (u : World) (hu : Below u3.heap.size u3 u) => (show u.cell? ⟨M + 1, 0, none⟩ = some vl ∧ HdL u (M + 6) vl bs from ⟨by rw [hu.cell (by exact World.block_lt_of_cell? u3 _ a5)]; exact a5, a6.keep hu.size (fun c _ h => hu.block c h)⟩))
      have w1 : IntKind.i64.wrap ((n : Int) - 32) = (k9 : Int) := by rw [IntKind.wrap_i64]; omega
      have w2 : (n : Int) - 32 = (k9 : Int) := by omega
      have w3 : IntKind.i64.wrap (k9 : Int) = (k9 : Int) := by rw [IntKind.wrap_i64]; omega
      have hsl := fun u => sl_hiX q n cap k9 u (by omega)
      clear a4 a5 a6 a7 a8 hT hfc hd0 hBu
      go_wp2
      refine wp_region_noPanic ?_
      refine wp_region_held_drew (S := (fun u : World => (ldT 41 (.pointer (some ⟨M + 2, 0, none⟩))).run Tryz.prog u = .ok (.value (digV d1)) u ∧ Below u3.heap.size u3 u)) (by kernel_rfl) (HS.out _ (Below.refl _ _).drew) (fun hHeld => ?_)
      generalize u3.drew = x at hHeld ⊢
      refine wpAnyH_take (i := 0) (v := ?_) (by simp only [List.getElem?_toArray, List.getElem?_cons_succ, List.getElem?_cons_zero]; exact rfl) (by kernel_rfl) (by kernel_rfl) (by kernel_rfl) (fun _ _ _ h => h) (Or.inl ⟨by rfl, ?_⟩) (by assumption) ?_
      rotate_left 1
      · (intro w hSw; (try dsimp only at hSw); go_simp; try with_reducible rfl)
      try simp only [Act.put, List.setIfInBounds_toArray, List.set_cons_zero, List.set_cons_succ]
      refine wpAnyH_take (i := 1) (v := ?_) (by simp only [List.getElem?_toArray, List.getElem?_cons_succ, List.getElem?_cons_zero]; exact rfl) (by kernel_rfl) (by kernel_rfl) (by kernel_rfl) (fun _ _ _ h => h) (Or.inl ⟨by rfl, ?_⟩) (by assumption) ?_
      rotate_left 1
      · (intro w hSw; (try dsimp only at hSw); go_simp; try with_reducible rfl)
      try simp only [Act.put, List.setIfInBounds_toArray, List.set_cons_zero, List.set_cons_succ]
      refine wpAnyH_take (i := 2) (v := ?_) (by simp only [List.getElem?_toArray, List.getElem?_cons_succ, List.getElem?_cons_zero]; exact rfl) (by kernel_rfl) (by kernel_rfl) (by kernel_rfl) (fun _ _ _ h => h) (Or.inl ⟨by rfl, ?_⟩) (by assumption) ?_
      rotate_left 1
      · (intro w hSw; (try dsimp only at hSw); go_simp; try with_reducible rfl)
      try simp only [Act.put, List.setIfInBounds_toArray, List.set_cons_zero, List.set_cons_succ]
      refine wpAnyH_take (i := 3) (v := ?_) (by simp only [List.getElem?_toArray, List.getElem?_cons_succ, List.getElem?_cons_zero]; exact rfl) (by kernel_rfl) (by kernel_rfl) (by kernel_rfl) (fun _ _ _ h => h) (Or.inl ⟨by rfl, ?_⟩) (by assumption) ?_
      rotate_left 1
      · (intro w hSw; (try dsimp only at hSw); go_simp; try with_reducible rfl)
      try simp only [Act.put, List.setIfInBounds_toArray, List.set_cons_zero, List.set_cons_succ]
      refine wpAnyH_take (i := 4) (v := ?_) (by simp only [List.getElem?_toArray, List.getElem?_cons_succ, List.getElem?_cons_zero]; exact rfl) (by kernel_rfl) (by kernel_rfl) (by kernel_rfl) (fun _ _ _ h => h) (Or.inl ⟨by rfl, ?_⟩) (by assumption) ?_
      rotate_left 1
      · (intro w hSw; (try dsimp only at hSw); go_simp; try with_reducible rfl)
      try simp only [Act.put, List.setIfInBounds_toArray, List.set_cons_zero, List.set_cons_succ]
      refine wpAnyH_take (i := 7) (v := ?_) (by simp only [List.getElem?_toArray, List.getElem?_cons_succ, List.getElem?_cons_zero]; exact rfl) (by kernel_rfl) (by kernel_rfl) (by kernel_rfl) (fun _ _ _ h => h) (Or.inl ⟨by rfl, ?_⟩) (by assumption) ?_
      rotate_left 1
      · (intro w hSw; (try dsimp only at hSw); go_simp; try with_reducible rfl)
      try simp only [Act.put, List.setIfInBounds_toArray, List.set_cons_zero, List.set_cons_succ]
      refine wpAnyH_ready (rs := [5]) (by kernel_rfl) (by simp) ?_
      refine (AllReadyH.cons (by simp only [List.getElem?_toArray, List.getElem?_cons_succ, List.getElem?_cons_zero]; exact rfl) (fun K hK => ?_) AllReadyH.nil)
      go_simp
      obtain ⟨y, hy⟩ : ∃ y, (x.alloc (.cells #[.slice q k9 cap] 56)) = y := ⟨_, rfl⟩
      have hBa : Below x.heap.size x y := by rw [← hy]; exact below_newD _ _
      have hC := (show y.cell? ⟨x.heap.size, 0, none⟩ = some (.slice q k9 cap) from by rw [← hy]; exact World.cell?_alloc_new _ _ _ _)
      rw [hy]
      have hXY := hHeld.2.trans (hBa.mono hHeld.2.size)
      clear hy hBa
      refine hK.out _ _ (HS.out _ hXY) (fun hHeld => ?_)
      clear hK K
      try simp only [Act.put, List.setIfInBounds_toArray, List.set_cons_zero, List.set_cons_succ]
      refine wpAnyH_ready (rs := [6]) (by kernel_rfl) (by simp) ?_
      refine (AllReadyH.cons (by simp only [List.getElem?_toArray, List.getElem?_cons_succ, List.getElem?_cons_zero]; exact rfl) (fun K hK => ?_) AllReadyH.nil)
      go_simp
      refine (HSM.out x.heap.size y hXY hC).mono ?_
      rintro e z ⟨rfl, hb5⟩
      have hXZ := hXY.trans (hb5.mono hXY.size)
      go_wp2_with fail
      refine hK.out _ _ (HS.out _ hXZ) (fun hHeld => ?_)
      clear hK K
      try simp only [Act.put, List.setIfInBounds_toArray, List.set_cons_zero, List.set_cons_succ]
      refine wpAnyH_take (i := 8) (v := ?_) (by simp only [List.getElem?_toArray, List.getElem?_cons_succ, List.getElem?_cons_zero]; exact rfl) (by kernel_rfl) (by kernel_rfl) (by kernel_rfl) (fun _ _ _ h => h) (Or.inl ⟨by rfl, ?_⟩) (by assumption) ?_
      rotate_left 1
      · (intro w hSw; (try dsimp only at hSw); go_simp; try with_reducible rfl)
      try simp only [Act.put, List.setIfInBounds_toArray, List.set_cons_zero, List.set_cons_succ]
      refine wpAnyH_take (i := 9) (v := ?_) (by simp only [List.getElem?_toArray, List.getElem?_cons_succ, List.getElem?_cons_zero]; exact rfl) (by kernel_rfl) (by kernel_rfl) (by kernel_rfl) (fun _ _ _ h => h) (Or.inl ⟨by rfl, ?_⟩) (by assumption) ?_
      rotate_left 1
      · (intro w hSw; (try dsimp only at hSw); go_simp; try with_reducible rfl)
      try simp only [Act.put, List.setIfInBounds_toArray, List.set_cons_zero, List.set_cons_succ]
      refine wpAnyH_done (by kernel_rfl) ?_ _
      refine NoPanic.normal ?_
      have HZ := Lib.hid hHeld.2
      clear hHeld
      obtain ⟨uz, huz⟩ : ∃ uz, z = uz := ⟨_, rfl⟩
      rw [huz] at HZ ⊢
      clear huz
      cases hdq : deq d0 d1 with
      | false =>
        rw [hdq] at HPC
        obtain rfl : PC = 11 := by rw [← HPE.out, HPC.out]; rfl
        go_wp2
        go_ret2
        exact ⟨HBW.out uz HZ.out, .inl ⟨by decide, rfl⟩⟩
      | true =>
        rw [hdq] at HPC
        have hz5 := (HC5.out uz HZ.out)
        have cc5 := hz5.1
        have hrec := recs_any (M + 6) uz vl bs hz5.2 HBS.out.1 HBS.out.2 (HTB.out uz HZ.out)
        have HREC := Lib.hid hrec
        clear hrec hz5
        go_wp2_with fail
        clear cc5
        refine HREC.out.mono ?_
        rintro e ux ⟨mv, rfl, hBx, hm⟩
        have hZx := HZ.out.trans (hBx.mono HZ.out.size)
        obtain ⟨rc, hrc⟩ : ∃ x, recsF bs true [] = x := ⟨_, rfl⟩
        rw [hrc] at hm ⊢
        have hpc : PC = rc := by rw [← HPE.out, HPC.out, ← hrc]; rfl
        subst hpc
        have HBX := Lib.hid (HBW.out ux hZx)
        by_cases h0 : PC = 0
        · subst h0
          obtain ⟨rfl, es, hM, hE, hl⟩ := hm rfl
          have cc4 := HC4.out ux hZx
          have hmb : uz.heap.size < ux.heap.size := hM.lt
          have HMM := Lib.hid (And.intro hM (And.intro hE hl))
          have HZS := Lib.hid (show M ≤ uz.heap.size ∧ M ≤ ux.heap.size ∧ uz.heap.size < ux.heap.size from ⟨by have := HMM3.out; have := HZ.out.size; omega, by have := HMM3.out; have := hZx.size; omega, hmb⟩)
          obtain ⟨mb, hmb'⟩ : ∃ b, uz.heap.size = b := ⟨_, rfl⟩
          rw [hmb'] at HMM ⊢
          clear hM hE hl hm hBx hmb
          go_wp2
          go_ret2
          have hnb : Below ux.heap.size ux (ux.alloc (.cells #[.int .i64 (g : Int), .map (some mb)] 108)) := below_newR _ _
          have hok : ParOk w l (.returned (.tuple #[.pointer (some ⟨ux.heap.size, 0, none⟩), .int .i64 0])) (ux.alloc (.cells #[.int .i64 (g : Int), .map (some mb)] 108)) :=
            ⟨ux.heap.size, mb, g, bs, d1, es, rfl, ⟨World.alloc_heap_new _ _, HMM.out.1.of_below hnb, fun e he => (HMM.out.2.1 e he).1.of_below hnb, fun e he => (HMM.out.2.1 e he).2.1, fun e he => (HMM.out.2.1 e he).2.2, by have := HMM.out.2.2; have := HBS.out.1; omega⟩, HTT.out, HMM.out.2.2, by rw [HSL.out.2.2.2]; exact HZS.out.2.1⟩
          refine ⟨HBX.out.trans (hnb.mono HZS.out.2.1), ?_⟩
          first | exact .inr ⟨rfl, hok⟩ | exact hok
        · have hci : ¬ (PC : Int) = 0 := by omega
          have hcd : decide ((PC : Int) = 0) = false := decide_eq_false hci
          have HP0 := Lib.hid h0
          clear hm hBx
          go_wp2
          go_ret2
          exact ⟨HBX.out, .inl ⟨HP0.out, rfl⟩⟩
    · rw [if_neg hr] at *
      obtain rfl : PC = 6 := by rw [← HPE.out]; unfold parseA; rw [hT]; dsimp only; rw [if_neg hr]
      clear hT a4 a5 a6 a7 a8 hfc
      go_wp2
      go_ret2
      exact ⟨HJ.out.1, .inl ⟨by decide, rfl⟩⟩
end Go.Proofs.YtkajeepbelfpiaaGreatDoor
/- archive.copies and Known. -/
set_option maxRecDepth 100000
namespace Go.Proofs.YtkajeepbelfpiaaGreatDoor
open Go Go.RowKit

attribute [-go_sem] Sha.exec_store
/-- The paths of the two copies. -/
def cpS (i : Nat) : S8 := [46, 112, 97, 114, 126, 97, 114, 99, 104, 105, 118, 101, 46, if i = 0 then 48 else 49]
def cpF (i : Nat) : Value := .string (mkS (cpS i))
def CpA (w : World) : Prop := ∀ i, i < 2 → w.cell? ⟨0, i, none⟩ = some (cpF i)
def cpV : Value := .agg (tab 2 cpF)
theorem CpA.cell {w : World} (h : CpA w) (i : Nat) (hi : i < 2) : w.cell? ⟨0, i, none⟩ = some (cpF i) := h i hi
theorem CpA.lt {w : World} (h : CpA w) : 0 < w.heap.size := World.block_lt_of_cell? w ⟨0, 0, none⟩ (h 0 (by decide))
theorem CpA.on {w w' : World} (h : CpA w) (hB : Below w.heap.size w w') : CpA w' := fun i hi => by rw [hB.cell (by exact h.lt)]; exact h i hi
theorem cp_load {w : World} (h : CpA w) : (ldT 160 (.pointer (some ⟨0, 0, none⟩))).run Tryz.prog w = .ok (.value cpV) w := by
  have hu : Tryz.prog.underlying 160 = some (.array 2 9) := by kernel_rfl
  have hr : w.rangeAt 0 0 (tab 2 cpF).toList := by
    intro j v hv
    have hj : j < 2 := by
      have := (List.getElem?_eq_some_iff.1 hv).1
      simpa [tab] using this
    rw [Nat.zero_add, h j hj]
    have h2 : (tab 2 cpF).toList[j]? = some (cpF j) := by simp [tab, hj]
    rw [h2] at hv
    exact hv
  have := run_loadAt_mid (P := Tryz.prog) w 0 0 160 _ _ hr hu rfl (by kernel_rfl)
  unfold cpV
  simp only [ldT, Sem.run_bind, this, Result.andThen, Sem.run_pure, Array.toArray_toList]
attribute [irreducible] cpV
theorem exec_loadC (r : Operand → Value) (dst : Option Tmp) (p : Operand) (ty : TypeId) (pos : String) (after : Array Edge) (guard : Option (Nat × Bool)) :
    execOp r ⟨dst, .load 160 p, ty, pos, after, guard⟩ = ldT 160 (r p) := rfl
theorem exec_indexC (r : Operand → Value) (dst : Option Tmp) (x i : Operand) (ty : TypeId) (pos : String) (after : Array Edge) (guard : Option (Nat × Bool)) :
    execOp r ⟨dst, .index 160 x i, ty, pos, after, guard⟩ = ixT 160 (r x) (r i) := rfl
theorem indexC0 (w : World) : (ixT 160 cpV (.int .i64 0)).run Tryz.prog w = .ok (.value (.string (mkS (cpS 0)))) w := by
  unfold cpV
  kernel_rfl
theorem indexC1 (w : World) : (ixT 160 cpV (.int .i64 1)).run Tryz.prog w = .ok (.value (.string (mkS (cpS 1)))) w := by
  unfold cpV
  kernel_rfl
theorem cp_ne : cpS 0 ≠ cpS 1 := by decide
attribute [local go_sem ↓] exec_loadC exec_indexC
attribute [local go_sem] indexC0 indexC1
set_option maxRecDepth 100000 in
set_option maxHeartbeats 4000000 in
theorem known_any (p : S8) (w : World) (hC : CpA w) : Calls Tryz.prog 40 #[.string (mkS p)] w fun e w' => e = .returned (.bool (p == cpS 0 || p == cpS 1)) ∧ w = w' := by
  have ld := cp_load hC
  obtain ⟨s0, hs0⟩ : ∃ x, cpS 0 = x := ⟨_, rfl⟩
  obtain ⟨s1, hs1⟩ : ∃ x, cpS 1 = x := ⟨_, rfl⟩
  have i0 := indexC0
  have i1 := indexC1
  rw [hs0] at i0
  rw [hs1] at i1
  rw [hs0, hs1]
  cases h0 : (p == s0) with
  | true =>
    go_enter Tryz.func40, Tryz.ntmps40
    go_wp2
    refine wp_loop_rounds 3 ?_
    repeat (rw [rounds_succ]; go_wp2)
    go_ret
    exact ⟨by simp, rfl⟩
  | false =>
    cases h1 : (p == s1) with
    | true =>
      go_enter Tryz.func40, Tryz.ntmps40
      go_wp2
      refine wp_loop_rounds 3 ?_
      repeat (rw [rounds_succ]; go_wp2)
      go_ret
      exact ⟨by simp, rfl⟩
    | false =>
      go_enter Tryz.func40, Tryz.ntmps40
      go_wp2
      refine wp_loop_rounds 3 ?_
      repeat (rw [rounds_succ]; go_wp2)
      go_ret
      exact ⟨by simp, rfl⟩
end Go.Proofs.YtkajeepbelfpiaaGreatDoor
/- The program's disk as the statements' walks take it; a fixed fact. -/
set_option maxRecDepth 100000
namespace Go.Proofs.YtkajeepbelfpiaaGreatDoor
open Go Go.RowKit
attribute [-go_sem] Sha.exec_store

/-- Block b is the disk m; its memory is S. -/
def Dsk (w : World) (S : Nat → Prop) (b : Nat) (m : Dk) : Prop := ∃ mv md pv vs sl, Dp w S b m mv md pv vs sl
/-- Behind a call. -/
def Nxt (S : Nat → Prop) (b : Nat) (w : World) (m : Dk) (w' : World) : Prop := Dsk w' (SN S w.heap.size w'.heap.size) b m ∧ Kq8 S w w'
section
variable {w w' : World} {S : Nat → Prop} {b : Nat} {m : Dk}
theorem Dsk.of_below (h : Dsk w S b m) (hB : Below w.heap.size w w') : Dsk w' S b m := by
  obtain ⟨mv, md, pv, vs, sl, h⟩ := h
  exact ⟨mv, md, pv, vs, sl, h.of_below hB⟩
theorem Dsk.low (h : Dsk w S b m) : ∀ k, S k → k < w.heap.size := by
  obtain ⟨mv, md, pv, vs, sl, h⟩ := h
  exact h.low
/-- Another disk's call leaves it alone. -/
theorem Dsk.apart {S2 : Nat → Prop} (h : Dsk w S b m) (hk : Kq8 S2 w w') (ha : ∀ k, S k → ¬ S2 k) : Dsk w' S b m := by
  obtain ⟨mv, md, pv, vs, sl, h⟩ := h
  exact ⟨mv, md, pv, vs, sl, h.keep (fun k hs => hk.block k (h.low k hs) (ha k hs)) (fun _ x => x) (fun k hs => Nat.lt_of_lt_of_le (h.low k hs) hk.size)⟩
theorem dnew_any (room : Int) (w : World) : Calls Tryz.prog 26 #[.int .i64 room] w fun e w' => ∃ b, e = .returned (.pointer (some ⟨b, 0, none⟩)) ∧ Dsk w' (fun k => w.heap.size ≤ k ∧ k < w'.heap.size) b ⟨clampL room, 0, [], [], [], []⟩ ∧ Below w.heap.size w w' :=
  (newD_any room w).mono fun e w' ⟨h1, h2, h3⟩ => ⟨_, h1, ⟨_, _, _, _, _, h2⟩, h3⟩
theorem dwrite_any (h : Dsk w S b m) (hok : DkOk 299 m) (h64 : m.seen.length ≤ 64) (hr0 : 0 ≤ m.room) (hr1 : m.room ≤ 1048576) (p x : S8) (q : Option Addr) (cap : Nat) (time : Int) (hp : p.length ≤ 1000) (hx : x.length ≤ 400000) (hl : LsG (fun k => ¬ S k) w q x.length cap 1 (bytC x)) : Calls Tryz.prog 64 #[.pointer (some ⟨b, 0, none⟩), .string (mkS p), .slice q x.length cap, .int .i64 time] w fun e w' => e = .returned (.int .i64 ((writeL m p x time).2 : Int)) ∧ Nxt S b w (writeL m p x time).1 w' := by
  obtain ⟨mv, md, pv, vs, sl, h⟩ := h
  rw [← writeQ_eq m p x time h64]
  exact write_any h hok hr0 hr1 p x q cap time hp hx hl
theorem dsync_any (h : Dsk w S b m) : Calls Tryz.prog 70 #[.pointer (some ⟨b, 0, none⟩)] w fun e w' => e = .returned (.tuple #[]) ∧ Nxt S b w (syncL m) w' := by
  obtain ⟨mv, md, pv, vs, sl, h⟩ := h
  exact sync_any h
theorem dread_any (h : Dsk w S b m) (hok : DkOk 300 m) (p : S8) : Calls Tryz.prog 75 #[.pointer (some ⟨b, 0, none⟩), .string (mkS p)] w fun e w' => ∃ v, e = .returned (.tuple #[v, .int .i64 (readN m p)]) ∧ w'.ownsRow w.heap.size 5 1 v ((readL m p).getD []).length (bytC ((readL m p).getD [])) ∧ Below w.heap.size w w' := by
  obtain ⟨mv, md, pv, vs, sl, h⟩ := h
  exact readD_any h hok p
theorem dstat_any (h : Dsk w S b m) (p : S8) : Calls Tryz.prog 76 #[.pointer (some ⟨b, 0, none⟩), .string (mkS p)] w fun e w' => e = .returned (stampV (fileL m p)) ∧ Below w.heap.size w w' := by
  obtain ⟨mv, md, pv, vs, sl, h⟩ := h
  exact stat_any h p
theorem dpaths_any (h : Dsk w S b m) (hok : DkOk 300 m) : Calls Tryz.prog 129 #[.pointer (some ⟨b, 0, none⟩)] w fun e w' => ∃ (v : Value) (ls : List S8), e = .returned v ∧ ls.Perm (m.seen.map Fl.p) ∧ ls.Pairwise (fun x y => decide (y ≤ x) = false) ∧ w'.ownsRow w.heap.size 9 1 v ls.length (ls.map fun s => .string (mkS s)) ∧ Below w.heap.size w w' := by
  obtain ⟨mv, md, pv, vs, sl, h⟩ := h
  exact paths_any h hok
theorem droom_any (h : Dsk w S b m) : Calls Tryz.prog 178 #[.pointer (some ⟨b, 0, none⟩)] w fun e w' => e = .returned (.int .i64 m.room) ∧ w = w' := by
  obtain ⟨mv, md, pv, vs, sl, h⟩ := h
  exact room_any h
theorem Dsk.once (h : Dsk w S b m) : OnceF m.seen := by
  obtain ⟨mv, md, pv, vs, sl, h⟩ := h
  exact h.vis.once
end
end Go.Proofs.YtkajeepbelfpiaaGreatDoor
/- archive.Load where no copy is an archive. -/
set_option maxRecDepth 100000
namespace Go.Proofs.YtkajeepbelfpiaaGreatDoor
open Go Go.RowKit

attribute [-go_sem] Sha.exec_store
theorem bytC_pB (x : S8) : bytC x = (pB x).map B := by
  unfold bytC pB
  rw [List.map_map]
  exact List.map_congr_left fun c _ => (B_eq' c.toBitVec).symm
theorem sl_bytC {w : World} {q : Option Addr} {x : S8} (h : LsC w q (bytC x)) : Sl w q (pB x) := fun j hj => by
  rw [bytC_pB] at h
  obtain ⟨c, o, e, hc⟩ := h j (by rw [List.length_map]; exact hj)
  refine ⟨c, o, e, ?_⟩
  rw [hc, List.getElem?_map, List.getD_eq_getElem?_getD, List.getElem?_eq_getElem hj]
  rfl
section
variable {w : World} {S : Nat → Prop} {b : Nat} {m : Dk}
attribute [local go_sem ↓] exec_loadC exec_indexC
attribute [local go_sem] indexC0 indexC1
end
end Go.Proofs.YtkajeepbelfpiaaGreatDoor
/- A disk on which an archive of 34 bytes is saved (plain). -/
set_option maxRecDepth 100000
namespace Go.Proofs.YtkajeepbelfpiaaGreatDoor
open Go Go.RowKit
attribute [-go_sem] Sha.exec_store

def aw0 : Dk := ⟨500, 0, [], [], [], []⟩
def af0 (x : S8) : Fl := ⟨cpS 0, 0, (x.length : Int), 1, 1⟩
def af1 (x : S8) : Fl := ⟨cpS 1, 1, (x.length : Int), 1, 2⟩
def aw1 (x : S8) : Dk := ⟨500, 1, [x], [af0 x], [], [⟨1, [], af0 x⟩]⟩
def aw2 (x : S8) : Dk := ⟨500, 1, [x], [af0 x], [af0 x], []⟩
def aw3 (x : S8) : Dk := ⟨500, 2, [x, x], [af0 x, af1 x], [af0 x], [⟨1, [], af1 x⟩]⟩
def aw4 (x : S8) : Dk := ⟨500, 2, [x, x], [af0 x, af1 x], [af0 x, af1 x], []⟩
theorem cp_good0 : goodL (cpS 0) = true := by decide +kernel
theorem cp_good1 : goodL (cpS 1) = true := by decide +kernel
theorem cp_cl : clashL (cpS 0) (cpS 1) = false := by decide +kernel
theorem cp_eq : (cpS 0 == cpS 1) = false := by decide
theorem aw11_w1 (x : S8) (hx : x.length = 34) : writeL aw0 (cpS 0) x 1 = (aw1 x, 0) := by
  unfold writeL
  rw [cp_good0]
  simp [hx, aw0, clashesL, findL, leftL, usedL, changeL, doL, withoutL, aw1, af0]
theorem aw11_s1 (x : S8) : syncL (aw1 x) = aw2 x := rfl
theorem aw11_w2 (x : S8) (hx : x.length = 34) : writeL (aw2 x) (cpS 1) x 1 = (aw3 x, 0) := by
  unfold writeL
  rw [cp_good1]
  simp [hx, aw2, clashesL, findL, leftL, usedL, changeL, doL, withoutL, aw3, af0, af1, bodyD, cp_cl, cp_eq, cp_ne]
theorem aw11_s2 (x : S8) : syncL (aw3 x) = aw4 x := rfl
theorem aw11_r0 (x : S8) : readL (aw4 x) (cpS 0) = some x := by
  simp [readL, aw4, findL, af0, af1, bodyD, List.findIdx?_cons]
theorem aw11_r1 (x : S8) : readL (aw4 x) (cpS 1) = some x := by
  simp [readL, aw4, findL, af0, af1, bodyD, List.findIdx?_cons, cp_eq]
theorem aw0_ok : DkOk 0 aw0 := DkOk.zero 500
theorem aw1_ok (x : S8) (hx : x.length = 34) : DkOk 1 (aw1 x) := by
  have := aw0_ok.write (cpS 0) x 1
  rw [aw11_w1 x hx] at this
  exact this
theorem aw2_ok (x : S8) (hx : x.length = 34) : DkOk 2 (aw2 x) := by
  have := (aw1_ok x hx).sync
  rw [aw11_s1] at this
  exact this.mono (by decide)
theorem aw3_ok (x : S8) (hx : x.length = 34) : DkOk 3 (aw3 x) := by
  have := (aw2_ok x hx).write (cpS 1) x 1
  rw [aw11_w2 x hx] at this
  exact this
theorem aw4_ok (x : S8) (hx : x.length = 34) : DkOk 4 (aw4 x) := by
  have := (aw3_ok x hx).sync
  rw [aw11_s2] at this
  exact this.mono (by decide)
/-- An archive without records, of generation 1. -/
theorem enc1 : encAr 1 [] = [1#8, 0#8] ++ digL [1#8, 0#8] := by
  have h : bodyA 1 [] = [1#8, 0#8] := by
    unfold bodyA itsA
    rw [enc7_lo (by decide), show ([] : List Ent).length = 0 from rfl, enc7_lo (by decide)]
    rfl
  unfold encAr
  rw [h]
theorem enc1_len : (encAr 1 []).length = 34 := by rw [enc1, List.length_append, digL_len]; rfl
end Go.Proofs.YtkajeepbelfpiaaGreatDoor
/- archive.clashes, hasRoom, refusal, of a disk without files. -/
set_option maxRecDepth 100000
namespace Go.Proofs.YtkajeepbelfpiaaGreatDoor
open Go Go.RowKit

attribute [-go_sem] Sha.exec_store
theorem takeAr1 : takeAr (encAr 1 []) = .ok ((1, [], digL [1#8, 0#8]), []) := by
  have hd := digL_len [1#8, 0#8]
  obtain ⟨d, hdd⟩ : ∃ d, digL [1#8, 0#8] = d := ⟨_, rfl⟩
  rw [enc1, hdd]
  rw [hdd] at hd
  have e : [1#8, 0#8] ++ d = enc7 1 ++ (enc7 0 ++ d) := by rw [enc7_lo (by decide), enc7_lo (by decide)]; rfl
  have h1 := takeI_encT (n := 1) (most := maxT) (enc7 0 ++ d) (by decide) (by decide)
  have h2 := takeI_encT (n := 0) (most := 128) d (by decide) (by decide)
  rw [e]
  unfold takeAr
  rw [stp_ok h1, List.drop_left, stp_ok h2, List.drop_left]
  simp only [takeBs]
  have h3 : nextI d 4 0 = ((nextI d 4 0).1, (nextI d 4 0).2.1, 0) := by
    have hc := nextI_code (l := d) (most := 0) (x := (nextI d 4 0).1) (k := (nextI d 4 0).2.1) (c := (nextI d 4 0).2.2) rfl
    by_cases h0 : (nextI d 4 0).2.2 = 0
    · rw [← h0]
    · have := (hc.2 h0).2; omega
  have hc := (nextI_code h3).1 rfl
  rw [stp_ok h3, hc.1, hc.2.1, List.take_of_length_le (by omega), List.drop_of_length_le (by omega)]
theorem parseA1 : parseA (encAr 1 []) = 0 := by
  unfold parseA
  rw [takeAr1]
  have hl := enc1_len
  have ht : (encAr 1 []).take ((encAr 1 []).length - 32) = [1#8, 0#8] := by
    rw [hl, enc1]
    exact List.take_left' rfl
  dsimp only
  rw [ht, if_pos rfl]
  have : deq (digL [1#8, 0#8]) (digL [1#8, 0#8]) = true := deq_self _
  rw [this]
  rfl
theorem exec_storeSt (r : Operand → Value) (dst : Option Tmp) (p v : Operand) (ty : TypeId) (pos : String) (after : Array Edge) (guard : Option (Nat × Bool)) :
    execOp r ⟨dst, .store 38 p v, ty, pos, after, guard⟩ = stT 38 (r p) (r v) := rfl
theorem st_stamp11 (w : World) (a b c x y z : Int) : (stT 38 (.pointer (some ⟨w.heap.size, 0, none⟩)) (.agg #[.int .i64 a, .int .i64 b, .int .i64 c])).run Tryz.prog (w.alloc (.cells #[.int .i64 x, .int .i64 y, .int .i64 z] 38)) = .ok .skip (w.alloc (.cells #[.int .i64 a, .int .i64 b, .int .i64 c] 38)) := by
  have h := run_storeAt_newV (P := Tryz.prog) w 38 38 #[.int .i64 x, .int .i64 y, .int .i64 z] #[.int .i64 a, .int .i64 b, .int .i64 c] (by kernel_rfl) rfl (by kernel_rfl)
  simp only [stT, Sem.run_bind, h, Result.andThen, Sem.run_pure]
section
variable {w : World} {S : Nat → Prop} {b : Nat} {m : Dk}
attribute [local go_sem ↓] exec_loadC exec_indexC exec_storeSt
attribute [local go_sem] indexC0 indexC1 st_stamp11
set_option maxRecDepth 100000 in
set_option maxHeartbeats 4000000 in
theorem clashes0 (h : Dsk w S b m) (hok : DkOk 300 m) (hm : m.seen = []) : Calls Tryz.prog 134 #[.pointer (some ⟨b, 0, none⟩)] w fun e w' => e = .returned (.bool false) ∧ Below w.heap.size w w' := by
  have HP := Lib.hid (dpaths_any h hok)
  rw [hm] at HP
  clear h hok hm
  go_enter Tryz.func134, Tryz.ntmps134
  go_wp2_with fail
  refine HP.out.mono ?_
  rintro e w1 ⟨v, ls, rfl, hp, -, hO, hB⟩
  have hl : ls = [] := by simpa using hp
  subst hl
  obtain ⟨q, c, rfl⟩ := own_sliceR hO
  have HB := Lib.hid hB
  clear hp hO hB
  go_wp2
  refine wp_loop_rounds 1 ?_
  rw [rounds_succ]
  go_wp2
  go_ret
  exact ⟨rfl, HB.out⟩
set_option maxRecDepth 100000 in
set_option maxHeartbeats 4000000 in
theorem hasRoom0 (h : Dsk w S b m) (hok : DkOk 300 m) (hm : m.seen = []) (hr : m.room = 500) (hC : CpA w) : Calls Tryz.prog 135 #[.pointer (some ⟨b, 0, none⟩), .int .i64 34] w fun e w' => e = .returned (.bool true) ∧ Below w.heap.size w w' := by
  have HP := Lib.hid (dpaths_any h hok)
  rw [hm] at HP
  have HST := Lib.hid (fun (u : World) (hu : Below w.heap.size w u) => dstat_any (h.of_below hu) (cpS 1))
  have hf : fileL m (cpS 1) = none := by unfold fileL findL; rw [hm]; rfl
  rw [hf] at HST
  have HRM := Lib.hid (fun (u : World) (hu : Below w.heap.size w u) => droom_any (h.of_below hu))
  rw [hr] at HRM
  have HC := Lib.hid (fun (u : World) (hu : Below w.heap.size w u) => (hC.on hu).cell 1 (by decide))
  clear h hok hm hr hC hf
  go_enter Tryz.func135, Tryz.ntmps135
  go_wp2_with fail
  refine HP.out.mono ?_
  rintro e w1 ⟨v, ls, rfl, hp, -, hO, hB⟩
  have hl : ls = [] := by simpa using hp
  subst hl
  obtain ⟨q, c, rfl⟩ := own_sliceR hO
  have HB := Lib.hid hB
  have cc := HC.out w1 hB
  have hcF : cpF 1 = .string (mkS (cpS 1)) := rfl
  rw [hcF] at cc
  clear hp hO hB
  go_wp2
  refine wp_loop_rounds 1 ?_
  rw [rounds_succ]
  go_wp2_with fail
  refine (HST.out w1 HB.out).mono ?_
  rintro e w2 ⟨rfl, hB2⟩
  have hX : Below w.heap.size w w2 := HB.out.trans (hB2.mono HB.out.size)
  obtain ⟨W3, hW3⟩ : ∃ W, w2.alloc (.cells #[.int .i64 0, .int .i64 0, .int .i64 0] 38) = W := ⟨_, rfl⟩
  have hB3 : Below w2.heap.size w2 W3 := by rw [← hW3]; exact below_newR _ _
  have k0 : W3.cell? ⟨w2.heap.size, 0, none⟩ = some (.int .i64 0) := by
    rw [← hW3]
    have := World.alloc_heap_new w2 (.cells #[.int .i64 0, .int .i64 0, .int .i64 0] 38)
    unfold World.cell?
    rw [this]
    simp
  have HX := Lib.hid (hX.trans (hB3.mono hX.size))
  have st := st_stamp11 w2 0 0 0 0 0 0
  rw [hW3] at st
  have z1 : max (34 : Int) 0 = 34 := by decide
  clear hB2 hX hB3 cc
  unfold stampV
  go_wp2
  go_quiet ((go_at_call 178; exact Calls.quiet_of_same ((HRM.out _ (HX.out.trans (((Dr.refl _).drewN _).below _))).mono fun e w' ⟨he, hw⟩ => ⟨he, hw.symm⟩)))
  have HX := Lib.hid (HX.out.trans (((Dr.refl _).drewN nq).below _))
  go_wp2
  go_ret
  exact ⟨rfl, HX.out⟩
end
end Go.Proofs.YtkajeepbelfpiaaGreatDoor
/- (*archive.Archive).Save of an archive without records, on a disk without files. -/
set_option maxRecDepth 100000
namespace Go.Proofs.YtkajeepbelfpiaaGreatDoor
open Go Go.RowKit

attribute [-go_sem] Sha.exec_store
section
variable {w w' : World} {S : Nat → Prop} {b N : Nat} {m : Dk}
theorem kq8_below11 (h : Kq8 S w w') (hS : ∀ k, S k → N ≤ k) (hN : N ≤ w.heap.size) : Below N w w' :=
  ⟨h.os, h.tape, h.output, h.size, fun k hk => h.block k (Nat.lt_of_lt_of_le hk hN) (fun x => by have := hS k x; omega)⟩
theorem sn_from11 (hS : ∀ k, S k → N ≤ k) {M K : Nat} (hM : N ≤ M) : ∀ k, SN S M K k → N ≤ k := fun k hk => by
  rcases hk with x | x
  · exact hS k x
  · exact Nat.le_trans hM x.1
theorem ArAt.gen11 {a mb : Nat} {gen : Int} (h : ArAt w a mb gen []) (g' : Int) : ArAt (w.setCell ⟨a, 0, none⟩ (.int .i64 g')) a mb g' [] ∧ Kp a w (w.setCell ⟨a, 0, none⟩ (.int .i64 g')) := by
  have hk : Kp a w (w.setCell ⟨a, 0, none⟩ (.int .i64 g')) := (Kp.refl _ _).setCell 0 _
  refine ⟨⟨?_, h.map.keep (hk.block _ h.map.lt (Ne.symm h.ne)), (fun e he => by cases he), h.good, h.inn, h.few⟩, hk⟩
  have hb := h.box
  obtain ⟨hlt, hx⟩ := Array.getElem?_eq_some_iff.1 hb
  show (w.heap.modify a _)[a]? = _
  rw [Array.getElem?_eq_getElem (by rw [Array.size_modify]; exact hlt), Array.getElem_modify_self, hx]
  rfl
end
section
variable {w : World} {S : Nat → Prop} {b : Nat} {m : Dk}
set_option maxRecDepth 100000 in
set_option maxHeartbeats 4000000 in
theorem refusal0 (h : Dsk w S b m) (hok : DkOk 300 m) (hm : m.seen = []) (hr : m.room = 500) (hC : CpA w) : Calls Tryz.prog 88 #[.pointer (some ⟨b, 0, none⟩), .int .i64 34] w fun e w' => e = .returned (.int .i64 0) ∧ Below w.heap.size w w' := by
  have H1 := Lib.hid (clashes0 h hok hm)
  have H2 := Lib.hid (fun (u : World) (hu : Below w.heap.size w u) => hasRoom0 (h.of_below hu) hok hm hr (hC.on hu))
  clear h hok hm hr hC
  go_enter Tryz.func88, Tryz.ntmps88
  go_wp2_with fail
  refine H1.out.mono ?_
  rintro e w1 ⟨rfl, hB1⟩
  have HB1 := Lib.hid hB1
  clear hB1
  go_wp2_with fail
  refine (H2.out w1 HB1.out).mono ?_
  rintro e w2 ⟨rfl, hB2⟩
  have HB2 := Lib.hid (HB1.out.trans (hB2.mono HB1.out.size))
  clear hB2
  go_wp2
  go_ret
  exact ⟨rfl, HB2.out⟩
theorem pB_pS (b : By) : pB (pS b) = b := by
  unfold pB pS
  rw [List.map_map]
  exact List.map_id _
/-- What is saved. -/
def awX : S8 := pS (encAr 1 [])
theorem awX_len : awX.length = 34 := by unfold awX; rw [pS_len]; exact enc1_len
attribute [local go_sem ↓] exec_loadC exec_indexC
attribute [local go_sem] indexC0 indexC1
theorem lsc_bytC {w : World} {q : Option Addr} {x : S8} {l : By} (h : Sl w q l) (hx : pB x = l) : LsC w q (bytC x) := fun j hj => by
  rw [bytC_pB, hx] at hj ⊢
  rw [List.length_map] at hj
  obtain ⟨c, o, e, hc⟩ := h j hj
  refine ⟨c, o, e, ?_⟩
  rw [hc, List.getElem?_map, List.getD_eq_getElem?_getD, List.getElem?_eq_getElem hj]
  rfl
set_option maxRecDepth 100000 in
set_option maxHeartbeats 8000000 in
theorem save0 (N a mb : Nat) (hA : ArAt w a mb 0 []) (hD : Dsk w S b aw0) (hC : CpA w) (hT : Tb w) (hc0 : 0 < N) (ha : N ≤ a) (hS : ∀ k, S k → N ≤ k) (hSa : ¬ S a) (hN : N ≤ w.heap.size) :
    Calls Tryz.prog 37 #[.pointer (some ⟨a, 0, none⟩), .pointer (some ⟨b, 0, none⟩), .int .i64 1] w fun e w' => e = .returned (.int .i64 0) ∧ Below N w w' ∧ ∃ S', Dsk w' S' b (aw4 awX) ∧ ∀ k, S' k → N ≤ k := by
  have HD := Lib.hid hD
  have HC := Lib.hid hC
  have HT := Lib.hid hT
  have HS := Lib.hid (And.intro hS hSa)
  have HN := Lib.hid (And.intro hN (And.intro ha hc0))
  have HCP := Lib.hid (copy_any hA)
  have HA := Lib.hid hA
  have c0 := hA.cell0
  have g1 : decide ((0 : Int) ≥ 1099511627776) = false := by decide
  clear hA hD hC hT hS hSa hN
  go_enter Tryz.func37, Tryz.ntmps37
  go_wp2_with fail
  clear c0
  refine HCP.out.mono ?_
  rintro e w1 ⟨a2, m2, rfl, hA2, hB1, ha2, hm2⟩
  have hw := HN.out
  obtain ⟨hA3, hk3⟩ := hA2.gen11 1
  have c2 := hA2.cell0
  have f2 : w1.frozen? ⟨a2, 0, none⟩ = false := by
    unfold World.frozen?
    rw [hA2.box]
    simp
  obtain ⟨w2, hw2⟩ : ∃ x, w1.setCell ⟨a2, 0, none⟩ (.int .i64 1) = x := ⟨_, rfl⟩
  rw [hw2] at hA3 hk3
  have hB2 : Below w.heap.size w w2 := hB1.trans (hk3.below ha2 hB1.size)
  have HBY := Lib.hid (bytesA_any 1 hA3 (by decide) (HT.out.on hB2))
  rw [show sortA [] = [] from by simp [sortA]] at HBY
  have HB2 := Lib.hid hB2
  have HA3 := Lib.hid hA3
  clear hA3 hk3 hB1 hB2 hA2
  go_wp2_with fail
  clear hw2 c2 f2
  refine HBY.out.mono ?_
  rintro e w3 ⟨v, rfl, hO, hB3⟩
  obtain ⟨q, c, rfl, hs, hq, hle⟩ := hO.shape
  rw [enc1_len] at hle ⊢
  have hX3 : Below w.heap.size w w3 := HB2.out.trans (hB3.mono HB2.out.size)
  have HX3 := Lib.hid hX3
  have HQ := Lib.hid (show ∀ cc oo, q = some ⟨cc, oo, none⟩ → w.heap.size ≤ cc ∧ cc < w3.heap.size from fun cc oo e => by
    have h := hO.lt cc (by rw [e]; rfl)
    have := HB2.out.size
    exact ⟨by omega, h.2⟩)
  have HSL := Lib.hid (And.intro hs (And.intro hq hle))
  have HRF := Lib.hid (refusal0 (HD.out.of_below hX3) (aw0_ok.mono (by decide)) rfl rfl (HC.out.on hX3))
  have HB3 := Lib.hid hB3
  clear hO hs hq hle hB3 hX3 HBY
  go_wp2_with fail
  refine HRF.out.mono ?_
  rintro e w4 ⟨rfl, hB4⟩
  have hX4 : Below w.heap.size w w4 := HX3.out.trans (hB4.mono HX3.out.size)
  have hD4 := HD.out.of_below hX4
  have hlow := HD.out.low
  have ld := cp_load (HC.out.on hX4)
  have hls4 : LsC w4 q (bytC awX) := lsc_bytC (HSL.out.1.of_below hB4) (pB_pS _)
  have hq4 : ∀ cc oo, q = some ⟨cc, oo, none⟩ → ¬ S cc ∧ cc < w4.heap.size := fun cc oo e => by
    have h := HQ.out cc oo e
    have := hB4.size
    exact ⟨fun hx => by have := hlow cc hx; omega, by omega⟩
  have hW1 := dwrite_any hD4 (aw0_ok.mono (by decide)) (by decide) (by decide) (by decide) (cpS 0) awX q c 1 (by decide) (by rw [awX_len]; decide) ⟨hls4, by rw [bytC_len, Nat.mul_one], fun cc oo e _ => hq4 cc oo e, HSL.out.2.1, by rw [awX_len]; exact HSL.out.2.2⟩
  rw [aw11_w1 awX awX_len, awX_len] at hW1
  have HW1 := Lib.hid hW1
  have HX4 := Lib.hid (And.intro hX4 hlow)
  have HL4 := Lib.hid (And.intro hls4 hq4)
  have ha2' := Lib.hid (show ¬ S a2 ∧ a2 < w4.heap.size from ⟨fun hx => by have := hlow a2 hx; omega, Nat.lt_of_lt_of_le HA3.out.lt (Nat.le_trans HB3.out.size hB4.size)⟩)
  have ca2 : w4.cell? ⟨a2, 0, none⟩ = some (.int .i64 1) := ((HA3.out.of_below HB3.out).of_below hB4).cell0
  have hA4 := HA.out.of_below hX4
  have ca := hA4.cell0
  have fa : w4.frozen? ⟨a, 0, none⟩ = false := by
    unfold World.frozen?
    rw [hA4.box]
    simp
  have HAA := Lib.hid (And.intro ca2 (And.intro ca (And.intro fa (show a < w4.heap.size from hA4.lt))))
  clear hB4 hX4 hD4 hlow hls4 hq4 hW1 HRF ca2 ca fa hA4
  go_wp2
  clear ld
  refine wp_loop_rounds 3 ?_
  rw [rounds_succ]
  go_wp2_with fail
  refine HW1.out.mono ?_
  rintro e w5 ⟨rfl, hD1, hk1⟩
  have HSY := Lib.hid (dsync_any hD1)
  rw [aw11_s1] at HSY
  have HD1 := Lib.hid hD1
  have HK1 := Lib.hid hk1
  clear hD1 hk1 HW1
  go_wp2_with fail
  refine HSY.out.mono ?_
  rintro e w6 ⟨rfl, hDs, hks⟩
  have HDS1 := Lib.hid hDs
  have HKS1 := Lib.hid hks
  clear hDs hks HSY
  have hk56 : ∀ k, k < w4.heap.size → ¬ S k → w6.heap[k]? = w4.heap[k]? ∧ ¬ SN (SN S w4.heap.size w5.heap.size) w5.heap.size w6.heap.size k ∧ k < w6.heap.size := fun k h1 h2 => by
    have h3 := HK1.out.size
    have h4 := HKS1.out.size
    have n1 : ¬ SN S w4.heap.size w5.heap.size k := fun hx => by rcases hx with hx | hx; exact h2 hx; omega
    refine ⟨(HKS1.out.block k (by omega) n1).trans (HK1.out.block k h1 h2), fun hx => ?_, by omega⟩
    rcases hx with hx | hx
    · exact n1 hx
    · omega
  have hls6 : LsC w6 q (bytC awX) := HL4.out.1.keep fun cc oo e _ => (hk56 cc (HL4.out.2 cc oo e).2 (HL4.out.2 cc oo e).1).1
  have hW2 := dwrite_any HDS1.out ((aw2_ok awX awX_len).mono (by decide)) (by decide) (by decide) (by decide) (cpS 1) awX q c 1 (by decide) (by rw [awX_len]; decide) ⟨hls6, by rw [bytC_len, Nat.mul_one], fun cc oo e _ => ⟨(hk56 cc (HL4.out.2 cc oo e).2 (HL4.out.2 cc oo e).1).2.1, (hk56 cc (HL4.out.2 cc oo e).2 (HL4.out.2 cc oo e).1).2.2⟩, HSL.out.2.1, by rw [awX_len]; exact HSL.out.2.2⟩
  rw [aw11_w2 awX awX_len, awX_len] at hW2
  have HW2 := Lib.hid hW2
  have HK56 := Lib.hid hk56
  clear hk56 hls6 hW2
  go_wp2
  rw [rounds_succ]
  go_wp2_with fail
  refine HW2.out.mono ?_
  rintro e w7 ⟨rfl, hD2, hk2⟩
  have HSY := Lib.hid (dsync_any hD2)
  rw [aw11_s2] at HSY
  have HD2 := Lib.hid hD2
  have HK2 := Lib.hid hk2
  clear hD2 hk2 HW2
  go_wp2_with fail
  refine HSY.out.mono ?_
  rintro e w8 ⟨rfl, hDs, hks⟩
  have HDS2 := Lib.hid hDs
  have HKS2 := Lib.hid hks
  clear hDs hks HSY
  obtain ⟨S2, hS2⟩ : ∃ x, SN (SN S w4.heap.size w5.heap.size) w5.heap.size w6.heap.size = x := ⟨_, rfl⟩
  rw [hS2] at HK56 HK2 HKS2 HDS2
  have hk78 : ∀ k, k < w4.heap.size → ¬ S k → w8.heap[k]? = w4.heap[k]? ∧ ¬ SN (SN S2 w6.heap.size w7.heap.size) w7.heap.size w8.heap.size k := fun k h1 h2 => by
    obtain ⟨i1, i2, i3⟩ := HK56.out k h1 h2
    have h3 := HK2.out.size
    have h4 := HKS2.out.size
    have n1 : ¬ SN S2 w6.heap.size w7.heap.size k := fun hx => by rcases hx with hx | hx; exact i2 hx; omega
    refine ⟨(HKS2.out.block k (by omega) n1).trans ((HK2.out.block k i3 i2).trans i1), fun hx => ?_⟩
    rcases hx with hx | hx
    · exact n1 hx
    · omega
  have ca2 : w8.cell? ⟨a2, 0, none⟩ = some (.int .i64 1) := by rw [World.cell?_of_block (w := w4) (hk78 a2 ha2'.out.2 ha2'.out.1).1]; exact HAA.out.1
  have ca : w8.cell? ⟨a, 0, none⟩ = some (.int .i64 0) := by rw [World.cell?_of_block (w := w4) (hk78 a HAA.out.2.2.2 HS.out.2).1]; exact HAA.out.2.1
  have fa : w8.frozen? ⟨a, 0, none⟩ = false := by rw [World.frozen?_of_block (w := w4) (hk78 a HAA.out.2.2.2 HS.out.2).1]; exact HAA.out.2.2.1
  have HNA := Lib.hid (hk78 a HAA.out.2.2.2 HS.out.2).2
  clear hk78
  go_wp2
  rw [rounds_succ]
  go_wp2
  go_ret
  have hN := HN.out
  have s4 : N ≤ w4.heap.size := Nat.le_trans hN.1 HX4.out.1.size
  have s5 := HK1.out.size
  have s6 := HKS1.out.size
  have s7 := HK2.out.size
  have s8 := HKS2.out.size
  have f1 := sn_from11 HS.out.1 s4 (K := w5.heap.size)
  have f2 := sn_from11 f1 (show N ≤ w5.heap.size by omega) (K := w6.heap.size)
  rw [hS2] at f2
  have f3 := sn_from11 f2 (show N ≤ w6.heap.size by omega) (K := w7.heap.size)
  have f4 := sn_from11 f3 (show N ≤ w7.heap.size by omega) (K := w8.heap.size)
  have b4 : Below N w w4 := HX4.out.1.mono hN.1
  have b5 := b4.trans (kq8_below11 HK1.out HS.out.1 s4)
  have b6 := b5.trans (kq8_below11 HKS1.out f1 (by omega))
  have b7 := b6.trans (kq8_below11 HK2.out f2 (by omega))
  have b8 := b7.trans (kq8_below11 HKS2.out f3 (by omega))
  have hka : Kq8 (fun k => k = a) w8 (w8.setCell ⟨a, 0, none⟩ (.int .i64 1)) := ⟨rfl, rfl, rfl, by simp, fun k _ hk => Below.heap_setCell _ _ _ _ hk⟩
  exact ⟨rfl, b8.setCell (show N ≤ a from hN.2.1) _, _, HDS2.out.apart hka (fun k hk e => by subst e; exact HNA.out hk), f4⟩
end
end Go.Proofs.YtkajeepbelfpiaaGreatDoor
