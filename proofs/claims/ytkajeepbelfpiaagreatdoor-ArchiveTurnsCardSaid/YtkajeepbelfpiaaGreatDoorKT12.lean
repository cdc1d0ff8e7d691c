/- Merged texts: Prt, Rows3, BEq, Ldt11, Awk11, LiftR10, LiftR11, Rcs11, Trn11, LiftT10, LiftN11. -/
import Derived.Deep.LoopGhost
import Derived.Deep.AppendLies
import Derived.Test.YtkajeepbelfpiaaGreatDoorBytes
import Derived.Lib.Walk
import Derived.Test.YtkajeepbelfpiaaGreatDoorKT11
import Derived.Deep.Slices
import Derived.Test.YtkajeepbelfpiaaGreatDoorLiftV9
import Derived.Test.YtkajeepbelfpiaaGreatDoorLiftS7
import Derived.Test.YtkajeepbelfpiaaGreatDoorKT2
import Derived.Test.YtkajeepbelfpiaaGreatDoorKT9
import Derived.Lib.LaidTab
import Derived.Test.YtkajeepbelfpiaaGreatDoorSha10
import Derived.Test.YtkajeepbelfpiaaGreatDoorLiftN13
import Derived.Test.YtkajeepbelfpiaaGreatDoorLiftB6
set_option linter.unusedSimpArgs false
set_option linter.unusedVariables false
/- Slices of slices of bytes: read, and appended to. -/
set_option maxRecDepth 100000
namespace Go.Proofs.YtkajeepbelfpiaaGreatDoor
open Go Go.RowKit
attribute [-go_sem] Sha.exec_store

theorem undRows : Tryz.prog.underlying 65 = some (.slice 56) := by kernel_rfl
theorem infoB : (Tryz.prog.info? 56).map (fun i => (i.zero, i.size, i.bytes)) = some (some (.slice none 0 0), 1, 24) := by kernel_rfl
/-- Slices of bytes lie where a slice of their number begins. -/
def Prt (w : World) (p : Option Addr) (ls : List (List (BitVec 8))) : Prop :=
  ∀ i, i < ls.length → ∃ c o q cap, p = some ⟨c, o, none⟩ ∧ w.cell? ⟨c, o + i, none⟩ = some (.slice q (ls.getD i []).length cap) ∧ Sl w q (ls.getD i []) ∧ (q = none → cap = 0) ∧ (ls.getD i []).length ≤ cap
theorem Prt.of_below {w w' : World} {p : Option Addr} {ls : List (List (BitVec 8))} (h : Prt w p ls) (k : Below w.heap.size w w') : Prt w' p ls := fun i hi => by
  obtain ⟨c, o, q, cap, h1, h2, h3, h4, h5⟩ := h i hi
  exact ⟨c, o, q, cap, h1, by rw [k.cell (World.block_lt_of_cell? w _ h2)]; exact h2, h3.of_below k, h4, h5⟩
theorem Prt.nil (w : World) (p : Option Addr) : Prt w p [] := fun i hi => absurd hi (by simp)
/-- The slice v, among the blocks from base on, holds the headers of rows that hold ls; no row lies in v's own block. -/
def OwnM (w : World) (base : Nat) (v : Value) (ls : List (List (BitVec 8))) : Prop :=
  ∃ vs : List Value, vs.length = ls.length ∧ w.ownsRow base 56 1 v ls.length vs ∧
    ∀ i, i < ls.length → ∃ q cap, vs[i]? = some (.slice q (ls.getD i []).length cap) ∧ Sl w q (ls.getD i []) ∧ (q = none → cap = 0) ∧ (ls.getD i []).length ≤ cap ∧ ∀ a, q = some a → base ≤ a.block ∧ a.block < w.heap.size ∧ v.ownBlock ≠ some a.block
theorem Sl.of_block {w w' : World} {q : Option Addr} {l : List (BitVec 8)} (h : Sl w q l) (k : ∀ a, q = some a → w'.heap[a.block]? = w.heap[a.block]?) : Sl w' q l := fun j hj => by
  obtain ⟨c, o, e, hc⟩ := h j hj
  refine ⟨c, o, e, ?_⟩
  have := k _ e
  rw [World.cell?_of_block (w := w) (w' := w') (a := ⟨c, o + j, none⟩) this]
  exact hc
theorem OwnM.nil (w : World) (base : Nat) : OwnM w base (.slice none 0 0) [] := ⟨[], rfl, ⟨rfl, .inl ⟨rfl, rfl⟩⟩, fun i hi => absurd hi (by simp)⟩
theorem OwnM.keep {w w' : World} {base : Nat} {v : Value} {ls : List (List (BitVec 8))} (h : OwnM w base v ls) (hsz : w.heap.size ≤ w'.heap.size) (k : ∀ g, base ≤ g → g < w.heap.size → w'.heap[g]? = w.heap[g]?) : OwnM w' base v ls := by
  obtain ⟨vs, h1, h2, h3⟩ := h
  refine ⟨vs, h1, ⟨h2.1, ?_⟩, fun i hi => ?_⟩
  · rcases h2.2 with h' | ⟨g, cap, cur, hv, hb, hg, r⟩
    · exact .inl h'
    · have hlt : g < w.heap.size := by
        rcases Nat.lt_or_ge g w.heap.size with h' | h'
        · exact h'
        · rw [Array.getElem?_eq_none h'] at hg; cases hg
      exact .inr ⟨g, cap, cur, hv, hb, by rw [k g hb hlt]; exact hg, r⟩
  · obtain ⟨q, cap, a1, a2, a3, a4, a5⟩ := h3 i hi
    exact ⟨q, cap, a1, a2.of_block (fun a e => k a.block (a5 a e).1 (a5 a e).2.1), a3, a4, fun a e => ⟨(a5 a e).1, Nat.lt_of_lt_of_le (a5 a e).2.1 hsz, (a5 a e).2.2⟩⟩
theorem OwnM.of_below {w w' : World} {base : Nat} {v : Value} {ls : List (List (BitVec 8))} (h : OwnM w base v ls) (k : Below w.heap.size w w') : OwnM w' base v ls := h.keep k.size fun g _ hg => k.block g hg
/-- One row appended. -/
theorem OwnM.push {w : World} {base : Nat} {v : Value} {ls : List (List (BitVec 8))} (h : OwnM w base v ls) (ty : TypeId) (a : Addr) (q : Option Addr) (l : List (BitVec 8)) (n cap : Nat)
    (hc : w.cell? a = some (.slice q n cap)) (hn : l.length = n) (hs : Sl w q l) (hq : q = none → cap = 0) (hle : n ≤ cap) (hqb : ∀ b, q = some b → base ≤ b.block ∧ b.block < w.heap.size ∧ v.ownBlock ≠ some b.block)
    (hlen : ls.length < 100000000) (hb : base ≤ w.heap.size) :
    ∃ g cap' w', (Builtin.append_ #[65, 65] ty #[v, .slice (some a) 1 1]).run Tryz.prog w = .ok (.slice (some ⟨g, 0, none⟩) (ls.length + 1) cap') w' ∧ OwnM w' base (.slice (some ⟨g, 0, none⟩) (ls.length + 1) cap') (ls ++ [l]) ∧ w.grownBy w' v.ownBlock ∧
      (v.ownBlock = some g ∨ g = w.heap.size) ∧ (∀ k, v.ownBlock = some k → base ≤ k ∧ k < w.heap.size) := by
  subst hn
  obtain ⟨vs, h1, h2, h3⟩ := h
  obtain ⟨i0, hi, hz0, hz1, hz2⟩ := info_parts infoB
  obtain ⟨g, cap', w', r1, r2, r3, r4, r5⟩ := run_append_lies (P := Tryz.prog) w 65 ty base 56 i0 (.slice none 0 0) 1 24 undRows hi hz0 hz1 hz2 rfl (by decide) v ls.length vs h2 a 1 1 [.slice q l.length cap] rfl
    (fun j u hu => by
      have : j = 0 := by
        rcases Nat.eq_zero_or_pos j with h | h
        · exact h
        · rw [List.getElem?_eq_none (by simp; omega)] at hu; cases hu
      subst this
      rw [Addr.add_zero', hc]
      simpa using hu)
    (by intro u hu; simp at hu; subst hu; rfl) (by decide) (by simp only [maxLen]; omega) (by omega) hb w.heap.size rfl
  have hkeep : ∀ b : Addr, b.block < w.heap.size → v.ownBlock ≠ some b.block → w'.heap[b.block]? = w.heap[b.block]? ∧ g ≠ b.block := fun b hbl hne =>
    ⟨r3.block b.block hbl (Ne.symm hne), fun e => by
      rcases r4 with r4 | r4
      · exact hne (by rw [r4, e])
      · omega⟩
  refine ⟨g, cap', w', r1, ⟨vs ++ [.slice q l.length cap], by simp [h1], by rw [List.length_append]; exact r2, fun i hi => ?_⟩, r3, r4, fun k hk => World.ownsRow.lt h2 k hk⟩
  have hsz := r3.size
  by_cases hil : i < ls.length
  · obtain ⟨q', cap'', a1, a2, a3, a4, a5⟩ := h3 i hil
    have e : (ls ++ [l]).getD i [] = ls.getD i [] := by simp [List.getD_eq_getElem?_getD, List.getElem?_append_left hil]
    rw [e]
    refine ⟨q', cap'', by rw [List.getElem?_append_left (by omega)]; exact a1, a2.of_block (fun a ea => (hkeep a (a5 a ea).2.1 (a5 a ea).2.2).1), a3, a4, fun a ea => ⟨(a5 a ea).1, Nat.lt_of_lt_of_le (a5 a ea).2.1 hsz, ?_⟩⟩
    intro e'
    exact (hkeep a (a5 a ea).2.1 (a5 a ea).2.2).2 (by simpa [Value.ownBlock] using e')
  · have hi' : i = ls.length := by
      rw [List.length_append] at hi
      have : ([l] : List (List (BitVec 8))).length = 1 := rfl
      omega
    subst hi'
    have e : (ls ++ [l]).getD ls.length [] = l := by simp [List.getD_eq_getElem?_getD]
    rw [e]
    refine ⟨q, cap, by rw [List.getElem?_append_right (by omega), h1]; simp, hs.of_block (fun a ea => (hkeep a (hqb a ea).2.1 (hqb a ea).2.2).1), hq, hle, fun a ea => ⟨(hqb a ea).1, Nat.lt_of_lt_of_le (hqb a ea).2.1 hsz, ?_⟩⟩
    intro e'
    exact (hkeep a (hqb a ea).2.1 (hqb a ea).2.2).2 (by simpa [Value.ownBlock] using e')
end Go.Proofs.YtkajeepbelfpiaaGreatDoor
/- Rows of bytes: one of them, strings of bytes, equal rows; a slice of rows that is returned. -/
set_option maxRecDepth 100000
namespace Go.Proofs.YtkajeepbelfpiaaGreatDoor
open Go Go.RowKit
attribute [-go_sem] Sha.exec_store

theorem Prt.at_ {w : World} {p : Option Addr} {ls : List (List (BitVec 8))} (h : Prt w p ls) (i : Nat) (hi : i < ls.length) :
    ∃ c o q cap, p = some ⟨c, o, none⟩ ∧ c < w.heap.size ∧ w.cell? ⟨c, o + i, none⟩ = some (.slice q (ls.getD i []).length cap) ∧ Sl w q (ls.getD i []) ∧ (q = none → cap = 0) ∧ (ls.getD i []).length ≤ cap := by
  obtain ⟨c, o, q, cap, h1, h2, h3⟩ := h i hi
  exact ⟨c, o, q, cap, h1, World.block_lt_of_cell? w _ h2, h2, h3⟩
theorem str_list (l : List (BitVec 8)) : (strOf l).toList = l.map UInt8.ofBitVec := by
  rw [ByteArray.toList_eq]; simp [strOf]
theorem str_ne (l m : List (BitVec 8)) (h : l ≠ m) : ((strOf l).toList == (strOf m).toList) = false := by
  rw [beq_eq_false_iff_ne, str_list, str_list]
  intro e
  exact h (List.map_inj_right (fun a b e => by injection e) |>.1 e)
theorem OwnM.lt {w : World} {base : Nat} {v : Value} {ls : List (List (BitVec 8))} (h : OwnM w base v ls) : ∀ k, v.ownBlock = some k → base ≤ k ∧ k < w.heap.size := by
  obtain ⟨vs, _, h2, _⟩ := h
  exact World.ownsRow.lt h2
end Go.Proofs.YtkajeepbelfpiaaGreatDoor
/- bytes.Equal. -/
set_option maxRecDepth 100000
namespace Go.Proofs.YtkajeepbelfpiaaGreatDoor
open Go Go.RowKit
attribute [-go_sem] Sha.exec_store

theorem bytes_equal (l m : List (BitVec 8)) (p q : Option Addr) (c d : Nat) (w : World) (hs : Sl w p l) (ht : Sl w q m) (hp : p = none → c = 0) (hq : q = none → d = 0) :
    Calls Tryz.prog 143 #[.slice p l.length c, .slice q m.length d] w fun e w' => e = .returned (.bool (decide (l = m))) ∧ w = w' := by
  have h1 := conv_str w p l _ c hs rfl hp
  have h2 := conv_str w q m _ d ht rfl hq
  clear hs ht hp hq
  by_cases h : l = m
  · rw [decide_eq_true h]
    subst h
    go_enter Tryz.func143, Tryz.ntmps143
    go_wp2
    go_ret
    exact ⟨rfl, rfl⟩
  · have hf : Hid (decide (l = m) = false) := decide_eq_false h
    have hb := str_ne l m h
    clear h
    go_enter Tryz.func143, Tryz.ntmps143
    go_wp2
    go_ret
    exact ⟨by rw [hf.out]; rfl, rfl⟩
end Go.Proofs.YtkajeepbelfpiaaGreatDoor
/- archive.number, Load where both copies are the archive without records. -/
set_option maxRecDepth 100000
namespace Go.Proofs.YtkajeepbelfpiaaGreatDoor
open Go Go.RowKit

attribute [-go_sem] Sha.exec_store
section
variable {w : World} {S : Nat → Prop} {b : Nat}
attribute [local go_sem ↓] exec_loadC exec_indexC
attribute [local go_sem] indexC0 indexC1
theorem aw_read0 (h : Dsk w S b (aw4 awX)) (p : S8) (hp : p = cpS 0 ∨ p = cpS 1) : Calls Tryz.prog 75 #[.pointer (some ⟨b, 0, none⟩), .string (mkS p)] w fun e w' => ∃ q c, e = .returned (.tuple #[.slice q 34 c, .int .i64 0]) ∧ Sl w' q (encAr 1 []) ∧ (q = none → c = 0) ∧ 34 ≤ c ∧ Below w.heap.size w w' := by
  have hr : readL (aw4 awX) p = some awX := by
    rcases hp with rfl | rfl
    · exact aw11_r0 _
    · exact aw11_r1 _
  have HR := dread_any h ((aw4_ok awX awX_len).mono (by decide)) p
  rw [show readN (aw4 awX) p = 0 by unfold readN; rw [hr]; rfl, hr] at HR
  refine HR.mono ?_
  rintro e w' ⟨v, rfl, hO, hB⟩
  simp only [Option.getD_some] at hO
  obtain ⟨q, c, rfl, hl, hq, hc, -⟩ := own_shape hO
  rw [awX_len] at hc ⊢
  refine ⟨q, c, rfl, ?_, hq, hc, hB⟩
  have := sl_bytC hl
  rwa [show pB awX = encAr 1 [] from pB_pS _] at this
set_option maxRecDepth 100000 in
set_option maxHeartbeats 8000000 in
theorem number2 (h : Dsk w S b (aw4 awX)) (hC : CpA w) (q0 : Option Addr) (k0 : Nat) (hs : Sl w q0 (encAr 1 [])) (hq : q0 = none → k0 = 0) : Calls Tryz.prog 90 #[.pointer (some ⟨b, 0, none⟩), .slice q0 34 k0] w fun e w' => e = .returned (.int .i64 2) ∧ Below w.heap.size w w' := by
  have ld := cp_load hC
  have HR := Lib.hid (fun (u : World) (hu : Below w.heap.size w u) => aw_read0 (h.of_below hu))
  have HS := Lib.hid (fun (u : World) (hu : Below w.heap.size w u) => hs.of_below hu)
  have HQ := Lib.hid hq
  have HX := Lib.hid (Below.refl w.heap.size w)
  have HE := Lib.hid (fun (q1 : Option Addr) (c1 : Nat) (u : World) (h1 : Sl u q1 (encAr 1 [])) (h2 : Sl u q0 (encAr 1 [])) (e1 : q1 = none → c1 = 0) (e2 : q0 = none → k0 = 0) => (show Calls Tryz.prog 143 #[.slice q1 34 c1, .slice q0 34 k0] u fun e w' => e = .returned (.bool true) ∧ u = w' from by
    have h := bytes_equal (encAr 1 []) (encAr 1 []) q1 q0 c1 k0 u h1 h2 e1 e2
    rw [enc1_len, show decide (encAr 1 [] = encAr 1 []) = true from decide_eq_true rfl] at h
    exact h))
  clear h hC hs hq
  go_enter Tryz.func90, Tryz.ntmps90
  go_wp2
  clear ld
  refine wp_loop_rounds 3 ?_
  rw [rounds_succ]
  go_wp2_with fail
  refine (HR.out _ HX.out (cpS 0) (.inl rfl)).mono ?_
  rintro e w1 ⟨q1, c1, rfl, hs1, hq1, hc1, hB1⟩
  have HX := Lib.hid (HX.out.trans (hB1.mono HX.out.size))
  have HEE := Lib.hid (HE.out q1 c1 w1 hs1 (HS.out w1 HX.out) hq1 HQ.out)
  clear hs1 hq1 hc1 hB1
  go_wp2_with fail
  refine HEE.out.mono ?_
  rintro e w2 ⟨rfl, rfl⟩
  go_wp2
  rw [rounds_succ]
  go_wp2_with fail
  refine (HR.out _ HX.out (cpS 1) (.inr rfl)).mono ?_
  rintro e w2 ⟨q2, c2, rfl, hs1, hq1, hc1, hB1⟩
  have HX := Lib.hid (HX.out.trans (hB1.mono HX.out.size))
  have HEE := Lib.hid (HE.out q2 c2 w2 hs1 (HS.out w2 HX.out) hq1 HQ.out)
  clear hs1 hq1 hc1 hB1
  go_wp2_with fail
  refine HEE.out.mono ?_
  rintro e w3 ⟨rfl, rfl⟩
  go_wp2
  rw [rounds_succ]
  go_wp2
  go_ret
  exact ⟨rfl, HX.out⟩
theorem par1 (q : Option Addr) (cap : Nat) (w : World) (hs : Sl w q (encAr 1 [])) (hq : q = none → cap = 0) (hc : 34 ≤ cap) (hT : Tb w) :
    Calls Tryz.prog 89 #[.slice q 34 cap] w fun e w' => ∃ a mb, e = .returned (.tuple #[.pointer (some ⟨a, 0, none⟩), .int .i64 0]) ∧ ArAt w' a mb 1 [] ∧ Below w.heap.size w w' := by
  refine (parseA_any (encAr 1 []) q 34 cap w enc1_len hs hq hc (by decide) hT).mono ?_
  rintro e w' ⟨hB, h | ⟨-, b, mb, g, bs, d, es, rfl, hA, ht, hl, -⟩⟩
  · exact absurd parseA1 h.1
  · rw [takeAr1] at ht
    injection ht with ht
    injection ht with h1 _
    injection h1 with h2 h3
    injection h3 with h4 _
    subst h2 h4
    obtain rfl : es = [] := List.length_eq_zero_iff.1 (by simpa using hl)
    exact ⟨b, mb, rfl, hA, hB⟩
set_option maxRecDepth 100000 in
set_option maxHeartbeats 8000000 in
theorem load2 (h : Dsk w S b (aw4 awX)) (hC : CpA w) (hT : Tb w) : Calls Tryz.prog 38 #[.pointer (some ⟨b, 0, none⟩)] w fun e w' => ∃ a mb, e = .returned (.tuple #[.pointer (some ⟨a, 0, none⟩), .int .i64 2, .int .i64 0]) ∧ ArAt w' a mb 1 [] ∧ Below w.heap.size w w' := by
  have ld := cp_load hC
  have HR := Lib.hid (fun (u : World) (hu : Below w.heap.size w u) => aw_read0 (h.of_below hu))
  have HNM := Lib.hid (fun (u : World) (hu : Below w.heap.size w u) => number2 (h.of_below hu) (hC.on hu))
  have HT := Lib.hid (fun (u : World) (hu : Below w.heap.size w u) => hT.on hu)
  have HX := Lib.hid (Below.refl w.heap.size w)
  clear h hC hT
  go_enter Tryz.func38, Tryz.ntmps38
  go_wp2
  clear ld
  refine wp_loop_rounds 3 ?_
  rw [rounds_succ]
  go_wp2_with fail
  refine (HR.out _ HX.out (cpS 0) (.inl rfl)).mono ?_
  rintro e w1 ⟨q1, c1, rfl, hs1, hq1, hc1, hB1⟩
  have HX := Lib.hid (HX.out.trans (hB1.mono HX.out.size))
  have HP := Lib.hid (par1 q1 c1 w1 hs1 hq1 hc1 (HT.out _ HX.out))
  clear hs1 hq1 hc1 hB1
  go_wp2_with fail
  refine HP.out.mono ?_
  rintro e w2 ⟨a1, m1, rfl, hA1, hB2⟩
  have HX := Lib.hid (HX.out.trans (hB2.mono HX.out.size))
  have HA1 := Lib.hid hA1
  clear hA1 hB2 HP
  go_wp2
  go_quiet (fail)
  have hd1 : Below w2.heap.size w2 (w2.drewN nq) := ((Dr.refl _).drewN nq).below _
  have HX := Lib.hid (HX.out.trans (hd1.mono HX.out.size))
  have HA1 := Lib.hid (HA1.out.of_below hd1)
  clear hd1
  go_wp2
  rw [rounds_succ]
  go_wp2_with fail
  refine (HR.out _ HX.out (cpS 1) (.inr rfl)).mono ?_
  rintro e w3 ⟨q2, c2, rfl, hs1, hq1, hc1, hB1⟩
  have HA1 := Lib.hid (HA1.out.of_below hB1)
  have HX := Lib.hid (HX.out.trans (hB1.mono HX.out.size))
  have HP := Lib.hid (par1 q2 c2 w3 hs1 hq1 hc1 (HT.out _ HX.out))
  clear hs1 hq1 hc1 hB1
  go_wp2_with fail
  refine HP.out.mono ?_
  rintro e w4 ⟨a2, m2, rfl, hA2, hB2⟩
  have HA1 := Lib.hid (HA1.out.of_below hB2)
  have HX := Lib.hid (HX.out.trans (hB2.mono HX.out.size))
  have k1 := HA1.out.cell0
  have k2 := hA2.cell0
  clear hA2 hB2 HP
  go_wp2
  go_quiet (fail)
  have hd1 : Below w4.heap.size w4 (w4.drewN nq) := ((Dr.refl _).drewN nq).below _
  have HX := Lib.hid (HX.out.trans (hd1.mono HX.out.size))
  have HA1 := Lib.hid (HA1.out.of_below hd1)
  clear hd1 k1 k2
  generalize w4.drewN nq = w5 at *
  have HBY := Lib.hid (bytesA_any 1 HA1.out (by decide) (HT.out _ HX.out))
  rw [show sortA [] = [] from by simp [sortA]] at HBY
  go_wp2
  rw [rounds_succ]
  go_wp2_with fail
  refine HBY.out.mono ?_
  rintro e w6 ⟨v, rfl, hO, hB6⟩
  obtain ⟨q3, c3, rfl, hs3, hq3, -⟩ := hO.shape
  rw [enc1_len]
  have HA1 := Lib.hid (HA1.out.of_below hB6)
  have HX := Lib.hid (HX.out.trans (hB6.mono HX.out.size))
  have HN := Lib.hid (HNM.out _ HX.out q3 c3 hs3 hq3)
  clear hO hs3 hq3 hB6 HBY
  go_wp2_with fail
  refine HN.out.mono ?_
  rintro e w7 ⟨rfl, hB7⟩
  have HA1 := Lib.hid (HA1.out.of_below hB7)
  have HX := Lib.hid (HX.out.trans (hB7.mono HX.out.size))
  clear hB7
  go_wp2
  go_ret3
  exact ⟨_, _, rfl, HA1.out, HX.out⟩
end
end Go.Proofs.YtkajeepbelfpiaaGreatDoor
/- darnerlaw11.awake. -/
set_option maxRecDepth 100000
namespace Go.Proofs.YtkajeepbelfpiaaGreatDoor
open Go Go.RowKit

attribute [-go_sem] Sha.exec_store
set_option maxRecDepth 100000 in
set_option maxHeartbeats 8000000 in
theorem awake11 (w : World) (hC : CpA w) (hT : Tb w) : Calls Tryz.prog 7 #[] w fun e w' => e = .returned (.bool true) ∧ Below w.heap.size w w' := by
  have HNW := Lib.hid (anew_any w)
  have HC := Lib.hid (fun (u : World) (hu : Below w.heap.size w u) => hC.on hu)
  have HT := Lib.hid (fun (u : World) (hu : Below w.heap.size w u) => hT.on hu)
  have HLT := Lib.hid (show 0 < w.heap.size from hC.lt)
  have ha : (ByteArray.mk #[46, 112, 97, 114, 126, 97, 114, 99, 104, 105, 118, 101, 46, 49]) = mkS (cpS 1) := mkS_lit (cpS 1)
  have hk1 : (cpS 1 == cpS 0 || cpS 1 == cpS 1) = true := by decide
  clear hC hT
  go_enter Tryz.func7, Tryz.ntmps7
  go_wp2_with fail
  refine HNW.out.mono ?_
  rintro e w1 ⟨rfl, hA, hB1⟩
  have HD0 := Lib.hid (dnew_any 500 w1)
  rw [show clampL 500 = 500 by decide] at HD0
  have HA := Lib.hid hA
  have HX := Lib.hid hB1
  clear hA hB1 HNW
  go_wp2_with fail
  refine HD0.out.mono ?_
  rintro e w2 ⟨b, rfl, hD, hB2⟩
  have hX2 := HX.out.trans (hB2.mono HX.out.size)
  have hA2 := HA.out.of_below hB2
  have HLN := Lib.hid (alen_any hA2)
  have HSV := Lib.hid (save0 w.heap.size (w.heap.size + 1) w.heap.size hA2 hD (HC.out _ hX2) (HT.out _ hX2) HLT.out (Nat.le_succ _) (fun k hk => by have := HX.out.size; omega) (fun hk => by have := HA.out.lt; omega) hX2.size)
  have HX2 := Lib.hid hX2
  clear hD hB2 hX2 hA2 HD0
  go_wp2_with fail
  refine HLN.out.mono ?_
  rintro e w3 ⟨rfl, rfl⟩
  go_wp2_with fail
  refine HSV.out.mono ?_
  rintro e w3 ⟨rfl, hB3, S', hD3, -⟩
  have HX3 := Lib.hid (HX2.out.trans hB3)
  have HLD := Lib.hid (load2 hD3 (HC.out _ HX3.out) (HT.out _ HX3.out))
  clear hB3 hD3 HSV HLN
  go_wp2_with fail
  refine HLD.out.mono ?_
  rintro e w4 ⟨a, mb, rfl, hA4, hB4⟩
  have HX4 := Lib.hid (HX3.out.trans (hB4.mono HX3.out.size))
  have HGN := Lib.hid (agen_any hA4)
  have HKN := Lib.hid (known_any (cpS 1) w4 (HC.out _ HX4.out))
  rw [hk1] at HKN
  clear hA4 hB4 HLD
  go_wp2_with fail
  refine HGN.out.mono ?_
  rintro e w5 ⟨rfl, rfl⟩
  go_wp2_with fail
  refine HKN.out.mono ?_
  rintro e w5 ⟨rfl, rfl⟩
  go_wp2
  go_ret
  exact ⟨rfl, HX4.out⟩
end Go.Proofs.YtkajeepbelfpiaaGreatDoor
/- Arguments that are records, in the walks' words. -/
set_option maxRecDepth 100000
namespace Go.Proofs.YtkajeepbelfpiaaGreatDoor
open Go Go.ChangeShapes Go.WideShapes Go.ChangeAt Go.RowKit
attribute [-go_sem] Sha.exec_store

theorem undRec : ∃ fs : Array Field, Tryz.prog.underlying 49 = some (.struct fs) ∧ fs.size = 8 ∧ (fs[0]?).map (fun f => (f.offset, f.type)) = some (0, 9) ∧ (fs[1]?).map (fun f => (f.offset, f.type)) = some (1, 3) ∧ (fs[2]?).map (fun f => (f.offset, f.type)) = some (2, 3) ∧ (fs[3]?).map (fun f => (f.offset, f.type)) = some (3, 3) ∧ (fs[4]?).map (fun f => (f.offset, f.type)) = some (4, 39) ∧ (fs[5]?).map (fun f => (f.offset, f.type)) = some (20, 4) ∧ (fs[6]?).map (fun f => (f.offset, f.type)) = some (21, 41) ∧ (fs[7]?).map (fun f => (f.offset, f.type)) = some (53, 42) := by
  have h : (match Tryz.prog.underlying 49 with
    | some (.struct fs) => some (fs.size, (fs[0]?).map (fun f => (f.offset, f.type)), (fs[1]?).map (fun f => (f.offset, f.type)), (fs[2]?).map (fun f => (f.offset, f.type)), (fs[3]?).map (fun f => (f.offset, f.type)), (fs[4]?).map (fun f => (f.offset, f.type)), (fs[5]?).map (fun f => (f.offset, f.type)), (fs[6]?).map (fun f => (f.offset, f.type)), (fs[7]?).map (fun f => (f.offset, f.type)))
    | _ => none) = some (8, some (0, 9), some (1, 3), some (2, 3), some (3, 3), some (4, 39), some (20, 4), some (21, 41), some (53, 42)) := by kernel_rfl
  split at h
  · rename_i fs e
    simp only [Option.some.injEq, Prod.mk.injEq] at h
    exact ⟨fs, e, h.1, h.2.1, h.2.2.1, h.2.2.2.1, h.2.2.2.2.1, h.2.2.2.2.2.1, h.2.2.2.2.2.2.1, h.2.2.2.2.2.2.2.1, h.2.2.2.2.2.2.2.2⟩
  · cases h
theorem cellsRec : Tryz.prog.cellsOf 49 = 54 := by kernel_rfl
theorem cellsI10 : Tryz.prog.cellsOf 3 = 1 := by kernel_rfl
theorem cellsS10 : Tryz.prog.cellsOf 9 = 1 := by kernel_rfl
theorem cellsK10 : Tryz.prog.cellsOf 4 = 1 := by kernel_rfl
theorem cellsU10 : Tryz.prog.cellsOf 5 = 1 := by kernel_rfl
theorem cellsV10 : Tryz.prog.cellsOf 39 = 16 := by kernel_rfl
theorem cells32 : Tryz.prog.cellsOf 41 = 32 := by kernel_rfl
theorem cellsD10 : Tryz.prog.cellsOf 42 = 1 := by kernel_rfl
theorem undD10 : Tryz.prog.underlying 42 = some (.slice 41) := by kernel_rfl
theorem und32d : Tryz.prog.underlying 41 = some (.array 32 5) := by kernel_rfl
theorem undU10 : Tryz.prog.underlying 5 = some (.int .u8) := by kernel_rfl
theorem undI10 : Tryz.prog.underlying 3 = some (.int .i64) := by kernel_rfl
theorem undK10 : Tryz.prog.underlying 4 = some .bool := by kernel_rfl
theorem field_of10 {fs : Array Field} {i off : Nat} {t : TypeId} (h : (fs[i]?).map (fun f => (f.offset, f.type)) = some (off, t)) : ∃ f, fs[i]? = some f ∧ f.offset = off ∧ f.type = t := by
  cases e : fs[i]? with
  | none => rw [e] at h; cases h
  | some f => rw [e] at h; simp at h; exact ⟨f, rfl, h.1, h.2⟩
section
variable {H : Type} {enc : TypeId × Value → H} {W : World} {n : Nat} {cs : List Value} {x : DataW H × List MemPlace}
theorem arr32_of (h : DataW.trod enc Tryz.prog W 0 (fun _ => true) true n 41 cs = some x) : ∃ d : By, d.length = 32 ∧ cs = digC d := by
  obtain ⟨xs, m, -, -, hl, hn, hi⟩ := DataW.trod_array und32d h
  rw [cellsU10] at hi
  rw [cells32] at hl
  have key : ∀ i, i < 32 → ∃ a : Nat, a < 256 ∧ cs[i]? = some (.int .u8 (a : Int)) := fun i h32 => by
    have e0 := hi i h32
    have hxi : xs[i]? = some (xs[i]'(by omega)) := List.getElem?_eq_getElem (by omega)
    rw [hxi] at e0
    obtain ⟨a, ha, -, hw⟩ := DataW.trod_int undU10 e0
    have hb := bounds_u8 hw
    obtain ⟨b, rfl⟩ := Int.eq_ofNat_of_zero_le (show 0 ≤ a by omega)
    refine ⟨b, by omega, ?_⟩
    rw [Nat.mul_one] at ha
    have h1 : ((cs.drop i).take 1)[0]? = some (.int .u8 (b : Int)) := by rw [ha]; rfl
    rw [List.getElem?_take] at h1
    have h2 : (cs.drop i)[0]? = some (.int .u8 (b : Int)) := by simpa using h1
    rw [List.getElem?_drop, Nat.add_zero] at h2
    exact h2
  obtain ⟨y, hy⟩ := Go.Deep.choose_lt key
  refine ⟨(List.range 32).map fun i => BitVec.ofNat 8 (y i), by simp, ?_⟩
  apply List.ext_getElem?
  intro i
  by_cases h32 : i < 32
  · obtain ⟨h1, h2⟩ := hy i h32
    rw [h2]
    unfold digC
    rw [List.getElem?_map, List.getElem?_map, List.getElem?_range h32]
    show some (Value.int .u8 (y i : Int)) = some (B (BitVec.ofNat 8 (y i)))
    rw [B_eq', BitVec.toNat_ofNat, Nat.mod_eq_of_lt (by omega)]
  · rw [List.getElem?_eq_none (by omega), List.getElem?_eq_none (by rw [digC_len]; simp; omega)]
theorem arr16_of (h : DataW.trod enc Tryz.prog W 0 (fun _ => true) true n 39 cs = some x) : ∃ f : Nat → Int, cs.length = 16 ∧ ∀ i, i < 16 → cs[i]? = some (.int .i64 (f i)) := by
  obtain ⟨xs, m, -, -, hl, hn, hi⟩ := DataW.trod_array vtA.und h
  rw [cellsI10] at hi
  rw [cellsV10] at hl
  refine ⟨fun i => intIn cs[i]?, hl, fun i h16 => ?_⟩
  have e0 := hi i h16
  have hxi : xs[i]? = some (xs[i]'(by omega)) := List.getElem?_eq_getElem (by omega)
  rw [hxi] at e0
  obtain ⟨a, ha, -, hw⟩ := DataW.trod_int undI10 e0
  rw [Nat.mul_one] at ha
  have h1 : ((cs.drop i).take 1)[0]? = some (.int .i64 a) := by rw [ha]; rfl
  rw [List.getElem?_take] at h1
  have h2 : (cs.drop i)[0]? = some (.int .i64 a) := by simpa using h1
  rw [List.getElem?_drop, Nat.add_zero] at h2
  show _ = some (Value.int .i64 (intIn cs[i]?))
  rw [h2]
  rfl
/-- Digests that came in. -/
theorem digs_of {v : Value} (h : DataW.trod enc Tryz.prog W 0 (fun _ => true) true n 42 [v] = some x) : ∃ (ds : List By) (q : Option Addr) (c : Nat), v = .slice q ds.length c ∧ LsC W q (ds.flatMap digC) ∧ (∀ d ∈ ds, d.length = 32) ∧ (q = none → c = 0) ∧ ds.length ≤ c ∧ c < 9223372036854775808 := by
  rcases Go.Deep.open_slice undD10 h with ⟨hcs, _⟩ | ⟨a, len, cap, m, n, D, Pl, hcs, _, hl, hmx, hm, _, hx⟩
  · injection hcs with hcs
    subst hcs
    exact ⟨[], none, 0, rfl, LsC.nil _ _, (fun d hd => by cases hd), fun _ => rfl, Nat.le_refl _, by decide⟩
  · injection hcs with hcs
    subst hcs
    simp only [if_true] at hm
    have each : ∀ i, i < len → ∃ d : By, d.length = 32 ∧ ∀ j, j < 32 → W.cell? (a.add (i * 32 + j)) = some (B (d.getD j 0#8)) := by
      intro i hi
      obtain ⟨cs', h1, h2⟩ := hx i (by omega)
      rw [cells32] at h1
      obtain ⟨_, hlen, hcell⟩ := World.cells?_some h1
      obtain ⟨d, hd, rfl⟩ := arr32_of h2
      refine ⟨d, hd, fun j hj => ?_⟩
      have cj := hcell j (by omega)
      rw [Go.Deep.add_add] at cj
      try rw [cells32] at cj
      rw [cj]
      unfold digC
      rw [List.getElem?_map, List.getElem?_eq_getElem (by omega), List.getD_eq_getElem?_getD, List.getElem?_eq_getElem (by omega)]
      rfl
    haveI : Inhabited By := ⟨[]⟩
    obtain ⟨y, hy⟩ := Go.Deep.choose_lt each
    have he : ∀ d ∈ (List.range len).map y, d.length = 32 := fun d hd => by
      obtain ⟨i, hi, rfl⟩ := List.mem_map.1 hd
      exact (hy i (by simpa using hi)).1
    refine ⟨(List.range len).map y, some a, cap, by simp, ?_, he, (fun e => by cases e), by simpa using hl, by simp only [maxLen] at hmx; omega⟩
    intro i hi
    rw [flat_digC, List.length_map, flat_len32 he] at hi
    simp only [List.length_map, List.length_range] at hi
    have h0 : 0 < len := by omega
    have hs : a.spot = none := by
      have h1 := (hy 0 h0).2 0 (by decide)
      rw [show 0 * 32 + 0 = 0 from rfl, Addr.add_zero'] at h1
      cases h : a.spot with
      | none => rfl
      | some s =>
        unfold World.cell? at h1
        split at h1
        · simp [h] at h1
        · cases h1
    obtain ⟨c, o, sp⟩ := a
    obtain rfl : sp = none := hs
    refine ⟨c, o, rfl, ?_⟩
    have hi' : i / 32 < len := by omega
    have hj : i % 32 < 32 := Nat.mod_lt _ (by omega)
    have hc := (hy (i / 32) hi').2 (i % 32) hj
    have e6 : i / 32 * 32 + i % 32 = i := by omega
    rw [e6, Addr.add_mid] at hc
    rw [hc, flat_digC, List.getElem?_map]
    have hg := flat_get32 he (i / 32) (i % 32) hj (by simpa using hi')
    rw [show 32 * (i / 32) + i % 32 = i by omega] at hg
    rw [hg]
    have ey : ((List.range len).map y).getD (i / 32) [] = y (i / 32) := by simp [List.getD_eq_getElem?_getD, hi']
    rw [ey, List.getElem?_eq_getElem (by rw [(hy _ hi').1]; exact hj), List.getD_eq_getElem?_getD, List.getElem?_eq_getElem (by rw [(hy _ hi').1]; exact hj)]
    rfl
/-- What is known of a record that came in. -/
structure RcIn (r : Rc) : Prop where
  path : r.path.length < 9223372036854775808
  size : -9223372036854775808 ≤ r.size ∧ r.size < 9223372036854775808
  time : -9223372036854775808 ≤ r.time ∧ r.time < 9223372036854775808
  chg : -9223372036854775808 ≤ r.chg ∧ r.chg < 9223372036854775808
  cap : r.cap < 9223372036854775808
theorem drop_one {v : Value} {i : Nat} (h : (cs.drop i).take 1 = [v]) : cs[i]? = some v := by
  have h1 : ((cs.drop i).take 1)[0]? = some v := by rw [h]; rfl
  rw [List.getElem?_take] at h1
  have h2 : (cs.drop i)[0]? = some v := by simpa using h1
  rw [List.getElem?_drop, Nat.add_zero] at h2
  exact h2
theorem eight_of {α : Type} {l : List α} (h : l.length = 8) : ∃ a b c d e f g k, l = [a, b, c, d, e, f, g, k] := by
  obtain ⟨a, l, rfl⟩ := List.exists_cons_of_length_eq_add_one h
  obtain ⟨b, l, rfl⟩ := List.exists_cons_of_length_eq_add_one (n := 6) (by simpa using h)
  obtain ⟨c, l, rfl⟩ := List.exists_cons_of_length_eq_add_one (n := 5) (by simpa using h)
  obtain ⟨d, l, rfl⟩ := List.exists_cons_of_length_eq_add_one (n := 4) (by simpa using h)
  obtain ⟨e, l, rfl⟩ := List.exists_cons_of_length_eq_add_one (n := 3) (by simpa using h)
  obtain ⟨f, l, rfl⟩ := List.exists_cons_of_length_eq_add_one (n := 2) (by simpa using h)
  obtain ⟨g, l, rfl⟩ := List.exists_cons_of_length_eq_add_one (n := 1) (by simpa using h)
  obtain ⟨k, l, rfl⟩ := List.exists_cons_of_length_eq_add_one (n := 0) (by simpa using h)
  obtain rfl : l = [] := List.eq_nil_of_length_eq_zero (by simpa using h)
  exact ⟨a, b, c, d, e, f, g, k, rfl⟩
theorem rec_of (h : DataW.trod enc Tryz.prog W 0 (fun _ => true) true n 49 cs = some x) : ∃ (r : Rc) (ds : List By), cs.toArray = tab 54 (rcF r) ∧ DgAt W r ds ∧ RcIn r := by
  obtain ⟨fs, undF, hfs, F0, F1, F2, F3, F4, F5, F6, F7⟩ := undRec
  obtain ⟨xs, k, hk, hxy, hlen, hxl, hf⟩ := DataW.trod_struct undF h
  rw [cellsRec] at hlen
  obtain ⟨f0, g0, o0, t0⟩ := field_of10 F0
  obtain ⟨f1, g1, o1, t1⟩ := field_of10 F1
  obtain ⟨f2, g2, o2, t2⟩ := field_of10 F2
  obtain ⟨f3, g3, o3, t3⟩ := field_of10 F3
  obtain ⟨f4, g4, o4, t4⟩ := field_of10 F4
  obtain ⟨f5, g5, o5, t5⟩ := field_of10 F5
  obtain ⟨f6, g6, o6, t6⟩ := field_of10 F6
  obtain ⟨f7, g7, o7, t7⟩ := field_of10 F7
  have e0 := hf 0 f0 g0
  have e1 := hf 1 f1 g1
  have e2 := hf 2 f2 g2
  have e3 := hf 3 f3 g3
  have e4 := hf 4 f4 g4
  have e5 := hf 5 f5 g5
  have e6 := hf 6 f6 g6
  have e7 := hf 7 f7 g7
  rw [o0, t0, cellsS10] at e0
  rw [o1, t1, cellsI10] at e1
  rw [o2, t2, cellsI10] at e2
  rw [o3, t3, cellsI10] at e3
  rw [o4, t4, cellsV10] at e4
  rw [o5, t5, cellsK10] at e5
  rw [o6, t6, cells32] at e6
  rw [o7, t7, cellsD10] at e7
  have hx8 : xs.length = 8 := by rw [hxl, hfs]
  obtain ⟨y0, y1, y2, y3, y4, y5, y6, y7, rfl⟩ := eight_of hx8
  have z0 := e0.trans (show _ = some y0 from rfl)
  have z1 := e1.trans (show _ = some y1 from rfl)
  have z2 := e2.trans (show _ = some y2 from rfl)
  have z3 := e3.trans (show _ = some y3 from rfl)
  have z4 := e4.trans (show _ = some y4 from rfl)
  have z5 := e5.trans (show _ = some y5 from rfl)
  have z6 := e6.trans (show _ = some y6 from rfl)
  have z7 := e7.trans (show _ = some y7 from rfl)
  obtain ⟨s0, v0, -, w0⟩ := DataW.trod_string strT z0
  obtain ⟨n1, v1, -, w1⟩ := DataW.trod_int undI10 z1
  obtain ⟨n2, v2, -, w2⟩ := DataW.trod_int undI10 z2
  obtain ⟨n3, v3, -, w3⟩ := DataW.trod_int undI10 z3
  obtain ⟨f, -, hver⟩ := arr16_of z4
  obtain ⟨bb, v5, -⟩ := DataW.trod_bool undK10 z5
  obtain ⟨wh, hwl, hwh⟩ := arr32_of z6
  have c7 : ∃ v7, (cs.drop 53).take 1 = [v7] := by
    refine ⟨cs[53], ?_⟩
    rw [List.drop_eq_getElem_cons (by omega)]
    rfl
  obtain ⟨v7, hv7⟩ := c7
  rw [hv7] at z7
  obtain ⟨ds, q, cap, hv, hls, he, hnil, hle, hcap⟩ := digs_of z7
  have b1 := bounds_i64 w1
  have b2 := bounds_i64 w2
  have b3 := bounds_i64 w3
  have hp : s0.data.toList.length = s0.size := by rw [Array.length_toList]; rfl
  refine ⟨⟨s0.data.toList, n1, n2, n3, f, bb, wh, q, ds.length, cap⟩, ds, ?_, ⟨rfl, hls, he, hnil, hle, hwl⟩, ⟨by show s0.data.toList.length < _; rw [hp]; simp only [maxLen] at w0; omega, ⟨b1.1, by have := b1.2; show n1 < _; omega⟩, ⟨b2.1, by have := b2.2; show n2 < _; omega⟩, ⟨b3.1, by have := b3.2; show n3 < _; omega⟩, hcap⟩⟩
  apply Array.ext_getElem?
  intro i
  by_cases h54 : i < 54
  · rw [tab_get 54 _ i h54, List.getElem?_toArray]
    unfold rcF
    by_cases i0 : i = 0
    · subst i0; rw [if_pos rfl, drop_one v0]; show _ = some (Value.string (mkS s0.data.toList)); rw [mkS_of]
    · rw [if_neg i0]
      by_cases i1 : i = 1
      · subst i1; rw [if_pos rfl, drop_one v1]
      · rw [if_neg i1]
        by_cases i2 : i = 2
        · subst i2; rw [if_pos rfl, drop_one v2]
        · rw [if_neg i2]
          by_cases i3 : i = 3
          · subst i3; rw [if_pos rfl, drop_one v3]
          · rw [if_neg i3]
            by_cases i4 : i < 20
            · rw [if_pos i4]
              have hc := hver (i - 4) (by omega)
              rw [List.getElem?_take, if_pos (by omega), List.getElem?_drop, show 4 + (i - 4) = i by omega] at hc
              exact hc
            · rw [if_neg i4]
              by_cases i5 : i = 20
              · subst i5; rw [if_pos rfl, drop_one v5]
              · rw [if_neg i5]
                by_cases i6 : i < 53
                · rw [if_pos i6]
                  have hc : ((cs.drop 21).take 32)[i - 21]? = (digC wh)[i - 21]? := by rw [hwh]
                  rw [List.getElem?_take, if_pos (by omega), List.getElem?_drop, show 21 + (i - 21) = i by omega] at hc
                  rw [hc]
                  have h32 : i - 21 < wh.length := by omega
                  unfold digC dgF
                  rw [List.getElem?_map, List.getElem?_eq_getElem h32, List.getD_eq_getElem?_getD, List.getElem?_eq_getElem h32]
                  rfl
                · obtain rfl : i = 53 := by omega
                  rw [if_neg i6, drop_one hv7, hv]
  · rw [Array.getElem?_eq_none (by rw [List.size_toArray]; omega), Array.getElem?_eq_none (by rw [tab_size]; omega)]
end
end Go.Proofs.YtkajeepbelfpiaaGreatDoor
/- An argument that is a slice of records. -/
set_option maxRecDepth 100000
namespace Go.Proofs.YtkajeepbelfpiaaGreatDoor
open Go Go.ChangeShapes Go.WideShapes Go.ChangeAt Go.RowKit
attribute [-go_sem] Sha.exec_store

/-- The records' cells. -/
def rsC (l : List Ent) : List Value := l.flatMap fun e => (tab 54 (rcF e.1)).toList
theorem tab_list (n : Nat) (f : Nat → Value) : (tab n f).toList.length = n := by simp [tab]
theorem rsC_len (l : List Ent) : (rsC l).length = l.length * 54 := by
  unfold rsC
  induction l with
  | nil => rfl
  | cons e l ih => rw [List.flatMap_cons, List.length_append, ih, tab_list, List.length_cons]; omega
theorem rsC_get (l : List Ent) (i j : Nat) (hi : i < l.length) (hj : j < 54) : (rsC l)[i * 54 + j]? = some (rcF (l.getD i ent0).1 j) := by
  induction l generalizing i with
  | nil => simp at hi
  | cons e l ih =>
    unfold rsC
    rw [List.flatMap_cons]
    cases i with
    | zero =>
      rw [List.getElem?_append_left (by rw [tab_list]; omega)]
      simp [tab, hj]
    | succ i =>
      rw [List.getElem?_append_right (by rw [tab_list]; omega), tab_list]
      rw [show (i + 1) * 54 + j - 54 = i * 54 + j by omega]
      exact ih i (by simpa using hi)
/-- Records that lie where a slice begins. -/
structure RsAt (w : World) (q : Option Addr) (l : List Ent) : Prop where
  lie : LsC w q (rsC l)
  dg : ∀ e ∈ l, DgAt w e.1 e.2
theorem RsAt.of_below {w w' : World} {q : Option Addr} {l : List Ent} (h : RsAt w q l) (hB : Below w.heap.size w w') : RsAt w' q l := ⟨h.lie.of_below hB, fun e he => (h.dg e he).of_below hB⟩
theorem undRecs : Tryz.prog.underlying 22 = some (.slice 49) := by kernel_rfl
/-- An argument that is a slice of records. -/
theorem open_recs {H : Type} {enc : TypeId × Value → H} {W : World} {a0 : Option Addr} {len cap : Nat} {d : DataW H} {ps : List MemPlace}
    (h : DataW.Trod enc Tryz.prog W 0 (fun _ => true) true 22 (.slice a0 len cap) d ps) : ∃ l : List Ent, RsAt W a0 l ∧ l.length = len ∧ (∀ e ∈ l, RcIn e.1) ∧ (a0 = none → cap = 0) ∧ len ≤ cap ∧ len < 9223372036854775808 := by
  obtain ⟨fuel, hfu⟩ := h
  rcases Go.Deep.open_slice undRecs hfu with ⟨hcs, _⟩ | ⟨a, len', cap', m, n, D, Pl, hcs, _, hl, hmx, hm, _, hx⟩
  · simp [Value.cells] at hcs
    obtain ⟨rfl, rfl, rfl⟩ := hcs
    exact ⟨[], ⟨LsC.nil _ _, fun e he => by cases he⟩, rfl, (fun e he => by cases he), fun _ => rfl, Nat.le_refl _, by decide⟩
  · simp [Value.cells] at hcs
    obtain ⟨rfl, rfl, rfl⟩ := hcs
    simp only [if_true] at hm
    have each : ∀ i, i < len → ∃ e : Ent, (∀ j, j < 54 → W.cell? (a.add (i * 54 + j)) = some (rcF e.1 j)) ∧ DgAt W e.1 e.2 ∧ RcIn e.1 := by
      intro i hi
      obtain ⟨cs', h1, h2⟩ := hx i (by omega)
      rw [cellsRec] at h1
      obtain ⟨_, hlen, hcell⟩ := World.cells?_some h1
      obtain ⟨r, ds, hr, hd, hin⟩ := rec_of h2
      refine ⟨(r, ds), fun j hj => ?_, hd, hin⟩
      have cj := hcell j (by omega)
      rw [Go.Deep.add_add] at cj
      try rw [cellsRec] at cj
      rw [cj]
      have : cs'[j]? = cs'.toArray[j]? := by simp
      rw [this, hr]
      simp [tab, hj]
    haveI : Inhabited Ent := ⟨ent0⟩
    obtain ⟨y, hy⟩ := Go.Deep.choose_lt each
    have hg : ∀ i, i < len → ((List.range len).map y).getD i ent0 = y i := fun i hi => by simp [List.getD_eq_getElem?_getD, hi]
    refine ⟨(List.range len).map y, ⟨?_, fun e he => ?_⟩, by simp, fun e he => ?_, (fun e => by cases e), by simpa using hl, by simp only [maxLen] at hmx; omega⟩
    · intro i hi
      rw [rsC_len] at hi
      simp only [List.length_map, List.length_range] at hi
      have h0 : 0 < len := by omega
      have hs : a.spot = none := by
        have h1 := (hy 0 h0).1 0 (by decide)
        rw [show 0 * 54 + 0 = 0 from rfl, Addr.add_zero'] at h1
        cases h : a.spot with
        | none => rfl
        | some s =>
          unfold World.cell? at h1
          split at h1
          · simp [h] at h1
          · cases h1
      obtain ⟨c, o, sp⟩ := a
      obtain rfl : sp = none := hs
      refine ⟨c, o, rfl, ?_⟩
      have hi' : i / 54 < len := by omega
      have hj : i % 54 < 54 := Nat.mod_lt _ (by omega)
      have hc := (hy (i / 54) hi').1 (i % 54) hj
      have e6 : i / 54 * 54 + i % 54 = i := by omega
      rw [e6, Addr.add_mid] at hc
      rw [hc]
      have h7 := rsC_get ((List.range len).map y) (i / 54) (i % 54) (by simpa using hi') hj
      rw [e6, hg _ hi'] at h7
      exact h7.symm
    · obtain ⟨i, hi, rfl⟩ := List.mem_map.1 he
      exact (hy i (by simpa using hi)).2.1
    · obtain ⟨i, hi, rfl⟩ := List.mem_map.1 he
      exact (hy i (by simpa using hi)).2.2
end Go.Proofs.YtkajeepbelfpiaaGreatDoor
/- Records of a slice, loaded; darnerlaw11.small. -/
set_option maxRecDepth 100000
namespace Go.Proofs.YtkajeepbelfpiaaGreatDoor
open Go Go.RowKit

attribute [-go_sem] Sha.exec_store
theorem RsAt.load {w : World} {c o : Nat} {l : List Ent} (h : RsAt w (some ⟨c, o, none⟩) l) (i : Nat) (hi : i < l.length) : (ldT 49 (.pointer (some ⟨c, o + i * 54, none⟩))).run Tryz.prog w = .ok (.value (rcV (l.getD i ent0).1)) w := by
  have hr : w.rangeAt c (o + i * 54) (tab 54 (rcF (l.getD i ent0).1)).toList := by
    intro j v hv
    have hj : j < 54 := by
      have := (List.getElem?_eq_some_iff.1 hv).1
      simpa [tab] using this
    have h2 : (tab 54 (rcF (l.getD i ent0).1)).toList[j]? = some (rcF (l.getD i ent0).1 j) := by simp [tab, hj]
    rw [h2] at hv
    obtain ⟨c', o', e, hc⟩ := h.lie (i * 54 + j) (by rw [rsC_len]; omega)
    injection e with e
    injection e with e1 e2
    subst e1 e2
    rw [rsC_get l i j hi hj] at hc
    rw [Nat.add_assoc, hc]
    exact hv
  have hu := rtM.und
  obtain ⟨d, hu, hd⟩ : ∃ d, Tryz.prog.underlying 49 = some d ∧ d.isRow = true := by
    cases hq : Tryz.prog.underlying 49 with
    | none => rw [hq] at hu; cases hu
    | some d => rw [hq] at hu; exact ⟨d, rfl, by simpa using hu⟩
  have := run_loadAt_mid (P := Tryz.prog) w c (o + i * 54) 49 _ _ hr hu hd (by rw [rtM.size]; simp [tab])
  unfold rcV
  simp only [ldT, Sem.run_bind, this, Result.andThen, Sem.run_pure, Array.toArray_toList]
/-- Are they not long, nor many? -/
def smallE (e : Ent) : Bool := decide (e.1.path.length ≤ 200) && decide (e.1.n ≤ 100)
def small11 (l : List Ent) : Bool := l.all smallE && decide (l.length ≤ 20)
attribute [local go_sem ↓] exec_allocM exec_storeM exec_loadM
set_option maxRecDepth 100000 in
set_option maxHeartbeats 4000000 in
theorem small_any (l : List Ent) (q : Option Addr) (n cap : Nat) (w : World) (h : RsAt w q l) (hl : l.length = n) (hn : n < 9223372036854775808) (hin : ∀ e ∈ l, RcIn e.1) : Calls Tryz.prog 8 #[.slice q n cap] w fun e w' => e = .returned (.bool (small11 l)) ∧ Below w.heap.size w w' := by
  have HR := Lib.hid (fun (u : World) (hu : Below w.heap.size w u) => h.of_below hu)
  clear h
  go_enter Tryz.func8, Tryz.ntmps8
  go_wp2
  go_loopw [7] (fun v7 wr => ∃ k : Nat, k ≤ n ∧ v7 = .int .i64 (k : Int) ∧ (∀ i, i < k → smallE (l.getD i ent0) = true) ∧ Below w.heap.size w wr) (fun v7 _ => n - (intOf v7).toNat)
  case atStart => exact ⟨0, Nat.zero_le _, rfl, (fun i hi => by omega), Below.refl _ _⟩
  case round =>
    obtain ⟨k, hk, rfl, hS, hB⟩ := hrel
    by_cases hlt : k < n
    · have z1 : (k : Int) < (n : Int) := by omega
      have z2 : decide ((k : Int) < (n : Int)) = true := decide_eq_true z1
      have hw6 : IntKind.i64.wrap ((k : Int) + 1) = (k : Int) + 1 := by rw [IntKind.wrap_i64]; omega
      obtain ⟨c, o, rfl, -⟩ := (HR.out wr hB).lie (k * 54) (by rw [rsC_len]; omega)
      have ld := (HR.out wr hB).load k (by omega)
      obtain ⟨r, hr⟩ : ∃ r, (l.getD k ent0).1 = r := ⟨_, rfl⟩
      have HSE := Lib.hid (show smallE (l.getD k ent0) = (decide (r.path.length ≤ 200) && decide (r.n ≤ 100)) from by unfold smallE; rw [hr])
      have hmem : l.getD k ent0 ∈ l := by
        rw [List.getD_eq_getElem?_getD, List.getElem?_eq_getElem (by omega)]; exact List.getElem_mem _
      have HMEM := Lib.hid hmem
      rw [hr] at ld
      have hst := storeNewRT rtM wr wr.heap.size 49 (rcF rc0) r rfl
      have hb3 : Below wr.heap.size wr (wr.alloc (.cells (tab 54 (rcF r)) 49)) := below_newR _ _
      have hRow : Row (wr.alloc (.cells (tab 54 (rcF r)) 49)) wr.heap.size 49 54 (rcF r) := Row.new _ _ _ _
      obtain ⟨W3, hW3⟩ : ∃ W, wr.alloc (.cells (tab 54 (rcF r)) 49) = W := ⟨_, rfl⟩
      rw [hW3] at hst hb3 hRow
      have cpath := rc_path hRow
      have cblk := rc_blocks hRow
      have HB3 := Lib.hid (hB.trans (hb3.mono hB.size))
      have HSS := Lib.hid hS
      obtain ⟨pl, hpl⟩ : ∃ x, r.path.length = x := ⟨_, rfl⟩
      obtain ⟨bn, hbn⟩ : ∃ x, r.n = x := ⟨_, rfl⟩
      have hsz : (mkS r.path).size = pl := by rw [mkS_size]; exact hpl
      obtain ⟨V, hV⟩ : ∃ V, rcV r = V := ⟨_, rfl⟩
      obtain ⟨PS, hPS⟩ : ∃ V, mkS r.path = V := ⟨_, rfl⟩
      rw [hpl, hbn] at HSE
      rw [hV] at ld hst
      rw [hPS] at cpath hsz
      rw [hbn] at cblk
      clear hB hS hmem hb3 hRow hV hr hpl hbn hPS
      by_cases h1 : pl ≤ 200
      · have d1 : ¬ (200 : Int) < (pl : Int) := by omega
        have g1 : decide ((200 : Int) < (pl : Int)) = false := decide_eq_false d1
        by_cases h2 : bn ≤ 100
        · have d2 : ¬ (100 : Int) < (bn : Int) := by omega
          have g2 : decide ((100 : Int) < (bn : Int)) = false := decide_eq_false d2
          go_wp2
          have hse := HSE.out
          rw [decide_eq_true h1, decide_eq_true h2] at hse
          exact ⟨⟨k + 1, by omega, by go_num, fun i hi => by
            rcases Nat.lt_succ_iff_lt_or_eq.1 hi with h | rfl
            · exact HSS.out i h
            · exact hse, HB3.out⟩, by simp [intOf]; omega⟩
        · have d2 : (100 : Int) < (bn : Int) := by omega
          have g2 : decide ((100 : Int) < (bn : Int)) = true := decide_eq_true d2
          go_wp2
          go_ret
          have hse := HSE.out
          rw [decide_eq_false h2, Bool.and_false] at hse
          have hf : small11 l = false := by
            unfold small11
            rw [show l.all smallE = false from List.all_eq_false.2 ⟨_, HMEM.out, by rw [hse]; decide⟩]
            rfl
          exact ⟨by rw [hf]; rfl, HB3.out⟩
      · have d1 : (200 : Int) < (pl : Int) := by omega
        have g1 : decide ((200 : Int) < (pl : Int)) = true := decide_eq_true d1
        go_wp2
        go_ret
        have hse := HSE.out
        rw [decide_eq_false h1, Bool.false_and] at hse
        have hf : small11 l = false := by
          unfold small11
          rw [show l.all smallE = false from List.all_eq_false.2 ⟨_, HMEM.out, by rw [hse]; decide⟩]
          rfl
        exact ⟨by rw [hf]; rfl, HB3.out⟩
    · have z1 : ¬ (k : Int) < (n : Int) := by omega
      have z2 : decide ((k : Int) < (n : Int)) = false := decide_eq_false z1
      have hf : small11 l = decide ((n : Int) ≤ 20) := by
        unfold small11
        rw [show l.all smallE = true from List.all_eq_true.2 fun e he => by
          obtain ⟨i, hi, rfl⟩ := List.getElem_of_mem he
          have h := hS i (by omega)
          rw [List.getD_eq_getElem?_getD, List.getElem?_eq_getElem hi] at h
          exact h]
        rw [hl, Bool.true_and]
        by_cases h : n ≤ 20
        · rw [decide_eq_true h, decide_eq_true (by omega)]
        · rw [decide_eq_false h, decide_eq_false (by omega)]
      have HF := Lib.hid hf
      have HB := Lib.hid hB
      clear hS hf hB
      go_wp2
      go_ret
      exact ⟨by rw [HF.out]; rfl, HB.out⟩
end Go.Proofs.YtkajeepbelfpiaaGreatDoor
/- Records of the call's own: one appended, one loaded; archives whose records are the same but for where their digests lie. -/
set_option maxRecDepth 100000
namespace Go.Proofs.YtkajeepbelfpiaaGreatDoor
open Go Go.RowKit

attribute [-go_sem] Sha.exec_store
abbrev TRr : TypeId := 22
abbrev ERr : TypeId := 49
theorem infRr : ∃ z b, (Tryz.prog.info? ERr).map (fun i => (i.zero, i.size, i.bytes)) = some (some z, 54, b) ∧ z.cells.size = 54 ∧ b ≤ 1000 := ⟨rcV rc0, 232, by kernel_rfl, by kernel_rfl, by decide⟩
theorem rc_oneCell (r : Rc) : ∀ u ∈ (tab 54 (rcF r)).toList, u.oneCell' = true := fun u hu => Array.all_eq_true'.1 (rc_one r 54) u (by simpa using hu)
section
variable {ops : Array Oper} {rest : List Oper} {o : Oper} {a : Act} {Q : Exit → Act → World → Prop}
theorem wpl_appendRr (w : World) (hgd : o.guard = none) (s x : Operand) (ho : o.op = .call { callee := .builtin .append, args := #[s, x], argTypes := #[TRr, TRr] })
    (base : Nat) (v : Value) (ml : List Ent) (e : Ent) (m : Nat) (hm : ml.length = m) (hs : a.eval s = v) (hown : w.ownsRow base ERr 54 v m (rsC ml)) (q : Nat) (hx : a.eval x = .slice (some ⟨q, 0, none⟩) 1 1) (hR : Row w q ERr 54 (rcF e.1)) (hn : ml.length < 1000) (hb : base ≤ w.heap.size)
    (h : ∀ v' w', w'.ownsRow base ERr 54 v' (ml ++ [e]).length (rsC (ml ++ [e])) → w.grownBy w' v.ownBlock → wpList Tryz.prog ops Q rest (a.put o.dst v') w') : wpList Tryz.prog ops Q (o :: rest) a w := by
  subst hm
  refine wpList_plain hgd fun K' hK => ?_
  obtain ⟨z, b, hinf, hzc, hbb⟩ := infRr
  obtain ⟨i0, hi, hz0, hz1, hz2⟩ := info_parts hinf
  have hl : rsC (ml ++ [e]) = rsC ml ++ (tab 54 (rcF e.1)).toList := by unfold rsC; simp
  obtain ⟨v', w', g1, g2, g3, _, g5⟩ := run_append_own_at (P := Tryz.prog) w base TRr o.type ERr i0 z 54 b undRecs hi hz0 hz1 hz2 hzc (by decide) v ml.length (rsC ml) hown ⟨q, 0, none⟩ 1 1 (tab 54 (rcF e.1)).toList (by simp [tab]) (fun j u hu => by
      rw [Addr.add_mid]
      have hj : j < 54 := by
        have := (List.getElem?_eq_some_iff.1 hu).1
        simpa [tab] using this
      have := hR.cell j hj
      rw [Nat.zero_add, this]
      simpa [tab, hj] using hu) (rc_oneCell e.1)
      (by simp only [maxLen]; omega) (by have : (ml.length + 1) * b ≤ (ml.length + 1) * 1000 := Nat.mul_le_mul_left _ hbb; omega) hb
  unfold Oper.wp execOp
  simp only [ho, resolve, invoke, builtin, Sem.run_bind, Sem.run_pure, Result.andThen_ok, List.map_toArray, List.map_cons, List.map_nil, hs, hx, g1]
  exact hK _ _ (h v' w' (by rw [hl, List.length_append]; exact g2) g3)
end
theorem bsR1 (r : Rc) (w : World) : (bsT 22 1 #[(0, rcV r)]).run Tryz.prog w = .ok (.value (.slice (some ⟨w.heap.size, 0, none⟩) 1 1)) (w.alloc (.cells (tab 54 (rcF r)) 49)) := by
  unfold rcV
  kernel_rfl
/-- But for where its digests lie. -/
def nrmE (e : Ent) : Ent := (e.1.mov none 0, e.2)
theorem sort_nrm (es : List Ent) : (sortA es).map nrmE = sortA (es.map nrmE) := by
  unfold sortA
  exact List.map_mergeSort (fun a _ b _ => rfl)
theorem enc_nrm (g : Nat) (L : List Ent) : encAr g (L.map nrmE) = encAr g L := by
  have h : itsA (L.map nrmE) = itsA L := by
    unfold itsA
    rw [List.map_map]
    rfl
  unfold encAr bodyA
  rw [h, List.length_map]
theorem enc_same {es es' : List Ent} (hp : (es.map nrmE).Perm (es'.map nrmE)) (hk : (es.map fun e => e.1.path).Nodup) (g : Nat) : encAr g (sortA es) = encAr g (sortA es') := by
  rw [← enc_nrm g (sortA es), ← enc_nrm g (sortA es'), sort_nrm, sort_nrm]
  rw [sortA_congr hp (by rw [List.map_map]; exact hk)]
theorem set_new {es : List Ent} {e : Ent} (h : findA es e.1.path = none) : setA es e = e :: es := by
  unfold setA
  congr 1
  unfold delA
  rw [List.filter_eq_self]
  intro x hx
  unfold findA at h
  have := List.find?_eq_none.1 h x hx
  simpa using this
theorem find_new {es ml : List Ent} {e : Ent} (hp : (es.map nrmE).Perm (ml.map nrmE)) (h : ∀ x ∈ ml, x.1.path ≠ e.1.path) : findA es e.1.path = none := by
  unfold findA
  rw [List.find?_eq_none]
  intro x hx
  have hm : nrmE x ∈ ml.map nrmE := hp.mem_iff.1 (List.mem_map.2 ⟨x, hx, rfl⟩)
  obtain ⟨y, hy, e⟩ := List.mem_map.1 hm
  have h2 : y.1.path = x.1.path := by
    have := congrArg (fun z : Ent => z.1.path) e
    exact this
  have := h y hy
  simp only [beq_iff_eq]
  intro e3
  exact this (h2.trans e3)
/-- Set in turn, from another place on. -/
def rotE (ml : List Ent) (t : Nat) : List Ent := ml.drop t ++ ml.take t
theorem rot_perm (ml : List Ent) (t : Nat) : (rotE ml t).Perm ml := by
  unfold rotE
  have := List.perm_append_comm (l₁ := ml.drop t) (l₂ := ml.take t)
  rwa [List.take_append_drop] at this
theorem rot_len (ml : List Ent) (t : Nat) : (rotE ml t).length = ml.length := (rot_perm ml t).length_eq
theorem rot_get (ml : List Ent) (t i : Nat) (ht : t < ml.length) (hi : i < ml.length) : (rotE ml t).getD i ent0 = ml.getD ((i + t) % ml.length) ent0 := by
  unfold rotE
  rw [List.getD_eq_getElem?_getD, List.getD_eq_getElem?_getD]
  by_cases h : i < ml.length - t
  · rw [List.getElem?_append_left (by simp; omega), List.getElem?_drop, Nat.mod_eq_of_lt (by omega), Nat.add_comm]
  · rw [List.getElem?_append_right (by simp; omega)]
    have e1 : (i + t) % ml.length = i + t - ml.length := by
      rw [Nat.mod_eq_sub_mod (by omega), Nat.mod_eq_of_lt (by omega)]
    rw [e1, List.length_drop, List.getElem?_take, if_pos (by omega)]
    congr 2
    omega
theorem paths_ne {ml : List Ent} (h : (ml.map fun e => e.1.path).Nodup) {i : Nat} (hi : i < ml.length) : ∀ x ∈ ml.take i, x.1.path ≠ (ml.getD i ent0).1.path := by
  intro x hx e
  obtain ⟨j, hj, rfl⟩ := List.getElem_of_mem hx
  have hj' : j < i := by simp at hj; omega
  have h1 : (ml.take i)[j] = ml[j] := by simp
  rw [h1] at e
  have h2 : ml.getD i ent0 = ml[i] := by simp [List.getD_eq_getElem?_getD, hi]
  rw [h2] at e
  have h3 := (List.pairwise_iff_getElem.1 (List.nodup_iff_pairwise_ne.1 h)) j i (by simp; omega) (by simpa using hi) hj'
  simp only [List.getElem_map] at h3
  exact h3 e
theorem take_perm {ml es : List Ent} {i : Nat} (hi : i < ml.length) (r' : Ent) (hr : nrmE r' = nrmE (ml.getD i ent0)) (hp : (es.map nrmE).Perm ((ml.take i).map nrmE)) : ((r' :: es).map nrmE).Perm ((ml.take (i + 1)).map nrmE) := by
  rw [List.take_add_one, List.getElem?_eq_getElem hi, List.map_cons, hr]
  have h2 : ml.getD i ent0 = ml[i] := by simp [List.getD_eq_getElem?_getD, hi]
  rw [h2]
  simp only [Option.toList_some, List.map_append, List.map_cons, List.map_nil]
  exact (hp.cons _).trans (List.perm_append_singleton _ _).symm
end Go.Proofs.YtkajeepbelfpiaaGreatDoor
/- The two tables of SHA-256, as a row's listed variables give them. -/
set_option maxRecDepth 100000
namespace Go.Proofs.YtkajeepbelfpiaaGreatDoor
open Go Go.ChangeShapes Go.WideShapes Go.ChangeAt Go.RowKit
attribute [-go_sem] Sha.exec_store

theorem gK10 : Tryz.prog.globalNamed "darner/api.Words256" = some 4 := by kernel_rfl
theorem gF10 : Tryz.prog.globalNamed "darner/api.First256" = some 2 := by kernel_rfl
theorem tK10 : (Tryz.prog.globals[4]?).map (·.type) = some 255 := by kernel_rfl
theorem tF10 : (Tryz.prog.globals[2]?).map (·.type) = some 220 := by kernel_rfl
theorem und32w : Tryz.prog.underlying 219 = some (.int .u32) := by kernel_rfl
theorem und64w : Tryz.prog.underlying 255 = some (.array 64 219) := by kernel_rfl
theorem und8w : Tryz.prog.underlying 220 = some (.array 8 219) := by kernel_rfl
theorem cells32w : Tryz.prog.cellsOf 219 = 1 := by kernel_rfl
theorem cells64w : Tryz.prog.cellsOf 255 = 64 := by kernel_rfl
theorem cells8w : Tryz.prog.cellsOf 220 = 8 := by kernel_rfl
def kz10 : List Int := Sha.K256.map fun x => (x.toNat : Int)
def fz10 : List Int := (List.range 8).map fun i => ((Sha.H0.get i).toNat : Int)
theorem U_eq10 (x : BitVec 32) : Sha.U x = .int .u32 (x.toNat : Int) := by unfold Sha.U; rfl
theorem tb_of_tabs {W : World} (h1 : Go.Lib.TabIs Tryz.prog W "darner/api.Words256" .u32 kz10) (h2 : Go.Lib.TabIs Tryz.prog W "darner/api.First256" .u32 fz10) : Tb W := by
  have hk : Sha.Kt W := fun t ht => by
    have := h1.cell gK10 t (by show t < 64; exact ht)
    rw [this, U_eq10]
    congr 2
    simp only [kz10, Sha.K, List.getD_eq_getElem?_getD, List.getElem?_map]
    have : t < Sha.K256.length := ht
    simp [this]
  refine ⟨fun i hi => ?_, hk, World.block_lt_of_cell? W ⟨4, 0, none⟩ (hk 0 (by decide))⟩
  have := h2.cell gF10 i (by show i < 8; exact hi)
  rw [this, U_eq10]
  congr 2
  simp [fz10, hi]
end Go.Proofs.YtkajeepbelfpiaaGreatDoor
/- archive.copies, as a row lists it; an argument that is an array of two slices of bytes. -/
set_option maxRecDepth 100000
namespace Go.Proofs.YtkajeepbelfpiaaGreatDoor
open Go Go.ChangeShapes Go.WideShapes Go.ChangeAt Go.RowKit
attribute [-go_sem] Sha.exec_store

def cpL : List (List UInt8) := [cpS 0, cpS 1]
theorem gCp : Tryz.prog.globalNamed "darner/archive.copies" = some 0 := by kernel_rfl
theorem tCp : (Tryz.prog.globals[0]?).map (·.type) = some 160 := by kernel_rfl
theorem uCp : Tryz.prog.underlying 160 = some (.array 2 9) := by kernel_rfl
theorem cCp : Tryz.prog.cellsOf 160 = 2 := by kernel_rfl
theorem cp_of {W : World} {rest : List (String × DataW Unit)} (h : laidMet Tryz.prog (("darner/archive.copies", .agg (cpL.map fun z => .lit (.string z))) :: rest) W) : CpA W := fun i hi => by
  have h2 := strs_of_head13 gCp tCp uCp uNs cNs cCp h i (by show i < 2; exact hi)
  rw [h2]
  have : i = 0 ∨ i = 1 := by omega
  rcases this with rfl | rfl
  · exact congrArg (fun x => some (Value.string x)) (mkS_lit (cpS 0))
  · exact congrArg (fun x => some (Value.string x)) (mkS_lit (cpS 1))
def TbC (W : World) : Prop := CpA W ∧ Tb W
end Go.Proofs.YtkajeepbelfpiaaGreatDoor
