/- Merged texts: Wdo15, Awk15. -/
import Derived.BigQuiet
import Derived.Test.YtllpcllgliknpaaGreatDoorKW4
import Derived.Test.YtllpcllgliknpaaGreatDoorAct15
import Derived.Test.YtllpcllgliknpaaGreatDoorKW1
set_option linter.unusedSimpArgs false
set_option linter.unusedVariables false
/- darnerlaw15.do. -/
set_option maxRecDepth 100000
namespace Go.Proofs.YtllpcllgliknpaaGreatDoor
open Go Go.RowKit

attribute [-go_sem] Sha.exec_store
def vA15 (a : A15) : Value := .agg #[.int .u8 (a.kind : Int), .string (mkS a.path), .string (mkS a.to_), .int .i64 a.a, .int .i64 a.b]
/-- What an act leaves. -/
def DoP (w0 : World) (b n : Nat) (e : Ending) (u' : World) : Prop := ∃ q' n' cap' s' M', e = .returned (.tuple #[.slice q' n' cap', .bool true]) ∧ WpS w0 u' b s' M' q' n' cap' ∧ n' ≤ n + 1
section
variable {w0 u : World} {b : Nat} {s : Ws} {M : List Hr} {q : Option Addr} {n cap : Nat}
set_option maxRecDepth 100000 in
set_option maxHeartbeats 8000000 in
theorem do15_0 (h : WpS w0 u b s M q n cap) (hn : n ≤ 900) (a : A15) (hk : a.kind % 6 = 0) (hp : a.path.length ≤ 1000) (ht : a.to_.length ≤ 1000) :
    Calls Tryz.prog 6 #[.pointer (some ⟨b, 0, none⟩), .slice q n cap, vA15 a] u (DoP w0 b n) := by
  obtain ⟨F, mb, bk, hW, hF, hR, hL, hq, h0⟩ := h
  obtain ⟨ak, ap, at_, aa, ab⟩ := a
  dsimp only at hk hp ht
  unfold vA15
  dsimp only
  have k6 : ((ak : Int) % 6) = 0 := by omega
  have k7 : ((ak : Int).tmod 6) = 0 := by rw [Int.tmod_eq_emod_of_nonneg (by omega)]; omega
  obtain ⟨bx, hbx⟩ : ∃ x, u.heap.size = x := ⟨_, rfl⟩
  obtain ⟨W1, hW1⟩ : ∃ W, u.alloc (.cells #[.int .u8 (ak : Int), .string (mkS ap), .string (mkS at_), .int .i64 aa, .int .i64 ab] 28) = W := ⟨_, rfl⟩
  have hB1 : Below u.heap.size u W1 := by rw [← hW1]; exact (Below.refl _ _).alloc (Nat.le_refl _) _
  have hh1 : W1.heap[bx]? = some (.cells #[.int .u8 (ak : Int), .string (mkS ap), .string (mkS at_), .int .i64 aa, .int .i64 ab] 28 (0, 0)) := by rw [← hW1, ← hbx]; exact World.alloc_heap_new _ _
  have HC := Lib.hid (fun v (hv : Below W1.heap.size W1 v) => (show v.cell? ⟨bx, 0, none⟩ = some (.int .u8 (ak : Int)) ∧ v.cell? ⟨bx, 1, none⟩ = some (.string (mkS ap)) ∧ v.cell? ⟨bx, 2, none⟩ = some (.string (mkS at_)) ∧ v.cell? ⟨bx, 3, none⟩ = some (.int .i64 aa) ∧ v.cell? ⟨bx, 4, none⟩ = some (.int .i64 ab) from by
    have hh := (hv.block bx (Array.getElem?_eq_some_iff.1 hh1).1).trans hh1
    refine ⟨?_, ?_, ?_, ?_, ?_⟩ <;> simp [World.cell?, hh]))
  obtain ⟨c0, c1, c2, c3, c4⟩ := HC.out W1 (Below.refl _ _)
  have HB1 := Lib.hid hB1
  have HF := Lib.hid (And.intro hF (And.intro hq h0))
  have HR := Lib.hid hR
  have HN := Lib.hid (And.intro hn hL.1)
  have HP := Lib.hid (show ap.length < 100000 ∧ at_.length < 100000 from ⟨by omega, by omega⟩)
  have HW := Lib.hid (fun v (hv : Below W1.heap.size W1 v) => hW.of_new (w' := v) (hB1.trans (hv.mono hB1.size)))
  have HL := Lib.hid (hL.of_below hB1)
  have HS := Lib.hid (show lenW s ≤ 100000 ∧ (ofW s ap).length < 1000000 from ⟨by rw [← hR.len, hL.1]; omega, by have := ofW_len hR ap; have := hL.1; omega⟩)
  clear hk hp ht hB1 hh1 hF hq h0 hR hn hL hW
  go_enter Tryz.func6, Tryz.ntmps6
  go_wp2_with fail
  refine (refHold15_any ap aa ab HL.out (by have := HN.out.1; omega) HP.out.1).mono ?_
  rintro e u1 ⟨hB, v, M', c, rfl, hr, hv⟩
  obtain ⟨d0, d1, d2, d3, d4⟩ := HC.out u1 hB
  have HX := Lib.hid (And.intro hB (And.intro hr hv))
  have HW1 := Lib.hid (HW.out u1 hB)
  clear hB hr hv c0 c1 c2 c3 c4
  go_wp2_with fail
  refine (hold15_any HW1.out HS.out.1 ap HP.out.1 aa ab).mono ?_
  rintro e u2 ⟨rfl, ⟨bk', hW2⟩, hK⟩
  obtain ⟨rfl, hR2⟩ := HR.out.hold hW2.ok HX.out.2.1
  have HY := Lib.hid (And.intro hW2 (And.intro hK hR2))
  clear hW2 hK hR2 d0 d1 d2 d3 d4 k6 k7 hW1
  go_wp2
  go_ret2
  obtain ⟨q', n', cap', rfl, hS⟩ := act15 HF.out.1 HF.out.2.1 HF.out.2.2 (HB1.out.trans (HX.out.1.mono HB1.out.size)) (HX.out.2.2.mono HB1.out.size) HY.out.1 HY.out.2.1 HY.out.2.2
  refine ⟨q', n', cap', _, _, rfl, hS, ?_⟩
  obtain ⟨_, _, _, _, _, _, hl, _⟩ := hS
  have h1 := HX.out.2.1.len
  have h2 := hl.1
  have h3 := HN.out.2
  omega
set_option maxRecDepth 100000 in
set_option maxHeartbeats 8000000 in
theorem do15_1 (h : WpS w0 u b s M q n cap) (hn : n ≤ 900) (a : A15) (hk : a.kind % 6 = 1) (hp : a.path.length ≤ 1000) (ht : a.to_.length ≤ 1000) :
    Calls Tryz.prog 6 #[.pointer (some ⟨b, 0, none⟩), .slice q n cap, vA15 a] u (DoP w0 b n) := by
  obtain ⟨F, mb, bk, hW, hF, hR, hL, hq, h0⟩ := h
  obtain ⟨ak, ap, at_, aa, ab⟩ := a
  dsimp only at hk hp ht
  unfold vA15
  dsimp only
  have k6 : ((ak : Int) % 6) = 1 := by omega
  have k7 : ((ak : Int).tmod 6) = 1 := by rw [Int.tmod_eq_emod_of_nonneg (by omega)]; omega
  obtain ⟨bx, hbx⟩ : ∃ x, u.heap.size = x := ⟨_, rfl⟩
  obtain ⟨W1, hW1⟩ : ∃ W, u.alloc (.cells #[.int .u8 (ak : Int), .string (mkS ap), .string (mkS at_), .int .i64 aa, .int .i64 ab] 28) = W := ⟨_, rfl⟩
  have hB1 : Below u.heap.size u W1 := by rw [← hW1]; exact (Below.refl _ _).alloc (Nat.le_refl _) _
  have hh1 : W1.heap[bx]? = some (.cells #[.int .u8 (ak : Int), .string (mkS ap), .string (mkS at_), .int .i64 aa, .int .i64 ab] 28 (0, 0)) := by rw [← hW1, ← hbx]; exact World.alloc_heap_new _ _
  have HC := Lib.hid (fun v (hv : Below W1.heap.size W1 v) => (show v.cell? ⟨bx, 0, none⟩ = some (.int .u8 (ak : Int)) ∧ v.cell? ⟨bx, 1, none⟩ = some (.string (mkS ap)) ∧ v.cell? ⟨bx, 2, none⟩ = some (.string (mkS at_)) ∧ v.cell? ⟨bx, 3, none⟩ = some (.int .i64 aa) ∧ v.cell? ⟨bx, 4, none⟩ = some (.int .i64 ab) from by
    have hh := (hv.block bx (Array.getElem?_eq_some_iff.1 hh1).1).trans hh1
    refine ⟨?_, ?_, ?_, ?_, ?_⟩ <;> simp [World.cell?, hh]))
  obtain ⟨c0, c1, c2, c3, c4⟩ := HC.out W1 (Below.refl _ _)
  have HB1 := Lib.hid hB1
  have HF := Lib.hid (And.intro hF (And.intro hq h0))
  have HR := Lib.hid hR
  have HN := Lib.hid (And.intro hn hL.1)
  have HP := Lib.hid (show ap.length < 100000 ∧ at_.length < 100000 from ⟨by omega, by omega⟩)
  have HW := Lib.hid (fun v (hv : Below W1.heap.size W1 v) => hW.of_new (w' := v) (hB1.trans (hv.mono hB1.size)))
  have HL := Lib.hid (hL.of_below hB1)
  have HS := Lib.hid (show lenW s ≤ 100000 ∧ (ofW s ap).length < 1000000 from ⟨by rw [← hR.len, hL.1]; omega, by have := ofW_len hR ap; have := hL.1; omega⟩)
  clear hk hp ht hB1 hh1 hF hq h0 hR hn hL hW
  go_enter Tryz.func6, Tryz.ntmps6
  go_wp2_with fail
  refine (refHold15_any ap aa ab HL.out (by have := HN.out.1; omega) HP.out.1).mono ?_
  rintro e u1 ⟨hB, v, M', c, rfl, hr, hv⟩
  obtain ⟨d0, d1, d2, d3, d4⟩ := HC.out u1 hB
  have HX := Lib.hid (And.intro hB (And.intro hr hv))
  have HW1 := Lib.hid (HW.out u1 hB)
  clear hB hr hv c0 c1 c2 c3 c4
  go_wp2_with fail
  refine (hold15_any HW1.out HS.out.1 ap HP.out.1 aa ab).mono ?_
  rintro e u2 ⟨rfl, ⟨bk', hW2⟩, hK⟩
  obtain ⟨rfl, hR2⟩ := HR.out.hold hW2.ok HX.out.2.1
  have HY := Lib.hid (And.intro hW2 (And.intro hK hR2))
  clear hW2 hK hR2 d0 d1 d2 d3 d4 k6 k7 hW1
  go_wp2
  go_ret2
  obtain ⟨q', n', cap', rfl, hS⟩ := act15 HF.out.1 HF.out.2.1 HF.out.2.2 (HB1.out.trans (HX.out.1.mono HB1.out.size)) (HX.out.2.2.mono HB1.out.size) HY.out.1 HY.out.2.1 HY.out.2.2
  refine ⟨q', n', cap', _, _, rfl, hS, ?_⟩
  obtain ⟨_, _, _, _, _, _, hl, _⟩ := hS
  have h1 := HX.out.2.1.len
  have h2 := hl.1
  have h3 := HN.out.2
  omega
set_option maxRecDepth 100000 in
set_option maxHeartbeats 8000000 in
theorem do15_2 (h : WpS w0 u b s M q n cap) (hn : n ≤ 900) (a : A15) (hk : a.kind % 6 = 2) (hp : a.path.length ≤ 1000) (ht : a.to_.length ≤ 1000) :
    Calls Tryz.prog 6 #[.pointer (some ⟨b, 0, none⟩), .slice q n cap, vA15 a] u (DoP w0 b n) := by
  obtain ⟨F, mb, bk, hW, hF, hR, hL, hq, h0⟩ := h
  obtain ⟨ak, ap, at_, aa, ab⟩ := a
  dsimp only at hk hp ht
  unfold vA15
  dsimp only
  have k6 : ((ak : Int) % 6) = 2 := by omega
  have k7 : ((ak : Int).tmod 6) = 2 := by rw [Int.tmod_eq_emod_of_nonneg (by omega)]; omega
  obtain ⟨bx, hbx⟩ : ∃ x, u.heap.size = x := ⟨_, rfl⟩
  obtain ⟨W1, hW1⟩ : ∃ W, u.alloc (.cells #[.int .u8 (ak : Int), .string (mkS ap), .string (mkS at_), .int .i64 aa, .int .i64 ab] 28) = W := ⟨_, rfl⟩
  have hB1 : Below u.heap.size u W1 := by rw [← hW1]; exact (Below.refl _ _).alloc (Nat.le_refl _) _
  have hh1 : W1.heap[bx]? = some (.cells #[.int .u8 (ak : Int), .string (mkS ap), .string (mkS at_), .int .i64 aa, .int .i64 ab] 28 (0, 0)) := by rw [← hW1, ← hbx]; exact World.alloc_heap_new _ _
  have HC := Lib.hid (fun v (hv : Below W1.heap.size W1 v) => (show v.cell? ⟨bx, 0, none⟩ = some (.int .u8 (ak : Int)) ∧ v.cell? ⟨bx, 1, none⟩ = some (.string (mkS ap)) ∧ v.cell? ⟨bx, 2, none⟩ = some (.string (mkS at_)) ∧ v.cell? ⟨bx, 3, none⟩ = some (.int .i64 aa) ∧ v.cell? ⟨bx, 4, none⟩ = some (.int .i64 ab) from by
    have hh := (hv.block bx (Array.getElem?_eq_some_iff.1 hh1).1).trans hh1
    refine ⟨?_, ?_, ?_, ?_, ?_⟩ <;> simp [World.cell?, hh]))
  obtain ⟨c0, c1, c2, c3, c4⟩ := HC.out W1 (Below.refl _ _)
  have HB1 := Lib.hid hB1
  have HF := Lib.hid (And.intro hF (And.intro hq h0))
  have HR := Lib.hid hR
  have HN := Lib.hid (And.intro hn hL.1)
  have HP := Lib.hid (show ap.length < 100000 ∧ at_.length < 100000 from ⟨by omega, by omega⟩)
  have HW := Lib.hid (fun v (hv : Below W1.heap.size W1 v) => hW.of_new (w' := v) (hB1.trans (hv.mono hB1.size)))
  have HL := Lib.hid (hL.of_below hB1)
  have HS := Lib.hid (show lenW s ≤ 100000 ∧ (ofW s ap).length < 1000000 from ⟨by rw [← hR.len, hL.1]; omega, by have := ofW_len hR ap; have := hL.1; omega⟩)
  clear hk hp ht hB1 hh1 hF hq h0 hR hn hL hW
  go_enter Tryz.func6, Tryz.ntmps6
  go_wp2_with fail
  refine (refFree15_R ap aa HL.out (by have := HN.out.1; omega)).mono ?_
  rintro e u1 ⟨hB, v, M', c, rfl, hr, hv⟩
  obtain ⟨d0, d1, d2, d3, d4⟩ := HC.out u1 hB
  have HX := Lib.hid (And.intro hB (And.intro hr hv))
  have HW1 := Lib.hid (HW.out u1 hB)
  clear hB hr hv c0 c1 c2 c3 c4
  go_wp2_with fail
  refine (free15_any HW1.out ap HS.out.2 aa).mono ?_
  rintro e u2 ⟨rfl, ⟨bk', hW2⟩, hK⟩
  obtain ⟨rfl, hR2⟩ := HR.out.free hW2.ok HX.out.2.1
  have HY := Lib.hid (And.intro hW2 (And.intro hK hR2))
  clear hW2 hK hR2 d0 d1 d2 d3 d4 k6 k7 hW1
  go_wp2
  go_ret2
  obtain ⟨q', n', cap', rfl, hS⟩ := act15 HF.out.1 HF.out.2.1 HF.out.2.2 (HB1.out.trans (HX.out.1.mono HB1.out.size)) (HX.out.2.2.mono HB1.out.size) HY.out.1 HY.out.2.1 HY.out.2.2
  refine ⟨q', n', cap', _, _, rfl, hS, ?_⟩
  obtain ⟨_, _, _, _, _, _, hl, _⟩ := hS
  have h1 := HX.out.2.1.len
  have h2 := hl.1
  have h3 := HN.out.2
  omega
set_option maxRecDepth 100000 in
set_option maxHeartbeats 8000000 in
theorem do15_4 (h : WpS w0 u b s M q n cap) (hn : n ≤ 900) (a : A15) (hk : a.kind % 6 = 4) (hp : a.path.length ≤ 1000) (ht : a.to_.length ≤ 1000) :
    Calls Tryz.prog 6 #[.pointer (some ⟨b, 0, none⟩), .slice q n cap, vA15 a] u (DoP w0 b n) := by
  obtain ⟨F, mb, bk, hW, hF, hR, hL, hq, h0⟩ := h
  obtain ⟨ak, ap, at_, aa, ab⟩ := a
  dsimp only at hk hp ht
  unfold vA15
  dsimp only
  have k6 : ((ak : Int) % 6) = 4 := by omega
  have k7 : ((ak : Int).tmod 6) = 4 := by rw [Int.tmod_eq_emod_of_nonneg (by omega)]; omega
  obtain ⟨bx, hbx⟩ : ∃ x, u.heap.size = x := ⟨_, rfl⟩
  obtain ⟨W1, hW1⟩ : ∃ W, u.alloc (.cells #[.int .u8 (ak : Int), .string (mkS ap), .string (mkS at_), .int .i64 aa, .int .i64 ab] 28) = W := ⟨_, rfl⟩
  have hB1 : Below u.heap.size u W1 := by rw [← hW1]; exact (Below.refl _ _).alloc (Nat.le_refl _) _
  have hh1 : W1.heap[bx]? = some (.cells #[.int .u8 (ak : Int), .string (mkS ap), .string (mkS at_), .int .i64 aa, .int .i64 ab] 28 (0, 0)) := by rw [← hW1, ← hbx]; exact World.alloc_heap_new _ _
  have HC := Lib.hid (fun v (hv : Below W1.heap.size W1 v) => (show v.cell? ⟨bx, 0, none⟩ = some (.int .u8 (ak : Int)) ∧ v.cell? ⟨bx, 1, none⟩ = some (.string (mkS ap)) ∧ v.cell? ⟨bx, 2, none⟩ = some (.string (mkS at_)) ∧ v.cell? ⟨bx, 3, none⟩ = some (.int .i64 aa) ∧ v.cell? ⟨bx, 4, none⟩ = some (.int .i64 ab) from by
    have hh := (hv.block bx (Array.getElem?_eq_some_iff.1 hh1).1).trans hh1
    refine ⟨?_, ?_, ?_, ?_, ?_⟩ <;> simp [World.cell?, hh]))
  obtain ⟨c0, c1, c2, c3, c4⟩ := HC.out W1 (Below.refl _ _)
  have HB1 := Lib.hid hB1
  have HF := Lib.hid (And.intro hF (And.intro hq h0))
  have HR := Lib.hid hR
  have HN := Lib.hid (And.intro hn hL.1)
  have HP := Lib.hid (show ap.length < 100000 ∧ at_.length < 100000 from ⟨by omega, by omega⟩)
  have HW := Lib.hid (fun v (hv : Below W1.heap.size W1 v) => hW.of_new (w' := v) (hB1.trans (hv.mono hB1.size)))
  have HL := Lib.hid (hL.of_below hB1)
  have HS := Lib.hid (show lenW s ≤ 100000 ∧ (ofW s ap).length < 1000000 from ⟨by rw [← hR.len, hL.1]; omega, by have := ofW_len hR ap; have := hL.1; omega⟩)
  clear hk hp ht hB1 hh1 hF hq h0 hR hn hL hW
  go_enter Tryz.func6, Tryz.ntmps6
  go_wp2_with fail
  refine (refMove15_any ap at_ HL.out (by have := HN.out.1; omega) HP.out.2 HR.out.sort HR.out.bd).mono ?_
  rintro e u1 ⟨hB, v, M', c, rfl, hr, hv⟩
  obtain ⟨d0, d1, d2, d3, d4⟩ := HC.out u1 hB
  have HX := Lib.hid (And.intro hB (And.intro hr hv))
  have HW1 := Lib.hid (HW.out u1 hB)
  clear hB hr hv c0 c1 c2 c3 c4
  go_wp2_with fail
  refine (move15_any HW1.out ap at_ HP.out.2).mono ?_
  rintro e u2 ⟨rfl, ⟨bk', hW2⟩, hK⟩
  obtain ⟨rfl, hR2⟩ := HR.out.move hW2.ok HX.out.2.1
  have HY := Lib.hid (And.intro hW2 (And.intro hK hR2))
  clear hW2 hK hR2 d0 d1 d2 d3 d4 k6 k7 hW1
  go_wp2
  go_ret2
  obtain ⟨q', n', cap', rfl, hS⟩ := act15 HF.out.1 HF.out.2.1 HF.out.2.2 (HB1.out.trans (HX.out.1.mono HB1.out.size)) (HX.out.2.2.mono HB1.out.size) HY.out.1 HY.out.2.1 HY.out.2.2
  refine ⟨q', n', cap', _, _, rfl, hS, ?_⟩
  obtain ⟨_, _, _, _, _, _, hl, _⟩ := hS
  have h1 := HX.out.2.1.len
  have h2 := hl.1
  have h3 := HN.out.2
  omega
set_option maxRecDepth 100000 in
set_option maxHeartbeats 8000000 in
theorem do15_3 (h : WpS w0 u b s M q n cap) (hn : n ≤ 900) (a : A15) (hk : a.kind % 6 = 3) (hp : a.path.length ≤ 1000) (ht : a.to_.length ≤ 1000) :
    Calls Tryz.prog 6 #[.pointer (some ⟨b, 0, none⟩), .slice q n cap, vA15 a] u (DoP w0 b n) := by
  obtain ⟨F, mb, bk, hW, hF, hR, hL, hq, h0⟩ := h
  obtain ⟨ak, ap, at_, aa, ab⟩ := a
  dsimp only at hk hp ht
  unfold vA15
  dsimp only
  have k6 : ((ak : Int) % 6) = 3 := by omega
  have k7 : ((ak : Int).tmod 6) = 3 := by rw [Int.tmod_eq_emod_of_nonneg (by omega)]; omega
  obtain ⟨bx, hbx⟩ : ∃ x, u.heap.size = x := ⟨_, rfl⟩
  obtain ⟨W1, hW1⟩ : ∃ W, u.alloc (.cells #[.int .u8 (ak : Int), .string (mkS ap), .string (mkS at_), .int .i64 aa, .int .i64 ab] 28) = W := ⟨_, rfl⟩
  have hB1 : Below u.heap.size u W1 := by rw [← hW1]; exact (Below.refl _ _).alloc (Nat.le_refl _) _
  have hh1 : W1.heap[bx]? = some (.cells #[.int .u8 (ak : Int), .string (mkS ap), .string (mkS at_), .int .i64 aa, .int .i64 ab] 28 (0, 0)) := by rw [← hW1, ← hbx]; exact World.alloc_heap_new _ _
  have HC := Lib.hid (fun v (hv : Below W1.heap.size W1 v) => (show v.cell? ⟨bx, 0, none⟩ = some (.int .u8 (ak : Int)) ∧ v.cell? ⟨bx, 1, none⟩ = some (.string (mkS ap)) ∧ v.cell? ⟨bx, 2, none⟩ = some (.string (mkS at_)) ∧ v.cell? ⟨bx, 3, none⟩ = some (.int .i64 aa) ∧ v.cell? ⟨bx, 4, none⟩ = some (.int .i64 ab) from by
    have hh := (hv.block bx (Array.getElem?_eq_some_iff.1 hh1).1).trans hh1
    refine ⟨?_, ?_, ?_, ?_, ?_⟩ <;> simp [World.cell?, hh]))
  obtain ⟨c0, c1, c2, c3, c4⟩ := HC.out W1 (Below.refl _ _)
  have HB1 := Lib.hid hB1
  have HF := Lib.hid (And.intro hF (And.intro hq h0))
  have HR := Lib.hid hR
  have HN := Lib.hid (And.intro hn hL.1)
  have HP := Lib.hid (show ap.length < 100000 ∧ at_.length < 100000 from ⟨by omega, by omega⟩)
  have HW := Lib.hid (fun v (hv : Below W1.heap.size W1 v) => hW.of_new (w' := v) (hB1.trans (hv.mono hB1.size)))
  have HL := Lib.hid (hL.of_below hB1)
  have HS := Lib.hid (show lenW s ≤ 100000 ∧ (ofW s ap).length < 1000000 from ⟨by rw [← hR.len, hL.1]; omega, by have := ofW_len hR ap; have := hL.1; omega⟩)
  clear hk hp ht hB1 hh1 hF hq h0 hR hn hL hW
  go_enter Tryz.func6, Tryz.ntmps6
  go_wp2_with fail
  refine (refDrop15_any ap HL.out (by have := HN.out.1; omega)).mono ?_
  rintro e u1 ⟨v, vo, rfl, hO1, hO2, -, hB⟩
  obtain ⟨d0, d1, d2, d3, d4⟩ := HC.out u1 hB
  have hol := HR.out.onlen ap
  obtain ⟨po, co, rfl, -⟩ := hO2.shape
  rw [hol]
  have HX := Lib.hid (And.intro hB (hO1.rhn q))
  have HW1 := Lib.hid (HW.out u1 hB)
  have HDL := Lib.hid (show (offH M ap).length ≤ M.length from List.length_filter_le _ _)
  obtain ⟨m, hm⟩ : ∃ m, (ofW s ap).length = m := ⟨_, rfl⟩
  have HDR := Lib.hid (drop15_any HW1.out ap HS.out.2)
  rw [hm] at HDR ⊢
  clear hO1 hO2 hB hol hm c0 c1 c2 c3 c4
  go_wp2_with fail
  refine HDR.out.mono ?_
  rintro e u2 ⟨rfl, ⟨bk', hW2⟩, hK⟩
  have HY := Lib.hid (And.intro hW2 (And.intro hK (HR.out.drop ap hW2.ok)))
  clear hW2 hK d0 d1 d2 d3 d4 k6 k7 hW1
  go_wp2
  go_ret2
  obtain ⟨q', n', cap', rfl, hS⟩ := act15 HF.out.1 HF.out.2.1 HF.out.2.2 (HB1.out.trans (HX.out.1.mono HB1.out.size)) (HX.out.2.mono HB1.out.size) HY.out.1 HY.out.2.1 HY.out.2.2
  refine ⟨q', n', cap', _, _, rfl, hS, ?_⟩
  obtain ⟨_, _, _, _, _, _, hl, _⟩ := hS
  have h1 := HDL.out
  have h2 := hl.1
  have h3 := HN.out.2
  omega
set_option maxRecDepth 100000 in
set_option maxHeartbeats 8000000 in
theorem do15_5 (h : WpS w0 u b s M q n cap) (hn : n ≤ 900) (a : A15) (hk : a.kind % 6 = 5) (hp : a.path.length ≤ 1000) (ht : a.to_.length ≤ 1000) :
    Calls Tryz.prog 6 #[.pointer (some ⟨b, 0, none⟩), .slice q n cap, vA15 a] u (DoP w0 b n) := by
  have HH := Lib.hid h
  obtain ⟨F, mb, bk, hW, hF, hR, hL, hq, h0⟩ := h
  obtain ⟨ak, ap, at_, aa, ab⟩ := a
  dsimp only at hk hp ht
  unfold vA15
  dsimp only
  have k6 : ((ak : Int) % 6) = 5 := by omega
  have k7 : ((ak : Int).tmod 6) = 5 := by rw [Int.tmod_eq_emod_of_nonneg (by omega)]; omega
  obtain ⟨bx, hbx⟩ : ∃ x, u.heap.size = x := ⟨_, rfl⟩
  obtain ⟨W1, hW1⟩ : ∃ W, u.alloc (.cells #[.int .u8 (ak : Int), .string (mkS ap), .string (mkS at_), .int .i64 aa, .int .i64 ab] 28) = W := ⟨_, rfl⟩
  have hB1 : Below u.heap.size u W1 := by rw [← hW1]; exact (Below.refl _ _).alloc (Nat.le_refl _) _
  have hh1 : W1.heap[bx]? = some (.cells #[.int .u8 (ak : Int), .string (mkS ap), .string (mkS at_), .int .i64 aa, .int .i64 ab] 28 (0, 0)) := by rw [← hW1, ← hbx]; exact World.alloc_heap_new _ _
  have HC := Lib.hid (fun v (hv : Below W1.heap.size W1 v) => (show v.cell? ⟨bx, 0, none⟩ = some (.int .u8 (ak : Int)) ∧ v.cell? ⟨bx, 1, none⟩ = some (.string (mkS ap)) ∧ v.cell? ⟨bx, 2, none⟩ = some (.string (mkS at_)) ∧ v.cell? ⟨bx, 3, none⟩ = some (.int .i64 aa) ∧ v.cell? ⟨bx, 4, none⟩ = some (.int .i64 ab) from by
    have hh := (hv.block bx (Array.getElem?_eq_some_iff.1 hh1).1).trans hh1
    refine ⟨?_, ?_, ?_, ?_, ?_⟩ <;> simp [World.cell?, hh]))
  obtain ⟨c0, c1, c2, c3, c4⟩ := HC.out W1 (Below.refl _ _)
  have HB1 := Lib.hid hB1
  have HF := Lib.hid (And.intro hF (And.intro hq h0))
  have HR := Lib.hid hR
  have HN := Lib.hid (And.intro hn hL.1)
  have HP := Lib.hid (show ap.length < 100000 ∧ at_.length < 100000 from ⟨by omega, by omega⟩)
  have HW := Lib.hid (fun v (hv : Below W1.heap.size W1 v) => hW.of_new (w' := v) (hB1.trans (hv.mono hB1.size)))
  have HL := Lib.hid (hL.of_below hB1)
  have HS := Lib.hid (show lenW s ≤ 100000 ∧ (ofW s ap).length < 1000000 from ⟨by rw [← hR.len, hL.1]; omega, by have := ofW_len hR ap; have := hL.1; omega⟩)
  have HWY := Lib.hid (hR.why ap aa)
  have HI := Lib.hid (fun i (hi : i < M.length) => hR.mem.1 (getD_mem15 hi))
  obtain ⟨hs, hhs⟩ : ∃ hs, ofW s ap = hs := ⟨_, rfl⟩
  have HHS := Lib.hid hhs
  have HWI := Lib.hid (fun k => hR.why ap k)
  have HLN := Lib.hid (show n < 100000000 by omega)
  clear hhs
  cases hw : whyW hs aa with
  | none =>
    have hwc : whyC s ap aa = (0, 8) := by unfold whyC; rw [HHS.out, hw]
    have HNO := Lib.hid (HWY.out.1 (by rw [HHS.out]; exact hw))
    have HWH := Lib.hid hwc
    clear hwc hw
    clear hk hp ht hB1 hh1 hF hq h0 hR hn hL hW
    go_enter Tryz.func6, Tryz.ntmps6
    go_wp2_with fail
    refine (why15_any (HW.out W1 (Below.refl _ _)) ap aa).mono ?_
    rintro e w2 ⟨rfl, hw2⟩
    rw [← hw2]
    clear hw2 w2
    rw [HWH.out]
    go_wp2_with fail
    refine (refFind15_any ap aa HL.out HLN.out).mono ?_
    rintro e w3 ⟨r, rfl, hr, hw3⟩
    rw [hw3]
    clear hw3 w3
    rcases hr.cases.symm with ⟨i, rfl, hi, h1, h2⟩ | ⟨rfl, -⟩
    · exact absurd ⟨h1, h2⟩ (HNO.out _ (getD_mem15 hi))
    clear hr k6 k7
    have hsv := serve15_any (HW.out W1 (Below.refl _ _)) ap aa ab
    by_cases hbad : aa < 0 ∨ ab < aa ∨ 64 < ab
    · rw [serveC_eq, if_pos hbad] at hsv
      have HSV := Lib.hid hsv
      clear hsv
      go_wp2_with fail
      refine HSV.out.mono ?_
      rintro e w5 ⟨rfl, hB5⟩
      have HB5 := Lib.hid hB5
      obtain ⟨d0, d1, d2, d3, d4⟩ := HC.out w5 hB5
      clear hB5 HSV c0 c1 c2 c3 c4 hW1 
      by_cases g1 : aa < 0
      · have e1 : decide (aa < 0) = true := decide_eq_true g1
        clear hbad
        go_wp2
        go_ret2
        exact ⟨q, n, cap, s, M, rfl, HH.out.next (HB1.out.trans (HB5.out.mono HB1.out.size)), Nat.le_succ _⟩
      · have e1 : decide (aa < 0) = false := decide_eq_false g1
        by_cases g2 : ab < aa
        · have e2 : decide (ab < aa) = true := decide_eq_true g2
          clear hbad
          go_wp2
          go_ret2
          exact ⟨q, n, cap, s, M, rfl, HH.out.next (HB1.out.trans (HB5.out.mono HB1.out.size)), Nat.le_succ _⟩
        · have e2 : decide (ab < aa) = false := decide_eq_false g2
          have g3 : 64 < ab := by omega
          have e3 : decide (64 < ab) = true := decide_eq_true g3
          clear hbad
          go_wp2
          go_ret2
          exact ⟨q, n, cap, s, M, rfl, HH.out.next (HB1.out.trans (HB5.out.mono HB1.out.size)), Nat.le_succ _⟩
    · rw [serveC_eq, if_neg hbad, HHS.out] at hsv
      obtain ⟨fa, rfl⟩ : ∃ k : Nat, aa = (k : Int) := ⟨aa.toNat, by omega⟩
      obtain ⟨fb, rfl⟩ : ∃ k : Nat, ab = (k : Int) := ⟨ab.toNat, by omega⟩
      obtain ⟨cc, hcc⟩ : ∃ c, (if inR hs (fa : Int) (fb : Int) then (13 : Int) else 0) = c := ⟨_, rfl⟩
      rw [hcc] at hsv
      have HCC := Lib.hid hcc
      have HFB := Lib.hid (show fa ≤ fb ∧ fb ≤ 64 by omega)
      have HSV := Lib.hid hsv
      have e1 : decide ((fa : Int) < 0) = false := decide_eq_false (by omega)
      have e2 : decide ((fb : Int) < (fa : Int)) = false := decide_eq_false (by omega)
      have e2b : decide (fb < fa) = false := decide_eq_false (by omega)
      have e3 : decide ((64 : Int) < (fb : Int)) = false := decide_eq_false (by omega)
      have e3b : decide (64 < fb) = false := decide_eq_false (by omega)
      clear hsv hcc hbad
      go_wp2_with fail
      refine HSV.out.mono ?_
      rintro e w5 ⟨rfl, hB5⟩
      have HB5 := Lib.hid hB5
      obtain ⟨d0, d1, d2, d3, d4⟩ := HC.out w5 hB5
      clear hB5 HSV c0 c1 c2 c3 c4 hW1 
      go_wp2
      clear e1 e2 e2b e3 e3b
      go_loopw [8, 15] (fun v8 v15 wr => ∃ k : Nat, fa ≤ k ∧ k ≤ fb ∧ v15 = .int .i64 (k : Int) ∧ v8 = .int .i64 (okw (inR hs (fa : Int) (k : Int))) ∧ w5 = wr) (fun _ v15 _ => fb - (intOf v15).toNat)
      case atStart => exact ⟨fa, Nat.le_refl _, HFB.out.1, rfl, by rw [inR_start]; rfl, rfl⟩
      case round =>
        rename World => w5
        obtain ⟨k, hk1, hk2, rfl, rfl, rfl⟩ := hrel
        have HK := Lib.hid (And.intro hk1 hk2)
        obtain ⟨oc, hoc⟩ : ∃ o, okw (inR hs (fa : Int) (k : Int)) = o := ⟨_, rfl⟩
        have HOC := Lib.hid hoc
        rw [hoc]
        clear hoc
        by_cases hlt : k < fb
        · have z1 : (k : Int) < (fb : Int) := by omega
          have z2 : decide ((k : Int) < (fb : Int)) = true := decide_eq_true z1
          have z3 : decide (k < fb) = true := decide_eq_true hlt
          have hw64 : IntKind.i64.wrap ((k : Int) + 1) = ((k + 1 : Nat) : Int) := by rw [IntKind.wrap_i64]; have := HFB.out; omega
          have HMS := Lib.hid hlt
          have HNX := Lib.hid (inR_next hs (f := (fa : Int)) (k := (k : Int)) (by omega))
          clear hlt hk1 hk2
          go_wp2_with fail
          refine (refFind15_any ap (k : Int) (HL.out.of_below HB5.out) HLN.out).mono ?_
          rintro e w3 ⟨r, rfl, hr, hw3⟩
          rw [hw3]
          clear hw3 w3
          rcases hr.cases with ⟨rfl, hno⟩ | ⟨i, rfl, hi, h1, h2⟩
          · have hw := (HWI.out (k : Int)).2 hno
            rw [HHS.out] at hw
            have HW2 := Lib.hid hw
            clear hno hw hr
            go_wp2
            refine ⟨⟨k + 1, by have := HK.out; omega, HMS.out, rfl, ?_, trivial⟩, by simp [intOf]; have := HMS.out; omega⟩
            push_cast
            rw [HNX.out, HW2.out, ← HOC.out]
            simp
          · have hw : whyW hs (k : Int) ≠ none := by
              intro hw
              rw [← HHS.out] at hw
              exact (HWI.out (k : Int)).1 hw _ (getD_mem15 hi) ⟨h1, h2⟩
            have HW2 := Lib.hid (show (whyW hs (k : Int)).isSome = true from Option.isSome_iff_ne_none.2 hw)
            have i1 : (0 : Int) ≤ (i : Int) := by omega
            have i2 : decide ((0 : Int) ≤ (i : Int)) = true := decide_eq_true i1
            clear hw hr hi h1 h2
            go_wp2
            refine ⟨⟨k + 1, by have := HK.out; omega, HMS.out, rfl, ?_, trivial⟩, by simp [intOf]; have := HMS.out; omega⟩
            push_cast
            rw [HNX.out, HW2.out]
            simp [okw]
        · obtain rfl : k = fb := by omega
          have z1 : ¬ (k : Int) < (k : Int) := by omega
          have z2 : decide ((k : Int) < (k : Int)) = false := decide_eq_false z1
          have z3 : decide (k < k) = false := decide_eq_false hlt
          have hoo : oc = cc := by rw [← HOC.out, ← HCC.out]; rfl
          subst hoo
          clear hlt hk1 hk2
          go_wp2
          go_ret2
          exact ⟨q, n, cap, s, M, rfl, HH.out.next (HB1.out.trans (HB5.out.mono HB1.out.size)), Nat.le_succ _⟩
  | some r0 =>
    have hwc : whyC s ap aa = (r0, 0) := by unfold whyC; rw [HHS.out, hw]
    have HWH := Lib.hid hwc
    have HWR := Lib.hid hw
    clear hwc hw
    clear hk hp ht hB1 hh1 hF hq h0 hR hn hL hW
    go_enter Tryz.func6, Tryz.ntmps6
    go_wp2_with fail
    refine (why15_any (HW.out W1 (Below.refl _ _)) ap aa).mono ?_
    rintro e w2 ⟨rfl, hw2⟩
    rw [← hw2]
    clear hw2 w2
    rw [HWH.out]
    go_wp2_with fail
    refine (refFind15_any ap aa HL.out HLN.out).mono ?_
    rintro e w3 ⟨r, rfl, hr, hw3⟩
    rw [hw3]
    clear hw3 w3
    rcases hr.cases with ⟨rfl, hno⟩ | ⟨i, rfl, hi, h1, h2⟩
    · have := (HWY.out).2 hno
      rw [HHS.out, HWR.out] at this
      cases this
    have hry : r0 = (M.getD i hr0).why := by
      have := HI.out i hi
      rw [h1, h2, HHS.out, HWR.out] at this
      injection this
    have hin : i < n := by have := HN.out.2; omega
    obtain ⟨c7, o7, rfl, hc⟩ := HL.out.cells i hin
    have x2 := hc 2 (by decide)
    change _ = some (Value.int .i64 (M.getD i hr0).why) at x2
    rw [← hry] at x2
    have i1 : (0 : Int) ≤ (i : Int) := by omega
    have i2 : decide ((0 : Int) ≤ (i : Int)) = true := decide_eq_true i1
    have i3 : decide ((i : Int) < 0) = false := decide_eq_false (by omega)
    have i4 : (i : Int) < (n : Int) := by omega
    clear hr hi h1 h2 hry hc hin k6 k7
    have hsv := serve15_any (HW.out W1 (Below.refl _ _)) ap aa ab
    by_cases hbad : aa < 0 ∨ ab < aa ∨ 64 < ab
    · rw [serveC_eq, if_pos hbad] at hsv
      have HSV := Lib.hid hsv
      clear hsv
      go_wp2_with fail
      refine HSV.out.mono ?_
      rintro e w5 ⟨rfl, hB5⟩
      have HB5 := Lib.hid hB5
      obtain ⟨d0, d1, d2, d3, d4⟩ := HC.out w5 hB5
      clear hB5 HSV c0 c1 c2 c3 c4 hW1 x2 i1 i2 i3 i4
      by_cases g1 : aa < 0
      · have e1 : decide (aa < 0) = true := decide_eq_true g1
        clear hbad
        go_wp2
        go_ret2
        exact ⟨_, n, cap, s, M, rfl, HH.out.next (HB1.out.trans (HB5.out.mono HB1.out.size)), Nat.le_succ _⟩
      · have e1 : decide (aa < 0) = false := decide_eq_false g1
        by_cases g2 : ab < aa
        · have e2 : decide (ab < aa) = true := decide_eq_true g2
          clear hbad
          go_wp2
          go_ret2
          exact ⟨_, n, cap, s, M, rfl, HH.out.next (HB1.out.trans (HB5.out.mono HB1.out.size)), Nat.le_succ _⟩
        · have e2 : decide (ab < aa) = false := decide_eq_false g2
          have g3 : 64 < ab := by omega
          have e3 : decide (64 < ab) = true := decide_eq_true g3
          clear hbad
          go_wp2
          go_ret2
          exact ⟨_, n, cap, s, M, rfl, HH.out.next (HB1.out.trans (HB5.out.mono HB1.out.size)), Nat.le_succ _⟩
    · rw [serveC_eq, if_neg hbad, HHS.out] at hsv
      obtain ⟨fa, rfl⟩ : ∃ k : Nat, aa = (k : Int) := ⟨aa.toNat, by omega⟩
      obtain ⟨fb, rfl⟩ : ∃ k : Nat, ab = (k : Int) := ⟨ab.toNat, by omega⟩
      obtain ⟨cc, hcc⟩ : ∃ c, (if inR hs (fa : Int) (fb : Int) then (13 : Int) else 0) = c := ⟨_, rfl⟩
      rw [hcc] at hsv
      have HCC := Lib.hid hcc
      have HFB := Lib.hid (show fa ≤ fb ∧ fb ≤ 64 by omega)
      have HSV := Lib.hid hsv
      have e1 : decide ((fa : Int) < 0) = false := decide_eq_false (by omega)
      have e2 : decide ((fb : Int) < (fa : Int)) = false := decide_eq_false (by omega)
      have e2b : decide (fb < fa) = false := decide_eq_false (by omega)
      have e3 : decide ((64 : Int) < (fb : Int)) = false := decide_eq_false (by omega)
      have e3b : decide (64 < fb) = false := decide_eq_false (by omega)
      clear hsv hcc hbad
      go_wp2_with fail
      refine HSV.out.mono ?_
      rintro e w5 ⟨rfl, hB5⟩
      have HB5 := Lib.hid hB5
      obtain ⟨d0, d1, d2, d3, d4⟩ := HC.out w5 hB5
      clear hB5 HSV c0 c1 c2 c3 c4 hW1 x2 i1 i2 i3 i4
      go_wp2
      clear e1 e2 e2b e3 e3b
      go_loopw [8, 15] (fun v8 v15 wr => ∃ k : Nat, fa ≤ k ∧ k ≤ fb ∧ v15 = .int .i64 (k : Int) ∧ v8 = .int .i64 (okw (inR hs (fa : Int) (k : Int))) ∧ w5 = wr) (fun _ v15 _ => fb - (intOf v15).toNat)
      case atStart => exact ⟨fa, Nat.le_refl _, HFB.out.1, rfl, by rw [inR_start]; rfl, rfl⟩
      case round =>
        rename World => w5
        obtain ⟨k, hk1, hk2, rfl, rfl, rfl⟩ := hrel
        have HK := Lib.hid (And.intro hk1 hk2)
        obtain ⟨oc, hoc⟩ : ∃ o, okw (inR hs (fa : Int) (k : Int)) = o := ⟨_, rfl⟩
        have HOC := Lib.hid hoc
        rw [hoc]
        clear hoc
        by_cases hlt : k < fb
        · have z1 : (k : Int) < (fb : Int) := by omega
          have z2 : decide ((k : Int) < (fb : Int)) = true := decide_eq_true z1
          have z3 : decide (k < fb) = true := decide_eq_true hlt
          have hw64 : IntKind.i64.wrap ((k : Int) + 1) = ((k + 1 : Nat) : Int) := by rw [IntKind.wrap_i64]; have := HFB.out; omega
          have HMS := Lib.hid hlt
          have HNX := Lib.hid (inR_next hs (f := (fa : Int)) (k := (k : Int)) (by omega))
          clear hlt hk1 hk2
          go_wp2_with fail
          refine (refFind15_any ap (k : Int) (HL.out.of_below HB5.out) HLN.out).mono ?_
          rintro e w3 ⟨r, rfl, hr, hw3⟩
          rw [hw3]
          clear hw3 w3
          rcases hr.cases with ⟨rfl, hno⟩ | ⟨i, rfl, hi, h1, h2⟩
          · have hw := (HWI.out (k : Int)).2 hno
            rw [HHS.out] at hw
            have HW2 := Lib.hid hw
            clear hno hw hr
            go_wp2
            refine ⟨⟨k + 1, by have := HK.out; omega, HMS.out, rfl, ?_, trivial⟩, by simp [intOf]; have := HMS.out; omega⟩
            push_cast
            rw [HNX.out, HW2.out, ← HOC.out]
            simp
          · have hw : whyW hs (k : Int) ≠ none := by
              intro hw
              rw [← HHS.out] at hw
              exact (HWI.out (k : Int)).1 hw _ (getD_mem15 hi) ⟨h1, h2⟩
            have HW2 := Lib.hid (show (whyW hs (k : Int)).isSome = true from Option.isSome_iff_ne_none.2 hw)
            have i1 : (0 : Int) ≤ (i : Int) := by omega
            have i2 : decide ((0 : Int) ≤ (i : Int)) = true := decide_eq_true i1
            clear hw hr hi h1 h2
            go_wp2
            refine ⟨⟨k + 1, by have := HK.out; omega, HMS.out, rfl, ?_, trivial⟩, by simp [intOf]; have := HMS.out; omega⟩
            push_cast
            rw [HNX.out, HW2.out]
            simp [okw]
        · obtain rfl : k = fb := by omega
          have z1 : ¬ (k : Int) < (k : Int) := by omega
          have z2 : decide ((k : Int) < (k : Int)) = false := decide_eq_false z1
          have z3 : decide (k < k) = false := decide_eq_false hlt
          have hoo : oc = cc := by rw [← HOC.out, ← HCC.out]; rfl
          subst hoo
          clear hlt hk1 hk2
          go_wp2
          go_ret2
          exact ⟨_, n, cap, s, M, rfl, HH.out.next (HB1.out.trans (HB5.out.mono HB1.out.size)), Nat.le_succ _⟩
end
end Go.Proofs.YtllpcllgliknpaaGreatDoor
/- darnerlaw15.awake; a ward that the statement made. -/
set_option maxRecDepth 100000
namespace Go.Proofs.YtllpcllgliknpaaGreatDoor
open Go Go.RowKit
attribute [-go_sem] Sha.exec_store

/-- A ward in block b, all of its blocks made since w0. -/
def WSt (w0 u : World) (b : Nat) (s : Ws) : Prop := (∃ mb bk, WdAt u b (fun g => w0.heap.size ≤ g) s mb bk) ∧ Below w0.heap.size w0 u
theorem WSt.next {w0 u u' : World} {b : Nat} {s : Ws} (h : WSt w0 u b s) (hB : Below u.heap.size u u') : WSt w0 u' b s := by
  obtain ⟨⟨mb, bk, h1⟩, h2⟩ := h
  exact ⟨⟨mb, bk, h1.of_new hB⟩, h2.trans (hB.mono h2.size)⟩
theorem WSt.ok {w0 u : World} {b : Nat} {s : Ws} (h : WSt w0 u b s) : OkW s := by
  obtain ⟨⟨mb, bk, h1⟩, h2⟩ := h
  exact h1.ok
theorem wst_new (w0 : World) {w : World} (hB : Below w0.heap.size w0 w) : Calls Tryz.prog 5 #[] w fun e w' => ∃ b, e = .returned (.pointer (some ⟨b, 0, none⟩)) ∧ WSt w0 w' b [] :=
  (new15_any w).mono fun e w' ⟨he, h1, h2⟩ => ⟨_, he, ⟨_, _, h1.mono fun g _ hg => Nat.le_trans hB.size hg⟩, hB.trans (h2.mono hB.size)⟩
theorem wst_serve {w0 u : World} {b : Nat} {s : Ws} (h : WSt w0 u b s) (p : S8) (f t : Int) : Calls Tryz.prog 8 #[.pointer (some ⟨b, 0, none⟩), .string (mkS p), .int .i64 f, .int .i64 t] u fun e w' => e = .returned (.int .i64 (serveC s p f t)) ∧ WSt w0 w' b s := by
  obtain ⟨⟨mb, bk, h1⟩, h2⟩ := id h
  exact (serve15_any h1 p f t).mono fun e w' ⟨he, hB⟩ => ⟨he, h.next hB⟩
theorem wst_hold {w0 u : World} {b : Nat} {s : Ws} (h : WSt w0 u b s) (hn : lenW s ≤ 100000) (p : S8) (hp : p.length < 100000) (k r : Int) : Calls Tryz.prog 9 #[.pointer (some ⟨b, 0, none⟩), .string (mkS p), .int .i64 k, .int .i64 r] u fun e w' => e = .returned (.int .i64 (holdC s p k r)) ∧ WSt w0 w' b (holdW s p k r) := by
  obtain ⟨⟨mb, bk, h1⟩, h2⟩ := id h
  refine (hold15_any h1 hn p hp k r).mono fun e w' ⟨he, ⟨bk', h3⟩, hK⟩ => ⟨he, ⟨mb, bk', h3.mono fun g _ hg => ?_⟩, h2.trans (hK.below (fun _ hk => hk) h2.size)⟩
  rcases hg with hg | hg
  · exact hg
  · exact Nat.le_trans h2.size hg.1
theorem kind_x15 : kindL [120] = 3 := by decide +kernel
def sx15 : Ws := [([120], [(3, 1)])]
theorem hold_x15 : holdC [] [120] 3 1 = 0 ∧ holdW [] [120] 3 1 = sx15 := by
  have h0 : holdC [] [120] 3 1 = 0 := by
    unfold holdC
    rw [if_neg (by rw [kind_x15]; decide), if_neg (by decide), if_neg (by decide)]
  refine ⟨h0, ?_⟩
  unfold holdW
  rw [if_pos h0]
  rfl
set_option maxHeartbeats 4000000 in
theorem awake15 (w : World) : Calls Tryz.prog 4 #[] w fun e w' => e = .returned (.bool true) ∧ Below w.heap.size w w' := by
  have HNW := Lib.hid (wst_new w (Below.refl _ w))
  go_enter Tryz.func4, Tryz.ntmps4
  go_wp2_with fail
  refine HNW.out.mono ?_
  rintro e w1 ⟨b, rfl, hW⟩
  have h1 := wst_serve hW [120] 0 64
  rw [show serveC [] [120] 0 64 = 0 by decide +kernel, ← mkS_lit [120]] at h1
  have H1 := Lib.hid h1
  clear hW h1 HNW
  go_wp2_with fail
  refine H1.out.mono ?_
  rintro e w2 ⟨rfl, hW⟩
  have h2 := wst_hold hW (by decide) [120] (by decide) 3 1
  rw [hold_x15.1, hold_x15.2, ← mkS_lit [120]] at h2
  have H2 := Lib.hid h2
  clear hW h2 H1
  go_wp2_with fail
  refine H2.out.mono ?_
  rintro e w3 ⟨rfl, hW⟩
  have h3 := wst_serve hW [120] 0 4
  rw [show serveC sx15 [120] 0 4 = 13 by decide +kernel, ← mkS_lit [120]] at h3
  have H3 := Lib.hid h3
  clear hW h3 H2
  go_wp2_with fail
  refine H3.out.mono ?_
  rintro e w4 ⟨rfl, hW⟩
  have h4 := wst_serve hW [120] 4 64
  rw [show serveC sx15 [120] 4 64 = 0 by decide +kernel, ← mkS_lit [120]] at h4
  have H4 := Lib.hid h4
  clear hW h4 H3
  go_wp2_with fail
  refine H4.out.mono ?_
  rintro e w5 ⟨rfl, hW⟩
  have HW := Lib.hid hW.2
  clear hW
  go_wp2
  go_ret
  exact ⟨rfl, HW.out⟩
end Go.Proofs.YtllpcllgliknpaaGreatDoor
