/- The reading of items that are cut. -/
import Derived.Test.YtgmogbgkokofoaaNxL6
import Derived.Test.YtgmogbgkokofoaaEnc6
set_option linter.unusedSimpArgs false
set_option linter.unusedVariables false
namespace Go.Proofs.Ytgmogbgkokofoaa
open Go Go.RowKit

theorem Kp.thenNew {b c : Nat} {x y z : World} (h : Kp b x y) (k : Kp c y z) (hc : x.heap.size ≤ c) : Kp b x z :=
  ⟨k.os.trans h.os, k.tape.trans h.tape, k.output.trans h.output, Nat.le_trans h.size k.size, fun i hi hb => (k.block i (Nat.lt_of_lt_of_le hi h.size) (by omega)).trans (h.block i hi hb)⟩
theorem Kp.thenBelow {b : Nat} {x y z : World} (h : Kp b x y) (k : Below x.heap.size y z) : Kp b x z :=
  ⟨k.os.trans h.os, k.tape.trans h.tape, k.output.trans h.output, Nat.le_trans h.size k.size, fun i hi hb => (k.block i hi).trans (h.block i hi hb)⟩
theorem Kp.ofBelow {b : Nat} {x y : World} (k : Below x.heap.size x y) : Kp b x y := ⟨k.os, k.tape, k.output, k.size, fun i hi _ => k.block i hi⟩
section
variable {Rd : Option Addr → Nat → World → Addr → List (BitVec 8) → Prop} {Thr : Addr → Nat → World → Value → Prop} (S : RdSpec Rd Thr)
include S
set_option maxRecDepth 100000 in
set_option maxHeartbeats 4000000 in
theorem cuts_in (V0 V : World) (xs : List It) (px : Option Addr) (cx bx bn : Nat) (p : Option Addr) (a : Addr) (w : World) (l : List (BitVec 8)) (k : Nat) (n : Nat)
    (hn : xs.length = n) (hxs : ∀ x ∈ xs, x.ok ∧ x.nrm) (hn30 : n ≤ 30) (hI : Its V0 px (xs.map It.raw)) (hx : V0.cell? ⟨bx, 0, none⟩ = some (.slice px n cx)) (hB0 : Below V0.heap.size V0 V) (hbn : V0.heap.size ≤ bn) (hbV : bn < V.heap.size)
    (hc : V.cell? ⟨bn, 0, none⟩ = some (.int .i64 0)) (hf : V.frozen? ⟨bn, 0, none⟩ = false) (hB1 : Below V.heap.size V w) (hR : Rd p V.heap.size w a l) (hp : ∀ c o, p = some ⟨c, o, none⟩ → c ≠ bn) (hl : l = (encL xs).take k) (hk : k < (encL xs).length) :
    Calls Try.prog 24 (#[.pointer (some a)] ++ #[.pointer (some ⟨bx, 0, none⟩), .pointer (some ⟨bn, 0, none⟩)]) w fun e w' => (Thrown (Thr a) 6 e w' ∧ ∃ j : Nat, j < n ∧ w'.cell? ⟨bn, 0, none⟩ = some (.int .i64 (j : Int)) ∧ Kp bn V w') ∧ Loc V.heap.size a.block w w' := by
  have HS := Lib.hid S
  have HXS := Lib.hid hxs
  have HN := Lib.hid hn
  have HP := Lib.hid hp
  have HI := Lib.hid hI
  have HF := Lib.hid (show w.frozen? ⟨bn, 0, none⟩ = false from by rw [hB1.frozen hbV]; exact hf)
  have hlie := S.lie _ _ _ _ _ hR
  have hcx : w.cell? ⟨bx, 0, none⟩ = some (.slice px n cx) := by
    have hb := World.block_lt_of_cell? V0 _ hx
    rw [hB1.cell (Nat.lt_of_lt_of_le hb hB0.size), hB0.cell hb]
    exact hx
  have HB0 := Lib.hid hB0
  have HK0 := Lib.hid (show Kp bn V w from Kp.ofBelow hB1)
  have HR := Lib.hid hR
  have HC := Lib.hid (show w.cell? ⟨bn, 0, none⟩ = some (.int .i64 ((0 : Nat) : Int)) from by rw [hB1.cell hbV]; exact hc)
  have HL := Lib.hid (show ∃ k', l = (encL (xs.drop 0)).take k' ∧ k' < (encL (xs.drop 0)).length from ⟨k, by rw [List.drop_zero]; exact ⟨hl, hk⟩⟩)
  clear S hxs hn hp hI hf hx hB0 hR hB1 hc hl hk
  show Calls Try.prog _ #[.pointer (some a), .pointer (some ⟨bx, 0, none⟩), .pointer (some ⟨bn, 0, none⟩)] w _
  go_enter Try.func24, Try.ntmps24
  go_wp2
  clear hcx
  go_loopw [8] (fun vi wr => ∃ (i : Nat) (li : List (BitVec 8)), i ≤ n ∧ vi = .int .i64 i ∧ wr.cell? ⟨bn, 0, none⟩ = some (.int .i64 (i : Int)) ∧ wr.frozen? ⟨bn, 0, none⟩ = false ∧ Kp bn V wr ∧ Loc V.heap.size a.block w wr ∧ Rd p V.heap.size wr a li ∧ ∃ k', li = (encL (xs.drop i)).take k' ∧ k' < (encL (xs.drop i)).length) (fun vi _ => n - (intOf vi).toNat)
  case atStart => exact ⟨0, l, Nat.zero_le _, rfl, HC.out, HF.out, HK0.out, Loc.refl _ _ _, HR.out, HL.out⟩
  case round =>
    obtain ⟨i, li, hin, rfl, hcn, hfn, hK, hLo, hRi, k', hli, hk'⟩ := hrel
    have hlt : i < n := by
      rcases Nat.lt_or_ge i n with h | h
      · exact h
      · rw [List.drop_of_length_le (by rw [HN.out]; exact h)] at hk'
        exact absurd hk' (Nat.not_lt_zero _)
    have hltz : (i : Int) < (n : Int) := by omega
    have hld : decide ((i : Int) < (n : Int)) = true := decide_eq_true hltz
    have hix : i < xs.length := by rw [HN.out]; exact hlt
    have hIr := (HI.out.of_below (HB0.out.trans (hK.below hbn HB0.out.size))) i (by simpa using hix)
    rw [raw_get xs i hix] at hIr
    obtain ⟨c, o, rfl, hcl, q, cp, e0, e1, e2, hbt⟩ := hIr
    have hmem : xs.getD i it0 ∈ xs := by
      rw [List.getD_eq_getElem?_getD, List.getElem?_eq_getElem hix]
      exact List.getElem_mem hix
    have HXO := Lib.hid (HXS.out _ hmem)
    have HED := Lib.hid (encL_drop xs i hix)
    obtain ⟨x, hxx⟩ : ∃ x, xs.getD i it0 = x := ⟨_, rfl⟩
    rw [hxx] at e0 e1 e2 hbt HXO HED
    obtain ⟨xk, xn, xb⟩ := x
    change wr.cell? ⟨c, o + i * 3, none⟩ = some (.int .i64 (xk : Int)) at e0
    change wr.cell? ⟨c, o + i * 3 + 1, none⟩ = some (.int .i64 (xn : Int)) at e1
    change wr.cell? ⟨c, o + i * 3 + 2, none⟩ = some (.slice q xb.length cp) at e2
    obtain ⟨len, hlen⟩ : ∃ len, xb.length = len := ⟨_, rfl⟩
    rw [hlen] at e2
    have hU : Below wr.heap.size wr (wr.alloc (.cells #[.int .i64 (xk : Int), .int .i64 (xn : Int), .slice q len cp] 29)) := (Below.refl _ _).alloc (Nat.le_refl _) _
    have hRu := HS.out.keep hRi hU
    have HNX := Lib.hid (next_any HS.out p V.heap.size _ a li xk HXO.out.1.1 9223372036854775807 hRu)
    have HLU := Lib.hid (hLo.trans (Loc.ofBelow hU))
    have HKU := Lib.hid (hK.alloc (.cells #[.int .i64 (xk : Int), .int .i64 (xn : Int), .slice q len cp] 29))
    have HCN := Lib.hid (show (wr.alloc (.cells #[.int .i64 (xk : Int), .int .i64 (xn : Int), .slice q len cp] 29)).cell? ⟨bn, 0, none⟩ = some (.int .i64 (i : Int)) from by rw [hU.cell (by exact World.block_lt_of_cell? wr _ hcn)]; exact hcn)
    have HFZ := Lib.hid (show (wr.alloc (.cells #[.int .i64 (xk : Int), .int .i64 (xn : Int), .slice q len cp] 29)).frozen? ⟨bn, 0, none⟩ = false from by rw [hU.frozen (by exact World.block_lt_of_cell? wr _ hcn)]; exact hfn)
    have HFN := Lib.hid (show (wr.alloc (.cells #[.int .i64 (xk : Int), .int .i64 (xn : Int), .slice q len cp] 29)).heap.size = wr.heap.size + 1 from by rw [World.size_alloc])
    have HLI := Lib.hid hli
    have HK' := Lib.hid hk'
    have hsz := hK.size
    clear hbt hU hRu hRi hK hLo hcn hfn hli hk' HC HF HR HL hmem hxx hlen
    go_wp2_with fail
    refine HNX.out.mono ?_
    rintro e w2 ⟨hK2, h | h⟩
    · obtain ⟨hc0, ⟨q2, c2, rfl, hFr⟩, hR2⟩ := h
      by_cases hcut : k' < (It.mk xk xn xb).put.length
      · exfalso
        rw [HLI.out, HED.out, List.take_append_of_le_length (by omega), nextI_cut HXO.out.1 hcut] at hc0
        cases hc0
      · have hli2 : li = (It.mk xk xn xb).put ++ (encL (xs.drop (i + 1))).take (k' - (It.mk xk xn xb).put.length) := by
          rw [HLI.out, HED.out, List.take_append, List.take_of_length_le (by omega)]
        have hnx : nextI li xk 9223372036854775807 = ((It.mk xk xn xb), (It.mk xk xn xb).put.length, 0) := by
          rw [hli2]; exact nextI_put HXO.out.1 HXO.out.2 _
        rw [hnx] at hR2
        dsimp only at hR2
        rw [hli2, List.drop_left] at hR2
        have hab := hlie.1
        have hK3 := HKU.out.thenNew hK2 hab
        have hcn2 : w2.cell? ⟨bn, 0, none⟩ = some (.int .i64 (i : Int)) := by
          rw [hK2.cell (by exact World.block_lt_of_cell? _ _ HCN.out) (by show bn ≠ a.block; omega)]
          exact HCN.out
        have hfn2 : w2.frozen? ⟨bn, 0, none⟩ = false := by
          rw [hK2.frozen (by exact World.block_lt_of_cell? _ _ HCN.out) (by show bn ≠ a.block; omega)]
          exact HFZ.out
        have HC2 := Lib.hid hcn2
        have HF2 := Lib.hid hfn2
        have HR2 := Lib.hid hR2
        have HK3 := Lib.hid hK3
        have HLO3 := Lib.hid (HLU.out.trans (Loc.ofKp hK2))
        have HKL := Lib.hid (show k' - (It.mk xk xn xb).put.length < (encL (xs.drop (i + 1))).length from by
          have h1 := HK'.out
          rw [HED.out, List.length_append] at h1
          omega)
        clear hR2 hK3 hK2 hFr hc0 hli2 hnx HNX HKU HCN HLI HK' e0 e1 e2
        generalize It.v _ _ _ = vv at *
        go_wp2
        exact ⟨⟨i + 1, _, by omega, by go_num, (World.cell?_setCell_same _ _ _ HC2.out).trans (by first | rfl | go_num), by rw [World.frozen?_setCell]; exact HF2.out, HK3.out.setCell _ _, HLO3.out.trans (Loc.low w2 hbV 0 _), HS.out.far HR2.out (by omega) (fun _ => HP.out) _ _, _, rfl, HKL.out⟩, by simp [intOf]; omega⟩
    · obtain ⟨hc0, v, hv, rfl⟩ := h
      have hcut : k' < (It.mk xk xn xb).put.length := by
        rcases Nat.lt_or_ge k' (It.mk xk xn xb).put.length with h | h
        · exact h
        · exfalso
          have hli2 : li = (It.mk xk xn xb).put ++ (encL (xs.drop (i + 1))).take (k' - (It.mk xk xn xb).put.length) := by
            rw [HLI.out, HED.out, List.take_append, List.take_of_length_le (by omega)]
          rw [hli2, show nextI _ xk _ = _ from nextI_put HXO.out.1 HXO.out.2 _] at hc0
          exact hc0 rfl
      have h6 : (nextI li xk 9223372036854775807).2.2 = 6 := by
        rw [HLI.out, HED.out, List.take_append_of_le_length (by omega)]
        exact nextI_cut HXO.out.1 hcut
      rw [h6] at hv
      have hab := hlie.1
      refine ⟨rfl, ⟨⟨v, hv, rfl⟩, i, hlt, ?_, HKU.out.thenNew hK2 hab⟩, HLU.out.trans (Loc.ofKp hK2)⟩
      rw [hK2.cell (by exact World.block_lt_of_cell? _ _ HCN.out) (by show bn ≠ a.block; omega)]
      exact HCN.out
end
end Go.Proofs.Ytgmogbgkokofoaa
