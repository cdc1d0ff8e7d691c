/- The reading of items of any bytes. -/
import Derived.Test.YtgmogbgkokofoaaCutsL6
import Derived.Test.YtgmogbgkokofoaaAny6
set_option linter.unusedSimpArgs false
set_option linter.unusedVariables false
namespace Go.Proofs.Ytgmogbgkokofoaa
open Go Go.RowKit

/-- A byte turned round. -/
def flip8 (v : Int) : Int := bits .xor .u8 v 255
theorem bx255 (t : TypeId) (v : Int) : binOp .xor t (.int .u8 v) (.int .u8 255) = pure (.int .u8 (flip8 v)) := by
  simp only [binOp_xor, intBits_xor, flip8]
attribute [irreducible] flip8
attribute [local go_sem ↓] bx255
/-- The block in which bytes lie that may be written. -/
theorem Fresh.blk {w w' : World} {base : Nat} {q : Option Addr} {c : Nat} {b : List (BitVec 8)} (h : Fresh w base q c b) (X : Nat) (hX : base ≤ w.heap.size) (hx : w.heap.size = X) (hk : ∀ d, base ≤ d → d < w.heap.size → w'.heap[d]? = w.heap[d]?) :
    ∃ dd o : Nat, base ≤ dd ∧ dd ≠ X ∧ (0 < b.length → q = some ⟨dd, o, none⟩) ∧ ∀ j, j < b.length → (∃ v : Int, w'.cell? ⟨dd, o + j, none⟩ = some (.int .u8 v)) ∧ w'.frozen? ⟨dd, o + j, none⟩ = false := by
  by_cases hl : 0 < b.length
  · obtain ⟨d, o, e, -⟩ := h.sl 0 hl
    have hn := h.new hl d o e
    have hd := hk d hn.1 hn.2
    refine ⟨d, o, hn.1, by omega, fun _ => e, fun j hj => ⟨?_, by rw [World.frozen?_of_block (w := w) hd]; exact h.free j hj d o e⟩⟩
    obtain ⟨d', o', e', hx'⟩ := h.sl j hj
    rw [e] at e'
    injection e' with e'
    injection e' with e1 e2
    subst e1 e2
    exact ⟨_, by rw [World.cell?_of_block (w := w) hd, hx', B_eq']⟩
  · exact ⟨X + 1, 0, by omega, by omega, fun h => absurd h hl, fun j hj => by omega⟩
section
variable {Rd : Option Addr → Nat → World → Addr → List (BitVec 8) → Prop} {Thr : Addr → Nat → World → Value → Prop} (S : RdSpec Rd Thr)
include S
set_option maxRecDepth 100000 in
set_option maxHeartbeats 8000000 in
theorem anys_in (V0 V : World) (W : List It) (pw pk p : Option Addr) (cw ck m nW M bk bm bw : Nat) (most : Int) (kb b R : List (BitVec 8)) (C : Nat) (a : Addr) (w : World)
    (hM : V0.heap.size = M) (hB0 : Below M V0 V) (hVz : M + 1 + 1 ≤ V.heap.size) (hbk : V0.cell? ⟨bk, 0, none⟩ = some (.slice pk m ck)) (hkb : kb.length = m) (hSk : Sl V0 pk kb) (hbm : V0.cell? ⟨bm, 0, none⟩ = some (.int .i64 most))
    (hbw : V0.cell? ⟨bw, 0, none⟩ = some (.slice pw nW cw)) (hW : W.length = nW) (hIW : Its V0 pw (W.map It.raw)) (hcn : V.cell? ⟨M, 0, none⟩ = some (.int .i64 0)) (hfn : V.frozen? ⟨M, 0, none⟩ = false) (hco : V.cell? ⟨M + 1, 0, none⟩ = some (.bool true)) (hfo : V.frozen? ⟨M + 1, 0, none⟩ = false)
    (hB1 : Below V.heap.size V w) (hR : Rd p V.heap.size w a b) (hp : ∀ c o, p = some ⟨c, o, none⟩ → c < M ∨ V.heap.size ≤ c) (hany : anyL most b (kb.map fun x => x.toNat % 6) = (W, R, C)) (hm : m ≤ 60) (hb300 : b.length ≤ 300) :
    Calls Try.prog 19 (#[.pointer (some a)] ++ #[.pointer (some ⟨bk, 0, none⟩), .pointer (some ⟨bm, 0, none⟩), .pointer (some ⟨M + 1, 0, none⟩), .pointer (some ⟨M, 0, none⟩), .pointer (some ⟨bw, 0, none⟩)]) w fun e w' =>
      ((C ≠ 0 ∧ Thrown (Thr a) C e w') ∨ (C = 0 ∧ e = .returned (.tuple #[]) ∧ Rd p V.heap.size w' a R)) ∧ w'.cell? ⟨M, 0, none⟩ = some (.int .i64 (nW : Int)) ∧ w'.cell? ⟨M + 1, 0, none⟩ = some (.bool true) ∧ Below M V w' ∧ Loc V.heap.size a.block w w' := by
  have HS := Lib.hid S
  have HM := Lib.hid hM
  have HKB := Lib.hid hkb
  have HSK := Lib.hid hSk
  have HIW := Lib.hid hIW
  have HWL := Lib.hid hW
  have HP := Lib.hid hp
  have HANY := Lib.hid hany
  have hlie := S.lie _ _ _ _ _ hR
  have hVw : V.heap.size ≤ w.heap.size := hB1.size
  have HB0 := Lib.hid hB0
  have lt0 : ∀ k v, V0.cell? ⟨k, 0, none⟩ = some v → k < M := fun k v h => by rw [← hM]; exact World.block_lt_of_cell? V0 _ h
  have hbkM := lt0 _ _ hbk
  have hbmM := lt0 _ _ hbm
  have hbwM := lt0 _ _ hbw
  have hBM : Below M V w := hB1.mono (by omega)
  have HBM := Lib.hid hBM
  have HK := Lib.hid hbk
  have HMo := Lib.hid hbm
  have HWc := Lib.hid hbw
  have HRR := Lib.hid hR
  have HN1 := Lib.hid (show w.cell? ⟨M, 0, none⟩ = some (.int .i64 ((0 : Nat) : Int)) from by rw [hB1.cell (by show M < _; omega)]; exact hcn)
  have HN2 := Lib.hid (show w.frozen? ⟨M, 0, none⟩ = false from by rw [hB1.frozen (by show M < _; omega)]; exact hfn)
  have HO1 := Lib.hid (show w.cell? ⟨M + 1, 0, none⟩ = some (.bool true) from by rw [hB1.cell (by show M + 1 < _; omega)]; exact hco)
  have HO2 := Lib.hid (show w.frozen? ⟨M + 1, 0, none⟩ = false from by rw [hB1.frozen (by show M + 1 < _; omega)]; exact hfo)
  have hck : w.cell? ⟨bk, 0, none⟩ = some (.slice pk m ck) := by rw [hBM.cell (by exact hbkM), hB0.cell (by exact hbkM)]; exact hbk
  clear S hM hkb hSk hIW hp hany hB0 lt0 hbk hbm hbw hcn hfn hco hfo hB1 hR hBM hW
  show Calls Try.prog _ #[.pointer (some a), .pointer (some ⟨bk, 0, none⟩), .pointer (some ⟨bm, 0, none⟩), .pointer (some ⟨M + 1, 0, none⟩), .pointer (some ⟨M, 0, none⟩), .pointer (some ⟨bw, 0, none⟩)] w _
  go_enter Try.func19, Try.ntmps19
  go_wp2
  clear hck
  go_loopw [13] (fun vi wr => ∃ (i : Nat) (Wi : List It) (li : List (BitVec 8)), i ≤ m ∧ vi = .int .i64 i ∧ AnySt most b (kb.map fun x => x.toNat % 6) i Wi li ∧ Rd p V.heap.size wr a li ∧ wr.cell? ⟨M, 0, none⟩ = some (.int .i64 (i : Int)) ∧ wr.frozen? ⟨M, 0, none⟩ = false ∧ wr.cell? ⟨M + 1, 0, none⟩ = some (.bool true) ∧ wr.frozen? ⟨M + 1, 0, none⟩ = false ∧ Below M V wr ∧ Loc V.heap.size a.block w wr) (fun vi _ => m - (intOf vi).toNat)
  case atStart => exact ⟨0, [], b, Nat.zero_le _, rfl, AnySt.zero _ _ _, HRR.out, HN1.out, HN2.out, HO1.out, HO2.out, HBM.out, Loc.refl _ _ _⟩
  case round =>
    obtain ⟨i, Wi, li, him, rfl, hSt, hRi, hcn, hfn, hco, hfo, hB, hLo⟩ := hrel
    have HST := Lib.hid hSt
    have HRI := Lib.hid hRi
    have HLO := Lib.hid hLo
    clear hLo
    have hVr : V.heap.size ≤ wr.heap.size := hB.size
    have hKL : (kb.map fun x => x.toNat % 6).length = m := by rw [List.length_map, HKB.out]
    by_cases hlt : i < m
    · have hltz : (i : Int) < (m : Int) := by omega
      have hld : decide ((i : Int) < (m : Int)) = true := decide_eq_true hltz
      obtain ⟨c0, o0, rfl, hx⟩ := HSK.out i (by rw [HKB.out]; exact hlt)
      rw [B_eq'] at hx
      have hkd : (kb.map fun x => x.toNat % 6).getD i 0 = (kb.getD i 0#8).toNat % 6 := by
        simp [List.getD_eq_getElem?_getD, show i < kb.length by rw [HKB.out]; exact hlt]
      have hcl := (kb.getD i 0#8).isLt
      obtain ⟨c, hc⟩ : ∃ c, (kb.getD i 0#8).toNat = c := ⟨_, rfl⟩
      rw [hc] at hx hkd hcl
      obtain ⟨K, hK⟩ : ∃ K, K = c % 6 := ⟨_, rfl⟩
      rw [← hK] at hkd
      have k1 : (c : Int) % 6 = (K : Int) := by omega
      have k2 : (c : Int).tmod 6 = (K : Int) := by rw [Int.tmod_eq_emod_of_nonneg (by omega)]; exact k1
      have k3 : IntKind.u8.wrap (K : Int) = (K : Int) := by rw [IntKind.wrap_u8']; omega
      have k4 : IntKind.i64.wrap (K : Int) = (K : Int) := i64w _ (by omega) (by omega)
      have hK6 : K < 6 := by omega
      have hc0M : c0 < M := by rw [← HM.out]; exact World.block_lt_of_cell? V0 _ hx
      have hxr : wr.cell? ⟨c0, o0 + i, none⟩ = some (.int .u8 (c : Int)) := by rw [hB.cell (by exact hc0M), HB0.out.cell (by exact hc0M)]; exact hx
      have hmo : wr.cell? ⟨bm, 0, none⟩ = some (.int .i64 most) := by rw [hB.cell (by exact hbmM), HB0.out.cell (by exact hbmM)]; exact HMo.out
      have HNX := Lib.hid (next_any HS.out p V.heap.size wr a li K hK6 most hRi)
      have hKlt : i < (kb.map fun x => x.toNat % 6).length := by rw [hKL]; exact hlt
      have hST1 := hSt.next hKlt
      have hSTb := hSt.bad hKlt
      have hSTi := hSt.item hKlt
      rw [hkd] at hST1 hSTb hSTi
      rw [HANY.out] at hSTi hSTb
      dsimp only at hSTi
      have HST1 := Lib.hid hST1
      have HSTb := Lib.hid hSTb
      have HSTi := Lib.hid hSTi
      have HC1 := Lib.hid (And.intro hcn (And.intro hfn (And.intro hco hfo)))
      have HB := Lib.hid hB
      clear hSt hRi hx hkd hc hK hST1 hSTb hSTi hKL hKlt hcn hfn hco hfo hB hcl hc0M
      go_wp2_with fail
      refine HNX.out.mono ?_
      rintro e w2 ⟨hK2, h | h⟩
      · obtain ⟨hc0, ⟨q, c2, rfl, hFr⟩, hR2⟩ := h
        have hbl := Nat.le_trans (nextI_blen li K most) (Nat.le_trans HST.out.short hb300)
        generalize nextI li K most = nx at *
        obtain ⟨⟨xk, xn, xb⟩, used, code⟩ := nx
        dsimp only at hc0 hFr hR2 hbl
        subst hc0
        have hST1 := HST1.out rfl
        have hSTi := HSTi.out rfl
        dsimp only at hST1 hSTi
        have HST2 := Lib.hid hST1
        have hlr := HS.out.lie _ _ _ _ _ HRI.out
        have hC := HC1.out
        have hB2 : Below M V w2 := HB.out.trans (hK2.below (by omega) (by omega))
        have hcn : w2.cell? ⟨M, 0, none⟩ = some (.int .i64 (i : Int)) := by rw [hK2.cell (by exact World.block_lt_of_cell? wr _ hC.1) (by show M ≠ a.block; omega)]; exact hC.1
        have hfn : w2.frozen? ⟨M, 0, none⟩ = false := by rw [hK2.frozen (by exact World.block_lt_of_cell? wr _ hC.1) (by show M ≠ a.block; omega)]; exact hC.2.1
        have hco : w2.cell? ⟨M + 1, 0, none⟩ = some (.bool true) := by rw [hK2.cell (by exact World.block_lt_of_cell? wr _ hC.2.2.1) (by show M + 1 ≠ a.block; omega)]; exact hC.2.2.1
        have hfo : w2.frozen? ⟨M + 1, 0, none⟩ = false := by rw [hK2.frozen (by exact World.block_lt_of_cell? wr _ hC.2.2.1) (by show M + 1 ≠ a.block; omega)]; exact hC.2.2.2
        have hbw2 : w2.cell? ⟨bw, 0, none⟩ = some (.slice pw nW cw) := by rw [hB2.cell (by exact hbwM), HB0.out.cell (by exact hbwM)]; exact HWc.out
        have hBV0 : Below V0.heap.size V0 w2 := by rw [HM.out]; exact HB0.out.trans hB2
        obtain ⟨hiW, hWi⟩ := hSTi
        have hIr := (HIW.out.of_below hBV0) i (by rw [List.length_map]; exact hiW)
        rw [raw_get W i hiW, show W.getD i it0 = ⟨xk, xn, xb⟩ from hWi] at hIr
        obtain ⟨c1, o1, hpw, hc1, q1, cp1, f0, f1, f2, hbt1⟩ := hIr
        change w2.cell? ⟨c1, o1 + i * 3, none⟩ = some (.int .i64 (xk : Int)) at f0
        change w2.cell? ⟨c1, o1 + i * 3 + 1, none⟩ = some (.int .i64 (xn : Int)) at f1
        change w2.cell? ⟨c1, o1 + i * 3 + 2, none⟩ = some (.slice q1 xb.length cp1) at f2
        have hinW : i < nW := by rw [← HWL.out]; exact hiW
        have hc1M : c1 < M := by
          obtain ⟨c', o', e', h', -⟩ := HIW.out i (by rw [List.length_map]; exact hiW)
          rw [hpw] at e'
          injection e' with e'
          injection e' with e1 e2
          rw [HM.out] at h'
          omega
        subst hpw
        have hVz2 : V.heap.size ≤ w2.heap.size := hB2.size
        have HLO2 := Lib.hid (HLO.out.trans (Loc.ofKp hK2))
        have HLS := Lib.hid HLO.out.size
        have hlw : wr.heap.size ≤ w2.heap.size := hK2.size
        have HR2 := Lib.hid hR2
        have HF2 := Lib.hid hFr
        have HB2 := Lib.hid hB2
        have HX2 := Lib.hid (Fresh.bt hFr xk xn)
        have HBT1 := Lib.hid hbt1
        obtain ⟨len, hlen⟩ : ∃ len, xb.length = len := ⟨_, rfl⟩
        have HLEN := Lib.hid hlen
        have HSAME := Lib.hid (same_any ⟨xk, xn, xb⟩ q q1 c2 cp1)
        rw [hlen] at f2 hbl
        clear hK2 hST1 HST1 HSTb HSTi hWi hBV0 hbt1 hFr hR2 hB2 hC HC1 HNX k1 k2 k3 k4 hxr hmo hlen hld hltz
        rw [show (It.mk xk xn xb).v q c2 = .agg #[.int .i64 (xk : Int), .int .i64 (xn : Int), .slice q len c2] from by rw [← HLEN.out]; rfl]
        have hU : Below w2.heap.size w2 (w2.alloc (.cells #[.int .i64 (xk : Int), .int .i64 (xn : Int), .slice q len c2] 29)) := (Below.refl _ _).alloc (Nat.le_refl _) _
        have x0 : (w2.alloc (.cells #[.int .i64 (xk : Int), .int .i64 (xn : Int), .slice q len c2] 29)).cell? ⟨w2.heap.size, 0, none⟩ = some (.int .i64 (xk : Int)) := by go_simp
        have x1 : (w2.alloc (.cells #[.int .i64 (xk : Int), .int .i64 (xn : Int), .slice q len c2] 29)).cell? ⟨w2.heap.size, 1, none⟩ = some (.int .i64 (xn : Int)) := by go_simp
        have x2 : (w2.alloc (.cells #[.int .i64 (xk : Int), .int .i64 (xn : Int), .slice q len c2] 29)).cell? ⟨w2.heap.size, 2, none⟩ = some (.slice q len c2) := by go_simp
        have hzU : (w2.alloc (.cells #[.int .i64 (xk : Int), .int .i64 (xn : Int), .slice q len c2] 29)).heap.size = w2.heap.size + 1 := by rw [World.size_alloc]
        have HU := Lib.hid hU
        have HXC := Lib.hid (And.intro x0 (And.intro x1 x2))
        have HZU := Lib.hid hzU
        have HC2 := Lib.hid (And.intro hcn (And.intro hfn (And.intro hco (And.intro hfo (And.intro hbw2 (And.intro f0 (And.intro f1 f2)))))))
        clear hU x0 x1 x2 hzU hcn hfn hco hfo hbw2 f0 f1 f2
        go_wp2_with fail
        generalize (w2.alloc (.cells #[.int .i64 (xk : Int), .int .i64 (xn : Int), .slice q len c2] 29)) = u at *
        obtain ⟨X, hX⟩ : ∃ X, w2.heap.size = X := ⟨_, rfl⟩
        rw [hX] at HXC HZU HU ⊢
        have HX := Lib.hid hX
        have HPOST := Lib.hid (show ∀ w3 : World, Below u.drew.heap.size u.drew w3 → (w3.cell? ⟨M + 1, 0, none⟩ = some (.bool true) ∧ w3.cell? ⟨M, 0, none⟩ = some (.int .i64 (i : Int)) ∧ w3.cell? ⟨bw, 0, none⟩ = some (.slice (some ⟨c1, o1, none⟩) nW cw) ∧ w3.cell? ⟨X, 0, none⟩ = some (.int .i64 (xk : Int)) ∧ w3.cell? ⟨X, 1, none⟩ = some (.int .i64 (xn : Int)) ∧ w3.cell? ⟨X, 2, none⟩ = some (.slice q len c2) ∧ w3.cell? ⟨c1, o1 + i * 3, none⟩ = some (.int .i64 (xk : Int)) ∧ w3.cell? ⟨c1, o1 + i * 3 + 1, none⟩ = some (.int .i64 (xn : Int)) ∧ w3.cell? ⟨c1, o1 + i * 3 + 2, none⟩ = some (.slice q1 len cp1)) ∧ w3.frozen? ⟨M + 1, 0, none⟩ = false ∧ w3.frozen? ⟨M, 0, none⟩ = false from fun w3 h3 => by
          have hb : Below X u w3 := ((Below.refl X u).drew).trans (h3.mono (by show X ≤ u.heap.size; rw [HZU.out]; omega))
          have hbw : Below w2.heap.size w2 w3 := by rw [HX.out]; exact (by have := HU.out; exact this.trans hb)
          have h2 := HC2.out
          have hz := HZU.out
          have hXX := HX.out
          have g : ∀ k o v, w2.cell? ⟨k, o, none⟩ = some v → w3.cell? ⟨k, o, none⟩ = some v := fun k o v h => by rw [hbw.cell (by exact World.block_lt_of_cell? w2 _ h)]; exact h
          have gx : ∀ o v, u.cell? ⟨X, o, none⟩ = some v → w3.cell? ⟨X, o, none⟩ = some v := fun o v h => by
            have hd : u.drew.cell? ⟨X, o, none⟩ = some v := h
            rw [h3.cell (by show X < u.heap.size; omega)]; exact hd
          exact ⟨⟨g _ _ _ h2.2.2.1, g _ _ _ h2.1, g _ _ _ h2.2.2.2.2.1, gx _ _ HXC.out.1, gx _ _ HXC.out.2.1, gx _ _ HXC.out.2.2, g _ _ _ h2.2.2.2.2.2.1, g _ _ _ h2.2.2.2.2.2.2.1, g _ _ _ h2.2.2.2.2.2.2.2⟩, by rw [hbw.frozen (by exact World.block_lt_of_cell? w2 _ h2.2.2.1)]; exact h2.2.2.2.1, by rw [hbw.frozen (by exact World.block_lt_of_cell? w2 _ h2.1)]; exact h2.2.1⟩)
        have HPS := Lib.hid (show ∀ w3 : World, (w3.cell? ⟨M + 1, 0, none⟩ = some (.bool true) ∧ w3.cell? ⟨M, 0, none⟩ = some (.int .i64 (i : Int)) ∧ w3.cell? ⟨bw, 0, none⟩ = some (.slice (some ⟨c1, o1, none⟩) nW cw) ∧ w3.cell? ⟨X, 0, none⟩ = some (.int .i64 (xk : Int)) ∧ w3.cell? ⟨X, 1, none⟩ = some (.int .i64 (xn : Int)) ∧ w3.cell? ⟨X, 2, none⟩ = some (.slice q len c2) ∧ w3.cell? ⟨c1, o1 + i * 3, none⟩ = some (.int .i64 (xk : Int)) ∧ w3.cell? ⟨c1, o1 + i * 3 + 1, none⟩ = some (.int .i64 (xn : Int)) ∧ w3.cell? ⟨c1, o1 + i * 3 + 2, none⟩ = some (.slice q1 len cp1)) → ((w3.setCell ⟨M + 1, 0, none⟩ (.bool true)).cell? ⟨M + 1, 0, none⟩ = some (.bool true) ∧ (w3.setCell ⟨M + 1, 0, none⟩ (.bool true)).cell? ⟨M, 0, none⟩ = some (.int .i64 (i : Int)) ∧ (w3.setCell ⟨M + 1, 0, none⟩ (.bool true)).cell? ⟨bw, 0, none⟩ = some (.slice (some ⟨c1, o1, none⟩) nW cw) ∧ (w3.setCell ⟨M + 1, 0, none⟩ (.bool true)).cell? ⟨X, 0, none⟩ = some (.int .i64 (xk : Int)) ∧ (w3.setCell ⟨M + 1, 0, none⟩ (.bool true)).cell? ⟨X, 1, none⟩ = some (.int .i64 (xn : Int)) ∧ (w3.setCell ⟨M + 1, 0, none⟩ (.bool true)).cell? ⟨X, 2, none⟩ = some (.slice q len c2) ∧ (w3.setCell ⟨M + 1, 0, none⟩ (.bool true)).cell? ⟨c1, o1 + i * 3, none⟩ = some (.int .i64 (xk : Int)) ∧ (w3.setCell ⟨M + 1, 0, none⟩ (.bool true)).cell? ⟨c1, o1 + i * 3 + 1, none⟩ = some (.int .i64 (xn : Int)) ∧ (w3.setCell ⟨M + 1, 0, none⟩ (.bool true)).cell? ⟨c1, o1 + i * 3 + 2, none⟩ = some (.slice q1 len cp1)) from fun w3 ⟨s1, s2, s3, s4, s5, s6, s7, s8, s9⟩ => by
          have hXb : M + 1 ≠ X := by have := HX.out; omega
          have g : ∀ k o v, k ≠ M + 1 → w3.cell? ⟨k, o, none⟩ = some v → (w3.setCell ⟨M + 1, 0, none⟩ (.bool true)).cell? ⟨k, o, none⟩ = some v := fun k o v hne h => by rw [World.cell?_setCell_far _ _ _ _ (show M + 1 ≠ k from Ne.symm hne)]; exact h
          exact ⟨World.cell?_setCell_same _ _ _ s1, g _ _ _ (by omega) s2, g _ _ _ (by omega) s3, g _ _ _ (Ne.symm hXb) s4, g _ _ _ (Ne.symm hXb) s5, g _ _ _ (Ne.symm hXb) s6, g _ _ _ (by omega) s7, g _ _ _ (by omega) s8, g _ _ _ (by omega) s9⟩)
        have HS0 := Lib.hid (HPOST.out u.drew (Below.refl _ _)).1
        have HSMC := Lib.hid (show Calls Try.prog 16 #[.agg #[.int .i64 (xk : Int), .int .i64 (xn : Int), .slice q len c2], .agg #[.int .i64 (xk : Int), .int .i64 (xn : Int), .slice q1 len cp1]] u.drew fun e w' => e = .returned (.bool true) ∧ Below u.drew.heap.size u.drew w' from by
          have hb : Below w2.heap.size w2 u.drew := by rw [HX.out]; exact HU.out.drew
          have h := HSAME.out u.drew ((HX2.out.of_below hb).sl) ((HBT1.out.of_below hb).sl) HX2.out.nil HBT1.out.nil
          rw [← HLEN.out]
          exact h)
        obtain ⟨s1, s2, s3, s4, s5, s6, s7, s8, s9⟩ := HS0.out
        have g1 : decide ((i : Int) < (nW : Int)) = true := decide_eq_true (by omega)
        have g2 : (i : Int) < (nW : Int) := by omega
        have g3 : (0 : Int) ≤ (i : Int) := by omega
        clear hX HSAME
        go_region_held3 (fun w' : World => w'.cell? ⟨M + 1, 0, none⟩ = some (.bool true) ∧ w'.cell? ⟨M, 0, none⟩ = some (.int .i64 (i : Int)) ∧ w'.cell? ⟨bw, 0, none⟩ = some (.slice (some ⟨c1, o1, none⟩) nW cw) ∧ w'.cell? ⟨X, 0, none⟩ = some (.int .i64 (xk : Int)) ∧ w'.cell? ⟨X, 1, none⟩ = some (.int .i64 (xn : Int)) ∧ w'.cell? ⟨X, 2, none⟩ = some (.slice q len c2) ∧ w'.cell? ⟨c1, o1 + i * 3, none⟩ = some (.int .i64 (xk : Int)) ∧ w'.cell? ⟨c1, o1 + i * 3 + 1, none⟩ = some (.int .i64 (xn : Int)) ∧ w'.cell? ⟨c1, o1 + i * 3 + 2, none⟩ = some (.slice q1 len cp1)) (first | go_keep | exact ⟨s1, s2, s3, s4, s5, s6, s7, s8, s9⟩ | exact hsafter) ((first | (go_at_call 16; refine HSMC.out.mono ?_; rintro e w3 ⟨rfl, hB3⟩; obtain ⟨⟨t1, t2, t3, t4, t5, t6, t7, t8, t9⟩, tf, tn⟩ := HPOST.out w3 hB3; have hsafter := HPS.out w3 ⟨t1, t2, t3, t4, t5, t6, t7, t8, t9⟩)))
        obtain ⟨a1, a2, a3, a4, a5, a6, a7, a8, a9⟩ := hsafter
        have HBU3 := Lib.hid (show Below X u w3 from ((Below.refl X u).drew).trans (hB3.mono (by show X ≤ u.heap.size; rw [HZU.out]; omega)))
        have n4 : (w3.setCell ⟨M + 1, 0, none⟩ (.bool true)).frozen? ⟨M, 0, none⟩ = false := by rw [World.frozen?_setCell]; exact tn
        have o4 : (w3.setCell ⟨M + 1, 0, none⟩ (.bool true)).frozen? ⟨M + 1, 0, none⟩ = false := by rw [World.frozen?_setCell]; exact tf
        have HXX := Lib.hid (show w2.heap.size = X from HX.out)
        have hXM : X ≠ M := by have := HXX.out; omega
        have b2 : ((w3.setCell ⟨M + 1, 0, none⟩ (.bool true)).setCell ⟨M, 0, none⟩ (.int .i64 ((i : Int) + 1))).cell? ⟨X, 2, none⟩ = some (.slice q len c2) := by rw [World.cell?_setCell_far _ _ _ _ (show M ≠ X from Ne.symm hXM)]; exact a6
        have HP5 := Lib.hid (show ∀ k, k ≠ M → k ≠ M + 1 → k < X → ((w3.setCell ⟨M + 1, 0, none⟩ (.bool true)).setCell ⟨M, 0, none⟩ (.int .i64 ((i : Int) + 1))).heap[k]? = w2.heap[k]? from fun k h1 h2 h3 => by
          rw [Below.heap_setCell _ _ _ _ (show k ≠ (⟨M, 0, none⟩ : Addr).block from h1), Below.heap_setCell _ _ _ _ (show k ≠ (⟨M + 1, 0, none⟩ : Addr).block from h2), HBU3.out.block k h3, HU.out.block k h3])
        have HZ5 := Lib.hid (show X ≤ ((w3.setCell ⟨M + 1, 0, none⟩ (.bool true)).setCell ⟨M, 0, none⟩ (.int .i64 ((i : Int) + 1))).heap.size from by
          have h1 := HBU3.out.size
          have h2 := HZU.out
          simp
          omega)
        have HC5 := Lib.hid (show ((w3.setCell ⟨M + 1, 0, none⟩ (.bool true)).setCell ⟨M, 0, none⟩ (.int .i64 ((i : Int) + 1))).cell? ⟨M, 0, none⟩ = some (.int .i64 ((i : Int) + 1)) ∧ ((w3.setCell ⟨M + 1, 0, none⟩ (.bool true)).setCell ⟨M, 0, none⟩ (.int .i64 ((i : Int) + 1))).frozen? ⟨M, 0, none⟩ = false ∧ ((w3.setCell ⟨M + 1, 0, none⟩ (.bool true)).setCell ⟨M, 0, none⟩ (.int .i64 ((i : Int) + 1))).cell? ⟨M + 1, 0, none⟩ = some (.bool true) ∧ ((w3.setCell ⟨M + 1, 0, none⟩ (.bool true)).setCell ⟨M, 0, none⟩ (.int .i64 ((i : Int) + 1))).frozen? ⟨M + 1, 0, none⟩ = false from
          ⟨World.cell?_setCell_same _ _ _ a2, by rw [World.frozen?_setCell]; exact n4, by rw [World.cell?_setCell_far _ _ _ _ (show M ≠ M + 1 by omega)]; exact a1, by rw [World.frozen?_setCell]; exact o4⟩)
        have HB5 := Lib.hid (show Below M V ((w3.setCell ⟨M + 1, 0, none⟩ (.bool true)).setCell ⟨M, 0, none⟩ (.int .i64 ((i : Int) + 1))) from by
          have h1 : Below M V w3 := HB2.out.trans ((HU.out.trans HBU3.out).mono (by have := HXX.out; omega))
          exact (h1.setCell (show M ≤ (⟨M + 1, 0, none⟩ : Addr).block from Nat.le_succ M) _).setCell (show M ≤ (⟨M, 0, none⟩ : Addr).block from Nat.le_refl M) _)
        have HLO5 := Lib.hid (show Loc V.heap.size a.block w ((w3.setCell ⟨M + 1, 0, none⟩ (.bool true)).setCell ⟨M, 0, none⟩ (.int .i64 ((i : Int) + 1))) from by
          have hx := HXX.out
          have h1 : Below w2.heap.size w2 w3 := by rw [hx]; exact HU.out.trans HBU3.out
          exact ((HLO2.out.trans (Loc.ofBelow h1)).trans (Loc.low w3 (by omega) 0 _)).trans (Loc.low _ (by omega) 0 _))
        clear t1 t2 t3 t4 t5 t6 t7 t8 t9 tf tn hB3 s1 s2 s3 s4 s5 s6 s7 s8 s9 HPOST HPS HS0 HSMC g1 g2 g3 HXC HC2 a1 a3 a4 a5 a7 a8 a9
        go_wp2
        generalize (w3.setCell ⟨M + 1, 0, none⟩ (.bool true)).setCell ⟨M, 0, none⟩ (.int .i64 ((i : Int) + 1)) = w5 at *
        have hab : a.block < wr.heap.size := hlr.2
        have hR5 : Rd p V.heap.size w5 a (li.drop used) := by
          have hx := HXX.out
          refine HS.out.stay _ _ _ _ _ _ HR2.out (by rw [hx]; exact HZ5.out) (HP5.out _ (by omega) (by omega) (by omega)) fun c o e hc => ?_
          have := HP.out c o e
          exact HP5.out c (by omega) (by omega) (by omega)
        obtain ⟨dd, od, hd1, hd2, hd3, hd4⟩ := HF2.out.blk (w' := w5) X hlw HXX.out (fun d h1 h2 => HP5.out d (by omega) (by omega) (by rw [← HXX.out]; exact h2))
        rw [HLEN.out] at hd3 hd4
        have hX5 : X < w5.heap.size := World.block_lt_of_cell? w5 _ b2
        have HR5 := Lib.hid hR5
        have HD3 := Lib.hid hd3
        have HD4 := Lib.hid hd4
        have HB2X := Lib.hid b2
        clear hR5 hd3 hd4 HR2 HF2 HB2 HX2 HBT1 HU HZU HBU3 HP5
        generalize wr.heap.size = Mr at *
        have hls := HLS.out
        go_loopw [43] (fun vj wz => ∃ j : Nat, j ≤ len ∧ vj = .int .i64 j ∧ Kp dd w5 wz ∧ ∀ j', j' < len → (∃ v : Int, wz.cell? ⟨dd, od + j', none⟩ = some (.int .u8 v)) ∧ wz.frozen? ⟨dd, od + j', none⟩ = false) (fun vj _ => len - (intOf vj).toNat)
        case atStart => exact ⟨0, Nat.zero_le _, rfl, Kp.refl _ _, HD4.out⟩
        case round =>
          obtain ⟨j, hjl, rfl, hKd, hcd⟩ := hrel
          by_cases hj : j < len
          · have hjz : (j : Int) < (len : Int) := by omega
            have hjd : decide ((j : Int) < (len : Int)) = true := decide_eq_true hjz
            obtain rfl := HD3.out (by omega)
            obtain ⟨⟨v, hv⟩, hvf⟩ := hcd j hj
            have hbx : wr.cell? ⟨X, 2, none⟩ = some (.slice (some ⟨dd, od, none⟩) len c2) := by rw [hKd.cell (by exact hX5) (by show X ≠ dd; exact Ne.symm hd2)]; exact HB2X.out
            have HKD := Lib.hid hKd
            have HCD := Lib.hid hcd
            have HJ := Lib.hid hj
            clear hKd hcd
            go_wp2
            have hj := HJ.out
            refine ⟨⟨j + 1, by omega, by go_num, HKD.out.setCell _ _, fun j' hj' => ⟨?_, by rw [World.frozen?_setCell]; exact (HCD.out j' hj').2⟩⟩, by simp [intOf]; omega⟩
            by_cases e : j' = j
            · subst e
              exact ⟨_, World.cell?_setCell_same _ _ _ hv⟩
            · obtain ⟨v', hv'⟩ := (HCD.out j' hj').1
              exact ⟨v', by rw [World.cell?_setCell_other _ _ _ _ (by intro e'; injection e' with _ e2; omega)]; exact hv'⟩
          · have hjz : ¬ (j : Int) < (len : Int) := by omega
            have hjd : decide ((j : Int) < (len : Int)) = false := decide_eq_false hjz
            have h5 := HC5.out
            have hxx := HXX.out
            have hR6 : Rd p V.heap.size wr a (li.drop used) := by
              refine HS.out.stay _ _ _ _ _ _ HR5.out hKd.size (hKd.block _ ?_ ?_) fun c o e hc => hKd.block c ?_ ?_
              · omega
              · omega
              · omega
              · omega
            have HR6 := Lib.hid hR6
            have hMX : M < w5.heap.size := World.block_lt_of_cell? w5 _ h5.1
            have hMX1 : M + 1 < w5.heap.size := World.block_lt_of_cell? w5 _ h5.2.2.1
            have H6 := Lib.hid (show wr.cell? ⟨M, 0, none⟩ = some (.int .i64 ((i : Int) + 1)) ∧ wr.frozen? ⟨M, 0, none⟩ = false ∧ wr.cell? ⟨M + 1, 0, none⟩ = some (.bool true) ∧ wr.frozen? ⟨M + 1, 0, none⟩ = false from
              ⟨by rw [hKd.cell (by exact hMX) (by show M ≠ dd; omega)]; exact h5.1, by rw [hKd.frozen (by exact hMX) (by show M ≠ dd; omega)]; exact h5.2.1, by rw [hKd.cell (by exact hMX1) (by show M + 1 ≠ dd; omega)]; exact h5.2.2.1, by rw [hKd.frozen (by exact hMX1) (by show M + 1 ≠ dd; omega)]; exact h5.2.2.2⟩)
            have HB6 := Lib.hid (HB5.out.trans (hKd.below (show M ≤ dd by omega) (by omega)))
            have HLO6 := Lib.hid (HLO5.out.high hKd (by omega))
            clear hKd hcd hR6 h5
            go_wp2
            exact ⟨⟨i + 1, Wi ++ [⟨xk, xn, xb⟩], li.drop used, by omega, by go_num, HST2.out, HR6.out, by rw [H6.out.1]; go_num, H6.out.2.1, H6.out.2.2.1, H6.out.2.2.2, HB6.out, HLO6.out⟩, by simp [intOf]; omega⟩
      · obtain ⟨hc0, v, hv, rfl⟩ := h
        have hbad := HSTb.out hc0
        injection hbad with h1 h2
        injection h2 with h2 h3
        have hC := HC1.out
        have hlr := HS.out.lie _ _ _ _ _ HRI.out
        refine ⟨rfl, .inl ⟨by rw [h3]; exact hc0, v, by rw [h3]; exact hv, rfl⟩, ?_, ?_, ?_⟩
        · rw [hK2.cell (by exact World.block_lt_of_cell? wr _ hC.1) (by show M ≠ a.block; omega), hC.1, ← HWL.out, h1, HST.out.len]
        · rw [hK2.cell (by exact World.block_lt_of_cell? wr _ hC.2.2.1) (by show M + 1 ≠ a.block; omega)]
          exact hC.2.2.1
        · exact ⟨HB.out.trans (hK2.below (by omega) (by omega)), HLO.out.trans (Loc.ofKp hK2)⟩
    · have hltz : ¬ (i : Int) < (m : Int) := by omega
      have hld : decide ((i : Int) < (m : Int)) = false := decide_eq_false hltz
      obtain rfl : i = m := by omega
      have hdone := hSt.done (by rw [hKL]; exact Nat.le_refl _)
      rw [HANY.out] at hdone
      injection hdone with h1 h2
      injection h2 with h2 h3
      have hlen := hSt.len
      have HRES := Lib.hid (show (C = 0 ∧ Rd p V.heap.size wr a R) ∧ wr.cell? ⟨M, 0, none⟩ = some (.int .i64 (nW : Int)) ∧ wr.cell? ⟨M + 1, 0, none⟩ = some (.bool true) ∧ Below M V wr ∧ Loc V.heap.size a.block w wr from ⟨⟨h3, by rw [h2]; exact hRi⟩, by rw [hcn, ← HWL.out, h1, hlen], hco, hB, HLO.out⟩)
      clear hSt hRi hcn hfn hco hfo hB h1 h2 h3 hlen HRI HST
      go_wp2
      go_end0
      exact ⟨.inr ⟨HRES.out.1.1, rfl, HRES.out.1.2⟩, HRES.out.2⟩
end
end Go.Proofs.Ytgmogbgkokofoaa
