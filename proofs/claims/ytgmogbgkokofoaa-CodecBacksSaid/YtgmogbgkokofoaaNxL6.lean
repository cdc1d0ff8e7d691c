/- The statements' own reading of an item. -/
import Derived.Test.YtgmogbgkokofoaaFresh6
import Derived.Test.YtgmogbgkokofoaaCode6
import Derived.Recover
set_option linter.unusedSimpArgs false
set_option linter.unusedVariables false
namespace Go.Proofs.Ytgmogbgkokofoaa
open Go Go.RowKit

/-- What the reading of an item tells. -/
def NxPost (Rd : Option Addr → Nat → World → Addr → List (BitVec 8) → Prop) (Thr : Addr → Nat → World → Value → Prop) (p : Option Addr) (N : Nat) (w : World) (a : Addr) (l : List (BitVec 8)) (x : It × Nat × Nat) (e : Ending) (w' : World) : Prop :=
  Kp a.block w w' ∧ ((x.2.2 = 0 ∧ (∃ q c, e = .returned (x.1.v q c) ∧ Fresh w' w.heap.size q c x.1.b) ∧ Rd p N w' a (l.drop x.2.1)) ∨ (x.2.2 ≠ 0 ∧ Thrown (Thr a) x.2.2 e w'))
/-- Two new items lie in the blocks H and H + 1; the second one of kind k. -/
structure TwoC (H : Nat) (u : World) (k : Int) : Prop where
  x0 : u.cell? ⟨H + 1, 0, none⟩ = some (.int .i64 k)
  x1 : u.cell? ⟨H + 1, 1, none⟩ = some (.int .i64 0)
  x2 : u.cell? ⟨H + 1, 2, none⟩ = some (.slice none 0 0)
  r0 : u.cell? ⟨H, 0, none⟩ = some (.int .i64 0)
  r1 : u.cell? ⟨H, 1, none⟩ = some (.int .i64 0)
  r2 : u.cell? ⟨H, 2, none⟩ = some (.slice none 0 0)
  xf1 : u.frozen? ⟨H + 1, 1, none⟩ = false
  xf2 : u.frozen? ⟨H + 1, 2, none⟩ = false
  rf0 : u.frozen? ⟨H, 0, none⟩ = false
  rf1 : u.frozen? ⟨H, 1, none⟩ = false
  rf2 : u.frozen? ⟨H, 2, none⟩ = false
theorem TwoC.keep {H : Nat} {u u' : World} {k : Int} (h : TwoC H u k) (h0 : u'.heap[H]? = u.heap[H]?) (h1 : u'.heap[H + 1]? = u.heap[H + 1]?) : TwoC H u' k := by
  constructor
  · rw [World.cell?_of_block (w := u) h1]; exact h.x0
  · rw [World.cell?_of_block (w := u) h1]; exact h.x1
  · rw [World.cell?_of_block (w := u) h1]; exact h.x2
  · rw [World.cell?_of_block (w := u) h0]; exact h.r0
  · rw [World.cell?_of_block (w := u) h0]; exact h.r1
  · rw [World.cell?_of_block (w := u) h0]; exact h.r2
  · rw [World.frozen?_of_block (w := u) h1]; exact h.xf1
  · rw [World.frozen?_of_block (w := u) h1]; exact h.xf2
  · rw [World.frozen?_of_block (w := u) h0]; exact h.rf0
  · rw [World.frozen?_of_block (w := u) h0]; exact h.rf1
  · rw [World.frozen?_of_block (w := u) h0]; exact h.rf2
theorem TwoC.new (w : World) (k : Int) : TwoC w.heap.size ((w.alloc (.cells #[.int .i64 0, .int .i64 0, .slice none 0 0] 29)).alloc (.cells #[.int .i64 k, .int .i64 0, .slice none 0 0] 29)) k := by
  constructor <;> go_simp
theorem two_below (w : World) (k : Int) : Below w.heap.size w ((w.alloc (.cells #[.int .i64 0, .int .i64 0, .slice none 0 0] 29)).alloc (.cells #[.int .i64 k, .int .i64 0, .slice none 0 0] 29)) ∧ ((w.alloc (.cells #[.int .i64 0, .int .i64 0, .slice none 0 0] 29)).alloc (.cells #[.int .i64 k, .int .i64 0, .slice none 0 0] 29)).heap.size = w.heap.size + 1 + 1 :=
  ⟨((Below.refl _ _).alloc (Nat.le_refl _) _).alloc (by simp [World.size_alloc]) _, by simp [World.size_alloc]⟩
theorem TwoC.kp {H b : Nat} {u u' : World} {k : Int} (h : TwoC H u k) (hk : Kp b u u') (hb : b < H) (hs : u.heap.size = H + 1 + 1) : TwoC H u' k := h.keep (hk.block _ (by omega) (by omega)) (hk.block _ (by omega) (by omega))
theorem TwoC.below {H : Nat} {u u' : World} {k : Int} (h : TwoC H u k) (hk : Below u.heap.size u u') (hs : H + 1 + 1 ≤ u.heap.size) : TwoC H u' k := h.keep (hk.block _ (by omega)) (hk.block _ (by omega))
/-- The item that was made is handed over: the world behind. -/
def handed (H : Nat) (w : World) (x y z : Value) : World := ((w.setCell ⟨H, 0, none⟩ x).setCell ⟨H, 1, none⟩ y).setCell ⟨H, 2, none⟩ z
theorem nextI_3 (l : List (BitVec 8)) (m m' : Int) : nextI l 3 m = nextI l 3 m' := by unfold nextI; rfl
theorem nextI_4 (l : List (BitVec 8)) (m m' : Int) : nextI l 4 m = nextI l 4 m' := by unfold nextI; rfl
theorem nx_ok {Rd : Option Addr → Nat → World → Addr → List (BitVec 8) → Prop} {Thr : Addr → Nat → World → Value → Prop} (S : RdSpec Rd Thr) {p : Option Addr} {N : Nat} {w U w2 F : World} {a : Addr} {l : List (BitVec 8)} {x : It × Nat × Nat} {q : Option Addr} {c : Nat}
    (hl : a.block < w.heap.size) (hN : N ≤ w.heap.size) (hB : Below w.heap.size w U) (hK : Kp a.block U w2) (hR : Rd p N w2 a (l.drop x.2.1)) (hF : Below w.heap.size w2 F) (h0 : x.2.2 = 0) (hfr : Fresh F w.heap.size q c x.1.b) : NxPost Rd Thr p N w a l x (.returned (x.1.v q c)) F :=
  ⟨⟨by rw [hF.os, hK.os, hB.os], by rw [hF.tape, hK.tape, hB.tape], by rw [hF.output, hK.output, hB.output], Nat.le_trans hB.size (Nat.le_trans hK.size hF.size), fun k hk hb => by rw [hF.block k hk, hK.block k (Nat.lt_of_lt_of_le hk hB.size) hb, hB.block k hk]⟩,
    .inl ⟨h0, ⟨q, c, rfl, hfr⟩, S.keepM hR hl hN hF⟩⟩
theorem nx_bad {Rd : Option Addr → Nat → World → Addr → List (BitVec 8) → Prop} {Thr : Addr → Nat → World → Value → Prop} {p : Option Addr} {N : Nat} {w U w2 : World} {a : Addr} {l : List (BitVec 8)} {x : It × Nat × Nat} {v : Value}
    (hB : Below w.heap.size w U) (hK : Kp a.block U w2) (h0 : x.2.2 ≠ 0) (hv : Thr a x.2.2 w2 v) : NxPost Rd Thr p N w a l x (.panicked [{ v := v, recovered := false }]) w2 :=
  ⟨⟨by rw [hK.os, hB.os], by rw [hK.tape, hB.tape], by rw [hK.output, hB.output], Nat.le_trans hB.size hK.size, fun k hk hb => by rw [hK.block k (Nat.lt_of_lt_of_le hk hB.size) hb, hB.block k hk]⟩, .inr ⟨h0, v, hv, rfl⟩⟩
theorem below3 {M : Nat} {w w2 : World} (h : Below M w w2) (x y z : Value) : Below M w (((w2.setCell ⟨M, 0, none⟩ x).setCell ⟨M, 1, none⟩ y).setCell ⟨M, 2, none⟩ z) :=
  ((h.setCell (show M ≤ (⟨M, 0, none⟩ : Addr).block from Nat.le_refl M) x).setCell (show M ≤ (⟨M, 1, none⟩ : Addr).block from Nat.le_refl M) y).setCell (show M ≤ (⟨M, 2, none⟩ : Addr).block from Nat.le_refl M) z
theorem below1 {M : Nat} {w w2 : World} (h : Below M w w2) (j : Nat) (x : Value) : Below M w (w2.setCell ⟨M + 1, j, none⟩ x) := h.setCell (show M ≤ (⟨M + 1, j, none⟩ : Addr).block from Nat.le_succ M) x
theorem fresh4 {M : Nat} {w : World} {base : Nat} {q : Option Addr} {c : Nat} {b : List (BitVec 8)} (h : Fresh w base q c b) (hb : M + 1 + 1 ≤ base) (j : Nat) (t x y z : Value) : Fresh ((((w.setCell ⟨M + 1, j, none⟩ t).setCell ⟨M, 0, none⟩ x).setCell ⟨M, 1, none⟩ y).setCell ⟨M, 2, none⟩ z) M q c b :=
  ((((h.far (y := M + 1) (by omega) j t).far (y := M) (by omega) 0 x).far (y := M) (by omega) 1 y).far (y := M) (by omega) 2 z).lower (by omega)
theorem nextI_kn {l : List (BitVec 8)} {K : Nat} {most : Int} {xk xn k code : Nat} {b : List (BitVec 8)} (h : False ∨ ((K = 1 ∨ K = 2) ∧ nextI l K most = (⟨xk, xn, b⟩, k, code) ∧ code = 0)) : xk = K ∧ xn = 0 := by
  rcases h with h | ⟨hK, h, hc⟩
  · cases h
  rw [nextI_take (by omega) (by omega)] at h
  split at h
  · rename_i h1
    injection h with h2 h3
    injection h3 with h4 h5
    omega
  · rw [if_neg (by omega)] at h
    split at h
    · injection h with h2 h3
      injection h3 with h4 h5
      omega
    · injection h with h2 h3
      injection h2 with h4 h5
      exact ⟨h4.symm, h5.symm⟩
theorem nextI_3v {l : List (BitVec 8)} {xk xn k code : Nat} {b : List (BitVec 8)} (h : nextI l 3 0 = (⟨xk, xn, b⟩, k, code)) (hc : code = 0) : xk = 3 ∧ b = [] ∧ (xn = 0 ∨ xn = 1) := by
  unfold nextI at h
  rw [if_pos rfl] at h
  split at h
  · injection h with h2 h3
    injection h3 with h4 h5
    omega
  · rename_i h1
    injection h with h2 h3
    injection h2 with h4 h5 h6
    exact ⟨h4.symm, h6.symm, by omega⟩
theorem nextI_4v {l : List (BitVec 8)} {xk xn k code : Nat} {b : List (BitVec 8)} (h : nextI l 4 0 = (⟨xk, xn, b⟩, k, code)) (hc : code = 0) : xk = 4 ∧ xn = 0 ∧ b.length = 32 := by
  unfold nextI at h
  rw [if_neg (by decide), if_pos rfl] at h
  split at h
  · injection h with h2 h3
    injection h3 with h4 h5
    omega
  · rename_i h1
    injection h with h2 h3
    injection h2 with h4 h5 h6
    exact ⟨h4.symm, h5.symm, by rw [← h6, List.length_take]; omega⟩
attribute [local go_sem ↓] exec_alloc32 exec_store32 exec_slice
attribute [local go_sem] sl_arr st_dig
section
variable {Rd : Option Addr → Nat → World → Addr → List (BitVec 8) → Prop} {Thr : Addr → Nat → World → Value → Prop} (S : RdSpec Rd Thr)
include S
-- the kinds, by gen-nx6.py
set_option maxRecDepth 100000 in
set_option maxHeartbeats 4000000 in
theorem next0 (p : Option Addr) (N : Nat) (w : World) (a : Addr) (l : List (BitVec 8)) (most : Int) (hR : Rd p N w a l) : Calls Try.prog 17 #[.pointer (some a), .int .i64 0, .int .i64 most] w (NxPost Rd Thr p N w a l (nextI l 0 most)) := by
  have hl := S.lie _ _ _ _ _ hR
  have hN := S.base hR
  have HS := Lib.hid S
  have hB := two_below w 0
  have HB := Lib.hid hB
  have HT := Lib.hid (TwoC.new w 0)
  have HC := Lib.hid (S.number p N _ a l most (S.keep hR hB.1))
  have hnx : nextI l 0 most = if (takeI l most).2.2 ≠ 0 then (⟨0, 0, []⟩, 0, (takeI l most).2.2) else (⟨0, (takeI l most).1, []⟩, (takeI l most).2.1, 0) := by rw [nextI_take (by decide) (by decide)]; rfl
  have HNX := Lib.hid hnx
  clear hR S hB hnx
  go_enter Try.func17, Try.ntmps17
  go_wp2_with fail
  refine HC.out.mono ?_
  rintro e w2 ⟨hK, h | h⟩
  · obtain ⟨hc, ⟨_, rfl, rfl⟩, hR2⟩ := h
    obtain ⟨x0, x1, x2, r0, r1, r2, xf1, xf2, rf0, rf1, rf2⟩ := HT.out.kp hK hl.2 HB.out.2
    have HR2 := Lib.hid hR2
    have HK := Lib.hid hK
    have HNN := Lib.hid (show nextI l 0 most = (⟨0, (takeI l most).1, []⟩, (takeI l most).2.1, 0) from by rw [HNX.out, if_neg (by rw [hc]; exact fun h => h rfl)])
    generalize (takeI l most).1 = n at *
    generalize (takeI l most).2.1 = k at *
    clear hR2 hK hc HC HNX HT
    go_wp2
    refine bodyPost_ret (v := .agg #[.int .i64 0, .int .i64 (n : Int), .slice none 0 0]) (by simp [results, Try.results17, go_sem, x0, x1, x2, r0, r1, r2]; try rfl) rfl ?_
    rw [HNN.out]
    exact nx_ok HS.out hl.2 hN HB.out.1 HK.out HR2.out (below3 (below1 (Below.refl _ _) _ _) _ _ _) rfl (x := (⟨0, n, []⟩, k, 0)) (q := none) (c := 0) (Fresh.nothing _ _)
  · obtain ⟨hc, v, hv, rfl⟩ := h
    refine ⟨rfl, ?_⟩
    rw [HNX.out, if_pos hc]
    exact nx_bad HB.out.1 hK hc hv
set_option maxRecDepth 100000 in
set_option maxHeartbeats 4000000 in
theorem next1 (p : Option Addr) (N : Nat) (w : World) (a : Addr) (l : List (BitVec 8)) (most : Int) (hR : Rd p N w a l) : Calls Try.prog 17 #[.pointer (some a), .int .i64 1, .int .i64 most] w (NxPost Rd Thr p N w a l (nextI l 1 most)) := by
  have hl := S.lie _ _ _ _ _ hR
  have hN := S.base hR
  have HS := Lib.hid S
  have hB := two_below w 1
  have HB := Lib.hid hB
  have HT := Lib.hid (TwoC.new w 1)
  have HC := Lib.hid (S.bytes p N _ a l most (S.keep hR hB.1))
  clear hR S hB
  generalize hnx : nextI l 1 most = x at *
  obtain ⟨⟨xk, xn, b⟩, k, code⟩ := x
  have HXK := Lib.hid (show code = 0 → xk = 1 ∧ xn = 0 from fun h => nextI_kn (.inr ⟨.inl rfl, hnx, h⟩))
  dsimp only at HC
  clear hnx
  go_enter Try.func17, Try.ntmps17
  go_wp2_with fail
  refine HC.out.mono ?_
  rintro e w2 ⟨hK, h | h⟩
  · obtain ⟨hc, ⟨v, rfl, hO⟩, hR2⟩ := h
    obtain ⟨q, c, rfl, hF⟩ := hO.fresh
    obtain ⟨rfl, rfl⟩ := HXK.out hc
    subst hc
    obtain ⟨x0, x1, x2, r0, r1, r2, xf1, xf2, rf0, rf1, rf2⟩ := HT.out.kp hK hl.2 HB.out.2
    have HR2 := Lib.hid hR2
    have HK := Lib.hid hK
    have hzz := HB.out.2
    have HF := Lib.hid hF
    obtain ⟨len, hlen⟩ : ∃ len, b.length = len := ⟨_, rfl⟩
    rw [hlen]
    have HLEN := Lib.hid hlen
    clear hR2 hK HC HT hO hF HXK hzz hlen
    go_wp2
    refine bodyPost_ret (v := .agg #[.int .i64 1, .int .i64 0, .slice q len c]) (by simp [results, Try.results17, go_sem, x0, x1, x2, r0, r1, r2]; try rfl) rfl ?_
    rw [← HLEN.out]
    have hzz := HB.out.2
    exact nx_ok HS.out hl.2 hN HB.out.1 HK.out HR2.out (below3 (below1 (Below.refl _ _) _ _) _ _ _) rfl (x := (⟨1, 0, b⟩, k, 0)) (q := q) (c := c) (fresh4 HF.out (by omega) _ _ _ _ _)
  · obtain ⟨hc, v, hv, rfl⟩ := h
    refine ⟨rfl, ?_⟩
    exact nx_bad HB.out.1 hK hc hv
set_option maxRecDepth 100000 in
set_option maxHeartbeats 4000000 in
theorem next2 (p : Option Addr) (N : Nat) (w : World) (a : Addr) (l : List (BitVec 8)) (most : Int) (hR : Rd p N w a l) : Calls Try.prog 17 #[.pointer (some a), .int .i64 2, .int .i64 most] w (NxPost Rd Thr p N w a l (nextI l 2 most)) := by
  have hl := S.lie _ _ _ _ _ hR
  have hN := S.base hR
  have HS := Lib.hid S
  have hB := two_below w 2
  have HB := Lib.hid hB
  have HT := Lib.hid (TwoC.new w 2)
  have HC := Lib.hid (S.text p N _ a l most (S.keep hR hB.1))
  clear hR S hB
  generalize hnx : nextI l 2 most = x at *
  obtain ⟨⟨xk, xn, b⟩, k, code⟩ := x
  have HXK := Lib.hid (show code = 0 → xk = 2 ∧ xn = 0 from fun h => nextI_kn (.inr ⟨.inr rfl, hnx, h⟩))
  dsimp only at HC
  clear hnx
  go_enter Try.func17, Try.ntmps17
  go_wp2_with fail
  refine HC.out.mono ?_
  rintro e w2 ⟨hK, h | h⟩
  · obtain ⟨hc, ⟨v, rfl, rfl⟩, hR2⟩ := h
    obtain ⟨rfl, rfl⟩ := HXK.out hc
    subst hc
    obtain ⟨c, w3, hcv, hF, hB3⟩ := conv_bytes w2 b
    have hs2 : w.heap.size + 1 + 1 ≤ w2.heap.size := by rw [← HB.out.2]; exact hK.size
    obtain ⟨x0, x1, x2, r0, r1, r2, xf1, xf2, rf0, rf1, rf2⟩ := (HT.out.kp hK hl.2 HB.out.2).below hB3 hs2
    have HR2 := Lib.hid hR2
    have HK := Lib.hid hK
    have HF := Lib.hid hF
    have HB3 := Lib.hid hB3
    have HS2 := Lib.hid hs2
    obtain ⟨len, hlen⟩ : ∃ len, b.length = len := ⟨_, rfl⟩
    rw [hlen] at hcv
    have HLEN := Lib.hid hlen
    clear hR2 hK HC HT hF HXK hlen hB3 hs2
    generalize strOf b = sb at *
    go_wp2
    refine bodyPost_ret (v := .agg #[.int .i64 2, .int .i64 0, .slice (some ⟨w2.heap.size, 0, none⟩) len c]) (by simp [results, Try.results17, go_sem, x0, x1, x2, r0, r1, r2]; try rfl) rfl ?_
    rw [← HLEN.out]
    have hzz := HS2.out
    exact nx_ok HS.out hl.2 hN HB.out.1 HK.out HR2.out (below3 (below1 (HB3.out.mono (by omega)) _ _) _ _ _) rfl (x := (⟨2, 0, b⟩, k, 0)) (q := some ⟨w2.heap.size, 0, none⟩) (c := c) (fresh4 HF.out (by omega) _ _ _ _ _)
  · obtain ⟨hc, v, hv, rfl⟩ := h
    refine ⟨rfl, ?_⟩
    exact nx_bad HB.out.1 hK hc hv
set_option maxRecDepth 100000 in
set_option maxHeartbeats 4000000 in
theorem next3 (p : Option Addr) (N : Nat) (w : World) (a : Addr) (l : List (BitVec 8)) (most : Int) (hR : Rd p N w a l) : Calls Try.prog 17 #[.pointer (some a), .int .i64 3, .int .i64 most] w (NxPost Rd Thr p N w a l (nextI l 3 most)) := by
  have hl := S.lie _ _ _ _ _ hR
  have hN := S.base hR
  have HS := Lib.hid S
  have hB := two_below w 3
  have HB := Lib.hid hB
  have HT := Lib.hid (TwoC.new w 3)
  have HC := Lib.hid (S.truth p N _ a l (S.keep hR hB.1))
  clear hR S hB
  rw [nextI_3 l most 0]
  generalize hnx : nextI l 3 0 = x at *
  obtain ⟨⟨xk, xn, b⟩, k, code⟩ := x
  have HXK := Lib.hid (show code = 0 → xk = 3 ∧ b = [] ∧ (xn = 0 ∨ xn = 1) from fun h => nextI_3v hnx h)
  dsimp only at HC
  clear hnx
  go_enter Try.func17, Try.ntmps17
  go_wp2_with fail
  refine HC.out.mono ?_
  rintro e w2 ⟨hK, h | h⟩
  · obtain ⟨hc, ⟨v, rfl, rfl⟩, hR2⟩ := h
    obtain ⟨rfl, rfl, hn⟩ := HXK.out hc
    subst hc
    rcases hn with rfl | rfl
    · have e1 : decide ((0 : Nat) = 1) = false := by decide
      rw [e1]
      obtain ⟨x0, x1, x2, r0, r1, r2, xf1, xf2, rf0, rf1, rf2⟩ := HT.out.kp hK hl.2 HB.out.2
      have HR2 := Lib.hid hR2
      have HK := Lib.hid hK
      clear hR2 hK HC HT HXK
      go_wp2
      refine bodyPost_ret (v := .agg #[.int .i64 3, .int .i64 0, .slice none 0 0]) (by simp [results, Try.results17, go_sem, x0, x1, x2, r0, r1, r2]; try rfl) rfl ?_
      exact nx_ok HS.out hl.2 hN HB.out.1 HK.out HR2.out (below3 (Below.refl _ _) _ _ _) rfl (x := (⟨3, 0, []⟩, k, 0)) (q := none) (c := 0) (Fresh.nothing _ _)
    · have e1 : decide ((1 : Nat) = 1) = true := by decide
      rw [e1]
      obtain ⟨x0, x1, x2, r0, r1, r2, xf1, xf2, rf0, rf1, rf2⟩ := HT.out.kp hK hl.2 HB.out.2
      have HR2 := Lib.hid hR2
      have HK := Lib.hid hK
      clear hR2 hK HC HT HXK
      go_wp2
      refine bodyPost_ret (v := .agg #[.int .i64 3, .int .i64 1, .slice none 0 0]) (by simp [results, Try.results17, go_sem, x0, x1, x2, r0, r1, r2]; try rfl) rfl ?_
      exact nx_ok HS.out hl.2 hN HB.out.1 HK.out HR2.out (below3 (below1 (Below.refl _ _) _ _) _ _ _) rfl (x := (⟨3, 1, []⟩, k, 0)) (q := none) (c := 0) (Fresh.nothing _ _)
  · obtain ⟨hc, v, hv, rfl⟩ := h
    refine ⟨rfl, ?_⟩
    exact nx_bad HB.out.1 hK hc hv
set_option maxRecDepth 100000 in
set_option maxHeartbeats 4000000 in
theorem next4 (p : Option Addr) (N : Nat) (w : World) (a : Addr) (l : List (BitVec 8)) (most : Int) (hR : Rd p N w a l) : Calls Try.prog 17 #[.pointer (some a), .int .i64 4, .int .i64 most] w (NxPost Rd Thr p N w a l (nextI l 4 most)) := by
  have hl := S.lie _ _ _ _ _ hR
  have hN := S.base hR
  have HS := Lib.hid S
  have hB := two_below w 4
  have HB := Lib.hid hB
  have HT := Lib.hid (TwoC.new w 4)
  have HC := Lib.hid (S.digest p N _ a l (S.keep hR hB.1))
  clear hR S hB
  rw [nextI_4 l most 0]
  generalize hnx : nextI l 4 0 = x at *
  obtain ⟨⟨xk, xn, b⟩, k, code⟩ := x
  have HXK := Lib.hid (show code = 0 → xk = 4 ∧ xn = 0 ∧ b.length = 32 from fun h => nextI_4v hnx h)
  dsimp only at HC
  clear hnx
  go_enter Try.func17, Try.ntmps17
  go_wp2_with fail
  refine HC.out.mono ?_
  rintro e w2 ⟨hK, h | h⟩
  · obtain ⟨hc, ⟨v, rfl, rfl⟩, hR2⟩ := h
    obtain ⟨rfl, rfl, hb32⟩ := HXK.out hc
    subst hc
    have hs2 : w.heap.size + 1 + 1 ≤ w2.heap.size := by rw [← HB.out.2]; exact hK.size
    have hB3 : Below w2.heap.size w2 (w2.alloc (.cells (tab 32 (dgF b)) 51)) := (Below.refl _ _).alloc (Nat.le_refl _) _
    have HF := Lib.hid ((Row.new w2 51 32 (dgF b)).fresh (base := w2.heap.size) (Nat.le_refl _) hb32)
    obtain ⟨x0, x1, x2, r0, r1, r2, xf1, xf2, rf0, rf1, rf2⟩ := (HT.out.kp hK hl.2 HB.out.2).below hB3 hs2
    have HR2 := Lib.hid hR2
    have HK := Lib.hid hK
    have HB3 := Lib.hid hB3
    have HS2 := Lib.hid hs2
    have H32 := Lib.hid hb32
    clear hR2 hK HC HT HXK hB3 hs2 hb32
    go_wp2
    refine bodyPost_ret (v := .agg #[.int .i64 4, .int .i64 0, .slice (some ⟨w2.heap.size, 0, none⟩) 32 32]) (by simp [results, Try.results17, go_sem, x0, x1, x2, r0, r1, r2]; try rfl) rfl ?_
    have hzz := HS2.out
    rw [show (Value.slice (some ⟨w2.heap.size, 0, none⟩) 32 32) = .slice (some ⟨w2.heap.size, 0, none⟩) b.length 32 from by rw [H32.out]]
    exact nx_ok HS.out hl.2 hN HB.out.1 HK.out HR2.out (below3 (below1 (HB3.out.mono (by omega)) _ _) _ _ _) rfl (x := (⟨4, 0, b⟩, k, 0)) (q := some ⟨w2.heap.size, 0, none⟩) (c := 32) (fresh4 HF.out (by omega) _ _ _ _ _)
  · obtain ⟨hc, v, hv, rfl⟩ := h
    refine ⟨rfl, ?_⟩
    exact nx_bad HB.out.1 hK hc hv
set_option maxRecDepth 100000 in
set_option maxHeartbeats 4000000 in
theorem next5 (p : Option Addr) (N : Nat) (w : World) (a : Addr) (l : List (BitVec 8)) (most : Int) (hR : Rd p N w a l) : Calls Try.prog 17 #[.pointer (some a), .int .i64 5, .int .i64 most] w (NxPost Rd Thr p N w a l (nextI l 5 most)) := by
  have hl := S.lie _ _ _ _ _ hR
  have hN := S.base hR
  have HS := Lib.hid S
  have hB := two_below w 5
  have HB := Lib.hid hB
  have HT := Lib.hid (TwoC.new w 5)
  have HC := Lib.hid (S.count p N _ a l most (S.keep hR hB.1))
  have hnx : nextI l 5 most = if (takeI l most).2.2 ≠ 0 then (⟨0, 0, []⟩, 0, (takeI l most).2.2) else (⟨5, (takeI l most).1, []⟩, (takeI l most).2.1, 0) := by rw [nextI_take (by decide) (by decide)]; rfl
  have HNX := Lib.hid hnx
  clear hR S hB hnx
  go_enter Try.func17, Try.ntmps17
  go_wp2_with fail
  refine HC.out.mono ?_
  rintro e w2 ⟨hK, h | h⟩
  · obtain ⟨hc, ⟨_, rfl, rfl⟩, hR2⟩ := h
    obtain ⟨x0, x1, x2, r0, r1, r2, xf1, xf2, rf0, rf1, rf2⟩ := HT.out.kp hK hl.2 HB.out.2
    have HR2 := Lib.hid hR2
    have HK := Lib.hid hK
    have HNN := Lib.hid (show nextI l 5 most = (⟨5, (takeI l most).1, []⟩, (takeI l most).2.1, 0) from by rw [HNX.out, if_neg (by rw [hc]; exact fun h => h rfl)])
    generalize (takeI l most).1 = n at *
    generalize (takeI l most).2.1 = k at *
    clear hR2 hK hc HC HNX HT
    go_wp2
    refine bodyPost_ret (v := .agg #[.int .i64 5, .int .i64 (n : Int), .slice none 0 0]) (by simp [results, Try.results17, go_sem, x0, x1, x2, r0, r1, r2]; try rfl) rfl ?_
    rw [HNN.out]
    exact nx_ok HS.out hl.2 hN HB.out.1 HK.out HR2.out (below3 (below1 (Below.refl _ _) _ _) _ _ _) rfl (x := (⟨5, n, []⟩, k, 0)) (q := none) (c := 0) (Fresh.nothing _ _)
  · obtain ⟨hc, v, hv, rfl⟩ := h
    refine ⟨rfl, ?_⟩
    rw [HNX.out, if_pos hc]
    exact nx_bad HB.out.1 hK hc hv
theorem next_any (p : Option Addr) (N : Nat) (w : World) (a : Addr) (l : List (BitVec 8)) (K : Nat) (hk : K < 6) (most : Int) (hR : Rd p N w a l) : Calls Try.prog 17 #[.pointer (some a), .int .i64 (K : Int), .int .i64 most] w (NxPost Rd Thr p N w a l (nextI l K most)) := by
  have h : K = 0 ∨ K = 1 ∨ K = 2 ∨ K = 3 ∨ K = 4 ∨ K = 5 := by omega
  rcases h with rfl | rfl | rfl | rfl | rfl | rfl
  · exact next0 S p N w a l most hR
  · exact next1 S p N w a l most hR
  · exact next2 S p N w a l most hR
  · exact next3 S p N w a l most hR
  · exact next4 S p N w a l most hR
  · exact next5 S p N w a l most hR
end
end Go.Proofs.Ytgmogbgkokofoaa
