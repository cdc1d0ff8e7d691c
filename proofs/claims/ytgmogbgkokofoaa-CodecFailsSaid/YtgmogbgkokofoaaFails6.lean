/- The statement CodecFails, walked over the premises. -/
import Derived.Test.YtgmogbgkokofoaaCode6
set_option linter.unusedSimpArgs false
set_option linter.unusedVariables false
namespace Go.Proofs.Ytgmogbgkokofoaa
open Go Go.RowKit

theorem enters_out : ∀ args w, (callFunc 20 args).run Try.prog w = .ok (.enter 20 args) w := enters_of Try.func20 (by kernel_rfl) rfl
attribute [local go_sem] mkFn
section
variable {Rd : Option Addr → Nat → World → Addr → List (BitVec 8) → Prop} {Thr : Addr → Nat → World → Value → Prop} (S : RdSpec Rd Thr) (HA : ∀ w : World, Calls Try.prog 7 #[] w fun e w' => e = .returned (.bool true) ∧ Below w.heap.size w w')
include S HA
set_option maxRecDepth 100000 in
set_option maxHeartbeats 4000000 in
theorem cf_a (a b : Nat) (inner : Bool) (w : World) (ha : a < 256) (hb : b < 256) : Calls Try.prog 5 #[.int .u8 (a : Int), .int .u8 (b : Int), .bool inner] w fun e w' => e = .returned (.bool true) ∧ Below w.heap.size w w' := by
  have HS := Lib.hid S
  have HAW := Lib.hid HA
  obtain ⟨x, hx⟩ : ∃ x, x = a % 15 := ⟨_, rfl⟩
  obtain ⟨y, hy⟩ : ∃ y, y = b % 15 := ⟨_, rfl⟩
  have x1 : (a : Int) % 15 = (x : Int) := by omega
  have x2 : (a : Int).tmod 15 = (x : Int) := by rw [Int.tmod_eq_emod_of_nonneg (by omega)]; exact x1
  have x3 : IntKind.u8.wrap (x : Int) = (x : Int) := by rw [IntKind.wrap_u8']; omega
  have x4 : IntKind.i64.wrap (x : Int) = (x : Int) := i64w _ (by omega) (by omega)
  have y1 : (b : Int) % 15 = (y : Int) := by omega
  have y2 : (b : Int).tmod 15 = (y : Int) := by rw [Int.tmod_eq_emod_of_nonneg (by omega)]; exact y1
  have y3 : IntKind.u8.wrap (y : Int) = (y : Int) := by rw [IntKind.wrap_u8']; omega
  have y4 : IntKind.i64.wrap (y : Int) = (y : Int) := i64w _ (by omega) (by omega)
  have hx15 : x < 15 := by omega
  have hy15 : y < 15 := by omega
  have HB0 := Lib.hid (show Below w.heap.size w (w.alloc (.cells #[.bool inner] 4)) from (Below.refl _ _).alloc (Nat.le_refl _) _)
  have HI0 := Lib.hid (show (w.alloc (.cells #[.bool inner] 4)).cell? ⟨w.heap.size, 0, none⟩ = some (.bool inner) from World.cell?_alloc_new _ _ _ _)
  have hs0 : w.heap.size < (w.alloc (.cells #[.bool inner] 4)).heap.size := by rw [World.size_alloc]; exact Nat.lt_succ_self _
  clear S HA hx hy
  go_enter Try.func5, Try.ntmps5
  go_wp2_with fail
  refine (HAW.out _).mono ?_
  rintro e w1 ⟨rfl, hB1⟩
  have HI1 := Lib.hid (show w1.cell? ⟨w.heap.size, 0, none⟩ = some (.bool inner) from by rw [hB1.cell (by exact hs0)]; exact HI0.out)
  have hs1 : w.heap.size < w1.heap.size := Nat.lt_of_lt_of_le hs0 hB1.size
  have HB1 := Lib.hid (HB0.out.trans (hB1.mono HB0.out.size))
  clear hB1 HB0 HI0 hs0
  go_wp2_with fail
  clear x1 x2 x3 x4 y1 y2 y3 y4 ha hb
  have cx : (((((w1.alloc (.cells #[.int .i64 (x : Int)] 35)).alloc (.cells #[.int .i64 (y : Int)] 35)).alloc (.cells #[.int .i64 (-1)] 35)).alloc (.cells #[.bool false] 4)).alloc (.cells #[.int .u8 1, .int .u8 2] 5)).cell? ⟨w1.heap.size, 0, none⟩ = some (.int .i64 (x : Int)) := by go_simp
  have cy : (((((w1.alloc (.cells #[.int .i64 (x : Int)] 35)).alloc (.cells #[.int .i64 (y : Int)] 35)).alloc (.cells #[.int .i64 (-1)] 35)).alloc (.cells #[.bool false] 4)).alloc (.cells #[.int .u8 1, .int .u8 2] 5)).cell? ⟨w1.heap.size + 1, 0, none⟩ = some (.int .i64 (y : Int)) := by go_simp
  have cs : (((((w1.alloc (.cells #[.int .i64 (x : Int)] 35)).alloc (.cells #[.int .i64 (y : Int)] 35)).alloc (.cells #[.int .i64 (-1)] 35)).alloc (.cells #[.bool false] 4)).alloc (.cells #[.int .u8 1, .int .u8 2] 5)).cell? ⟨w1.heap.size + 1 + 1, 0, none⟩ = some (.int .i64 (-1)) := by go_simp
  have cb : (((((w1.alloc (.cells #[.int .i64 (x : Int)] 35)).alloc (.cells #[.int .i64 (y : Int)] 35)).alloc (.cells #[.int .i64 (-1)] 35)).alloc (.cells #[.bool false] 4)).alloc (.cells #[.int .u8 1, .int .u8 2] 5)).cell? ⟨w1.heap.size + 1 + 1 + 1, 0, none⟩ = some (.bool false) := by go_simp
  have d0 : (((((w1.alloc (.cells #[.int .i64 (x : Int)] 35)).alloc (.cells #[.int .i64 (y : Int)] 35)).alloc (.cells #[.int .i64 (-1)] 35)).alloc (.cells #[.bool false] 4)).alloc (.cells #[.int .u8 1, .int .u8 2] 5)).cell? ⟨w1.heap.size + 1 + 1 + 1 + 1, 0, none⟩ = some (.int .u8 1) := by go_simp
  have d1 : (((((w1.alloc (.cells #[.int .i64 (x : Int)] 35)).alloc (.cells #[.int .i64 (y : Int)] 35)).alloc (.cells #[.int .i64 (-1)] 35)).alloc (.cells #[.bool false] 4)).alloc (.cells #[.int .u8 1, .int .u8 2] 5)).cell? ⟨w1.heap.size + 1 + 1 + 1 + 1, 1, none⟩ = some (.int .u8 2) := by go_simp
  have fx : (((((w1.alloc (.cells #[.int .i64 (x : Int)] 35)).alloc (.cells #[.int .i64 (y : Int)] 35)).alloc (.cells #[.int .i64 (-1)] 35)).alloc (.cells #[.bool false] 4)).alloc (.cells #[.int .u8 1, .int .u8 2] 5)).frozen? ⟨w1.heap.size, 0, none⟩ = false := by go_simp
  have fy : (((((w1.alloc (.cells #[.int .i64 (x : Int)] 35)).alloc (.cells #[.int .i64 (y : Int)] 35)).alloc (.cells #[.int .i64 (-1)] 35)).alloc (.cells #[.bool false] 4)).alloc (.cells #[.int .u8 1, .int .u8 2] 5)).frozen? ⟨w1.heap.size + 1, 0, none⟩ = false := by go_simp
  have fs : (((((w1.alloc (.cells #[.int .i64 (x : Int)] 35)).alloc (.cells #[.int .i64 (y : Int)] 35)).alloc (.cells #[.int .i64 (-1)] 35)).alloc (.cells #[.bool false] 4)).alloc (.cells #[.int .u8 1, .int .u8 2] 5)).frozen? ⟨w1.heap.size + 1 + 1, 0, none⟩ = false := by go_simp
  have hB5 : Below w1.heap.size w1 (((((w1.alloc (.cells #[.int .i64 (x : Int)] 35)).alloc (.cells #[.int .i64 (y : Int)] 35)).alloc (.cells #[.int .i64 (-1)] 35)).alloc (.cells #[.bool false] 4)).alloc (.cells #[.int .u8 1, .int .u8 2] 5)) := (((((Below.refl _ _).alloc (Nat.le_refl _) _).alloc (by simp [World.size_alloc]) _).alloc (by simp [World.size_alloc]; omega) _).alloc (by simp [World.size_alloc]; omega) _).alloc (by simp [World.size_alloc]; omega) _
  have hz5 : w1.heap.size + 5 ≤ (((((w1.alloc (.cells #[.int .i64 (x : Int)] 35)).alloc (.cells #[.int .i64 (y : Int)] 35)).alloc (.cells #[.int .i64 (-1)] 35)).alloc (.cells #[.bool false] 4)).alloc (.cells #[.int .u8 1, .int .u8 2] 5)).heap.size := by simp [World.size_alloc]
  generalize (((((w1.alloc (.cells #[.int .i64 (x : Int)] 35)).alloc (.cells #[.int .i64 (y : Int)] 35)).alloc (.cells #[.int .i64 (-1)] 35)).alloc (.cells #[.bool false] 4)).alloc (.cells #[.int .u8 1, .int .u8 2] 5)) = V at *
  have ci : V.cell? ⟨w.heap.size, 0, none⟩ = some (.bool inner) := by rw [hB5.cell (by exact hs1)]; exact HI1.out
  have HBV := Lib.hid (HB1.out.trans (hB5.mono HB1.out.size))
  have hSL : Sl V (some ⟨w1.heap.size + 1 + 1 + 1 + 1, 0, none⟩) [1#8, 2#8] := fun j hj => by
    have : j = 0 ∨ j = 1 := by simp at hj; omega
    rcases this with rfl | rfl
    · exact ⟨_, 0, rfl, by rw [d0]; show _ = some (B 1#8); rw [B_eq']; rfl⟩
    · exact ⟨_, 0, rfl, by rw [d1]; show _ = some (B 2#8); rw [B_eq']; rfl⟩
  generalize hMM : w1.heap.size = M at *
  clear d0 d1 hMM HI1 HB1 HAW
  obtain ⟨cx6, hcx6⟩ : ∃ cx6, cx6 = if x = 0 then 6 else x := ⟨_, rfl⟩
  obtain ⟨cy6, hcy6⟩ : ∃ cy6, cy6 = if y = 0 then 6 else y := ⟨_, rfl⟩
  have HX6 := Lib.hid hcx6
  have HY6 := Lib.hid hcy6
  have HREAD : Calls Try.prog 13 #[.slice (some ⟨M + 1 + 1 + 1 + 1, 0, none⟩) 2 2, .func (.func 20) #[] #[.pointer (some ⟨w.heap.size, 0, none⟩), .pointer (some ⟨M + 1, 0, none⟩), .pointer (some ⟨M + 1 + 1 + 1, 0, none⟩), .pointer (some ⟨M + 1 + 1, 0, none⟩), .pointer (some ⟨M, 0, none⟩)]] V fun e w' => e = .returned (.int .i64 (cx6 : Int)) ∧ ∃ w2, Below V.heap.size V w2 ∧ (Below V.heap.size w2 w' ∧ inner = false ∨ Below V.heap.size (w2.setCell ⟨M + 1 + 1, 0, none⟩ (.int .i64 (cy6 : Int))) w' ∧ inner = true) := by
    have hR := HS.out.read [1#8, 2#8] (some ⟨M + 1 + 1 + 1 + 1, 0, none⟩) 2 2 20 #[.pointer (some ⟨w.heap.size, 0, none⟩), .pointer (some ⟨M + 1, 0, none⟩), .pointer (some ⟨M + 1 + 1 + 1, 0, none⟩), .pointer (some ⟨M + 1 + 1, 0, none⟩), .pointer (some ⟨M, 0, none⟩)] V (fun c w' => c = cx6 ∧ ∃ w2, Below V.heap.size V w2 ∧ (Below V.heap.size w2 w' ∧ inner = false ∨ Below V.heap.size (w2.setCell ⟨M + 1 + 1, 0, none⟩ (.int .i64 (cy6 : Int))) w' ∧ inner = true)) rfl hSL (fun h => by cases h) (Nat.le_refl _) (by decide) enters_out
      (fun c u v ⟨h1, w2, h2, h3⟩ hk => ⟨h1, w2, h2, by rcases h3 with ⟨h3, h4⟩ | ⟨h3, h4⟩; exact .inl ⟨h3.trans hk, h4⟩; exact .inr ⟨h3.trans hk, h4⟩⟩)
      (fun a1 u1 hb1 hr1 => by
        have lt : ∀ k, k < V.heap.size → ∀ v, V.cell? ⟨k, 0, none⟩ = some v → u1.cell? ⟨k, 0, none⟩ = some v := fun k hk v hv => by rw [hb1.cell (by exact hk)]; exact hv
        cases inner with
        | false => exact (fails_out0 HS.out _ _ u1 a1 w.heap.size (M + 1) (M + 1 + 1 + 1) (M + 1 + 1) M x hr1 (lt _ (by omega) _ ci) (lt _ (by omega) _ cx) hx15).mono fun e w' ⟨h1, h2, hlo⟩ => ⟨hlo, .inr ⟨cx6, by rw [hcx6]; exact h1, rfl, u1, hb1, .inl ⟨h2, rfl⟩⟩⟩
        | true => exact (fails_out1 HS.out _ _ u1 a1 w.heap.size (M + 1) (M + 1 + 1 + 1) (M + 1 + 1) M x y hr1 (lt _ (by omega) _ ci) (lt _ (by omega) _ cx) (lt _ (by omega) _ cy) (by rw [lt _ (by omega) _ cs]; rfl) (by rw [hb1.frozen (by show M + 1 + 1 < V.heap.size; omega)]; exact fs) (by omega) (by omega) (by omega) (by omega) (fun c o e => by injection e with e; injection e with e1 e2; omega) hx15 hy15).mono fun e w' ⟨h1, ⟨w2, h2, h3⟩, hlo⟩ => ⟨hlo, .inr ⟨cx6, by rw [hcx6]; exact h1, rfl, w2, hb1.trans h2, .inr ⟨by rw [hcy6]; exact h3, rfl⟩⟩⟩)
    exact hR.mono fun e w' ⟨c, h1, h2, h3⟩ => ⟨by rw [h1, h2], h3⟩
  have HREAD := Lib.hid HREAD
  clear hSL HS hcx6 hcy6
  go_wp2_with fail
  refine HREAD.out.mono ?_
  rintro e u ⟨rfl, w2, hb2, hor⟩
  have uc : ∀ k v, k < V.heap.size → k ≠ M + 1 + 1 → V.cell? ⟨k, 0, none⟩ = some v → u.cell? ⟨k, 0, none⟩ = some v := fun k v h1 h2 h3 => by
    rcases hor with ⟨h4, -⟩ | ⟨h4, -⟩
    · rw [h4.cell (by exact h1), hb2.cell (by exact h1)]; exact h3
    · rw [h4.cell (by exact h1), World.cell?_setCell_far _ _ _ _ (show M + 1 + 1 ≠ k from Ne.symm h2), hb2.cell (by exact h1)]; exact h3
  have uf : ∀ k, k < V.heap.size → V.frozen? ⟨k, 0, none⟩ = false → u.frozen? ⟨k, 0, none⟩ = false := fun k h1 h3 => by
    rcases hor with ⟨h4, -⟩ | ⟨h4, -⟩
    · rw [h4.frozen (by exact h1), hb2.frozen (by exact h1)]; exact h3
    · rw [h4.frozen (by exact h1), World.frozen?_setCell, hb2.frozen (by exact h1)]; exact h3
  have us : inner = true → u.cell? ⟨M + 1 + 1, 0, none⟩ = some (.int .i64 (cy6 : Int)) := fun hi => by
    rcases hor with ⟨-, h5⟩ | ⟨h4, -⟩
    · rw [hi] at h5; cases h5
    · rw [h4.cell (by show M + 1 + 1 < V.heap.size; omega)]
      exact World.cell?_setCell_same _ _ _ (by rw [hb2.cell (by show M + 1 + 1 < V.heap.size; omega)]; exact cs)
  have hBU : Below w.heap.size w u := by
    have hwV := HBV.out.size
    have h6 : Below w.heap.size w w2 := HBV.out.trans (hb2.mono hwV)
    rcases hor with ⟨h4, -⟩ | ⟨h4, -⟩
    · exact h6.trans (h4.mono hwV)
    · exact (h6.setCell (show w.heap.size ≤ M + 1 + 1 by omega) _).trans (h4.mono hwV)
  have ux := uc M _ (by omega) (by omega) cx
  have uy := uc (M + 1) _ (by omega) (by omega) cy
  have ub := uc (M + 1 + 1 + 1) _ (by omega) (by omega) cb
  have ui := uc w.heap.size _ (by omega) (by omega) ci
  have gx := uf M (by omega) fx
  have gy := uf (M + 1) (by omega) fy
  have HBU := Lib.hid hBU
  have hMw : w.heap.size ≤ M := Nat.le_of_lt hs1
  have hMw1 : w.heap.size ≤ M + 1 := Nat.le_succ_of_le hMw
  clear uc uf hBU hor hb2 cx cy cs cb ci fx fy fs hB5 hz5 HREAD HBV
  have ex6 : ((6 : Int) == 6) = true := by decide
  cases inner with
  | false =>
    clear us
    by_cases hx0 : x = 0
    · subst hx0
      obtain rfl : cx6 = 6 := by rw [HX6.out]; rfl
      by_cases hy0 : y = 0
      · subst hy0
        go_wp2
        go_ret
        exact ⟨rfl, (HBU.out.setCell hMw _).setCell hMw1 _⟩
      · have ey : ((y : Int) == 0) = false := by simp; omega
        go_wp2
        go_ret
        exact ⟨rfl, HBU.out.setCell hMw _⟩
    · have ex : ((x : Int) == 0) = false := by simp; omega
      obtain rfl : cx6 = x := by rw [HX6.out, if_neg hx0]
      have exx : ((cx6 : Int) == (cx6 : Int)) = true := by simp
      by_cases hy0 : y = 0
      · subst hy0
        go_wp2
        go_ret
        exact ⟨rfl, HBU.out.setCell hMw1 _⟩
      · have ey : ((y : Int) == 0) = false := by simp; omega
        go_wp2
        go_ret
        exact ⟨rfl, HBU.out⟩
  | true =>
    have us := us rfl
    by_cases hx0 : x = 0
    · subst hx0
      obtain rfl : cx6 = 6 := by rw [HX6.out]; rfl
      by_cases hy0 : y = 0
      · subst hy0
        obtain rfl : cy6 = 6 := by rw [HY6.out]; rfl
        go_wp2
        go_ret
        exact ⟨rfl, (HBU.out.setCell hMw _).setCell hMw1 _⟩
      · have ey : ((y : Int) == 0) = false := by simp; omega
        obtain rfl : cy6 = y := by rw [HY6.out, if_neg hy0]
        have eyy : ((cy6 : Int) == (cy6 : Int)) = true := by simp
        go_wp2
        go_ret
        exact ⟨rfl, HBU.out.setCell hMw _⟩
    · have ex : ((x : Int) == 0) = false := by simp; omega
      obtain rfl : cx6 = x := by rw [HX6.out, if_neg hx0]
      have exx : ((cx6 : Int) == (cx6 : Int)) = true := by simp
      by_cases hy0 : y = 0
      · subst hy0
        obtain rfl : cy6 = 6 := by rw [HY6.out]; rfl
        go_wp2
        go_ret
        exact ⟨rfl, HBU.out.setCell hMw1 _⟩
      · have ey : ((y : Int) == 0) = false := by simp; omega
        obtain rfl : cy6 = y := by rw [HY6.out, if_neg hy0]
        have eyy : ((cy6 : Int) == (cy6 : Int)) = true := by simp
        go_wp2
        go_ret
        exact ⟨rfl, HBU.out⟩
end
end Go.Proofs.Ytgmogbgkokofoaa
