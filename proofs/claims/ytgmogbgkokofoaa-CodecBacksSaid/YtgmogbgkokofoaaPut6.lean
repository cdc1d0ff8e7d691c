/- The reference's items, written. -/
import Derived.Test.YtgmogbgkokofoaaTake6
set_option linter.unusedSimpArgs false
set_option linter.unusedVariables false
namespace Go.Proofs.Ytgmogbgkokofoaa
open Go Go.RowKit

/-- An item: its kind, a number, bytes. -/
structure It where
  k : Nat
  n : Nat
  b : List (BitVec 8)
/-- An item that may be. -/
def It.ok (x : It) : Prop := x.k < 6 ∧ x.n < 9223372036854775808 ∧ (x.k = 3 → x.n < 2) ∧ (x.k = 4 → x.b.length = 32) ∧ x.b.length < 1000000
/-- An item's bytes. -/
def It.put (x : It) : List (BitVec 8) := if x.k = 1 ∨ x.k = 2 then enc7 x.b.length ++ x.b else if x.k = 3 then [BitVec.ofNat 8 x.n] else if x.k = 4 then x.b else enc7 x.n
/-- The item as a value, its bytes where they lie. -/
def It.v (x : It) (p : Option Addr) (cap : Nat) : Value := .agg #[.int .i64 (x.k : Int), .int .i64 (x.n : Int), .slice p x.b.length cap]
attribute [local go_sem ↓] exec_bs
attribute [local go_sem] convIB6 bsB0 bsB1 bsb1
set_option maxRecDepth 100000 in
set_option maxHeartbeats 4000000 in
theorem refPut_any (x : It) (p : Option Addr) (cap : Nat) (w : World) (hx : x.ok) (hs : Sl w p x.b) (hp : p = none → cap = 0) : Calls Try.prog 10 #[x.v p cap] w (GivesB w x.put) := by
  obtain ⟨k, n, b⟩ := x
  obtain ⟨h1, h2, h3, h4, h5⟩ := hx
  dsimp only at h1 h2 h3 h4 h5 hs
  obtain ⟨len, hl⟩ : ∃ len, b.length = len := ⟨_, rfl⟩
  show Calls Try.prog 10 #[.agg #[.int .i64 (k : Int), .int .i64 (n : Int), .slice p b.length cap]] w _
  rw [hl] at h4 h5 ⊢
  have HL := Lib.hid hl
  have HP := Lib.hid hp
  have HB1 := Lib.hid (show Below w.heap.size w (w.alloc (.cells #[.int .i64 (k : Int), .int .i64 (n : Int), .slice p len cap] 29)) from (Below.refl _ _).alloc (Nat.le_refl _) _)
  have HS := Lib.hid (hs.of_below HB1.out)
  have y0 : (w.alloc (.cells #[.int .i64 (k : Int), .int .i64 (n : Int), .slice p len cap] 29)).cell? ⟨w.heap.size, 0, none⟩ = some (.int .i64 (k : Int)) := by rw [World.cell?_alloc_new]; rfl
  have y1 : (w.alloc (.cells #[.int .i64 (k : Int), .int .i64 (n : Int), .slice p len cap] 29)).cell? ⟨w.heap.size, 1, none⟩ = some (.int .i64 (n : Int)) := by rw [World.cell?_alloc_new]; rfl
  have y2 : (w.alloc (.cells #[.int .i64 (k : Int), .int .i64 (n : Int), .slice p len cap] 29)).cell? ⟨w.heap.size, 2, none⟩ = some (.slice p len cap) := by rw [World.cell?_alloc_new]; rfl
  have hlt : w.heap.size < (w.alloc (.cells #[.int .i64 (k : Int), .int .i64 (n : Int), .slice p len cap] 29)).heap.size := by rw [World.size_alloc]; omega
  clear hl hp hs
  have hk : k = 0 ∨ k = 1 ∨ k = 2 ∨ k = 3 ∨ k = 4 ∨ k = 5 := by omega
  rcases hk with rfl | rfl | rfl | rfl | rfl | rfl
  · have HN := Lib.hid (refNum n h2 (w.alloc (.cells #[.int .i64 (0 : Int), .int .i64 (n : Int), .slice p len cap] 29)))
    have HB := Lib.hid (show Below w.heap.size w (w.alloc (.cells #[.int .i64 (0 : Int), .int .i64 (n : Int), .slice p len cap] 29)) from HB1.out)
    clear h3 h4
    go_enter Try.func10, Try.ntmps10
    go_wp2_with fail
    refine HN.out.mono ?_
    rintro e w2 ⟨v2, rfl, hO2, hB2⟩
    have HO2 := Lib.hid (hO2.lower HB.out.size)
    have HB2 := Lib.hid (HB.out.trans (hB2.mono HB.out.size))
    clear hO2 hB2
    go_wp2
    go_ret
    exact ⟨_, rfl, HO2.out, HB2.out⟩
  · have HN := Lib.hid (refBytes_any b p len cap (w.alloc (.cells #[.int .i64 (1 : Int), .int .i64 (n : Int), .slice p len cap] 29)) HL.out HS.out HP.out (by omega))
    have HB := Lib.hid (show Below w.heap.size w (w.alloc (.cells #[.int .i64 (1 : Int), .int .i64 (n : Int), .slice p len cap] 29)) from HB1.out)
    have HE := Lib.hid (show (It.mk 1 n b).put = enc7 len ++ b from by rw [← HL.out]; rfl)
    clear h3 h4
    go_enter Try.func10, Try.ntmps10
    go_wp2_with fail
    refine HN.out.mono ?_
    rintro e w2 ⟨v2, rfl, hO2, hB2⟩
    have HO2 := Lib.hid (hO2.lower HB.out.size)
    have HB2 := Lib.hid (HB.out.trans (hB2.mono HB.out.size))
    clear hO2 hB2
    go_wp2
    go_ret
    exact ⟨_, rfl, by rw [HE.out]; exact HO2.out, HB2.out⟩
  · have HN := Lib.hid (refBytes_any b p len cap (w.alloc (.cells #[.int .i64 (2 : Int), .int .i64 (n : Int), .slice p len cap] 29)) HL.out HS.out HP.out (by omega))
    have HB := Lib.hid (show Below w.heap.size w (w.alloc (.cells #[.int .i64 (2 : Int), .int .i64 (n : Int), .slice p len cap] 29)) from HB1.out)
    have HE := Lib.hid (show (It.mk 2 n b).put = enc7 len ++ b from by rw [← HL.out]; rfl)
    clear h3 h4
    go_enter Try.func10, Try.ntmps10
    go_wp2_with fail
    refine HN.out.mono ?_
    rintro e w2 ⟨v2, rfl, hO2, hB2⟩
    have HO2 := Lib.hid (hO2.lower HB.out.size)
    have HB2 := Lib.hid (HB.out.trans (hB2.mono HB.out.size))
    clear hO2 hB2
    go_wp2
    go_ret
    exact ⟨_, rfl, by rw [HE.out]; exact HO2.out, HB2.out⟩
  · have hn2 := h3 rfl
    have hn3 : (n : Int) < 2 := by omega
    have HB := Lib.hid (show Below w.heap.size w (w.alloc (.cells #[.int .i64 (3 : Int), .int .i64 (n : Int), .slice p len cap] 29)) from HB1.out)
    have HO := Lib.hid (show OwnB ((w.alloc (.cells #[.int .i64 (3 : Int), .int .i64 (n : Int), .slice p len cap] 29)).alloc (.cells #[.int .u8 (n : Int)] 5)) w.heap.size (.slice (some ⟨w.heap.size + 1, 0, none⟩) 1 1) [BitVec.ofNat 8 n] from by have := OwnB.oneN (w.alloc (.cells #[.int .i64 (3 : Int), .int .i64 (n : Int), .slice p len cap] 29)) w.heap.size n (by omega) HB.out.size; rw [World.size_alloc] at this; exact this)
    have HB2 := Lib.hid (show Below w.heap.size w ((w.alloc (.cells #[.int .i64 (3 : Int), .int .i64 (n : Int), .slice p len cap] 29)).alloc (.cells #[.int .u8 (n : Int)] 5)) from HB.out.alloc HB.out.size _)
    clear h3 h4
    go_enter Try.func10, Try.ntmps10
    go_wp2
    go_ret
    exact ⟨_, rfl, HO.out, HB2.out⟩
  · have HB := Lib.hid (show Below w.heap.size w (w.alloc (.cells #[.int .i64 (4 : Int), .int .i64 (n : Int), .slice p len cap] 29)) from HB1.out)
    have HO := Lib.hid (show OwnB ((w.alloc (.cells #[.int .i64 (4 : Int), .int .i64 (n : Int), .slice p len cap] 29)).alloc (.cells #[] 5)) w.heap.size (.slice (some ⟨w.heap.size + 1, 0, none⟩) 0 0) [] from by have := OwnB.empty (w.alloc (.cells #[.int .i64 (4 : Int), .int .i64 (n : Int), .slice p len cap] 29)) w.heap.size HB.out.size; rw [World.size_alloc] at this; exact this)
    have HBE := Lib.hid (show Below w.heap.size w ((w.alloc (.cells #[.int .i64 (4 : Int), .int .i64 (n : Int), .slice p len cap] 29)).alloc (.cells #[] 5)) from HB.out.alloc HB.out.size _)
    have HSE := Lib.hid (show Sl ((w.alloc (.cells #[.int .i64 (4 : Int), .int .i64 (n : Int), .slice p len cap] 29)).alloc (.cells #[] 5)) p b from HS.out.of_below ((Below.refl _ _).alloc (Nat.le_refl _) _))
    have y3 : ((w.alloc (.cells #[.int .i64 (4 : Int), .int .i64 (n : Int), .slice p len cap] 29)).alloc (.cells #[] 5)).cell? ⟨w.heap.size, 2, none⟩ = some (.slice p len cap) := by
      rw [World.cell?_alloc_lt _ _ _ (by exact hlt)]
      exact y2
    have hN := HBE.out.size
    clear h3 h4
    go_enter Try.func10, Try.ntmps10
    go_wp2_with (first | (refine wpl_append _ rfl (.tmp 19) (.tmp 21) rfl w.heap.size (.slice (some ⟨w.heap.size + 1, 0, none⟩) 0 0) [] rfl HO.out p len cap b HL.out rfl HSE.out HP.out (by simp; omega) hN ?_; rintro v3 w3 hO3 hg3; rw [List.nil_append] at hO3; have HO3 := Lib.hid hO3; have HB3 := Lib.hid (HBE.out.grown hg3 hN (fun k hk => by have : w.heap.size + 1 = k := (by simpa [Value.ownBlock] using hk); omega)); clear hO3 hg3))
    go_wp2
    go_ret
    exact ⟨_, rfl, HO3.out, HB3.out⟩
  · have HN := Lib.hid (refNum n h2 (w.alloc (.cells #[.int .i64 (5 : Int), .int .i64 (n : Int), .slice p len cap] 29)))
    have HB := Lib.hid (show Below w.heap.size w (w.alloc (.cells #[.int .i64 (5 : Int), .int .i64 (n : Int), .slice p len cap] 29)) from HB1.out)
    clear h3 h4
    go_enter Try.func10, Try.ntmps10
    go_wp2_with fail
    refine HN.out.mono ?_
    rintro e w2 ⟨v2, rfl, hO2, hB2⟩
    have HO2 := Lib.hid (hO2.lower HB.out.size)
    have HB2 := Lib.hid (HB.out.trans (hB2.mono HB.out.size))
    clear hO2 hB2
    go_wp2
    go_ret
    exact ⟨_, rfl, HO2.out, HB2.out⟩
end Go.Proofs.Ytgmogbgkokofoaa
