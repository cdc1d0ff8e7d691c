/- What the program's writer is asked to do; the document's example of layer 6. -/
import Derived.Test.YtgmogbgkokofoaaCode6
set_option linter.unusedSimpArgs false
set_option linter.unusedVariables false
namespace Go.Proofs.Ytgmogbgkokofoaa
open Go Go.RowKit

/-- A new Writer's cells: to be held against the program's own. -/
def zW : Array Value := #[.slice none 0 0]
/-- What a writer's function leaves: the writer with more bytes; its own block g, or a new one. -/
def WrPost (Wr : Nat → World → Addr → Option Nat → List (BitVec 8) → Prop) (N : Nat) (w : World) (a : Addr) (g : Option Nat) (l : List (BitVec 8)) (w' : World) : Prop :=
  ∃ g', Wr N w' a g' l ∧ (∀ k, g' = some k → g = some k ∨ w.heap.size ≤ k) ∧ Kq a.block g w w'
/-- The premises on the writer. Wr N w a g l: the writer at a, among the blocks from N on, has the bytes l, its bytes in block g. -/
structure WrSpec (Wr : Nat → World → Addr → Option Nat → List (BitVec 8) → Prop) : Prop where
  lie : ∀ N w a g l, Wr N w a g l → N ≤ a.block ∧ a.block < w.heap.size ∧ ∀ k, g = some k → N ≤ k ∧ k < w.heap.size ∧ k ≠ a.block
  stay : ∀ N w w' a g l, Wr N w a g l → w.heap.size ≤ w'.heap.size → w'.heap[a.block]? = w.heap[a.block]? → (∀ k, g = some k → w'.heap[k]? = w.heap[k]?) → Wr N w' a g l
  zero : ∀ (N : Nat) (w : World), N ≤ w.heap.size → Wr N (w.alloc (.cells zW 27)) ⟨w.heap.size, 0, none⟩ none []
  number : ∀ N w a g l (n : Nat), Wr N w a g l → l.length < 1000000000 → n < 9223372036854775808 → Calls Try.prog 12 #[.pointer (some a), .int .i64 (n : Int)] w fun e w' => e = .returned (.bool true) ∧ WrPost Wr N w a g (l ++ enc7 n) w'
  neg : ∀ N w a g l (n : Int), Wr N w a g l → n < 0 → Calls Try.prog 12 #[.pointer (some a), .int .i64 n] w fun e w' => e = .returned (.bool false) ∧ Below w.heap.size w w'
  bytes : ∀ N w a g l (p : Option Addr) (n cap : Nat) (bs : List (BitVec 8)), Wr N w a g l → l.length < 1000000000 → bs.length = n → Sl w p bs → (p = none → cap = 0) → n < 1000000 → (0 < n → ∀ c o, p = some ⟨c, o, none⟩ → c < N) → Calls Try.prog 26 #[.pointer (some a), .slice p n cap] w fun e w' => e = .returned (.tuple #[]) ∧ WrPost Wr N w a g (l ++ (enc7 n ++ bs)) w'
  text : ∀ N w a g l (bs : List (BitVec 8)), Wr N w a g l → l.length < 1000000000 → bs.length < 1000000 → Calls Try.prog 27 #[.pointer (some a), .string (strOf bs)] w fun e w' => e = .returned (.tuple #[]) ∧ WrPost Wr N w a g (l ++ (enc7 bs.length ++ bs)) w'
  truth : ∀ N w a g l (b : Bool), Wr N w a g l → l.length < 1000000000 → Calls Try.prog 28 #[.pointer (some a), .bool b] w fun e w' => e = .returned (.tuple #[]) ∧ WrPost Wr N w a g (l ++ [if b then 1#8 else 0#8]) w'
  digest : ∀ N w a g l (bs : List (BitVec 8)), Wr N w a g l → l.length < 1000000000 → bs.length = 32 → Calls Try.prog 29 #[.pointer (some a), digV bs] w fun e w' => e = .returned (.tuple #[]) ∧ WrPost Wr N w a g (l ++ bs) w'
  done : ∀ N w a g l, Wr N w a g l → l.length < 1000000000 → Calls Try.prog 11 #[.pointer (some a)] w fun e w' => GivesB w l e w'
section
variable {Wr : Nat → World → Addr → Option Nat → List (BitVec 8) → Prop} (T : WrSpec Wr) {N : Nat} {w w' : World} {a : Addr} {g : Option Nat} {l : List (BitVec 8)}
include T
theorem WrSpec.keep (h : Wr N w a g l) (k : Below w.heap.size w w') : Wr N w' a g l :=
  T.stay _ _ _ _ _ _ h k.size (k.block _ (T.lie _ _ _ _ _ h).2.1) fun c hc => k.block _ ((T.lie _ _ _ _ _ h).2.2 c hc).2.1
theorem WrSpec.base (h : Wr N w a g l) : N ≤ w.heap.size := by have := T.lie _ _ _ _ _ h; omega
theorem WrSpec.below (h : Wr N w a g l) (k : Kq a.block g w w') : Below N w w' := k.below (T.lie _ _ _ _ _ h).1 (fun c hc => ((T.lie _ _ _ _ _ h).2.2 c hc).1) (T.base h)
theorem WrSpec.far (h : Wr N w a g l) {b : Nat} (hb : b ≠ a.block) (hg : g ≠ some b) (o : Nat) (v : Value) : Wr N (w.setCell ⟨b, o, none⟩ v) a g l :=
  T.stay _ _ _ _ _ _ h (by simp) (Below.heap_setCell _ _ _ _ (Ne.symm hb)) fun k hk => Below.heap_setCell _ _ _ _ (fun e => hg (by rw [hk]; exact congrArg some e))
end
theorem take300 : takeI [172#8, 2#8] 300 = (300, 2, 0) := by decide
theorem enc300 : enc7 300 = [172#8, 2#8] := by rw [enc7_hi (by decide), enc7_lo (by decide)]
theorem enters_aw : ∀ args w, (callFunc 25 args).run Try.prog w = .ok (.enter 25 args) w := enters_of Try.func25 (by kernel_rfl) rfl
theorem Sl.far {w : World} {p : Option Addr} {l : List (BitVec 8)} {y : Nat} (h : Sl w p l) (hne : ∀ c o, p = some ⟨c, o, none⟩ → c ≠ y) (v : Value) : Sl (w.setCell ⟨y, 0, none⟩ v) p l := fun j hj => by
  obtain ⟨c, o, e, hc⟩ := h j hj
  exact ⟨c, o, e, by rw [World.cell?_setCell_far _ _ _ _ (show y ≠ c from Ne.symm (hne c o e))]; exact hc⟩
theorem Sl.belowN {x y : World} {p : Option Addr} {l : List (BitVec 8)} {N : Nat} (h : Sl x p l) (hlt : ∀ c o, p = some ⟨c, o, none⟩ → c < N) (k : Below N x y) : Sl y p l := fun j hj => by
  obtain ⟨c, o, e, hc⟩ := h j hj
  exact ⟨c, o, e, by rw [k.cell (by exact hlt c o e)]; exact hc⟩
theorem Sl.blk {w : World} {p : Option Addr} {l : List (BitVec 8)} (h : Sl w p l) (hl : 0 < l.length) : ∀ c o, p = some ⟨c, o, none⟩ → c < w.heap.size := fun c o e => by
  obtain ⟨c', o', e', hc⟩ := h 0 hl
  rw [e] at e'
  injection e' with e'
  injection e' with e1 e2
  subst e1
  exact World.block_lt_of_cell? w _ hc
attribute [local go_sem] mkFn
section
variable {Rd : Option Addr → Nat → World → Addr → List (BitVec 8) → Prop} {Thr : Addr → Nat → World → Value → Prop} (S : RdSpec Rd Thr)
include S
set_option maxHeartbeats 1000000 in
theorem awake_in (p : Option Addr) (N : Nat) (w : World) (a : Addr) (y : Nat) (hpy : ∀ c o, p = some ⟨c, o, none⟩ → c ≠ y) (hR : Rd p N w a [172#8, 2#8]) (hs : (w.cell? ⟨y, 0, none⟩).isSome = true) (hf : w.frozen? ⟨y, 0, none⟩ = false) (hy : y < N) :
    Calls Try.prog 25 (#[.pointer (some a)] ++ #[.pointer (some ⟨y, 0, none⟩)]) w fun e w' => e = .returned (.tuple #[]) ∧ ∃ w2, Below N w w2 ∧ w' = w2.setCell ⟨y, 0, none⟩ (.int .i64 300) ∧ Rd p N w' a [] ∧ Loc N a.block w w' := by
  have HNU := Lib.hid (S.number p N w a _ 300 hR)
  have HL := Lib.hid (S.lie _ _ _ _ _ hR)
  have HS := Lib.hid S
  clear hR S
  show Calls Try.prog _ #[.pointer (some a), .pointer (some ⟨y, 0, none⟩)] w _
  go_enter Try.func25, Try.ntmps25
  go_wp2_with fail
  refine HNU.out.mono ?_
  rintro e w2 ⟨hK, h | h⟩
  · obtain ⟨-, ⟨_, rfl, rfl⟩, hR2⟩ := h
    have hB := hK.below HL.out.1 (Nat.le_trans HL.out.1 (Nat.le_of_lt HL.out.2))
    have HLO := Lib.hid ((Loc.ofKp (N := N) hK).trans (Loc.low w2 hy 0 (.int .i64 300)))
    clear hK
    have s2 : (w2.cell? ⟨y, 0, none⟩).isSome = true := by rw [hB.cell (by exact hy)]; exact hs
    have f2 : w2.frozen? ⟨y, 0, none⟩ = false := by rw [hB.frozen (by exact hy)]; exact hf
    obtain ⟨sv, s3⟩ := Option.isSome_iff_exists.1 s2
    rw [take300] at hR2
    have HR2 := Lib.hid (HS.out.far hR2 (by have := HL.out.1; omega) (fun _ => hpy) 0 (.int .i64 300))
    have HB := Lib.hid hB
    have e3 : (takeI [172#8, 2#8] 300).1 = 300 := by rw [take300]
    rw [e3]
    clear hB hR2 s2 hs hf e3
    go_wp2
    go_end0
    exact ⟨rfl, w2, HB.out, rfl, HR2.out, HLO.out⟩
  · exact absurd (by rw [take300]) h.1
variable {Wr : Nat → World → Addr → Option Nat → List (BitVec 8) → Prop} (T : WrSpec Wr)
include T
set_option maxRecDepth 100000 in
set_option maxHeartbeats 4000000 in
theorem awake6 (w : World) : Calls Try.prog 7 #[] w fun e w' => e = .returned (.bool true) ∧ Below w.heap.size w w' := by
  have HS := Lib.hid S
  have HB0 := Lib.hid (show Below w.heap.size w (w.alloc (.cells zW 27)) from (Below.refl _ _).alloc (Nat.le_refl _) _)
  have HNU := Lib.hid (T.number w.heap.size _ _ _ [] 300 (T.zero w.heap.size w (Nat.le_refl _)) (by decide) (by decide))
  have HT := Lib.hid T
  clear S T
  unfold zW at HB0 HNU
  go_enter Try.func7, Try.ntmps7
  go_wp2_with fail
  refine HNU.out.mono ?_
  rintro e w1 ⟨rfl, g1, hW1, -, hK1⟩
  have hB1 : Below w.heap.size _ w1 := hK1.below (Nat.le_refl _) (fun k hk => by cases hk) (by rw [World.size_alloc]; omega)
  rw [List.nil_append, enc300] at hW1
  have HB1 := Lib.hid (HB0.out.trans hB1)
  have HD := Lib.hid (HT.out.done _ w1 _ _ _ hW1 (by decide))
  clear hW1 hB1 hK1 HB0 HNU
  go_wp2_with fail
  refine HD.out.mono ?_
  rintro e w2 ⟨v, rfl, hO2, hB2⟩
  obtain ⟨p, cap, rfl, hs, hp, hc⟩ := hO2.shape
  have hN1 := HB1.out.size
  have HB2 := Lib.hid (HB1.out.trans (hB2.mono hN1))
  have hBx : Below w2.heap.size w2 (w2.alloc (.cells #[.int .i64 0] 3)) := (Below.refl _ _).alloc (Nat.le_refl _) _
  have HSX := Lib.hid (hs.of_below hBx)
  have HSP := Lib.hid hp
  have HBX := Lib.hid (HB2.out.trans (hBx.mono HB2.out.size))
  have hc0 : (w2.alloc (.cells #[.int .i64 0] 3)).cell? ⟨w2.heap.size, 0, none⟩ = some (.int .i64 0) := World.cell?_alloc_new _ _ _ _
  have hf0 : (w2.alloc (.cells #[.int .i64 0] 3)).frozen? ⟨w2.heap.size, 0, none⟩ = false := by go_simp
  have hlt : w2.heap.size < (w2.alloc (.cells #[.int .i64 0] 3)).heap.size := by rw [World.size_alloc]; exact Nat.lt_succ_self _
  have hl : w.heap.size ≤ w2.heap.size := HB2.out.size
  have hblk := hs.blk (by decide)
  generalize hy : w2.heap.size = y at *
  have hV : ∃ V, w2.alloc (.cells #[.int .i64 0] 3) = V := ⟨_, rfl⟩
  have HRD : Calls Try.prog 13 #[.slice p 2 cap, .func (.func 25) #[] #[.pointer (some ⟨y, 0, none⟩)]] (w2.alloc (.cells #[.int .i64 0] 3)) fun e u => e = .returned (.int .i64 0) ∧ u.cell? ⟨y, 0, none⟩ = some (.int .i64 300) ∧ Sl u p [172#8, 2#8] ∧ Below w.heap.size w u := by
    generalize w2.alloc (.cells #[.int .i64 0] 3) = V at *
    have hR := HS.out.read [172#8, 2#8] p 2 cap 25 #[.pointer (some ⟨y, 0, none⟩)] V (fun c u => c = 0 ∧ u.cell? ⟨y, 0, none⟩ = some (.int .i64 300) ∧ Sl u p [172#8, 2#8] ∧ Below w.heap.size w u) rfl HSX.out HSP.out hc (by decide) enters_aw
      (fun c u x ⟨h1, h2, h4, h3⟩ k => ⟨h1, by rw [k.cell (by exact hlt)]; exact h2, h4.belowN (fun c o e => Nat.lt_trans (hblk c o e) hlt) k, h3.trans (k.mono (by omega))⟩)
      (fun a1 u1 hb1 hr1 => (awake_in HS.out _ _ u1 a1 y (fun c o e => Nat.ne_of_lt (hblk c o e)) hr1 (by rw [hb1.cell (by exact hlt), hc0]; rfl) (by rw [hb1.frozen (by exact hlt)]; exact hf0) hlt).mono fun e u ⟨h1, w3, h2, h3, h4, hlo⟩ => ⟨hlo, .inl ⟨[], h1, h4, rfl, by
        rw [h3]
        exact World.cell?_setCell_same _ _ _ (by rw [h2.cell (by exact hlt), hb1.cell (by exact hlt)]; exact hc0), by
        rw [h3]
        exact ((HSX.out.belowN (fun c o e => Nat.lt_trans (hblk c o e) hlt) hb1).belowN (fun c o e => Nat.lt_trans (hblk c o e) hlt) h2).far (fun c o e => Nat.ne_of_lt (hblk c o e)) _, by
        rw [h3]
        exact ((HBX.out.trans (hb1.mono (by omega))).trans (h2.mono (by omega))).setCell (by exact hl) _⟩⟩)
    exact hR.mono fun e u ⟨c, h1, h2, h3⟩ => ⟨by rw [h1, h2]; rfl, h3⟩
  have HRD2 := Lib.hid HRD
  clear HRD hV hs hp hc0 hf0 hlt hBx hB2 hO2 HD hblk HSX HBX
  subst hy
  go_wp2_with fail
  refine HRD2.out.mono ?_
  rintro e u ⟨rfl, hn, hsu, hB⟩
  have hcv := conv_str u p [172#8, 2#8] 2 cap hsu rfl HSP.out
  have hse : ((strOf [172#8, 2#8]).toList == [172, 2]) = true := by first | rfl | simp [strOf] | kernel_rfl
  have HB := Lib.hid hB
  clear hB hsu HRD2
  generalize strOf [172#8, 2#8] = sv at *
  go_wp2
  go_ret
  exact ⟨rfl, HB.out⟩
end
end Go.Proofs.Ytgmogbgkokofoaa
