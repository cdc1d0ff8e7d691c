/- What the program's reader is asked to do: the premises of layer 6's walks. -/
import Derived.Test.YtgmogbgkokofoaaSame6
import Derived.Shelf.Abstract
import Derived.Deep.RegionHeld3
set_option linter.unusedSimpArgs false
set_option linter.unusedVariables false
namespace Go.Proofs.Ytgmogbgkokofoaa
open Go Go.RowKit

/-- What is thrown at the end of a reading, once. -/
def Thrown (Thr : Nat → World → Value → Prop) (code : Nat) (e : Ending) (w : World) : Prop := ∃ v, Thr code w v ∧ e = .panicked [{ v := v, recovered := false }]
/-- Of the blocks that were there only block b, and g, may have changed. -/
structure Kq (b : Nat) (g : Option Nat) (w w' : World) : Prop where
  os : w'.os = w.os
  tape : w'.tape = w.tape
  output : w'.output = w.output
  size : w.heap.size ≤ w'.heap.size
  block : ∀ k, k < w.heap.size → k ≠ b → g ≠ some k → w'.heap[k]? = w.heap[k]?
theorem Kq.below {b : Nat} {g : Option Nat} {x y : World} (h : Kq b g x y) {N : Nat} (hN : N ≤ b) (hg : ∀ k, g = some k → N ≤ k) (hx : N ≤ x.heap.size) : Below N x y :=
  ⟨h.os, h.tape, h.output, h.size, fun k hk => h.block k (by omega) (by omega) (fun e => by have := hg k e; omega)⟩
/-- Of the blocks from N on that were there only block b may have changed. -/
structure Loc (N b : Nat) (w w' : World) : Prop where
  size : w.heap.size ≤ w'.heap.size
  block : ∀ k, N ≤ k → k < w.heap.size → k ≠ b → w'.heap[k]? = w.heap[k]?
theorem Loc.refl (N b : Nat) (w : World) : Loc N b w w := ⟨Nat.le_refl _, fun _ _ _ _ => rfl⟩
theorem Loc.trans {N b : Nat} {x y z : World} (h : Loc N b x y) (k : Loc N b y z) : Loc N b x z :=
  ⟨Nat.le_trans h.size k.size, fun i h1 h2 h3 => (k.block i h1 (Nat.lt_of_lt_of_le h2 h.size) h3).trans (h.block i h1 h2 h3)⟩
theorem Loc.ofBelow {N b : Nat} {x y : World} (k : Below x.heap.size x y) : Loc N b x y := ⟨k.size, fun i _ h _ => k.block i h⟩
theorem Loc.ofKp {N b : Nat} {x y : World} (k : Kp b x y) : Loc N b x y := ⟨k.size, fun i _ h h2 => k.block i h h2⟩
theorem Loc.low {N b y : Nat} (w : World) (h : y < N) (o : Nat) (v : Value) : Loc N b w (w.setCell ⟨y, o, none⟩ v) := ⟨by simp, fun k h1 _ _ => Below.heap_setCell _ _ _ _ (by show k ≠ y; omega)⟩
theorem Loc.high {N b d : Nat} {x y z : World} (h : Loc N b x y) (k : Kp d y z) (hd : x.heap.size ≤ d) : Loc N b x z :=
  ⟨Nat.le_trans h.size k.size, fun i h1 h2 h3 => (k.block i (Nat.lt_of_lt_of_le h2 h.size) (by omega)).trans (h.block i h1 h2 h3)⟩
/-- What a reader's function tells: the code, how many bytes it took, the value. -/
def RdPost (Rd : Option Addr → Nat → World → Addr → List (BitVec 8) → Prop) (Thr : Addr → Nat → World → Value → Prop) (p : Option Addr) (N : Nat) (w : World) (a : Addr) (l : List (BitVec 8)) (code k : Nat) (ret : Value → World → Prop) (e : Ending) (w' : World) : Prop :=
  Kp a.block w w' ∧ ((code = 0 ∧ (∃ v, e = .returned v ∧ ret v w') ∧ Rd p N w' a (l.drop k)) ∨ (code ≠ 0 ∧ Thrown (Thr a) code e w'))
/-- A digest as a value. -/
def dgF (l : List (BitVec 8)) (i : Nat) : Value := B (l.getD i 0#8)
def digV (l : List (BitVec 8)) : Value := .agg (tab 32 (dgF l))
attribute [irreducible] digV
/-- The premises. Rd p N w a l: the reader at a, among the blocks from N on, has the bytes l left, of a slice that begins at p; Thr a code v: v is what the reader at a throws for an error. -/
structure RdSpec (Rd : Option Addr → Nat → World → Addr → List (BitVec 8) → Prop) (Thr : Addr → Nat → World → Value → Prop) : Prop where
  lie : ∀ p N w a l, Rd p N w a l → N ≤ a.block ∧ a.block < w.heap.size
  stay : ∀ p N w w' a l, Rd p N w a l → w.heap.size ≤ w'.heap.size → w'.heap[a.block]? = w.heap[a.block]? → (∀ c o, p = some ⟨c, o, none⟩ → c < N → w'.heap[c]? = w.heap[c]?) → Rd p N w' a l
  left : ∀ p N w a l, Rd p N w a l → Calls Try.prog 15 #[.pointer (some a)] w fun e w' => e = .returned (.int .i64 (l.length : Int)) ∧ Dr w w'
  fail : ∀ p N w a l (c : Nat), Rd p N w a l → c < 15 → Calls Try.prog 22 #[.pointer (some a), .int .i64 (c : Int)] w fun e w' => Thrown (Thr a) (if c = 0 then 6 else c) e w' ∧ Kp a.block w w'
  number : ∀ p N w a l (most : Int), Rd p N w a l → Calls Try.prog 23 #[.pointer (some a), .int .i64 most] w (RdPost Rd Thr p N w a l (takeI l most).2.2 (takeI l most).2.1 fun v _ => v = .int .i64 ((takeI l most).1 : Int))
  count : ∀ p N w a l (most : Int), Rd p N w a l → Calls Try.prog 39 #[.pointer (some a), .int .i64 most] w (RdPost Rd Thr p N w a l (takeI l most).2.2 (takeI l most).2.1 fun v _ => v = .int .i64 ((takeI l most).1 : Int))
  bytes : ∀ p N w a l (most : Int), Rd p N w a l → Calls Try.prog 35 #[.pointer (some a), .int .i64 most] w (RdPost Rd Thr p N w a l (nextI l 1 most).2.2 (nextI l 1 most).2.1 fun v w' => OwnB w' w.heap.size v (nextI l 1 most).1.b)
  text : ∀ p N w a l (most : Int), Rd p N w a l → Calls Try.prog 36 #[.pointer (some a), .int .i64 most] w (RdPost Rd Thr p N w a l (nextI l 2 most).2.2 (nextI l 2 most).2.1 fun v _ => v = .string (strOf (nextI l 2 most).1.b))
  truth : ∀ p N w a l, Rd p N w a l → Calls Try.prog 37 #[.pointer (some a)] w (RdPost Rd Thr p N w a l (nextI l 3 0).2.2 (nextI l 3 0).2.1 fun v _ => v = .bool (decide ((nextI l 3 0).1.n = 1)))
  digest : ∀ p N w a l, Rd p N w a l → Calls Try.prog 38 #[.pointer (some a)] w (RdPost Rd Thr p N w a l (nextI l 4 0).2.2 (nextI l 4 0).2.1 fun v _ => v = digV (nextI l 4 0).1.b)
  read : ∀ (l : List (BitVec 8)) (p : Option Addr) (n cap g : Nat) (caps : Array Value) (w : World) (J : Nat → World → Prop), l.length = n → Sl w p l → (p = none → cap = 0) → n ≤ cap → n < 1000000 →
    (∀ args w, (callFunc g args).run Try.prog w = .ok (.enter g args) w) → (∀ c x y, J c x → Below w.heap.size x y → J c y) →
    (∀ a w1, Below w.heap.size w w1 → Rd p w.heap.size w1 a l → Calls Try.prog g (#[.pointer (some a)] ++ caps) w1 fun e w2 => Loc w.heap.size a.block w1 w2 ∧ ((∃ rest, e = .returned (.tuple #[]) ∧ Rd p w.heap.size w2 a rest ∧ J (if rest = [] then 0 else 6) w2) ∨ (∃ code : Nat, Thrown (Thr a) code e w2 ∧ J code w2))) →
    Calls Try.prog 13 #[.slice p n cap, .func (.func g) #[] caps] w fun e w' => ∃ code : Nat, e = .returned (.int .i64 (code : Int)) ∧ J code w'
section
variable {Rd : Option Addr → Nat → World → Addr → List (BitVec 8) → Prop} {Thr : Addr → Nat → World → Value → Prop} (S : RdSpec Rd Thr) {p : Option Addr} {N : Nat} {w w' : World} {a : Addr} {l : List (BitVec 8)}
include S
theorem RdSpec.keep (h : Rd p N w a l) (k : Below w.heap.size w w') : Rd p N w' a l :=
  S.stay _ _ _ _ _ _ h k.size (k.block _ (S.lie _ _ _ _ _ h).2) fun c o _ hc => k.block _ (by have := S.lie _ _ _ _ _ h; omega)
theorem RdSpec.keepM (h : Rd p N w a l) {M : Nat} (ha : a.block < M) (hN : N ≤ M) (k : Below M w w') : Rd p N w' a l :=
  S.stay _ _ _ _ _ _ h k.size (k.block _ ha) fun c o _ hc => k.block _ (by omega)
theorem RdSpec.base (h : Rd p N w a l) : N ≤ w.heap.size := by have := S.lie _ _ _ _ _ h; omega
theorem RdSpec.far (h : Rd p N w a l) {b : Nat} (hb : b ≠ a.block) (hp : b < N → ∀ c o, p = some ⟨c, o, none⟩ → c ≠ b) (o : Nat) (v : Value) : Rd p N (w.setCell ⟨b, o, none⟩ v) a l :=
  S.stay _ _ _ _ _ _ h (by simp) (Below.heap_setCell _ _ _ _ (Ne.symm hb)) fun c o' e hc => Below.heap_setCell _ _ _ _ (by
    show c ≠ b
    by_cases hbN : b < N
    · exact hp hbN c o' e
    · omega)
end
theorem take12 : takeI [1#8, 2#8] 9 = (1, 1, 0) := by decide
theorem enters_in : ∀ args w, (callFunc 21 args).run Try.prog w = .ok (.enter 21 args) w := enters_of Try.func21 (by kernel_rfl) rfl
theorem mkFn : ∀ (fn : Fn) (first cap : Array Value) (w : World), (Instr.makeFunc fn first cap).run Try.prog w = .ok (.func fn first cap) w := fun _ _ _ _ => rfl
section
variable {Rd : Option Addr → Nat → World → Addr → List (BitVec 8) → Prop} {Thr : Addr → Nat → World → Value → Prop} (S : RdSpec Rd Thr)
include S
set_option maxHeartbeats 1000000 in
/-- The inner reading of CodecFails: it ends with its error, and nothing comes behind. -/
theorem fails_in (p : Option Addr) (N : Nat) (w : World) (a : Addr) (l : List (BitVec 8)) (y c : Nat) (bb : Addr) (hR : Rd p N w a l) (hy : w.cell? ⟨y, 0, none⟩ = some (.int .i64 (c : Int))) (hc : c < 15) :
    Calls Try.prog 21 (#[.pointer (some a)] ++ #[.pointer (some ⟨y, 0, none⟩), .pointer (some bb)]) w fun e w' => Thrown (Thr a) (if c = 0 then 6 else c) e w' ∧ Below N w w' ∧ Loc N a.block w w' := by
  have HF := Lib.hid (S.fail p N w a l c hR hc)
  have HL := Lib.hid (S.lie _ _ _ _ _ hR)
  clear hR S
  show Calls Try.prog _ #[.pointer (some a), .pointer (some ⟨y, 0, none⟩), .pointer (some bb)] w _
  go_enter Try.func21, Try.ntmps21
  go_wp2_with fail
  refine HF.out.mono ?_
  rintro e w' ⟨⟨v, hv, rfl⟩, hB⟩
  exact ⟨rfl, ⟨v, hv, rfl⟩, hB.below HL.out.1 (Nat.le_trans HL.out.1 (Nat.le_of_lt HL.out.2)), Loc.ofKp hB⟩
attribute [local go_sem] mkFn
set_option maxHeartbeats 2000000 in
/-- The outer reading of CodecFails, nothing within. -/
theorem fails_out0 (p : Option Addr) (N : Nat) (w : World) (a : Addr) (bi y bb bs x cx : Nat) (hR : Rd p N w a [1#8, 2#8]) (hi : w.cell? ⟨bi, 0, none⟩ = some (.bool false)) (hx : w.cell? ⟨x, 0, none⟩ = some (.int .i64 (cx : Int))) (hc : cx < 15) :
    Calls Try.prog 20 (#[.pointer (some a)] ++ #[.pointer (some ⟨bi, 0, none⟩), .pointer (some ⟨y, 0, none⟩), .pointer (some ⟨bb, 0, none⟩), .pointer (some ⟨bs, 0, none⟩), .pointer (some ⟨x, 0, none⟩)]) w fun e w' => Thrown (Thr a) (if cx = 0 then 6 else cx) e w' ∧ Below N w w' ∧ Loc N a.block w w' := by
  have HF := Lib.hid (S.fail p N w a _ cx hR hc)
  have HL := Lib.hid (S.lie _ _ _ _ _ hR)
  clear hR S
  show Calls Try.prog _ #[.pointer (some a), .pointer (some ⟨bi, 0, none⟩), .pointer (some ⟨y, 0, none⟩), .pointer (some ⟨bb, 0, none⟩), .pointer (some ⟨bs, 0, none⟩), .pointer (some ⟨x, 0, none⟩)] w _
  go_enter Try.func20, Try.ntmps20
  go_wp2_with fail
  refine HF.out.mono ?_
  rintro e w' ⟨⟨v, hv, rfl⟩, hB⟩
  exact ⟨rfl, ⟨v, hv, rfl⟩, hB.below HL.out.1 (Nat.le_trans HL.out.1 (Nat.le_of_lt HL.out.2)), Loc.ofKp hB⟩
set_option maxHeartbeats 2000000 in
/-- The outer reading of CodecFails, with a reading within. -/
theorem fails_out1 (p : Option Addr) (N : Nat) (w : World) (a : Addr) (bi y bb bs x cx cy : Nat) (hR : Rd p N w a [1#8, 2#8]) (hi : w.cell? ⟨bi, 0, none⟩ = some (.bool true)) (hx : w.cell? ⟨x, 0, none⟩ = some (.int .i64 (cx : Int))) (hy : w.cell? ⟨y, 0, none⟩ = some (.int .i64 (cy : Int)))
    (hs : (w.cell? ⟨bs, 0, none⟩).isSome = true) (hf : w.frozen? ⟨bs, 0, none⟩ = false) (lb : bs < N) (ly : y < N) (lx : x < N) (ne : x ≠ bs) (hpb : ∀ c o, p = some ⟨c, o, none⟩ → c ≠ bs) (hc : cx < 15) (hcy : cy < 15) :
    Calls Try.prog 20 (#[.pointer (some a)] ++ #[.pointer (some ⟨bi, 0, none⟩), .pointer (some ⟨y, 0, none⟩), .pointer (some ⟨bb, 0, none⟩), .pointer (some ⟨bs, 0, none⟩), .pointer (some ⟨x, 0, none⟩)]) w fun e w' => Thrown (Thr a) (if cx = 0 then 6 else cx) e w' ∧ (∃ w2, Below N w w2 ∧ Below N (w2.setCell ⟨bs, 0, none⟩ (.int .i64 ((if cy = 0 then 6 else cy : Nat) : Int))) w') ∧ Loc N a.block w w' := by
  have hN := S.base hR
  have HS := Lib.hid S
  have HR := Lib.hid hR
  clear hR S
  show Calls Try.prog _ #[.pointer (some a), .pointer (some ⟨bi, 0, none⟩), .pointer (some ⟨y, 0, none⟩), .pointer (some ⟨bb, 0, none⟩), .pointer (some ⟨bs, 0, none⟩), .pointer (some ⟨x, 0, none⟩)] w _
  have HB1 := Lib.hid (show Below w.heap.size w (w.alloc (.cells #[.int .u8 3] 5)) from (Below.refl _ _).alloc (Nat.le_refl _) _)
  have HSL := Lib.hid (show Sl (w.alloc (.cells #[.int .u8 3] 5)) (some ⟨w.heap.size, 0, none⟩) [3#8] from fun j hj => by
    have : j = 0 := by simp at hj; omega
    subst this
    refine ⟨w.heap.size, 0, rfl, ?_⟩
    rw [World.cell?_alloc_new]
    show some (Value.int .u8 3) = some (B 3#8)
    rw [B_eq']; rfl)
  have hlt : w.heap.size < (w.alloc (.cells #[.int .u8 3] 5)).heap.size := by rw [World.size_alloc]; exact Nat.lt_succ_self _
  have hN1 : N ≤ (w.alloc (.cells #[.int .u8 3] 5)).heap.size := by omega
  have hy1 : (w.alloc (.cells #[.int .u8 3] 5)).cell? ⟨y, 0, none⟩ = some (.int .i64 (cy : Int)) := by rw [HB1.out.cell (by show y < w.heap.size; omega)]; exact hy
  have HRD := Lib.hid (HS.out.read [3#8] (some ⟨w.heap.size, 0, none⟩) 1 1 21 #[.pointer (some ⟨y, 0, none⟩), .pointer (some ⟨bb, 0, none⟩)] (w.alloc (.cells #[.int .u8 3] 5)) (fun c w' => c = (if cy = 0 then 6 else cy) ∧ Below (w.alloc (.cells #[.int .u8 3] 5)).heap.size (w.alloc (.cells #[.int .u8 3] 5)) w') rfl HSL.out (fun h => by cases h) (Nat.le_refl _) (by decide) enters_in (fun c u v h k => ⟨h.1, h.2.trans k⟩)
    (fun a1 w1 hb1 hr1 => (fails_in HS.out _ _ w1 a1 _ y cy ⟨bb, 0, none⟩ hr1 (by rw [hb1.cell (by show y < _; omega)]; exact hy1) hcy).mono fun e w' ⟨ht, hb, hlo⟩ => ⟨hlo, .inr ⟨_, ht, rfl, hb1.trans hb⟩⟩))
  have hi1 : (w.alloc (.cells #[.int .u8 3] 5)).cell? ⟨bi, 0, none⟩ = some (.bool true) := by rw [HB1.out.cell (World.block_lt_of_cell? w _ hi)]; exact hi
  go_enter Try.func20, Try.ntmps20
  go_wp2_with fail
  refine HRD.out.mono ?_
  rintro e w2 ⟨code, rfl, rfl, hB2⟩
  have HB2 := Lib.hid (HB1.out.trans (hB2.mono HB1.out.size))
  have HLO2 := Lib.hid (show Loc N a.block w w2 from (Loc.ofBelow HB1.out).trans (Loc.ofBelow hB2))
  have s2 : (w2.cell? ⟨bs, 0, none⟩).isSome = true := by rw [HB2.out.cell (by show bs < w.heap.size; omega)]; exact hs
  have f2 : w2.frozen? ⟨bs, 0, none⟩ = false := by rw [HB2.out.frozen (by show bs < w.heap.size; omega)]; exact hf
  obtain ⟨sv, s3⟩ := Option.isSome_iff_exists.1 s2
  have HX2 := Lib.hid (show w2.cell? ⟨x, 0, none⟩ = some (.int .i64 (cx : Int)) from by rw [HB2.out.cell (by show x < w.heap.size; omega)]; exact hx)
  have hx2 : (w2.setCell ⟨bs, 0, none⟩ (.int .i64 ((if cy = 0 then 6 else cy : Nat) : Int))).cell? ⟨x, 0, none⟩ = some (.int .i64 (cx : Int)) := by
    rw [World.cell?_setCell_far _ _ _ _ (show bs ≠ x from Ne.symm ne)]; exact HX2.out
  have HR2 := Lib.hid (HS.out.far (HS.out.keep HR.out HB2.out) (by have := (HS.out.lie _ _ _ _ _ HR.out).1; omega) (fun _ => hpb) 0 (.int .i64 ((if cy = 0 then 6 else cy : Nat) : Int)))
  have HLR := Lib.hid (HS.out.lie _ _ _ _ _ HR.out)
  have HNU := Lib.hid (HS.out.number p N _ _ _ 9 HR2.out)
  have HBN := Lib.hid (HB2.out.mono hN)
  generalize hcyy : (if cy = 0 then 6 else cy) = cyy at *
  have HCY := Lib.hid hcyy
  clear hB2 HRD HR hi1 hy1 hi hy hs hf hx s2 HX2 hN1 hcyy
  go_wp2_with fail
  refine HNU.out.mono ?_
  rintro e w3 ⟨hK3, h | h⟩
  · obtain ⟨-, ⟨_, rfl, rfl⟩, hR3⟩ := h
    have hB3 := hK3.below HLR.out.1 (HS.out.base HR2.out)
    have HLO3 := Lib.hid ((HLO2.out.trans (Loc.low w2 lb 0 _)).trans (Loc.ofKp hK3))
    have HL3 := Lib.hid (HS.out.lie _ _ _ _ _ hR3)
    clear hK3
    have HB3 := Lib.hid hB3
    have hx3 : w3.cell? ⟨x, 0, none⟩ = some (.int .i64 (cx : Int)) := by rw [hB3.cell (by exact lx)]; exact hx2
    have HF3 := Lib.hid (HS.out.fail p N w3 a _ cx hR3 hc)
    clear hB3 hR3 HNU HR2 hx2
    go_wp2_with fail
    refine HF3.out.mono ?_
    rintro e w4 ⟨⟨v, hv, rfl⟩, hK4⟩
    have hB4 := hK4.below HL3.out.1 (Nat.le_trans HL3.out.1 (Nat.le_of_lt HL3.out.2))
    have hlo4 := HLO3.out.trans (Loc.ofKp hK4)
    exact ⟨rfl, ⟨v, hv, rfl⟩, ⟨w2, HBN.out, by rw [HCY.out]; exact HB3.out.trans hB4⟩, hlo4⟩
  · exact absurd (by rw [take12]) h.1
end
end Go.Proofs.Ytgmogbgkokofoaa
