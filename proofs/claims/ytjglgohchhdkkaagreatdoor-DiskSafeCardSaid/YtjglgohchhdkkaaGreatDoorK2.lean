/- Merged texts: Cls8, Disk8, Dkd8, Lib8, Cln8, Mkc8, Rdk8. -/
import Derived.Test.YtjglgohchhdkkaaGreatDoorK1
import Derived.Test.YtjglgohchhdkkaaGreatDoorLsg8
import Derived.Test.YtjglgohchhdkkaaGreatDoorDkp8
import Derived.Shelf.SlGeneric
import Derived.Shelf.LaysM
import Derived.Shelf.Strconv.Clone
import Derived.Shelf.Sort.Plain
import Derived.Shelf.Slices.In.SortNone
import Derived.Shelf.SlIter.Nil
import Derived.Ground.GgzProg
import Derived.Test.YtjglgohchhdkkaaGreatDoorProg
import Derived.Shelf.SlMaps.Clone
import Derived.Deep.RegionHeld3
set_option linter.unusedSimpArgs false
set_option linter.unusedVariables false
/- The program's changes: closures that do to a map what a change does. -/
namespace Go.Proofs.YtjglgohchhdkkaaGreatDoor
open Go Go.RowKit

/-- A box of a string. -/
def BoxS (w : World) (b : Nat) (p : S8) : Prop := w.heap[b]? = some (.cells #[.string (mkS p)] 9 (0, 0))
/-- A box of a file. -/
def BoxF (w : World) (b : Nat) (sl : Nat → Hn) (f : Fl) : Prop := w.heap[b]? = some (.cells (fileC sl f) 74 (0, 0))
theorem BoxS.cell {w : World} {b : Nat} {p : S8} (h : BoxS w b p) : w.cell? ⟨b, 0, none⟩ = some (.string (mkS p)) := by
  unfold World.cell?
  rw [show w.heap[b]? = _ from h]
  simp
theorem BoxF.cell {w : World} {b : Nat} {sl : Nat → Hn} {f : Fl} (h : BoxF w b sl f) (j : Nat) : w.cell? ⟨b, j, none⟩ = [Value.int .i64 f.size, .int .i64 f.time, .int .i64 f.chg, .slice (sl f.body).q (sl f.body).n (sl f.body).c][j]? := by
  unfold World.cell?
  rw [show w.heap[b]? = _ from h]
  simp [fileC]
theorem BoxS.lt {w : World} {b : Nat} {p : S8} (h : BoxS w b p) : b < w.heap.size := (Array.getElem?_eq_some_iff.1 h).1
theorem BoxF.lt {w : World} {b : Nat} {sl : Nat → Hn} {f : Fl} (h : BoxF w b sl f) : b < w.heap.size := (Array.getElem?_eq_some_iff.1 h).1
/-- A value is the closure of a change; what it has captured lies where S holds. -/
inductive ClsV (w : World) (S : Nat → Prop) (sl : Nat → Hn) (c : Ch) (v : Value) : Prop
  | write (b1 b2 : Nat) (hk : c.kind = 1) (hv : v = .func (.func 47) #[] #[.pointer (some ⟨b1, 0, none⟩), .pointer (some ⟨b2, 0, none⟩)]) (h1 : BoxS w b1 c.file.p) (h2 : BoxF w b2 sl c.file) (s1 : S b1) (s2 : S b2)
  | rename (b1 b2 : Nat) (hk : c.kind = 2) (hv : v = .func (.func 54) #[] #[.pointer (some ⟨b1, 0, none⟩), .pointer (some ⟨b2, 0, none⟩)]) (h1 : BoxS w b1 c.src) (h2 : BoxS w b2 c.file.p) (s1 : S b1) (s2 : S b2)
  | remove (b1 : Nat) (hk : c.kind = 3) (hv : v = .func (.func 55) #[] #[.pointer (some ⟨b1, 0, none⟩)]) (h1 : BoxS w b1 c.src) (s1 : S b1)
theorem ClsV.keep {w w' : World} {S S' : Nat → Prop} {sl : Nat → Hn} {c : Ch} {v : Value} (h : ClsV w S sl c v) (hk : ∀ k T cs, S k → w.heap[k]? = some (.cells cs T (0, 0)) → (T = 9 ∨ T = 74) → w'.heap[k]? = w.heap[k]?) (hS : ∀ k, S k → S' k) : ClsV w' S' sl c v := by
  cases h with
  | write b1 b2 hk1 hv h1 h2 s1 s2 => exact .write b1 b2 hk1 hv ((hk b1 _ _ s1 h1 (.inl rfl)).trans h1) ((hk b2 _ _ s2 h2 (.inr rfl)).trans h2) (hS _ s1) (hS _ s2)
  | rename b1 b2 hk1 hv h1 h2 s1 s2 => exact .rename b1 b2 hk1 hv ((hk b1 _ _ s1 h1 (.inl rfl)).trans h1) ((hk b2 _ _ s2 h2 (.inl rfl)).trans h2) (hS _ s1) (hS _ s2)
  | remove b1 hk1 hv h1 s1 => exact .remove b1 hk1 hv ((hk b1 _ _ s1 h1 (.inl rfl)).trans h1) (hS _ s1)
set_option maxHeartbeats 4000000 in
theorem wrC_any (sl : Nat → Hn) (l : List Fl) (c : Ch) (b1 b2 mb : Nat) (w : World) (hk : c.kind = 1) (h : MpB w mb (l.map (entV sl))) (h1 : BoxS w b1 c.file.p) (h2 : BoxF w b2 sl c.file) (hp : c.file.p.length < 100000) (hs : ShortF l) :
    Calls Tryz.prog 47 #[.map (some mb), .pointer (some ⟨b1, 0, none⟩), .pointer (some ⟨b2, 0, none⟩)] w fun e w' => e = .returned (.tuple #[]) ∧ MpB w' mb ((doL l c).map (entV sl)) ∧ w.grownBy w' (some mb) := by
  have HP := Lib.hid (put_any sl l c.file.p c.file rfl mb w h hp hs)
  have e1 : doL l c = withoutL l c.file.p true ++ [c.file] := by unfold doL; rw [hk]; rfl
  have HE := Lib.hid e1
  have f0 := h1.cell
  have g0 := h2.cell 0
  have g1 := h2.cell 1
  have g2 := h2.cell 2
  have g3 := h2.cell 3
  simp at g0 g1 g2 g3
  clear h1 h2 h e1
  unfold fileV fileC at *
  go_enter Tryz.func47, Tryz.ntmps47
  go_wp2_with fail
  refine HP.out.mono ?_
  rintro e w2 ⟨rfl, hM2, hg2⟩
  have HM := Lib.hid hM2
  have HG := Lib.hid hg2
  clear hM2 hg2
  go_wp2
  go_end0
  exact ⟨rfl, by rw [HE.out]; exact HM.out, HG.out⟩
set_option maxHeartbeats 4000000 in
theorem rmC_any (sl : Nat → Hn) (l : List Fl) (c : Ch) (b1 mb : Nat) (w : World) (hk : c.kind = 3) (h : MpB w mb (l.map (entV sl))) (h1 : BoxS w b1 c.src) : Calls Tryz.prog 55 #[.map (some mb), .pointer (some ⟨b1, 0, none⟩)] w fun e w' => e = .returned (.tuple #[]) ∧ MpB w' mb ((doL l c).map (entV sl)) ∧ w.grownBy w' (some mb) := by
  have e1 : doL l c = withoutL l c.src false := by unfold doL; rw [hk]; rfl
  have HE := Lib.hid (e1.symm ▸ delV_ent sl l c.src)
  have f0 := h1.cell
  have HM := Lib.hid h
  clear h1 h e1
  go_enter Tryz.func55, Tryz.ntmps55
  go_wp2_with (first | (refine wpl_delete8 _ rfl _ _ rfl mapT strT rfl HM.out c.src rfl ?_; intro w3 hM3 hg3 hz3; simp only [Act.put]) | go_in)
  go_end0
  exact ⟨rfl, by rw [← HE.out]; exact hM3, hg3⟩
theorem zeroFile (w : World) : (zeroValue 74).run Tryz.prog w = .ok (.agg #[.int .i64 0, .int .i64 0, .int .i64 0, .slice none 0 0]) w := by kernel_rfl
theorem look_none {sl : Nat → Hn} {l : List Fl} {p : S8} {mb : Nat} {w : World} (h : MpB w mb (l.map (entV sl))) (hf : findL l p = none) :
    (Instr.lookup 48 (.map (some mb)) (.string (mkS p)) true).run Tryz.prog w = .ok (.tuple #[.agg #[.int .i64 0, .int .i64 0, .int .i64 0, .slice none 0 0], .bool false]) w := by
  have hl := run_lookup8 (P := Tryz.prog) mapT strT (zeroFile w) h p true
  rw [findV_ent, hf] at hl
  exact hl
theorem look_some {sl : Nat → Hn} {l : List Fl} {p : S8} {mb : Nat} {w : World} (h : MpB w mb (l.map (entV sl))) {i : Nat} (hf : findL l p = some i) (x : Fl) (hx : l.getD i fl0 = x) :
    (Instr.lookup 48 (.map (some mb)) (.string (mkS p)) true).run Tryz.prog w = .ok (.tuple #[.agg #[.int .i64 x.size, .int .i64 x.time, .int .i64 x.chg, .slice (sl x.body).q (sl x.body).n (sl x.body).c], .bool true]) w := by
  have hl := run_lookup8 (P := Tryz.prog) mapT strT (zeroFile w) h p true
  rw [findV_ent, hf] at hl
  subst hx
  exact hl
theorem without_short {l : List Fl} {p : S8} {cl : Bool} (h : ShortF l) : ShortF (withoutL l p cl) := by
  rw [shortF_iff] at h ⊢
  exact fun f hf => h f (without_mem hf)
set_option maxRecDepth 100000 in
set_option maxHeartbeats 8000000 in
theorem rnC_any (sl : Nat → Hn) (l : List Fl) (c : Ch) (b1 b2 mb : Nat) (w : World) (hk : c.kind = 2) (h : MpB w mb (l.map (entV sl))) (h1 : BoxS w b1 c.src) (h2 : BoxS w b2 c.file.p) (hp : c.file.p.length < 100000) (hs : ShortF l) (hm1 : b1 ≠ mb) (hm2 : b2 ≠ mb) :
    Calls Tryz.prog 54 #[.map (some mb), .pointer (some ⟨b1, 0, none⟩), .pointer (some ⟨b2, 0, none⟩)] w fun e w' => e = .returned (.tuple #[]) ∧ MpB w' mb ((doL l c).map (entV sl)) ∧ w.grownBy w' (some mb) := by
  have f1 := h1.cell
  cases hf : findL l c.src with
  | none =>
    have hl := look_none h hf
    have e1 : doL l c = l := by unfold doL; rw [hk]; dsimp only; rw [hf]; rfl
    have hB := ((Below.refl w.heap.size w).alloc (Nat.le_refl _) (.cells #[.int .i64 0, .int .i64 0, .int .i64 0, .slice none 0 0] 74))
    have HM := Lib.hid (h.of_below hB)
    have HG := Lib.hid (below_grown hB (some mb))
    have HE := Lib.hid e1
    clear h h1 h2 e1 hB
    go_enter Tryz.func54, Tryz.ntmps54
    go_wp2
    refine bodyPost_ret (results_none rfl _ _ _) rfl ?_
    exact ⟨rfl, by rw [HE.out]; exact HM.out, HG.out⟩
  | some i =>
    obtain ⟨x, hx⟩ : ∃ x, l.getD i fl0 = x := ⟨_, rfl⟩
    have hl := look_some h hf x hx
    have e1 : doL l c = withoutL (withoutL l c.src false) c.file.p true ++ [{ x with p := c.file.p }] := by unfold doL; rw [hk]; dsimp only; rw [hf, ← hx]; rfl
    have HE := Lib.hid e1
    have hB := ((Below.refl w.heap.size w).alloc (Nat.le_refl _) (.cells #[.int .i64 x.size, .int .i64 x.time, .int .i64 x.chg, .slice (sl x.body).q (sl x.body).n (sl x.body).c] 74))
    have HM := Lib.hid (h.of_below hB)
    have HG := Lib.hid (below_grown hB (some mb))
    have hmb := h.lt
    have hb1 := (hB.cell h1.lt).trans f1
    have HF1 := Lib.hid hb1
    have HF2 := Lib.hid ((hB.cell h2.lt).trans h2.cell)
    have HL1 := Lib.hid h1.lt
    have HL2 := Lib.hid h2.lt
    have HX := Lib.hid (box4_cell w 74 (.int .i64 x.size) (.int .i64 x.time) (.int .i64 x.chg) (.slice (sl x.body).q (sl x.body).n (sl x.body).c))
    have HS := Lib.hid (without_short (p := c.src) (cl := false) hs)
    have HK := Lib.hid (fun (w3 : World) (hg3 : (w.alloc (.cells #[.int .i64 x.size, .int .i64 x.time, .int .i64 x.chg, .slice (sl x.body).q (sl x.body).n (sl x.body).c] 74)).grownBy w3 (some mb)) => (by
      have k3 : ∀ j, w3.cell? ⟨w.heap.size, j, none⟩ = [Value.int .i64 x.size, .int .i64 x.time, .int .i64 x.chg, .slice (sl x.body).q (sl x.body).n (sl x.body).c][j]? := fun j => by
        rw [World.cell?_of_block (hg3.block w.heap.size (by rw [World.size_alloc]; omega) (by simp; omega))]
        exact HX.out j
      refine ⟨?_, k3 0, k3 1, k3 2, k3 3⟩
      rw [World.cell?_of_block (hg3.block b2 (by rw [World.size_alloc]; have := HL2.out; omega) (by simpa using hm2))]
      exact HF2.out : w3.cell? ⟨b2, 0, none⟩ = some (.string (mkS c.file.p)) ∧ w3.cell? ⟨w.heap.size, 0, none⟩ = some (.int .i64 x.size) ∧ w3.cell? ⟨w.heap.size, 1, none⟩ = some (.int .i64 x.time) ∧ w3.cell? ⟨w.heap.size, 2, none⟩ = some (.int .i64 x.chg) ∧ w3.cell? ⟨w.heap.size, 3, none⟩ = some (.slice (sl x.body).q (sl x.body).n (sl x.body).c)))
    have HPU := Lib.hid (fun (w3 : World) (hM3 : MpB w3 mb ((withoutL l c.src false).map (entV sl))) => (by exact put_any sl _ c.file.p { x with p := c.file.p } rfl mb w3 hM3 hp HS.out : Calls Tryz.prog 48 #[.map (some mb), .string (mkS c.file.p), .agg #[.int .i64 x.size, .int .i64 x.time, .int .i64 x.chg, .slice (sl x.body).q (sl x.body).n (sl x.body).c]] w3 fun e w' => e = .returned (.tuple #[]) ∧ MpB w' mb ((withoutL (withoutL l c.src false) c.file.p true ++ [{ x with p := c.file.p }]).map (entV sl)) ∧ w3.grownBy w' (some mb)))
    clear h h1 h2 e1 hB
    go_enter Tryz.func54, Tryz.ntmps54
    go_wp2_with (first | (refine wpl_delete8 _ rfl _ _ rfl mapT strT rfl HM.out c.src rfl ?_; intro w3 hM3 hg3 hz3; obtain ⟨k2, g0, g1, g2, g3⟩ := HK.out w3 hg3; rw [delV_ent] at hM3; have HM3 := Lib.hid hM3; have HG3 := Lib.hid (HG.out.andThen hg3 (fun j hj => .inr hj)); clear hM3 hg3 hz3 hl hb1 f1; simp only [Act.put]) | (go_at_call 48; refine (HPU.out _ HM3.out).mono ?_; rintro e w4 ⟨rfl, hM4, hg4⟩) | go_in)
    have HM4 := Lib.hid hM4
    have HG4 := Lib.hid (HG3.out.andThen hg4 (fun j hj => .inr hj))
    go_end0
    exact ⟨rfl, by rw [HE.out]; exact HM4.out, HG4.out⟩
end Go.Proofs.YtjglgohchhdkkaaGreatDoor
/- What the statements' walks ask of the program's package disk . -/
namespace Go.Proofs.YtjglgohchhdkkaaGreatDoor
open Go Go.RowKit

/-- Nothing changes but blocks where S holds, and new ones. -/
structure Kq8 (S : Nat → Prop) (w w' : World) : Prop where
  os : w'.os = w.os
  tape : w'.tape = w.tape
  output : w'.output = w.output
  size : w.heap.size ≤ w'.heap.size
  block : ∀ k, k < w.heap.size → ¬ S k → w'.heap[k]? = w.heap[k]?
section
variable {S S' : Nat → Prop} {w w' w'' : World}
theorem Kq8.of_below (h : Below w.heap.size w w') : Kq8 S w w' := ⟨h.os, h.tape, h.output, h.size, fun k hk _ => h.block k hk⟩
/-- S' has grown out of S by new blocks only. -/
def GrewTo (N : Nat) (S S' : Nat → Prop) : Prop := ∀ k, S' k → S k ∨ N ≤ k
theorem GrewTo.trans {N N' : Nat} {S S' S'' : Nat → Prop} (h : GrewTo N S S') (k : GrewTo N' S' S'') (hN : N ≤ N') : GrewTo N S S'' := fun i hi => by
  rcases k i hi with x | x
  · exact h i x
  · exact .inr (Nat.le_trans hN x)
theorem Kq8.trans (h : Kq8 S w w') (g : GrewTo w.heap.size S S') (k : Kq8 S' w' w'') : Kq8 S w w'' :=
  ⟨k.os.trans h.os, k.tape.trans h.tape, k.output.trans h.output, Nat.le_trans h.size k.size, fun i hi hn => by
    rw [k.block i (Nat.lt_of_lt_of_le hi h.size) (fun x => by rcases g i x with y | y; exact hn y; omega)]
    exact h.block i hi hn⟩
end
def ltS (a b : S8) : Bool := decide (a.map UInt8.toNat < b.map UInt8.toNat)
def clampL (room : Int) : Int := min (max room 0) 1048576
/-- A file's bytes. -/
def readL (m : Dk) (p : S8) : Option S8 := (findL m.seen p).map fun i => bodyL m (m.seen.getD i fl0)
def readN (m : Dk) (p : S8) : Int := if (readL m p).isSome then 0 else 8
def fileL (m : Dk) (p : S8) : Option Fl := (findL m.seen p).map fun i => m.seen.getD i fl0
/-- What a disk's call leaves behind. -/
def Left8 (D : World → (Nat → Prop) → Nat → Dk → Prop) (S : Nat → Prop) (b : Nat) (w : World) (m : Dk) (w' : World) : Prop := ∃ S', D w' S' b m ∧ Kq8 S w w' ∧ GrewTo w.heap.size S S'
def SmallD (m : Dk) : Prop := DkOk 300 m ∧ 0 ≤ m.room ∧ m.room ≤ 1048576
theorem changeL_room (m : Dk) (c : Ch) : (changeL m c).room = m.room := rfl
theorem writeL_room (m : Dk) (p b : S8) (t : Int) : (writeL m p b t).1.room = m.room := by
  unfold writeL
  repeat' split
  all_goals rfl
theorem renameL_room (m : Dk) (p q : S8) : (renameL m p q).1.room = m.room := by
  unfold renameL
  repeat' split
  all_goals rfl
theorem removeL_room (m : Dk) (p : S8) : (removeL m p).1.room = m.room := by
  unfold removeL
  split <;> rfl
theorem rotL_room (m : Dk) (p : S8) (a : Int) (k : UInt8) : (rotL m p a k).1.room = m.room := by
  unfold rotL
  split
  · rfl
  · dsimp only
    split <;> rfl
theorem syncL_room (m : Dk) : (syncL m).room = m.room := rfl
theorem crashL_room (m : Dk) (ks : List Bool) : (crashL m ks).room = m.room := rfl
end Go.Proofs.YtjglgohchhdkkaaGreatDoor
/- The program's disk in memory: a box, two maps, the files' bytes, the pending changes. -/
namespace Go.Proofs.YtjglgohchhdkkaaGreatDoor
open Go Go.RowKit

def Hn.v (h : Hn) : Value := .slice h.q h.n h.c
theorem own_full8 {w : World} {E : TypeId} {k base n : Nat} {v : Value} {cs : List Value} (h : w.ownsRow base E k v n cs) (hn : 0 < n) :
    ∃ g cap, v = .slice (some ⟨g, 0, none⟩) n cap ∧ base ≤ g ∧ g < w.heap.size ∧ n ≤ cap ∧ (∀ j, j < cs.length → w.cell? ⟨g, j, none⟩ = cs[j]?) ∧ ∀ j, w.frozen? ⟨g, j, none⟩ = false := by
  obtain ⟨p, cap, e, hls, hnil, hle, hb⟩ := own_shape h
  rcases h.2 with ⟨_, hn0⟩ | ⟨g, cap2, cur, hv, hb2, hg, hle2, _, hsz, ht⟩
  · omega
  · rw [hv] at e
    injection e with e1 e2 e3
    refine ⟨g, cap2, hv, hb2, (hb g 0 e1.symm).2, hle2, fun j hj => ?_, fun j => ?_⟩
    · obtain ⟨c, o, ec, hc⟩ := hls j hj
      rw [← e1] at ec
      injection ec with ec
      injection ec with ec1 ec2
      rw [← ec1, ← ec2, Nat.zero_add] at hc
      exact hc
    · unfold World.frozen?
      simp [hg]
theorem bytC_flip8 (b : S8) (a : Nat) (mask : UInt8) : bytC (flipL b a mask) = (bytC b).set a (.int .u8 ((b.getD a 0 ^^^ mask).toNat : Int)) := by
  unfold bytC flipL
  rw [List.map_set]
/-- The bytes of all files, each in a block of its own. -/
structure BdOk (w : World) (S : Nat → Prop) (bs : List S8) (sl : Nat → Hn) : Prop where
  own : ∀ i, i < bs.length → w.ownsRow 0 5 1 (sl i).v (bs.getD i []).length (bytC (bs.getD i []))
  in_ : ∀ i, i < bs.length → ∀ g, (sl i).v.ownBlock = some g → S g
  ap : ∀ i j, i < bs.length → j < bs.length → i ≠ j → ∀ g, (sl i).v.ownBlock = some g → (sl j).v.ownBlock ≠ some g
/-- The pending changes. -/
structure PdOk (w : World) (S : Nat → Prop) (ws : List Ch) (sl : Nat → Hn) (pv : Value) (vs : List Value) : Prop where
  own : w.ownsRow 0 76 1 pv ws.length vs
  in_ : ∀ g, pv.ownBlock = some g → S g
  cls : ∀ i (h : i < ws.length), ∃ v, vs[i]? = some v ∧ ClsV w S sl ws[i] v
structure SzOk (m : Dk) : Prop where
  seen : ∀ f ∈ m.seen, f.size = ((bodyL m f).length : Int)
  safe : ∀ f ∈ m.safe, f.size = ((bodyL m f).length : Int)
  waits : ∀ c ∈ m.waits, c.kind = 1 → c.file.size = ((bodyL m c.file).length : Int)
structure Dp (w : World) (S : Nat → Prop) (b : Nat) (m : Dk) (mv md : Nat) (pv : Value) (vs : List Value) (sl : Nat → Hn) : Prop where
  box : w.heap[b]? = some (.cells #[.int .i64 m.room, .int .i64 m.count, .map (some mv), .map (some md), pv] 51 (0, 0))
  sb : S b
  sv : S mv
  sd : S md
  ne : mv ≠ md
  vis : MpB w mv (m.seen.map (entV sl))
  dur : MpB w md (m.safe.map (entV sl))
  bod : BdOk w S m.bodies sl
  pd : PdOk w S m.waits sl pv vs
  sz : SzOk m
  low : ∀ k, S k → k < w.heap.size
theorem own_type {w : World} {base : Nat} {E : TypeId} {k n : Nat} {v : Value} {cs : List Value} (h : w.ownsRow base E k v n cs) {g : Nat} (hg : v.ownBlock = some g) : ∃ cur, w.heap[g]? = some (.cells cur E (0, 0)) := by
  rcases h.2 with ⟨hv, _⟩ | ⟨g2, cap2, cur, hv, hb2, hg2, _⟩
  · rw [hv] at hg; cases hg
  · rw [hv] at hg
    injection hg with hg
    rw [← hg]
    exact ⟨cur, hg2⟩
theorem own_slice {w : World} {base : Nat} {E : TypeId} {k n : Nat} {v : Value} {cs : List Value} (h : w.ownsRow base E k v n cs) : ∃ q c, v = .slice q n c := by
  obtain ⟨p, cap, e, _⟩ := own_shape h
  exact ⟨p, cap, e⟩
section
variable {w w' : World} {S S' : Nat → Prop} {b : Nat} {m : Dk} {mv md : Nat} {pv : Value} {vs : List Value} {sl : Nat → Hn}
theorem BdOk.keep {bs : List S8} (h : BdOk w S bs sl) (hk : ∀ k cur, S k → w.heap[k]? = some (.cells cur 5 (0, 0)) → w'.heap[k]? = w.heap[k]?) (hS : ∀ k, S k → S' k) : BdOk w' S' bs sl :=
  ⟨fun i hi => own_keep (h.own i hi) fun g hg => by obtain ⟨cur, hc⟩ := own_type (h.own i hi) hg; exact hk g cur (h.in_ i hi g hg) hc, fun i hi g hg => hS _ (h.in_ i hi g hg), h.ap⟩
theorem PdOk.keep {ws : List Ch} (h : PdOk w S ws sl pv vs) (hk : ∀ k T cs, S k → w.heap[k]? = some (.cells cs T (0, 0)) → (T = 9 ∨ T = 74 ∨ T = 76) → w'.heap[k]? = w.heap[k]?) (hS : ∀ k, S k → S' k) : PdOk w' S' ws sl pv vs :=
  ⟨own_keep h.own fun g hg => by obtain ⟨cur, hc⟩ := own_type h.own hg; exact hk g _ cur (h.in_ g hg) hc (.inr (.inr rfl)), fun g hg => hS _ (h.in_ g hg), fun i hi => by
    obtain ⟨v, e, hc⟩ := h.cls i hi
    exact ⟨v, e, hc.keep (fun k T cs h1 h2 h3 => hk k T cs h1 h2 (by rcases h3 with x | x; exact .inl x; exact .inr (.inl x))) hS⟩⟩
theorem Dp.keep (h : Dp w S b m mv md pv vs sl) (hk : ∀ k, S k → w'.heap[k]? = w.heap[k]?) (hS : ∀ k, S k → S' k) (hlow : ∀ k, S' k → k < w'.heap.size) : Dp w' S' b m mv md pv vs sl :=
  ⟨(hk b h.sb).trans h.box, hS _ h.sb, hS _ h.sv, hS _ h.sd, h.ne, h.vis.keep (hk _ h.sv), h.dur.keep (hk _ h.sd), h.bod.keep (fun k _ hs _ => hk k hs) hS, h.pd.keep (fun k _ _ hs _ _ => hk k hs) hS, h.sz, hlow⟩
theorem Dp.of_below (h : Dp w S b m mv md pv vs sl) (hB : Below w.heap.size w w') : Dp w' S b m mv md pv vs sl :=
  h.keep (fun k hk => hB.block k (h.low k hk)) (fun k hk => hk) (fun k hk => Nat.lt_of_lt_of_le (h.low k hk) hB.size)
theorem Dp.cell (h : Dp w S b m mv md pv vs sl) (j : Nat) : w.cell? ⟨b, j, none⟩ = [Value.int .i64 m.room, .int .i64 m.count, .map (some mv), .map (some md), pv][j]? := by
  unfold World.cell?
  rw [h.box]
  simp
theorem Dp.free (h : Dp w S b m mv md pv vs sl) (j : Nat) : w.frozen? ⟨b, j, none⟩ = false := by
  unfold World.frozen?
  rw [h.box]
  simp
theorem Dp.lt (h : Dp w S b m mv md pv vs sl) : b < w.heap.size := h.low _ h.sb
/-- The bytes of a file, as a slice. -/
theorem Dp.bytes (h : Dp w S b m mv md pv vs sl) (i : Nat) (hi : i < m.bodies.length) : (sl i).n = (m.bodies.getD i []).length ∧ LsC w (sl i).q (bytC (m.bodies.getD i [])) ∧ ((sl i).q = none → (sl i).c = 0) ∧ (sl i).n ≤ (sl i).c := by
  obtain ⟨p, cap, e, h1, h2, h3, h4⟩ := own_shape (h.bod.own i hi)
  unfold Hn.v at e
  injection e with e1 e2 e3
  exact ⟨e2, by rw [e1]; exact h1, by rw [e1, e3]; exact h2, by rw [e2, e3]; exact h3⟩
end
theorem ent_congr {sl sl' : Nat → Hn} {l : List Fl} (h : ∀ f ∈ l, sl f.body = sl' f.body) : l.map (entV sl) = l.map (entV sl') :=
  List.map_congr_left fun f hf => by unfold entV fileV fileC; rw [h f hf]
end Go.Proofs.YtjglgohchhdkkaaGreatDoor
/- strings.Clone, slices.Sort, maps.Keys, slices.Sorted at this seat's dump: the library's contracts, laid. -/
namespace Go.Proofs
open Go.Shelf
def Tryz.laysM316_ren : Go.Shelf.Ren := ⟨fun | 316 => 60 | n => n, fun | 9 => 9 | 3 => 3 | 4 => 4 | 37 => 32 | 0 => 0 | 127 => 111 | 5 => 5 | n => n, fun | n => n⟩
theorem Tryz.laysM316 : Go.Proofs.LaysM.n316 Tryz.prog Tryz.laysM316_ren := {
  mixed := by kernel_rfl
  f316 := Tryz.func60.trans (congrArg some (by kernel_rfl))
  t0 := Tryz.underlying0
  a0 := Tryz.isAgg0
  z0 := Tryz.sizeOf0
  v0 := Tryz.zeroValue0
  t3 := Tryz.underlying3
  a3 := Tryz.isAgg3
  z3 := Tryz.sizeOf3
  v3 := Tryz.zeroValue3
  t4 := Tryz.underlying4
  a4 := Tryz.isAgg4
  z4 := Tryz.sizeOf4
  v4 := Tryz.zeroValue4
  t9 := Tryz.underlying9
  a9 := Tryz.isAgg9
  z9 := Tryz.sizeOf9
  v9 := Tryz.zeroValue9
  t37 := Tryz.underlying32
  a37 := Tryz.isAgg32
  z37 := Tryz.sizeOf32
  v37 := Tryz.zeroValue32
  t127 := Tryz.underlying111
  a127 := Tryz.isAgg111
  z127 := Tryz.sizeOf111
  v127 := Tryz.zeroValue111
  t5 := Tryz.underlying5
  a5 := Tryz.isAgg5
  z5 := Tryz.sizeOf5
  v5 := Tryz.zeroValue5
  i0 := by kernel_rfl
  i3 := by kernel_rfl
  i4 := by kernel_rfl
  i5 := by kernel_rfl
  i9 := by kernel_rfl
  i37 := by kernel_rfl
  i127 := by kernel_rfl }
open Go.RowKit in
theorem Tryz.stringslite_Clone (s : ByteArray) (w : World) (hlim : s.size ≤ 281474976710656) :
    Calls Tryz.prog 60 #[.string s] w fun e w' => e = .returned (.string s) ∧ Below w.heap.size w w' := Any.stringslite_Clone Tryz.laysM316 s w hlim
def Tryz.lays190_ren : Go.Shelf.Ren := ⟨fun | 190 => 58 | 125 => 70 | 258 => 69 | 128 => 89 | 129 => 90 | 302 => 80 | 303 => 81 | 304 => 82 | 305 => 83 | 306 => 84 | 307 => 85 | 308 => 86 | 309 => 87 | 310 => 88 | 333 => 96 | 329 => 97 | 330 => 98 | 334 => 99 | 335 => 100 | 336 => 101 | 344 => 110 | n => n, fun | 31 => 66 | 9 => 9 | 3 => 3 | 46 => 110 | 0 => 0 | 51 => 128 | 53 => 130 | 4 => 4 | 183 => 121 | 182 => 120 | 131 => 125 | 5 => 5 | 218 => 133 | 222 => 137 | 228 => 146 | 229 => 147 | n => n, fun | n => n⟩
theorem Tryz.lays190 : Go.Proofs.Lays.n190 Tryz.prog Tryz.lays190_ren := {
  mixed := by kernel_rfl
  f125 := Tryz.func70.trans (congrArg some (by kernel_rfl))
  f128 := Tryz.func89.trans (congrArg some (by kernel_rfl))
  f129 := Tryz.func90.trans (congrArg some (by kernel_rfl))
  f190 := Tryz.func58.trans (congrArg some (by kernel_rfl))
  f258 := Tryz.func69.trans (congrArg some (by kernel_rfl))
  f302 := Tryz.func80.trans (congrArg some (by kernel_rfl))
  f303 := Tryz.func81.trans (congrArg some (by kernel_rfl))
  f304 := Tryz.func82.trans (congrArg some (by kernel_rfl))
  f305 := Tryz.func83.trans (congrArg some (by kernel_rfl))
  f306 := Tryz.func84.trans (congrArg some (by kernel_rfl))
  f307 := Tryz.func85.trans (congrArg some (by kernel_rfl))
  f308 := Tryz.func86.trans (congrArg some (by kernel_rfl))
  f309 := Tryz.func87.trans (congrArg some (by kernel_rfl))
  f310 := Tryz.func88.trans (congrArg some (by kernel_rfl))
  f329 := Tryz.func97.trans (congrArg some (by kernel_rfl))
  f330 := Tryz.func98.trans (congrArg some (by kernel_rfl))
  f333 := Tryz.func96.trans (congrArg some (by kernel_rfl))
  f334 := Tryz.func99.trans (congrArg some (by kernel_rfl))
  f335 := Tryz.func100.trans (congrArg some (by kernel_rfl))
  f336 := Tryz.func101.trans (congrArg some (by kernel_rfl))
  f344 := Tryz.func110.trans (congrArg some (by kernel_rfl))
  t0 := Tryz.underlying0
  a0 := Tryz.isAgg0
  z0 := Tryz.sizeOf0
  v0 := Tryz.zeroValue0
  t3 := Tryz.underlying3
  a3 := Tryz.isAgg3
  z3 := Tryz.sizeOf3
  v3 := Tryz.zeroValue3
  t4 := Tryz.underlying4
  a4 := Tryz.isAgg4
  z4 := Tryz.sizeOf4
  v4 := Tryz.zeroValue4
  t5 := Tryz.underlying5
  a5 := Tryz.isAgg5
  z5 := Tryz.sizeOf5
  v5 := Tryz.zeroValue5
  t9 := Tryz.underlying9
  a9 := Tryz.isAgg9
  z9 := Tryz.sizeOf9
  v9 := Tryz.zeroValue9
  t31 := Tryz.underlying66
  a31 := Tryz.isAgg66
  z31 := Tryz.sizeOf66
  v31 := Tryz.zeroValue66
  t46 := Tryz.underlying110
  a46 := Tryz.isAgg110
  z46 := Tryz.sizeOf110
  v46 := Tryz.zeroValue110
  t51 := Tryz.underlying128
  a51 := Tryz.isAgg128
  z51 := Tryz.sizeOf128
  v51 := Tryz.zeroValue128
  t53 := Tryz.underlying130
  a53 := Tryz.isAgg130
  z53 := Tryz.sizeOf130
  v53 := Tryz.zeroValue130
  t131 := Tryz.underlying125
  a131 := Tryz.isAgg125
  z131 := Tryz.sizeOf125
  v131 := Tryz.zeroValue125
  t182 := Tryz.underlying120
  a182 := Tryz.isAgg120
  z182 := Tryz.sizeOf120
  v182 := Tryz.zeroValue120
  t183 := Tryz.underlying121
  a183 := Tryz.isAgg121
  z183 := Tryz.sizeOf121
  v183 := Tryz.zeroValue121
  t218 := Tryz.underlying133
  a218 := Tryz.isAgg133
  z218 := Tryz.sizeOf133
  v218 := Tryz.zeroValue133
  t222 := Tryz.underlying137
  a222 := Tryz.isAgg137
  z222 := Tryz.sizeOf137
  v222 := Tryz.zeroValue137
  t228 := Tryz.underlying146
  a228 := Tryz.isAgg146
  z228 := Tryz.sizeOf146
  v228 := Tryz.zeroValue146
  t229 := Tryz.underlying147
  a229 := Tryz.isAgg147
  z229 := Tryz.sizeOf147
  v229 := Tryz.zeroValue147 }
open Go.Sort Go.RowKit in
theorem Tryz.slices_Sort_string (blk off cap : Nat) (ss : List (List UInt8)) (w : World) (hH : Holds encStr w blk off ss.toArray) (hblk : blk < w.heap.size) (hsz : ss.length < 4611686018427387904) :
    Calls Tryz.prog 58 #[.slice (some ⟨blk, off, none⟩) ss.length cap] w fun e w' =>
      e = .returned (.tuple #[]) ∧ ∃ n os, w' = grow (putRow encStr (Sort.ahead w n) blk off (ss.mergeSort fun x y => decide (x ≤ y)).toArray) os := Any.slices_Sort_string Tryz.lays190 blk off cap ss w hH hblk hsz
open Go.RowKit Go.Sort in
theorem Tryz.slices_Sort_string_none (p : Option Addr) (cap : Nat) (w : World) :
    Calls Tryz.prog 58 #[.slice p 0 cap] w fun e w' => e = .returned (.tuple #[]) ∧ w' = w := Any.slices_Sort_string_none Tryz.lays190 p cap w
def Tryz.keys44_ren : Go.Shelf.Ren := ⟨fun | 7 => 44 | 10 => 59 | n => n, fun | 23 => 48 | 26 => 9 | 3 => 74 | 28 => 93 | 0 => 0 | 27 => 92 | 33 => 82 | 4 => 4 | n => n, fun | n => n⟩
theorem Tryz.keys44 : Go.Proofs.SlLaysZ.n7 Tryz.prog Tryz.keys44_ren := {
  mixed := by kernel_rfl
  f7 := ⟨Tryz.f44.name, by decide, Tryz.func44.trans (congrArg some (by kernel_rfl))⟩
  f10 := ⟨Tryz.f59.name, by decide, Tryz.func59.trans (congrArg some (by kernel_rfl))⟩
  t0 := Tryz.underlying0
  a0 := Tryz.isAgg0
  z0 := Tryz.sizeOf0
  v0 := Tryz.zeroValue0
  t4 := Tryz.underlying4
  a4 := Tryz.isAgg4
  z4 := Tryz.sizeOf4
  v4 := Tryz.zeroValue4
  t23 := Tryz.underlying48
  a23 := Tryz.isAgg48
  z23 := Tryz.sizeOf48
  v23 := Tryz.zeroValue48
  t26 := Tryz.underlying9
  a26 := Tryz.isAgg9
  z26 := Tryz.sizeOf9
  v26 := Tryz.zeroValue9
  t27 := Tryz.underlying92
  a27 := Tryz.isAgg92
  z27 := Tryz.sizeOf92
  v27 := Tryz.zeroValue92
  t28 := Tryz.underlying93
  a28 := Tryz.isAgg93
  z28 := Tryz.sizeOf93
  v28 := Tryz.zeroValue93
  t33 := Tryz.underlying82
  a33 := Tryz.isAgg82
  z33 := Tryz.sizeOf82
  v33 := Tryz.zeroValue82 }
def Tryz.sorted43_ren : Go.Shelf.Ren := ⟨fun | 6 => 43 | 8 => 57 | 9 => 58 | 11 => 68 | 13 => 70 | 12 => 69 | 23 => 89 | 24 => 90 | 14 => 80 | 15 => 81 | 16 => 82 | 17 => 83 | 18 => 84 | 19 => 85 | 20 => 86 | 21 => 87 | 22 => 88 | 25 => 96 | 26 => 97 | 27 => 98 | 28 => 99 | 29 => 100 | 30 => 101 | 31 => 110 | n => n, fun | 26 => 9 | 28 => 93 | 24 => 66 | 0 => 0 | 3 => 3 | 37 => 110 | 48 => 128 | 50 => 130 | 4 => 4 | 40 => 121 | 39 => 120 | 45 => 125 | 5 => 5 | 9 => 9 | 51 => 133 | 55 => 137 | 57 => 146 | 58 => 147 | 33 => 82 | n => n, fun | n => n⟩
theorem Tryz.sorted43 : Go.Proofs.SlLaysZ.n6 Tryz.prog Tryz.sorted43_ren := {
  mixed := by kernel_rfl
  f6 := ⟨Tryz.f43.name, by decide, Tryz.func43.trans (congrArg some (by kernel_rfl))⟩
  f8 := ⟨Tryz.f57.name, by decide, Tryz.func57.trans (congrArg some (by kernel_rfl))⟩
  f11 := ⟨Tryz.f68.name, by decide, Tryz.func68.trans (congrArg some (by kernel_rfl))⟩
  t0 := Tryz.underlying0
  a0 := Tryz.isAgg0
  z0 := Tryz.sizeOf0
  v0 := Tryz.zeroValue0
  t24 := Tryz.underlying66
  a24 := Tryz.isAgg66
  z24 := Tryz.sizeOf66
  v24 := Tryz.zeroValue66
  t26 := Tryz.underlying9
  a26 := Tryz.isAgg9
  z26 := Tryz.sizeOf9
  v26 := Tryz.zeroValue9
  t28 := Tryz.underlying93
  a28 := Tryz.isAgg93
  z28 := Tryz.sizeOf93
  v28 := Tryz.zeroValue93
  i26 := by kernel_rfl }
open Go.RowKit Go.Maps Go.Sort in
theorem Tryz.sorts43 (m : Nat) : AnyZ.SortsIn Tryz.prog Tryz.sorted43_ren Fence.wide m :=
  ⟨fun blk off cap ss W hH hblk hsz => callsIn_wide.2 (Any.slices_Sort_string Tryz.lays190 blk off cap ss W hH hblk hsz),
   fun p cap W => callsIn_wide.2 (Any.slices_Sort_string_none Tryz.lays190 p cap W)⟩
open Go.RowKit Go.Maps Go.Sort in
theorem Tryz.maps_Keys_44 (mb : Option Nat) (W : World) : CallsIn Fence.wide 5 Tryz.prog 44 #[.map mb] W fun e w' => e = .returned (.func (.func 59) #[] #[.pointer (some ⟨W.heap.size, 0, none⟩)]) ∧ w' = W.alloc (.cells #[.map mb] 48) :=
  AnyZ.keys_in Tryz.keys44 Fence.wide 5 trivial rfl mb W
open Go.RowKit Go.Maps Go.Sort in
theorem Tryz.slices_Sorted_keys_43_44 {H : Type} (b nn : Nat) (D0 : DataW H) (R : Value → Option (DataW H × List MemPlace)) (w : World) (hown : w.ownsMap Tryz.prog 9 R b nn D0) (hmax : Maps.size D0 ≤ maxLen) (hbytes : Maps.size D0 * 16 ≤ 140737488355328) :
    CallsIn Fence.wide 5 Tryz.prog 43 #[.func (.func 59) #[] #[.pointer (some ⟨w.heap.size, 0, none⟩)]] (w.alloc (.cells #[.map (some b)] 48)) fun e w' => ∃ (v : Value) (ss : List (List UInt8)), e = .returned v ∧ ss.Perm (strKeys D0) ∧
      w'.ownsRow (w.alloc (.cells #[.map (some b)] 48)).heap.size 9 1 v ss.length ((ss.mergeSort (fun x y => decide (x ≤ y))).map encStr) ∧ (v = .slice none 0 0 ↔ ss = []) ∧ Below (w.alloc (.cells #[.map (some b)] 48)).heap.size (w.alloc (.cells #[.map (some b)] 48)) w' := by
  have hbl := hown.lt
  have hseq : SeqGives Fence.wide 2 Tryz.prog 59 #[.pointer (some ⟨w.heap.size, 0, none⟩)] encStr (fun ss => ss.Perm (strKeys D0)) (Maps.size D0) (w.alloc (.cells #[.map (some b)] 48)) :=
    AnyZ.keys_gives (ρ := Tryz.keys44_ren) { Tryz.keys44 with } Fence.wide _ trivial rfl (by omega) w.heap.size b nn D0 _ (by simp) (by simp) (by
      obtain ⟨es, clock, hb, Ft, hs, hD⟩ := hown
      exact ⟨es, clock, (Below.heap_alloc _ _ b hbl).trans hb, Ft, hs, hD⟩)
  exact AnyZ.sorted_in Tryz.sorted43 Fence.wide 5 trivial trivial trivial trivial rfl (by omega) (Tryz.sorts43 _) (enters_of Tryz.func58 (by kernel_rfl) rfl) 59 #[.pointer (some ⟨w.heap.size, 0, none⟩)] trivial (enters_of Tryz.func59 (by kernel_rfl) rfl) _ _ hmax hbytes _ hseq
end Go.Proofs
/- bytes.Clone, maps.Clone, strings.Clone. -/
namespace Go.Proofs.YtjglgohchhdkkaaGreatDoor
open Go Go.RowKit

theorem nil_yes8 (w : World) : (binOp BinOp.eql 32 (.slice none 0 0) (.slice none 0 0)).run Tryz.prog w = .ok (.bool true) w := by kernel_rfl
theorem nil_no8 (a : Addr) (n cap : Nat) (w : World) : (binOp BinOp.eql 32 (.slice (some a) n cap) (.slice none 0 0)).run Tryz.prog w = .ok (.bool false) w := by kernel_rfl
section
attribute [local go_sem] nil_yes8 nil_no8
set_option maxHeartbeats 1000000 in
theorem clone8_any (l : S8) (p : Option Addr) (n cap : Nat) (w : World) (hl : l.length = n) (hs : LsC w p (bytC l)) (hp : p = none → cap = 0) (hnc : n ≤ cap) (hn : n < 90000000) : Calls Tryz.prog 34 #[.slice p n cap] w fun e w' => ∃ v, e = .returned v ∧ w'.ownsRow w.heap.size 5 1 v n (bytC l) ∧ Below w.heap.size w w' := by
  cases p with
  | none =>
    obtain rfl := hp rfl
    obtain rfl : n = 0 := by omega
    have hl0 : l = [] := List.eq_nil_of_length_eq_zero hl
    subst hl0
    clear hs hp hnc hn hl
    go_enter Tryz.func34, Tryz.ntmps34
    go_wp2
    go_ret
    exact ⟨_, rfl, ⟨rfl, .inl ⟨rfl, rfl⟩⟩, Below.refl _ _⟩
  | some a =>
    have HSE := Lib.hid (hs.of_below (show Below w.heap.size w (w.alloc (.cells #[] 5)) from (Below.refl _ _).alloc (Nat.le_refl _) _))
    have HO := Lib.hid (own_empty (E := 5) (k := 1) w w.heap.size (Nat.le_refl _))
    have HB := Lib.hid (show Below w.heap.size w (w.alloc (.cells #[] 5)) from (Below.refl _ _).alloc (Nat.le_refl _) _)
    have HL := Lib.hid (show (bytC l).length = n * 1 by rw [bytC_len, hl, Nat.mul_one])
    have hsz : w.heap.size ≤ (w.alloc (.cells #[] 5)).heap.size := by rw [World.size_alloc]; omega
    clear hs hp hl
    go_enter Tryz.func34, Tryz.ntmps34
    go_wp2_with (first | (refine wpl_appendK (v := .slice (some ⟨w.heap.size, 0, none⟩) 0 0) elB _ rfl (.tmp 5) (.tmp 6) rfl w.heap.size rfl HO.out (some a) n cap (bytC l) HL.out rfl HSE.out (fun h => by cases h) (bytC_one l) (by omega) hsz ?_; rintro v3 w3 hO3 hg3 _; rw [List.nil_append, Nat.zero_add] at hO3; have HO3 := Lib.hid hO3; have HG3 := Lib.hid hg3; clear hO3 hg3))
    go_wp2
    go_ret
    exact ⟨_, rfl, HO3.out, HB.out.grown HG3.out hsz (fun k hk => by have : w.heap.size = k := (by simpa [Value.ownBlock] using hk); omega)⟩
end
theorem sclone_any (s : S8) (w : World) (h : s.length < 100000000) : Calls Tryz.prog 60 #[.string (mkS s)] w fun e w' => Gives (.string (mkS s)) w e w' :=
  Tryz.stringslite_Clone (mkS s) w (by rw [mkS_size]; omega)
set_option maxHeartbeats 1000000 in
theorem strClone_any (s : S8) (w : World) (h : s.length < 100000000) : Calls Tryz.prog 46 #[.string (mkS s)] w fun e w' => Gives (.string (mkS s)) w e w' := by
  have HC := Lib.hid (sclone_any s w h)
  go_enter Tryz.func46, Tryz.ntmps46
  go_wp2_with fail
  refine HC.out.mono ?_
  rintro e w' ⟨rfl, hB⟩
  have HB := Lib.hid hB
  clear hB
  go_wp2
  go_ret
  exact ⟨rfl, HB.out⟩
set_option maxRecDepth 100000 in
set_option maxHeartbeats 2000000 in
theorem mapClone_any (b : Nat) (es : Array MapEntry) (clock : Nat) (w : World) (hb : w.heap[b]? = some (.map es clock)) :
    Calls Tryz.prog 30 #[.map (some b)] w fun e w' => e = .returned (.map (some w.heap.size)) ∧ w' = w.alloc (.map es clock) := by
  have hq := fun w => run_eql_map_nil_sl (P := Tryz.prog) w 48 _ _ (some b) mapT
  go_enter Tryz.func30, Tryz.ntmps30
  go_wp2
  rw [run_callFunc_extern Tryz.func45 (by kernel_rfl) (by kernel_rfl) (by kernel_rfl) (e := Extern.MapsClone.clone) (by kernel_rfl), run_maps_clone_sl w 48 hb]
  simp only [Result.andThen]
  rw [Oper.upon_value]
  go_wp2
  rw [run_typeAssert_map_sl _ 48 _ _ _ _ mapT]
  simp only [Result.andThen]
  rw [Oper.upon_value]
  go_wp2
  go_ret
  exact ⟨rfl, rfl⟩
end Go.Proofs.YtjglgohchhdkkaaGreatDoor
/- The program's writing, renaming, removing: closures made. -/
namespace Go.Proofs.YtjglgohchhdkkaaGreatDoor
open Go Go.RowKit

theorem BoxS.free {w : World} {b : Nat} {p : S8} (h : BoxS w b p) : w.frozen? ⟨b, 0, none⟩ = false := by
  unfold World.frozen?
  rw [show w.heap[b]? = _ from h]
  simp
theorem BoxS.set {w : World} {b : Nat} {p : S8} (h : BoxS w b p) (q : S8) : BoxS (w.setCell ⟨b, 0, none⟩ (.string (mkS q))) b q := by
  unfold BoxS at h ⊢
  simp only [World.setCell, Array.getElem?_modify, if_true, h, Option.map_some]
  simp
theorem BoxS.of_below {w w' : World} {b : Nat} {p : S8} (h : BoxS w b p) {N : Nat} (hB : Below N w w') (hb : b < N) : BoxS w' b p := (hB.block b hb).trans h
theorem BoxF.of_below {w w' : World} {b : Nat} {sl : Nat → Hn} {f : Fl} (h : BoxF w b sl f) {N : Nat} (hB : Below N w w') (hb : b < N) : BoxF w' b sl f := (hB.block b hb).trans h
theorem BoxS.new (w : World) (p : S8) : BoxS (w.alloc (.cells #[.string (mkS p)] 9)) w.heap.size p := World.alloc_heap_new w _
/-- What a maker gives. -/
def MakesC (v : World → Nat → Value → Prop) (w : World) (e : Ending) (w' : World) : Prop := ∃ x, e = .returned x ∧ v w' w.heap.size x ∧ Below w.heap.size w w'
set_option maxRecDepth 100000 in
set_option maxHeartbeats 4000000 in
theorem writing_any (sl : Nat → Hn) (f : Fl) (w : World) (hp : f.p.length < 100000) : Calls Tryz.prog 33 #[.string (mkS f.p), .agg #[.int .i64 f.size, .int .i64 f.time, .int .i64 f.chg, .slice (sl f.body).q (sl f.body).n (sl f.body).c]] w fun e w' =>
    e = .returned (.func (.func 47) #[] #[.pointer (some ⟨w.heap.size, 0, none⟩), .pointer (some ⟨w.heap.size + 1, 0, none⟩)]) ∧ BoxS w' w.heap.size f.p ∧ BoxF w' (w.heap.size + 1) sl f ∧ Below w.heap.size w w' := by
  have hB0 := (Below.refl w.heap.size w).alloc (Nat.le_refl _) (.cells #[.string (mkS f.p)] 9)
  have hB1 := hB0.alloc hB0.size (.cells #[.int .i64 f.size, .int .i64 f.time, .int .i64 f.chg, .slice (sl f.body).q (sl f.body).n (sl f.body).c] 74)
  have hs1 : BoxS ((w.alloc (.cells #[.string (mkS f.p)] 9)).alloc (.cells #[.int .i64 f.size, .int .i64 f.time, .int .i64 f.chg, .slice (sl f.body).q (sl f.body).n (sl f.body).c] 74)) w.heap.size f.p :=
    (BoxS.new w f.p).of_below ((Below.refl _ _).alloc (Nat.le_refl _) _) (by rw [World.size_alloc]; omega)
  have hf1 : BoxF ((w.alloc (.cells #[.string (mkS f.p)] 9)).alloc (.cells #[.int .i64 f.size, .int .i64 f.time, .int .i64 f.chg, .slice (sl f.body).q (sl f.body).n (sl f.body).c] 74)) (w.heap.size + 1) sl f := by
    have := World.alloc_heap_new (w.alloc (.cells #[.string (mkS f.p)] 9)) (.cells (fileC sl f) 74)
    rw [World.size_alloc] at this
    exact this
  have HSZ : Hid (((w.alloc (.cells #[.string (mkS f.p)] 9)).alloc (.cells #[.int .i64 f.size, .int .i64 f.time, .int .i64 f.chg, .slice (sl f.body).q (sl f.body).n (sl f.body).c] 74)).heap.size = w.heap.size + 2) := Lib.hid (by rw [World.size_alloc, World.size_alloc])
  have HC := Lib.hid (fun u => strClone_any f.p u (Nat.lt_trans hp (by decide)))
  generalize hW : ((w.alloc (.cells #[.string (mkS f.p)] 9)).alloc (.cells #[.int .i64 f.size, .int .i64 f.time, .int .i64 f.chg, .slice (sl f.body).q (sl f.body).n (sl f.body).c] 74)) = W at *
  have HW := Lib.hid hW
  have HB1 := Lib.hid hB1
  have HF1 := Lib.hid hf1
  have HS1 := Lib.hid hs1
  have c0 := hs1.cell
  clear hB0 hB1 hs1 hf1 hW hp
  go_enter Tryz.func33, Tryz.ntmps33
  go_wp2_with fail
  rw [HW.out]
  refine (HC.out W).mono ?_
  rintro e w2 ⟨rfl, hB2⟩
  have hs2 := HS1.out.of_below hB2 (by rw [HSZ.out]; omega)
  have c2 := hs2.cell
  have f2 := hs2.free
  have HB2 := Lib.hid (HB1.out.trans (hB2.mono HB1.out.size))
  have HF2 := Lib.hid (HF1.out.of_below hB2 (by rw [HSZ.out]; omega))
  have HS2 := Lib.hid hs2
  clear hB2 hs2 c0
  go_wp2
  go_ret
  exact ⟨rfl, HS2.out.set _, (Below.heap_setCell _ _ _ _ (by simp)).trans HF2.out, HB2.out.setCell (Nat.le_refl _) _⟩
set_option maxRecDepth 100000 in
set_option maxHeartbeats 4000000 in
theorem removing_any (p : S8) (w : World) (hp : p.length < 100000) : Calls Tryz.prog 41 #[.string (mkS p)] w fun e w' =>
    e = .returned (.func (.func 55) #[] #[.pointer (some ⟨w.heap.size, 0, none⟩)]) ∧ BoxS w' w.heap.size p ∧ Below w.heap.size w w' := by
  have hB1 := (Below.refl w.heap.size w).alloc (Nat.le_refl _) (.cells #[.string (mkS p)] 9)
  have hs1 := BoxS.new w p
  have HSZ : Hid ((w.alloc (.cells #[.string (mkS p)] 9)).heap.size = w.heap.size + 1) := Lib.hid (by rw [World.size_alloc])
  have HC := Lib.hid (fun u => strClone_any p u (Nat.lt_trans hp (by decide)))
  generalize hW : (w.alloc (.cells #[.string (mkS p)] 9)) = W at *
  have HW := Lib.hid hW
  have HB1 := Lib.hid hB1
  have HS1 := Lib.hid hs1
  have c0 := hs1.cell
  clear hB1 hs1 hW hp
  go_enter Tryz.func41, Tryz.ntmps41
  go_wp2_with fail
  rw [HW.out]
  refine (HC.out W).mono ?_
  rintro e w2 ⟨rfl, hB2⟩
  have hs2 := HS1.out.of_below hB2 (by rw [HSZ.out]; omega)
  have c2 := hs2.cell
  have f2 := hs2.free
  have HB2 := Lib.hid (HB1.out.trans (hB2.mono HB1.out.size))
  have HS2 := Lib.hid hs2
  clear hB2 hs2 c0
  go_wp2
  go_ret
  exact ⟨rfl, HS2.out.set _, HB2.out.setCell (Nat.le_refl _) _⟩
/-- Two boxes of strings. -/
def Bx2 (w : World) (b1 b2 : Nat) (p q : S8) (u : World) : Prop := BoxS u b1 p ∧ BoxS u b2 q ∧ Below w.heap.size w u
theorem Bx2.facts {w u : World} {b1 b2 : Nat} {p q : S8} (h : Bx2 w b1 b2 p q u) : u.cell? ⟨b1, 0, none⟩ = some (.string (mkS p)) ∧ u.cell? ⟨b2, 0, none⟩ = some (.string (mkS q)) ∧ u.frozen? ⟨b1, 0, none⟩ = false ∧ u.frozen? ⟨b2, 0, none⟩ = false ∧ Bx2 w b1 b2 p q u :=
  ⟨h.1.cell, h.2.1.cell, h.1.free, h.2.1.free, h⟩
theorem Bx2.next {w u u' : World} {b1 b2 : Nat} {p q : S8} (h : Bx2 w b1 b2 p q u) (hB : Below u.heap.size u u') : Bx2 w b1 b2 p q u' :=
  ⟨h.1.of_below hB h.1.lt, h.2.1.of_below hB h.2.1.lt, h.2.2.trans (hB.mono h.2.2.size)⟩
theorem Bx2.set1 {w u : World} {b1 b2 : Nat} {p q : S8} (h : Bx2 w b1 b2 p q u) (h1 : w.heap.size ≤ b1) (hn : b2 ≠ b1) : Bx2 w b1 b2 p q (u.setCell ⟨b1, 0, none⟩ (.string (mkS p))) :=
  ⟨h.1.set _, (Below.heap_setCell _ _ _ _ hn).trans h.2.1, h.2.2.setCell h1 _⟩
theorem Bx2.set2 {w u : World} {b1 b2 : Nat} {p q : S8} (h : Bx2 w b1 b2 p q u) (h1 : w.heap.size ≤ b2) (hn : b1 ≠ b2) : Bx2 w b1 b2 p q (u.setCell ⟨b2, 0, none⟩ (.string (mkS q))) :=
  ⟨(Below.heap_setCell _ _ _ _ hn).trans h.1, h.2.1.set _, h.2.2.setCell h1 _⟩
set_option maxRecDepth 100000 in
set_option maxHeartbeats 4000000 in
theorem renaming_any (p q : S8) (w : World) (hp : p.length < 100000) (hq : q.length < 100000) : Calls Tryz.prog 40 #[.string (mkS p), .string (mkS q)] w fun e w' =>
    e = .returned (.func (.func 54) #[] #[.pointer (some ⟨w.heap.size, 0, none⟩), .pointer (some ⟨w.heap.size + 1, 0, none⟩)]) ∧ BoxS w' w.heap.size p ∧ BoxS w' (w.heap.size + 1) q ∧ Below w.heap.size w w' := by
  have hB0 := (Below.refl w.heap.size w).alloc (Nat.le_refl _) (.cells #[.string (mkS p)] 9)
  have hB1 := hB0.alloc hB0.size (.cells #[.string (mkS q)] 9)
  have hs1 : BoxS ((w.alloc (.cells #[.string (mkS p)] 9)).alloc (.cells #[.string (mkS q)] 9)) w.heap.size p :=
    (BoxS.new w p).of_below ((Below.refl _ _).alloc (Nat.le_refl _) _) (by rw [World.size_alloc]; omega)
  have hf1 : BoxS ((w.alloc (.cells #[.string (mkS p)] 9)).alloc (.cells #[.string (mkS q)] 9)) (w.heap.size + 1) q := by
    have := BoxS.new (w.alloc (.cells #[.string (mkS p)] 9)) q
    rw [World.size_alloc] at this
    exact this
  have HSZ : Hid (((w.alloc (.cells #[.string (mkS p)] 9)).alloc (.cells #[.string (mkS q)] 9)).heap.size = w.heap.size + 2) := Lib.hid (by rw [World.size_alloc, World.size_alloc])
  have HCp := Lib.hid (fun u => strClone_any p u (Nat.lt_trans hp (by decide)))
  have HCq := Lib.hid (fun u => strClone_any q u (Nat.lt_trans hq (by decide)))
  generalize hW : ((w.alloc (.cells #[.string (mkS p)] 9)).alloc (.cells #[.string (mkS q)] 9)) = W at *
  have HW := Lib.hid hW
  have HB1 := Lib.hid hB1
  have HF1 := Lib.hid hf1
  have HS1 := Lib.hid hs1
  have hx0 : Bx2 w w.heap.size (w.heap.size + 1) p q W := ⟨hs1, hf1, hB1⟩
  have hx : Bx2 w w.heap.size (w.heap.size + 1) p q W.drew := hx0.next (Below.refl _ _).drew
  have HS := Lib.hid (fun (u : World) (h : Bx2 w w.heap.size (w.heap.size + 1) p q u) => (h.set1 (Nat.le_refl _) (by omega)).facts)
  have HS2 := Lib.hid (fun (u : World) (h : Bx2 w w.heap.size (w.heap.size + 1) p q u) => (h.set2 (Nat.le_succ _) (by omega)).facts)
  clear hB0 hB1 hs1 hf1 hW hp hq
  go_enter Tryz.func40, Tryz.ntmps40
  go_wp2_with fail
  rw [HW.out]
  go_region_held3 (fun u : World => u.cell? ⟨w.heap.size, 0, none⟩ = some (.string (mkS p)) ∧ u.cell? ⟨w.heap.size + 1, 0, none⟩ = some (.string (mkS q)) ∧ u.frozen? ⟨w.heap.size, 0, none⟩ = false ∧ u.frozen? ⟨w.heap.size + 1, 0, none⟩ = false ∧ Bx2 w w.heap.size (w.heap.size + 1) p q u) (first | exact hx.facts | exact HS.out _ hz | exact HS2.out _ hz | exact HS2.out _ (HS.out _ hz).2.2.2.2 | exact HS.out _ (HS2.out _ hz).2.2.2.2 | exact hz.facts | go_keep) ((first | (go_at_call 46; (first | with_reducible refine (HCp.out _).mono ?_ | with_reducible refine (HCq.out _).mono ?_); rintro e w2 ⟨rfl, hB2⟩; have hz := Bx2.next (by assumption) hB2; obtain ⟨z1, z2, z3, z4, -⟩ := hz.facts; clear hB2)))
  all_goals
    rename_i hh
    have HF := Lib.hid hh.2.2.2.2
    clear hh hz z1 z2 z3 z4 hx hx0
    go_wp2
    go_ret
    exact ⟨rfl, HF.out.1, HF.out.2.1, HF.out.2.2⟩
end Go.Proofs.YtjglgohchhdkkaaGreatDoor
/- Read, Stat, Room, Waiting of the program's disk. -/
namespace Go.Proofs.YtjglgohchhdkkaaGreatDoor
open Go Go.RowKit

theorem results_cell_tmp {P : Program} {fn : Func} {p q : Tmp} {ty : TypeId} (h : fn.results = #[.cell p ty, .tmp q]) (tmps : Array Value) (w : World) (g : Nat) (t : TypeId) (cs : Array Value) (fr : Nat × Nat) (d : TypeDesc)
    (hp : tmps.getD p undef = .pointer (some ⟨g, 0, none⟩)) (hg : w.heap[g]? = some (.cells cs t fr))
    (hu : P.underlying ty = some d) (hd : (match d with | .struct _ | .array _ _ => true | _ => false) = true) (hi : (P.info? ty).map (·.size) = some cs.size) (v : Value) (hv : tmps.getD q undef = v) :
    (results fn tmps).run P w = .ok (.tuple #[.agg cs, v]) w := by
  have hp' : tmps[p]?.getD undef = .pointer (some ⟨g, 0, none⟩) := by simpa using hp
  have hv' : tmps[q]?.getD undef = v := by simpa using hv
  simp [results, h, hp', hv', asAddr, run_loadVar_row w g t ty cs fr d hg hu hd hi, Result.andThen]
section
variable {w : World} {S : Nat → Prop} {b : Nat} {m : Dk} {mv md : Nat} {pv : Value} {vs : List Value} {sl : Nat → Hn}
theorem findL_in {l : List Fl} {p : S8} {i : Nat} (h : findL l p = some i) : l.getD i fl0 ∈ l := by
  have hi := findL_lt h
  rw [List.getD_eq_getElem?_getD, List.getElem?_eq_getElem hi]
  exact List.getElem_mem hi
set_option maxRecDepth 100000 in
set_option maxHeartbeats 4000000 in
theorem read_any (h : Dp w S b m mv md pv vs sl) (hok : DkOk 300 m) (p : S8) : Calls Tryz.prog 14 #[.pointer (some ⟨b, 0, none⟩), .string (mkS p)] w fun e w' => ∃ v, e = .returned (.tuple #[v, .int .i64 (readN m p)]) ∧ w'.ownsRow w.heap.size 5 1 v ((readL m p).getD []).length (bytC ((readL m p).getD [])) ∧ Below w.heap.size w w' := by
  have c2 := h.cell 2
  simp at c2
  cases hf : findL m.seen p with
  | none =>
    have hl := look_none h.vis hf
    have HR := Lib.hid (show readL m p = none by unfold readL; rw [hf]; rfl)
    have HB := Lib.hid ((Below.refl w.heap.size w).alloc (Nat.le_refl _) (.cells #[.int .i64 0, .int .i64 0, .int .i64 0, .slice none 0 0] 74))
    have HN := Lib.hid (show readN m p = 8 by unfold readN; rw [HR.out]; rfl)
    clear h hf
    go_enter Tryz.func14, Tryz.ntmps14
    go_wp2
    go_ret2
    exact ⟨.slice none 0 0, by rw [HN.out]; rfl, by rw [HR.out]; exact ⟨rfl, .inl ⟨rfl, rfl⟩⟩, HB.out⟩
  | some i =>
    obtain ⟨x, hx⟩ : ∃ x, m.seen.getD i fl0 = x := ⟨_, rfl⟩
    have hl := look_some h.vis hf x hx
    have hxm : x.body < m.bodies.length := by rw [← hx]; exact hok.inS _ (findL_in hf)
    obtain ⟨b1, b2, b3, b4⟩ := h.bytes x.body hxm
    have hbb : (m.bodies.getD x.body []).length ≤ 300000 := hok.shortB x.body
    have HR := Lib.hid (show readL m p = some (m.bodies.getD x.body []) by unfold readL; rw [hf]; show some (bodyL m _) = _; rw [hx]; rfl)
    have hB := ((Below.refl w.heap.size w).alloc (Nat.le_refl _) (.cells #[.int .i64 x.size, .int .i64 x.time, .int .i64 x.chg, .slice (sl x.body).q (sl x.body).n (sl x.body).c] 74))
    have HC := Lib.hid (clone8_any (m.bodies.getD x.body []) (sl x.body).q (sl x.body).n (sl x.body).c (w.alloc (.cells #[.int .i64 x.size, .int .i64 x.time, .int .i64 x.chg, .slice (sl x.body).q (sl x.body).n (sl x.body).c] 74)) b1.symm (b2.of_below hB) b3 b4 (by omega))
    have k3 := box4_cell w 74 (.int .i64 x.size) (.int .i64 x.time) (.int .i64 x.chg) (.slice (sl x.body).q (sl x.body).n (sl x.body).c) 3
    simp at k3
    have HB := Lib.hid hB
    have HN := Lib.hid b1
    have HN2 := Lib.hid (show readN m p = 0 by unfold readN; rw [HR.out]; rfl)
    clear h hf b1 b2 b3 b4 hB hx
    go_enter Tryz.func14, Tryz.ntmps14
    go_wp2_with fail
    refine HC.out.mono ?_
    rintro e w2 ⟨v, rfl, hO, hB2⟩
    have HO := Lib.hid (own_lower hO (b2 := w.heap.size) HB.out.size)
    have HB2 := Lib.hid (HB.out.trans (hB2.mono HB.out.size))
    clear hO hB2
    go_wp2
    go_ret2
    refine ⟨v, by rw [HN2.out]; rfl, ?_, HB2.out⟩
    rw [HR.out]
    show w2.ownsRow _ _ _ _ (m.bodies.getD x.body []).length _
    rw [← HN.out]
    exact HO.out
theorem zeroStamp (w : World) : (zeroValue 62).run Tryz.prog w = .ok (.agg #[.int .i64 0, .int .i64 0, .int .i64 0]) w := by kernel_rfl
def stampV (o : Option Fl) : Value := match o with
  | some f => .tuple #[.agg #[.int .i64 f.size, .int .i64 f.time, .int .i64 f.chg], .int .i64 0]
  | none => .tuple #[.agg #[.int .i64 0, .int .i64 0, .int .i64 0], .int .i64 8]
set_option maxRecDepth 100000 in
set_option maxHeartbeats 4000000 in
theorem stat_any (h : Dp w S b m mv md pv vs sl) (p : S8) : Calls Tryz.prog 23 #[.pointer (some ⟨b, 0, none⟩), .string (mkS p)] w fun e w' => e = .returned (stampV (fileL m p)) ∧ Below w.heap.size w w' := by
  have c2 := h.cell 2
  simp at c2
  have HLT := Lib.hid h.lt
  cases hf : findL m.seen p with
  | none =>
    have hB0 := (Below.refl w.heap.size w).alloc (Nat.le_refl _) (.cells #[.int .i64 0, .int .i64 0, .int .i64 0] 62)
    have hl := look_none (h.of_below hB0).vis hf
    have HR := Lib.hid (show stampV (fileL m p) = .tuple #[.agg #[.int .i64 0, .int .i64 0, .int .i64 0], .int .i64 8] by unfold fileL; rw [hf]; rfl)
    have c20 := (hB0.cell (p := ⟨b, 2, none⟩) h.lt).trans c2
    have HB := Lib.hid (hB0.alloc hB0.size (.cells #[.int .i64 0, .int .i64 0, .int .i64 0, .slice none 0 0] 74))
    clear h hf
    go_enter Tryz.func23, Tryz.ntmps23
    go_wp2
    refine bodyPost_ret (results_cell_tmp rfl _ _ w.heap.size 62 #[.int .i64 0, .int .i64 0, .int .i64 0] (0, 0) _ rfl (by rw [Below.heap_alloc _ _ _ (by rw [World.size_alloc]; omega)]; exact World.alloc_heap_new w _) Tryz.underlying62 rfl (by kernel_rfl) (.int .i64 8) rfl) rfl ?_
    exact ⟨by rw [HR.out], HB.out⟩
  | some i =>
    obtain ⟨x, hx⟩ : ∃ x, m.seen.getD i fl0 = x := ⟨_, rfl⟩
    have hB0 := (Below.refl w.heap.size w).alloc (Nat.le_refl _) (.cells #[.int .i64 0, .int .i64 0, .int .i64 0] 62)
    have hl := look_some (h.of_below hB0).vis hf x hx
    have HR := Lib.hid (show stampV (fileL m p) = .tuple #[.agg #[.int .i64 x.size, .int .i64 x.time, .int .i64 x.chg], .int .i64 0] by unfold fileL; rw [hf, ← hx]; rfl)
    have c20 := (hB0.cell (p := ⟨b, 2, none⟩) h.lt).trans c2
    have hB1 := (Below.refl w.heap.size w).alloc (Nat.le_refl _) (.cells #[.int .i64 x.size, .int .i64 x.time, .int .i64 x.chg] 62)
    have HB := Lib.hid (hB1.alloc hB1.size (.cells #[.int .i64 x.size, .int .i64 x.time, .int .i64 x.chg, .slice (sl x.body).q (sl x.body).n (sl x.body).c] 74))
    clear h hf hx hB1
    go_enter Tryz.func23, Tryz.ntmps23
    go_wp2
    refine bodyPost_ret (results_cell_tmp rfl _ _ w.heap.size 62 #[.int .i64 x.size, .int .i64 x.time, .int .i64 x.chg] (0, 0) _ rfl (by rw [Below.heap_alloc _ _ _ (by rw [World.size_alloc]; omega)]; exact World.alloc_heap_new w _) Tryz.underlying62 rfl (by kernel_rfl) (.int .i64 0) rfl) rfl ?_
    exact ⟨by rw [HR.out], HB.out⟩
set_option maxHeartbeats 1000000 in
theorem room_any (h : Dp w S b m mv md pv vs sl) : Calls Tryz.prog 28 #[.pointer (some ⟨b, 0, none⟩)] w fun e w' => e = .returned (.int .i64 m.room) ∧ w = w' := by
  have c0 := h.cell 0
  simp at c0
  clear h
  go_enter Tryz.func28, Tryz.ntmps28
  go_wp2
  go_ret
  exact ⟨rfl, rfl⟩
set_option maxHeartbeats 1000000 in
theorem waiting_any (h : Dp w S b m mv md pv vs sl) : Calls Tryz.prog 29 #[.pointer (some ⟨b, 0, none⟩)] w fun e w' => e = .returned (.int .i64 (m.waits.length : Int)) ∧ w = w' := by
  obtain ⟨q, c, e⟩ := own_slice h.pd.own
  have c4 := h.cell 4
  rw [e] at c4
  simp at c4
  clear h e
  go_enter Tryz.func29, Tryz.ntmps29
  go_wp2
  go_ret
  exact ⟨rfl, rfl⟩
end
end Go.Proofs.YtjglgohchhdkkaaGreatDoor
