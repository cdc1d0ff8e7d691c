/- Merged texts: Disk8, Dkd8, Lib8, Cln8, Mkc8, Rdk8, Usd8, Do8. -/
import Derived.Test.YtbijgbjlljaolaaDoorK2
import Derived.Shelf.SlGeneric
import Derived.Shelf.LaysM
import Derived.Shelf.Strconv.Clone
import Derived.Shelf.Sort.Plain
import Derived.Shelf.Slices.In.SortNone
import Derived.Shelf.SlIter.Nil
import Derived.Ground.GgzProg
import Derived.Test.YtbijgbjlljaolaaDoorProg
import Derived.Shelf.SlMaps.Clone
import Derived.Deep.RegionHeld3
set_option linter.unusedSimpArgs false
set_option linter.unusedVariables false
/- What the statements' walks ask of the program's package disk . -/
namespace Go.Proofs.YtbijgbjlljaolaaDoor
open Go Go.RowKit

/-- Nothing changes but blocks where S holds, and new ones. -/
structure Kq8 (S : Nat → Prop) (w w' : World) : Prop where
  os : w'.os = w.os
  tape : w'.tape = w.tape
  output : w'.output = w.output
  size : w.heap.size ≤ w'.heap.size
  block : ∀ k, k < w.heap.size → ¬ S k → w'.heap[k]? = w.heap[k]?
section
variable {S S' : Nat → Prop} {w w' w'' : World}
theorem Kq8.of_below (h : Below w.heap.size w w') : Kq8 S w w' := ⟨h.os, h.tape, h.output, h.size, fun k hk _ => h.block k hk⟩
/-- S' has grown out of S by new blocks only. -/
def GrewTo (N : Nat) (S S' : Nat → Prop) : Prop := ∀ k, S' k → S k ∨ N ≤ k
theorem GrewTo.trans {N N' : Nat} {S S' S'' : Nat → Prop} (h : GrewTo N S S') (k : GrewTo N' S' S'') (hN : N ≤ N') : GrewTo N S S'' := fun i hi => by
  rcases k i hi with x | x
  · exact h i x
  · exact .inr (Nat.le_trans hN x)
theorem Kq8.trans (h : Kq8 S w w') (g : GrewTo w.heap.size S S') (k : Kq8 S' w' w'') : Kq8 S w w'' :=
  ⟨k.os.trans h.os, k.tape.trans h.tape, k.output.trans h.output, Nat.le_trans h.size k.size, fun i hi hn => by
    rw [k.block i (Nat.lt_of_lt_of_le hi h.size) (fun x => by rcases g i x with y | y; exact hn y; omega)]
    exact h.block i hi hn⟩
end
def ltS (a b : S8) : Bool := decide (a.map UInt8.toNat < b.map UInt8.toNat)
def clampL (room : Int) : Int := min (max room 0) 1048576
/-- A file's bytes. -/
def readL (m : Dk) (p : S8) : Option S8 := (findL m.seen p).map fun i => bodyL m (m.seen.getD i fl0)
def readN (m : Dk) (p : S8) : Int := if (readL m p).isSome then 0 else 8
def fileL (m : Dk) (p : S8) : Option Fl := (findL m.seen p).map fun i => m.seen.getD i fl0
/-- What a disk's call leaves behind. -/
def Left8 (D : World → (Nat → Prop) → Nat → Dk → Prop) (S : Nat → Prop) (b : Nat) (w : World) (m : Dk) (w' : World) : Prop := ∃ S', D w' S' b m ∧ Kq8 S w w' ∧ GrewTo w.heap.size S S'
def SmallD (m : Dk) : Prop := DkOk 300 m ∧ 0 ≤ m.room ∧ m.room ≤ 1048576
theorem changeL_room (m : Dk) (c : Ch) : (changeL m c).room = m.room := rfl
theorem writeL_room (m : Dk) (p b : S8) (t : Int) : (writeL m p b t).1.room = m.room := by
  unfold writeL
  repeat' split
  all_goals rfl
theorem renameL_room (m : Dk) (p q : S8) : (renameL m p q).1.room = m.room := by
  unfold renameL
  repeat' split
  all_goals rfl
theorem removeL_room (m : Dk) (p : S8) : (removeL m p).1.room = m.room := by
  unfold removeL
  split <;> rfl
theorem rotL_room (m : Dk) (p : S8) (a : Int) (k : UInt8) : (rotL m p a k).1.room = m.room := by
  unfold rotL
  split
  · rfl
  · dsimp only
    split <;> rfl
theorem syncL_room (m : Dk) : (syncL m).room = m.room := rfl
theorem crashL_room (m : Dk) (ks : List Bool) : (crashL m ks).room = m.room := rfl
end Go.Proofs.YtbijgbjlljaolaaDoor
/- The program's disk in memory: a box, two maps, the files' bytes, the pending changes. -/
namespace Go.Proofs.YtbijgbjlljaolaaDoor
open Go Go.RowKit

def Hn.v (h : Hn) : Value := .slice h.q h.n h.c
theorem own_full8 {w : World} {E : TypeId} {k base n : Nat} {v : Value} {cs : List Value} (h : w.ownsRow base E k v n cs) (hn : 0 < n) :
    ∃ g cap, v = .slice (some ⟨g, 0, none⟩) n cap ∧ base ≤ g ∧ g < w.heap.size ∧ n ≤ cap ∧ (∀ j, j < cs.length → w.cell? ⟨g, j, none⟩ = cs[j]?) ∧ ∀ j, w.frozen? ⟨g, j, none⟩ = false := by
  obtain ⟨p, cap, e, hls, hnil, hle, hb⟩ := own_shape h
  rcases h.2 with ⟨_, hn0⟩ | ⟨g, cap2, cur, hv, hb2, hg, hle2, _, hsz, ht⟩
  · omega
  · rw [hv] at e
    injection e with e1 e2 e3
    refine ⟨g, cap2, hv, hb2, (hb g 0 e1.symm).2, hle2, fun j hj => ?_, fun j => ?_⟩
    · obtain ⟨c, o, ec, hc⟩ := hls j hj
      rw [← e1] at ec
      injection ec with ec
      injection ec with ec1 ec2
      rw [← ec1, ← ec2, Nat.zero_add] at hc
      exact hc
    · unfold World.frozen?
      simp [hg]
theorem bytC_flip8 (b : S8) (a : Nat) (mask : UInt8) : bytC (flipL b a mask) = (bytC b).set a (.int .u8 ((b.getD a 0 ^^^ mask).toNat : Int)) := by
  unfold bytC flipL
  rw [List.map_set]
/-- The bytes of all files, each in a block of its own. -/
structure BdOk (w : World) (S : Nat → Prop) (bs : List S8) (sl : Nat → Hn) : Prop where
  own : ∀ i, i < bs.length → w.ownsRow 0 5 1 (sl i).v (bs.getD i []).length (bytC (bs.getD i []))
  in_ : ∀ i, i < bs.length → ∀ g, (sl i).v.ownBlock = some g → S g
  ap : ∀ i j, i < bs.length → j < bs.length → i ≠ j → ∀ g, (sl i).v.ownBlock = some g → (sl j).v.ownBlock ≠ some g
/-- The pending changes. -/
structure PdOk (w : World) (S : Nat → Prop) (ws : List Ch) (sl : Nat → Hn) (pv : Value) (vs : List Value) : Prop where
  own : w.ownsRow 0 60 1 pv ws.length vs
  in_ : ∀ g, pv.ownBlock = some g → S g
  cls : ∀ i (h : i < ws.length), ∃ v, vs[i]? = some v ∧ ClsV w S sl ws[i] v
structure SzOk (m : Dk) : Prop where
  seen : ∀ f ∈ m.seen, f.size = ((bodyL m f).length : Int)
  safe : ∀ f ∈ m.safe, f.size = ((bodyL m f).length : Int)
  waits : ∀ c ∈ m.waits, c.kind = 1 → c.file.size = ((bodyL m c.file).length : Int)
structure Dp (w : World) (S : Nat → Prop) (b : Nat) (m : Dk) (mv md : Nat) (pv : Value) (vs : List Value) (sl : Nat → Hn) : Prop where
  box : w.heap[b]? = some (.cells #[.int .i64 m.room, .int .i64 m.count, .map (some mv), .map (some md), pv] 56 (0, 0))
  sb : S b
  sv : S mv
  sd : S md
  ne : mv ≠ md
  vis : MpB w mv (m.seen.map (entV sl))
  dur : MpB w md (m.safe.map (entV sl))
  bod : BdOk w S m.bodies sl
  pd : PdOk w S m.waits sl pv vs
  sz : SzOk m
  low : ∀ k, S k → k < w.heap.size
theorem own_type {w : World} {base : Nat} {E : TypeId} {k n : Nat} {v : Value} {cs : List Value} (h : w.ownsRow base E k v n cs) {g : Nat} (hg : v.ownBlock = some g) : ∃ cur, w.heap[g]? = some (.cells cur E (0, 0)) := by
  rcases h.2 with ⟨hv, _⟩ | ⟨g2, cap2, cur, hv, hb2, hg2, _⟩
  · rw [hv] at hg; cases hg
  · rw [hv] at hg
    injection hg with hg
    rw [← hg]
    exact ⟨cur, hg2⟩
theorem own_slice {w : World} {base : Nat} {E : TypeId} {k n : Nat} {v : Value} {cs : List Value} (h : w.ownsRow base E k v n cs) : ∃ q c, v = .slice q n c := by
  obtain ⟨p, cap, e, _⟩ := own_shape h
  exact ⟨p, cap, e⟩
section
variable {w w' : World} {S S' : Nat → Prop} {b : Nat} {m : Dk} {mv md : Nat} {pv : Value} {vs : List Value} {sl : Nat → Hn}
theorem BdOk.keep {bs : List S8} (h : BdOk w S bs sl) (hk : ∀ k cur, S k → w.heap[k]? = some (.cells cur 5 (0, 0)) → w'.heap[k]? = w.heap[k]?) (hS : ∀ k, S k → S' k) : BdOk w' S' bs sl :=
  ⟨fun i hi => own_keep (h.own i hi) fun g hg => by obtain ⟨cur, hc⟩ := own_type (h.own i hi) hg; exact hk g cur (h.in_ i hi g hg) hc, fun i hi g hg => hS _ (h.in_ i hi g hg), h.ap⟩
theorem PdOk.keep {ws : List Ch} (h : PdOk w S ws sl pv vs) (hk : ∀ k T cs, S k → w.heap[k]? = some (.cells cs T (0, 0)) → (T = 9 ∨ T = 64 ∨ T = 60) → w'.heap[k]? = w.heap[k]?) (hS : ∀ k, S k → S' k) : PdOk w' S' ws sl pv vs :=
  ⟨own_keep h.own fun g hg => by obtain ⟨cur, hc⟩ := own_type h.own hg; exact hk g _ cur (h.in_ g hg) hc (.inr (.inr rfl)), fun g hg => hS _ (h.in_ g hg), fun i hi => by
    obtain ⟨v, e, hc⟩ := h.cls i hi
    exact ⟨v, e, hc.keep (fun k T cs h1 h2 h3 => hk k T cs h1 h2 (by rcases h3 with x | x; exact .inl x; exact .inr (.inl x))) hS⟩⟩
theorem Dp.keep (h : Dp w S b m mv md pv vs sl) (hk : ∀ k, S k → w'.heap[k]? = w.heap[k]?) (hS : ∀ k, S k → S' k) (hlow : ∀ k, S' k → k < w'.heap.size) : Dp w' S' b m mv md pv vs sl :=
  ⟨(hk b h.sb).trans h.box, hS _ h.sb, hS _ h.sv, hS _ h.sd, h.ne, h.vis.keep (hk _ h.sv), h.dur.keep (hk _ h.sd), h.bod.keep (fun k _ hs _ => hk k hs) hS, h.pd.keep (fun k _ _ hs _ _ => hk k hs) hS, h.sz, hlow⟩
theorem Dp.of_below (h : Dp w S b m mv md pv vs sl) (hB : Below w.heap.size w w') : Dp w' S b m mv md pv vs sl :=
  h.keep (fun k hk => hB.block k (h.low k hk)) (fun k hk => hk) (fun k hk => Nat.lt_of_lt_of_le (h.low k hk) hB.size)
theorem Dp.cell (h : Dp w S b m mv md pv vs sl) (j : Nat) : w.cell? ⟨b, j, none⟩ = [Value.int .i64 m.room, .int .i64 m.count, .map (some mv), .map (some md), pv][j]? := by
  unfold World.cell?
  rw [h.box]
  simp
theorem Dp.free (h : Dp w S b m mv md pv vs sl) (j : Nat) : w.frozen? ⟨b, j, none⟩ = false := by
  unfold World.frozen?
  rw [h.box]
  simp
theorem Dp.lt (h : Dp w S b m mv md pv vs sl) : b < w.heap.size := h.low _ h.sb
/-- The bytes of a file, as a slice. -/
theorem Dp.bytes (h : Dp w S b m mv md pv vs sl) (i : Nat) (hi : i < m.bodies.length) : (sl i).n = (m.bodies.getD i []).length ∧ LsC w (sl i).q (bytC (m.bodies.getD i [])) ∧ ((sl i).q = none → (sl i).c = 0) ∧ (sl i).n ≤ (sl i).c := by
  obtain ⟨p, cap, e, h1, h2, h3, h4⟩ := own_shape (h.bod.own i hi)
  unfold Hn.v at e
  injection e with e1 e2 e3
  exact ⟨e2, by rw [e1]; exact h1, by rw [e1, e3]; exact h2, by rw [e2, e3]; exact h3⟩
end
theorem ent_congr {sl sl' : Nat → Hn} {l : List Fl} (h : ∀ f ∈ l, sl f.body = sl' f.body) : l.map (entV sl) = l.map (entV sl') :=
  List.map_congr_left fun f hf => by unfold entV fileV fileC; rw [h f hf]
end Go.Proofs.YtbijgbjlljaolaaDoor
/- strings.Clone, slices.Sort, maps.Keys, slices.Sorted at this seat's dump: the library's contracts, laid. -/
namespace Go.Proofs
open Go.Shelf
def Tryd.laysM316_ren : Go.Shelf.Ren := ⟨fun | 316 => 46 | n => n, fun | 9 => 9 | 3 => 3 | 4 => 4 | 37 => 28 | 0 => 0 | 127 => 88 | 5 => 5 | n => n, fun | n => n⟩
theorem Tryd.laysM316 : Go.Proofs.LaysM.n316 Tryd.prog Tryd.laysM316_ren := {
  mixed := by kernel_rfl
  f316 := Tryd.func46.trans (congrArg some (by kernel_rfl))
  t0 := Tryd.underlying0
  a0 := Tryd.isAgg0
  z0 := Tryd.sizeOf0
  v0 := Tryd.zeroValue0
  t3 := Tryd.underlying3
  a3 := Tryd.isAgg3
  z3 := Tryd.sizeOf3
  v3 := Tryd.zeroValue3
  t4 := Tryd.underlying4
  a4 := Tryd.isAgg4
  z4 := Tryd.sizeOf4
  v4 := Tryd.zeroValue4
  t9 := Tryd.underlying9
  a9 := Tryd.isAgg9
  z9 := Tryd.sizeOf9
  v9 := Tryd.zeroValue9
  t37 := Tryd.underlying28
  a37 := Tryd.isAgg28
  z37 := Tryd.sizeOf28
  v37 := Tryd.zeroValue28
  t127 := Tryd.underlying88
  a127 := Tryd.isAgg88
  z127 := Tryd.sizeOf88
  v127 := Tryd.zeroValue88
  t5 := Tryd.underlying5
  a5 := Tryd.isAgg5
  z5 := Tryd.sizeOf5
  v5 := Tryd.zeroValue5
  i0 := by kernel_rfl
  i3 := by kernel_rfl
  i4 := by kernel_rfl
  i5 := by kernel_rfl
  i9 := by kernel_rfl
  i37 := by kernel_rfl
  i127 := by kernel_rfl }
open Go.RowKit in
theorem Tryd.stringslite_Clone (s : ByteArray) (w : World) (hlim : s.size ≤ 281474976710656) :
    Calls Tryd.prog 46 #[.string s] w fun e w' => e = .returned (.string s) ∧ Below w.heap.size w w' := Any.stringslite_Clone Tryd.laysM316 s w hlim
def Tryd.lays190_ren : Go.Shelf.Ren := ⟨fun | 190 => 44 | 125 => 55 | 258 => 54 | 128 => 73 | 129 => 74 | 302 => 64 | 303 => 65 | 304 => 66 | 305 => 67 | 306 => 68 | 307 => 69 | 308 => 70 | 309 => 71 | 310 => 72 | 333 => 80 | 329 => 81 | 330 => 82 | 334 => 83 | 335 => 84 | 336 => 85 | 344 => 94 | n => n, fun | 31 => 37 | 9 => 9 | 3 => 3 | 46 => 87 | 0 => 0 | 51 => 105 | 53 => 107 | 4 => 4 | 183 => 98 | 182 => 97 | 131 => 102 | 5 => 5 | 218 => 110 | 222 => 114 | 228 => 123 | 229 => 124 | n => n, fun | n => n⟩
theorem Tryd.lays190 : Go.Proofs.Lays.n190 Tryd.prog Tryd.lays190_ren := {
  mixed := by kernel_rfl
  f125 := Tryd.func55.trans (congrArg some (by kernel_rfl))
  f128 := Tryd.func73.trans (congrArg some (by kernel_rfl))
  f129 := Tryd.func74.trans (congrArg some (by kernel_rfl))
  f190 := Tryd.func44.trans (congrArg some (by kernel_rfl))
  f258 := Tryd.func54.trans (congrArg some (by kernel_rfl))
  f302 := Tryd.func64.trans (congrArg some (by kernel_rfl))
  f303 := Tryd.func65.trans (congrArg some (by kernel_rfl))
  f304 := Tryd.func66.trans (congrArg some (by kernel_rfl))
  f305 := Tryd.func67.trans (congrArg some (by kernel_rfl))
  f306 := Tryd.func68.trans (congrArg some (by kernel_rfl))
  f307 := Tryd.func69.trans (congrArg some (by kernel_rfl))
  f308 := Tryd.func70.trans (congrArg some (by kernel_rfl))
  f309 := Tryd.func71.trans (congrArg some (by kernel_rfl))
  f310 := Tryd.func72.trans (congrArg some (by kernel_rfl))
  f329 := Tryd.func81.trans (congrArg some (by kernel_rfl))
  f330 := Tryd.func82.trans (congrArg some (by kernel_rfl))
  f333 := Tryd.func80.trans (congrArg some (by kernel_rfl))
  f334 := Tryd.func83.trans (congrArg some (by kernel_rfl))
  f335 := Tryd.func84.trans (congrArg some (by kernel_rfl))
  f336 := Tryd.func85.trans (congrArg some (by kernel_rfl))
  f344 := Tryd.func94.trans (congrArg some (by kernel_rfl))
  t0 := Tryd.underlying0
  a0 := Tryd.isAgg0
  z0 := Tryd.sizeOf0
  v0 := Tryd.zeroValue0
  t3 := Tryd.underlying3
  a3 := Tryd.isAgg3
  z3 := Tryd.sizeOf3
  v3 := Tryd.zeroValue3
  t4 := Tryd.underlying4
  a4 := Tryd.isAgg4
  z4 := Tryd.sizeOf4
  v4 := Tryd.zeroValue4
  t5 := Tryd.underlying5
  a5 := Tryd.isAgg5
  z5 := Tryd.sizeOf5
  v5 := Tryd.zeroValue5
  t9 := Tryd.underlying9
  a9 := Tryd.isAgg9
  z9 := Tryd.sizeOf9
  v9 := Tryd.zeroValue9
  t31 := Tryd.underlying37
  a31 := Tryd.isAgg37
  z31 := Tryd.sizeOf37
  v31 := Tryd.zeroValue37
  t46 := Tryd.underlying87
  a46 := Tryd.isAgg87
  z46 := Tryd.sizeOf87
  v46 := Tryd.zeroValue87
  t51 := Tryd.underlying105
  a51 := Tryd.isAgg105
  z51 := Tryd.sizeOf105
  v51 := Tryd.zeroValue105
  t53 := Tryd.underlying107
  a53 := Tryd.isAgg107
  z53 := Tryd.sizeOf107
  v53 := Tryd.zeroValue107
  t131 := Tryd.underlying102
  a131 := Tryd.isAgg102
  z131 := Tryd.sizeOf102
  v131 := Tryd.zeroValue102
  t182 := Tryd.underlying97
  a182 := Tryd.isAgg97
  z182 := Tryd.sizeOf97
  v182 := Tryd.zeroValue97
  t183 := Tryd.underlying98
  a183 := Tryd.isAgg98
  z183 := Tryd.sizeOf98
  v183 := Tryd.zeroValue98
  t218 := Tryd.underlying110
  a218 := Tryd.isAgg110
  z218 := Tryd.sizeOf110
  v218 := Tryd.zeroValue110
  t222 := Tryd.underlying114
  a222 := Tryd.isAgg114
  z222 := Tryd.sizeOf114
  v222 := Tryd.zeroValue114
  t228 := Tryd.underlying123
  a228 := Tryd.isAgg123
  z228 := Tryd.sizeOf123
  v228 := Tryd.zeroValue123
  t229 := Tryd.underlying124
  a229 := Tryd.isAgg124
  z229 := Tryd.sizeOf124
  v229 := Tryd.zeroValue124 }
open Go.Sort Go.RowKit in
theorem Tryd.slices_Sort_string (blk off cap : Nat) (ss : List (List UInt8)) (w : World) (hH : Holds encStr w blk off ss.toArray) (hblk : blk < w.heap.size) (hsz : ss.length < 4611686018427387904) :
    Calls Tryd.prog 44 #[.slice (some ⟨blk, off, none⟩) ss.length cap] w fun e w' =>
      e = .returned (.tuple #[]) ∧ ∃ n os, w' = grow (putRow encStr (Sort.ahead w n) blk off (ss.mergeSort fun x y => decide (x ≤ y)).toArray) os := Any.slices_Sort_string Tryd.lays190 blk off cap ss w hH hblk hsz
open Go.RowKit Go.Sort in
theorem Tryd.slices_Sort_string_none (p : Option Addr) (cap : Nat) (w : World) :
    Calls Tryd.prog 44 #[.slice p 0 cap] w fun e w' => e = .returned (.tuple #[]) ∧ w' = w := Any.slices_Sort_string_none Tryd.lays190 p cap w
def Tryd.keys31_ren : Go.Shelf.Ren := ⟨fun | 7 => 31 | 10 => 45 | n => n, fun | 23 => 53 | 26 => 9 | 3 => 64 | 28 => 71 | 0 => 0 | 27 => 70 | 33 => 40 | 4 => 4 | n => n, fun | n => n⟩
theorem Tryd.keys31 : Go.Proofs.SlLaysZ.n7 Tryd.prog Tryd.keys31_ren := {
  mixed := by kernel_rfl
  f7 := ⟨Tryd.f31.name, by decide, Tryd.func31.trans (congrArg some (by kernel_rfl))⟩
  f10 := ⟨Tryd.f45.name, by decide, Tryd.func45.trans (congrArg some (by kernel_rfl))⟩
  t0 := Tryd.underlying0
  a0 := Tryd.isAgg0
  z0 := Tryd.sizeOf0
  v0 := Tryd.zeroValue0
  t4 := Tryd.underlying4
  a4 := Tryd.isAgg4
  z4 := Tryd.sizeOf4
  v4 := Tryd.zeroValue4
  t23 := Tryd.underlying53
  a23 := Tryd.isAgg53
  z23 := Tryd.sizeOf53
  v23 := Tryd.zeroValue53
  t26 := Tryd.underlying9
  a26 := Tryd.isAgg9
  z26 := Tryd.sizeOf9
  v26 := Tryd.zeroValue9
  t27 := Tryd.underlying70
  a27 := Tryd.isAgg70
  z27 := Tryd.sizeOf70
  v27 := Tryd.zeroValue70
  t28 := Tryd.underlying71
  a28 := Tryd.isAgg71
  z28 := Tryd.sizeOf71
  v28 := Tryd.zeroValue71
  t33 := Tryd.underlying40
  a33 := Tryd.isAgg40
  z33 := Tryd.sizeOf40
  v33 := Tryd.zeroValue40 }
def Tryd.sorted30_ren : Go.Shelf.Ren := ⟨fun | 6 => 30 | 8 => 43 | 9 => 44 | 11 => 53 | 13 => 55 | 12 => 54 | 23 => 73 | 24 => 74 | 14 => 64 | 15 => 65 | 16 => 66 | 17 => 67 | 18 => 68 | 19 => 69 | 20 => 70 | 21 => 71 | 22 => 72 | 25 => 80 | 26 => 81 | 27 => 82 | 28 => 83 | 29 => 84 | 30 => 85 | 31 => 94 | n => n, fun | 26 => 9 | 28 => 71 | 24 => 37 | 0 => 0 | 3 => 3 | 37 => 87 | 48 => 105 | 50 => 107 | 4 => 4 | 40 => 98 | 39 => 97 | 45 => 102 | 5 => 5 | 9 => 9 | 51 => 110 | 55 => 114 | 57 => 123 | 58 => 124 | 33 => 40 | n => n, fun | n => n⟩
theorem Tryd.sorted30 : Go.Proofs.SlLaysZ.n6 Tryd.prog Tryd.sorted30_ren := {
  mixed := by kernel_rfl
  f6 := ⟨Tryd.f30.name, by decide, Tryd.func30.trans (congrArg some (by kernel_rfl))⟩
  f8 := ⟨Tryd.f43.name, by decide, Tryd.func43.trans (congrArg some (by kernel_rfl))⟩
  f11 := ⟨Tryd.f53.name, by decide, Tryd.func53.trans (congrArg some (by kernel_rfl))⟩
  t0 := Tryd.underlying0
  a0 := Tryd.isAgg0
  z0 := Tryd.sizeOf0
  v0 := Tryd.zeroValue0
  t24 := Tryd.underlying37
  a24 := Tryd.isAgg37
  z24 := Tryd.sizeOf37
  v24 := Tryd.zeroValue37
  t26 := Tryd.underlying9
  a26 := Tryd.isAgg9
  z26 := Tryd.sizeOf9
  v26 := Tryd.zeroValue9
  t28 := Tryd.underlying71
  a28 := Tryd.isAgg71
  z28 := Tryd.sizeOf71
  v28 := Tryd.zeroValue71
  i26 := by kernel_rfl }
open Go.RowKit Go.Maps Go.Sort in
theorem Tryd.sorts30 (m : Nat) : AnyZ.SortsIn Tryd.prog Tryd.sorted30_ren Fence.wide m :=
  ⟨fun blk off cap ss W hH hblk hsz => callsIn_wide.2 (Any.slices_Sort_string Tryd.lays190 blk off cap ss W hH hblk hsz),
   fun p cap W => callsIn_wide.2 (Any.slices_Sort_string_none Tryd.lays190 p cap W)⟩
open Go.RowKit Go.Maps Go.Sort in
theorem Tryd.maps_Keys_31 (mb : Option Nat) (W : World) : CallsIn Fence.wide 5 Tryd.prog 31 #[.map mb] W fun e w' => e = .returned (.func (.func 45) #[] #[.pointer (some ⟨W.heap.size, 0, none⟩)]) ∧ w' = W.alloc (.cells #[.map mb] 53) :=
  AnyZ.keys_in Tryd.keys31 Fence.wide 5 trivial rfl mb W
open Go.RowKit Go.Maps Go.Sort in
theorem Tryd.slices_Sorted_keys_30_31 {H : Type} (b nn : Nat) (D0 : DataW H) (R : Value → Option (DataW H × List MemPlace)) (w : World) (hown : w.ownsMap Tryd.prog 9 R b nn D0) (hmax : Maps.size D0 ≤ maxLen) (hbytes : Maps.size D0 * 16 ≤ 140737488355328) :
    CallsIn Fence.wide 5 Tryd.prog 30 #[.func (.func 45) #[] #[.pointer (some ⟨w.heap.size, 0, none⟩)]] (w.alloc (.cells #[.map (some b)] 53)) fun e w' => ∃ (v : Value) (ss : List (List UInt8)), e = .returned v ∧ ss.Perm (strKeys D0) ∧
      w'.ownsRow (w.alloc (.cells #[.map (some b)] 53)).heap.size 9 1 v ss.length ((ss.mergeSort (fun x y => decide (x ≤ y))).map encStr) ∧ (v = .slice none 0 0 ↔ ss = []) ∧ Below (w.alloc (.cells #[.map (some b)] 53)).heap.size (w.alloc (.cells #[.map (some b)] 53)) w' := by
  have hbl := hown.lt
  have hseq : SeqGives Fence.wide 2 Tryd.prog 45 #[.pointer (some ⟨w.heap.size, 0, none⟩)] encStr (fun ss => ss.Perm (strKeys D0)) (Maps.size D0) (w.alloc (.cells #[.map (some b)] 53)) :=
    AnyZ.keys_gives (ρ := Tryd.keys31_ren) { Tryd.keys31 with } Fence.wide _ trivial rfl (by omega) w.heap.size b nn D0 _ (by simp) (by simp) (by
      obtain ⟨es, clock, hb, Ft, hs, hD⟩ := hown
      exact ⟨es, clock, (Below.heap_alloc _ _ b hbl).trans hb, Ft, hs, hD⟩)
  exact AnyZ.sorted_in Tryd.sorted30 Fence.wide 5 trivial trivial trivial trivial rfl (by omega) (Tryd.sorts30 _) (enters_of Tryd.func44 (by kernel_rfl) rfl) 45 #[.pointer (some ⟨w.heap.size, 0, none⟩)] trivial (enters_of Tryd.func45 (by kernel_rfl) rfl) _ _ hmax hbytes _ hseq
end Go.Proofs
/- bytes.Clone, maps.Clone, strings.Clone. -/
namespace Go.Proofs.YtbijgbjlljaolaaDoor
open Go Go.RowKit

theorem nil_yes8 (w : World) : (binOp BinOp.eql 28 (.slice none 0 0) (.slice none 0 0)).run Tryd.prog w = .ok (.bool true) w := by kernel_rfl
theorem nil_no8 (a : Addr) (n cap : Nat) (w : World) : (binOp BinOp.eql 28 (.slice (some a) n cap) (.slice none 0 0)).run Tryd.prog w = .ok (.bool false) w := by kernel_rfl
section
attribute [local go_sem] nil_yes8 nil_no8
set_option maxHeartbeats 1000000 in
theorem clone8_any (l : S8) (p : Option Addr) (n cap : Nat) (w : World) (hl : l.length = n) (hs : LsC w p (bytC l)) (hp : p = none → cap = 0) (hnc : n ≤ cap) (hn : n < 90000000) : Calls Tryd.prog 24 #[.slice p n cap] w fun e w' => ∃ v, e = .returned v ∧ w'.ownsRow w.heap.size 5 1 v n (bytC l) ∧ Below w.heap.size w w' := by
  cases p with
  | none =>
    obtain rfl := hp rfl
    obtain rfl : n = 0 := by omega
    have hl0 : l = [] := List.eq_nil_of_length_eq_zero hl
    subst hl0
    clear hs hp hnc hn hl
    go_enter Tryd.func24, Tryd.ntmps24
    go_wp2
    go_ret
    exact ⟨_, rfl, ⟨rfl, .inl ⟨rfl, rfl⟩⟩, Below.refl _ _⟩
  | some a =>
    have HSE := Lib.hid (hs.of_below (show Below w.heap.size w (w.alloc (.cells #[] 5)) from (Below.refl _ _).alloc (Nat.le_refl _) _))
    have HO := Lib.hid (own_empty (E := 5) (k := 1) w w.heap.size (Nat.le_refl _))
    have HB := Lib.hid (show Below w.heap.size w (w.alloc (.cells #[] 5)) from (Below.refl _ _).alloc (Nat.le_refl _) _)
    have HL := Lib.hid (show (bytC l).length = n * 1 by rw [bytC_len, hl, Nat.mul_one])
    have hsz : w.heap.size ≤ (w.alloc (.cells #[] 5)).heap.size := by rw [World.size_alloc]; omega
    clear hs hp hl
    go_enter Tryd.func24, Tryd.ntmps24
    go_wp2_with (first | (refine wpl_appendK (v := .slice (some ⟨w.heap.size, 0, none⟩) 0 0) elB _ rfl (.tmp 5) (.tmp 6) rfl w.heap.size rfl HO.out (some a) n cap (bytC l) HL.out rfl HSE.out (fun h => by cases h) (bytC_one l) (by omega) hsz ?_; rintro v3 w3 hO3 hg3 _; rw [List.nil_append, Nat.zero_add] at hO3; have HO3 := Lib.hid hO3; have HG3 := Lib.hid hg3; clear hO3 hg3))
    go_wp2
    go_ret
    exact ⟨_, rfl, HO3.out, HB.out.grown HG3.out hsz (fun k hk => by have : w.heap.size = k := (by simpa [Value.ownBlock] using hk); omega)⟩
end
theorem sclone_any (s : S8) (w : World) (h : s.length < 100000000) : Calls Tryd.prog 46 #[.string (mkS s)] w fun e w' => Gives (.string (mkS s)) w e w' :=
  Tryd.stringslite_Clone (mkS s) w (by rw [mkS_size]; omega)
set_option maxHeartbeats 1000000 in
theorem strClone_any (s : S8) (w : World) (h : s.length < 100000000) : Calls Tryd.prog 34 #[.string (mkS s)] w fun e w' => Gives (.string (mkS s)) w e w' := by
  have HC := Lib.hid (sclone_any s w h)
  go_enter Tryd.func34, Tryd.ntmps34
  go_wp2_with fail
  refine HC.out.mono ?_
  rintro e w' ⟨rfl, hB⟩
  have HB := Lib.hid hB
  clear hB
  go_wp2
  go_ret
  exact ⟨rfl, HB.out⟩
set_option maxRecDepth 100000 in
set_option maxHeartbeats 2000000 in
theorem mapClone_any (b : Nat) (es : Array MapEntry) (clock : Nat) (w : World) (hb : w.heap[b]? = some (.map es clock)) :
    Calls Tryd.prog 29 #[.map (some b)] w fun e w' => e = .returned (.map (some w.heap.size)) ∧ w' = w.alloc (.map es clock) := by
  have hq := fun w => run_eql_map_nil_sl (P := Tryd.prog) w 53 _ _ (some b) mapT
  go_enter Tryd.func29, Tryd.ntmps29
  go_wp2
  rw [run_callFunc_extern Tryd.func42 (by kernel_rfl) (by kernel_rfl) (by kernel_rfl) (e := Extern.MapsClone.clone) (by kernel_rfl), run_maps_clone_sl w 53 hb]
  simp only [Result.andThen]
  rw [Oper.upon_value]
  go_wp2
  rw [run_typeAssert_map_sl _ 53 _ _ _ _ mapT]
  simp only [Result.andThen]
  rw [Oper.upon_value]
  go_wp2
  go_ret
  exact ⟨rfl, rfl⟩
end Go.Proofs.YtbijgbjlljaolaaDoor
/- The program's writing, renaming, removing: closures made. -/
namespace Go.Proofs.YtbijgbjlljaolaaDoor
open Go Go.RowKit

theorem BoxS.free {w : World} {b : Nat} {p : S8} (h : BoxS w b p) : w.frozen? ⟨b, 0, none⟩ = false := by
  unfold World.frozen?
  rw [show w.heap[b]? = _ from h]
  simp
theorem BoxS.set {w : World} {b : Nat} {p : S8} (h : BoxS w b p) (q : S8) : BoxS (w.setCell ⟨b, 0, none⟩ (.string (mkS q))) b q := by
  unfold BoxS at h ⊢
  simp only [World.setCell, Array.getElem?_modify, if_true, h, Option.map_some]
  simp
theorem BoxS.of_below {w w' : World} {b : Nat} {p : S8} (h : BoxS w b p) {N : Nat} (hB : Below N w w') (hb : b < N) : BoxS w' b p := (hB.block b hb).trans h
theorem BoxF.of_below {w w' : World} {b : Nat} {sl : Nat → Hn} {f : Fl} (h : BoxF w b sl f) {N : Nat} (hB : Below N w w') (hb : b < N) : BoxF w' b sl f := (hB.block b hb).trans h
theorem BoxS.new (w : World) (p : S8) : BoxS (w.alloc (.cells #[.string (mkS p)] 9)) w.heap.size p := World.alloc_heap_new w _
/-- What a maker gives. -/
def MakesC (v : World → Nat → Value → Prop) (w : World) (e : Ending) (w' : World) : Prop := ∃ x, e = .returned x ∧ v w' w.heap.size x ∧ Below w.heap.size w w'
set_option maxRecDepth 100000 in
set_option maxHeartbeats 4000000 in
theorem writing_any (sl : Nat → Hn) (f : Fl) (w : World) (hp : f.p.length < 100000) : Calls Tryd.prog 23 #[.string (mkS f.p), .agg #[.int .i64 f.size, .int .i64 f.time, .int .i64 f.chg, .slice (sl f.body).q (sl f.body).n (sl f.body).c]] w fun e w' =>
    e = .returned (.func (.func 35) #[] #[.pointer (some ⟨w.heap.size, 0, none⟩), .pointer (some ⟨w.heap.size + 1, 0, none⟩)]) ∧ BoxS w' w.heap.size f.p ∧ BoxF w' (w.heap.size + 1) sl f ∧ Below w.heap.size w w' := by
  have hB0 := (Below.refl w.heap.size w).alloc (Nat.le_refl _) (.cells #[.string (mkS f.p)] 9)
  have hB1 := hB0.alloc hB0.size (.cells #[.int .i64 f.size, .int .i64 f.time, .int .i64 f.chg, .slice (sl f.body).q (sl f.body).n (sl f.body).c] 64)
  have hs1 : BoxS ((w.alloc (.cells #[.string (mkS f.p)] 9)).alloc (.cells #[.int .i64 f.size, .int .i64 f.time, .int .i64 f.chg, .slice (sl f.body).q (sl f.body).n (sl f.body).c] 64)) w.heap.size f.p :=
    (BoxS.new w f.p).of_below ((Below.refl _ _).alloc (Nat.le_refl _) _) (by rw [World.size_alloc]; omega)
  have hf1 : BoxF ((w.alloc (.cells #[.string (mkS f.p)] 9)).alloc (.cells #[.int .i64 f.size, .int .i64 f.time, .int .i64 f.chg, .slice (sl f.body).q (sl f.body).n (sl f.body).c] 64)) (w.heap.size + 1) sl f := by
    have := World.alloc_heap_new (w.alloc (.cells #[.string (mkS f.p)] 9)) (.cells (fileC sl f) 64)
    rw [World.size_alloc] at this
    exact this
  have HSZ : Hid (((w.alloc (.cells #[.string (mkS f.p)] 9)).alloc (.cells #[.int .i64 f.size, .int .i64 f.time, .int .i64 f.chg, .slice (sl f.body).q (sl f.body).n (sl f.body).c] 64)).heap.size = w.heap.size + 2) := Lib.hid (by rw [World.size_alloc, World.size_alloc])
  have HC := Lib.hid (fun u => strClone_any f.p u (Nat.lt_trans hp (by decide)))
  generalize hW : ((w.alloc (.cells #[.string (mkS f.p)] 9)).alloc (.cells #[.int .i64 f.size, .int .i64 f.time, .int .i64 f.chg, .slice (sl f.body).q (sl f.body).n (sl f.body).c] 64)) = W at *
  have HW := Lib.hid hW
  have HB1 := Lib.hid hB1
  have HF1 := Lib.hid hf1
  have HS1 := Lib.hid hs1
  have c0 := hs1.cell
  clear hB0 hB1 hs1 hf1 hW hp
  go_enter Tryd.func23, Tryd.ntmps23
  go_wp2_with fail
  rw [HW.out]
  refine (HC.out W).mono ?_
  rintro e w2 ⟨rfl, hB2⟩
  have hs2 := HS1.out.of_below hB2 (by rw [HSZ.out]; omega)
  have c2 := hs2.cell
  have f2 := hs2.free
  have HB2 := Lib.hid (HB1.out.trans (hB2.mono HB1.out.size))
  have HF2 := Lib.hid (HF1.out.of_below hB2 (by rw [HSZ.out]; omega))
  have HS2 := Lib.hid hs2
  clear hB2 hs2 c0
  go_wp2
  go_ret
  exact ⟨rfl, HS2.out.set _, (Below.heap_setCell _ _ _ _ (by simp)).trans HF2.out, HB2.out.setCell (Nat.le_refl _) _⟩
set_option maxRecDepth 100000 in
set_option maxHeartbeats 4000000 in
theorem removing_any (p : S8) (w : World) (hp : p.length < 100000) : Calls Tryd.prog 28 #[.string (mkS p)] w fun e w' =>
    e = .returned (.func (.func 41) #[] #[.pointer (some ⟨w.heap.size, 0, none⟩)]) ∧ BoxS w' w.heap.size p ∧ Below w.heap.size w w' := by
  have hB1 := (Below.refl w.heap.size w).alloc (Nat.le_refl _) (.cells #[.string (mkS p)] 9)
  have hs1 := BoxS.new w p
  have HSZ : Hid ((w.alloc (.cells #[.string (mkS p)] 9)).heap.size = w.heap.size + 1) := Lib.hid (by rw [World.size_alloc])
  have HC := Lib.hid (fun u => strClone_any p u (Nat.lt_trans hp (by decide)))
  generalize hW : (w.alloc (.cells #[.string (mkS p)] 9)) = W at *
  have HW := Lib.hid hW
  have HB1 := Lib.hid hB1
  have HS1 := Lib.hid hs1
  have c0 := hs1.cell
  clear hB1 hs1 hW hp
  go_enter Tryd.func28, Tryd.ntmps28
  go_wp2_with fail
  rw [HW.out]
  refine (HC.out W).mono ?_
  rintro e w2 ⟨rfl, hB2⟩
  have hs2 := HS1.out.of_below hB2 (by rw [HSZ.out]; omega)
  have c2 := hs2.cell
  have f2 := hs2.free
  have HB2 := Lib.hid (HB1.out.trans (hB2.mono HB1.out.size))
  have HS2 := Lib.hid hs2
  clear hB2 hs2 c0
  go_wp2
  go_ret
  exact ⟨rfl, HS2.out.set _, HB2.out.setCell (Nat.le_refl _) _⟩
/-- Two boxes of strings. -/
def Bx2 (w : World) (b1 b2 : Nat) (p q : S8) (u : World) : Prop := BoxS u b1 p ∧ BoxS u b2 q ∧ Below w.heap.size w u
theorem Bx2.facts {w u : World} {b1 b2 : Nat} {p q : S8} (h : Bx2 w b1 b2 p q u) : u.cell? ⟨b1, 0, none⟩ = some (.string (mkS p)) ∧ u.cell? ⟨b2, 0, none⟩ = some (.string (mkS q)) ∧ u.frozen? ⟨b1, 0, none⟩ = false ∧ u.frozen? ⟨b2, 0, none⟩ = false ∧ Bx2 w b1 b2 p q u :=
  ⟨h.1.cell, h.2.1.cell, h.1.free, h.2.1.free, h⟩
theorem Bx2.next {w u u' : World} {b1 b2 : Nat} {p q : S8} (h : Bx2 w b1 b2 p q u) (hB : Below u.heap.size u u') : Bx2 w b1 b2 p q u' :=
  ⟨h.1.of_below hB h.1.lt, h.2.1.of_below hB h.2.1.lt, h.2.2.trans (hB.mono h.2.2.size)⟩
theorem Bx2.set1 {w u : World} {b1 b2 : Nat} {p q : S8} (h : Bx2 w b1 b2 p q u) (h1 : w.heap.size ≤ b1) (hn : b2 ≠ b1) : Bx2 w b1 b2 p q (u.setCell ⟨b1, 0, none⟩ (.string (mkS p))) :=
  ⟨h.1.set _, (Below.heap_setCell _ _ _ _ hn).trans h.2.1, h.2.2.setCell h1 _⟩
theorem Bx2.set2 {w u : World} {b1 b2 : Nat} {p q : S8} (h : Bx2 w b1 b2 p q u) (h1 : w.heap.size ≤ b2) (hn : b1 ≠ b2) : Bx2 w b1 b2 p q (u.setCell ⟨b2, 0, none⟩ (.string (mkS q))) :=
  ⟨(Below.heap_setCell _ _ _ _ hn).trans h.1, h.2.1.set _, h.2.2.setCell h1 _⟩
set_option maxRecDepth 100000 in
set_option maxHeartbeats 4000000 in
theorem renaming_any (p q : S8) (w : World) (hp : p.length < 100000) (hq : q.length < 100000) : Calls Tryd.prog 27 #[.string (mkS p), .string (mkS q)] w fun e w' =>
    e = .returned (.func (.func 40) #[] #[.pointer (some ⟨w.heap.size, 0, none⟩), .pointer (some ⟨w.heap.size + 1, 0, none⟩)]) ∧ BoxS w' w.heap.size p ∧ BoxS w' (w.heap.size + 1) q ∧ Below w.heap.size w w' := by
  have hB0 := (Below.refl w.heap.size w).alloc (Nat.le_refl _) (.cells #[.string (mkS p)] 9)
  have hB1 := hB0.alloc hB0.size (.cells #[.string (mkS q)] 9)
  have hs1 : BoxS ((w.alloc (.cells #[.string (mkS p)] 9)).alloc (.cells #[.string (mkS q)] 9)) w.heap.size p :=
    (BoxS.new w p).of_below ((Below.refl _ _).alloc (Nat.le_refl _) _) (by rw [World.size_alloc]; omega)
  have hf1 : BoxS ((w.alloc (.cells #[.string (mkS p)] 9)).alloc (.cells #[.string (mkS q)] 9)) (w.heap.size + 1) q := by
    have := BoxS.new (w.alloc (.cells #[.string (mkS p)] 9)) q
    rw [World.size_alloc] at this
    exact this
  have HSZ : Hid (((w.alloc (.cells #[.string (mkS p)] 9)).alloc (.cells #[.string (mkS q)] 9)).heap.size = w.heap.size + 2) := Lib.hid (by rw [World.size_alloc, World.size_alloc])
  have HCp := Lib.hid (fun u => strClone_any p u (Nat.lt_trans hp (by decide)))
  have HCq := Lib.hid (fun u => strClone_any q u (Nat.lt_trans hq (by decide)))
  generalize hW : ((w.alloc (.cells #[.string (mkS p)] 9)).alloc (.cells #[.string (mkS q)] 9)) = W at *
  have HW := Lib.hid hW
  have HB1 := Lib.hid hB1
  have HF1 := Lib.hid hf1
  have HS1 := Lib.hid hs1
  have hx0 : Bx2 w w.heap.size (w.heap.size + 1) p q W := ⟨hs1, hf1, hB1⟩
  have hx : Bx2 w w.heap.size (w.heap.size + 1) p q W.drew := hx0.next (Below.refl _ _).drew
  have HS := Lib.hid (fun (u : World) (h : Bx2 w w.heap.size (w.heap.size + 1) p q u) => (h.set1 (Nat.le_refl _) (by omega)).facts)
  have HS2 := Lib.hid (fun (u : World) (h : Bx2 w w.heap.size (w.heap.size + 1) p q u) => (h.set2 (Nat.le_succ _) (by omega)).facts)
  clear hB0 hB1 hs1 hf1 hW hp hq
  go_enter Tryd.func27, Tryd.ntmps27
  go_wp2_with fail
  rw [HW.out]
  go_region_held3 (fun u : World => u.cell? ⟨w.heap.size, 0, none⟩ = some (.string (mkS p)) ∧ u.cell? ⟨w.heap.size + 1, 0, none⟩ = some (.string (mkS q)) ∧ u.frozen? ⟨w.heap.size, 0, none⟩ = false ∧ u.frozen? ⟨w.heap.size + 1, 0, none⟩ = false ∧ Bx2 w w.heap.size (w.heap.size + 1) p q u) (first | exact hx.facts | exact HS.out _ hz | exact HS2.out _ hz | exact HS2.out _ (HS.out _ hz).2.2.2.2 | exact HS.out _ (HS2.out _ hz).2.2.2.2 | exact hz.facts | go_keep) ((first | (go_at_call 34; (first | with_reducible refine (HCp.out _).mono ?_ | with_reducible refine (HCq.out _).mono ?_); rintro e w2 ⟨rfl, hB2⟩; have hz := Bx2.next (by assumption) hB2; obtain ⟨z1, z2, z3, z4, -⟩ := hz.facts; clear hB2)))
  all_goals
    rename_i hh
    have HF := Lib.hid hh.2.2.2.2
    clear hh hz z1 z2 z3 z4 hx hx0
    go_wp2
    go_ret
    exact ⟨rfl, HF.out.1, HF.out.2.1, HF.out.2.2⟩
end Go.Proofs.YtbijgbjlljaolaaDoor
/- Read, Stat, Room, Waiting of the program's disk. -/
namespace Go.Proofs.YtbijgbjlljaolaaDoor
open Go Go.RowKit

theorem results_cell_tmp {P : Program} {fn : Func} {p q : Tmp} {ty : TypeId} (h : fn.results = #[.cell p ty, .tmp q]) (tmps : Array Value) (w : World) (g : Nat) (t : TypeId) (cs : Array Value) (fr : Nat × Nat) (d : TypeDesc)
    (hp : tmps.getD p undef = .pointer (some ⟨g, 0, none⟩)) (hg : w.heap[g]? = some (.cells cs t fr))
    (hu : P.underlying ty = some d) (hd : (match d with | .struct _ | .array _ _ => true | _ => false) = true) (hi : (P.info? ty).map (·.size) = some cs.size) (v : Value) (hv : tmps.getD q undef = v) :
    (results fn tmps).run P w = .ok (.tuple #[.agg cs, v]) w := by
  have hp' : tmps[p]?.getD undef = .pointer (some ⟨g, 0, none⟩) := by simpa using hp
  have hv' : tmps[q]?.getD undef = v := by simpa using hv
  simp [results, h, hp', hv', asAddr, run_loadVar_row w g t ty cs fr d hg hu hd hi, Result.andThen]
section
variable {w : World} {S : Nat → Prop} {b : Nat} {m : Dk} {mv md : Nat} {pv : Value} {vs : List Value} {sl : Nat → Hn}
theorem findL_in {l : List Fl} {p : S8} {i : Nat} (h : findL l p = some i) : l.getD i fl0 ∈ l := by
  have hi := findL_lt h
  rw [List.getD_eq_getElem?_getD, List.getElem?_eq_getElem hi]
  exact List.getElem_mem hi
set_option maxRecDepth 100000 in
set_option maxHeartbeats 4000000 in
theorem read_any (h : Dp w S b m mv md pv vs sl) (hok : DkOk 300 m) (p : S8) : Calls Tryd.prog 19 #[.pointer (some ⟨b, 0, none⟩), .string (mkS p)] w fun e w' => ∃ v, e = .returned (.tuple #[v, .int .i64 (readN m p)]) ∧ w'.ownsRow w.heap.size 5 1 v ((readL m p).getD []).length (bytC ((readL m p).getD [])) ∧ Below w.heap.size w w' := by
  have c2 := h.cell 2
  simp at c2
  cases hf : findL m.seen p with
  | none =>
    have hl := look_none h.vis hf
    have HR := Lib.hid (show readL m p = none by unfold readL; rw [hf]; rfl)
    have HB := Lib.hid ((Below.refl w.heap.size w).alloc (Nat.le_refl _) (.cells #[.int .i64 0, .int .i64 0, .int .i64 0, .slice none 0 0] 64))
    have HN := Lib.hid (show readN m p = 8 by unfold readN; rw [HR.out]; rfl)
    clear h hf
    go_enter Tryd.func19, Tryd.ntmps19
    go_wp2
    go_ret2
    exact ⟨.slice none 0 0, by rw [HN.out]; rfl, by rw [HR.out]; exact ⟨rfl, .inl ⟨rfl, rfl⟩⟩, HB.out⟩
  | some i =>
    obtain ⟨x, hx⟩ : ∃ x, m.seen.getD i fl0 = x := ⟨_, rfl⟩
    have hl := look_some h.vis hf x hx
    have hxm : x.body < m.bodies.length := by rw [← hx]; exact hok.inS _ (findL_in hf)
    obtain ⟨b1, b2, b3, b4⟩ := h.bytes x.body hxm
    have hbb : (m.bodies.getD x.body []).length ≤ 300000 := hok.shortB x.body
    have HR := Lib.hid (show readL m p = some (m.bodies.getD x.body []) by unfold readL; rw [hf]; show some (bodyL m _) = _; rw [hx]; rfl)
    have hB := ((Below.refl w.heap.size w).alloc (Nat.le_refl _) (.cells #[.int .i64 x.size, .int .i64 x.time, .int .i64 x.chg, .slice (sl x.body).q (sl x.body).n (sl x.body).c] 64))
    have HC := Lib.hid (clone8_any (m.bodies.getD x.body []) (sl x.body).q (sl x.body).n (sl x.body).c (w.alloc (.cells #[.int .i64 x.size, .int .i64 x.time, .int .i64 x.chg, .slice (sl x.body).q (sl x.body).n (sl x.body).c] 64)) b1.symm (b2.of_below hB) b3 b4 (by omega))
    have k3 := box4_cell w 64 (.int .i64 x.size) (.int .i64 x.time) (.int .i64 x.chg) (.slice (sl x.body).q (sl x.body).n (sl x.body).c) 3
    simp at k3
    have HB := Lib.hid hB
    have HN := Lib.hid b1
    have HN2 := Lib.hid (show readN m p = 0 by unfold readN; rw [HR.out]; rfl)
    clear h hf b1 b2 b3 b4 hB hx
    go_enter Tryd.func19, Tryd.ntmps19
    go_wp2_with fail
    refine HC.out.mono ?_
    rintro e w2 ⟨v, rfl, hO, hB2⟩
    have HO := Lib.hid (own_lower hO (b2 := w.heap.size) HB.out.size)
    have HB2 := Lib.hid (HB.out.trans (hB2.mono HB.out.size))
    clear hO hB2
    go_wp2
    go_ret2
    refine ⟨v, by rw [HN2.out]; rfl, ?_, HB2.out⟩
    rw [HR.out]
    show w2.ownsRow _ _ _ _ (m.bodies.getD x.body []).length _
    rw [← HN.out]
    exact HO.out
theorem zeroStamp (w : World) : (zeroValue 45).run Tryd.prog w = .ok (.agg #[.int .i64 0, .int .i64 0, .int .i64 0]) w := by kernel_rfl
def stampV (o : Option Fl) : Value := match o with
  | some f => .tuple #[.agg #[.int .i64 f.size, .int .i64 f.time, .int .i64 f.chg], .int .i64 0]
  | none => .tuple #[.agg #[.int .i64 0, .int .i64 0, .int .i64 0], .int .i64 8]
set_option maxRecDepth 100000 in
set_option maxHeartbeats 4000000 in
theorem stat_any (h : Dp w S b m mv md pv vs sl) (p : S8) : Calls Tryd.prog 18 #[.pointer (some ⟨b, 0, none⟩), .string (mkS p)] w fun e w' => e = .returned (stampV (fileL m p)) ∧ Below w.heap.size w w' := by
  have c2 := h.cell 2
  simp at c2
  have HLT := Lib.hid h.lt
  cases hf : findL m.seen p with
  | none =>
    have hB0 := (Below.refl w.heap.size w).alloc (Nat.le_refl _) (.cells #[.int .i64 0, .int .i64 0, .int .i64 0] 45)
    have hl := look_none (h.of_below hB0).vis hf
    have HR := Lib.hid (show stampV (fileL m p) = .tuple #[.agg #[.int .i64 0, .int .i64 0, .int .i64 0], .int .i64 8] by unfold fileL; rw [hf]; rfl)
    have c20 := (hB0.cell (p := ⟨b, 2, none⟩) h.lt).trans c2
    have HB := Lib.hid (hB0.alloc hB0.size (.cells #[.int .i64 0, .int .i64 0, .int .i64 0, .slice none 0 0] 64))
    clear h hf
    go_enter Tryd.func18, Tryd.ntmps18
    go_wp2
    refine bodyPost_ret (results_cell_tmp rfl _ _ w.heap.size 45 #[.int .i64 0, .int .i64 0, .int .i64 0] (0, 0) _ rfl (by rw [Below.heap_alloc _ _ _ (by rw [World.size_alloc]; omega)]; exact World.alloc_heap_new w _) Tryd.underlying45 rfl (by kernel_rfl) (.int .i64 8) rfl) rfl ?_
    exact ⟨by rw [HR.out], HB.out⟩
  | some i =>
    obtain ⟨x, hx⟩ : ∃ x, m.seen.getD i fl0 = x := ⟨_, rfl⟩
    have hB0 := (Below.refl w.heap.size w).alloc (Nat.le_refl _) (.cells #[.int .i64 0, .int .i64 0, .int .i64 0] 45)
    have hl := look_some (h.of_below hB0).vis hf x hx
    have HR := Lib.hid (show stampV (fileL m p) = .tuple #[.agg #[.int .i64 x.size, .int .i64 x.time, .int .i64 x.chg], .int .i64 0] by unfold fileL; rw [hf, ← hx]; rfl)
    have c20 := (hB0.cell (p := ⟨b, 2, none⟩) h.lt).trans c2
    have hB1 := (Below.refl w.heap.size w).alloc (Nat.le_refl _) (.cells #[.int .i64 x.size, .int .i64 x.time, .int .i64 x.chg] 45)
    have HB := Lib.hid (hB1.alloc hB1.size (.cells #[.int .i64 x.size, .int .i64 x.time, .int .i64 x.chg, .slice (sl x.body).q (sl x.body).n (sl x.body).c] 64))
    clear h hf hx hB1
    go_enter Tryd.func18, Tryd.ntmps18
    go_wp2
    refine bodyPost_ret (results_cell_tmp rfl _ _ w.heap.size 45 #[.int .i64 x.size, .int .i64 x.time, .int .i64 x.chg] (0, 0) _ rfl (by rw [Below.heap_alloc _ _ _ (by rw [World.size_alloc]; omega)]; exact World.alloc_heap_new w _) Tryd.underlying45 rfl (by kernel_rfl) (.int .i64 0) rfl) rfl ?_
    exact ⟨by rw [HR.out], HB.out⟩
set_option maxHeartbeats 1000000 in
theorem room_any (h : Dp w S b m mv md pv vs sl) : Calls Tryd.prog 15 #[.pointer (some ⟨b, 0, none⟩)] w fun e w' => e = .returned (.int .i64 m.room) ∧ w = w' := by
  have c0 := h.cell 0
  simp at c0
  clear h
  go_enter Tryd.func15, Tryd.ntmps15
  go_wp2
  go_ret
  exact ⟨rfl, rfl⟩
end
end Go.Proofs.YtbijgbjlljaolaaDoor
/- Used and clashes of the program's disk: ranges over the map. -/
namespace Go.Proofs.YtbijgbjlljaolaaDoor
open Go Go.RowKit

theorem RngB.of_todo {w : World} {b r : Nat} {l todo todo2 : List (S8 × Value)} (h : RngB w b r l todo) (hp : todo.Perm todo2) : RngB w b r l todo2 := by
  obtain ⟨es, clock, since, seen, c0, h1, h2, h3, h4, h5, h6, h7⟩ := h
  exact ⟨es, clock, since, seen, c0, h1, h2, h3, h4, h5, h6, h7.trans (hp.map _)⟩
theorem ent_step {sl : Nat → Hn} {todo : List Fl} {k : S8} {v : Value} {t : List (S8 × Value)} (h : (todo.map (entV sl)).Perm ((k, v) :: t)) : ∃ f t2, todo.Perm (f :: t2) ∧ k = f.p ∧ v = fileV sl f ∧ t.Perm (t2.map (entV sl)) := by
  have hm : (k, v) ∈ todo.map (entV sl) := h.mem_iff.2 List.mem_cons_self
  obtain ⟨f, hf, e⟩ := List.mem_map.1 hm
  obtain ⟨a, c, rfl⟩ := List.append_of_mem hf
  have hp : (a ++ f :: c).Perm (f :: (a ++ c)) := List.perm_middle
  have e2 : (f.p, fileV sl f) = (k, v) := e
  injection e2 with e3 e4
  refine ⟨f, a ++ c, hp, e3.symm, e4.symm, ?_⟩
  have h2 := h.symm.trans (hp.map (entV sl))
  rw [List.map_cons, e] at h2
  exact h2.cons_inv
theorem wpl_nextE {P : Program} (w : World) {ops : Array Oper} {rest : List Oper} {o : Oper} {a : Go.Act} {Q : Exit → Go.Act → World → Prop} {b r : Nat} {l : List (S8 × Value)} {sl : Nat → Hn} {todo : List Fl} (hg : o.guard = none) (it : Operand) (hop : o.op = Op.next it false) (hit : a.eval it = .pointer (some ⟨r, 0, none⟩)) (h : RngB w b r l (todo.map (entV sl)))
    (hD : todo = [] → wpList P ops Q rest (a.put o.dst (.tuple #[.bool false])) w)
    (hM : ∀ f t2 w', todo.Perm (f :: t2) → RngB w' b r l (t2.map (entV sl)) → (Instr.entry (.pointer (some ⟨r, 0, none⟩))).run P w' = .ok (.tuple #[.string (mkS f.p), .agg #[.int .i64 f.size, .int .i64 f.time, .int .i64 f.chg, .slice (sl f.body).q (sl f.body).n (sl f.body).c]]) w' → w.grownBy w' (some r) → w'.heap.size = w.heap.size → wpList P ops Q rest (a.put o.dst (.tuple #[.bool true, .string (mkS f.p), .agg #[.int .i64 f.size, .int .i64 f.time, .int .i64 f.chg, .slice (sl f.body).q (sl f.body).n (sl f.body).c]])) w') : wpList P ops Q (o :: rest) a w := by
  refine wpl_next8 w hg it hop hit h (fun e => hD (List.map_eq_nil_iff.1 e)) fun p v todo' w' h1 _ h3 h4 h5 h6 => ?_
  obtain ⟨f, t2, hp2, rfl, rfl, hp3⟩ := ent_step h1
  exact hM f t2 w' hp2 (h3.of_todo hp3) h4 h5 h6
theorem sum_perm {l l' : List Int} (h : l.Perm l') : l.sum = l'.sum := by
  induction h with
  | nil => rfl
  | cons x _ ih => simp [ih]
  | swap x y l => simp only [List.sum_cons]; omega
  | trans _ _ h1 h2 => exact h1.trans h2
theorem sum_le {l : List Int} (h : ∀ x ∈ l, 0 ≤ x ∧ x ≤ 300000) : 0 ≤ l.sum ∧ l.sum ≤ (l.length : Int) * 300000 := by
  induction l with
  | nil => simp
  | cons x r ih =>
    have h1 := h x List.mem_cons_self
    have h2 := ih fun y hy => h y (List.mem_cons_of_mem _ hy)
    rw [List.sum_cons, List.length_cons]
    push_cast
    omega
theorem sum_cast (l : List Fl) (g : Fl → Nat) : ((l.map g).sum : Int) = (l.map fun f => (g f : Int)).sum := by
  induction l with
  | nil => rfl
  | cons x r ih => simp only [List.map_cons, List.sum_cons]; push_cast; rw [ih]
theorem used_sizes {m : Dk} (hz : SzOk m) : (usedL m : Int) = (m.seen.map Fl.size).sum := by
  unfold usedL
  rw [sum_cast]
  exact congrArg List.sum (List.map_congr_left fun f hf => (hz.seen f hf).symm)
theorem size_small {n : Nat} {m : Dk} (hz : SzOk m) (hok : DkOk n m) {f : Fl} (hf : f ∈ m.seen) : 0 ≤ f.size ∧ f.size ≤ 300000 := by
  rw [hz.seen f hf]
  have := hok.shortB f.body
  unfold bodyL
  omega
section
variable {w : World} {S : Nat → Prop} {b : Nat} {m : Dk} {mv md : Nat} {pv : Value} {vs : List Value} {sl : Nat → Hn}
set_option maxRecDepth 100000 in
set_option maxHeartbeats 4000000 in
theorem used_any (h : Dp w S b m mv md pv vs sl) (hok : DkOk 300 m) : Calls Tryd.prog 14 #[.pointer (some ⟨b, 0, none⟩)] w fun e w' => e = .returned (.int .i64 (usedL m : Int)) ∧ Below w.heap.size w w' := by
  have c2 := h.cell 2
  simp at c2
  have HV := Lib.hid h.vis
  have HU := Lib.hid (used_sizes h.sz)
  have HS := Lib.hid (fun f (hf : f ∈ m.seen) => size_small h.sz hok hf)
  have HN := Lib.hid hok.seen
  clear h
  go_enter Tryd.func14, Tryd.ntmps14
  go_wp2_with (first | (at_range; refine wpl_range8 _ rfl _ rfl mapT rfl HV.out ?_; intro w0 hR0 hB0 hz0) | go_in)
  go_frame
  go_loopw [3] (fun v wr => ∃ done todo : List Fl, m.seen.Perm (done ++ todo) ∧ v = .int .i64 ((done.map Fl.size).sum) ∧ RngB wr mv w.heap.size (m.seen.map (entV sl)) (todo.map (entV sl)) ∧ Below w.heap.size w wr) (fun _ wr => wr.rangeLeft mv w.heap.size)
  case atStart => exact ⟨[], m.seen, List.Perm.refl _, rfl, hR0, hB0⟩
  case round =>
    obtain ⟨done, todo, hperm, rfl, hR, hB⟩ := hrel
    have HPM := Lib.hid hperm
    have HB := Lib.hid hB
    clear hperm hB
    generalize hsum : (done.map Fl.size).sum = sm at *
    have HSM := Lib.hid hsum
    clear hsum
    have HRL := Lib.hid hR.left
    have HNW := Lib.hid hR.lt
    go_wp2_with (first | (at_next; refine wpl_nextE _ rfl _ rfl rfl hR ?_ ?_) | go_in)
    · intro htodo
      have HE := Lib.hid (show sm = (usedL m : Int) by
        rw [HU.out, ← HSM.out]
        have := HPM.out
        rw [htodo, List.append_nil] at this
        exact (sum_perm (this.map _)).symm)
      clear htodo hR
      go_wp2
      go_ret
      exact ⟨by rw [HE.out]; rfl, HB.out⟩
    · intro f t2 w1 hp1 hR1 hen hg1 hz1
      have hsd := sum_le (l := done.map Fl.size) (fun x hx => by
        obtain ⟨g, hg, rfl⟩ := List.mem_map.1 hx
        exact HS.out g (HPM.out.mem_iff.2 (List.mem_append_left _ hg)))
      have hfz := HS.out f (HPM.out.mem_iff.2 (List.mem_append_right _ (hp1.mem_iff.2 List.mem_cons_self)))
      have hln := HPM.out.length_eq
      have hlt := hp1.length_eq
      rw [List.length_append] at hln
      rw [List.length_map, HSM.out] at hsd
      have hNN := HN.out
      rw [List.length_cons] at hlt
      have hw : IntKind.i64.wrap (sm + f.size) = sm + f.size := by rw [IntKind.wrap_i64]; omega
      have HP1 := Lib.hid hp1
      have HB1 := Lib.hid (HB.out.grown hg1 HB.out.size (fun j hj => by cases hj; exact Nat.le_refl _))
      have HR2 := Lib.hid (hR1.of_below ((Below.refl _ _).alloc (Nat.le_refl _) (.cells #[.int .i64 f.size, .int .i64 f.time, .int .i64 f.chg, .slice (sl f.body).q (sl f.body).n (sl f.body).c] 64)))
      have HB2 := Lib.hid (HB1.out.alloc HB1.out.size (.cells #[.int .i64 f.size, .int .i64 f.time, .int .i64 f.chg, .slice (sl f.body).q (sl f.body).n (sl f.body).c] 64))
      clear hsd hfz hln hlt hNN hp1 hR hR1 hg1 hz1
      go_wp2
      go_roundw
      case rel =>
        refine ⟨f :: done, t2, HPM.out.trans ((HP1.out.append_left done).trans List.perm_middle), ?_, HR2.out, HB2.out⟩
        rw [List.map_cons, List.sum_cons, HSM.out, Int.add_comm]
      case measure => rw [HR2.out.left, HRL.out, List.length_map, List.length_map, HP1.out.length_eq]; simp
theorem clashes_perm {l l' : List Fl} (h : l.Perm l') (p but : S8) : clashesL l p but = clashesL l' p but := by
  unfold clashesL
  rw [Bool.eq_iff_iff, List.any_eq_true, List.any_eq_true]
  exact ⟨fun ⟨x, hx, e⟩ => ⟨x, h.mem_iff.1 hx, e⟩, fun ⟨x, hx, e⟩ => ⟨x, h.mem_iff.2 hx, e⟩⟩
set_option maxRecDepth 100000 in
set_option maxHeartbeats 4000000 in
theorem clashes_any {l : List Fl} (h : MpB w mv (l.map (entV sl))) (hs : ShortF l) (p but : S8) (hp : p.length < 100000) : Calls Tryd.prog 26 #[.map (some mv), .string (mkS p), .string (mkS but)] w fun e w' => e = .returned (.bool (clashesL l p but)) ∧ Below w.heap.size w w' := by
  have HV := Lib.hid h
  have HS := Lib.hid (shortF_iff.1 hs)
  clear h hs
  go_enter Tryd.func26, Tryd.ntmps26
  go_wp2_with (first | (at_range; refine wpl_range8 _ rfl _ rfl mapT rfl HV.out ?_; intro w0 hR0 hB0 hz0) | go_in)
  go_frame
  go_loopw [7] (fun _ wr => ∃ done todo : List Fl, l.Perm (done ++ todo) ∧ clashesL done p but = false ∧ RngB wr mv w.heap.size (l.map (entV sl)) (todo.map (entV sl)) ∧ Below w.heap.size w wr) (fun _ wr => wr.rangeLeft mv w.heap.size)
  case atStart => exact ⟨[], l, List.Perm.refl _, rfl, hR0, hB0⟩
  case round =>
    obtain ⟨done, todo, hperm, hno, hR, hB⟩ := hrel
    have HPM := Lib.hid hperm
    have HNO := Lib.hid hno
    have HB := Lib.hid hB
    clear hperm hB hno
    have HRL := Lib.hid hR.left
    have HNW := Lib.hid hR.lt
    go_wp2_with (first | (at_next; refine wpl_nextE _ rfl _ rfl rfl hR ?_ ?_) | go_in)
    · intro htodo
      have HE := Lib.hid (show clashesL l p but = false by
        have := HPM.out
        rw [htodo, List.append_nil] at this
        rw [clashes_perm this, HNO.out])
      clear htodo hR
      go_wp2
      go_ret
      exact ⟨by rw [HE.out]; rfl, HB.out⟩
    · intro f t2 w1 hp1 hR1 hen hg1 hz1
      have HIN := Lib.hid (HPM.out.mem_iff.2 (List.mem_append_right _ (hp1.mem_iff.2 List.mem_cons_self)))
      have HPL := Lib.hid (Nat.lt_of_le_of_lt (HS.out f HIN.out) (by decide : 100 < 100000))
      have HP1 := Lib.hid hp1
      have HB1 := Lib.hid (HB.out.grown hg1 HB.out.size (fun j hj => by cases hj; exact Nat.le_refl _))
      have HR1 := Lib.hid hR1
      clear hp1 hR hR1 hg1 hz1
      by_cases hb : f.p = but
      · have hq : (f.p == but) = true := by rw [hb]; simp
        have HC := Lib.hid (show clashesL (f :: done) p but = false by
          unfold clashesL; rw [List.any_cons, bne, hq]; exact HNO.out)
        clear hb
        go_wp2
        go_roundw
        case rel => exact ⟨f :: done, t2, HPM.out.trans ((HP1.out.append_left done).trans List.perm_middle), HC.out, HR1.out, HB1.out⟩
        case measure => rw [HR1.out.left, HRL.out, List.length_map, List.length_map, HP1.out.length_eq]; simp
      · have hq : (f.p == but) = false := by simpa using hb
        have HQ := Lib.hid hq
        have hcl : Calls Tryd.prog 39 #[.string (mkS f.p), .string (mkS p)] w1 fun e w' => Gives (.bool (clashL f.p p)) w1 e w' := clash_any f.p p w1 HPL.out hp
        obtain ⟨cv, hcv⟩ : ∃ cv, clashL f.p p = cv := ⟨_, rfl⟩
        rw [hcv] at hcl
        have HCL := Lib.hid hcl
        have HCV := Lib.hid hcv
        clear hb hcl hcv
        cases cv with
        | true =>
          have HE := Lib.hid (show clashesL l p but = true by
            unfold clashesL
            rw [List.any_eq_true]
            exact ⟨f, HIN.out, by rw [bne, HQ.out, HCV.out]; rfl⟩)
          go_wp2_with (first | (go_at_call 39; refine HCL.out.mono ?_; rintro e w2 ⟨rfl, hB2⟩; have HB2 := Lib.hid (HB1.out.trans (hB2.mono HB1.out.size)); clear hB2) | go_in)
          go_ret
          exact ⟨by rw [HE.out]; rfl, HB2.out⟩
        | false =>
          have HC := Lib.hid (show clashesL (f :: done) p but = false by
            unfold clashesL; rw [List.any_cons, bne, HQ.out, HCV.out]; exact HNO.out)
          go_wp2_with (first | (go_at_call 39; refine HCL.out.mono ?_; rintro e w2 ⟨rfl, hB2⟩; have HR2 := Lib.hid (HR1.out.of_below hB2); have HB2 := Lib.hid (HB1.out.trans (hB2.mono HB1.out.size)); clear hB2) | go_in)
          go_roundw
          case rel => exact ⟨f :: done, t2, HPM.out.trans ((HP1.out.append_left done).trans List.perm_middle), HC.out, HR2.out, HB2.out⟩
          case measure => rw [HR2.out.left, HRL.out, List.length_map, List.length_map, HP1.out.length_eq]; simp
end
end Go.Proofs.YtbijgbjlljaolaaDoor
/- do of the program's disk: a change is applied, and waits. -/
namespace Go.Proofs.YtbijgbjlljaolaaDoor
open Go Go.RowKit

theorem elCh : ElK 54 60 .nilFunc 1 8 := ⟨by kernel_rfl, by kernel_rfl, rfl, by decide, by decide⟩
/-- S and the blocks from N on below M. -/
def SN (S : Nat → Prop) (N M : Nat) (k : Nat) : Prop := S k ∨ (N ≤ k ∧ k < M)
theorem ClsV.one {w : World} {S : Nat → Prop} {sl : Nat → Hn} {c : Ch} {v : Value} (h : ClsV w S sl c v) : v.oneCell' = true := by
  cases h with
  | write b1 b2 hk hv h1 h2 s1 s2 => rw [hv]; rfl
  | rename b1 b2 hk hv h1 h2 s1 s2 => rw [hv]; rfl
  | remove b1 hk hv h1 s1 => rw [hv]; rfl
section
variable {w w' : World} {S S' : Nat → Prop} {b : Nat} {m : Dk} {mv md : Nat} {pv : Value} {vs : List Value} {sl : Nat → Hn}
/-- One of the maps, and nothing else of the disk, has changed. -/
theorem Dp.ne_map (h : Dp w S b m mv md pv vs sl) {k : Nat} {es : Array MapEntry} {clock : Nat} (hk : w.heap[k]? = some (.map es clock)) : k ≠ b ∧ (∀ g, pv.ownBlock = some g → k ≠ g) ∧ ∀ k2 T cs, w.heap[k2]? = some (.cells cs T (0, 0)) → k2 ≠ k := by
  refine ⟨fun e => ?_, fun g hg e => ?_, fun k2 T cs h2 e => ?_⟩
  · rw [e, h.box] at hk; cases hk
  · obtain ⟨cur, hc⟩ := own_type h.pd.own hg
    rw [e, hc] at hk; cases hk
  · rw [e, hk] at h2; cases h2
theorem Dp.visTo (h : Dp w S b m mv md pv vs sl) (hg : w.grownBy w' (some mv)) {l : List Fl} (hM : MpB w' mv (l.map (entV sl))) (hz : ∀ f ∈ l, f.size = ((bodyL m f).length : Int)) : Dp w' S b { m with seen := l } mv md pv vs sl := by
  obtain ⟨es, clock, hb, _⟩ := h.vis
  obtain ⟨n1, n2, n3⟩ := h.ne_map hb
  have hk : ∀ k, S k → k ≠ mv → w'.heap[k]? = w.heap[k]? := fun k hk hne => hg.block k (h.low k hk) (by simpa using hne)
  exact ⟨(hk b h.sb n1.symm).trans h.box, h.sb, h.sv, h.sd, h.ne, hM, h.dur.keep (hk md h.sd h.ne.symm), h.bod.keep (fun k cur hs hc => hk k hs (n3 k _ _ hc)) (fun _ x => x), h.pd.keep (fun k T cs hs hc _ => hk k hs (n3 k _ _ hc)) (fun _ x => x), ⟨hz, h.sz.safe, h.sz.waits⟩, fun k hk => Nat.lt_of_lt_of_le (h.low k hk) hg.size⟩
theorem Dp.durTo (h : Dp w S b m mv md pv vs sl) (hg : w.grownBy w' (some md)) {l : List Fl} (hM : MpB w' md (l.map (entV sl))) (hz : ∀ f ∈ l, f.size = ((bodyL m f).length : Int)) : Dp w' S b { m with safe := l } mv md pv vs sl := by
  obtain ⟨es, clock, hb, _⟩ := h.dur
  obtain ⟨n1, n2, n3⟩ := h.ne_map hb
  have hk : ∀ k, S k → k ≠ md → w'.heap[k]? = w.heap[k]? := fun k hk hne => hg.block k (h.low k hk) (by simpa using hne)
  exact ⟨(hk b h.sb n1.symm).trans h.box, h.sb, h.sv, h.sd, h.ne, h.vis.keep (hk mv h.sv h.ne), hM, h.bod.keep (fun k cur hs hc => hk k hs (n3 k _ _ hc)) (fun _ x => x), h.pd.keep (fun k T cs hs hc _ => hk k hs (n3 k _ _ hc)) (fun _ x => x), ⟨h.sz.seen, hz, h.sz.waits⟩, fun k hk => Nat.lt_of_lt_of_le (h.low k hk) hg.size⟩
theorem doL_size {m : Dk} {l : List Fl} {c : Ch} (hl : ∀ f ∈ l, f.size = ((bodyL m f).length : Int)) (hc : c.kind = 1 → c.file.size = ((bodyL m c.file).length : Int)) : ∀ f ∈ doL l c, f.size = ((bodyL m f).length : Int) := by
  intro f hf
  unfold doL at hf
  split at hf
  · rename_i hk
    rcases List.mem_append.1 hf with hf | hf
    · exact hl f (without_mem hf)
    · simp at hf
      subst hf
      exact hc hk
  · split at hf
    · exact hl f hf
    · rename_i i hi
      rcases List.mem_append.1 hf with hf | hf
      · exact hl f (without_mem (without_mem hf))
      · simp only [List.mem_singleton] at hf
        subst hf
        have := hl _ (findL_in hi)
        exact this
  · exact hl f (without_mem hf)
theorem enters_wr : ∀ args w, (callFunc 35 args).run Tryd.prog w = .ok (.enter 35 args) w := enters_of Tryd.func35 (by kernel_rfl) rfl
theorem enters_rn : ∀ args w, (callFunc 40 args).run Tryd.prog w = .ok (.enter 40 args) w := enters_of Tryd.func40 (by kernel_rfl) rfl
theorem enters_rm : ∀ args w, (callFunc 41 args).run Tryd.prog w = .ok (.enter 41 args) w := enters_of Tryd.func41 (by kernel_rfl) rfl
/-- A closure applied to a map. -/
theorem cls_any {c : Ch} {v : Value} (h : ClsV w S sl c v) (l : List Fl) (mb : Nat) (hM : MpB w mb (l.map (entV sl))) (hs : ShortF l) (hp : c.file.p.length < 100000) (f : Fn) (fs : Array Value) (cs : Array Value) (hv : v = .func f fs cs) (hmb : ∀ k T cur, w.heap[k]? = some (.cells cur T (0, 0)) → k ≠ mb) :
    ∃ g, f = .func g ∧ fs = #[] ∧ (∀ args u, (callFunc g args).run Tryd.prog u = .ok (.enter g args) u) ∧ Calls Tryd.prog g (#[.map (some mb)] ++ cs) w fun e w' => e = .returned (.tuple #[]) ∧ MpB w' mb ((doL l c).map (entV sl)) ∧ w.grownBy w' (some mb) := by
  cases h with
  | write b1 b2 hk hv1 h1 h2 s1 s2 =>
    rw [hv] at hv1
    injection hv1 with e1 e2 e3
    subst e1 e2 e3
    exact ⟨_, rfl, rfl, enters_wr, wrC_any sl l c b1 b2 mb w hk hM h1 h2 hp hs⟩
  | rename b1 b2 hk hv1 h1 h2 s1 s2 =>
    rw [hv] at hv1
    injection hv1 with e1 e2 e3
    subst e1 e2 e3
    exact ⟨_, rfl, rfl, enters_rn, rnC_any sl l c b1 b2 mb w hk hM h1 h2 hp hs (hmb _ _ _ h1) (hmb _ _ _ h2)⟩
  | remove b1 hk hv1 h1 s1 =>
    rw [hv] at hv1
    injection hv1 with e1 e2 e3
    subst e1 e2 e3
    exact ⟨_, rfl, rfl, enters_rm, rmC_any sl l c b1 mb w hk hM h1⟩
theorem ClsV.func {c : Ch} {v : Value} (h : ClsV w S sl c v) : ∃ g cs, v = .func (.func g) #[] cs := by
  cases h with
  | write b1 b2 hk hv1 h1 h2 s1 s2 => exact ⟨_, _, hv1⟩
  | rename b1 b2 hk hv1 h1 h2 s1 s2 => exact ⟨_, _, hv1⟩
  | remove b1 hk hv1 h1 s1 => exact ⟨_, _, hv1⟩
theorem Dp.ne_pend (h : Dp w S b m mv md pv vs sl) {g : Nat} (hg : pv.ownBlock = some g) : g ≠ b ∧ g ≠ mv ∧ g ≠ md := by
  obtain ⟨cur, hc⟩ := own_type h.pd.own hg
  obtain ⟨e1, c1, hv, _⟩ := h.vis
  obtain ⟨e2, c2, hd, _⟩ := h.dur
  refine ⟨fun e => ?_, fun e => ?_, fun e => ?_⟩
  · rw [e, h.box] at hc
    injection hc with hc
    injection hc with _ hc _
    exact absurd hc (by decide)
  · rw [e, hv] at hc; cases hc
  · rw [e, hd] at hc; cases hc
theorem setCell_box {w : World} {b : Nat} {cs : Array Value} {T : TypeId} (h : w.heap[b]? = some (.cells cs T (0, 0))) (j : Nat) (v : Value) : (w.setCell ⟨b, j, none⟩ v).heap[b]? = some (.cells (cs.setIfInBounds j v) T (0, 0)) := by
  simp only [World.setCell, Array.getElem?_modify, if_true, h, Option.map_some]
  simp
theorem Dp.pendTo {u w3 : World} {v v3 : Value} {c : Ch} (h : Dp u S b m mv md pv vs sl) (hg : u.grownBy w3 pv.ownBlock) (hO : w3.ownsRow 0 60 1 v3 (m.waits.length + 1) (vs ++ [v])) (hloc : v3.ownBlock = pv.ownBlock ∨ v3.ownBlock = some u.heap.size) (hcl : ClsV u S sl c v) (hz : c.kind = 1 → c.file.size = ((bodyL m c.file).length : Int))
    (hS : ∀ k, S k → S' k) (hnew : ∀ k, u.heap.size ≤ k → k < w3.heap.size → S' k) (hlow : ∀ k, S' k → k < w3.heap.size) : Dp (w3.setCell ⟨b, 4, none⟩ v3) S' b { m with waits := m.waits ++ [c] } mv md v3 (vs ++ [v]) sl := by
  have hk3 : ∀ k, S k → pv.ownBlock ≠ some k → w3.heap[k]? = u.heap[k]? := fun k hk hn => hg.block k (h.low k hk) (fun e => hn e.symm)
  have hb3 := (hk3 b h.sb (fun e => (h.ne_pend e).1 rfl)).trans h.box
  have hk : ∀ k, S k → pv.ownBlock ≠ some k → k ≠ b → (w3.setCell ⟨b, 4, none⟩ v3).heap[k]? = u.heap[k]? := fun k hk hn hb => (Below.heap_setCell _ _ _ _ hb).trans (hk3 k hk hn)
  obtain ⟨e1, c1, hv, _⟩ := id h.vis
  obtain ⟨e2, c2, hd, _⟩ := id h.dur
  have nb : ∀ k T cs, u.heap[k]? = some (.cells cs T (0, 0)) → (T = 9 ∨ T = 64 ∨ T = 5) → k ≠ b ∧ pv.ownBlock ≠ some k := fun k T cs hc hT => by
    refine ⟨fun e => ?_, fun e => ?_⟩
    · rw [e, h.box] at hc
      injection hc with hc
      injection hc with _ hc _
      rcases hT with rfl | rfl | rfl <;> exact absurd hc (by decide)
    · obtain ⟨cur, hc2⟩ := own_type h.pd.own e
      rw [hc] at hc2
      injection hc2 with hc2
      injection hc2 with _ hc2 _
      rcases hT with rfl | rfl | rfl <;> exact absurd hc2 (by decide)
  have hcls : ∀ {c : Ch} {x : Value}, ClsV u S sl c x → ClsV (w3.setCell ⟨b, 4, none⟩ v3) S' sl c x := fun hx => hx.keep (fun k T cs hs hc hT => by
    obtain ⟨n1, n2⟩ := nb k T cs hc (by rcases hT with x | x; exact .inl x; exact .inr (.inl x))
    exact hk k hs n2 n1) hS
  have hvb : ∀ g, v3.ownBlock = some g → g ≠ b ∧ S' g := fun g hgv => by
    rcases hloc with e | e
    · rw [e] at hgv
      exact ⟨(h.ne_pend hgv).1, hS _ (h.pd.in_ g hgv)⟩
    · rw [e] at hgv
      injection hgv with hgv
      refine ⟨?_, hnew g (by omega) (hO.lt g (by rw [e, hgv])).2⟩
      have := h.lt
      omega
  refine ⟨?_, hS _ h.sb, hS _ h.sv, hS _ h.sd, h.ne, h.vis.keep (hk mv h.sv (fun e => (h.ne_pend e).2.1 rfl) ?_), h.dur.keep (hk md h.sd (fun e => (h.ne_pend e).2.2 rfl) ?_), h.bod.keep (fun k cur hs hc => ?_) hS, ⟨?_, fun g hgv => (hvb g hgv).2, fun i hi => ?_⟩, ⟨h.sz.seen, h.sz.safe, fun x hx => ?_⟩, fun k hk => by simpa using hlow k hk⟩
  · exact setCell_box hb3 4 v3
  · intro e; rw [e, h.box] at hv; cases hv
  · intro e; rw [e, h.box] at hd; cases hd
  · obtain ⟨n1, n2⟩ := nb k _ cur hc (.inr (.inr rfl))
    exact hk k hs n2 n1
  · have := ownsRow_setCell_other hO (a := ⟨b, 4, none⟩) (fun e => (hvb b e).1 rfl) v3
    rw [List.length_append]
    exact this
  · have hvl : vs.length = m.waits.length := by have := h.pd.own.1; omega
    by_cases hi2 : i < m.waits.length
    · obtain ⟨x, e, hx⟩ := h.pd.cls i hi2
      refine ⟨x, by rw [List.getElem?_append_left (by omega)]; exact e, ?_⟩
      have e2 : (m.waits ++ [c])[i] = m.waits[i] := List.getElem_append_left hi2
      show ClsV _ _ _ ((m.waits ++ [c])[i]) _
      rw [e2]
      exact hcls hx
    · have hie : i = m.waits.length := by
        have : i < (m.waits ++ [c]).length := hi
        rw [List.length_append] at this
        simp at this
        omega
      subst hie
      refine ⟨v, by rw [List.getElem?_append_right (by omega), hvl]; simp, ?_⟩
      have e2 : (m.waits ++ [c])[m.waits.length] = c := by simp
      show ClsV _ _ _ ((m.waits ++ [c])[m.waits.length]) _
      rw [e2]
      exact hcls hcl
  · rcases List.mem_append.1 hx with hx | hx
    · exact h.sz.waits x hx
    · simp at hx
      rw [hx]
      exact hz
set_option maxRecDepth 100000 in
set_option maxHeartbeats 4000000 in
theorem do_any {v : Value} {c : Ch} (h : Dp w S b m mv md pv vs sl) (hok : DkOk 300 m) (hcl : ClsV w S sl c v) (hcp : c.file.p.length < 100000) (hz : c.kind = 1 → c.file.size = ((bodyL m c.file).length : Int)) : Calls Tryd.prog 22 #[.pointer (some ⟨b, 0, none⟩), v] w fun e w' => e = .returned (.tuple #[]) ∧ (∃ pv2 vs2, Dp w' (SN S w.heap.size w'.heap.size) b (changeL m c) mv md pv2 vs2 sl) ∧ Kq8 S w w' := by
  obtain ⟨es, clock, hvb, _⟩ := id h.vis
  have HNE := Lib.hid (h.ne_map hvb)
  obtain ⟨g, cs, rfl⟩ := hcl.func
  obtain ⟨g2, e1, _, heg, hC⟩ := cls_any hcl m.seen mv h.vis hok.shS hcp _ _ _ rfl HNE.out.2.2
  injection e1 with e1
  subst e1
  have HC := Lib.hid hC
  have H := Lib.hid h
  have HCL := Lib.hid hcl
  have HZ := Lib.hid hz
  have HWL := Lib.hid (Nat.le_trans (Nat.le_add_left m.waits.length m.safe.length) hok.both)
  obtain ⟨pq, pc, hpv⟩ := own_slice h.pd.own
  have HPV := Lib.hid hpv
  have c2 := h.cell 2
  simp at c2
  clear h hC hcl hok hz hpv hvb
  go_enter Tryd.func22, Tryd.ntmps22
  go_wp2_with fail
  refine HC.out.mono ?_
  rintro e w1 ⟨rfl, hM, hg⟩
  have h1 := H.out.visTo hg hM (doL_size H.out.sz.seen HZ.out)
  have H1 := Lib.hid h1
  have HG1 := Lib.hid hg
  have hBA := (Below.refl w1.heap.size w1).alloc (Nat.le_refl _) (.cells #[.func (.func g) #[] cs] 60)
  have H2 := Lib.hid (h1.of_below hBA)
  have c4 := h1.cell 4
  rw [HPV.out] at c4
  simp at c4
  have c4b := (h1.of_below hBA).cell 4
  rw [HPV.out] at c4b
  simp at c4b
  have HLM := Lib.hid (LsC.made w1 [.func (.func g) #[] cs] 60)
  have HBA := Lib.hid hBA
  clear hM hg h1 c2 hBA
  have HCL2 : Hid (ClsV (w1.alloc (.cells #[.func (.func g) #[] cs] 60)) S sl c (.func (.func g) #[] cs)) := Lib.hid (HCL.out.keep (fun k T cs hs hc _ => by
    have h1 := H.out.low k hs
    rw [HBA.out.block k (Nat.lt_of_lt_of_le h1 HG1.out.size), HG1.out.block k h1 (by simpa using HNE.out.2.2 k T cs hc)]) (fun _ x => x))
  have HSU := Lib.hid (Nat.le_trans HG1.out.size HBA.out.size)
  have HO2 : Hid ((w1.alloc (.cells #[.func (.func g) #[] cs] 60)).ownsRow 0 60 1 pv m.waits.length vs) := Lib.hid H2.out.pd.own
  go_wp2_with (first
    | (refine wpl_appendK (v := pv) elCh _ rfl _ _ rfl 0 HPV.out.symm HO2.out (some ⟨w1.heap.size, 0, none⟩) 1 1 [.func (.func g) #[] cs] rfl rfl HLM.out (fun e => by cases e) (fun u hu => by rw [List.mem_singleton.1 hu]; rfl) (by have := HWL.out; omega) (Nat.zero_le _) ?_
       rintro v3 w3 hO3 hg3 hl3
       obtain ⟨q3, c3, hv3⟩ := own_slice hO3
       subst hv3
       have HD3 := Lib.hid (H2.out.pendTo (S' := SN S w.heap.size w3.heap.size) hg3 hO3 hl3 HCL2.out HZ.out (fun k hk => .inl hk) (fun k h1 h2 => .inr ⟨Nat.le_trans HSU.out h1, h2⟩) (fun k hk => by
         rcases hk with x | x
         · exact Nat.lt_of_lt_of_le (H2.out.low k x) hg3.size
         · exact x.2))
       have c43 : w3.cell? ⟨b, 4, none⟩ = some (.slice pq m.waits.length pc) := (World.cell?_of_block (hg3.block b H2.out.lt (fun e => (H2.out.ne_pend e.symm).1 rfl))).trans c4b
       have f43 : w3.frozen? ⟨b, 4, none⟩ = false := (World.frozen?_of_block (hg3.block b H2.out.lt (fun e => (H2.out.ne_pend e.symm).1 rfl))).trans (H2.out.free 4)
       have HG3 := Lib.hid hg3
       clear hO3 hg3 hl3)
    | go_in)
  go_end0
  have hsz : (w3.setCell ⟨b, 4, none⟩ (.slice q3 (m.waits.length + 1) c3)).heap.size = w3.heap.size := by simp
  refine ⟨rfl, ⟨_, _, by rw [hsz]; exact HD3.out⟩, ?_⟩
  have q1 := HG1.out
  have q2 := HBA.out
  have q3 := HG3.out
  refine ⟨q3.os.trans (q2.os.trans q1.os), q3.tape.trans (q2.tape.trans q1.tape), q3.output.trans (q2.output.trans q1.output), by rw [hsz]; exact Nat.le_trans HSU.out q3.size, fun k hk hn => ?_⟩
  have hk1 : k < w1.heap.size := Nat.lt_of_lt_of_le hk q1.size
  rw [Below.heap_setCell _ _ _ _ (fun e => hn (by rw [e]; exact H.out.sb)), q3.block k (Nat.lt_of_lt_of_le hk1 q2.size) (fun e => hn (H.out.pd.in_ k e.symm)), q2.block k hk1, q1.block k hk (fun e => hn (by injection e with e; rw [e]; exact H.out.sv))]
end
end Go.Proofs.YtbijgbjlljaolaaDoor
