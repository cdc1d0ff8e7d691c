/- The program's disk in memory: a box, two maps, the files' bytes, the pending changes. -/
import Derived.Test.YtjglgohchhdkkaaDoorCls8
import Derived.Test.YtjglgohchhdkkaaDoorDisk8
set_option linter.unusedSimpArgs false
set_option linter.unusedVariables false
namespace Go.Proofs.YtjglgohchhdkkaaDoor
open Go Go.RowKit

def Hn.v (h : Hn) : Value := .slice h.q h.n h.c
theorem own_full8 {w : World} {E : TypeId} {k base n : Nat} {v : Value} {cs : List Value} (h : w.ownsRow base E k v n cs) (hn : 0 < n) :
    ∃ g cap, v = .slice (some ⟨g, 0, none⟩) n cap ∧ base ≤ g ∧ g < w.heap.size ∧ n ≤ cap ∧ (∀ j, j < cs.length → w.cell? ⟨g, j, none⟩ = cs[j]?) ∧ ∀ j, w.frozen? ⟨g, j, none⟩ = false := by
  obtain ⟨p, cap, e, hls, hnil, hle, hb⟩ := own_shape h
  rcases h.2 with ⟨_, hn0⟩ | ⟨g, cap2, cur, hv, hb2, hg, hle2, _, hsz, ht⟩
  · omega
  · rw [hv] at e
    injection e with e1 e2 e3
    refine ⟨g, cap2, hv, hb2, (hb g 0 e1.symm).2, hle2, fun j hj => ?_, fun j => ?_⟩
    · obtain ⟨c, o, ec, hc⟩ := hls j hj
      rw [← e1] at ec
      injection ec with ec
      injection ec with ec1 ec2
      rw [← ec1, ← ec2, Nat.zero_add] at hc
      exact hc
    · unfold World.frozen?
      simp [hg]
theorem bytC_flip8 (b : S8) (a : Nat) (mask : UInt8) : bytC (flipL b a mask) = (bytC b).set a (.int .u8 ((b.getD a 0 ^^^ mask).toNat : Int)) := by
  unfold bytC flipL
  rw [List.map_set]
/-- The bytes of all files, each in a block of its own. -/
structure BdOk (w : World) (S : Nat → Prop) (bs : List S8) (sl : Nat → Hn) : Prop where
  own : ∀ i, i < bs.length → w.ownsRow 0 5 1 (sl i).v (bs.getD i []).length (bytC (bs.getD i []))
  in_ : ∀ i, i < bs.length → ∀ g, (sl i).v.ownBlock = some g → S g
  ap : ∀ i j, i < bs.length → j < bs.length → i ≠ j → ∀ g, (sl i).v.ownBlock = some g → (sl j).v.ownBlock ≠ some g
/-- The pending changes. -/
structure PdOk (w : World) (S : Nat → Prop) (ws : List Ch) (sl : Nat → Hn) (pv : Value) (vs : List Value) : Prop where
  own : w.ownsRow 0 60 1 pv ws.length vs
  in_ : ∀ g, pv.ownBlock = some g → S g
  cls : ∀ i (h : i < ws.length), ∃ v, vs[i]? = some v ∧ ClsV w S sl ws[i] v
structure SzOk (m : Dk) : Prop where
  seen : ∀ f ∈ m.seen, f.size = ((bodyL m f).length : Int)
  safe : ∀ f ∈ m.safe, f.size = ((bodyL m f).length : Int)
  waits : ∀ c ∈ m.waits, c.kind = 1 → c.file.size = ((bodyL m c.file).length : Int)
structure Dp (w : World) (S : Nat → Prop) (b : Nat) (m : Dk) (mv md : Nat) (pv : Value) (vs : List Value) (sl : Nat → Hn) : Prop where
  box : w.heap[b]? = some (.cells #[.int .i64 m.room, .int .i64 m.count, .map (some mv), .map (some md), pv] 56 (0, 0))
  sb : S b
  sv : S mv
  sd : S md
  ne : mv ≠ md
  vis : MpB w mv (m.seen.map (entV sl))
  dur : MpB w md (m.safe.map (entV sl))
  bod : BdOk w S m.bodies sl
  pd : PdOk w S m.waits sl pv vs
  sz : SzOk m
  low : ∀ k, S k → k < w.heap.size
theorem own_type {w : World} {base : Nat} {E : TypeId} {k n : Nat} {v : Value} {cs : List Value} (h : w.ownsRow base E k v n cs) {g : Nat} (hg : v.ownBlock = some g) : ∃ cur, w.heap[g]? = some (.cells cur E (0, 0)) := by
  rcases h.2 with ⟨hv, _⟩ | ⟨g2, cap2, cur, hv, hb2, hg2, _⟩
  · rw [hv] at hg; cases hg
  · rw [hv] at hg
    injection hg with hg
    rw [← hg]
    exact ⟨cur, hg2⟩
theorem own_slice {w : World} {base : Nat} {E : TypeId} {k n : Nat} {v : Value} {cs : List Value} (h : w.ownsRow base E k v n cs) : ∃ q c, v = .slice q n c := by
  obtain ⟨p, cap, e, _⟩ := own_shape h
  exact ⟨p, cap, e⟩
section
variable {w w' : World} {S S' : Nat → Prop} {b : Nat} {m : Dk} {mv md : Nat} {pv : Value} {vs : List Value} {sl : Nat → Hn}
theorem BdOk.keep {bs : List S8} (h : BdOk w S bs sl) (hk : ∀ k cur, S k → w.heap[k]? = some (.cells cur 5 (0, 0)) → w'.heap[k]? = w.heap[k]?) (hS : ∀ k, S k → S' k) : BdOk w' S' bs sl :=
  ⟨fun i hi => own_keep (h.own i hi) fun g hg => by obtain ⟨cur, hc⟩ := own_type (h.own i hi) hg; exact hk g cur (h.in_ i hi g hg) hc, fun i hi g hg => hS _ (h.in_ i hi g hg), h.ap⟩
theorem PdOk.keep {ws : List Ch} (h : PdOk w S ws sl pv vs) (hk : ∀ k T cs, S k → w.heap[k]? = some (.cells cs T (0, 0)) → (T = 9 ∨ T = 64 ∨ T = 60) → w'.heap[k]? = w.heap[k]?) (hS : ∀ k, S k → S' k) : PdOk w' S' ws sl pv vs :=
  ⟨own_keep h.own fun g hg => by obtain ⟨cur, hc⟩ := own_type h.own hg; exact hk g _ cur (h.in_ g hg) hc (.inr (.inr rfl)), fun g hg => hS _ (h.in_ g hg), fun i hi => by
    obtain ⟨v, e, hc⟩ := h.cls i hi
    exact ⟨v, e, hc.keep (fun k T cs h1 h2 h3 => hk k T cs h1 h2 (by rcases h3 with x | x; exact .inl x; exact .inr (.inl x))) hS⟩⟩
theorem Dp.keep (h : Dp w S b m mv md pv vs sl) (hk : ∀ k, S k → w'.heap[k]? = w.heap[k]?) (hS : ∀ k, S k → S' k) (hlow : ∀ k, S' k → k < w'.heap.size) : Dp w' S' b m mv md pv vs sl :=
  ⟨(hk b h.sb).trans h.box, hS _ h.sb, hS _ h.sv, hS _ h.sd, h.ne, h.vis.keep (hk _ h.sv), h.dur.keep (hk _ h.sd), h.bod.keep (fun k _ hs _ => hk k hs) hS, h.pd.keep (fun k _ _ hs _ _ => hk k hs) hS, h.sz, hlow⟩
theorem Dp.of_below (h : Dp w S b m mv md pv vs sl) (hB : Below w.heap.size w w') : Dp w' S b m mv md pv vs sl :=
  h.keep (fun k hk => hB.block k (h.low k hk)) (fun k hk => hk) (fun k hk => Nat.lt_of_lt_of_le (h.low k hk) hB.size)
theorem Dp.cell (h : Dp w S b m mv md pv vs sl) (j : Nat) : w.cell? ⟨b, j, none⟩ = [Value.int .i64 m.room, .int .i64 m.count, .map (some mv), .map (some md), pv][j]? := by
  unfold World.cell?
  rw [h.box]
  simp
theorem Dp.free (h : Dp w S b m mv md pv vs sl) (j : Nat) : w.frozen? ⟨b, j, none⟩ = false := by
  unfold World.frozen?
  rw [h.box]
  simp
theorem Dp.lt (h : Dp w S b m mv md pv vs sl) : b < w.heap.size := h.low _ h.sb
/-- The bytes of a file, as a slice. -/
theorem Dp.bytes (h : Dp w S b m mv md pv vs sl) (i : Nat) (hi : i < m.bodies.length) : (sl i).n = (m.bodies.getD i []).length ∧ LsC w (sl i).q (bytC (m.bodies.getD i [])) ∧ ((sl i).q = none → (sl i).c = 0) ∧ (sl i).n ≤ (sl i).c := by
  obtain ⟨p, cap, e, h1, h2, h3, h4⟩ := own_shape (h.bod.own i hi)
  unfold Hn.v at e
  injection e with e1 e2 e3
  exact ⟨e2, by rw [e1]; exact h1, by rw [e1, e3]; exact h2, by rw [e2, e3]; exact h3⟩
end
theorem ent_congr {sl sl' : Nat → Hn} {l : List Fl} (h : ∀ f ∈ l, sl f.body = sl' f.body) : l.map (entV sl) = l.map (entV sl') :=
  List.map_congr_left fun f hf => by unfold entV fileV fileC; rw [h f hf]
end Go.Proofs.YtjglgohchhdkkaaDoor
