/- Merged texts: Psh12, All11, Ent12, RngM12, Seq11, RngA11, Awake6, Cuts6W, WrtP6, WrnP6, WrbP6, Nzr9, Put9. -/
import Derived.Deep.RegionHeld3
import Derived.Test.YtnmopjefjpifoaaGreatDoorKN11
import Derived.Test.YtnmopjefjpifoaaGreatDoorKN6
import Derived.Test.YtnmopjefjpifoaaGreatDoorKN1
import Derived.Test.YtnmopjefjpifoaaGreatDoorCuts
import Derived.Test.YtnmopjefjpifoaaGreatDoorKN9
import Derived.Test.YtnmopjefjpifoaaGreatDoorKN10
import Derived.StillTailTactics
import Derived.Test.YtnmopjefjpifoaaGreatDoorKN2
import Derived.Test.YtnmopjefjpifoaaGreatDoorCode6
import Derived.Test.YtnmopjefjpifoaaGreatDoorBytes
import Derived.Test.YtnmopjefjpifoaaGreatDoorTake6
import Derived.Lib.AppendStr
import Derived.Deep.RegionLaw
import Derived.Test.YtnmopjefjpifoaaGreatDoorKN8
import Derived.Lib.Hide
import Derived.Test.YtnmopjefjpifoaaGreatDoorVec9
set_option linter.unusedSimpArgs false
set_option linter.unusedVariables false
/- A row appended to rows of the call's own inside a region that draws; headers that lie. -/
set_option maxRecDepth 100000
namespace Go.Proofs.YtnmopjefjpifoaaGreatDoor
open Go Go.RowKit
attribute [-go_sem] Sha.exec_store

/-- Headers of the bytes bs lie where p says. -/
def Lay (w : World) (p : Option Addr) (bs : List (List (BitVec 8))) : Prop :=
  ∀ i, i < bs.length → ∃ c o q d, p = some ⟨c, o, none⟩ ∧ w.cell? ⟨c, o + i, none⟩ = some (.slice q (bs.getD i []).length d) ∧ Sl w q (bs.getD i []) ∧ (q = none → d = 0)
theorem Lay.of_below {w w' : World} {p : Option Addr} {bs : List (List (BitVec 8))} (h : Lay w p bs) (k : Below w.heap.size w w') : Lay w' p bs := fun i hi => by
  obtain ⟨c, o, q, d, e, hc, hs, hq⟩ := h i hi
  exact ⟨c, o, q, d, e, by rw [k.cell (by exact World.block_lt_of_cell? w _ hc)]; exact hc, hs.of_below k, hq⟩
theorem Hds.lay {w : World} {N : Nat} {v : Value} {bs : List (List (BitVec 8))} (h : Hds w N v bs) : ∃ p cap, v = .slice p bs.length cap ∧ (p = none → cap = 0) ∧ bs.length ≤ cap ∧ Lay w p bs := by
  obtain ⟨p, cap, e, h1, h2, -, h3⟩ := h.shape
  exact ⟨p, cap, e, h1, h2, h3⟩
theorem Prt.lay {w : World} {p : Option Addr} {bs : List (List (BitVec 8))} (h : Prt w p bs) : Lay w p bs := fun i hi => by
  obtain ⟨c, o, q, d, e, hc, hs, hq, -⟩ := h i hi
  exact ⟨c, o, q, d, e, hc, hs, hq⟩
/-- What lies from lo to hi is as it was. -/
def Fr12 (W u : World) (lo hi : Nat) : Prop := hi ≤ u.heap.size ∧ ∀ g, lo ≤ g → g < hi → u.heap[g]? = W.heap[g]?
theorem Fr12.of_below {W u u' : World} {lo hi : Nat} (h : Fr12 W u lo hi) (k : Below u.heap.size u u') : Fr12 W u' lo hi :=
  ⟨Nat.le_trans h.1 k.size, fun g h1 h2 => by rw [k.block g (Nat.lt_of_lt_of_le h2 h.1)]; exact h.2 g h1 h2⟩
theorem Fr12.grown {W u u' : World} {lo hi : Nat} {own : Option Nat} (h : Fr12 W u lo hi) (k : u.grownBy u' own) (ho : ∀ g, own = some g → g < lo ∨ hi ≤ g) : Fr12 W u' lo hi :=
  ⟨Nat.le_trans h.1 k.size, fun g h1 h2 => by rw [k.block g (Nat.lt_of_lt_of_le h2 h.1) (fun e => by have := ho g e.symm; omega)]; exact h.2 g h1 h2⟩
theorem Fr12.rows {W u : World} {lo : Nat} {v : Value} {ls : List (List (BitVec 8))} (h : Fr12 W u lo W.heap.size) (hO : OwnM W lo v ls) : OwnM u lo v ls := hO.keep h.1 fun g h1 h2 => h.2 g h1 h2
end Go.Proofs.YtnmopjefjpifoaaGreatDoor
/- The records of an archive in the order of their paths. -/
set_option maxRecDepth 100000
namespace Go.Proofs.YtnmopjefjpifoaaGreatDoor
open Go Go.RowKit Go.WideShapes

attribute [-go_sem] Sha.exec_store
theorem perm_sorted11 {α : Type} {R : α → α → Prop} (anti : ∀ a b, R a b → R b a → a = b) : ∀ {l1 l2 : List α}, l1.Perm l2 → l1.Pairwise R → l2.Pairwise R → l1 = l2
  | [], l2, hp, _, _ => (List.Perm.eq_nil hp.symm).symm
  | a :: l1, [], hp, _, _ => absurd hp.length_eq (by simp)
  | a :: l1, b :: l2, hp, h1, h2 => by
    have hab : a = b := by
      rw [List.pairwise_cons] at h1 h2
      have ha : a ∈ b :: l2 := hp.mem_iff.1 (by simp)
      have hb : b ∈ a :: l1 := hp.mem_iff.2 (by simp)
      rcases List.mem_cons.1 ha with e | ha
      · exact e
      rcases List.mem_cons.1 hb with e | hb
      · exact e.symm
      · exact anti a b (h1.1 b hb) (h2.1 a ha)
    subst hab
    rw [List.pairwise_cons] at h1 h2
    rw [perm_sorted11 anti hp.cons_inv h1.2 h2.2]
def leE (x y : Ent) : Bool := decide (x.1.path ≤ y.1.path)
/-- The records by increasing path. -/
def sortA (es : List Ent) : List Ent := es.mergeSort leE
theorem sortA_perm (es : List Ent) : (sortA es).Perm es := List.mergeSort_perm es leE
theorem sortA_len (es : List Ent) : (sortA es).length = es.length := (sortA_perm es).length_eq
theorem sortA_mem {es : List Ent} {e : Ent} : e ∈ sortA es ↔ e ∈ es := (sortA_perm es).mem_iff
theorem leE_tr (a b c : Ent) (h1 : leE a b = true) (h2 : leE b c = true) : leE a c = true := by
  unfold leE at *
  simp only [decide_eq_true_eq] at *
  exact List.le_trans h1 h2
theorem leE_to (a b : Ent) : (leE a b || leE b a) = true := by
  unfold leE
  simp only [Bool.or_eq_true, decide_eq_true_eq]
  exact List.le_total _ _
theorem sortA_le (es : List Ent) : ((sortA es).map fun e => e.1.path).Pairwise (fun x y => x ≤ y) := by
  rw [List.pairwise_map]
  exact (List.pairwise_mergeSort leE_tr leE_to es).imp fun h => by unfold leE at h; simpa using h
theorem sortA_keys {es : List Ent} {ls : List S8} (hp : ls.Perm (es.map fun e => e.1.path)) (hs : ls.Pairwise (fun x y => x ≤ y)) : ls = (sortA es).map fun e => e.1.path :=
  perm_sorted11 (fun a b => List.le_antisymm) (hp.trans ((sortA_perm es).map _).symm) hs (sortA_le es)
set_option maxRecDepth 100000 in
theorem keysA_any {w : World} {mb : Nat} {es : List Ent} (h : MpB w mb (es.map entA)) (hlen : ∀ e ∈ es, e.1.path.length ≤ 1000) (hn : es.length ≤ 128) :
    Calls Tryz.prog 110 #[.func (.func 178) #[] #[.pointer (some ⟨w.heap.size, 0, none⟩)]] (w.alloc (.cells #[.map (some mb)] 118)) fun e w' => ∃ v, e = .returned v ∧
      w'.ownsRow (w.heap.size + 1) 9 1 v es.length ((sortA es).map fun e => .string (mkS e.1.path)) ∧ Below (w.heap.size + 1) (w.alloc (.cells #[.map (some mb)] 118)) w' := by
  obtain ⟨D, hown, hperm, hsize⟩ := h.owns (fun x hx => by
    obtain ⟨e, he, rfl⟩ := List.mem_map.1 hx
    exact hlen e he) (by rw [List.length_map]; omega)
  rw [List.length_map] at hsize hown
  have e0 : (es.map entA).map (·.1) = es.map fun e => e.1.path := by rw [List.map_map]; rfl
  rw [e0] at hperm
  have hz : (w.alloc (.cells #[.map (some mb)] 118)).heap.size = w.heap.size + 1 := World.size_alloc _ _
  refine (callsIn_wide.1 (Tryz.slices_Sorted_keys_110_121 mb es.length D unitR w hown (by rw [hsize]; simp only [maxLen]; omega) (by rw [hsize]; omega))).mono ?_
  rintro e w3 ⟨v, ss, rfl, hp, hrow, _, hB⟩
  rw [hz] at hB hrow
  have hpp := hp.trans hperm
  have tr : ∀ a b c : S8, (fun x y : S8 => decide (x ≤ y)) a b = true → (fun x y : S8 => decide (x ≤ y)) b c = true → (fun x y : S8 => decide (x ≤ y)) a c = true := fun a b c h1 h2 => by simp only [decide_eq_true_eq] at *; exact List.le_trans h1 h2
  have to : ∀ a b : S8, ((fun x y : S8 => decide (x ≤ y)) a b || (fun x y : S8 => decide (x ≤ y)) b a) = true := fun a b => by simp only [Bool.or_eq_true, decide_eq_true_eq]; exact List.le_total a b
  have hs := List.pairwise_mergeSort tr to ss
  have hkey := sortA_keys (es := es) (ls := ss.mergeSort fun x y => decide (x ≤ y)) ((List.mergeSort_perm ss _).trans hpp) (hs.imp fun h => by simpa using h)
  have hl : ss.length = es.length := by rw [hpp.length_eq, List.length_map]
  rw [hkey, encStr_mk, List.map_map, hl] at hrow
  exact ⟨v, rfl, hrow, hB⟩
end Go.Proofs.YtnmopjefjpifoaaGreatDoor
/- sidecar: the number of stripes, the length of a sidecar, one of its entries. -/
set_option maxRecDepth 100000
namespace Go.Proofs.YtnmopjefjpifoaaGreatDoor
open Go Go.RowKit

attribute [-go_sem] Sha.exec_store
/-- A slice seen as an array of 32 bytes. -/
def apT (t : TypeId) (x : Value) : Sem Next := do pure (.value (← Instr.arrayAt t x))
theorem exec_apT (r : Operand → Value) (dst : Option Tmp) (t : TypeId) (x : Operand) (ty : TypeId) (pos : String) (after : Array Edge) (guard : Option (Nat × Bool)) :
    execOp r ⟨dst, .sliceToArrayPointer t x, ty, pos, after, guard⟩ = apT t (r x) := rfl
theorem ap32 (a : Option Addr) (n cap : Nat) (w : World) (h : 32 ≤ n) : (apT 41 (.slice a n cap)).run Tryz.prog w = .ok (.value (.pointer a)) w := by
  unfold apT Instr.arrayAt
  simp [run_underlying und32, show ¬ n < 32 by omega]
theorem exec_store12 (r : Operand → Value) (dst : Option Tmp) (p v : Operand) (ty : TypeId) (pos : String) (after : Array Edge) (guard : Option (Nat × Bool)) :
    execOp r ⟨dst, .store 41 p v, ty, pos, after, guard⟩ = stT 41 (r p) (r v) := rfl
attribute [local go_sem ↓] exec_alloc32 exec_store12 exec_slice exec_apT exec_load32
attribute [local go_sem] ap32
end Go.Proofs.YtnmopjefjpifoaaGreatDoor
/- A range over an iterator that first makes memory of its own, then hands out stripes of it: sidecar.stripes. -/
set_option maxRecDepth 100000
namespace Go.Proofs.YtnmopjefjpifoaaGreatDoor
open Go Go.RowKit Go.Shelf
attribute [-go_sem] Sha.exec_store

theorem Fr12.refl (W : World) (lo : Nat) : Fr12 W W lo W.heap.size := ⟨Nat.le_refl _, fun _ _ _ => rfl⟩
theorem Fr12.trans {W u v : World} {lo hi : Nat} (h : Fr12 W u lo hi) (k : Fr12 u v lo hi) : Fr12 W v lo hi := ⟨k.1, fun g h1 h2 => (k.2 g h1 h2).trans (h.2 g h1 h2)⟩
theorem fr_put {A : World} {lo hi k : Nat} {o : Obj} (hk : k < lo) (hs : hi ≤ A.heap.size) (hlt : k < A.heap.size) : Fr12 A (A.putObj k o) lo hi :=
  ⟨Nat.le_trans hs (below_putP (N := 0) o (Nat.zero_le _) hlt).size, fun g h1 _ => World.putObj_heap_other (by omega)⟩
def bodyOutM (lo hi : Nat) (I : Nat → World → Prop) (A : World) (s : Nat) : Exit → Act → World → Prop
  | .normal, _, A' => KeepsOthers A A' ∧ Fr12 A A' lo hi ∧ I (s + 1) A'
  | _, _, _ => False
end Go.Proofs.YtnmopjefjpifoaaGreatDoor
/- (*archive.Archive).All and its iterator, in a range. -/
set_option maxRecDepth 100000
namespace Go.Proofs.YtnmopjefjpifoaaGreatDoor
open Go Go.RowKit Go.Shelf

attribute [-go_sem] Sha.exec_store
theorem mkFnA11 : ∀ (fn : Fn) (first cap : Array Value) (w : World), (Instr.makeFunc fn first cap).run Tryz.prog w = .ok (.func fn first cap) w := fun _ _ _ _ => rfl
section
attribute [local go_sem] mkFnA11
theorem all_any (v : Value) (hv : v.oneCell' = true) (hc : v.cells = #[v]) (u : World) : Calls Tryz.prog 53 #[v] u fun e w' => e = .returned (.func (.func 120) #[] #[.pointer (some ⟨u.heap.size, 0, none⟩)]) ∧ w' = u.alloc (.cells #[v] 26) := by
  go_enter Tryz.func53, Tryz.ntmps53
  go_wp2
  go_ret
  exact ⟨rfl, rfl⟩
end
theorem goodR_fac11 {r : Rc} (h : goodR r = true) : r.path.length ≤ 100 := (goodR_facts h).1
def ent0 : Ent := (rc0, [])
/-- What the iterator of an archive's records does with the loop's body. -/
def ArSeq (m bb : Nat) (L : List Ent) (w : World) : Prop :=
  ∀ (lp : Nat) (J0 : World → Prop) (J : Nat → Nat → Nat → World → Prop) (A : World), Below w.heap.size w A →
    (∀ B B', J0 B → Below B.heap.size B B' → J0 B') →
    (∀ lo hi s B B', J lo hi s B → hi ≤ B.heap.size → Below B.heap.size B B' → J lo hi s B') →
    (∀ lo hi s B, J lo hi s B → ∀ e ∈ L, DgAt B e.1 e.2) →
    (∀ B, Below A.heap.size A B → J0 B → J A.heap.size B.heap.size 0 B) →
    (∀ lo hi s B q c, s < L.length → J lo hi s B → hi ≤ B.heap.size → DgAt B ((L.getD s ent0).1.mov q c) (L.getD s ent0).2 → (∀ cc oo, q = some ⟨cc, oo, none⟩ → hi ≤ cc ∧ lo ≤ cc) →
      YieldAt Fence.wide (m - 1) Tryz.prog lp #[rcV ((L.getD s ent0).1.mov q c)] B fun e B' => e = .returned (.bool true) ∧ J lo hi (s + 1) B' ∧ Fr12 B B' lo hi) →
    J0 A → CallsIn Fence.wide m Tryz.prog 120 (#[.func (.yield lp) #[] #[]] ++ #[.pointer (some ⟨bb, 0, none⟩)]) A fun e A' => (∃ v, e = .returned v) ∧ ∃ lo hi, J lo hi L.length A'
theorem findA_mem {es : List Ent} (hk : (es.map fun e => e.1.path).Nodup) {e : Ent} (he : e ∈ es) : findA es e.1.path = some e := by
  unfold findA
  induction es with
  | nil => cases he
  | cons x l ih =>
    rw [List.map_cons, List.nodup_cons] at hk
    rw [List.find?_cons]
    rcases List.mem_cons.1 he with e1 | e1
    · rw [e1]; simp
    · have : (x.1.path == e.1.path) = false := by
        rw [beq_eq_false_iff_ne]
        intro h
        exact hk.1 (List.mem_map.2 ⟨e, e1, h.symm⟩)
      rw [this]
      exact ih hk.2 e1
theorem LsC.fr {W u : World} {lo hi : Nat} {p : Option Addr} {cs : List Value} (h : LsC W p cs) (hp : ∀ c o, p = some ⟨c, o, none⟩ → lo ≤ c ∧ c < hi) (hf : Fr12 W u lo hi) : LsC u p cs :=
  h.keep fun c o e hl => hf.2 c (hp c o e).1 (hp c o e).2
attribute [local go_sem] Oper.semAt_some
set_option maxRecDepth 100000 in
set_option maxHeartbeats 4000000 in
theorem all_seq (m : Nat) (hm : 3 ≤ m) (bb b mb : Nat) (gen : Int) (es : List Ent) (w : World) (hbb : w.cell? ⟨bb, 0, none⟩ = some (.pointer (some ⟨b, 0, none⟩))) (hA : ArAt w b mb gen es) (hnd : ∀ e ∈ es, e.2.length < 100000) : ArSeq m bb (sortA es) w := by
  intro lp J0 J A hBA hst0 hst hdg hstart hY h0
  have hm1 : 1 ≤ m := by omega
  have cb : A.cell? ⟨bb, 0, none⟩ = some (.pointer (some ⟨b, 0, none⟩)) := by rw [hBA.cell (by exact World.block_lt_of_cell? w _ hbb)]; exact hbb
  have hA1 := hA.of_below hBA
  have c1 := hA1.cell1
  obtain ⟨ms, clock, hmm⟩ := hA1.map.is
  have hplen : ∀ e ∈ es, e.1.path.length ≤ 1000 := fun e he => Nat.le_trans (goodR_fac11 (hA.good e he)) (by decide)
  have HCL := Lib.hid (mapCloneA_any mb ms clock A hmm)
  have hcp := hA1.map.copied ms clock hmm
  obtain ⟨lo, hlo⟩ : ∃ lo, A.heap.size = lo := ⟨_, rfl⟩
  rw [hlo] at hcp HCL
  obtain ⟨W1, hW1⟩ : ∃ W, A.alloc (.map ms clock) = W := ⟨_, rfl⟩
  have hB1 : Below A.heap.size A W1 := by rw [← hW1]; exact (Below.refl _ _).alloc (Nat.le_refl _) _
  rw [hW1] at hcp HCL
  have HKY := Lib.hid (callsIn_wide.1 (Tryz.maps_Keys_121 (some lo) W1))
  have HST := Lib.hid (keysA_any hcp hplen hA.few)
  have hB2 : Below W1.heap.size W1 (W1.alloc (.cells #[.map (some lo)] 118)) := (Below.refl _ _).alloc (Nat.le_refl _) _
  have hz1 : W1.heap.size = lo + 1 := by rw [← hW1, ← hlo]; simp
  obtain ⟨n, hn⟩ : ∃ n, es.length = n := ⟨_, rfl⟩
  have hn128 : n ≤ 128 := by rw [← hn]; exact hA.few
  rw [hn] at HST
  have HN := Lib.hid (show (sortA es).length = n by rw [sortA_len, hn])
  have HCP := Lib.hid hcp
  have HB1 := Lib.hid hB1
  have HB2 := Lib.hid hB2
  have HZ1 := Lib.hid (And.intro hz1 hlo)
  have HSS := Lib.hid (fun B hB => hstart B hB (hst0 A B h0 hB))
  have HJS := Lib.hid hst
  have HDG := Lib.hid hdg
  have HY := Lib.hid hY
  have HAR := Lib.hid hA
  have HNE := Lib.hid hnd
  clear hbb hA hBA hst0 hst hdg hstart hY h0 hA1 hmm hplen hcp hlo hB1 hB2 hz1 hn hW1 hnd
  refine callsIn_of_wp Tryz.func120 rfl trivial ?_ rfl
  simp only [Tryz.ntmps120, List.size_toArray, List.length_cons, List.length_nil, Nat.reduceAdd, Nat.reduceSub, Array.replicate_succ, Array.replicate_zero, List.push_toArray, List.append_toArray, List.nil_append, List.cons_append]
  gi_wp2_with (first
    | (refine ⟨trivial, ?_⟩; gi_at_call 55; refine (callsIn_wide.2 HCL.out).mono ?_; rintro e w1 ⟨rfl, rfl⟩)
    | (refine ⟨trivial, ?_⟩; gi_at_call 121; refine (callsIn_wide.2 HKY.out).mono ?_; rintro e w2 ⟨rfl, rfl⟩)
    | (refine ⟨trivial, ?_⟩; gi_at_call 110; refine (callsIn_wide.2 HST.out).mono ?_; rintro e w3 ⟨v, rfl, hrow, hB3⟩; obtain ⟨p, cap, rfl, hls, hpn, hpc, hpb⟩ := own_shape hrow; have HLS := Lib.hid (And.intro hls hpb); have HB3 := Lib.hid hB3; clear hrow hls hpn hpc hpb hB3))
  obtain ⟨hi, hhi⟩ : ∃ h, w3.heap.size = h := ⟨_, rfl⟩
  have hs13 : w1.heap.size ≤ w3.heap.size := by have h1 := HB2.out.size; have h2 := HB3.out.size; omega
  have hbl3 : Below w1.heap.size w1 w3 := HB2.out.trans (HB3.out.mono (by omega))
  have hA3 : Below A.heap.size A w3 := HB1.out.trans (hbl3.mono HB1.out.size)
  have hz := HZ1.out
  have HHI := Lib.hid hhi
  have HLH := Lib.hid (show lo < hi by omega)
  have HJ := Lib.hid (show J lo hi 0 w3 from by have h := HSS.out w3 hA3; rw [hz.2, hhi] at h; exact h)
  have HM3 := Lib.hid (HCP.out.of_below hbl3)
  have HPB := Lib.hid (show ∀ c o, p = some ⟨c, o, none⟩ → lo ≤ c ∧ c < hi from fun c o e => by
    have h := HLS.out.2 c o e
    omega)
  clear hs13 hbl3 hA3 hz hhi HSS HST HKY HCL HCP
  gi_loopw [15] (fun f wr => ∃ s : Nat, s ≤ n ∧ f = .int .i64 (s : Int) ∧ J lo hi s wr ∧ Fr12 w3 wr lo hi) (fun f _ => n - (intOf f).toNat)
  case atStart => exact ⟨0, Nat.zero_le _, rfl, HJ.out, ⟨Nat.le_of_eq HHI.out.symm, fun _ _ _ => rfl⟩⟩
  case round =>
    obtain ⟨s, hsn, rfl, hJ, hFr⟩ := hrel
    have HJs := Lib.hid hJ
    have HFR := Lib.hid hFr
    by_cases hlt : s < n
    · have z1 : (s : Int) < (n : Int) := by omega
      have z2 : decide ((s : Int) < (n : Int)) = true := decide_eq_true z1
      have z3 : decide (s < n) = true := decide_eq_true hlt
      obtain ⟨et, het⟩ : ∃ e, (sortA es).getD s ent0 = e := ⟨_, rfl⟩
      have hmem : et ∈ sortA es := by
        rw [← het, List.getD_eq_getElem?_getD, List.getElem?_eq_getElem (by rw [HN.out]; exact hlt)]
        exact List.getElem_mem _
      have hmem2 : et ∈ es := sortA_mem.1 hmem
      have hget : ((sortA es).map fun e => Value.string (mkS e.1.path))[s]? = some (.string (mkS et.1.path)) := by
        rw [List.getElem?_map, ← het, List.getD_eq_getElem?_getD, List.getElem?_eq_getElem (by rw [HN.out]; exact hlt)]
        rfl
      obtain ⟨c, o, ec, hclt, hck⟩ := (HLS.out.1.fr HPB.out hFr).cell hget
      subst ec
      have hMr : MpB wr lo (es.map entA) := HM3.out.keep (hFr.2 lo (Nat.le_refl _) HLH.out)
      have hl := run_lookup8 (P := Tryz.prog) mapA strT (zeroRc wr) hMr et.1.path false
      rw [findA_V, findA_mem HAR.out.keys hmem2] at hl
      have hl2 : (Instr.lookup 118 (.map (some lo)) (.string (mkS et.1.path)) false).run Tryz.prog wr = .ok (rcV et.1) wr := hl
      have HOW := Lib.hid (own_any et.1 et.2 wr (HDG.out lo hi s wr hJ et hmem) (HNE.out et hmem2))
      have HET := Lib.hid het
      obtain ⟨VE, hVE⟩ : ∃ V, rcV et.1 = V := ⟨_, rfl⟩
      rw [hVE] at hl2 HOW
      clear hl hMr hget hmem hmem2 het hVE hJ hFr
      gi_wp2_with (first
        | (refine ⟨trivial, ?_⟩; gi_at_call 57; refine (callsIn_wide.2 HOW.out).mono ?_; rintro e w4 ⟨q, cc, rfl, hB4, hD4, hq4⟩
           obtain ⟨fn, tmps, assign, body, hy, hR⟩ := HY.out lo hi s w4 q cc (by rw [HN.out]; exact hlt) (HJS.out lo hi s wr w4 HJs.out HFR.out.1 hB4) (Nat.le_trans HFR.out.1 hB4.size) (by rw [HET.out]; exact hD4) (fun c2 o2 e2 => by have h1 := HFR.out.1; have h2 := (hq4 c2 o2 e2).1; have h3 := HLH.out; omega)
           rw [HET.out] at hy
           have HF4 := Lib.hid (HFR.out.of_below hB4)
           clear hB4 hD4 hq4))
      refine hR.mono ?_
      rintro e W3 ⟨rfl, hJ3, hF3⟩
      have HJ3 := Lib.hid hJ3
      have HF3 := Lib.hid (HF4.out.trans hF3)
      clear hJ3 hF3
      gi_wp2
      go_roundw
      case rel => exact ⟨s + 1, by omega, by go_num, HJ3.out, HF3.out⟩
      case measure => simp [intOf]; omega
    · have z1 : ¬ (s : Int) < (n : Int) := by omega
      have z2 : decide ((s : Int) < (n : Int)) = false := decide_eq_false z1
      have z3 : decide (s < n) = false := decide_eq_false hlt
      have hse : s = n := by omega
      have HSE := Lib.hid hse
      clear hse hJ hFr
      gi_wp2
      go_end0
      exact ⟨⟨_, rfl⟩, lo, hi, by rw [HN.out, ← HSE.out]; exact HJs.out⟩
end Go.Proofs.YtnmopjefjpifoaaGreatDoor
/- A range over an archive's records. -/
set_option maxRecDepth 100000
namespace Go.Proofs.YtnmopjefjpifoaaGreatDoor
open Go Go.RowKit Go.Shelf
attribute [-go_sem] Sha.exec_store

theorem range_arch {L : List Ent} {g : Operand} {ps : Array Tmp} {assign body : Code} {Q : Exit → Act → World → Prop} {a : Act} {w : World} {m : Nat} (hm : 1 ≤ m)
    {bb : Nat} (hg : a.eval g = .func (.func 120) #[] #[.pointer (some ⟨bb, 0, none⟩)]) (hps : ps.size = 1) (hseq : ArSeq (m - 1) bb L w)
    (I0 : World → Prop) (I : Nat → Nat → Nat → World → Prop) (hI0 : ∀ B B', I0 B → Below B.heap.size B B' → I0 B')
    (hIb : ∀ lo hi s B B', I lo hi s B → hi ≤ B.heap.size → Below B.heap.size B B' → I lo hi s B') (hIg : ∀ lo hi s B, I lo hi s B → ∀ e ∈ L, DgAt B e.1 e.2)
    (hst : ∀ A B, w.heap.size + 2 ≤ A.heap.size → Below A.heap.size A B → I0 A → I0 B → I A.heap.size B.heap.size 0 B)
    (hIp : ∀ lo hi s A o, w.heap.size + 2 ≤ lo → w.heap.size + 1 < A.heap.size → I lo hi s A → I lo hi s (A.putObj (w.heap.size + 1) o)) (h0 : I0 w)
    (AsgR : Value → World → Act → World → Prop) (hAsg : ∀ v A a' A', AsgR v A a' A' → Below A.heap.size A A')
    (hassign : ∀ (Lp : Nat) (r : Rc) (W : World) (K : Act → World → Prop), (∀ a' W', AsgR (rcV r) W a' W' → K a' W') →
      assign.wpIn (Fence.wide.inRound Lp) (m - 1 - 1) Tryz.prog (Exit.then K (fun _ _ _ => False)) { tmps := (ps.zip #[rcV r]).foldl (fun t (p, v) => t.setIfInBounds p v) a.tmps, defers := [] } W)
    (hbody : ∀ (Lp lo hi s : Nat) (q : Option Addr) (c : Nat) (A0 A1 : World) (o : Obj) (a' : Act), s < L.length → w.heap.size + 2 ≤ lo → hi ≤ A0.heap.size → w.heap.size + 1 < A0.heap.size → I lo hi s (A1.putObj (w.heap.size + 1) o) → DgAt (A1.putObj (w.heap.size + 1) o) ((L.getD s ent0).1.mov q c) (L.getD s ent0).2 →
      AsgR (rcV ((L.getD s ent0).1.mov q c)) A0 a' A1 →
      body.wpIn (Fence.wide.inRound Lp) (m - 1 - 1) Tryz.prog (bodyOutM lo hi (I lo hi) (A1.putObj (w.heap.size + 1) o) s) a' (A1.putObj (w.heap.size + 1) o))
    (hdone : ∀ (D lo hi : Nat) (A : World), D = w.heap.size → I lo hi L.length A → A.heap[D]? = some (.deferred (some [])) → Q .normal { a with defers := { target := .collected D, args := #[] } :: a.defers } A) :
    (Code.rangeFunc g ps assign body).wpIn Fence.wide m Tryz.prog Q a w := by
  refine wpIn_rangeFunc fun fn hfn => ?_
  obtain ⟨n, hn⟩ : ∃ n, w.heap.size = n := ⟨_, rfl⟩
  obtain ⟨gf, hgf⟩ : ∃ gf, gf = 120 := ⟨_, rfl⟩
  obtain ⟨lb, hlb⟩ : ∃ lb : Array Value, lb = #[.pointer (some ⟨bb, 0, none⟩)] := ⟨_, rfl⟩
  have eg : ∀ args w, (callFunc gf args).run Tryz.prog w = .ok (.enter gf args) w := by rw [hgf]; exact enters_of Tryz.func120 (by kernel_rfl) rfl
  rw [← hgf, ← hlb] at hg
  obtain ⟨R, hR⟩ : ∃ R : LoopState → Option Code → Loop, R = fun st pe => { state := st, pending := pe, fn, tmps := a.tmps, params := ps, assign, body, defers := n } := ⟨_, rfl⟩
  obtain ⟨W, hW⟩ : ∃ W, (w.alloc (.deferred (some []))).alloc (.loop (R .ready none)) = W := ⟨_, rfl⟩
  have two : ∀ {A : World}, A.heap[n + 1]? = some (.loop (R .busy none)) ∨ A.heap[n + 1]? = some (.loop (R .ready none)) → n + 1 < A.heap.size := fun h => by
    rcases h with h | h <;> exact (Array.getElem?_eq_some_iff.1 h).1
  let At : LoopState → Option Code → World → Prop := fun st pe A => A.heap[n + 1]? = some (.loop (R st pe)) ∧ A.heap[n]? = some (.deferred (some []))
  have at0 : At .ready none W := by
    constructor
    · rw [← hW]
      have := World.alloc_heap_new (w.alloc (.deferred (some []))) (.loop (R .ready none))
      rwa [World.size_alloc, hn] at this
    · rw [← hW]
      have h1 := World.alloc_heap_new w (.deferred (some []))
      rw [hn] at h1
      exact (Below.heap_alloc _ _ _ (by simp; omega)).trans h1
  have hWs : W.heap.size = n + 2 := by rw [← hW, World.size_alloc, World.size_alloc, hn]
  have putAt : ∀ {st st' : LoopState} {pe pe' : Option Code} {A : World}, At st pe A → At st' pe' (A.putObj (n + 1) (.loop (R st' pe'))) := fun h =>
    ⟨World.putObj_heap_same (Array.getElem?_eq_some_iff.1 h.1).1, (World.putObj_heap_other (by omega)).trans h.2⟩
  have growAt : ∀ {st : LoopState} {pe : Option Code} {A A' : World}, At st pe A → Below A.heap.size A A' → At st pe A' := fun h k =>
    ⟨(k.block _ (Array.getElem?_eq_some_iff.1 h.1).1).trans h.1, (k.block _ (Array.getElem?_eq_some_iff.1 h.2).1).trans h.2⟩
  refine ⟨n + 1, [{ target := .collected n, args := #[] }], W, { target := .fn (.func gf) lb, args := #[.func (.yield (n + 1)) #[] #[]] }, W, gf, #[.func (.yield (n + 1)) #[] #[]] ++ lb, W, ?_, ?_, ?_, ?_, fun _ => hm, ?_⟩
  · rw [← hW, hR, ← hn]; exact run_enterLoop_outer _ _ _ _ _
  · simp only [resolve, hg]
    simp [go_sem]
  · intro f' hf'
    simp [Target.leads] at hf'
    subst hf'
    trivial
  · simp [invoke, go_sem, eg]
  · have hbel : Below w.heap.size w W := by rw [← hW]; exact ((Below.refl _ w).alloc (Nat.le_refl _) _).alloc (by simp) _
    rw [hgf, hlb]
    refine (hseq (n + 1) (fun A => I0 A ∧ At .ready none A) (fun lo hi s A => (I lo hi s A ∧ n + 2 ≤ lo) ∧ At .ready none A) W hbel
      (fun B B' h k => ⟨hI0 B B' h.1 k, growAt h.2 k⟩) (fun lo hi s B B' h hh k => ⟨⟨hIb lo hi s B B' h.1.1 hh k, h.1.2⟩, growAt h.2 k⟩) (fun lo hi s B h => hIg lo hi s B h.1.1)
      (fun B hB h => ⟨⟨hst W B (by rw [hWs, hn]; exact Nat.le_refl _) hB (hI0 w W h0 hbel) h.1, by rw [hWs]; exact Nat.le_refl _⟩, h.2⟩) ?_ ⟨hI0 w W h0 hbel, at0⟩).mono ?_
    · rintro lo hi s A q c hs ⟨⟨hi', hlo⟩, hat⟩ hhi hdg hfr
      have hlt := two (.inr hat.1)
      have hy := run_yield (P := Tryz.prog) (args := #[rcV ((L.getD s ent0).1.mov q c)]) hat.1 (by rw [hR]; exact hps.symm)
      rw [hR] at hy
      refine ⟨fn, _, assign, body, hy, roundIn_of_wpIn hfn (hassign _ ((L.getD s ent0).1.mov q c) A _ fun a' A1 hAR => ?_)⟩
      have hk1 := hAsg _ _ _ _ hAR
      have hat1 := growAt hat hk1
      have hlt1 := two (.inr hat1.1)
      refine ⟨_, run_beginRound hat1.1 (by rw [hR]), ?_⟩
      have hbusy : ({ R .ready none with state := .busy } : Loop) = R .busy none := by rw [hR]
      rw [hbusy]
      have hat2 : At .busy none (A1.putObj (n + 1) (.loop (R .busy none))) := putAt hat1
      have hfr0 : Fr12 A (A1.putObj (n + 1) (.loop (R .busy none))) lo hi := ⟨Nat.le_trans hhi (Nat.le_trans hk1.size (below_putP (N := 0) _ (Nat.zero_le _) hlt1).size), fun k h1 h2 => (World.putObj_heap_other (by omega)).trans (hk1.block k (by omega))⟩
      have hI1 : I lo hi s (A1.putObj (n + 1) (.loop (R .busy none))) := by
        have := hIp lo hi s A1 (.loop (R .busy none)) (by rw [hn]; exact hlo) (by rw [hn]; exact hlt1) (hIb lo hi s A A1 hi' hhi hk1)
        rw [hn] at this
        exact this
      have hd1 : DgAt (A1.putObj (n + 1) (.loop (R .busy none))) ((L.getD s ent0).1.mov q c) (L.getD s ent0).2 := (hdg.of_below hk1).keep fun cc oo e hl => World.putObj_heap_other (by
        have : q = some ⟨cc, oo, none⟩ := e
        have := (hfr cc oo this).2
        omega)
      have hB := hbody (n + 1) lo hi s q c A A1 (.loop (R .busy none)) a' hs (by rw [hn]; exact hlo) hhi (by rw [hn]; exact hlt) (by rw [hn]; exact hI1) (by rw [hn]; exact hd1) hAR
      rw [hn] at hB
      refine wpIn_mono hB ?_
      have fin : ∀ (A3 : World), KeepsOthers (A1.putObj (n + 1) (.loop (R .busy none))) A3 →
          n + 1 < A3.heap.size ∧ (Instr.endRound (n + 1) none).run Tryz.prog A3 = .ok (.bool true) (A3.putObj (n + 1) (.loop (R .ready none))) ∧ At .ready none (A3.putObj (n + 1) (.loop (R .ready none))) := fun A3 hk => by
        have h3 : At .busy none A3 := ⟨hk.same _ _ hat2.1 rfl, hk.same _ _ hat2.2 rfl⟩
        have he := run_endRound (P := Tryz.prog) none h3.1
        have e : ({ R .busy none with state := (if (none : Option Code).isNone then .ready else .done), pending := none } : Loop) = R .ready none := by rw [hR]; rfl
        rw [e] at he
        exact ⟨two (.inl h3.1), he, putAt h3⟩
      rintro e a3 A3 hp
      cases e with
      | normal =>
        obtain ⟨hk, hfr3, hi3⟩ := hp
        obtain ⟨hl3, he, h4⟩ := fin A3 hk
        refine ⟨_, _, he, rfl, ⟨⟨?_, hlo⟩, h4⟩, (hfr0.trans hfr3).trans (fr_put (by omega) hfr3.1 hl3)⟩
        have := hIp lo hi (s + 1) A3 (.loop (R .ready none)) (by rw [hn]; exact hlo) (by rw [hn]; exact hl3) hi3
        rw [hn] at this
        exact this
      | ret => exact hp.elim
      | exit id => exact hp.elim
      | goto t => exact hp.elim
      | panic ch => exact hp.elim
      | outgrown => exact hp.elim
    · rintro e A2 ⟨⟨v, rfl⟩, lo, hi, ⟨hi2, hlo⟩, hat⟩
      have hlt := two (.inr hat.1)
      have he := run_endLoop (P := Tryz.prog) hat.1 (by rw [hR]; simp)
      refine ⟨none, _, by rw [he, hR], ?_⟩
      refine hdone n lo hi _ (by omega) ?_ ((World.putObj_heap_other (by omega)).trans hat.2)
      have := fun o => hIp lo hi _ A2 o (by rw [hn]; exact hlo) (by rw [hn]; exact hlt) hi2
      rw [hn] at this
      exact this _
end Go.Proofs.YtnmopjefjpifoaaGreatDoor
/- What the program's writer is asked to do; the document's example of layer 6. -/
set_option maxRecDepth 100000
namespace Go.Proofs.YtnmopjefjpifoaaGreatDoor
open Go Go.RowKit
attribute [-go_sem] Sha.exec_store

/-- A new Writer's cells: to be held against the program's own. -/
def zW : Array Value := #[.slice none 0 0]
/-- What a writer's function leaves: the writer with more bytes; its own block g, or a new one. -/
def WrPost (Wr : Nat → World → Addr → Option Nat → List (BitVec 8) → Prop) (N : Nat) (w : World) (a : Addr) (g : Option Nat) (l : List (BitVec 8)) (w' : World) : Prop :=
  ∃ g', Wr N w' a g' l ∧ (∀ k, g' = some k → g = some k ∨ w.heap.size ≤ k) ∧ Kq a.block g w w'
theorem Sl.far {w : World} {p : Option Addr} {l : List (BitVec 8)} {y : Nat} (h : Sl w p l) (hne : ∀ c o, p = some ⟨c, o, none⟩ → c ≠ y) (v : Value) : Sl (w.setCell ⟨y, 0, none⟩ v) p l := fun j hj => by
  obtain ⟨c, o, e, hc⟩ := h j hj
  exact ⟨c, o, e, by rw [World.cell?_setCell_far _ _ _ _ (show y ≠ c from Ne.symm (hne c o e))]; exact hc⟩
theorem Sl.blk {w : World} {p : Option Addr} {l : List (BitVec 8)} (h : Sl w p l) (hl : 0 < l.length) : ∀ c o, p = some ⟨c, o, none⟩ → c < w.heap.size := fun c o e => by
  obtain ⟨c', o', e', hc⟩ := h 0 hl
  rw [e] at e'
  injection e' with e'
  injection e' with e1 e2
  subst e1
  exact World.block_lt_of_cell? w _ hc
attribute [local go_sem] mkFn
end Go.Proofs.YtnmopjefjpifoaaGreatDoor
/- Nothing written yet. -/
namespace Go.Proofs.YtnmopjefjpifoaaGreatDoor
open Go Go.RowKit
attribute [-go_sem] Sha.exec_store
theorem OwnB.nil (w : World) (base : Nat) : OwnB w base (.slice none 0 0) [] := ⟨rfl, .inl ⟨rfl, rfl⟩⟩
end Go.Proofs.YtnmopjefjpifoaaGreatDoor
/- What the program's Writer is in memory; its numbers. -/
set_option maxRecDepth 100000
namespace Go.Proofs.YtnmopjefjpifoaaGreatDoor
open Go Go.RowKit
attribute [-go_sem] Sha.exec_store

/-- The writer at a has the bytes l. -/
def WrP (N : Nat) (w : World) (a : Addr) (g : Option Nat) (l : List (BitVec 8)) : Prop := ∃ (b : Nat) (v : Value), a = ⟨b, 0, none⟩ ∧ N ≤ b ∧ w.cell? ⟨b, 0, none⟩ = some v ∧ w.frozen? ⟨b, 0, none⟩ = false ∧ OwnB w N v l ∧ v.ownBlock = g ∧ g ≠ some b
theorem wrP_lie (N : Nat) (w : World) (a : Addr) (g : Option Nat) (l : List (BitVec 8)) (h : WrP N w a g l) : N ≤ a.block ∧ a.block < w.heap.size ∧ ∀ k, g = some k → N ≤ k ∧ k < w.heap.size ∧ k ≠ a.block := by
  obtain ⟨b, v, rfl, h1, h2, h3, h4, h5, h6⟩ := h
  refine ⟨h1, World.block_lt_of_cell? w _ h2, fun k hk => ?_⟩
  have := h4.lt k (by rw [h5]; exact hk)
  refine ⟨this.1, this.2, fun e => h6 ?_⟩
  rw [hk, e]
theorem wrP_stay (N : Nat) (w w' : World) (a : Addr) (g : Option Nat) (l : List (BitVec 8)) (h : WrP N w a g l) (hs : w.heap.size ≤ w'.heap.size) (hb : w'.heap[a.block]? = w.heap[a.block]?) (hg : ∀ k, g = some k → w'.heap[k]? = w.heap[k]?) : WrP N w' a g l := by
  obtain ⟨b, v, rfl, h1, h2, h3, h4, h5, h6⟩ := h
  exact ⟨b, v, rfl, h1, by rw [World.cell?_of_block (w := w) hb]; exact h2, by rw [World.frozen?_of_block (w := w) hb]; exact h3, h4.keep fun k hk => hg k (by rw [← h5]; exact hk), h5, h6⟩
theorem wrP_zero (N : Nat) (w : World) (hN : N ≤ w.heap.size) : WrP N (w.alloc (.cells zW 155)) ⟨w.heap.size, 0, none⟩ none [] :=
  ⟨w.heap.size, .slice none 0 0, rfl, hN, World.cell?_alloc_new _ _ _ _, by go_simp, OwnB.nil _ _, rfl, by simp⟩
theorem Kq.refl (b : Nat) (g : Option Nat) (w : World) : Kq b g w w := ⟨rfl, rfl, rfl, Nat.le_refl _, fun _ _ _ _ => rfl⟩
theorem Kq.trans {b : Nat} {g g' : Option Nat} {x y z : World} (h : Kq b g x y) (k : Kq b g' y z) (hg : ∀ i, g' = some i → g = some i ∨ x.heap.size ≤ i) : Kq b g x z :=
  ⟨k.os.trans h.os, k.tape.trans h.tape, k.output.trans h.output, Nat.le_trans h.size k.size, fun i h1 h2 h3 => (k.block i (Nat.lt_of_lt_of_le h1 h.size) h2 (fun e => by rcases hg i e with h4 | h4; exact h3 h4; omega)).trans (h.block i h1 h2 h3)⟩
theorem Kq.ofBelow {b : Nat} {g : Option Nat} {x y : World} (k : Below x.heap.size x y) : Kq b g x y := ⟨k.os, k.tape, k.output, k.size, fun i h _ _ => k.block i h⟩
/-- More bytes: appended to the writer's own, and stored. -/
theorem wr_put {N : Nat} {w y z : World} {b : Nat} {g : Option Nat} {l' : List (BitVec 8)} {v v' : Value} (hN : N ≤ b) (hblt : b < w.heap.size) (hB : Below w.heap.size w y) (hc : w.cell? ⟨b, 0, none⟩ = some v) (hf : w.frozen? ⟨b, 0, none⟩ = false) (hv : v.ownBlock = g) (hgb : g ≠ some b)
    (hO : OwnB z N v' l') (hG : y.grownBy z v.ownBlock) (hor : v'.ownBlock = v.ownBlock ∨ v'.ownBlock = some y.heap.size) :
    (z.cell? ⟨b, 0, none⟩ = some v ∧ z.frozen? ⟨b, 0, none⟩ = false) ∧ WrPost WrP N w ⟨b, 0, none⟩ g l' (z.setCell ⟨b, 0, none⟩ v') := by
  have hzb : z.heap[b]? = w.heap[b]? := by rw [hG.block b (Nat.lt_of_lt_of_le hblt hB.size) (by rw [hv]; exact Ne.symm hgb), hB.block b hblt]
  have hz : z.cell? ⟨b, 0, none⟩ = some v := by rw [World.cell?_of_block (w := w) hzb]; exact hc
  have hzf : z.frozen? ⟨b, 0, none⟩ = false := by rw [World.frozen?_of_block (w := w) hzb]; exact hf
  have hne : v'.ownBlock ≠ some b := by
    rcases hor with e | e
    · rw [e, hv]; exact hgb
    · rw [e]; intro h; injection h with h; have := hB.size; omega
  refine ⟨⟨hz, hzf⟩, v'.ownBlock, ⟨b, v', rfl, hN, World.cell?_setCell_same _ _ _ hz, by rw [World.frozen?_setCell]; exact hzf, hO.keep fun k hk => Below.heap_setCell _ _ _ _ (fun e => hne (by rw [hk]; exact congrArg some e)), rfl, hne⟩, fun k hk => ?_, ?_⟩
  · rcases hor with e | e
    · left; rw [← hv, ← e]; exact hk
    · right; rw [e] at hk; injection hk with hk; rw [← hk]; exact hB.size
  · exact ⟨hG.os.trans hB.os, hG.tape.trans hB.tape, hG.output.trans hB.output, Nat.le_trans hB.size (by simpa using hG.size), fun k h1 h2 h3 => by
      rw [Below.heap_setCell _ _ _ _ h2, hG.block k (Nat.lt_of_lt_of_le h1 hB.size) (by rw [hv]; exact fun e => h3 e.symm), hB.block k h1]⟩
/-- Two steps, one behind the other. -/
theorem WrPost.trans {N : Nat} {w y z : World} {a : Addr} {g g' : Option Nat} {l' : List (BitVec 8)} (hg' : ∀ k, g' = some k → g = some k ∨ w.heap.size ≤ k) (hK : Kq a.block g w y) (h : WrPost WrP N y a g' l' z) : WrPost WrP N w a g l' z := by
  obtain ⟨g2, h1, h2, h3⟩ := h
  refine ⟨g2, h1, fun k hk => ?_, hK.trans h3 hg'⟩
  rcases h2 k hk with h4 | h4
  · exact hg' k h4
  · right; have := hK.size; omega
end Go.Proofs.YtnmopjefjpifoaaGreatDoor
/- The program's Writer: numbers. -/
set_option maxRecDepth 100000
namespace Go.Proofs.YtnmopjefjpifoaaGreatDoor
open Go Go.RowKit
attribute [-go_sem] Sha.exec_store

theorem OwnB.shape3 {w : World} {base : Nat} {v : Value} {l : List (BitVec 8)} (h : OwnB w base v l) : ∃ p n c, v = .slice p n c := by
  obtain ⟨p, c, rfl, -⟩ := h.shape
  exact ⟨_, _, _, rfl⟩
theorem or128F : ∀ t : Fin 128, bits BinOp.or IntKind.u8 ((t.val : Nat) : Int) 128 = ((128 + t.val : Nat) : Int) := by decide
theorem or128 (t : Nat) (h : t < 128) : bits BinOp.or IntKind.u8 (t : Int) 128 = ((128 + t : Nat) : Int) := or128F ⟨t, h⟩
/-- A byte that was just made. -/
theorem Sl.one (x : World) (c : Nat) (h : c < 256) : Sl (x.alloc (.cells #[.int .u8 (c : Int)] 5)) (some ⟨x.heap.size, 0, none⟩) [BitVec.ofNat 8 c] := fun j hj => by
  have : j = 0 := by simp at hj; omega
  subst this
  refine ⟨x.heap.size, 0, rfl, ?_⟩
  rw [World.cell?_alloc_new]
  show some (Value.int .u8 (c : Int)) = some (B (BitVec.ofNat 8 c))
  rw [B_eq', BitVec.toNat_ofNat, Nat.mod_eq_of_lt (by simpa using h)]
set_option maxRecDepth 100000 in
set_option maxHeartbeats 4000000 in
theorem wrP_number (N : Nat) (w : World) (a : Addr) (g : Option Nat) (l : List (BitVec 8)) (n : Nat) (h : WrP N w a g l) (hl : l.length < 1000000100) (hn : n < 9223372036854775808) : Calls Tryz.prog 77 #[.pointer (some a), .int .i64 (n : Int)] w fun e w' => e = .returned (.bool true) ∧ WrPost WrP N w a g (l ++ enc7 n) w' := by
  have HW := Lib.hid h
  have hNb := wrP_lie _ _ _ _ _ h
  obtain ⟨b, v0, rfl, -⟩ := h
  have HN := Lib.hid hNb
  clear hNb
  have hge : ¬ (n : Int) < 0 := by omega
  have hged : decide ((n : Int) < 0) = false := decide_eq_false hge
  have HE9 := Lib.hid (show (enc7 n).length ≤ 9 from enc7_len 8 n (Nat.lt_of_lt_of_le hn (by decide)))
  go_enter Tryz.func77, Tryz.ntmps77
  go_wp2
  go_loopw [1] (fun vn wr => ∃ (m : Nat) (l' : List (BitVec 8)) (g' : Option Nat), vn = .int .i64 m ∧ m < 9223372036854775808 ∧ enc7 n = l' ++ enc7 m ∧ WrP N wr ⟨b, 0, none⟩ g' (l ++ l') ∧ (∀ k, g' = some k → g = some k ∨ w.heap.size ≤ k) ∧ Kq b g w wr) (fun vn _ => (intOf vn).toNat)
  case atStart => exact ⟨n, [], g, rfl, hn, rfl, by rw [List.append_nil]; exact HW.out, fun k hk => .inl hk, Kq.refl _ _ _⟩
  case round =>
    obtain ⟨m, l', g', rfl, hm, he, hW, hg', hK⟩ := hrel
    have hlen : (l ++ l').length < 2000000000 := by
      have h9 := HE9.out
      rw [he, List.length_append] at h9
      rw [List.length_append]; omega
    obtain ⟨b2, v, hb2, k1, hc, hf, hO, hv, hgb⟩ := hW
    injection hb2 with hb2
    subst hb2
    have hblt : b < wr.heap.size := World.block_lt_of_cell? wr _ hc
    have HO := Lib.hid hO
    have HV := Lib.hid (And.intro hv hgb)
    have HE := Lib.hid he
    have HG := Lib.hid hg'
    have HK := Lib.hid hK
    have HLEN := Lib.hid hlen
    clear hO hv hgb he hg' hK hlen
    by_cases h128 : 128 ≤ m
    · have z1 : (128 : Int) ≤ (m : Int) := by omega
      have z2 : decide ((128 : Int) ≤ (m : Int)) = true := decide_eq_true z1
      obtain ⟨t, ht⟩ : ∃ t, m % 128 = t := ⟨_, rfl⟩
      obtain ⟨m2, hm2⟩ : ∃ m2, m / 128 = m2 := ⟨_, rfl⟩
      have ht1 : t < 128 := by omega
      have t1 : (m : Int) % 128 = (t : Int) := by omega
      have t2 : (m : Int).tmod 128 = (t : Int) := by rw [Int.tmod_eq_emod_of_nonneg (by omega)]; exact t1
      have t3 : IntKind.u8.wrap (t : Int) = (t : Int) := by rw [IntKind.wrap_u8']; clear t1 t2; omega
      have t4 : (m : Int) / 128 = (m2 : Int) := by clear t2; omega
      have hor := or128 t ht1
      obtain ⟨c, hcc⟩ : ∃ c, 128 + t = c := ⟨_, rfl⟩
      rw [hcc] at hor
      have hHE := HE.out
      rw [enc7_hi h128, ht, hcc, hm2] at hHE
      have HE2 := Lib.hid hHE
      have HSL := Lib.hid (Sl.one wr c (by clear t1 t2 t4; omega))
      have HB := Lib.hid (show Below wr.heap.size wr (wr.alloc (.cells #[.int .u8 (c : Int)] 5)) from (Below.refl _ _).alloc (Nat.le_refl _) _)
      have HOB := Lib.hid (HO.out.of_below HB.out)
      have HM := Lib.hid (show m2 < m from by clear t1 t2 t4; omega)
      have hNs : N ≤ (wr.alloc (.cells #[.int .u8 (c : Int)] 5)).heap.size := by rw [World.size_alloc]; clear t1 t2 t4; omega
      have hc2 : (wr.alloc (.cells #[.int .u8 (c : Int)] 5)).cell? ⟨b, 0, none⟩ = some v := by rw [HB.out.cell (by exact hblt)]; exact hc
      clear ht hm2 hHE hcc HE
      go_wp2_with (first | (refine wpl_appendL _ rfl (.tmp 13) (.tmp 18) rfl N v (l ++ l') rfl HOB.out (some ⟨wr.heap.size, 0, none⟩) 1 1 [BitVec.ofNat 8 c] rfl rfl HSL.out (fun h => by cases h) (by have := HLEN.out; clear t1 t2 t4; omega) hNs ?_; rintro v3 w3 hO3 hg3 ho3
                            obtain ⟨⟨z3, f3⟩, hP3⟩ := wr_put k1 hblt HB.out hc hf HV.out.1 HV.out.2 hO3 hg3 ho3
                            have HP3 := Lib.hid hP3
                            obtain ⟨p3, n3, c3, rfl⟩ := hO3.shape3
                            clear hO3 hg3 ho3 hP3))
      obtain ⟨g2, q1, q2, q3⟩ := HP3.out
      refine ⟨⟨m2, l' ++ [BitVec.ofNat 8 c], g2, rfl, ?_, by rw [HE2.out]; simp, by rw [← List.append_assoc]; exact q1, fun k hk => (q2 k hk).elim (HG.out k) (fun h => .inr (Nat.le_trans HK.out.size h)), HK.out.trans q3 HG.out⟩, ?_⟩
      · have := HM.out; clear t1 t2 t4; omega
      · have := HM.out; simp [intOf]; exact this
    · have z1 : ¬ (128 : Int) ≤ (m : Int) := by omega
      have z2 : decide ((128 : Int) ≤ (m : Int)) = false := decide_eq_false z1
      have t3 : IntKind.u8.wrap (m : Int) = (m : Int) := by rw [IntKind.wrap_u8']; omega
      have hHE := HE.out
      rw [enc7_lo (n := m) (by omega)] at hHE
      have HE2 := Lib.hid hHE
      have HSL := Lib.hid (Sl.one wr m (by omega))
      have HB := Lib.hid (show Below wr.heap.size wr (wr.alloc (.cells #[.int .u8 (m : Int)] 5)) from (Below.refl _ _).alloc (Nat.le_refl _) _)
      have HOB := Lib.hid (HO.out.of_below HB.out)
      have hNs : N ≤ (wr.alloc (.cells #[.int .u8 (m : Int)] 5)).heap.size := by rw [World.size_alloc]; omega
      have hc2 : (wr.alloc (.cells #[.int .u8 (m : Int)] 5)).cell? ⟨b, 0, none⟩ = some v := by rw [HB.out.cell (by exact hblt)]; exact hc
      clear hHE HE
      go_wp2_with (first | (refine wpl_appendL _ rfl (.tmp 28) (.tmp 31) rfl N v (l ++ l') rfl HOB.out (some ⟨wr.heap.size, 0, none⟩) 1 1 [BitVec.ofNat 8 m] rfl rfl HSL.out (fun h => by cases h) (by have := HLEN.out; omega) hNs ?_; rintro v3 w3 hO3 hg3 ho3
                            obtain ⟨⟨z3, f3⟩, hP3⟩ := wr_put k1 hblt HB.out hc hf HV.out.1 HV.out.2 hO3 hg3 ho3
                            have HP3 := Lib.hid (WrPost.trans HG.out HK.out hP3)
                            obtain ⟨p3, n3, c3, rfl⟩ := hO3.shape3
                            clear hO3 hg3 ho3 hP3))
      go_ret
      exact ⟨rfl, by rw [HE2.out, ← List.append_assoc]; exact HP3.out⟩
set_option maxHeartbeats 1000000 in
theorem wrP_truth (N : Nat) (w : World) (a : Addr) (g : Option Nat) (l : List (BitVec 8)) (b : Bool) (h : WrP N w a g l) (hl : l.length < 1000000000) : Calls Tryz.prog 196 #[.pointer (some a), .bool b] w fun e w' => e = .returned (.tuple #[]) ∧ WrPost WrP N w a g (l ++ [if b then 1#8 else 0#8]) w' := by
  cases b with
  | true =>
    have HN := Lib.hid (wrP_number N w a g l 1 h (by omega) (by decide))
    clear h
    go_enter Tryz.func196, Tryz.ntmps196
    go_wp2_with fail
    refine HN.out.mono ?_
    rintro e w' ⟨rfl, hP⟩
    rw [enc7_lo (by decide)] at hP
    have HP := Lib.hid hP
    clear hP HN
    go_wp2
    go_end0
    exact ⟨rfl, HP.out⟩
  | false =>
    have HN := Lib.hid (wrP_number N w a g l 0 h (by omega) (by decide))
    clear h
    go_enter Tryz.func196, Tryz.ntmps196
    go_wp2_with fail
    refine HN.out.mono ?_
    rintro e w' ⟨rfl, hP⟩
    rw [enc7_lo (by decide)] at hP
    have HP := Lib.hid hP
    clear hP HN
    go_wp2
    go_end0
    exact ⟨rfl, HP.out⟩
set_option maxHeartbeats 1000000 in
theorem wrP_done (N : Nat) (w : World) (a : Addr) (g : Option Nat) (l : List (BitVec 8)) (h : WrP N w a g l) (hl : l.length < 1000000000) : Calls Tryz.prog 81 #[.pointer (some a)] w fun e w' => GivesB w l e w' := by
  obtain ⟨b, v, rfl, k1, hc, hf, hO, hv, hgb⟩ := h
  obtain ⟨p, cap, rfl, hs, hp, hle⟩ := hO.shape
  have HC := Lib.hid (clone_any l p l.length cap w rfl hs hp hle (by omega))
  clear hO hv hgb hs hp hle
  generalize l.length = n at *
  go_enter Tryz.func81, Tryz.ntmps81
  go_wp2_with fail
  refine HC.out.mono ?_
  rintro e w' ⟨v, rfl, hO, hB⟩
  have HO := Lib.hid (And.intro hO hB)
  clear hO hB HC
  go_wp2
  go_ret
  exact ⟨_, rfl, HO.out.1, HO.out.2⟩
end Go.Proofs.YtnmopjefjpifoaaGreatDoor
/- The program's Writer: bytes, texts, digests. -/
set_option maxRecDepth 100000
namespace Go.Proofs.YtnmopjefjpifoaaGreatDoor
open Go Go.RowKit
attribute [-go_sem] Sha.exec_store

theorem strOf_cells (l : List (BitVec 8)) : Lib.strCells (strOf l) = l.map B := by
  show ((l.map UInt8.ofBitVec).toArray.toList.map fun b => Value.int .u8 b.toNat) = _
  simp only [List.map_map]
  apply List.map_congr_left
  intro x _
  show Value.int .u8 ((UInt8.ofBitVec x).toNat : Int) = B x
  rw [B_eq']
  rfl
/-- A text appended to a slice of the call's own: the block afterwards is the old one or a new one. -/
theorem append_strL (w : World) (base : Nat) (ty : TypeId) (v : Value) (l : List (BitVec 8)) (hown : OwnB w base v l) (bs : List (BitVec 8)) (hn : l.length + bs.length < 1000000000000) (hb : base ≤ w.heap.size) :
    ∃ v' w', (Builtin.append_ #[53, 9] ty #[v, .string (strOf bs)]).run Tryz.prog w = .ok v' w' ∧ OwnB w' base v' (l ++ bs) ∧ w.grownBy w' v.ownBlock ∧ (v'.ownBlock = v.ownBlock ∨ v'.ownBlock = some w.heap.size) := by
  obtain ⟨i0, hi, hz0, hz1, hz2⟩ := info_parts info5
  have hst : Tryz.prog.underlying 9 = some .string := by kernel_rfl
  have hsz := strOf_size bs
  obtain ⟨v', w', h1, h2, h3, h4⟩ := Lib.run_append_own_string (P := Tryz.prog) w base 53 9 ty 5 i0 und35 hst hi hz0 hz1 hz2 v l.length (l.map B) hown (strOf bs) (by rw [hsz]; simp only [maxLen]; omega) (by rw [hsz]; omega) hb
  refine ⟨v', w', h1, by unfold OwnB; rw [List.length_append, List.map_append, ← strOf_cells bs, ← hsz]; exact h2, h3, ?_⟩
  rcases hown.2 with ⟨rfl, hl0⟩ | ⟨g, cap, cur, rfl, hbg, hg, hnc, hcm, hcs, htake⟩
  · by_cases h0 : (strOf bs).size = 0
    · left; rw [h4.2 ⟨rfl, h0⟩]
    · right
      have hr := run_append_nil_string (P := Tryz.prog) w 53 9 ty 5 i0 (.int .u8 0) und35 hst hi hz0 (strOf bs) (by omega) (by rw [hsz]; omega) (by rw [hz2, hsz]; omega)
      rw [hr] at h1
      injection h1 with h1 _
      rw [← h1]; rfl
  · by_cases hroom : l.length + (strOf bs).size ≤ cap
    · left
      have hr := Lib.run_append_room_string (P := Tryz.prog) w 53 9 ty 5 i0 und35 hst hi hz1 g l.length cap cur hg (strOf bs) hroom (by rw [hcs, Nat.mul_one]; exact hroom)
      rw [hr] at h1
      injection h1 with h1 _
      rw [← h1]; rfl
    · right
      have holds : ∀ j u, (l.map B)[j]? = some u → w.cell? ((⟨g, 0, none⟩ : Addr).add j) = some u := World.ownsRow.cells (g := g) hown rfl
      have hr := Lib.run_append_grow_string (P := Tryz.prog) w 53 9 ty 5 i0 (.int .u8 0) und35 hst hi hz0 ⟨g, 0, none⟩ l.length cap (l.map B) (by rw [hz1]; simp) holds (strOf bs) (by omega) (by rw [hsz]; omega) (by rw [hz2]; exact growslice_fits (by omega) (by rw [hsz]; omega))
      rw [hr] at h1
      injection h1 with h1 _
      rw [← h1]; rfl
theorem wpl_appendS {ops : Array Oper} {rest : List Oper} {o : Oper} {a : Act} {Q : Exit → Act → World → Prop} (w : World) (hgd : o.guard = none) (s x : Operand)
    (ho : o.op = .call { callee := .builtin .append, args := #[s, x], argTypes := #[53, 9] })
    (base : Nat) (v : Value) (l : List (BitVec 8)) (hs : a.eval s = v) (hown : OwnB w base v l) (bs : List (BitVec 8)) (S : ByteArray) (hS : strOf bs = S) (hx : a.eval x = .string S)
    (hn : l.length + bs.length < 1000000000000) (hb : base ≤ w.heap.size)
    (h : ∀ v' w', OwnB w' base v' (l ++ bs) → w.grownBy w' v.ownBlock → (v'.ownBlock = v.ownBlock ∨ v'.ownBlock = some w.heap.size) → wpList Tryz.prog ops Q rest (a.put o.dst v') w') : wpList Tryz.prog ops Q (o :: rest) a w := by
  subst hS
  refine wpList_plain hgd fun K hK => ?_
  obtain ⟨v', w', hr, h2, h3, h4⟩ := append_strL w base o.type v l hown bs hn hb
  unfold Oper.wp execOp
  simp only [ho, resolve, invoke, builtin, Sem.run_bind, Sem.run_pure, Result.andThen_ok, List.map_toArray, List.map_cons, List.map_nil, hs, hx, hr]
  exact hK _ _ (h v' w' h2 h3 h4)
set_option maxHeartbeats 1000000 in
theorem wrP_text (N : Nat) (w : World) (a : Addr) (g : Option Nat) (l : List (BitVec 8)) (bs : List (BitVec 8)) (h : WrP N w a g l) (hl : l.length < 1000000000) (hn : bs.length < 1000000) :
    Calls Tryz.prog 194 #[.pointer (some a), .string (strOf bs)] w fun e w' => e = .returned (.tuple #[]) ∧ WrPost WrP N w a g (l ++ (enc7 bs.length ++ bs)) w' := by
  obtain ⟨S, hS⟩ : ∃ S, strOf bs = S := ⟨_, rfl⟩
  have hsz : bs.length = S.size := by rw [← hS, strOf_size]
  have HS := Lib.hid hS
  rw [hS, hsz]
  rw [hsz] at hn
  have hL := wrP_lie _ _ _ _ _ h
  have HN := Lib.hid (wrP_number N w a g l S.size h (by omega) (by omega))
  have HX := Lib.hid (And.intro hL (And.intro hsz hl))
  have HE9 := Lib.hid (show (enc7 S.size).length ≤ 9 from enc7_len 8 _ (by rw [show (128 : Nat) ^ 9 = 9223372036854775808 by decide]; omega))
  clear h hL hl hS hsz
  go_enter Tryz.func194, Tryz.ntmps194
  go_wp2_with fail
  refine HN.out.mono ?_
  rintro e w1 ⟨rfl, g1, ⟨b, v, rfl, k1, hc, hf, hO, hv, hgb⟩, hg1, hK1⟩
  obtain ⟨hL, hsz, hl⟩ := HX.out
  have hblt : b < w1.heap.size := World.block_lt_of_cell? w1 _ hc
  have HO := Lib.hid hO
  have HV := Lib.hid (And.intro hv hgb)
  have HG := Lib.hid hg1
  have HK := Lib.hid hK1
  have hNs : N ≤ w1.heap.size := by omega
  have hlen : (l ++ enc7 S.size).length + bs.length < 1000000000000 := by have := HE9.out; rw [List.length_append]; omega
  have HLEN := Lib.hid hlen
  clear hL hsz hl hO hv hgb hg1 hK1 hlen HN
  go_wp2_with (first | (refine wpl_appendS _ rfl (.tmp 12) (.tmp 13) rfl N v (l ++ enc7 S.size) rfl HO.out bs S HS.out rfl HLEN.out hNs ?_; rintro v3 w3 hO3 hg3 ho3
                        obtain ⟨⟨z3, f3⟩, hP3⟩ := wr_put k1 hblt (Below.refl _ _) hc hf HV.out.1 HV.out.2 hO3 hg3 ho3
                        have HP3 := Lib.hid (WrPost.trans HG.out HK.out hP3)
                        obtain ⟨p3, n3, c3, rfl⟩ := hO3.shape3
                        clear hO3 hg3 ho3 hP3))
  go_end0
  exact ⟨rfl, by rw [← List.append_assoc]; exact HP3.out⟩
theorem exec_box32 (r : Operand → Value) (dst : Option Tmp) (x : Operand) (ty : TypeId) (pos : String) (after : Array Edge) (guard : Option (Nat × Bool)) :
    execOp r ⟨dst, .box 41 x, ty, pos, after, guard⟩ = bxT 41 (r x) := rfl
theorem bx_dig (w : World) (l : List (BitVec 8)) : (bxT 41 (digV l)).run Tryz.prog w = .ok (.value (.pointer (some ⟨w.heap.size, 0, none⟩))) (w.alloc (.cells (tab 32 (dgF l)) 41)) := by
  have hs := size32
  cases hq : Tryz.prog.info? 41 with
  | none => rw [hq] at hs; cases hs
  | some i =>
    rw [hq] at hs
    simp at hs
    unfold digV
    simp [bxT, Instr.box, newVar, newRow, Value.cells]
theorem dgF_sl {w : World} {E : Nat} {T : TypeId} {l : List (BitVec 8)} (h : Row w E T 32 (dgF l)) (hl : l.length = 32) : Sl w (some ⟨E, 0, none⟩) l :=
  Sl.row h (by omega) fun j hj => rfl
attribute [local go_sem] sl_arr bx_dig
attribute [local go_sem ↓] exec_slice exec_box32
set_option maxHeartbeats 1000000 in
theorem wrP_digest (N : Nat) (w : World) (a : Addr) (g : Option Nat) (l : List (BitVec 8)) (bs : List (BitVec 8)) (h : WrP N w a g l) (hl : l.length < 1000000000) (hn : bs.length = 32) :
    Calls Tryz.prog 80 #[.pointer (some a), digV bs] w fun e w' => e = .returned (.tuple #[]) ∧ WrPost WrP N w a g (l ++ bs) w' := by
  obtain ⟨b, v, rfl, k1, hc, hf, hO, hv, hgb⟩ := h
  have hblt : b < w.heap.size := World.block_lt_of_cell? w _ hc
  have hB : Below w.heap.size w (w.alloc (.cells (tab 32 (dgF bs)) 41)).drew := ((Below.refl _ _).alloc (Nat.le_refl _) _).drew
  have HB := Lib.hid hB
  have HO := Lib.hid (hO.of_below hB)
  have HSL := Lib.hid (dgF_sl (Row.new w 41 32 (dgF bs)).drew hn)
  have HV := Lib.hid (And.intro hv hgb)
  have hNs : N ≤ (w.alloc (.cells (tab 32 (dgF bs)) 41)).drew.heap.size := by have := hB.size; omega
  have hc1 : (w.alloc (.cells (tab 32 (dgF bs)) 41)).drew.cell? ⟨b, 0, none⟩ = some v := by rw [hB.cell (by exact hblt)]; exact hc
  have HC := Lib.hid (And.intro hc hf)
  have HNS := Lib.hid hNs
  have HL := Lib.hid (And.intro hl hn)
  clear hB hO hv hgb hc hf hNs hl hn
  obtain ⟨p0, n0, c0, rfl⟩ := HO.out.shape3
  go_enter Tryz.func80, Tryz.ntmps80
  go_wp2
  go_region_law (first
    | (refine step_appendL _ rfl (.tmp 8) (.tmp 9) rfl N (.slice p0 n0 c0) l rfl HO.out (some ⟨w.heap.size, 0, none⟩) 32 32 bs HL.out.2 rfl HSL.out (fun h => by cases h) (by have := HL.out.1; omega) HNS.out ?_; rintro v3 w3 hO3 hg3 ho3
       obtain ⟨⟨z3, f3⟩, hP3⟩ := wr_put k1 hblt HB.out HC.out.1 HC.out.2 HV.out.1 HV.out.2 hO3 hg3 ho3
       have HP3 := Lib.hid hP3
       obtain ⟨p3, n3, c3, rfl⟩ := hO3.shape3
       clear hO3 hg3 ho3 hP3))
  all_goals
    go_wp2
    go_end0
    exact ⟨rfl, HP3.out⟩
end Go.Proofs.YtnmopjefjpifoaaGreatDoor
/- The iterator over a vector's numbers that are not 0. -/
set_option maxRecDepth 100000
namespace Go.Proofs.YtnmopjefjpifoaaGreatDoor
open Go Go.RowKit Go.Shelf
attribute [-go_sem] Sha.exec_store

/-- The replicas below i whose numbers are not 0. -/
def nzV (f : Nat → Int) : Nat → List Nat
  | 0 => []
  | i + 1 => if f i = 0 then nzV f i else nzV f i ++ [i]
theorem nzV_zero {f : Nat → Int} {i : Nat} (h : f i = 0) : nzV f (i + 1) = nzV f i := by rw [nzV, if_pos h]
theorem nzV_one {f : Nat → Int} {i : Nat} (h : f i ≠ 0) : nzV f (i + 1) = nzV f i ++ [i] := by rw [nzV, if_neg h]
theorem nzV_len (f : Nat → Int) : ∀ i, (nzV f i).length = cntV f i
  | 0 => rfl
  | i + 1 => by
    have := nzV_len f i
    by_cases h : f i = 0
    · rw [nzV_zero h, cntV_zero h, this]
    · rw [nzV_one h, cntV_one h, List.length_append, this]; rfl
theorem nzV_mem {f : Nat → Int} {j : Nat} : ∀ {i : Nat}, j ∈ nzV f i → j < i ∧ f j ≠ 0
  | 0, h => by cases h
  | i + 1, h => by
    by_cases h0 : f i = 0
    · rw [nzV_zero h0] at h; have := nzV_mem h; exact ⟨by omega, this.2⟩
    · rw [nzV_one h0] at h
      rcases List.mem_append.1 h with h | h
      · have := nzV_mem h; exact ⟨by omega, this.2⟩
      · rw [List.mem_singleton] at h; subst h; exact ⟨by omega, h0⟩
theorem nzV_pre {f : Nat → Int} : ∀ (d i : Nat), nzV f i <+: nzV f (i + d)
  | 0, i => List.prefix_refl _
  | d + 1, i => by
    have h := nzV_pre (f := f) d i
    rw [show i + (d + 1) = (i + d) + 1 by omega]
    by_cases h0 : f (i + d) = 0
    · rw [nzV_zero h0]; exact h
    · rw [nzV_one h0]; exact h.trans (List.prefix_append _ _)
/-- What is written of the replicas listed. -/
def bodyL (f : Nat → Int) : List Nat → List (BitVec 8)
  | [] => []
  | i :: r => enc7 i ++ enc7 (f i).toNat ++ bodyL f r
theorem bodyL_append (f : Nat → Int) : ∀ l m, bodyL f (l ++ m) = bodyL f l ++ bodyL f m
  | [], _ => rfl
  | i :: r, m => by
    show enc7 i ++ enc7 (f i).toNat ++ bodyL f (r ++ m) = enc7 i ++ enc7 (f i).toNat ++ bodyL f r ++ bodyL f m
    rw [bodyL_append f r m]
    simp only [List.append_assoc]
theorem bodyL_nz (f : Nat → Int) : ∀ i, bodyL f (nzV f i) = bodyV f i
  | 0 => rfl
  | i + 1 => by
    have := bodyL_nz f i
    by_cases h : f i = 0
    · rw [nzV_zero h, bodyV_zero h, this]
    · rw [nzV_one h, bodyV_one h, bodyL_append, this]
      show bodyV f i ++ (enc7 i ++ enc7 (f i).toNat ++ []) = _
      rw [List.append_nil, List.append_assoc]
attribute [local go_sem] Oper.semAt_some
attribute [local go_sem ↓] exec_boxV exec_loadV exec_indexV exec_storeV
attribute [local go_sem] boxV indexV
set_option maxRecDepth 100000 in
set_option maxHeartbeats 2000000 in
theorem nonzero_seq (m : Nat) (hm : 3 ≤ m) (bb : Nat) (f : Nat → Int) (w : World) (hb : Row w bb 40 16 (vf f)) :
    SeqP m 269 #[.pointer (some ⟨bb, 0, none⟩)] (fun i : Nat => #[.int .i64 (i : Int), .int .i64 (f i)]) bb (nzV f 16) w := by
  intro L J Jx A hA hJd hY h0
  have hm1 : 1 ≤ m := by omega
  have hbA := hb.of_below hA
  have l1 := loadVT vtV (VecAt.of_row hbA (Nat.le_refl _))
  refine callsIn_of_wp Tryz.func269 rfl trivial ?_ rfl
  simp only [Tryz.ntmps269, List.size_toArray, List.length_cons, List.length_nil, Nat.reduceAdd, Nat.reduceSub, Array.replicate_succ, Array.replicate_zero, List.push_toArray, List.append_toArray, List.nil_append, List.cons_append]
  clear hb hbA
  gi_wp2
  clear l1
  gi_loopw [6] (fun v6 wr => ∃ i : Nat, v6 = .int .i64 (i : Int) ∧ i ≤ 16 ∧ J (nzV f i) wr) (fun v6 wr => 16 - (intOf v6).toNat)
  case atStart => exact ⟨0, rfl, Nat.zero_le _, h0⟩
  case round =>
    obtain ⟨i, rfl, hik, hJ0⟩ := hrel
    have HJ0 := Lib.hid hJ0
    by_cases hlt : i < 16
    · have z1 : (i : Int) < 16 := by omega
      have z2 : decide ((i : Int) < 16) = true := decide_eq_true z1
      have w3 := i64v i hlt
      by_cases hz : f i = 0
      · have HN := Lib.hid (show J (nzV f (i + 1)) wr from by rw [nzV_zero hz]; exact hJ0)
        clear hJ0
        gi_wp2
        refine ⟨(fun f hf => by cases hf), ?_⟩
        gi_wp2
        go_roundw
        case rel => exact ⟨i + 1, by go_num, by omega, HN.out⟩
        case measure => simp [intOf]; omega
      · have hpre : nzV f i ++ [i] <+: nzV f 16 := by
          rw [← nzV_one hz]
          have := nzV_pre (f := f) (15 - i) (i + 1)
          rw [show i + 1 + (15 - i) = 16 by omega] at this
          exact this
        have HPRE := Lib.hid hpre
        have d1 : ((f i) == 0) = false := by rw [beq_eq_false_iff_ne]; exact hz
        have HZ := Lib.hid (nzV_one hz)
        obtain ⟨fn, tmps, assign, body, hy, hR⟩ := hY (nzV f i) i wr hpre hJ0
        dsimp only at hy
        clear hJ0 hpre
        gi_wp2
        refine hR.mono ?_
        rintro e W3 (⟨rfl, hJ3, hB3⟩ | ⟨rfl, hJx3⟩)
        · have HJ3 := Lib.hid (show J (nzV f (i + 1)) W3 from by rw [HZ.out]; exact hJ3)
          clear hJ3 hB3
          gi_wp2
          go_roundw
          case rel => exact ⟨i + 1, by go_num, by omega, HJ3.out⟩
          case measure => simp [intOf]; omega
        · have HJX := Lib.hid (show ∃ pre, pre <+: nzV f 16 ∧ Jx pre W3 from ⟨nzV f i ++ [i], HPRE.out, hJx3⟩)
          clear hJx3
          gi_wp2
          refine bodyPost_ret (results_none rfl _ _ _) rfl ?_
          exact ⟨⟨_, rfl⟩, .inr HJX.out⟩
    · have z1 : ¬ (i : Int) < 16 := by omega
      have z2 : decide ((i : Int) < 16) = false := decide_eq_false z1
      obtain rfl : i = 16 := by omega
      gi_wp2
      go_end0
      exact ⟨⟨_, rfl⟩, .inl HJ0.out⟩
theorem mkFnZ : ∀ (fn : Fn) (first cap : Array Value) (w : World), (Instr.makeFunc fn first cap).run Tryz.prog w = .ok (.func fn first cap) w := fun _ _ _ _ => rfl
attribute [local go_sem] mkFnZ
theorem nonzero_any (f : Nat → Int) (u : World) : Calls Tryz.prog 228 #[vcV f] u fun e w' => e = .returned (.func (.func 269) #[] #[.pointer (some ⟨u.heap.size, 0, none⟩)]) ∧ w' = u.alloc (.cells (tab 16 (vf f)) 40) := by
  go_enter Tryz.func228, Tryz.ntmps228
  go_wp2
  go_ret
  exact ⟨rfl, rfl⟩
end Go.Proofs.YtnmopjefjpifoaaGreatDoor
/- Put of the program: the encoding of a good vector is written. -/
set_option maxRecDepth 100000
namespace Go.Proofs.YtnmopjefjpifoaaGreatDoor
open Go Go.RowKit Go.Shelf
attribute [-go_sem] Sha.exec_store

attribute [local go_sem] Oper.semAt_some
theorem below_newZ (w : World) (o : Obj) : Below w.heap.size w (w.alloc o) := (Below.refl _ _).alloc (Nat.le_refl _) _
theorem new_cZ (w : World) (v : Value) (T : TypeId) : (w.alloc (.cells #[v] T)).cell? ⟨w.heap.size, 0, none⟩ = some v ∧ (w.alloc (.cells #[v] T)).frozen? ⟨w.heap.size, 0, none⟩ = false := ⟨World.cell?_alloc_new _ _ _ _, by go_simp⟩
theorem cells_of_cell {w : World} {a : Addr} {v : Value} {o : Obj} (h : w.cell? a = some v) (ho : w.heap[a.block]? = some o) : o.isCells = true := by
  unfold World.cell? at h
  rw [ho] at h
  cases o <;> first | rfl | simp at h
theorem Kq.others {w w' : World} {g : Option Nat} {N : Nat} {l : List (BitVec 8)} {a : Addr} (h : Kq a.block g w w') (hW : WrP N w a g l) : KeepsOthers w w' := ⟨h.size, fun k o hk hc => by
  obtain ⟨b, v, rfl, h1, h2, h3, h4, h5, h6⟩ := hW
  have hlt := (Array.getElem?_eq_some_iff.1 hk).1
  by_cases e : k = b
  · subst e
    rw [cells_of_cell h2 hk] at hc; cases hc
  · by_cases e2 : g = some k
    · rcases h4.2 with ⟨hv, _⟩ | ⟨g2, cap, cur, hv, _, hg2, _⟩
      · rw [← h5, hv] at e2; cases e2
      · have : g2 = k := by rw [← h5, hv] at e2; injection e2
        subst this
        rw [hg2] at hk
        injection hk with hk
        subst hk
        cases hc
    · rw [h.block k hlt e e2]; exact hk⟩
/-- The boxes of Put. -/
structure PBx (w : World) (n : Nat) (f : Nat → Int) (a : Addr) (A : World) : Prop where
  row : Row A n 40 16 (vf f)
  ptr : A.cell? ⟨n + 1, 0, none⟩ = some (.pointer (some a))
theorem PBx.keep {w : World} {n : Nat} {f : Nat → Int} {a : Addr} {A A' : World} (h : PBx w n f a A) (h1 : A'.heap[n]? = A.heap[n]?) (h2 : A'.heap[n + 1]? = A.heap[n + 1]?) : PBx w n f a A' := ⟨h.row.of_block h1, by rw [World.cell?_of_block (w := A) h2]; exact h.ptr⟩
/-- What the first loop carries: so many are counted. -/
def InvP1 (w : World) (n : Nat) (f : Nat → Int) (a : Addr) (pre : List Nat) (A : World) : Prop :=
  A.cell? ⟨n + 1 + 1, 0, none⟩ = some (.int .i64 (pre.length : Int)) ∧ A.frozen? ⟨n + 1 + 1, 0, none⟩ = false ∧ PBx w n f a A ∧ Below n w A
theorem InvP1.of_below {w : World} {n N : Nat} {f : Nat → Int} {a : Addr} {pre : List Nat} {A A' : World} (h : InvP1 w n f a pre A) (hN : n + 1 + 1 < N) (hB : Below N A A') : InvP1 w n f a pre A' :=
  ⟨by rw [hB.cell (by exact hN)]; exact h.1, by rw [hB.frozen (by exact hN)]; exact h.2.1, h.2.2.1.keep (hB.block _ (by omega)) (hB.block _ (by omega)), h.2.2.2.trans (hB.mono (by omega))⟩
theorem InvP1.lt {w : World} {n : Nat} {f : Nat → Int} {a : Addr} {pre : List Nat} {A : World} (h : InvP1 w n f a pre A) : n + 1 + 1 < A.heap.size := World.block_lt_of_cell? A _ h.1
theorem InvP1.bears (w : World) (n M : Nat) (f : Nat → Int) (a : Addr) (hM : n + 1 + 1 < M) : BearsP M (InvP1 w n f a) :=
  ⟨fun pre A o h => h.of_below h.lt (below_newZ A o), fun pre A o hlt h => h.of_below (N := M + 1) (by omega) (below_putP o (Nat.le_refl _) hlt), fun pre A k h => h.of_below h.lt ((show Dr A (A.drewN k) from ⟨k, rfl⟩).below _)⟩
/-- What the second loop carries: what was written. -/
def InvP2 (w : World) (n M : Nat) (f : Nat → Int) (a : Addr) (N : Nat) (g : Option Nat) (l : List (BitVec 8)) (D1 : Nat) (pre : List Nat) (A : World) : Prop :=
  PBx w n f a A ∧ (n + 1 < M ∧ D1 < M ∧ A.heap[D1]? = some (.deferred (some []))) ∧ M ≤ A.heap.size ∧ ∃ g', WrP N A a g' (l ++ bodyL f pre) ∧ (∀ k, g' = some k → (g = some k ∨ n + 1 < k) ∧ (k + 1 < M ∨ M + 2 ≤ k)) ∧ Kq a.block g w A
theorem InvP2.step {w : World} {n M : Nat} {f : Nat → Int} {a : Addr} {N : Nat} {g : Option Nat} {l : List (BitVec 8)} {D1 : Nat} {pre : List Nat} {A A' : World} (h : InvP2 w n M f a N g l D1 pre A) (hw : w.heap.size ≤ n) (ha : a.block < w.heap.size)
    (hos : A'.os = A.os ∧ A'.tape = A.tape ∧ A'.output = A.output ∧ A.heap.size ≤ A'.heap.size) (hb : ∀ k, k < A.heap.size → (k < M ∨ M + 2 ≤ k) → A'.heap[k]? = A.heap[k]?) (hg : ∀ k, g = some k → k < w.heap.size) : InvP2 w n M f a N g l D1 pre A' := by
  obtain ⟨h1, ⟨h2, h2b, h2c⟩, h3, g', h4, h5, h6⟩ := h
  refine ⟨h1.keep (hb _ (by omega) (by omega)) (hb _ (by omega) (by omega)), ⟨h2, h2b, (hb _ (by omega) (by omega)).trans h2c⟩, Nat.le_trans h3 hos.2.2.2, g', wrP_stay _ _ _ _ _ _ h4 hos.2.2.2 (hb _ (by omega) (by omega)) (fun k hk => hb k ((wrP_lie _ _ _ _ _ h4).2.2 k hk).2.1 (by have := (h5 k hk).2; omega)), h5,
    ⟨hos.1.trans h6.os, hos.2.1.trans h6.tape, hos.2.2.1.trans h6.output, Nat.le_trans h6.size hos.2.2.2, fun k k1 k2 k3 => (hb k (Nat.lt_of_lt_of_le k1 h6.size) (by omega)).trans (h6.block k k1 k2 k3)⟩⟩
theorem InvP2.bears (w : World) (n M : Nat) (f : Nat → Int) (a : Addr) (N : Nat) (g : Option Nat) (l : List (BitVec 8)) (D1 : Nat) (hw : w.heap.size ≤ n) (ha : a.block < w.heap.size) (hg : ∀ k, g = some k → k < w.heap.size) : BearsP M (InvP2 w n M f a N g l D1) :=
  ⟨fun pre A o h => h.step hw ha ⟨rfl, rfl, rfl, (below_newZ A o).size⟩ (fun k hk _ => (below_newZ A o).block k hk) hg,
   fun pre A o hlt h => h.step hw ha ⟨(below_putP (N := 0) o (Nat.zero_le _) hlt).os, (below_putP (N := 0) o (Nat.zero_le _) hlt).tape, (below_putP (N := 0) o (Nat.zero_le _) hlt).output, (below_putP (N := 0) o (Nat.zero_le _) hlt).size⟩ (fun k hk hM => World.putObj_heap_other (by omega)) hg,
   fun pre A k h => h.step hw ha ⟨rfl, rfl, rfl, Nat.le_refl _⟩ (fun _ _ _ => rfl) hg⟩
attribute [local go_sem ↓] exec_boxV exec_loadV exec_indexV exec_storeV
attribute [local go_sem] boxV indexV
set_option maxRecDepth 100000 in
set_option maxHeartbeats 4000000 in
theorem put9_any (f : Nat → Int) (hf : ∀ i, i < 16 → 0 ≤ f i ∧ f i ≤ 1099511627776) (N : Nat) (w : World) (a : Addr) (g : Option Nat) (l : List (BitVec 8)) (h : WrP N w a g l) (hll : l.length < 1000000) :
    Calls Tryz.prog 195 #[vcV f, .pointer (some a)] w fun e w' => e = .returned (.tuple #[]) ∧ WrPost WrP N w a g (l ++ encV f) w' := by
  refine (callsIn_wide (n := 7)).1 ?_
  refine callsIn_of_wp_marks Tryz.func195 rfl trivial ?_ rfl
  simp only [Tryz.ntmps195, List.size_toArray, List.length_cons, List.length_nil, Nat.reduceAdd, Nat.reduceSub, Array.replicate_succ, Array.replicate_zero, List.push_toArray, List.append_toArray, List.nil_append, List.cons_append]
  have hlie := wrP_lie _ _ _ _ _ h
  obtain ⟨n, hn⟩ : ∃ n, w.heap.size = n := ⟨_, rfl⟩
  obtain ⟨W1, hW1⟩ : ∃ W1, w.alloc (.cells (tab 16 (vf f)) 40) = W1 := ⟨_, rfl⟩
  obtain ⟨W2, hW2⟩ : ∃ W2, W1.alloc (.cells #[.pointer (some a)] 221) = W2 := ⟨_, rfl⟩
  obtain ⟨W3, hW3⟩ : ∃ W3, W2.alloc (.cells #[.int .i64 0] 3) = W3 := ⟨_, rfl⟩
  obtain ⟨W4, hW4⟩ : ∃ W4, W3.alloc (.cells (tab 16 (vf f)) 40) = W4 := ⟨_, rfl⟩
  have s1 : W1.heap.size = n + 1 := by rw [← hW1]; simp [hn]
  have s2 : W2.heap.size = n + 1 + 1 := by rw [← hW2]; simp [s1]
  have s3 : W3.heap.size = n + 1 + 1 + 1 := by rw [← hW3]; simp [s2]
  have s4 : W4.heap.size = n + 1 + 1 + 1 + 1 := by rw [← hW4]; simp [s3]
  have b1 : Below w.heap.size w W1 := by rw [← hW1]; exact below_newZ _ _
  have b2 : Below W1.heap.size W1 W2 := by rw [← hW2]; exact below_newZ _ _
  have b3 : Below W2.heap.size W2 W3 := by rw [← hW3]; exact below_newZ _ _
  have b4 : Below W3.heap.size W3 W4 := by rw [← hW4]; exact below_newZ _ _
  have r1 : Row W1 n 40 16 (vf f) := by rw [← hW1, ← hn]; exact Row.new _ _ _ _
  have r3 : Row W3 n 40 16 (vf f) := (r1.of_below b2).of_below b3
  have p2 : W2.cell? ⟨n + 1, 0, none⟩ = some (.pointer (some a)) := by rw [← hW2, ← s1]; exact World.cell?_alloc_new _ _ _ _
  have p3 : W3.cell? ⟨n + 1, 0, none⟩ = some (.pointer (some a)) := by rw [b3.cell (by show n + 1 < _; omega)]; exact p2
  obtain ⟨c3, f3⟩ := new_cZ W2 (.int .i64 0) 3
  rw [hW3, s2] at c3 f3
  have b34 := b4
  rw [s3] at b34
  have hInv0 : InvP1 w n f a [] W4 := (show InvP1 w n f a [] W3 from ⟨c3, f3, ⟨r3, p3⟩, by rw [← hn]; exact (b1.trans (b2.mono b1.size)).trans (b3.mono (b1.trans (b2.mono b1.size)).size)⟩).of_below (by omega) b34
  have r4 : Row W4 (n + 1 + 1 + 1) 40 16 (vf f) := by rw [← hW4, ← s3]; exact Row.new _ _ _ _
  have HSQ1 := Lib.hid (nonzero_seq 6 (by decide) (n + 1 + 1 + 1) f W4 r4)
  have HI0 := Lib.hid hInv0
  have l1 : (ldT 40 (.pointer (some ⟨w.heap.size, 0, none⟩))).run Tryz.prog (((w.alloc (.cells (tab 16 (vf f)) 40)).alloc (.cells #[.pointer (some a)] 221)).alloc (.cells #[.int .i64 0] 3)) = .ok (.value (vcV f)) (((w.alloc (.cells (tab 16 (vf f)) 40)).alloc (.cells #[.pointer (some a)] 221)).alloc (.cells #[.int .i64 0] 3)) := by
    rw [hW1, hW2, hW3, hn]
    exact loadVT vtV (VecAt.of_row r3 (Nat.le_refl _))
  have HW := Lib.hid (show WrP N w a g l from h)
  have HLIE := Lib.hid hlie
  have HF := Lib.hid hf
  clear h hlie hf r1 r3 p2 p3 c3 f3 b34 hInv0 r4 b1 b2 b3 b4
  have HEQ := Lib.hid (And.intro hW1 (And.intro hW2 (And.intro hW3 hW4)))
  have HS := Lib.hid (And.intro s1 (And.intro s2 (And.intro s3 s4)))
  have HN := Lib.hid hn
  clear hW1 hW2 hW3 hW4 s1 s2 s3 s4 hn
  gi_wp2_with (refine ⟨trivial, ?_⟩; gi_at_call 228; refine (callsIn_wide.2 (nonzero_any f _)).mono ?_; rintro e w' ⟨rfl, rfl⟩)
  clear l1
  rw [HEQ.out.1, HEQ.out.2.1, HEQ.out.2.2.1, HEQ.out.2.2.2]
  try rw [HS.out.2.2.1]
  try rw [HS.out.1]
  try rw [HS.out.2.1]
  try rw [HN.out]
  have s4 := HS.out.2.2.2
  refine range_pure (m := 7) (by decide) (gf := 269) (lb := #[.pointer (some ⟨n + 1 + 1 + 1, 0, none⟩)]) (by rfl) (enters_of Tryz.func269 (by kernel_rfl) rfl)
    (encs := fun i : Nat => #[.int .i64 (i : Int), .int .i64 (f i)]) (fun _ => rfl) (b := n + 1 + 1 + 1) (by omega) HSQ1.out
    (InvP1 w n f a) (fun _ _ => False) (InvP1.bears w n _ f a (by omega)) (fun _ _ _ _ h => h) HI0.out
    (fun i => { tmps := #[vcV f, .pointer (some a), .pointer (some ⟨n, 0, none⟩), .pointer (some ⟨n + 1, 0, none⟩), .pointer (some ⟨n + 1 + 1, 0, none⟩), undef, undef, vcV f, .func (.func 269) #[] #[.pointer (some ⟨n + 1 + 1 + 1, 0, none⟩)], .int .i64 (i : Int), .int .i64 (f i), undef, undef, undef, undef, undef, undef, undef, undef, undef, undef, undef, undef, undef, undef, undef], defers := [] }) ?assign ?body ?done ?stop
  case assign =>
    intro L x A K hK
    go_simp
    gi_wp2
    exact hK
  case body =>
    rintro L pre i A hpx hNA ⟨hc, hfz, hbx, hB⟩
    have hlen : pre.length < 16 := by
      obtain ⟨t, e⟩ := hpx
      have h1 := congrArg List.length e
      rw [nzV_len] at h1
      have h2 := cntV_le f 16
      simp only [List.length_append, List.length_cons, List.length_nil] at h1
      omega
    have hw1 := i64v pre.length hlen
    have HBX := Lib.hid hbx
    have HB := Lib.hid hB
    have HC := Lib.hid (And.intro hc hfz)
    clear hbx hB hpx
    gi_wp2
    refine ⟨KeepsOthers.setCell _ _ _, Below.heap_setCell _ _ _ _ (show n + 1 + 1 + 1 ≠ n + 1 + 1 by omega), ?_, by rw [World.frozen?_setCell]; exact HC.out.2, HBX.out.keep (Below.heap_setCell _ _ _ _ (show n ≠ n + 1 + 1 by omega)) (Below.heap_setCell _ _ _ _ (show n + 1 ≠ n + 1 + 1 by omega)), HB.out.setCell (show n ≤ (⟨n + 1 + 1, 0, none⟩ : Addr).block by show n ≤ n + 1 + 1; omega) _⟩
    rw [World.cell?_setCell_same _ _ _ HC.out.1]
    rw [List.length_append]
    simp
  case done =>
    rintro D A hD ⟨hc, hfz, hbx, hB⟩ hK
    rw [s4] at hD
    subst hD
    have l2 := loadVT vtV (VecAt.of_row hbx.row (Nat.le_refl _))
    have x1 := hbx.ptr
    rw [nzV_len] at hc
    obtain ⟨C, hC⟩ : ∃ C, cntV f 16 = C := ⟨_, rfl⟩
    rw [hC] at hc
    have hC16 : C ≤ 16 := by rw [← hC]; exact cntV_le f 16
    have HCE := Lib.hid hC
    have hab : a.block < n := by rw [← HN.out]; exact HLIE.out.2.1
    have hgb : ∀ k, g = some k → k < n := fun k hk => by rw [← HN.out]; exact (HLIE.out.2.2 k hk).2.1
    have hB' : Below w.heap.size w A := by rw [HN.out]; exact hB
    have hWA : WrP N A a g l := wrP_stay _ _ _ _ _ _ HW.out hB'.size (hB'.block _ HLIE.out.2.1) (fun k hk => hB'.block _ (HLIE.out.2.2 k hk).2.1)
    have HNC := Lib.hid (wrP_number N A a g l C hWA (by omega) (by omega))
    have hDlt := (Array.getElem?_eq_some_iff.1 hK).1
    have hA4 : n + 1 + 1 + 1 + 1 < A.heap.size := by omega
    have HBX := Lib.hid hbx
    have HB := Lib.hid hB
    have HKD := Lib.hid hK
    have HWA := Lib.hid hWA
    clear hbx hB hB' hK hWA hC
    gi_wp2_with (first | (refine ⟨trivial, ?_⟩; gi_at_call 77; refine (callsIn_wide.2 HNC.out).mono ?_; rintro e w5 ⟨rfl, hP5⟩
                          obtain ⟨g5, hW5, hg5, hK5⟩ := hP5
                          have hkn : w5.heap[n]? = A.heap[n]? := hK5.block n (by omega) (by omega) (fun e => by have := hgb n e; omega)
                          have hkn1 : w5.heap[n + 1]? = A.heap[n + 1]? := hK5.block (n + 1) (by omega) (by omega) (fun e => by have := hgb (n + 1) e; omega)
                          have HD5 := Lib.hid (show w5.heap[n + 1 + 1 + 1 + 1]? = some (.deferred (some [])) from (hK5.block (n + 1 + 1 + 1 + 1) hDlt (by omega) (fun e => by have := hgb (n + 1 + 1 + 1 + 1) e; omega)).trans HKD.out)
                          have HBX5 := Lib.hid (HBX.out.keep hkn hkn1)
                          have l3 := loadVT vtV (VecAt.of_row HBX5.out.row (Nat.le_refl _))
                          have x3 := HBX5.out.ptr
                          have HP5 := Lib.hid (And.intro hW5 (And.intro hg5 hK5))
                          clear hW5 hg5 hK5 hkn hkn1)
                       | (refine ⟨trivial, ?_⟩; gi_at_call 228; refine (callsIn_wide.2 (nonzero_any f _)).mono ?_; rintro e w' ⟨rfl, rfl⟩))
    clear l2 l3 x1 x3
    have hw5 : n + 1 + 1 + 1 + 1 < w5.heap.size := Nat.lt_of_lt_of_le hA4 HP5.out.2.2.size
    have hB6 : Below w5.heap.size w5 (w5.alloc (.cells (tab 16 (vf f)) 40)) := below_newZ _ _
    have hz6 : (w5.alloc (.cells (tab 16 (vf f)) 40)).heap.size = w5.heap.size + 1 := World.size_alloc _ _
    have HSQ2 := Lib.hid (nonzero_seq 6 (by decide) w5.heap.size f _ (Row.new w5 40 16 (vf f)))
    generalize hW6 : w5.alloc (.cells (tab 16 (vf f)) 40) = W6 at *
    clear hW6
    obtain ⟨B2, hB2⟩ : ∃ B2, w5.heap.size = B2 := ⟨_, rfl⟩
    rw [hB2] at HSQ2 hz6 ⊢
    have hKA : Kq a.block g w A := ⟨HB.out.os, HB.out.tape, HB.out.output, by have := HB.out.size; omega, fun k k1 k2 k3 => HB.out.block k (by rw [HN.out] at k1; exact k1)⟩
    have hInv2 : InvP2 w n W6.heap.size f a N g (l ++ enc7 C) (n + 1 + 1 + 1 + 1) [] W6 := by
      obtain ⟨hW5, hg5, hK5⟩ := HP5.out
      refine ⟨HBX5.out.keep (hB6.block _ (by omega)) (hB6.block _ (by omega)), ⟨by omega, by omega, (hB6.block _ (by omega)).trans HD5.out⟩, Nat.le_refl _, g5, ?_, fun k hk => ?_, ?_⟩
      · show WrP N W6 a g5 (l ++ enc7 C ++ [])
        rw [List.append_nil]
        exact wrP_stay _ _ _ _ _ _ hW5 hB6.size (hB6.block _ (wrP_lie _ _ _ _ _ hW5).2.1) (fun k hk => hB6.block _ ((wrP_lie _ _ _ _ _ hW5).2.2 k hk).2.1)
      · have := ((wrP_lie _ _ _ _ _ hW5).2.2 k hk).2.1
        refine ⟨(hg5 k hk).imp id (fun h => by omega), by omega⟩
      · exact (hKA.trans hK5 (fun i e => .inl e)).trans (Kq.ofBelow hB6 (g := g)) (fun i e => .inl e)
    have HI2 := Lib.hid hInv2
    clear hInv2 hB6 hKA
    refine range_pure (m := 7) (by decide) (gf := 269) (lb := #[.pointer (some ⟨B2, 0, none⟩)]) (by rfl) (enters_of Tryz.func269 (by kernel_rfl) rfl)
      (encs := fun i : Nat => #[.int .i64 (i : Int), .int .i64 (f i)]) (fun _ => rfl) (b := B2) (by omega) HSQ2.out
      (InvP2 w n W6.heap.size f a N g (l ++ enc7 C) (n + 1 + 1 + 1 + 1)) (fun _ _ => False) (InvP2.bears w n _ f a N g _ (n + 1 + 1 + 1 + 1) (by rw [HN.out]; exact Nat.le_refl _) HLIE.out.2.1 (fun k hk => (HLIE.out.2.2 k hk).2.1)) (fun _ _ _ _ h => h) HI2.out
      (fun i => { tmps := #[vcV f, .pointer (some a), .pointer (some ⟨n, 0, none⟩), .pointer (some ⟨n + 1, 0, none⟩), .pointer (some ⟨n + 1 + 1, 0, none⟩), .int .i64 (i : Int), .int .i64 (f i), vcV f, .func (.func 269) #[] #[.pointer (some ⟨n + 1 + 1 + 1, 0, none⟩)], undef, undef, undef, undef, .pointer (some a), .int .i64 (C : Int), .bool true, vcV f, .func (.func 269) #[] #[.pointer (some ⟨B2, 0, none⟩)], .int .i64 (i : Int), .int .i64 (f i), undef, undef, undef, undef, undef, undef], defers := [] }) ?assign2 ?body2 ?done2 ?stop2
    case assign2 =>
      intro L x A K hK
      gi_wp2
      exact hK
    case body2 =>
      rintro L pre i A2 hpx hNA ⟨hbx, ⟨-, hDM, hAD⟩, hMA, g', hW, hg', hKA⟩
      have hmem : i ∈ nzV f 16 := hpx.subset (List.mem_append_right _ (List.mem_singleton.2 rfl))
      obtain ⟨hi16, hfi⟩ := nzV_mem hmem
      have hfb := HF.out i hi16
      have hbl : (bodyL f pre).length ≤ 112 := by
        obtain ⟨t, e⟩ := hpx
        have h1 := congrArg (fun q => (bodyL f q).length) e
        simp only [bodyL_append, List.length_append] at h1
        rw [bodyL_nz] at h1
        have h2 := bodyV_len HF.out 16 (Nat.le_refl _)
        omega
      obtain ⟨m, hm⟩ : ∃ m : Nat, f i = (m : Int) := ⟨(f i).toNat, by omega⟩
      have hm40 : m ≤ 1099511627776 := by omega
      have hel := enc7_len40 hm40
      have hec := enc7_len 0 C (by show C < 128; omega)
      have hei := enc7_len 0 i (by show i < 128; omega)
      have HBO := Lib.hid (show bodyL f (pre ++ [i]) = bodyL f pre ++ (enc7 i ++ enc7 m) from by
        rw [bodyL_append]
        show bodyL f pre ++ (enc7 i ++ enc7 (f i).toNat ++ []) = _
        rw [hm, Int.toNat_natCast, List.append_nil])
      have HN1 := Lib.hid (wrP_number N A2 a g' (l ++ enc7 C ++ bodyL f pre) i hW (by simp only [List.length_append]; omega) (by omega))
      have x1 := hbx.ptr
      have hgn : ∀ k, g' = some k → k ≠ n ∧ k ≠ n + 1 ∧ k ≠ B2 := fun k hk => by
        have h1 := hg' k hk
        refine ⟨?_, ?_, by omega⟩
        · rintro rfl
          rcases h1.1 with h2 | h2
          · have := hgb _ h2; omega
          · omega
        · rintro rfl
          rcases h1.1 with h2 | h2
          · have := hgb _ h2; omega
          · omega
      have HBX2 := Lib.hid hbx
      have HW2 := Lib.hid hW
      have HG2 := Lib.hid (And.intro hg' (And.intro hgn hKA))
      have HAD := Lib.hid hAD
      have hmz : ((m : Nat) : Int) = f i := hm.symm
      clear hbx hW hg' hgn hKA hAD hpx hmem hfi hfb
      rw [hm]
      clear hm hmz
      gi_wp2_with fail
      refine ⟨trivial, (CallsIn.inRound L (callsIn_wide.2 HN1.out)).mono ?_⟩
      rintro e w7 ⟨rfl, hP7⟩
      obtain ⟨g7, hW7, hg7, hK7⟩ := hP7
      have x2 : w7.cell? ⟨n + 1, 0, none⟩ = some (.pointer (some a)) := by
        rw [World.cell?_of_block (w := A2) (hK7.block (n + 1) (by omega) (by omega) (fun e => (HG2.out.2.1 _ e).2.1 rfl))]; exact x1
      have HN2 := Lib.hid (wrP_number N w7 a g7 (l ++ enc7 C ++ bodyL f pre ++ enc7 i) m hW7 (by simp only [List.length_append]; omega) (by omega))
      have HP7 := Lib.hid (And.intro hg7 hK7)
      clear hW7 hg7 hK7 x1
      gi_wp2_with fail
      refine ⟨trivial, (CallsIn.inRound L (callsIn_wide.2 HN2.out)).mono ?_⟩
      rintro e w8 ⟨rfl, hP8⟩
      have hP9 := WrPost.trans (g := g') HP7.out.1 HP7.out.2 hP8
      have HP9 := Lib.hid hP9
      clear hP8 hP9 x2
      gi_wp2
      obtain ⟨g8, hW8, hg8, hK8⟩ := HP9.out
      have hko := hK8.others HW2.out
      refine ⟨hko, hK8.block B2 (by omega) (by omega) (fun e => (HG2.out.2.1 _ e).2.2 rfl), HBX2.out.keep (hK8.block n (by omega) (by omega) (fun e => (HG2.out.2.1 _ e).1 rfl)) (hK8.block (n + 1) (by omega) (by omega) (fun e => (HG2.out.2.1 _ e).2.1 rfl)), ⟨by omega, hDM, hko.same _ _ HAD.out rfl⟩, Nat.le_trans hMA hK8.size, g8, ?_, fun k hk => ?_, ?_⟩
      · rw [HBO.out]
        have e : l ++ enc7 C ++ (bodyL f pre ++ (enc7 i ++ enc7 m)) = l ++ enc7 C ++ bodyL f pre ++ enc7 i ++ enc7 m := by simp only [List.append_assoc]
        rw [e]
        exact hW8
      · rcases hg8 k hk with h1 | h1
        · exact HG2.out.1 k h1
        · exact ⟨.inr (by omega), by omega⟩
      · exact HG2.out.2.2.trans hK8 (fun k hk => (HG2.out.1 k hk).1.imp id (fun h => by rw [HN.out]; omega))
    case done2 =>
      rintro D2 A2 hD2 ⟨hbx, ⟨-, hDM, hAD⟩, hMA, g', hW, hg', hKA⟩ hK2
      have HW2 := Lib.hid hW
      have HG2 := Lib.hid (And.intro hg' hKA)
      rw [bodyL_nz] at HW2
      clear hW hg' hKA hbx
      gi_wp2
      refine ⟨by simp, .inl ⟨_, _, rfl, run_takeDeferred hK2, ?_⟩⟩
      have hD2l := (Array.getElem?_eq_some_iff.1 hK2).1
      have hAD2 : (A2.putObj D2 (.deferred none)).heap[n + 1 + 1 + 1 + 1]? = some (.deferred (some [])) := (World.putObj_heap_other (by omega)).trans hAD
      refine ⟨by simp, .inl ⟨_, _, rfl, run_takeDeferred hAD2, ?_⟩⟩
      have hDl := (Array.getElem?_eq_some_iff.1 hAD2).1
      have hkeep : ∀ k, k ≠ D2 → k ≠ n + 1 + 1 + 1 + 1 → ((A2.putObj D2 (.deferred none)).putObj (n + 1 + 1 + 1 + 1) (.deferred none)).heap[k]? = A2.heap[k]? := fun k k1 k2 => (World.putObj_heap_other (by omega)).trans (World.putObj_heap_other (by omega))
      have hbp := (below_putP (N := 0) (.deferred none) (Nat.zero_le _) hD2l).trans (below_putP (N := 0) (.deferred none) (Nat.zero_le _) hDl)
      have hgk : ∀ k, g' = some k → k ≠ n + 1 + 1 + 1 + 1 := fun k hk e => by
        obtain ⟨b, v, hb, h1, h2, h3, h4, h5, h6⟩ := HW2.out
        rcases h4.2 with ⟨hv, _⟩ | ⟨g2, cap, cur, hv, _, hg2, _⟩
        · rw [← h5, hv] at hk; cases hk
        · have : g2 = k := by rw [← h5, hv] at hk; injection hk
          subst this
          rw [e, hAD] at hg2
          cases hg2
      refine ⟨.tuple #[], ?_, rfl, g', ?_, fun k hk => (HG2.out.1 k hk).1.imp id (fun h => by rw [HN.out]; omega), ?_⟩
      · simp [results, Tryz.f195, go_sem]
      · have e : l ++ encV f = l ++ enc7 C ++ bodyV f 16 := by unfold encV; rw [HCE.out, List.append_assoc]
        rw [e]
        exact wrP_stay _ _ _ _ _ _ HW2.out hbp.size (hkeep _ (by omega) (by omega)) (fun k hk => hkeep k (by have := (HG2.out.1 k hk).2; omega) (hgk k hk))
      · exact ⟨hbp.os.trans HG2.out.2.os, hbp.tape.trans HG2.out.2.tape, hbp.output.trans HG2.out.2.output, Nat.le_trans HG2.out.2.size hbp.size, fun k k1 k2 k3 => (hkeep k (by rw [HN.out] at k1; omega) (by rw [HN.out] at k1; omega)).trans (HG2.out.2.block k k1 k2 k3)⟩
    case stop2 =>
      rintro D pre A hD hpre hF hK
      exact hF.elim
  case stop =>
    rintro D pre A hD hpre hF hK
    exact hF.elim
end Go.Proofs.YtnmopjefjpifoaaGreatDoor
