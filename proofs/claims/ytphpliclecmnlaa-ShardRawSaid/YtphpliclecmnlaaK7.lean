/- Merged texts: Where, AskJ, Puts, DecM, RecM, RecP, SubP. -/
import Derived.Lib.Walk
import Derived.Shelf.Abstract
import Derived.Deep.LoopGhost
import Derived.Test.YtphpliclecmnlaaK6
import Derived.Deep.QuietTactic
import Derived.BigQuiet
import Derived.Test.YtphpliclecmnlaaK3
import Derived.Test.YtphpliclecmnlaaK5
import Derived.StillTailTactics
set_option linter.unusedSimpArgs false
set_option linter.unusedVariables false
/- The program's where: the numbers at which a predicate holds. -/
namespace Go.Proofs.Ytphpliclecmnlaa
open Go Go.RowKit

/-- The numbers below n at which f holds, in order. -/
def pick (f : Nat → Bool) (n : Nat) : List Nat := (List.range n).filter f
theorem pick_yes {f : Nat → Bool} {n : Nat} (h : f n = true) : pick f (n + 1) = pick f n ++ [n] := by simp [pick, List.range_succ, List.filter_append, h]
theorem pick_no {f : Nat → Bool} {n : Nat} (h : f n = false) : pick f (n + 1) = pick f n := by simp [pick, List.range_succ, List.filter_append, h]
theorem pick_len (f : Nat → Bool) (n : Nat) : (pick f n).length ≤ n := by
  have := List.length_filter_le f (List.range n)
  rwa [List.length_range] at this
theorem pick_mem {f : Nat → Bool} {n i : Nat} : i ∈ pick f n ↔ i < n ∧ f i = true := by simp [pick, List.mem_filter]
theorem getD_mem (l : List Nat) (i : Nat) (h : i < l.length) : l.getD i 0 ∈ l := by
  rw [List.getD_eq_getElem?_getD, List.getElem?_eq_getElem h]
  exact List.getElem_mem h
theorem pick_at {f : Nat → Bool} {n : Nat} (i : Nat) (h : i < (pick f n).length) : (pick f n).getD i 0 < n ∧ f ((pick f n).getD i 0) = true := pick_mem.1 (getD_mem _ _ h)
theorem pick_inj (f : Nat → Bool) (n i j : Nat) (hi : i < (pick f n).length) (hj : j < (pick f n).length) (h : (pick f n).getD i 0 = (pick f n).getD j 0) : i = j := by
  have hd : (pick f n).Nodup := List.nodup_range.filter _
  rw [List.getD_eq_getElem?_getD, List.getD_eq_getElem?_getD, List.getElem?_eq_getElem hi, List.getElem?_eq_getElem hj] at h
  simp only [Option.getD_some] at h
  exact (List.getElem_inj hd).1 h
theorem pick_find {f : Nat → Bool} {n i : Nat} (hi : i < n) (h : f i = true) : ∃ t, t < (pick f n).length ∧ (pick f n).getD t 0 = i := by
  obtain ⟨t, ht, e⟩ := List.getElem_of_mem (pick_mem.2 ⟨hi, h⟩)
  exact ⟨t, ht, by rw [List.getD_eq_getElem?_getD, List.getElem?_eq_getElem ht]; exact e⟩
/-- What such a slice reads as. -/
theorem OwnI.shape {w : World} {base : Nat} {v : Value} {l : List Nat} (h : OwnI w base v l) : ∃ p cap, v = .slice p l.length cap ∧ l.length ≤ cap ∧ (l ≠ [] → ∃ g, p = some ⟨g, 0, none⟩ ∧ g < w.heap.size ∧ ∀ j, j < l.length → w.cell? ⟨g, j, none⟩ = some (.int .i64 ((l.getD j 0 : Nat) : Int))) := by
  rcases h.2 with ⟨hv, hl⟩ | ⟨g, cap, cur, hv, _, hg, hle, _, hsz, ht⟩
  · refine ⟨none, 0, by rw [hv, hl], by omega, fun hne => ?_⟩
    exact absurd (List.eq_nil_of_length_eq_zero hl) hne
  · refine ⟨some ⟨g, 0, none⟩, cap, hv, hle, fun _ => ⟨g, rfl, ?_, fun j hj => ?_⟩⟩
    · exact (h.lt g (by rw [hv]; rfl)).2
    · rw [cell_of_row w g j cur 3 (0, 0) hg]
      have h1 : (cur.toList.take (l.length * 1))[j]? = (l.map vI)[j]? := by rw [ht]
      rw [List.getElem?_take, if_pos (by omega)] at h1
      simpa [hj, vI] using h1
/-- A predicate that is asked, wherever nothing that was there has changed. -/
def AskI (g : Nat) (lb : Array Value) (n : Nat) (f : Nat → Bool) (w : World) : Prop :=
  ∀ i, i < n → ∀ w', Below w.heap.size w w' → Calls Try.prog g (#[.int .i64 (i : Int)] ++ lb) w' fun e w'' => e = .returned (.bool (f i)) ∧ w' = w''
attribute [local go_sem ↓] exec_bs
attribute [local go_sem] bs1I
set_option maxHeartbeats 4000000 in
theorem where_any (g : Nat) (lb : Array Value) (eg : ∀ args w, (callFunc g args).run Try.prog w = .ok (.enter g args) w) (n : Nat) (f : Nat → Bool) (w : World) (hp : AskI g lb n f w) (hn : n < 1000) :
    Calls Try.prog 33 #[.int .i64 (n : Int), .func (.func g) #[] lb] w fun e w' => ∃ v, e = .returned v ∧ OwnI w' w.heap.size v (pick f n) ∧ Below w.heap.size w w' := by
  have HP := Lib.hid hp
  clear hp
  go_enter Try.func33, Try.ntmps33
  go_wp2
  generalize hN : w.heap.size = N at *
  have HN := Lib.hid hN
  clear hN
  go_loopw [5, 6, 8] (fun v _ i wr => ∃ k : Nat, k ≤ n ∧ i = .int .i64 k ∧ OwnI wr N v (pick f k) ∧ Below N w wr) (fun _ _ i _ => n - (intOf i).toNat)
  case atStart => exact ⟨0, Nat.zero_le _, rfl, OwnI.nil w N, Below.refl _ _⟩
  case round =>
    obtain ⟨k, hk, rfl, hO, hB⟩ := hrel
    have hNle : N ≤ wr.heap.size := by have := hB.size; have := HN.out; omega
    have HO := Lib.hid hO
    have HB := Lib.hid hB
    obtain ⟨pv, cv, hv, -, -⟩ := hO.shape
    obtain ⟨len, hlen⟩ : ∃ len, len = (pick f k).length := ⟨_, rfl⟩
    have hlk : len ≤ k := by rw [hlen]; exact pick_len f k
    rw [← hlen] at hv
    subst hv
    have HLEN := Lib.hid hlen
    clear hO hB hlen
    by_cases hlt : k < n
    · have hltz : (k : Int) < (n : Int) := by omega
      have hd0 : decide ((k : Int) < (n : Int)) = true := decide_eq_true hltz
      have hcall := HP.out k hlt wr (by rw [HN.out]; exact HB.out)
      have HYES := Lib.hid (fun h : f k = true => pick_yes h)
      have HNO := Lib.hid (fun h : f k = false => pick_no h)
      cases hf : f k with
      | true =>
        rw [hf] at hcall
        have HC := Lib.hid hcall
        have HF := Lib.hid hf
        clear hcall hf
        have hB1 : Below wr.heap.size wr (wr.alloc (.cells #[.int .i64 (k : Int)] 3)) := (Below.refl _ _).alloc (Nat.le_refl _) _
        have HO1 := Lib.hid (HO.out.of_below hB1)
        have HB1 := Lib.hid (HB.out.trans (hB1.mono hNle))
        have hN1 : N ≤ (wr.alloc (.cells #[.int .i64 (k : Int)] 3)).heap.size := Nat.le_trans hNle hB1.size
        have HX1 := Lib.hid (show (wr.alloc (.cells #[.int .i64 (k : Int)] 3)).cell? ⟨wr.heap.size, 0, none⟩ = some (.int .i64 (k : Int)) by rw [World.cell?_alloc_new]; rfl)
        clear hB1
        go_wp2_with fail
        refine HC.out.mono ?_
        rintro e w' ⟨rfl, rfl⟩
        go_wp2_with (first | (refine wpl_pushI _ rfl (.tmp 14) (.tmp 16) rfl N (.slice pv len cv) (pick f k) rfl HO1.out ⟨wr.heap.size, 0, none⟩ rfl k HX1.out len HLEN.out.symm (by omega) hN1 ?_; rintro g7 d7 w7 hO7 hg7 ho7; have HO7 := Lib.hid hO7; have HB7 := Lib.hid (HB1.out.grown hg7 hN1 (fun g hg => (HO1.out.lt g hg).1)); clear hO7 hg7 ho7))
        go_roundw
        case rel => exact ⟨k + 1, by omega, by go_num, by rw [HYES.out HF.out]; exact HO7.out, HB7.out⟩
        case measure => simp [intOf]; omega
      | false =>
        rw [hf] at hcall
        have HC := Lib.hid hcall
        have HF := Lib.hid hf
        clear hcall hf
        go_wp2_with fail
        refine HC.out.mono ?_
        rintro e w' ⟨rfl, rfl⟩
        go_wp2
        go_roundw
        case rel => exact ⟨k + 1, by omega, by go_num, by rw [HNO.out HF.out]; exact HO.out, HB.out⟩
        case measure => simp [intOf]; omega
    · have hd0 : decide ((k : Int) < (n : Int)) = false := decide_eq_false (by omega)
      obtain rfl : k = n := by omega
      go_wp2
      go_ret
      refine ⟨_, rfl, ?_, ?_⟩
      · rw [HN.out]; exact HO.out
      · rw [HN.out]; exact HB.out
end Go.Proofs.Ytphpliclecmnlaa
/- Predicates of numbers that the program asks: of lists of numbers, of the shards that are there. -/
namespace Go.Proofs.Ytphpliclecmnlaa
open Go Go.RowKit

/-- The ints that lie where a slice of their number begins. -/
def Il (w : World) (q : Option Addr) (l : List Nat) : Prop := ∀ j, j < l.length → ∃ g, q = some ⟨g, 0, none⟩ ∧ g < w.heap.size ∧ w.cell? ⟨g, j, none⟩ = some (.int .i64 ((l.getD j 0 : Nat) : Int))
theorem Il.of_below {w w' : World} {q : Option Addr} {l : List Nat} (h : Il w q l) (k : Below w.heap.size w w') : Il w' q l := fun j hj => by
  obtain ⟨g, e, hg, hc⟩ := h j hj
  exact ⟨g, e, Nat.lt_of_lt_of_le hg k.size, by rw [k.cell (by exact hg)]; exact hc⟩
theorem Il.dr {w w' : World} {q : Option Addr} {l : List Nat} (h : Il w q l) (k : Dr w w') : Il w' q l := h.of_below (k.below _)
theorem Il.take {w : World} {q : Option Addr} {l : List Nat} (h : Il w q l) (k : Nat) : Il w q (l.take k) := fun j hj => by
  have hj' : j < k ∧ j < l.length := by simp [List.length_take] at hj; omega
  obtain ⟨g, e, hg, hc⟩ := h j hj'.2
  refine ⟨g, e, hg, ?_⟩
  rw [hc]
  simp [List.getD_eq_getElem?_getD, hj'.1]
theorem OwnI.il {w : World} {base : Nat} {v : Value} {l : List Nat} (h : OwnI w base v l) : ∃ p cap, v = .slice p l.length cap ∧ Il w p l ∧ l.length ≤ cap := by
  obtain ⟨p, cap, h1, h2, h3⟩ := h.shape
  refine ⟨p, cap, h1, fun j hj => ?_, h2⟩
  obtain ⟨g, e, hg, hc⟩ := h3 (fun e => by rw [e] at hj; simp at hj)
  exact ⟨g, e, hg, hc j hj⟩
/-- A predicate of ints: asked of the ints that are listed, at this world but for draws. -/
def AsksI (g : Nat) (lb : Array Value) (l : List Nat) (f : Nat → Bool) (w : World) : Prop :=
  ∀ j, j < l.length → ∀ w', Dr w w' → Calls Try.prog g (#[.int .i64 ((l.getD j 0 : Nat) : Int)] ++ lb) w' fun e w'' => e = .returned (.bool (f j)) ∧ Dr w' w''
section
variable (g : Nat) (lb : Array Value) (eg : ∀ args w, (callFunc g args).run Try.prog w = .ok (.enter g args) w) (l : List Nat) (f : Nat → Bool) (p : Option Addr) (n cap : Nat) (w : World) (hp : AsksI g lb l f w) (hs : Il w p l) (hl : l.length = n) (hn : n < 4294967296)
include eg hp hs hl hn
set_option maxHeartbeats 2000000 in
theorem indexI_hit (t : Nat) (ht : Hit f n t) : Calls Try.prog 47 #[.slice p n cap, .func (.func g) #[] lb] w fun e w' => e = .returned (.int .i64 (t : Int)) ∧ Dr w w' := by
  have HP := Lib.hid hp
  have HS := Lib.hid hs
  have HL := Lib.hid hl
  have HT := Lib.hid ht
  clear hp hs hl ht
  go_enter Try.func47, Try.ntmps47
  go_wp2
  go_loopw [5, 8] (fun _ i wr => ∃ k : Nat, k ≤ t ∧ i = .int .i64 k ∧ Dr w wr) (fun _ i _ => n - (intOf i).toNat)
  case atStart => exact ⟨0, Nat.zero_le _, rfl, Dr.refl _⟩
  case round =>
    obtain ⟨k, hk, rfl, hD⟩ := hrel
    have HD := Lib.hid hD
    clear hD
    have htn := HT.out.1
    have hlt : k < n := by omega
    have hltz : (k : Int) < (n : Int) := by omega
    have hd0 : decide ((k : Int) < (n : Int)) = true := decide_eq_true hltz
    obtain ⟨c, rfl, -, hc⟩ := (HS.out.dr HD.out) k (by rw [HL.out]; exact hlt)
    have hcall := HP.out k (by rw [HL.out]; exact hlt) wr HD.out
    generalize l.getD k 0 = u at *
    by_cases he : k = t
    · rw [show f k = true by rw [he]; exact HT.out.2.1] at hcall
      have HE := Lib.hid he
      clear he
      have HC := Lib.hid hcall
      clear hcall
      go_wp2_with fail
      refine HC.out.mono ?_
      rintro e w' ⟨rfl, hD'⟩
      have HD2 := Lib.hid (HD.out.trans hD')
      clear hD'
      go_wp2
      go_ret
      exact ⟨by rw [← HE.out]; rfl, HD2.out⟩
    · rw [show f k = false from HT.out.2.2 k (by omega)] at hcall
      have HC := Lib.hid hcall
      clear hcall
      go_wp2_with fail
      refine HC.out.mono ?_
      rintro e w' ⟨rfl, hD'⟩
      have HD2 := Lib.hid (HD.out.trans hD')
      clear hD'
      go_wp2
      go_roundw
      case rel => exact ⟨k + 1, by omega, by go_num, HD2.out⟩
      case measure => simp [intOf]; omega
set_option maxHeartbeats 2000000 in
theorem indexI_miss (ht : Miss f n) : Calls Try.prog 47 #[.slice p n cap, .func (.func g) #[] lb] w fun e w' => e = .returned (.int .i64 (-1)) ∧ Dr w w' := by
  have HP := Lib.hid hp
  have HS := Lib.hid hs
  have HL := Lib.hid hl
  have HT := Lib.hid ht
  clear hp hs hl ht
  go_enter Try.func47, Try.ntmps47
  go_wp2
  go_loopw [5, 8] (fun _ i wr => ∃ k : Nat, k ≤ n ∧ i = .int .i64 k ∧ Dr w wr) (fun _ i _ => n - (intOf i).toNat)
  case atStart => exact ⟨0, Nat.zero_le _, rfl, Dr.refl _⟩
  case round =>
    obtain ⟨k, hk, rfl, hD⟩ := hrel
    have HD := Lib.hid hD
    clear hD
    by_cases hlt : k < n
    · have hltz : (k : Int) < (n : Int) := by omega
      have hd0 : decide ((k : Int) < (n : Int)) = true := decide_eq_true hltz
      obtain ⟨c, rfl, -, hc⟩ := (HS.out.dr HD.out) k (by rw [HL.out]; exact hlt)
      have hcall := HP.out k (by rw [HL.out]; exact hlt) wr HD.out
      generalize l.getD k 0 = u at *
      rw [show f k = false from HT.out k hlt] at hcall
      have HC := Lib.hid hcall
      clear hcall
      go_wp2_with fail
      refine HC.out.mono ?_
      rintro e w' ⟨rfl, hD'⟩
      have HD2 := Lib.hid (HD.out.trans hD')
      clear hD'
      go_wp2
      go_roundw
      case rel => exact ⟨k + 1, by omega, by go_num, HD2.out⟩
      case measure => simp [intOf]; omega
    · have hd0 : decide ((k : Int) < (n : Int)) = false := decide_eq_false (by omega)
      go_wp2
      go_ret
      exact ⟨rfl, HD.out⟩
theorem containsI_hit (t : Nat) (ht : Hit f n t) : Calls Try.prog 35 #[.slice p n cap, .func (.func g) #[] lb] w fun e w' => e = .returned (.bool true) ∧ Dr w w' := by
  have HC := Lib.hid (indexI_hit g lb eg l f p n cap w hp hs hl hn t ht)
  clear hp hs hl ht
  go_enter Try.func35, Try.ntmps35
  go_wp2_with fail
  refine HC.out.mono ?_
  rintro e w' ⟨rfl, hD⟩
  have HD := Lib.hid hD
  clear hD
  have hd : decide ((0 : Int) ≤ (t : Int)) = true := decide_eq_true (by omega)
  go_wp2
  go_ret
  exact ⟨rfl, HD.out⟩
theorem containsI_miss (ht : Miss f n) : Calls Try.prog 35 #[.slice p n cap, .func (.func g) #[] lb] w fun e w' => e = .returned (.bool false) ∧ Dr w w' := by
  have HC := Lib.hid (indexI_miss g lb eg l f p n cap w hp hs hl (by omega) ht)
  clear hp hs hl ht
  go_enter Try.func35, Try.ntmps35
  go_wp2_with fail
  refine HC.out.mono ?_
  rintro e w' ⟨rfl, hD⟩
  have HD := Lib.hid hD
  clear hD
  go_wp2
  go_ret
  exact ⟨rfl, HD.out⟩
end
theorem Bl.of_below {w w' : World} {q : Option Addr} {th : List Bool} (h : Bl w q th) (k : Below w.heap.size w w') : Bl w' q th := fun j hj => by
  obtain ⟨c, o, e, hc⟩ := h j hj
  exact ⟨c, o, e, by rw [k.cell (World.block_lt_of_cell? w _ hc)]; exact hc⟩
theorem Bl.dr {w w' : World} {q : Option Addr} {th : List Bool} (h : Bl w q th) (k : Dr w w') : Bl w' q th := h.of_below (k.below _)
theorem enters_D1 : ∀ args w, (callFunc 34 args).run Try.prog w = .ok (.enter 34 args) w := enters_of Try.func34 (by kernel_rfl) rfl
theorem enters_D2 : ∀ args w, (callFunc 36 args).run Try.prog w = .ok (.enter 36 args) w := enters_of Try.func36 (by kernel_rfl) rfl
theorem enters_R1 : ∀ args w, (callFunc 48 args).run Try.prog w = .ok (.enter 48 args) w := enters_of Try.func48 (by kernel_rfl) rfl
theorem enters_R2 : ∀ args w, (callFunc 49 args).run Try.prog w = .ok (.enter 49 args) w := enters_of Try.func49 (by kernel_rfl) rfl
theorem enters_P1 : ∀ args w, (callFunc 53 args).run Try.prog w = .ok (.enter 53 args) w := enters_of Try.func53 (by kernel_rfl) rfl
section
variable (E K i k l cap : Nat) (q : Option Addr) (th : List Bool) (w : World) (hx : w.cell? ⟨E, 0, none⟩ = some (.slice q l cap)) (hb : Bl w q th) (hl : th.length = l)
include hx hb hl
theorem d1_any (hi : i < l) : Calls Try.prog 34 #[.int .i64 (i : Int), .pointer (some ⟨E, 0, none⟩)] w fun e w' => e = .returned (.bool (th.getD i false)) ∧ w = w' := by
  obtain ⟨c, o, rfl, hc⟩ := hb i (by omega)
  have h1 : (i : Int) < (l : Int) := by omega
  generalize th.getD i false = x at *
  clear hb hl
  go_enter Try.func34, Try.ntmps34
  go_wp2
  go_ret
  exact ⟨rfl, rfl⟩
theorem r1_any (hi : i < l) : Calls Try.prog 48 #[.int .i64 (i : Int), .pointer (some ⟨E, 0, none⟩)] w fun e w' => e = .returned (.bool (!th.getD i false)) ∧ w = w' := by
  obtain ⟨c, o, rfl, hc⟩ := hb i (by omega)
  have h1 : (i : Int) < (l : Int) := by omega
  generalize th.getD i false = x at *
  clear hb hl
  go_enter Try.func48, Try.ntmps48
  go_wp2
  go_ret
  exact ⟨rfl, rfl⟩
variable (hk : w.cell? ⟨K, 0, none⟩ = some (.int .i64 (k : Int))) (hlb : l < 1000000)
include hk hlb
theorem r2_any (hi : k + i < l) : Calls Try.prog 49 #[.int .i64 (i : Int), .pointer (some ⟨E, 0, none⟩), .pointer (some ⟨K, 0, none⟩)] w fun e w' => e = .returned (.bool (th.getD (k + i) false)) ∧ w = w' := by
  obtain ⟨c, o, rfl, hc⟩ := hb (k + i) (by omega)
  have h1 : (k : Int) + (i : Int) < (l : Int) := by omega
  have h2 : (0 : Int) ≤ (k : Int) + (i : Int) := by omega
  have h3 : ((k : Int) + (i : Int)).toNat = k + i := by omega
  have hw : IntKind.i64.wrap ((k : Int) + (i : Int)) = (k : Int) + (i : Int) := IntWalk.i64_in _ (by omega)
  generalize th.getD (k + i) false = x at *
  clear hb hl
  go_enter Try.func49, Try.ntmps49
  go_wp2
  go_ret
  exact ⟨rfl, rfl⟩
theorem p1_any (hi : k + i < l) : Calls Try.prog 53 #[.int .i64 (i : Int), .pointer (some ⟨E, 0, none⟩), .pointer (some ⟨K, 0, none⟩)] w fun e w' => e = .returned (.bool (!th.getD (k + i) false)) ∧ w = w' := by
  obtain ⟨c, o, rfl, hc⟩ := hb (k + i) (by omega)
  have h1 : (k : Int) + (i : Int) < (l : Int) := by omega
  have h2 : (0 : Int) ≤ (k : Int) + (i : Int) := by omega
  have h3 : ((k : Int) + (i : Int)).toNat = k + i := by omega
  have hw : IntKind.i64.wrap ((k : Int) + (i : Int)) = (k : Int) + (i : Int) := IntWalk.i64_in _ (by omega)
  generalize th.getD (k + i) false = x at *
  clear hb hl
  go_enter Try.func53, Try.ntmps53
  go_wp2
  go_ret
  exact ⟨rfl, rfl⟩
end
set_option maxHeartbeats 1000000 in
theorem d2_any (E1 E2 i l0 n cap ll lc : Nat) (p : Option Addr) (g : Nat) (ls : List (List (BitVec 8))) (w : World) (h1 : w.cell? ⟨E1, 0, none⟩ = some (.slice p n cap)) (hs : Prt w p ls) (hl : ls.length = n) (h2 : w.cell? ⟨E2, 0, none⟩ = some (.slice (some ⟨g, 0, none⟩) ll lc)) (h3 : w.cell? ⟨g, 0, none⟩ = some (.int .i64 (l0 : Int))) (hl0 : l0 < n) (hi : i < n) (hll : 0 < ll) :
    Calls Try.prog 36 #[.int .i64 (i : Int), .pointer (some ⟨E1, 0, none⟩), .pointer (some ⟨E2, 0, none⟩)] w fun e w' => e = .returned (.bool (decide ((ls.getD i []).length ≠ (ls.getD l0 []).length))) ∧ Dr w w' := by
  obtain ⟨c, o, q1, cap1, rfl, -, hc1, -, -, -⟩ := hs.at_ i (by omega)
  obtain ⟨c', o', q2, cap2, e2, -, hc2, -, -, -⟩ := hs.at_ l0 (by omega)
  injection e2 with e2
  injection e2 with e21 e22
  subst e21 e22
  have b1 : (i : Int) < (n : Int) := by omega
  have b2 : (l0 : Int) < (n : Int) := by omega
  have b3 : (0 : Int) < (ll : Int) := by omega
  generalize (ls.getD i []).length = m at *
  generalize (ls.getD l0 []).length = m0 at *
  clear hs hl
  by_cases h : m = m0
  · have hb : ((m : Int) != (m0 : Int)) = false := by simp; omega
    have hf : Hid (decide (m ≠ m0) = false) := decide_eq_false fun e => e h
    clear h
    go_enter Try.func36, Try.ntmps36
    go_wp2
    go_quiet (fail)
    go_wp2
    go_ret
    exact ⟨by rw [hf.out]; rfl, Dr.drewN (Dr.refl _) _⟩
  · have hb : ((m : Int) != (m0 : Int)) = true := by simp; omega
    have hb2 : ((m : Int) == (m0 : Int)) = false := by simp; omega
    have hb3 : decide (m = m0) = false := decide_eq_false h
    have hf : Hid (decide (m ≠ m0) = true) := decide_eq_true h
    clear h
    go_enter Try.func36, Try.ntmps36
    go_wp2
    go_quiet (fail)
    go_wp2
    go_ret
    exact ⟨by rw [hf.out]; rfl, Dr.drewN (Dr.refl _) _⟩
end Go.Proofs.Ytphpliclecmnlaa
/- Rows of a matrix of the call's own replaced, one header after another, by rows of another such matrix. -/
namespace Go.Proofs.Ytphpliclecmnlaa
open Go Go.RowKit

/-- Row tg s is replaced by row sc s of the other, s below t. -/
def putD (D Dp tg sc : Nat → Nat) : Nat → Nat → Nat
  | 0 => D
  | t + 1 => setD (putD D Dp tg sc t) (tg t) (Dp (sc t))
def putX (X P : Mx) (tg sc : Nat → Nat) : Nat → Mx
  | 0 => X
  | t + 1 => setr (putX X P tg sc t) (tg t) (P (sc t))
theorem putD_or (D Dp tg sc : Nat → Nat) (t j : Nat) : putD D Dp tg sc t j = D j ∨ ∃ s, s < t ∧ putD D Dp tg sc t j = Dp (sc s) := by
  induction t with
  | zero => exact .inl rfl
  | succ t ih =>
    show setD _ _ _ j = _ ∨ ∃ s, s < t + 1 ∧ setD _ _ _ j = _
    unfold setD
    by_cases h : j = tg t
    · rw [if_pos h]; exact .inr ⟨t, by omega, rfl⟩
    · rw [if_neg h]
      rcases ih with h1 | ⟨s, h1, h2⟩
      · exact .inl h1
      · exact .inr ⟨s, by omega, h2⟩
theorem putX_no (X P : Mx) (tg sc : Nat → Nat) (t j x : Nat) (h : ∀ s, s < t → tg s ≠ j) : putX X P tg sc t j x = X j x := by
  induction t with
  | zero => rfl
  | succ t ih =>
    show setr _ _ _ j x = _
    unfold setr
    rw [if_neg (fun e => h t (by omega) e.symm)]
    exact ih fun s hs => h s (by omega)
theorem putX_yes (X P : Mx) (tg sc : Nat → Nat) (t s x : Nat) (hs : s < t) (hi : ∀ a b, a < t → b < t → tg a = tg b → a = b) : putX X P tg sc t (tg s) x = P (sc s) x := by
  induction t with
  | zero => omega
  | succ t ih =>
    show setr _ _ _ (tg s) x = _
    unfold setr
    by_cases h : tg s = tg t
    · rw [if_pos h, hi s t hs (by omega) h]
    · rw [if_neg h]
      exact ih (by rcases Nat.lt_or_ge s t with h1 | h1; exact h1; exact absurd (by rw [show s = t by omega]) h) fun a b ha hb => hi a b (by omega) (by omega)
theorem Mp.of_kp {w w' : World} {N G n k m c : Nat} {D : Nat → Nat} {a : Mx} (h : Mp w N G n k m D a) (g : Kp c w w') (h1 : G ≠ c) (h2 : ∀ i, i < k → D i ≠ c) : Mp w' N G n k m D a :=
  ⟨h.hds.of_kp g h1, fun i hi => (h.row i hi).of_kp g (h2 i hi), h.inj, h.ne, h.lo, h.loG⟩
/-- One more header replaced. -/
theorem Mp.puts {w : World} {N G n L Np Gp m' : Nat} {D Dp tg sc : Nat → Nat} {X P : Mx} {t : Nat} (h : Mp w N G n n L (putD D Dp tg sc t) (putX X P tg sc t)) (hp : Mp w Np Gp m' m' L Dp P) (hD : ∀ j, j < n → D j < Np) (hG : G < Np) (hN : N ≤ Np) (ht : tg t < n) (hs : ∀ s, s ≤ t → sc s < m') (hi : ∀ s, s < t → sc s ≠ sc t) :
    Mp (w.setCell ⟨G, tg t, none⟩ (.slice (some ⟨Dp (sc t), 0, none⟩) L L)) N G n n L (putD D Dp tg sc (t + 1)) (putX X P tg sc (t + 1)) := by
  have hlo := hp.lo (sc t) (hs t (Nat.le_refl _))
  refine h.put (tg t) (Dp (sc t)) (P (sc t)) (hp.row _ (hs t (Nat.le_refl _))) n (.inl ⟨rfl, ht⟩) (fun j hj hne => ?_) (by omega) (by omega)
  rcases putD_or D Dp tg sc t j with h1 | ⟨s, h1, h2⟩
  · rw [h1]; have := hD j hj; omega
  · rw [h2]; exact hp.inj _ _ (hs s (by omega)) (hs t (Nat.le_refl _)) (hi s h1)
theorem Il.of_kp {w w' : World} {q : Option Addr} {l : List Nat} {c : Nat} (h : Il w q l) (g : Kp c w w') (hc : ∀ b, q = some ⟨b, 0, none⟩ → b ≠ c) : Il w' q l := fun j hj => by
  obtain ⟨b, e, hb, hx⟩ := h j hj
  exact ⟨b, e, Nat.lt_of_lt_of_le hb g.size, by rw [g.cell (by exact hb) (by exact hc b e)]; exact hx⟩
theorem OwnI.il2 {w : World} {base : Nat} {v : Value} {l : List Nat} (h : OwnI w base v l) : ∃ p cap, v = .slice p l.length cap ∧ Il w p l ∧ l.length ≤ cap ∧ ∀ b, p = some ⟨b, 0, none⟩ → base ≤ b ∧ b < w.heap.size := by
  obtain ⟨p, cap, h1, h2, h3⟩ := h.il
  refine ⟨p, cap, h1, h2, h3, fun b e => h.lt b ?_⟩
  rw [h1, e]; rfl
theorem where_il (g : Nat) (lb : Array Value) (eg : ∀ args w, (callFunc g args).run Try.prog w = .ok (.enter g args) w) (n : Nat) (f : Nat → Bool) (w : World) (hp : AskI g lb n f w) (hn : n < 1000) :
    Calls Try.prog 33 #[.int .i64 (n : Int), .func (.func g) #[] lb] w fun e w' => ∃ p cap len, e = .returned (.slice p len cap) ∧ (pick f n).length = len ∧ len ≤ cap ∧ Il w' p (pick f n) ∧ (∀ b, p = some ⟨b, 0, none⟩ → w.heap.size ≤ b) ∧ Below w.heap.size w w' := by
  refine (where_any g lb eg n f w hp hn).mono ?_
  rintro e w' ⟨v, rfl, hO, hB⟩
  obtain ⟨p, cap, h1, h2, h3, h4⟩ := hO.il2
  exact ⟨p, cap, _, by rw [h1], rfl, h3, h2, fun b e => (h4 b e).1, hB⟩
end Go.Proofs.Ytphpliclecmnlaa
/- What is told from k of all shards; nothing of the program. -/
namespace Go.Proofs.Ytphpliclecmnlaa

/-- Stuck, or inverted. -/
theorem inv_or (n : Nat) (a : Mx) : NoInv n a ∨ ∃ v, IsInv n a v := by
  have key : ∀ c, c ≤ n → NoInv n a ∨ ∃ X, Reach n c a X := by
    intro c
    induction c with
    | zero => exact fun _ => .inr ⟨_, reach_zero n a⟩
    | succ c ih =>
      intro hc
      rcases ih (by omega) with h | ⟨X, hX⟩
      · exact .inl h
      · by_cases h : ∃ q, c ≤ q ∧ q < n ∧ X q c ≠ 0#8
        · obtain ⟨q, h1, h2, h3⟩ := h
          exact .inr ⟨_, hX.next (by omega) h2 h1 h3⟩
        · refine .inl (hX.stuck (by omega) fun i h1 h2 => ?_)
          exact Decidable.byContradiction fun e => h ⟨i, h1, h2, e⟩
  rcases key n (Nat.le_refl _) with h | ⟨X, hX⟩
  · exact .inl h
  · exact .inr ⟨_, hX.done.1⟩
/-- Where a has an inverse, it takes nothing but nothing to nothing. -/
theorem inv_kernel {n : Nat} {a u : Mx} (h : IsInv n a u) (v : Nat → BitVec 8) (hv : ∀ i, i < n → xs n (fun j => gm (a i j) (v j)) = 0#8) (k : Nat) (hk : k < n) : v k = 0#8 := by
  have h1 := mm_assoc n u a (fun j _ => v j) k 0
  have e1 : mm n (mm n u a) (fun j _ => v j) k 0 = v k := by
    rw [mm_congr (a' := id1) (b' := fun j _ => v j) (fun j hj => h.1 k j hk hj) (fun j _ => rfl), mm_id_l n _ k 0 hk]
  have e2 : mm n u (mm n a (fun j _ => v j)) k 0 = 0#8 := xs_zero' fun j hj => by
    show gm (u k j) (xs n (fun l => gm (a j l) (v l))) = 0#8
    rw [hv j hj, gm_zr]
  rw [e1, e2] at h1
  exact h1
/-- All shards of data, by the unit above the Cauchy matrix. -/
theorem full_ext {k m : Nat} {la : List (List (BitVec 8))} (h : evB la k = true) (i x : Nat) (hi : i < k + m) (hx : x < (la.getD 0 []).length) : mx (la ++ parL k m la) i x = mm k (ext k) (mx la) i x := by
  have h1 := (ev_parts h).1
  unfold mx
  by_cases e : i < k
  · rw [ls_left _ _ _ (by omega)]
    have e2 : mm k (ext k) (mx la) i x = mm k id1 (mx la) i x := mm_congr (fun j _ => by unfold ext; rw [if_pos e]) (fun _ _ => rfl)
    show mx la i x = mm k (ext k) (mx la) i x
    rw [e2, mm_id_l k _ i x e]
  · rw [ls_right _ _ _ (by omega), h1]
    have e2 : mm k (ext k) (mx la) i x = mm k (cau k) (mx la) (i - k) x := by
      unfold mm
      exact xs_congr fun j _ => by unfold ext; rw [if_neg e]
    show mx (parL k m la) (i - k) x = mm k (ext k) (mx la) i x
    rw [e2]
    exact rowsL_mx _ _ _ _ _ (by omega) hx
theorem lists_ext {la lb : List (List (BitVec 8))} {n L : Nat} (ha : la.length = n) (hb : lb.length = n) (hla : ∀ i, i < n → (la.getD i []).length = L) (hlb : ∀ i, i < n → (lb.getD i []).length = L) (h : ∀ i x, i < n → x < L → mx la i x = mx lb i x) : la = lb := by
  refine rows_ext (by rw [ha, hb]) fun i hi => ?_
  rw [ha] at hi
  refine List.ext_getElem (by rw [hla i hi, hlb i hi]) fun x h1 h2 => ?_
  have h3 := h i x hi (by rw [← hla i hi]; exact h1)
  unfold mx at h3
  generalize la.getD i [] = r at *
  generalize lb.getD i [] = s at *
  simpa [List.getD_eq_getElem?_getD, h1, h2] using h3
/-- Shards that are all there stay as they are. -/
theorem dec_all {k m : Nat} {ls : List (List (BitVec 8))} {th : List Bool} {out : List (List (BitVec 8))} (hl : ls.length = k + m) (h : DecOk k m ls th out) (ht : ∀ i, i < k + m → th.getD i false = true) : out = ls := by
  obtain ⟨L, h1, h2, h3, D, rl, _, _, _, h4⟩ := h
  exact lists_ext h1 hl h2 (fun i hi => h3 i hi (ht i hi)) fun i x hi hx => by rw [h4 i x hi hx, if_pos (ht i hi)]
/-- Shards that fit together are told as they were, whichever are there. -/
theorem dec_full {k m : Nat} {la ls : List (List (BitVec 8))} {th : List Bool} {out : List (List (BitVec 8))} (hk : 1 ≤ k) (hkm : k + m ≤ 32) (hev : evB la k = true) (h : DecOk k m ls th out) (hth : ∀ i, i < k + m → th.getD i false = true → ls.getD i [] = (la ++ parL k m la).getD i []) : out = la ++ parL k m la := by
  have h1 := (ev_parts hev).1
  obtain ⟨L, o1, o2, o3, D, rl, p1, p2, p3, o4⟩ := h
  have hrl : ∀ t, t < k → rl.getD t 0 < k + m := fun t ht => (p1 t (by omega)).1
  have hL : L = (la.getD 0 []).length := by
    have a1 := hrl 0 (by omega)
    have a2 := (p3 0 (by omega)).1
    have a3 := o3 _ a1 a2
    rw [hth _ a1 a2, all_len hev hk _ a1] at a3
    exact a3.symm
  have hmx : ∀ i x, i < k + m → th.getD i false = true → mx ls i x = mx (la ++ parL k m la) i x := fun i x hi ht => by
    unfold mx; rw [hth i hi ht]
  have hinv : ∃ u, IsInv k (fun i j => ext k (rl.getD i 0) j) u := by
    rcases inv_or k (fun i j => ext k (rl.getD i 0) j) with h | h
    · exact (ext_not k m rl hk (by omega) p1 p2 _ (fun i j _ _ => rfl) h).elim
    · exact h
  obtain ⟨u, hu⟩ := hinv
  have hD : ∀ j x, j < k → x < L → D j x = mx la j x := fun j x hj hx => by
    have hz := inv_kernel hu (fun j => D j x ^^^ mx la j x) (fun t ht => by
      have a1 := hrl t ht
      have a2 := p3 t ht
      have a3 := a2.2 x hx
      rw [hmx _ x a1 a2.1, full_ext hev _ _ a1 (by rw [← hL]; exact hx)] at a3
      have a4 : xs k (fun j => gm (ext k (rl.getD t 0) j) (D j x ^^^ mx la j x)) = xs k (fun j => gm (ext k (rl.getD t 0) j) (D j x) ^^^ gm (ext k (rl.getD t 0) j) (mx la j x)) := xs_congr fun j _ => gm_xor _ _ _
      show xs k (fun j => gm (ext k (rl.getD t 0) j) (D j x ^^^ mx la j x)) = 0#8
      rw [a4, xs_add]
      have a5 : xs k (fun j => gm (ext k (rl.getD t 0) j) (D j x)) = xs k (fun j => gm (ext k (rl.getD t 0) j) (mx la j x)) := a3
      rw [a5, xor_self']) j hj
    exact xor_eq_zero _ _ hz
  refine lists_ext o1 (by rw [List.length_append, parL_length, h1]) o2 (fun i hi => by rw [all_len hev hk i hi, hL]) fun i x hi hx => ?_
  rw [o4 i x hi hx]
  by_cases ht : th.getD i false = true
  · rw [if_pos ht, hmx i x hi ht]
  · rw [if_neg ht, full_ext hev i x hi (by rw [← hL]; exact hx)]
    exact mm_congr (fun _ _ => rfl) fun j hj => hD j x hj hx
/-- The parity of a sum is the sum of the parities. -/
theorem par_sum (k : Nat) (a b s : Mx) (i x : Nat) (h : ∀ j, j < k → s j x = a j x ^^^ b j x) : mm k (cau k) s i x = mm k (cau k) a i x ^^^ mm k (cau k) b i x := by
  unfold mm
  rw [← xs_add]
  exact xs_congr fun j hj => by rw [h j hj, gm_xor]
end Go.Proofs.Ytphpliclecmnlaa
/- What the missing data shards are, told from some rows of the parity; nothing of the program. -/
namespace Go.Proofs.Ytphpliclecmnlaa
open Go Go.RowKit

theorem pick_split (f : Nat → Bool) (k m : Nat) : pick f (k + m) = pick f k ++ (pick (fun i => f (k + i)) m).map (k + ·) := by
  induction m with
  | zero => simp [pick]
  | succ m ih =>
    rw [← Nat.add_assoc]
    cases h : f (k + m) with
    | true => rw [pick_yes h, pick_yes (f := fun i => f (k + i)) h, ih, List.map_append, ← List.append_assoc]; rfl
    | false => rw [pick_no h, pick_no (f := fun i => f (k + i)) h, ih]
theorem pick_both (f : Nat → Bool) (n : Nat) : (pick f n).length + (pick (fun i => !f i) n).length = n := by
  induction n with
  | zero => rfl
  | succ n ih =>
    cases h : f n with
    | true => rw [pick_yes h, pick_no (f := fun i => !f i) (by show (!f n) = false; rw [h]; rfl), List.length_append]; simp; omega
    | false => rw [pick_no h, pick_yes (f := fun i => !f i) (by show (!f n) = true; rw [h]; rfl), List.length_append]; simp; omega
theorem take_at (l : List Nat) (M i : Nat) (h : i < M) : (l.take M).getD i 0 = l.getD i 0 := by simp [List.getD_eq_getElem?_getD, h]
theorem picks_take (f : Nat → Bool) (n M : Nat) : Picks n ((pick f n).take M) := fun i hi => by
  have hi' : i < M ∧ i < (pick f n).length := by simp [List.length_take] at hi; omega
  rw [take_at _ _ _ hi'.1]
  refine ⟨(pick_at i hi'.2).1, fun j hj e => ?_⟩
  rw [take_at _ _ _ (by omega)] at e
  have := pick_inj f n i j hi'.2 (by omega) e
  omega
theorem picks_pick (f : Nat → Bool) (n : Nat) : Picks n (pick f n) := fun i hi => by
  refine ⟨(pick_at i hi).1, fun j hj e => ?_⟩
  have := pick_inj f n i j hi (by omega) e
  omega
/-- The rows told: with them the parity is what was there. -/
theorem rec_sum (k m M L : Nat) (f : Nat → Bool) (X V : Mx) (ul ml : List Nat) (hml : ml = pick (fun i => !f i) k) (hM : ml.length = M) (hz : ∀ i x, i < k → f i = false → x < L → X i x = 0#8)
    (hV : IsInv M (mx (rowsL M M (cutM k ul ml))) V) (d Y : Mx) (hd : ∀ s x, s < M → x < L → d s x = mm k (cau k) X (ul.getD s 0) x ^^^ X (k + ul.getD s 0) x)
    (hY1 : ∀ i x, i < k → f i = true → Y i x = X i x) (hY2 : ∀ t x, t < M → x < L → Y (ml.getD t 0) x = mm M V d t x) (s x : Nat) (hs : s < M) (hx : x < L) :
    mm k (cau k) Y (ul.getD s 0) x = X (k + ul.getD s 0) x := by
  have e1 : mm k (cau k) Y (ul.getD s 0) x = mm k (cau k) X (ul.getD s 0) x ^^^ xs k (fun j => gm (cau k (ul.getD s 0) j) (if f j = true then 0#8 else Y j x)) := by
    unfold mm
    rw [← xs_add]
    refine xs_congr fun j hj => ?_
    cases hf : f j with
    | true => rw [hY1 j x hj hf, if_pos rfl, gm_zr, BitVec.xor_zero]
    | false => rw [hz j x hj hf hx, gm_zr, BitVec.zero_xor]; rfl
  have e2 : xs k (fun j => gm (cau k (ul.getD s 0) j) (if f j = true then 0#8 else Y j x)) = mm M (mx (rowsL M M (cutM k ul ml))) (mm M V d) s x := by
    rw [xs_filter k (fun i => !f i) _ fun i hi h => by
      have : f i = true := by simpa using h
      show gm _ (if f i = true then 0#8 else Y i x) = 0#8
      rw [if_pos this, gm_zr]]
    have : (List.range k).filter (fun i => !f i) = ml := hml.symm
    rw [this, hM]
    show _ = xs M (fun t => gm (mx (rowsL M M (cutM k ul ml)) s t) (mm M V d t x))
    refine xs_congr fun t ht => ?_
    have ht' : f (ml.getD t 0) = false := by
      have := (pick_at (f := fun i => !f i) (n := k) t (by rw [← hml, hM]; exact ht)).2
      rw [← hml] at this
      simpa using this
    rw [ht', rowsL_mx M M _ s t hs ht, ← hY2 t x ht hx]
    rfl
  have e3 : mm M (mx (rowsL M M (cutM k ul ml))) (mm M V d) s x = d s x := by
    rw [← mm_assoc, mm_congr (a' := id1) (b' := d) (fun j hj => hV.2 s j hs hj) (fun j _ => rfl), mm_id_l M d s x hs]
  rw [e1, e2, e3, hd s x hs hx, ← BitVec.xor_assoc, xor_self', BitVec.zero_xor]
/-- The first k that are there make all. -/
theorem rec_all (k m M L : Nat) (f : Nat → Bool) (X Y : Mx) (ul : List Nat) (hM : (pick (fun i => !f i) k).length = M) (hul : ul = (pick (fun i => f (k + i)) m).take M) (hen : M ≤ (pick (fun i => f (k + i)) m).length)
    (hY1 : ∀ i x, i < k → f i = true → Y i x = X i x) (hY2 : ∀ s x, s < M → x < L → mm k (cau k) Y (ul.getD s 0) x = X (k + ul.getD s 0) x) :
    ∃ rl : List Nat, Picks (k + m) rl ∧ rl.length = k ∧ ∀ t, t < k → f (rl.getD t 0) = true ∧ ∀ x, x < L → mm k (ext k) Y (rl.getD t 0) x = X (rl.getD t 0) x := by
  have hb := pick_both f k
  have hlen : (pick f (k + m)).length = (pick f k).length + (pick (fun i => f (k + i)) m).length := by rw [pick_split, List.length_append, List.length_map]
  refine ⟨(pick f (k + m)).take k, picks_take f (k + m) k, by rw [List.length_take]; omega, fun t ht => ?_⟩
  rw [take_at _ _ _ ht]
  have hat := pick_at (f := f) (n := k + m) t (by omega)
  refine ⟨hat.2, fun x hx => ?_⟩
  by_cases h : t < (pick f k).length
  · have e : (pick f (k + m)).getD t 0 = (pick f k).getD t 0 := by rw [pick_split]; simp [List.getD_eq_getElem?_getD, List.getElem?_append_left h]
    have h2 := pick_at (f := f) (n := k) t h
    rw [e]
    rw [← hY1 _ x h2.1 h2.2]
    have e2 : mm k (ext k) Y ((pick f k).getD t 0) x = mm k id1 Y ((pick f k).getD t 0) x := mm_congr (fun j _ => by unfold ext; rw [if_pos h2.1]) (fun _ _ => rfl)
    rw [e2, mm_id_l k _ _ x h2.1]
  · have hs : t - (pick f k).length < M := by omega
    have e : (pick f (k + m)).getD t 0 = k + ul.getD (t - (pick f k).length) 0 := by
      rw [hul, take_at _ _ _ hs, pick_split]
      have h3 : t - (pick f k).length < (pick (fun i => f (k + i)) m).length := by omega
      generalize pick (fun i => f (k + i)) m = l at *
      simp [List.getD_eq_getElem?_getD, List.getElem?_append_right (show (pick f k).length ≤ t by omega), h3]
    rw [e]
    have e2 : mm k (ext k) Y (k + ul.getD (t - (pick f k).length) 0) x = mm k (cau k) Y (ul.getD (t - (pick f k).length) 0) x := by
      unfold mm
      refine xs_congr fun j _ => ?_
      unfold ext
      rw [if_neg (by omega), Nat.add_sub_cancel_left]
    rw [e2, hY2 _ x hs hx]
end Go.Proofs.Ytphpliclecmnlaa
/- The program's recoverParity. -/
namespace Go.Proofs.Ytphpliclecmnlaa
open Go Go.RowKit

theorem take_mx (n L k : Nat) (X : Mx) (i x : Nat) (hi : i < k) (hk : k ≤ n) (hx : x < L) : mx ((rowsL n L X).take k) i x = X i x := by
  have e : ((rowsL n L X).take k).getD i [] = (rowsL n L X).getD i [] := by simp [List.getD_eq_getElem?_getD, hi]
  unfold mx
  rw [e]
  exact rowsL_mx n L X i x (by omega) hx
/-- The parity of the first rows of a matrix of the call's own. -/
theorem encode_own (b k m n L G N : Nat) (D : Nat → Nat) (X : Mx) (w : World) (hC : Cd w b k m) (hM : Mp w N G n n L D X) (hkn : k ≤ n) (hL : L < 100000) :
    Calls Try.prog 14 #[.pointer (some ⟨b, 0, none⟩), .slice (some ⟨G, 0, none⟩) k n] w (RetOk w.heap.size w m L (mm k (cau k) X)) := by
  refine (encode_ok b k m ((rowsL n L X).take k) _ n w L hC (hM.prt.take k) (by rw [List.length_take, rowsL_length]; omega) (fun i hi => ?_) hL).mono ?_
  · have e : ((rowsL n L X).take k).getD i [] = (rowsL n L X).getD i [] := by simp [List.getD_eq_getElem?_getD, hi]
    rw [e]; exact rowsL_len _ _ _ _ (by omega)
  · rintro e w' ⟨G', D', rfl, hM', hB'⟩
    exact ⟨G', D', rfl, hM'.congr fun i j hi hj => mm_congr (fun _ _ => rfl) fun l hl => take_mx n L k X l j hl hkn hj, hB'⟩
attribute [local go_sem ↓] exec_store exec_make exec_slice
attribute [local go_sem] st_H st_I slr_hi
set_option maxRecDepth 100000 in
set_option maxHeartbeats 16000000 in
theorem recP_any (b k m n L G cap' : Nat) (D : Nat → Nat) (X : Mx) (th : List Bool) (q : Option Addr) (w0 w : World) (hC : Cd w0 b k m) (hB : Below w0.heap.size w0 w) (hM : Mp w w0.heap.size G n n L D X) (hn : n = k + m) (hb : Bl w0 q th) (hth : th.length = n) (hL : L < 100000) :
    Calls Try.prog 38 #[.pointer (some ⟨b, 0, none⟩), .slice (some ⟨G, 0, none⟩) n n, .slice q n cap'] w fun e w' => e = .returned (.tuple #[]) ∧
      ∃ D', Mp w' w0.heap.size G n n L D' (fun i x => if k ≤ i ∧ th.getD i false = false then mm k (cau k) X (i - k) x else X i x) ∧ Below w0.heap.size w0 w' := by
  have hk1 := hC.k1
  have hm1 := hC.m1
  have hkm := hC.hi
  have hkn : k ≤ n := by omega
  have HC := Lib.hid hC
  have HBL := Lib.hid hb
  have HTH := Lib.hid hth
  have HN := Lib.hid hn
  have hNw : w0.heap.size ≤ w.heap.size := hB.size
  have hGw : G < w.heap.size := hM.ltG
  have hb1 : Below w.heap.size w (w.alloc (.cells #[.slice q n cap'] 40)) := (Below.refl _ _).alloc (Nat.le_refl _) _
  have HB1 := Lib.hid (bel_step hB hb1)
  have HM1 := Lib.hid (hM.of_below hb1)
  have HE1 := Lib.hid (show (w.alloc (.cells #[.slice q n cap'] 40)).cell? ⟨w.heap.size, 0, none⟩ = some (.slice q n cap') by rw [World.cell?_alloc_new]; rfl)
  have hs1 : (w.alloc (.cells #[.slice q n cap'] 40)).heap.size = w.heap.size + 1 := World.size_alloc ..
  clear hC hB hM hb hth hb1 hn
  go_enter Try.func38, Try.ntmps38
  go_wp2_with fail
  generalize w.alloc (.cells #[.slice q n cap'] 40) = w1 at *
  generalize w.heap.size = E at *
  refine (data_any b k m w1 (HC.out.keep HB1.out)).mono ?_
  rintro e w2 ⟨rfl, rfl⟩
  go_wp2_with fail
  have hb2 : Below w1.heap.size w1 (w1.alloc (.cells #[.int .i64 (k : Int)] 3)) := (Below.refl _ _).alloc (Nat.le_refl _) _
  have HB2 := Lib.hid (bel_step HB1.out hb2)
  have HM2 := Lib.hid (HM1.out.of_below hb2)
  have HE2 := Lib.hid (show (w1.alloc (.cells #[.int .i64 (k : Int)] 3)).cell? ⟨E, 0, none⟩ = some (.slice q n cap') by rw [hb2.cell (by show E < _; omega)]; exact HE1.out)
  have HK2 := Lib.hid (show (w1.alloc (.cells #[.int .i64 (k : Int)] 3)).cell? ⟨E + 1, 0, none⟩ = some (.int .i64 (k : Int)) by rw [← hs1, World.cell?_alloc_new]; rfl)
  have hs2 : (w1.alloc (.cells #[.int .i64 (k : Int)] 3)).heap.size = E + 2 := by rw [World.size_alloc, hs1]
  clear hb2 HM1 HE1
  generalize w1.alloc (.cells #[.int .i64 (k : Int)] 3) = w2 at *
  clear hs1 HB1
  refine (encode_own b k m n L G _ D X w2 (HC.out.keep HB2.out) HM2.out hkn hL).mono ?_
  rintro e w3 ⟨Gp, Dp, rfl, hMp, hb3⟩
  rw [hs2] at hMp
  have hs3 : E + 2 ≤ w3.heap.size := by have := hb3.size; omega
  have HMP3 := Lib.hid hMp
  have HB3 := Lib.hid (bel_step HB2.out hb3)
  have HM3 := Lib.hid (HM2.out.of_below hb3)
  have HE3 := Lib.hid (show w3.cell? ⟨E, 0, none⟩ = some (.slice q n cap') by rw [hb3.cell (by show E < _; omega)]; exact HE2.out)
  have HK3 := Lib.hid (show w3.cell? ⟨E + 1, 0, none⟩ = some (.int .i64 (k : Int)) by rw [hb3.cell (by show E + 1 < _; omega)]; exact HK2.out)
  have HDL := Lib.hid (show ∀ j, j < n → D j < E + 2 from fun j hj => by have := HM2.out.lt j hj; omega)
  clear hMp hb3 HB2 HM2 HE2 HK2
  go_wp2_with fail
  refine (parity_any b k m w3 (HC.out.keep HB3.out)).mono ?_
  rintro e w4 ⟨rfl, rfl⟩
  go_wp2_with fail
  have hask : AskI 53 #[.pointer (some ⟨E, 0, none⟩), .pointer (some ⟨E + 1, 0, none⟩)] m (fun i => !th.getD (k + i) false) w3 := fun i hi w' hB' =>
    p1_any E (E + 1) i k n cap' q th w' (by rw [hB'.cell (by show E < _; omega)]; exact HE3.out) ((HBL.out.of_below HB3.out).of_below hB') HTH.out (by rw [hB'.cell (by show E + 1 < _; omega)]; exact HK3.out) (by have := HN.out; omega) (by have := HN.out; omega)
  refine (where_il _ _ enters_P1 m _ w3 hask (by omega)).mono ?_
  rintro e w4 ⟨pq, pc, len, rfl, hlen, hlc, hIl, hpb, hB4⟩
  have HMP4 := Lib.hid (HMP3.out.of_below hB4)
  have HB4 := Lib.hid (bel_step HB3.out hB4)
  have HM4 := Lib.hid (HM3.out.of_below hB4)
  have HK4 := Lib.hid (show w4.cell? ⟨E + 1, 0, none⟩ = some (.int .i64 (k : Int)) by rw [hB4.cell (by show E + 1 < _; omega)]; exact HK3.out)
  have HIL := Lib.hid hIl
  have HPB := Lib.hid (show ∀ b, pq = some ⟨b, 0, none⟩ → b ≠ G from fun b e => by have := hpb b e; omega)
  have hsz4 : E + 2 ≤ w4.heap.size := Nat.le_trans hs3 hB4.size
  obtain ⟨pl, hpl⟩ : ∃ pl, pl = pick (fun i => !th.getD (k + i) false) m := ⟨_, rfl⟩
  have hfl : len ≤ m := by rw [← hlen]; exact pick_len _ _
  have hpt : ∀ s, s < len → pl.getD s 0 < m := fun s hs => by rw [hpl]; exact (pick_at s (by rw [hlen]; exact hs)).1
  have hpi : ∀ s t, s < len → t < len → pl.getD s 0 = pl.getD t 0 → s = t := fun s t hs ht h => by rw [hpl] at h; exact pick_inj _ _ s t (by rw [hlen]; exact hs) (by rw [hlen]; exact ht) h
  rw [← hpl] at hlen HIL
  have HPL := Lib.hid hpl
  have HLEN := Lib.hid hlen
  have HPT := Lib.hid hpt
  have HPI := Lib.hid hpi
  clear hIl hpb hB4 hpl hlen hpt hpi hask HMP3 HM3 HE3 HK3 HB3
  go_wp2
  go_loopw [10, 26] (fun _ i wr => ∃ t : Nat, t ≤ len ∧ i = .int .i64 t ∧ Kp G w4 wr ∧ Mp wr w0.heap.size G n n L (putD D Dp (fun s => k + pl.getD s 0) (fun s => pl.getD s 0) t) (putX X (mm k (cau k) X) (fun s => k + pl.getD s 0) (fun s => pl.getD s 0) t)) (fun _ i _ => len - (intOf i).toNat)
  case atStart => exact ⟨0, Nat.zero_le _, rfl, Kp.refl _ _, HM4.out⟩
  case round =>
    obtain ⟨t, ht, rfl, hK, hM⟩ := hrel
    rename World => WO
    have HKP := Lib.hid hK
    have HMO := Lib.hid hM
    by_cases hlt : t < len
    · have hd0 : decide ((t : Int) < (len : Int)) = true := decide_eq_true (by omega)
      have hl0 : (t : Int) < (len : Int) := by omega
      obtain ⟨gp, rfl, -, hx1⟩ := (HIL.out.of_kp hK HPB.out) t (by rw [HLEN.out]; exact hlt)
      have hum := HPT.out t hlt
      have hMPO := HMP4.out.of_kp hK (by have := HMP4.out.loG; omega) (fun i hi => by have := HMP4.out.lo i hi; omega)
      have HMPO := Lib.hid hMPO
      have hx2 := hMPO.cellH (pl.getD t 0) hum hum
      have hx3 : WO.cell? ⟨E + 1, 0, none⟩ = some (.int .i64 (k : Int)) := by rw [hK.cell (by show E + 1 < _; omega) (by show E + 1 ≠ G; omega)]; exact HK4.out
      have hcell : WO.cell? ⟨G, k + pl.getD t 0, none⟩ = some (hdr n L (putD D Dp (fun s => k + pl.getD s 0) (fun s => pl.getD s 0) t) (k + pl.getD t 0)) := hM.hds.cell _ (by have := HN.out; omega)
      have hfr : WO.frozen? ⟨G, k + pl.getD t 0, none⟩ = false := hM.free _
      have hlu : (pl.getD t 0 : Nat) < m := hum
      generalize hu : pl.getD t 0 = u at *
      have HU := Lib.hid hu
      have hw : IntKind.i64.wrap ((k : Int) + (u : Int)) = (k : Int) + (u : Int) := IntWalk.i64_in _ (by omega)
      have hui : (u : Int) < (m : Int) := by omega
      have hu0 : (0 : Int) ≤ (k : Int) + (u : Int) := by omega
      have hu1 : (k : Int) + (u : Int) < (n : Int) := by have := HN.out; omega
      have hu2 : ((k : Int) + (u : Int)).toNat = k + u := by omega
      clear hK hM hMPO hu
      go_wp2
      refine wp_region_still_tail 9 (by kernel_rfl) (by kernel_rfl) ?_
      simp only [List.take_succ_cons, List.take_zero, List.drop_succ_cons, List.drop_zero, World.drew_eq]
      repeat (refine wpStill_step (fun K hK => ?_); go_simp; refine hK _ ?_; clear hK K)
      refine wpStill_nil ?_
      go_wp2
      go_roundw
      case rel =>
        have hm := HMO.out.puts HMPO.out HDL.out (by omega) (by omega) (by show k + pl.getD t 0 < n; rw [HU.out]; have := HN.out; omega) (fun s hs => HPT.out s (by omega)) (fun s hs e => by have := HPI.out s t (by omega) hlt e; omega)
        refine ⟨t + 1, by omega, by go_num, (HKP.out.drewN 1).setCell _ _, ?_⟩
        have hm2 := hm.dr (Dr.refl _).drew
        simp only [HU.out] at hm2
        exact hm2
      case measure => simp [intOf]; omega
    · have hd0 : decide ((t : Int) < (len : Int)) = false := decide_eq_false (by omega)
      obtain rfl : t = len := by omega
      clear hK hM
      go_wp2
      go_end0
      refine ⟨rfl, _, HMO.out.congr fun i x hi hx => ?_, HB4.out.trans (HKP.out.below HM4.out.loG (by omega))⟩
      have hn := HN.out
      by_cases h : k ≤ i ∧ th.getD i false = false
      · rw [if_pos h]
        obtain ⟨s, hs, he⟩ := pick_find (f := fun i => !th.getD (k + i) false) (n := m) (i := i - k) (by omega) (by show (!th.getD (k + (i - k)) false) = true; rw [show k + (i - k) = i by omega, h.2]; rfl)
        rw [← HPL.out] at hs he
        have := putX_yes X (mm k (cau k) X) (fun s => k + pl.getD s 0) (fun s => pl.getD s 0) t s x (by rw [← HLEN.out]; exact hs) (fun a b ha hb e => HPI.out a b ha hb (by have : k + pl.getD a 0 = k + pl.getD b 0 := e; omega))
        simp only [he] at this
        rw [show k + (i - k) = i by omega] at this
        exact this
      · rw [if_neg h]
        refine putX_no X _ _ _ t i x fun s hs e => h ?_
        have e' : k + pl.getD s 0 = i := e
        have hp : (!th.getD (k + pl.getD s 0) false) = true := by
          have := (pick_at (f := fun i => !th.getD (k + i) false) (n := m) s (by rw [← HPL.out, HLEN.out]; exact hs)).2
          rw [← HPL.out] at this
          exact this
        rw [e'] at hp
        exact ⟨by omega, by simpa using hp⟩
end Go.Proofs.Ytphpliclecmnlaa
/- The program's submatrix. -/
namespace Go.Proofs.Ytphpliclecmnlaa
open Go Go.RowKit

attribute [local go_sem ↓] exec_store exec_make exec_bs
attribute [local go_sem] st_H mkR mkM bs1B
set_option maxRecDepth 100000 in
set_option maxHeartbeats 16000000 in
theorem sub_any (b k m len C capr capc : Nat) (rl sl : List Nat) (pr pc : Option Addr) (WS : World) (hC : Cd WS b k m) (hr : Il WS pr rl) (hs : Il WS pc sl) (hrl : rl.length = len) (hsl : sl.length = C) (hrm : ∀ i, i < len → rl.getD i 0 < m) (hsk : ∀ j, j < C → sl.getD j 0 < k) (hlen : len ≤ 64) (hC64 : C ≤ 64) :
    Calls Try.prog 52 #[.pointer (some ⟨b, 0, none⟩), .slice pr len capr, .slice pc C capc] WS fun e w' => ∃ G, e = .returned (.slice (some ⟨G, 0, none⟩) len len) ∧ Prt w' (some ⟨G, 0, none⟩) (rowsL len C (cutM k rl sl)) ∧ Below WS.heap.size WS w' := by
  obtain ⟨hk1, hm1, hkm, f, G, D, c1, c2, hF, hMr⟩ := hC
  have hmk8 : len < 100000000 := by omega
  have HC1 := Lib.hid c2
  have HMr := Lib.hid hMr
  have HR1 := Lib.hid hr
  have HS1 := Lib.hid hs
  have HRL := Lib.hid hrl
  have HSL := Lib.hid hsl
  have HRM := Lib.hid hrm
  have HSK := Lib.hid hsk
  have hct := Ct.zero (N := WS.heap.size) (Row.new WS 38 len (fun _ => .slice none 0 0)) (Nat.le_refl _)
  have hbz : Below WS.heap.size WS (WS.alloc (.cells (tab len (fun _ => .slice none 0 0)) 38)) := (Below.refl _ _).alloc (Nat.le_refl _) _
  have HCT := Lib.hid hct
  have HBZ := Lib.hid hbz
  clear hct hbz hF hMr hr hs hrl hsl c1 c2 hrm hsk
  go_enter Try.func52, Try.ntmps52
  go_wp2
  generalize WS.alloc (.cells (tab len (fun _ => .slice none 0 0)) 38) = WT at *
  generalize hM0 : WS.heap.size = M0 at *
  have HM0 := Lib.hid hM0
  clear hM0
  go_loopw [8, 9, 17] (fun _ _ i wv => ∃ i0 : Nat, i0 ≤ len ∧ i = .int .i64 i0 ∧ ∃ V, Ct wv M0 M0 len V (fun i => if i < i0 then rowL C (cutM k rl sl) i else []) ∧ Below M0 WS wv) (fun _ _ i _ => len - (intOf i).toNat)
  case atStart => exact ⟨0, Nat.zero_le _, rfl, _, HCT.out.congr fun i hi => by rw [if_neg (by omega)], HBZ.out⟩
  case round =>
    clear HCT HBZ
    obtain ⟨i0, hi0, rfl, V, hC, hB⟩ := hrel
    rename World => WV
    have HC := Lib.hid hC
    have HB := Lib.hid hB
    by_cases hi : i0 < len
    · have hdi : decide ((i0 : Int) < (len : Int)) = true := decide_eq_true (by omega)
      have hi00 : (i0 : Int) < (len : Int) := by omega
      obtain ⟨gr, rfl, hgr, x0⟩ := HR1.out i0 (by rw [HRL.out]; exact hi)
      have x1 : WV.cell? ⟨gr, i0, none⟩ = some (.int .i64 ((rl.getD i0 0 : Nat) : Int)) := by rw [hB.cell (by rw [← HM0.out]; exact hgr)]; exact x0
      have HC1' := Lib.hid (HC.out.congr (L' := setL (fun i => if i < i0 then rowL C (cutM k rl sl) i else []) i0 (rowL 0 (cutM k rl sl) i0)) fun i _ => by
        unfold setL
        by_cases h : i = i0
        · rw [if_pos h, h, if_neg (by omega)]; rfl
        · rw [if_neg h])
      clear HC hC hB x0
      generalize hru0 : rl.getD i0 0 = ru at *
      have HRU := Lib.hid hru0
      clear hru0
      go_wp2
      clear x1
      go_loopw [11, 24] (fun _ i wv => ∃ j : Nat, j ≤ C ∧ i = .int .i64 j ∧ ∃ V, Ct wv M0 M0 len V (setL (fun i => if i < i0 then rowL C (cutM k rl sl) i else []) i0 (rowL j (cutM k rl sl) i0)) ∧ Below M0 WS wv) (fun _ i _ => C - (intOf i).toNat)
      case atStart => exact ⟨0, Nat.zero_le _, rfl, V, HC1'.out, HB.out⟩
      case round =>
        clear HC1' HB
        obtain ⟨j, hj, rfl, V, hC, hB⟩ := hrel
        rename World => WW
        have HC := Lib.hid hC
        have HB := Lib.hid hB
        by_cases hjl : j < C
        · have hdj : decide ((j : Int) < (C : Int)) = true := decide_eq_true (by omega)
          have hj0 : (j : Int) < (C : Int) := by omega
          have kp : ∀ a : Addr, ∀ v, WS.cell? a = some v → WW.cell? a = some v := fun a v h => by
            rw [hB.cell (by rw [← HM0.out]; exact World.block_lt_of_cell? WS a h)]; exact h
          have hru : ru < m := by rw [← HRU.out]; exact HRM.out i0 hi
          have hsu : sl.getD j 0 < k := HSK.out j hjl
          obtain ⟨gc, rfl, hgc, x0⟩ := HS1.out j (by rw [HSL.out]; exact hjl)
          have x2 := kp _ _ x0
          have x3 := kp _ _ (HMr.out.cellH ru hru hru)
          have x4 := kp _ _ (HMr.out.cell ru (sl.getD j 0) hru hsu)
          have x7 := kp _ _ HC1.out
          have hown := hC.own i0 hi
          rw [show setL (fun i => if i < i0 then rowL C (cutM k rl sl) i else []) i0 (rowL j (cutM k rl sl) i0) i0 = rowL j (cutM k rl sl) i0 from if_pos rfl] at hown
          obtain ⟨qv, cv, hVi, -, -, -⟩ := hown.shape
          rw [rowL_length] at hVi
          have x5 := hC.hds.cell i0 hi
          rw [hVi] at x5
          have x6 : WW.frozen? ⟨M0, i0, none⟩ = false := hC.hds.free i0
          have hMlt : M0 < WW.heap.size := hC.hds.lt
          have HVI := Lib.hid hVi
          have HNX := Lib.hid (show rowL j (cutM k rl sl) i0 ++ [cau k ru (sl.getD j 0)] = rowL (j + 1) (cutM k rl sl) i0 from by rw [← HRU.out]; exact (range_snoc _ _).symm)
          have HLW := Lib.hid (rowL_length j (cutM k rl sl) i0)
          generalize hcx : cau k ru (sl.getD j 0) = bx at *
          generalize sl.getD j 0 = su at *
          have y1 : (ru : Int) < (m : Int) := by omega
          have y2 : (su : Int) < (k : Int) := by omega
          have hMW : M0 ≤ WW.heap.size := by have := hB.size; have := HM0.out; omega
          have hbA : Below WW.heap.size WW (WW.drew.alloc (.cells #[B bx] 5)) := ((Below.refl _ _).drew).alloc (Nat.le_refl _) _
          have HCW := Lib.hid (hC.of_below hbA)
          have HOW := Lib.hid (hown.of_below hbA)
          have HBW := Lib.hid (show Below M0 WS (WW.drew.alloc (.cells #[B bx] 5)) from (hB.drew).alloc hMW _)
          have HXW := Lib.hid (show (WW.drew.alloc (.cells #[B bx] 5)).cell? ⟨WW.heap.size, 0, none⟩ = some (B bx) from World.cell?_alloc_new _ _ _ _)
          have hMW2 : M0 ≤ (WW.drew.alloc (.cells #[B bx] 5)).heap.size := by rw [World.size_alloc]; exact Nat.le_succ_of_le hMW
          rw [hVi] at hown
          have HOW2 := Lib.hid (show OwnB (WW.drew.alloc (.cells #[B bx] 5)) M0 (.slice qv j cv) (rowL j (cutM k rl sl) i0) from by rw [← HVI.out]; exact HOW.out)
          clear kp hC hB hown hVi hbA hcx HOW x0
          go_wp2
          go_region_law (first | (refine step_pushB rfl (.tmp 33) (.tmp 44) rfl M0 (.slice qv j cv) (rowL j (cutM k rl sl) i0) rfl HOW2.out ⟨WW.heap.size, 0, none⟩ rfl bx HXW.out j HLW.out (by omega) hMW2 ?_; rintro g9 d9 w9 hO9 hg9 ho9; have r9 := HCW.out.hds.of_block (hg9.block M0 HCW.out.hds.lt (by rw [← HVI.out]; exact Ne.symm (HCW.out.neG i0 hi))); have c9 : (w9.cell? ⟨M0, i0, none⟩).isSome = true := (by rw [r9.cell i0 hi]; rfl); have f9 : w9.frozen? ⟨M0, i0, none⟩ = false := r9.free i0; have HC9 := Lib.hid (HCW.out.push i0 hi hO9 (by rw [HVI.out]; exact hg9) (by rw [HVI.out]; exact ho9)); have HB9 := Lib.hid (HBW.out.grown hg9 hMW2 (fun g hg => (HOW2.out.lt g hg).1)); clear hO9 hg9 ho9 r9))
          all_goals
            go_wp2
            go_roundw
            case rel =>
              refine ⟨j + 1, by omega, by go_num, _, HC9.out.congr fun i _ => ?_, HB9.out.setCell (Nat.le_refl _) _⟩
              unfold setL
              by_cases h : i = i0
              · rw [if_pos h, if_pos h, HNX.out]
              · rw [if_neg h, if_neg h]
                exact (if_neg h).symm
            case measure => simp [intOf]; omega
        · have hdj : decide ((j : Int) < (C : Int)) = false := decide_eq_false (by omega)
          obtain rfl : j = C := by omega
          clear hC hB
          go_wp2
          go_roundw
          case rel =>
            refine ⟨i0 + 1, by omega, by go_num, V, HC.out.congr fun i hi => ?_, HB.out⟩
            unfold setL
            by_cases h : i = i0
            · rw [if_pos h, h, if_pos (by omega)]
            · rw [if_neg h]
              show (if i < i0 then rowL j (cutM k rl sl) i else []) = _
              by_cases h2 : i < i0
              · rw [if_pos h2, if_pos (by omega)]
              · rw [if_neg h2, if_neg (by omega)]
          case measure => simp [intOf]; omega
    · have hdi : decide ((i0 : Int) < (len : Int)) = false := decide_eq_false (by omega)
      obtain rfl : i0 = len := by omega
      have hprt := (HC.out.congr (L' := rowL C (cutM k rl sl)) fun i hi => if_pos hi).prt
      have HPT := Lib.hid (show Prt WV (some ⟨M0, 0, none⟩) (rowsL i0 C (cutM k rl sl)) from hprt)
      clear hprt HC hC hB
      go_wp2
      go_ret
      exact ⟨M0, rfl, HPT.out, by rw [HM0.out]; exact HB.out⟩
end Go.Proofs.Ytphpliclecmnlaa
