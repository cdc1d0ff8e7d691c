/- Merged texts: CopyX, EncM, ChkP, CopyM, CutP, OwnV. -/
import Derived.Deep.LoopGhost
import Derived.Test.YtphpliclecmnlaaK5
import Derived.Test.YtphpliclecmnlaaK4
import Derived.Deep.QuietTactic
import Derived.BigQuiet
import Derived.Deep.RegionLaw
import Derived.Test.YtphpliclecmnlaaK3
import Derived.StillTailTactics
import Derived.Test.YtphpliclecmnlaaK2
set_option linter.unusedSimpArgs false
set_option linter.unusedVariables false
/- Rows copied, in layer 4's statements: each copy in a block of its own. -/
namespace Go.Proofs.Ytphpliclecmnlaa
open Go Go.RowKit

theorem wpl_joinX {ops : Array Oper} {rest : List Oper} {o : Oper} {a : Act} {Q : Exit → Act → World → Prop} (w : World) (hgd : o.guard = none) (s x : Operand)
    (ho : o.op = .call { callee := .builtin .append, args := #[s, x], argTypes := #[23, 23] })
    (base : Nat) (v : Value) (ls : List (List (BitVec 8))) (hs : a.eval s = v) (w1 : World) (h : OwnX w1 base v ls) (k : Below w1.heap.size w1 w) (us : List Value) (ms : List (List (BitVec 8))) (n0 m0 : Nat) (hn0 : ls.length = n0) (hm0 : ms.length = m0) (hm : us.length = m0)
    (ad : Addr) (c : Nat) (hx : a.eval x = .slice (some ad) m0 c) (hu : ∀ i, i < m0 → OwnB w base (vd us i) (ms.getD i []))
    (hf : ∀ i g, i < m0 → (vd us i).ownBlock = some g → w1.heap.size ≤ g) (hd : ∀ i j g, i < m0 → j < m0 → i ≠ j → (vd us i).ownBlock = some g → (vd us j).ownBlock ≠ some g)
    (hpos : 0 < m0) (hnews : ∀ j u, us[j]? = some u → w.cell? (ad.add j) = some u) (hone : ∀ u ∈ us, u.oneCell' = true) (hlen : n0 + m0 < 1000000) (hb : base ≤ w1.heap.size)
    (hk : ∀ g cap' w', OwnX w' base (.slice (some ⟨g, 0, none⟩) (n0 + m0) cap') (ls ++ ms) → w.grownBy w' v.ownBlock → (v.ownBlock = some g ∨ g = w.heap.size) → wpList Try.prog ops Q rest (a.put o.dst (.slice (some ⟨g, 0, none⟩) (n0 + m0) cap')) w') : wpList Try.prog ops Q (o :: rest) a w := by
  subst hn0 hm0
  refine wpList_plain hgd fun K hK => ?_
  obtain ⟨g, cap', w', hr, h2, h3, h4⟩ := h.join k hm hu hf hd o.type ad c hpos hnews hone hlen hb
  unfold Oper.wp execOp
  simp only [ho, resolve, invoke, builtin, Sem.run_bind, Sem.run_pure, Result.andThen_ok, List.map_toArray, List.map_cons, List.map_nil, hs, hx, hr]
  exact hK _ _ (hk g cap' w' h2 h3 h4)
theorem OwnB.low {w : World} {b b' : Nat} {v : Value} {l : List (BitVec 8)} (h : OwnB w b v l) (hb : b' ≤ b) : OwnB w b' v l := ⟨h.1, by
  rcases h.2 with h' | ⟨g, cap, cur, hv, h1, r⟩
  · exact .inl h'
  · exact .inr ⟨g, cap, cur, hv, Nat.le_trans hb h1, r⟩⟩
/-- A slice of rows, each in a block of its own, is returned, and nothing that was there has changed. -/
def RetX (N : Nat) (w : World) (ls : List (List (BitVec 8))) (e : Ending) (w' : World) : Prop := ∃ v, e = .returned v ∧ OwnX w' N v ls ∧ Below N w w'
attribute [local go_sem ↓] exec_bs
attribute [local go_sem] bs0 bsR
set_option maxHeartbeats 4000000 in
theorem copiedX_any (ls : List (List (BitVec 8))) (p : Option Addr) (n cap : Nat) (w : World) (hs : Prt w p ls) (hl : ls.length = n) (hn : n < 100000) (hlen : ∀ i, i < ls.length → (ls.getD i []).length < 1000000) :
    Calls Try.prog 13 #[.slice p n cap] w (RetX w.heap.size w ls) := by
  have HS := Lib.hid hs
  have HL := Lib.hid hl
  have HLEN := Lib.hid hlen
  clear hs hl hlen
  go_enter Try.func13, Try.ntmps13
  go_wp2
  generalize hN : w.heap.size = N at *
  have HN := Lib.hid hN
  clear hN
  go_loopw [3, 8] (fun v i wr => ∃ k : Nat, k ≤ n ∧ i = .int .i64 k ∧ (∃ q c, v = .slice q k c) ∧ OwnX wr N v (ls.take k) ∧ Below N w wr) (fun _ i _ => n - (intOf i).toNat)
  case atStart => exact ⟨0, Nat.zero_le _, rfl, ⟨none, 0, rfl⟩, by simpa using OwnX.nil w N, Below.refl _ _⟩
  case round =>
    obtain ⟨k, hk, rfl, ⟨qv, cv, rfl⟩, hO, hB⟩ := hrel
    have HO := Lib.hid hO
    have HBr := Lib.hid hB
    have hNle : N ≤ wr.heap.size := by have := hB.size; have := HN.out; omega
    clear hO hB
    by_cases hlt : k < n
    · obtain ⟨c, o, q, cap', rfl, hcl, hc, hsl, hq, _⟩ := HS.out.at_ k (by rw [HL.out]; exact hlt)
      have hx : wr.cell? ⟨c, o + k, none⟩ = some (.slice q (ls.getD k []).length cap') := by
        rw [HBr.out.cell (by rw [← HN.out]; exact hcl)]; exact hc
      have hm := HLEN.out k (by rw [HL.out]; exact hlt)
      have hslr : Sl wr q (ls.getD k []) := hsl.of_below (by rw [HN.out]; exact HBr.out)
      have hd0 : decide ((k : Int) < (n : Int)) = true := decide_eq_true (by omega)
      have hl0 : (k : Int) < (n : Int) := by omega
      have HT := Lib.hid (take_getD ls [] k (by rw [HL.out]; exact hlt))
      have HLT := Lib.hid (show (ls.take k).length = k by rw [List.length_take, HL.out]; omega)
      have HSLR := Lib.hid hslr
      have HQ := Lib.hid hq
      clear hsl hslr hc hq hcl
      generalize ls.getD k [] = r at *
      generalize hrm : r.length = m at *
      have HM := Lib.hid hrm
      clear hrm
      generalize hlk : ls.take k = lk at *
      clear hlk
      have HO1 := Lib.hid (OwnB.empty wr wr.heap.size (Nat.le_refl _))
      have HB1 := Lib.hid (show Below wr.heap.size wr (wr.alloc (.cells #[] 5)) from (Below.refl _ _).alloc (Nat.le_refl _) _)
      go_wp2_with (first | (refine wpl_append _ rfl (.tmp 13) (.tmp 14) rfl wr.heap.size (.slice (some ⟨wr.heap.size, 0, none⟩) 0 0) [] rfl HO1.out q m cap' r HM.out rfl (HSLR.out.of_below HB1.out) HQ.out (by show 0 + m < _; omega) HB1.out.size ?_; rintro v3 w3 hv3 hg3; have hB3 := HB1.out.grown hg3 HB1.out.size (fun g hg => (HO1.out.lt g hg).1); rw [List.nil_append] at hv3; obtain ⟨q3, c3, e3, hs3, hc3, hle3⟩ := hv3.shape; rw [HM.out] at e3 hle3; subst e3; have hB4 : Below wr.heap.size wr (w3.alloc (.cells #[.slice q3 m c3] 38)) := hB3.alloc hB3.size _; have hv4 := hv3.of_below (show Below w3.heap.size w3 (w3.alloc (.cells #[.slice q3 m c3] 38)) from (Below.refl _ _).alloc (Nat.le_refl _) _); have hcell : (w3.alloc (.cells #[.slice q3 m c3] 38)).cell? ⟨w3.heap.size, 0, none⟩ = some (.slice q3 m c3) := (by rw [World.cell?_alloc_new]; rfl); have HU := Lib.hid (show ∀ i, i < 1 → OwnB (w3.alloc (.cells #[.slice q3 m c3] 38)) N (vd [.slice q3 m c3] i) (([r] : List (List (BitVec 8))).getD i []) from (fun i hi => (by obtain rfl : i = 0 := (by omega); exact hv4.low hNle))); have HF := Lib.hid (show ∀ i g, i < 1 → (vd [.slice q3 m c3] i).ownBlock = some g → wr.heap.size ≤ g from (fun i g hi hg => (by obtain rfl : i = 0 := (by omega); exact (hv4.lt g hg).1))); have HD := Lib.hid (show ∀ i j g, i < 1 → j < 1 → i ≠ j → (vd [.slice q3 m c3] i).ownBlock = some g → (vd [.slice q3 m c3] j).ownBlock ≠ some g from (fun i j g hi hj hij => absurd hij (by omega))); have HNW := Lib.hid (show ∀ j u, ([.slice q3 m c3] : List Value)[j]? = some u → (w3.alloc (.cells #[.slice q3 m c3] 38)).cell? ((⟨w3.heap.size, 0, none⟩ : Addr).add j) = some u from (fun j u hu => (by have hj : j = 0 := (by rcases Nat.eq_zero_or_pos j with h | h; exact h; rw [List.getElem?_eq_none (by simp; omega)] at hu; cases hu); subst hj; rw [Addr.add_zero', hcell]; simpa using hu))); have HB4 := Lib.hid hB4; clear hv3 hg3 hs3 hc3 hB3 hB4 hcell hle3 hv4) | (refine wpl_joinX _ rfl (.tmp 12) (.tmp 16) rfl N (.slice qv k cv) lk rfl wr HO.out HB4.out [.slice q3 m c3] [r] k 1 HLT.out rfl rfl ⟨w3.heap.size, 0, none⟩ 1 rfl HU.out HF.out HD.out (by decide) HNW.out (by intro u hu; simp at hu; subst hu; rfl) (by omega) hNle ?_; rintro g5 c5 w5 hM5 hg5 ho5; have HM5 := Lib.hid hM5; have HB5 := Lib.hid ((HBr.out.trans (HB4.out.mono hNle)).grown hg5 (by have := HB4.out.size; omega) (fun g hg => (HO.out.lt g hg).1)); clear hM5 hg5 ho5))
      go_roundw
      case rel => exact ⟨k + 1, by omega, by go_num, ⟨_, _, rfl⟩, by rw [HT.out]; exact HM5.out, HB5.out⟩
      case measure => simp [intOf]; omega
    · have hd0 : decide ((k : Int) < (n : Int)) = false := decide_eq_false (by omega)
      obtain rfl : k = n := by omega
      have hO := HO.out
      rw [List.take_of_length_le (by rw [HL.out]; exact Nat.le_refl _)] at hO
      have HO := Lib.hid hO
      clear hO
      go_wp2
      go_ret
      exact ⟨_, rfl, HO.out, HBr.out⟩
end Go.Proofs.Ytphpliclecmnlaa
/- Shards and their parity, as lists; slices of rows opened and cut. -/
namespace Go.Proofs.Ytphpliclecmnlaa
open Go Go.RowKit

theorem ev_parts {la : List (List (BitVec 8))} {k : Nat} (h : evB la k = true) : la.length = k ∧ ∀ i, i < k → (la.getD i []).length = (la.getD 0 []).length := by
  obtain ⟨h1, h2⟩ := of_decide_eq_true h
  exact ⟨h1, fun i hi => h2 i (by omega)⟩
theorem parL_length (k m : Nat) (la : List (List (BitVec 8))) : (parL k m la).length = m := rowsL_length _ _ _
theorem parL_len (k m : Nat) (la : List (List (BitVec 8))) (i : Nat) (h : i < m) : ((parL k m la).getD i []).length = (la.getD 0 []).length := rowsL_len _ _ _ _ h
theorem all_len {k m : Nat} {la : List (List (BitVec 8))} (h : evB la k = true) (hk : 1 ≤ k) (i : Nat) (hi : i < k + m) : ((la ++ parL k m la).getD i []).length = (la.getD 0 []).length := by
  obtain ⟨h1, h2⟩ := ev_parts h
  by_cases e : i < k
  · rw [ls_left _ _ _ (by omega)]; exact h2 i e
  · rw [ls_right _ _ _ (by omega), parL_len _ _ _ _ (by omega)]
theorem all_even {k m : Nat} {la : List (List (BitVec 8))} (h : evB la k = true) (hk : 1 ≤ k) : evB (la ++ parL k m la) (k + m) = true := by
  have h1 := (ev_parts h).1
  refine decide_eq_true ⟨by rw [List.length_append, parL_length, h1], fun i hi => ?_⟩
  rw [List.length_append, parL_length, h1] at hi
  rw [all_len h hk i hi, all_len h hk 0 (by omega)]
theorem chk_ok {k m : Nat} {la : List (List (BitVec 8))} (h : evB la k = true) (hk : 1 ≤ k) : chkI k m (la ++ parL k m la) = 0 := by
  have h1 := (ev_parts h).1
  unfold chkI
  rw [if_pos (all_even h hk)]
  have e1 : (la ++ parL k m la).drop k = parL k m la := by rw [← h1]; exact List.drop_left
  have e2 : (la ++ parL k m la).take k = la := by rw [← h1]; exact List.take_left
  rw [e1, e2, if_pos rfl]
theorem chk_len {k m : Nat} {ls : List (List (BitVec 8))} (h : ls.length ≠ k + m) : chkI k m ls = 2 := by
  unfold chkI
  rw [if_neg]
  intro e
  exact h (of_decide_eq_true e).1
theorem set_ne {l : List (BitVec 8)} {x : Nat} (hx : x < l.length) (y : BitVec 8) (hy : y ≠ l.getD x 0#8) : l.set x y ≠ l := fun e => hy (by
  have : (l.set x y).getD x 0#8 = y := by simp [List.getD_eq_getElem?_getD, hx]
  rw [← this, e])
theorem xor_one_ne (y : BitVec 8) : y ^^^ 1#8 ≠ y := fun h => by
  have h1 : y ^^^ (y ^^^ 1#8) = y ^^^ y := by rw [h]
  rw [← BitVec.xor_assoc, xor_self', BitVec.zero_xor] at h1
  exact absurd h1 (by decide)
theorem mx_set (ls : List (List (BitVec 8))) (i x : Nat) (y : BitVec 8) (hi : i < ls.length) (hx : x < (ls.getD i []).length) (r c : Nat) : mx (ls.set i ((ls.getD i []).set x y)) r c = if r = i ∧ c = x then y else mx ls r c := by
  unfold mx
  by_cases h1 : r = i
  · subst h1
    have e : (ls.set r ((ls.getD r []).set x y)).getD r [] = (ls.getD r []).set x y := by simp [List.getD_eq_getElem?_getD, hi]
    rw [e]
    generalize ls.getD r [] = l at *
    by_cases h2 : c = x
    · subst h2
      rw [if_pos ⟨rfl, rfl⟩]
      simp [List.getD_eq_getElem?_getD, hx]
    · rw [if_neg (fun h => h2 h.2)]
      simp [List.getD_eq_getElem?_getD, List.getElem?_set, Ne.symm h2]
  · rw [if_neg (fun h => h1 h.1)]
    have e : (ls.set i ((ls.getD i []).set x y)).getD r [] = ls.getD r [] := by simp [List.getD_eq_getElem?_getD, List.getElem?_set, Ne.symm h1]
    rw [e]
/-- With one byte changed they are not right. -/
theorem chk_flip {k m : Nat} {la : List (List (BitVec 8))} (h : evB la k = true) (hk : 1 ≤ k) (hm : 1 ≤ m) (hkm : k + m ≤ 32) (i x : Nat) (hi : i < k + m) (hx : x < (la.getD 0 []).length) (y : BitVec 8) (hy : y ≠ ((la ++ parL k m la).getD i []).getD x 0#8) :
    chkI k m ((la ++ parL k m la).set i (((la ++ parL k m la).getD i []).set x y)) = 11 := by
  have h1 := (ev_parts h).1
  have hal := all_len (m := m) h hk i hi
  have hall : (la ++ parL k m la).length = k + m := by rw [List.length_append, parL_length, h1]
  have hev : evB ((la ++ parL k m la).set i (((la ++ parL k m la).getD i []).set x y)) (k + m) = true := by
    have hl : ∀ j, j < k + m → (((la ++ parL k m la).set i (((la ++ parL k m la).getD i []).set x y)).getD j []).length = (la.getD 0 []).length := fun j hj => by
      by_cases e : j = i
      · subst e
        have e2 : ((la ++ parL k m la).set j (((la ++ parL k m la).getD j []).set x y)).getD j [] = ((la ++ parL k m la).getD j []).set x y := by
          generalize la ++ parL k m la = L at *
          simp [List.getD_eq_getElem?_getD, hall, hj]
        rw [e2, List.length_set, hal]
      · have e2 : ((la ++ parL k m la).set i (((la ++ parL k m la).getD i []).set x y)).getD j [] = (la ++ parL k m la).getD j [] := by
          generalize la ++ parL k m la = L at *
          simp [List.getD_eq_getElem?_getD, List.getElem?_set, Ne.symm e]
        rw [e2, all_len h hk j hj]
    refine decide_eq_true ⟨by rw [List.length_set, hall], fun j hj => ?_⟩
    rw [List.length_set, hall] at hj
    rw [hl j hj, hl 0 (by omega)]
  unfold chkI
  rw [if_pos hev, if_neg]
  intro e
  have hx' : x < ((la ++ parL k m la).getD i []).length := by rw [hal]; exact hx
  by_cases hik : i < k
  · -- a data shard: its parity is another one
    have e1 : ((la ++ parL k m la).set i (((la ++ parL k m la).getD i []).set x y)).drop k = parL k m la := by
      rw [List.drop_set_of_lt hik, ← h1]; exact List.drop_left
    have e0 : (la ++ parL k m la).getD i [] = la.getD i [] := ls_left _ _ _ (by omega)
    have e2 : ((la ++ parL k m la).set i (((la ++ parL k m la).getD i []).set x y)).take k = la.set i ((la.getD i []).set x y) := by
      rw [e0, List.set_append_left _ _ (by omega), ← h1]
      have : la.length = (la.set i ((la.getD i []).set x y)).length := by rw [List.length_set]
      rw [this]; exact List.take_left
    rw [e1, e2] at e
    rw [e0] at hy hx'
    have e3 : mx (parL k m la) 0 x = mx (parL k m (la.set i ((la.getD i []).set x y))) 0 x := by rw [← e]
    have len0 : ((la.set i ((la.getD i []).set x y)).getD 0 []).length = (la.getD 0 []).length := by
      by_cases e4 : i = 0
      · subst e4
        have : (la.set 0 ((la.getD 0 []).set x y)).getD 0 [] = (la.getD 0 []).set x y := by
          have : 0 < la.length := by omega
          simp [List.getD_eq_getElem?_getD, this]
        rw [this, List.length_set]
      · have : (la.set i ((la.getD i []).set x y)).getD 0 [] = la.getD 0 [] := by simp [List.getD_eq_getElem?_getD, List.getElem?_set, e4]
        rw [this]
    have e5 : mx (parL k m la) 0 x = mm k (cau k) (mx la) 0 x := rowsL_mx _ _ _ _ _ (by omega) hx
    have e6 : mx (parL k m (la.set i ((la.getD i []).set x y))) 0 x = mm k (cau k) (mx (la.set i ((la.getD i []).set x y))) 0 x := rowsL_mx _ _ _ _ _ (by omega) (by rw [len0]; exact hx)
    rw [e5, e6] at e3
    have e7 : mm k (cau k) (mx (la.set i ((la.getD i []).set x y))) 0 x = mm k (cau k) (mx la) 0 x ^^^ gm (cau k 0 i) (y ^^^ mx la i x) := by
      unfold mm
      have f : ∀ j, j < k → gm (cau k 0 j) (mx (la.set i ((la.getD i []).set x y)) j x) = gm (cau k 0 j) (mx la j x) ^^^ (if j = i then gm (cau k 0 i) (y ^^^ mx la i x) else 0#8) := fun j _ => by
        rw [mx_set la i x y (by omega) hx']
        by_cases e8 : j = i
        · subst e8
          rw [if_pos ⟨rfl, rfl⟩, if_pos rfl, ← gm_xor]
          congr 1
          rw [BitVec.xor_comm y, ← BitVec.xor_assoc, xor_self', BitVec.zero_xor]
        · rw [if_neg (fun g => e8 g.1), if_neg e8, BitVec.xor_zero]
      rw [xs_congr f, xs_add, xs_one k i hik _ (fun j _ hj => if_neg hj), if_pos rfl]
    rw [e7] at e3
    have e8 : gm (cau k 0 i) (y ^^^ mx la i x) = 0#8 := by
      have : mm k (cau k) (mx la) 0 x ^^^ mm k (cau k) (mx la) 0 x = mm k (cau k) (mx la) 0 x ^^^ (mm k (cau k) (mx la) 0 x ^^^ gm (cau k 0 i) (y ^^^ mx la i x)) := by rw [← e3]
      rw [xor_self', ← BitVec.xor_assoc, xor_self', BitVec.zero_xor] at this
      exact this.symm
    have hcn : cau k 0 i ≠ 0#8 := gi_ne _
    have e9 := gm_eq_zero _ _ hcn e8
    exact hy (xor_eq_zero _ _ e9)
  · -- a parity shard
    have e2 : ((la ++ parL k m la).set i (((la ++ parL k m la).getD i []).set x y)).take k = la := by
      rw [List.take_set_of_le (by omega), ← h1]; exact List.take_left
    have e0 : (la ++ parL k m la).getD i [] = (parL k m la).getD (i - k) [] := by rw [ls_right _ _ _ (by omega), h1]
    have e1 : ((la ++ parL k m la).set i (((la ++ parL k m la).getD i []).set x y)).drop k = (parL k m la).set (i - k) (((parL k m la).getD (i - k) []).set x y) := by
      rw [e0, List.set_append_right _ _ (by omega), h1]
      rw [← h1]; exact List.drop_left
    rw [e1, e2] at e
    rw [e0] at hy hx'
    have e3 : mx ((parL k m la).set (i - k) (((parL k m la).getD (i - k) []).set x y)) (i - k) x = mx (parL k m la) (i - k) x := by rw [e]
    rw [mx_set _ _ _ _ (by rw [parL_length]; omega) hx', if_pos ⟨rfl, rfl⟩] at e3
    exact hy e3
end Go.Proofs.Ytphpliclecmnlaa
/- The program's Check. -/
namespace Go.Proofs.Ytphpliclecmnlaa
open Go Go.RowKit

theorem sizeR5 (w : World) : (sizeOf (Try.prog.elem 23)).run Try.prog w = .ok 1 w := by kernel_rfl
theorem slr_hi (q : Option Addr) (n cap k : Nat) (w : World) (hk : k ≤ cap) :
    (slT 23 (.slice q n cap) none (some (.int .i64 (k : Int))) none).run Try.prog w = .ok (.value (.slice q k cap)) w := by
  have h1 := run_sliceAt_slice (P := Try.prog) w 23 (.slice q n cap) none (some (.int .i64 (k : Int))) none undRows
  rw [run_slice_h (P := Try.prog) w 23 q n cap undRows .i64 (k : Int) (by omega) (by omega), sizeR5] at h1
  simp only [slT, Sem.run_bind, h1, Result.andThen_ok, Sem.run_pure]
  simp only [sliced, Int.toNat_natCast, Nat.zero_mul, Nat.sub_zero]
  have := cutA_zero q cap
  unfold cutA at this
  rw [this]
theorem slr_lo (c o n cap k : Nat) (w : World) (hk : k < n) (hc : n ≤ cap) :
    (slT 23 (.slice (some ⟨c, o, none⟩) n cap) (some (.int .i64 (k : Int))) none none).run Try.prog w = .ok (.value (.slice (some ⟨c, o + k, none⟩) (n - k) (cap - k))) w := by
  have h1 := run_sliceAt_slice (P := Try.prog) w 23 (.slice (some ⟨c, o, none⟩) n cap) (some (.int .i64 (k : Int))) none none undRows
  rw [run_slice_l (P := Try.prog) w 23 (some ⟨c, o, none⟩) n cap undRows .i64 (k : Int) (by omega) (by omega), sizeR5] at h1
  simp only [slT, Sem.run_bind, h1, Result.andThen_ok, Sem.run_pure]
  simp only [sliced, Int.toNat_natCast, Nat.mul_one]
  rw [if_neg (by omega)]
  simp [Addr.add]
theorem Prt.take {w : World} {p : Option Addr} {ls : List (List (BitVec 8))} (h : Prt w p ls) (k : Nat) : Prt w p (ls.take k) := fun i hi => by
  have hi' : i < k ∧ i < ls.length := by simp [List.length_take] at hi; omega
  have e : (ls.take k).getD i [] = ls.getD i [] := by simp [List.getD_eq_getElem?_getD, hi'.1]
  rw [e]
  exact h i hi'.2
theorem Prt.drop {w : World} {c o : Nat} {ls : List (List (BitVec 8))} (h : Prt w (some ⟨c, o, none⟩) ls) (k : Nat) : Prt w (some ⟨c, o + k, none⟩) (ls.drop k) := fun i hi => by
  rw [List.length_drop] at hi
  obtain ⟨c', o', q, cap, e, h1, h2, h3, h4⟩ := h (k + i) (by omega)
  injection e with e
  injection e with e1 e2
  subst e1 e2
  have hg : (ls.drop k).getD i [] = ls.getD (k + i) [] := by simp [List.getD_eq_getElem?_getD, List.getElem?_drop]
  rw [hg]
  exact ⟨c, o + k, q, cap, rfl, by rw [Nat.add_assoc]; exact h1, h2, h3, h4⟩
theorem enters_beq : ∀ args w, (callFunc 32 args).run Try.prog w = .ok (.enter 32 args) w := enters_of Try.func32 (by kernel_rfl) rfl
theorem enters_chk1 : ∀ args w, (callFunc 28 args).run Try.prog w = .ok (.enter 28 args) w := enters_of Try.func28 (by kernel_rfl) rfl
set_option maxHeartbeats 2000000 in
theorem eqf4_any (la lb : List (List (BitVec 8))) (p q : Option Addr) (n c d : Nat) (w : World) (ha : Prt w p la) (hb : Prt w q lb) (hla : la.length = n) (hlb : lb.length = n) (hn : n < 9223372036854775808) :
    Calls Try.prog 31 #[.slice p n c, .slice q n d, .func (.func 32) #[] #[]] w fun e w' => e = .returned (.bool (sameB la lb)) ∧ w = w' := by
  have HA := Lib.hid ha
  have HB := Lib.hid hb
  have HLA := Lib.hid hla
  have HLB := Lib.hid hlb
  clear ha hb hla hlb
  go_enter Try.func31, Try.ntmps31
  go_wp2
  go_loop [7, 8, 9, 17] (fun _ _ _ i => ∃ k : Nat, k ≤ n ∧ i = .int .i64 k ∧ (∀ i, i < k → la.getD i [] = lb.getD i [])) (fun _ _ _ i => n - (intOf i).toNat)
  case atStart => exact ⟨0, Nat.zero_le _, rfl, fun i hi => absurd hi (by omega)⟩
  case round =>
    obtain ⟨k, hk, rfl, hall⟩ := hrel
    have HALL := Lib.hid hall
    clear hall
    by_cases hlt : k < n
    · obtain ⟨c1, o1, q1, cap1, rfl, -, hc1, hs1, hq1, -⟩ := HA.out.at_ k (by rw [HLA.out]; exact hlt)
      obtain ⟨c2, o2, q2, cap2, rfl, -, hc2, hs2, hq2, -⟩ := HB.out.at_ k (by rw [HLB.out]; exact hlt)
      have hd0 : decide ((k : Int) < (n : Int)) = true := decide_eq_true (by omega)
      have hl0 : (k : Int) < (n : Int) := by omega
      have HKN := Lib.hid (show k < la.length by rw [HLA.out]; exact hlt)
      have HC := Lib.hid (bytes_equal (la.getD k []) (lb.getD k []) q1 q2 cap1 cap2 w hs1 hs2 hq1 hq2)
      clear hs1 hs2 hq1 hq2
      generalize hu : la.getD k [] = u at *
      generalize hz : lb.getD k [] = z at *
      have HU := Lib.hid hu
      have HZ := Lib.hid hz
      clear hu hz
      by_cases he : u = z
      · have HE := Lib.hid he
        have hde := decide_eq_true he
        clear he
        rw [hde] at HC
        clear hde
        go_wp2_with fail
        refine HC.out.mono ?_
        rintro e w' ⟨rfl, rfl⟩
        go_wp2
        go_round
        case rel =>
          refine ⟨k + 1, by omega, by go_num, fun i hi => ?_⟩
          rcases Nat.lt_or_ge i k with h | h
          · exact HALL.out i h
          · obtain rfl : i = k := by omega
            rw [HU.out, HZ.out, HE.out]
        case measure => simp [intOf]; omega
      · have hf : Hid (sameB la lb = false) := decide_eq_false fun e => he (by rw [← HU.out, ← HZ.out, e])
        have hde := decide_eq_false he
        clear he
        rw [hde] at HC
        clear hde
        go_wp2_with fail
        refine HC.out.mono ?_
        rintro e w' ⟨rfl, rfl⟩
        go_wp2
        go_ret
        exact ⟨by rw [hf.out]; rfl, rfl⟩
    · have hd0 : decide ((k : Int) < (n : Int)) = false := decide_eq_false (by omega)
      have hf : Hid (sameB la lb = true) := decide_eq_true (rows_ext (by rw [HLA.out, HLB.out]) fun i hi => HALL.out i (by rw [HLA.out] at hi; omega))
      go_wp2
      go_ret
      exact ⟨by rw [hf.out]; rfl, rfl⟩
theorem chk1_any (b c o n m m0 cap cap0 cap1 : Nat) (q q0 : Option Addr) (w : World) (h1 : w.cell? ⟨b, 0, none⟩ = some (.slice (some ⟨c, o, none⟩) n cap)) (h2 : w.cell? ⟨c, o, none⟩ = some (.slice q0 m0 cap0)) (hn : 0 < n) :
    Calls Try.prog 28 #[.slice q m cap1, .pointer (some ⟨b, 0, none⟩)] w fun e w' => e = .returned (.bool (decide (m ≠ m0))) ∧ w = w' := by
  have hn0 : (0 : Int) < (n : Int) := by omega
  by_cases h : m = m0
  · have hb : ((m : Int) != (m0 : Int)) = false := by simp; omega
    have hf : Hid (decide (m ≠ m0) = false) := decide_eq_false fun e => e h
    clear h
    go_enter Try.func28, Try.ntmps28
    go_wp2
    go_ret
    exact ⟨by rw [hf.out]; rfl, rfl⟩
  · have hb : ((m : Int) != (m0 : Int)) = true := by simp; omega
    have hb2 : ((m : Int) == (m0 : Int)) = false := by simp; omega
    have hb3 : decide (m = m0) = false := decide_eq_false h
    have hf : Hid (decide (m ≠ m0) = true) := decide_eq_true h
    clear h
    go_enter Try.func28, Try.ntmps28
    go_wp2
    go_ret
    exact ⟨by rw [hf.out]; rfl, rfl⟩
attribute [local go_sem ↓] exec_slice
attribute [local go_sem] slr_hi slr_lo
section
variable (b k m : Nat) (ls : List (List (BitVec 8))) (p : Option Addr) (n cap : Nat) (w : World)
set_option maxHeartbeats 2000000 in
theorem chk_a (hC : Cd w b k m) (hne : n ≠ k + m) (hn : n < 1000) : Calls Try.prog 18 #[.pointer (some ⟨b, 0, none⟩), .slice p n cap] w fun e w' => e = .returned (.int .i64 2) ∧ Below w.heap.size w w' := by
  have hB : Below w.heap.size w (w.alloc (.cells #[.slice p n cap] 23)) := (Below.refl _ _).alloc (Nat.le_refl _) _
  have HC := Lib.hid (hC.keep hB)
  have HB := Lib.hid hB
  have hx : (w.alloc (.cells #[.slice p n cap] 23)).cell? ⟨w.heap.size, 0, none⟩ = some (.slice p n cap) := by rw [World.cell?_alloc_new]; rfl
  have h1 : ((n : Int) != (k : Int) + (m : Int)) = true := by simp; omega
  have h2 : ((n : Int) == (k : Int) + (m : Int)) = false := by simp; omega
  clear hC hB hne
  go_enter Try.func18, Try.ntmps18
  go_wp2
  go_quiet ((go_at_call 29; exact Calls.quiet_of_same ((count_any b k m _ (HC.out.dr ((Dr.refl _).drewN _))).mono fun e w' ⟨he, hw⟩ => ⟨he, hw.symm⟩)))
  go_wp2
  go_ret
  exact ⟨rfl, below_drewN HB.out _⟩
set_option maxHeartbeats 4000000 in
theorem chk_any (hC : Cd w b k m) (hs : Prt w p ls) (hl : ls.length = n) (hn : n < 1000) (hcap : n ≤ cap) (hlen : ∀ i, i < n → (ls.getD i []).length < 100000) :
    Calls Try.prog 18 #[.pointer (some ⟨b, 0, none⟩), .slice p n cap] w fun e w' => e = .returned (.int .i64 (chkI k m ls)) ∧ Below w.heap.size w w' := by
  have hk1 := hC.k1
  have hm1 := hC.m1
  have hkm := hC.hi
  by_cases hne : n ≠ k + m
  · rw [chk_len (by rw [hl]; exact hne)]
    exact chk_a b k m p n cap w hC hne hn
  have hne : n = k + m := Decidable.byContradiction hne
  have hB : Below w.heap.size w (w.alloc (.cells #[.slice p n cap] 23)) := (Below.refl _ _).alloc (Nat.le_refl _) _
  obtain ⟨c, o, q0, cap0, rfl, hc0, hc, -, -⟩ := hs.at_ 0 (by omega)
  rw [Nat.add_zero] at hc
  have hask : ∀ w', Dr (w.alloc (.cells #[.slice (some ⟨c, o, none⟩) n cap] 23)) w' → Asks 28 #[.pointer (some ⟨w.heap.size, 0, none⟩)] ls (oddB ls) w' := by
    intro w' hD i hi q cap' hsl
    exact chk1_any w.heap.size c o n _ _ cap cap0 cap' q q0 _ (by rw [hD.cell, World.cell?_alloc_new]; rfl) (by rw [hD.cell, ((Below.refl w.heap.size w).alloc (Nat.le_refl _) _).cell (by exact hc0)]; exact hc) (by omega)
  have HC := Lib.hid (hC.keep hB)
  have HB := Lib.hid hB
  have HA := Lib.hid hask
  have HS := Lib.hid (hs.of_below hB)
  have HL := Lib.hid hl
  have HLEN := Lib.hid hlen
  have HKM := Lib.hid hne
  have hx : (w.alloc (.cells #[.slice (some ⟨c, o, none⟩) n cap] 23)).cell? ⟨w.heap.size, 0, none⟩ = some (.slice (some ⟨c, o, none⟩) n cap) := by rw [World.cell?_alloc_new]; rfl
  have h1 : ((n : Int) != (k : Int) + (m : Int)) = false := by simp; omega
  have h2 : ((n : Int) == (k : Int) + (m : Int)) = true := by simp; omega
  rcases hit_or (oddB ls) n with ⟨t, ht⟩ | ht
  · have hf : Hid (chkI k m ls = 2) := by
      show chkI k m ls = 2
      unfold chkI
      rw [if_neg]
      intro g
      have g1 := (of_decide_eq_true g).2 t (by rw [hl]; exact ht.1)
      exact of_decide_eq_true ht.2.1 g1
    have HT := Lib.hid ht
    clear hC hB hne hask hs hl hlen ht hc hc0
    go_enter Try.func18, Try.ntmps18
    go_wp2
    go_quiet ((first | (go_at_call 29; exact Calls.quiet_of_same ((count_any b k m _ (HC.out.dr ((Dr.refl _).drewN _))).mono fun e w' ⟨he, hw⟩ => ⟨he, hw.symm⟩)) | (go_at_call 30; exact Calls.quiet_of_same ((contains_hit _ _ enters_chk1 ls (oddB ls) _ n cap _ (HA.out _ ⟨_, rfl⟩) (HS.out.dr ((Dr.refl _).drewN _)) HL.out (by omega) t HT.out).mono fun e w' ⟨he, hw⟩ => ⟨he, hw.symm⟩))))
    go_wp2
    go_ret
    exact ⟨by rw [hf.out]; rfl, below_drewN HB.out _⟩
  · have hev : evB ls (k + m) = true := decide_eq_true ⟨by omega, fun i hi => Decidable.byContradiction fun e => of_decide_eq_false (ht i (by omega)) e⟩
    have hrow := (of_decide_eq_true hev).2
    have hf : Hid (chkI k m ls = if ls.drop k = parL k m (ls.take k) then 0 else 11) := by
      show chkI k m ls = _
      unfold chkI
      rw [if_pos hev]
    have e0 : (ls.take k).getD 0 [] = ls.getD 0 [] := by simp [List.getD_eq_getElem?_getD, show 0 < k by omega]
    have HTL := Lib.hid (show (ls.take k).length = k by rw [List.length_take]; omega)
    have HTR := Lib.hid (show ∀ i, i < k → ((ls.take k).getD i []).length = (ls.getD 0 []).length from fun i hi => by
      have e : (ls.take k).getD i [] = ls.getD i [] := by simp [List.getD_eq_getElem?_getD, hi]
      rw [e]; exact hrow i (by omega))
    have HPL := Lib.hid (show parL k m (ls.take k) = rowsL m (ls.getD 0 []).length (mm k (cau k) (mx (ls.take k))) by unfold parL; rw [e0])
    have hL0 := hlen 0 (by omega)
    have HT := Lib.hid ht
    have hkc : k ≤ cap := by omega
    have hkn : k < n := by omega
    have hnk : n - k = m := by omega
    have HDL := Lib.hid (show (ls.drop k).length = m by rw [List.length_drop]; omega)
    clear hC hB hne hask hs hl hlen ht hc hc0 hev hrow e0
    generalize (ls.getD 0 []).length = L at *
    go_enter Try.func18, Try.ntmps18
    go_wp2
    go_quiet ((first | (go_at_call 29; exact Calls.quiet_of_same ((count_any b k m _ (HC.out.dr ((Dr.refl _).drewN _))).mono fun e w' ⟨he, hw⟩ => ⟨he, hw.symm⟩)) | (go_at_call 30; exact Calls.quiet_of_same ((contains_miss _ _ enters_chk1 ls (oddB ls) _ n cap _ (HA.out _ ⟨_, rfl⟩) (HS.out.dr ((Dr.refl _).drewN _)) HL.out (by omega) HT.out).mono fun e w' ⟨he, hw⟩ => ⟨he, hw.symm⟩))))
    have HC1 := Lib.hid (HC.out.dr ((Dr.refl _).drewN nq))
    have HS1 := Lib.hid (HS.out.dr ((Dr.refl _).drewN nq))
    have HB1 := Lib.hid (below_drewN HB.out nq)
    have hx1 : ((w.alloc (.cells #[.slice (some ⟨c, o, none⟩) n cap] 23)).drewN nq).cell? ⟨w.heap.size, 0, none⟩ = some (.slice (some ⟨c, o, none⟩) n cap) := hx
    have hlt1 : w.heap.size < ((w.alloc (.cells #[.slice (some ⟨c, o, none⟩) n cap] 23)).drewN nq).heap.size := World.block_lt_of_cell? _ _ hx1
    clear hx HA HC HS HB
    generalize (w.alloc (.cells #[.slice (some ⟨c, o, none⟩) n cap] 23)).drewN nq = w1 at *
    generalize hE : w.heap.size = E at *
    have HE := Lib.hid hE
    clear hE
    go_wp2_with fail
    go_region_held3 (fun w' : World => w'.cell? ⟨E, 0, none⟩ = some (.slice (some ⟨c, o, none⟩) n cap)) (first | exact hx1 | exact x2) ((first | (go_at_call 21; refine (data_any b k m _ (HC1.out.dr (Dr.refl _).drew)).mono ?_; rintro e w' ⟨rfl, rfl⟩) | (go_at_call 14; refine (encode_ok b k m (ls.take k) _ cap _ L (HC1.out.dr (Dr.refl _).drew) ((HS1.out.dr (Dr.refl _).drew).take k) HTL.out HTR.out hL0).mono ?_; rintro e w2 ⟨G2, D2, rfl, hM2, hB2⟩; have hb2 : Below w1.heap.size w1 w2 := (Below.refl _ _).drew.trans (by exact hB2); have x2 : w2.cell? ⟨E, 0, none⟩ = some (.slice (some ⟨c, o, none⟩) n cap) := (by rw [hb2.cell (by exact hlt1)]; exact hx1); have HM2 := Lib.hid hM2; have HB2 := Lib.hid hb2; clear hM2 hB2 hb2)))
    have HS2 := Lib.hid (HS1.out.of_below HB2.out)
    have HC2 := Lib.hid (HC1.out.keep HB2.out)
    have HBB := Lib.hid (HB1.out.trans (HB2.out.mono (Nat.le_of_lt hlt1)))
    have HP2 := Lib.hid (show Prt w2 (some ⟨G2, 0, none⟩) (parL k m (ls.take k)) by rw [HPL.out]; exact HM2.out.prt)
    have HSM := Lib.hid (show sameB (parL k m (ls.take k)) (ls.drop k) = decide (ls.drop k = parL k m (ls.take k)) by unfold sameB; rw [decide_eq_decide]; exact ⟨Eq.symm, Eq.symm⟩)
    rw [show (if ls.drop k = parL k m (ls.take k) then (0 : Int) else 11) = if decide (ls.drop k = parL k m (ls.take k)) = true then 0 else 11 by simp] at hf
    clear hx1 HM2 HS1 HC1 HB1
    cases hsm : decide (ls.drop k = parL k m (ls.take k)) with
    | true =>
      rw [hsm] at HSM hf
      clear hsm
      go_wp2
      go_quiet ((first | (go_at_call 21; exact Calls.quiet_of_same ((data_any b k m _ (HC2.out.dr ((Dr.refl _).drewN _))).mono fun e w' ⟨he, hw⟩ => ⟨he, hw.symm⟩)) | (go_at_call 31; exact Calls.quiet_of_same ((eqf4_any (parL k m (ls.take k)) (ls.drop k) _ _ m _ _ _ (HP2.out.dr ((Dr.refl _).drewN _)) ((HS2.out.dr ((Dr.refl _).drewN _)).drop k) (parL_length _ _ _) HDL.out (by omega)).mono fun e w' ⟨he, hw⟩ => ⟨he.trans (by rw [HSM.out]), hw.symm⟩))))
      go_wp2
      go_ret
      exact ⟨by rw [hf.out]; rfl, by rw [HE.out]; exact below_drewN HBB.out _⟩
    | false =>
      rw [hsm] at HSM hf
      clear hsm
      go_wp2
      go_quiet ((first | (go_at_call 21; exact Calls.quiet_of_same ((data_any b k m _ (HC2.out.dr ((Dr.refl _).drewN _))).mono fun e w' ⟨he, hw⟩ => ⟨he, hw.symm⟩)) | (go_at_call 31; exact Calls.quiet_of_same ((eqf4_any (parL k m (ls.take k)) (ls.drop k) _ _ m _ _ _ (HP2.out.dr ((Dr.refl _).drewN _)) ((HS2.out.dr ((Dr.refl _).drewN _)).drop k) (parL_length _ _ _) HDL.out (by omega)).mono fun e w' ⟨he, hw⟩ => ⟨he.trans (by rw [HSM.out]), hw.symm⟩))))
      go_wp2
      go_ret
      exact ⟨by rw [hf.out]; rfl, by rw [HE.out]; exact below_drewN HBB.out _⟩
end
end Go.Proofs.Ytphpliclecmnlaa
/- copy of bytes into a row of the call's own: as many as the shorter one has. -/
namespace Go.Proofs.Ytphpliclecmnlaa
open Go Go.RowKit

/-- A cut of bytes from any number of them on. -/
theorem slb_lo (q : Option Addr) (n cap k : Nat) (w : World) (hk : k ≤ n) :
    (slT 38 (.slice q n cap) (some (.int .i64 (k : Int))) none none).run Try.prog w = .ok (.value (.slice (cutA q cap k) (n - k) (cap - k))) w := by
  have h1 := run_sliceAt_slice (P := Try.prog) w 38 (.slice q n cap) (some (.int .i64 (k : Int))) none none und35
  rw [run_slice_l (P := Try.prog) w 38 q n cap und35 .i64 (k : Int) (by omega) (by omega), sizeB] at h1
  simp only [slT, Sem.run_bind, h1, Result.andThen_ok, Sem.run_pure]
  simp only [sliced, Int.toNat_natCast, Nat.mul_one, cutA]
/-- What the copy leaves. -/
def copied1 (l : List (BitVec 8)) (t : Nat) (g : Nat → Value) : Nat → Value := fun j => if j < t then B (l.getD j 0#8) else g j
theorem run_copyM (w : World) (ty : TypeId) (E m c : Nat) (g : Nat → Value) (q : Option Addr) (n c' : Nat) (l : List (BitVec 8)) (hR : Row w E 5 m g) (hl : l.length = n) (hsl : Sl w q l) (t : Nat) (ht : t = min m n) :
    ∃ w', (Builtin.copy_ #[38, 38] ty #[.slice (some ⟨E, 0, none⟩) m c, .slice q n c']).run Try.prog w = .ok (.int .i64 (t : Int)) w' ∧ Row w' E 5 m (copied1 l t g) ∧ Kp E w w' := by
  by_cases h0 : t = 0
  · subst h0
    have hn : Nat.min n m = 0 := by show min n m = 0; omega
    refine ⟨w, ?_, hR.congr fun j _ => by rw [copied1, if_neg (by omega)], Kp.refl _ _⟩
    have := run_copy_none (P := Try.prog) w 38 38 ty 5 (some ⟨E, 0, none⟩) q m c n c' und35 (by kernel_rfl) hn
    rw [this]
    rfl
  · obtain ⟨c0, o0, rfl, hc⟩ := hsl 0 (by omega)
    have hlen : ((l.take t).map B).length = t := by rw [List.length_map, List.length_take]; omega
    have key := run_copy_row (P := Try.prog) w 38 38 ty 5 E 0 m c ⟨c0, o0, none⟩ n c' (tab m g) 5 ((l.take t).map B) und35 (by kernel_rfl) hR (by rw [hlen, ht]; exact Nat.min_comm _ _)
      (fun j v hv => by
        have hj : j < t := by
          have := (List.getElem?_eq_some_iff.1 hv).1
          rw [hlen] at this; exact this
        refine hsl.news j v ?_
        rw [List.getElem?_map] at hv ⊢
        rw [List.getElem?_take, if_pos hj] at hv
        exact hv) (by rw [tab_size, hlen]; omega) (one_map _)
    have e : ((tab m g).toList.take 0 ++ (l.take t).map B ++ (tab m g).toList.drop (0 + ((l.take t).map B).length)).toArray = tab m (copied1 l t g) := by
      have := tab_splice m t g (l.take t) (by rw [List.length_take]; omega) (by omega)
      rw [List.append_assoc, this]
      refine tab_congr fun j _ => ?_
      unfold copied1
      by_cases hj : j < t
      · rw [if_pos hj, if_pos hj]; congr 1; simp [List.getD_eq_getElem?_getD, hj]
      · rw [if_neg hj, if_neg hj]
    rw [e, hlen] at key
    exact ⟨_, key, setRow_heap w E _ _ 5 _ hR, ⟨rfl, rfl, rfl, by simp [World.setRow], fun k _ hk => setRow_other w E k _ hk⟩⟩
section
variable {ops : Array Oper} {rest : List Oper} {o : Oper} {a : Act} {Q : Exit → Act → World → Prop} (w : World) (hgd : o.guard = none) (d s : Operand)
    (ho : o.op = .call { callee := .builtin .copy, args := #[d, s], argTypes := #[38, 38] }) (E m c : Nat) (g : Nat → Value) (q : Option Addr) (n c' : Nat) (l : List (BitVec 8))
    (hd : a.eval d = .slice (some ⟨E, 0, none⟩) m c) (hs : a.eval s = .slice q n c') (hR : Row w E 5 m g) (hl : l.length = n) (hsl : Sl w q l) (t : Nat) (ht : t = min m n)
include hgd ho hd hs hR hl hsl ht
theorem wpl_copyM (h : ∀ w', Row w' E 5 m (copied1 l t g) → Kp E w w' → wpList Try.prog ops Q rest (a.put o.dst (.int .i64 (t : Int))) w') : wpList Try.prog ops Q (o :: rest) a w := by
  refine wpList_plain hgd fun K hK => ?_
  obtain ⟨w', hr, h2, h3⟩ := run_copyM w o.type E m c g q n c' l hR hl hsl t ht
  unfold Oper.wp execOp
  simp only [ho, resolve, invoke, builtin, Sem.run_bind, Sem.run_pure, Result.andThen_ok, List.map_toArray, List.map_cons, List.map_nil, hd, hs, hr]
  exact hK _ _ (h w' h2 h3)
theorem step_copyM {K : Act → World → Prop} {Q : Exit → Act → World → Prop} {F : Prop} (h : ∀ w', Row w' E 5 m (copied1 l t g) → Kp E w w' → K (a.put o.dst (.int .i64 (t : Int))) w') :
    if Region.wanted o (yielded ops a.tmps) = true then Oper.wp Try.prog o a w K Q else F := by
  have hw : Region.wanted o (yielded ops a.tmps) = true := by simp [Region.wanted, hgd]
  rw [if_pos hw]
  obtain ⟨w', hr, h2, h3⟩ := run_copyM w o.type E m c g q n c' l hR hl hsl t ht
  unfold Oper.wp execOp
  simp only [ho, resolve, invoke, builtin, Sem.run_bind, Sem.run_pure, Result.andThen_ok, List.map_toArray, List.map_cons, List.map_nil, hd, hs, hr]
  exact h w' h2 h3
end
end Go.Proofs.Ytphpliclecmnlaa
/- The program's Cut. -/
namespace Go.Proofs.Ytphpliclecmnlaa
open Go Go.RowKit

attribute [local go_sem ↓] exec_store exec_make exec_slice
attribute [local go_sem] st_H mkB mkR slb_lo
set_option maxRecDepth 100000 in
set_option maxHeartbeats 8000000 in
theorem cut_any (b k m : Nat) (l : List (BitVec 8)) (p : Option Addr) (n cap : Nat) (w : World) (hC : Cd w b k m) (hs : Sl w p l) (hl : l.length = n) (hn : n < 100000) (hcap : n ≤ cap) :
    Calls Try.prog 20 #[.pointer (some ⟨b, 0, none⟩), .slice p n cap] w fun e w' => ∃ q c, e = .returned (.tuple #[.slice q k c, .int .i64 ((cutEach k n : Nat) : Int)]) ∧ Prt w' q (cutL k l) ∧ Below w.heap.size w w' := by
  have hk1 := hC.k1
  have hk2 : k ≤ 32 := by have := hC.hi; omega
  have hkn : k < 100000000 := by omega
  obtain ⟨L, hL⟩ : ∃ L, L = cutEach k n := ⟨_, rfl⟩
  have hLn : L ≤ 100100 := by
    rw [hL]; unfold cutEach
    exact Nat.le_trans (Nat.div_le_self _ _) (by omega)
  have hL4 : L < 4294967296 := by omega
  have HC := Lib.hid hC
  have HS := Lib.hid hs
  have HL := Lib.hid hl
  have HLL := Lib.hid hL
  have i1 : IntKind.i64.wrap ((n : Int) + (k : Int)) = (n : Int) + (k : Int) := IntWalk.i64_in _ (by omega)
  have i2 : IntKind.i64.wrap ((n : Int) + (k : Int) - 1) = (n : Int) + (k : Int) - 1 := IntWalk.i64_in _ (by omega)
  have i3 : ((n : Int) + (k : Int) - 1).tdiv (k : Int) = (L : Int) := by
    rw [Int.tdiv_eq_ediv_of_nonneg (by omega), hL, cutEach, Int.natCast_ediv]
    congr 1
    omega
  have i4 : IntKind.i64.wrap (L : Int) = (L : Int) := IntWalk.i64_in _ (by omega)
  have i5 : ((n : Int) + (k : Int) - 1) / (k : Int) = (L : Int) := by
    rw [← i3, Int.tdiv_eq_ediv_of_nonneg (by omega)]
  have hk0 : ((k : Int) == 0) = false := by simp; omega
  have hk00 : (0 : Int) < (k : Int) := by omega
  have hmat : Mp (w.alloc (.cells (tab k (fun _ => .slice none 0 0)) 38)) w.heap.size w.heap.size k 0 L (fun _ => 0) (fun i j => l.getD (i * L + j) 0#8) := Mp.zero (Row.new w _ k _) (Nat.le_refl _)
  have hb0 : Below w.heap.size w (w.alloc (.cells (tab k (fun _ => .slice none 0 0)) 38)) := (Below.refl _ _).alloc (Nat.le_refl _) _
  clear hC hs hl hL
  go_enter Try.func20, Try.ntmps20
  go_wp2_with fail
  refine (data_any b k m w HC.out).mono ?_
  rintro e w1 ⟨rfl, rfl⟩
  go_wp2
  generalize w.alloc (.cells (tab k (fun _ => .slice none 0 0)) 38) = w1 at *
  have HM := Lib.hid hmat
  have HB0 := Lib.hid hb0
  clear hmat hb0 i1 i2 i3 i4 i5 hk0 HC
  generalize hN : w.heap.size = N at *
  have HN := Lib.hid hN
  clear hN
  obtain ⟨A, hA⟩ : ∃ A : Mx, A = fun i j => l.getD (i * L + j) 0#8 := ⟨_, rfl⟩
  rw [← hA] at HM
  have HA := Lib.hid hA
  clear hA
  go_loopw [9, 23] (fun _ i wr => ∃ i0 : Nat, i0 ≤ k ∧ i = .int .i64 i0 ∧ ∃ D, Mp wr N N k i0 L D A ∧ Below N w wr) (fun _ i _ => k - (intOf i).toNat)
  case atStart => exact ⟨0, Nat.zero_le _, rfl, _, HM.out, HB0.out⟩
  case round =>
    clear HM HB0
    obtain ⟨i0, hi0, rfl, D, hM, hB⟩ := hrel
    rename World => WO
    have HM := Lib.hid hM
    have HBr := Lib.hid hB
    have hNlt : N < WO.heap.size := hM.ltG
    by_cases hlt : i0 < k
    · have hd0 : decide ((i0 : Int) < (k : Int)) = true := decide_eq_true (by omega)
      have hl0 : (i0 : Int) < (k : Int) := by omega
      have hbA : Below WO.heap.size WO (WO.alloc (.cells (zb L) 5)) := (Below.refl _ _).alloc (Nat.le_refl _) _
      have hr : Row (WO.alloc (.cells (zb L) 5)) WO.heap.size 5 L (fun j => B 0#8) := Row.new WO _ L _
      have hMA := hM.of_below hbA
      have hc2 : WO.cell? ⟨N, i0, none⟩ = some (hdr i0 L D i0) := hM.hds.cell i0 hlt
      have hf2 : WO.frozen? ⟨N, i0, none⟩ = false := hM.free i0
      have hMB := hMA.put i0 WO.heap.size (fun _ => 0#8) hr (i0 + 1) (.inr ⟨rfl, rfl⟩) (fun j hj _ => by have := hM.lt j hj; omega) (by omega) (by omega)
      have HB1 := Lib.hid (show Below N w ((WO.setCell ⟨N, i0, none⟩ (.slice (some ⟨WO.heap.size, 0, none⟩) L L)).alloc (.cells (zb L) 5)) from ((hB.setCell (Nat.le_refl _) _).alloc (by simp; omega) _))
      have hcomm : (WO.alloc (.cells (zb L) 5)).setCell ⟨N, i0, none⟩ (.slice (some ⟨WO.heap.size, 0, none⟩) L L) = (WO.setCell ⟨N, i0, none⟩ (.slice (some ⟨WO.heap.size, 0, none⟩) L L)).alloc (.cells (zb L) 5) := World.setCell_alloc_past _ N i0 _ hNlt
      rw [hcomm] at hMB
      have HM1 := Lib.hid hMB
      have hcm : (WO.alloc (.cells (zb L) 5)).cell? ⟨N, i0, none⟩ = some (hdr i0 L D i0) := hMA.hds.cell i0 hlt
      have e1 : setD D i0 WO.heap.size i0 = WO.heap.size := if_pos rfl
      have hx1 := hMB.cellH i0 (Nat.lt_succ_self _) hlt
      rw [e1] at hx1
      have hrowE := hMB.row i0 (Nat.lt_succ_self _)
      rw [e1] at hrowE
      have HE1 := Lib.hid e1
      have HRE := Lib.hid hrowE
      have HNW := Lib.hid hNlt
      obtain ⟨P, hP⟩ : ∃ P, P = i0 * L := ⟨_, rfl⟩
      have hPL : P ≤ 32 * 100100 := by rw [hP]; exact Nat.mul_le_mul (by omega) hLn
      have hPi : (i0 : Int) * (L : Int) = (P : Int) := by rw [hP]; simp
      have hw : IntKind.i64.wrap (P : Int) = (P : Int) := IntWalk.i64_in _ (by omega)
      obtain ⟨S, hS⟩ : ∃ S, S = min P n := ⟨_, rfl⟩
      have hSi : min (P : Int) (n : Int) = (S : Int) := by omega
      have hSn : S ≤ n := by omega
      have HPP := Lib.hid hP
      have HSS := Lib.hid hS
      clear hbA hr hMA hMB hM hB hcomm e1 hrowE hP hS
      go_wp2
      clear hc2 hf2 hcm
      generalize (WO.setCell ⟨N, i0, none⟩ (.slice (some ⟨WO.heap.size, 0, none⟩) L L)).alloc (.cells (zb L) 5) = w3 at *
      generalize WO.heap.size = E at *
      refine wp_region_still_tail 12 (by kernel_rfl) (by kernel_rfl) ?_
      simp only [List.take_succ_cons, List.take_zero, List.drop_succ_cons, List.drop_zero, World.drew_eq]
      repeat (refine wpStill_step (fun K hK => ?_); go_simp; refine hK _ ?_; clear hK K)
      refine wpStill_nil ?_
      obtain ⟨T, hT⟩ : ∃ T, T = min L (n - S) := ⟨_, rfl⟩
      have HT := Lib.hid hT
      clear hT
      have HSL := Lib.hid (show Sl w3.drew (cutA p cap S) (l.drop S) from ((HS.out.drop (by rw [HL.out]; exact hcap) S).of_below (show Below w.heap.size w w3 by rw [HN.out]; exact HB1.out)).dr (Dr.refl _).drew)
      have HLD := Lib.hid (show (l.drop S).length = n - S by rw [List.length_drop, HL.out])
      go_wp2_with (first | (refine wpl_copyM _ rfl (.tmp 34) (.tmp 42) rfl E L L (fun j => B (setr A i0 (fun _ => 0#8) i0 j)) (cutA p cap S) (n - S) (cap - S) (l.drop S) rfl rfl HRE.out.drew HLD.out HSL.out T HT.out ?_; rintro w5 hR5 hK5; have HR5 := Lib.hid hR5; have HK5 := Lib.hid hK5; clear hR5 hK5))
      go_roundw
      case rel =>
        have hk : Kp E w3 w5 := (Kp.drewN (Kp.refl E w3) 1).trans HK5.out
        have hr := HR5.out.congr (g' := fun j => B (A i0 j)) fun j hj => by
          have hP := HPP.out
          have hS := HSS.out
          have hT := HT.out
          have hl := HL.out
          have hA : A i0 j = l.getD (P + j) 0#8 := by rw [HA.out, hP]
          show copied1 _ _ _ j = B (A i0 j)
          unfold copied1
          rw [hA]
          by_cases h1 : j < T
          · rw [if_pos h1]
            have : S = P := by omega
            congr 1
            simp [List.getD_eq_getElem?_getD, List.getElem?_drop, this]
          · rw [if_neg h1]
            show B (setr A i0 (fun _ => 0#8) i0 j) = _
            rw [setr, if_pos rfl]
            have : n ≤ P + j := by omega
            congr 1
            rw [List.getD_eq_getElem?_getD, List.getElem?_eq_none (by omega)]; rfl
        have e1 := HE1.out
        have hm := HM1.out.alter (D := setD D i0 E) i0 (Nat.lt_succ_self _) _ (by rw [e1]; exact hk) (by rw [e1]; exact hr)
        refine ⟨i0 + 1, by omega, by go_num, _, hm.congr fun x y hx hy => ?_, HB1.out.trans (hk.below (Nat.le_of_lt HNW.out) (Nat.le_of_lt HM1.out.ltG))⟩
        by_cases h1 : x = i0
        · rw [setr, if_pos h1, h1]
        · rw [setr, if_neg h1, setr, if_neg h1]
      case measure => simp [intOf]; omega
    · have hd0 : decide ((i0 : Int) < (k : Int)) = false := decide_eq_false (by omega)
      obtain rfl : i0 = k := by omega
      clear hM hB
      go_wp2
      go_ret2
      refine ⟨some ⟨N, 0, none⟩, i0, by rw [← HLL.out]; rfl, ?_, by rw [HN.out]; exact HBr.out⟩
      unfold cutL
      rw [HL.out, ← HLL.out, ← HA.out]
      exact HM.out.prt
end Go.Proofs.Ytphpliclecmnlaa
/- Slices of ints of the call's own, two side by side; a matrix whose rows are appended to. -/
namespace Go.Proofs.Ytphpliclecmnlaa
open Go Go.RowKit

theorem infoI : (Try.prog.info? 3).map (fun i => (i.zero, i.size, i.bytes)) = some (some (.int .i64 0), 1, 8) := by kernel_rfl
theorem undI : Try.prog.underlying 64 = some (.slice 3) := by kernel_rfl
def vI (n : Nat) : Value := .int .i64 (n : Int)
/-- The slice v, among the blocks from base on, holds the ints l. -/
def OwnI (w : World) (base : Nat) (v : Value) (l : List Nat) : Prop := w.ownsRow base 3 1 v l.length (l.map vI)
section
variable {w w' : World} {base : Nat} {v : Value} {l : List Nat}
theorem OwnI.lt (h : OwnI w base v l) : ∀ k, v.ownBlock = some k → base ≤ k ∧ k < w.heap.size := World.ownsRow.lt h
theorem OwnI.keep (h : OwnI w base v l) (hb : ∀ k, v.ownBlock = some k → w'.heap[k]? = w.heap[k]?) : OwnI w' base v l := by
  refine ⟨h.1, ?_⟩
  rcases h.2 with h' | ⟨g, cap, cur, hv, h1, hg, r⟩
  · exact .inl h'
  · exact .inr ⟨g, cap, cur, hv, h1, by rw [hb g (by rw [hv]; rfl)]; exact hg, r⟩
theorem OwnI.of_below (h : OwnI w base v l) (k : Below w.heap.size w w') : OwnI w' base v l := h.keep fun g hg => k.block g (h.lt g hg).2
theorem OwnI.nil (w : World) (base : Nat) : OwnI w base (.slice none 0 0) [] := ⟨rfl, .inl ⟨rfl, rfl⟩⟩
theorem OwnI.cells (h : OwnI w base v l) : ∃ p cap, v = .slice p l.length cap ∧ ∀ j, j < l.length → ∃ g, p = some ⟨g, 0, none⟩ ∧ w.cell? ⟨g, j, none⟩ = some (.int .i64 ((l.getD j 0 : Nat) : Int)) := by
  rcases h.2 with ⟨hv, hl⟩ | ⟨g, cap, cur, hv, _, hg, hle, _, hsz, ht⟩
  · exact ⟨none, 0, by rw [hv, hl], fun j hj => absurd hj (by omega)⟩
  · refine ⟨some ⟨g, 0, none⟩, cap, hv, fun j hj => ⟨g, rfl, ?_⟩⟩
    rw [cell_of_row w g j cur 3 (0, 0) hg]
    have h1 : (cur.toList.take (l.length * 1))[j]? = (l.map vI)[j]? := by rw [ht]
    rw [List.getElem?_take, if_pos (by omega)] at h1
    simpa [hj, vI] using h1
end
/-- Two such slices, apart from each other. -/
structure Pr (w : World) (N : Nat) (r s : Value) (rl sl : List Nat) : Prop where
  own1 : OwnI w N r rl
  own2 : OwnI w N s sl
  sep : ∀ g, r.ownBlock = some g → s.ownBlock ≠ some g
section
variable {w w' : World} {N : Nat} {r s : Value} {rl sl : List Nat}
theorem Pr.symm (h : Pr w N r s rl sl) : Pr w N s r sl rl := ⟨h.own2, h.own1, fun g e1 e2 => h.sep g e2 e1⟩
theorem Pr.nil (w : World) (N : Nat) : Pr w N (.slice none 0 0) (.slice none 0 0) [] [] := ⟨OwnI.nil w N, OwnI.nil w N, fun g e => by cases e⟩
theorem Pr.of_below (h : Pr w N r s rl sl) (k : Below w.heap.size w w') : Pr w' N r s rl sl := ⟨h.own1.of_below k, h.own2.of_below k, h.sep⟩
theorem Pr.push (h : Pr w N r s rl sl) {g n c : Nat} {rl' : List Nat} (hO : OwnI w' N (.slice (some ⟨g, 0, none⟩) n c) rl') (hg : w.grownBy w' r.ownBlock) (hor : r.ownBlock = some g ∨ g = w.heap.size) : Pr w' N (.slice (some ⟨g, 0, none⟩) n c) s rl' sl := by
  refine ⟨hO, h.own2.keep fun k hk => hg.block k (h.own2.lt k hk).2 fun e => h.sep k e.symm hk, fun k hk e => ?_⟩
  have hk' : g = k := by simpa [Value.ownBlock] using hk
  subst hk'
  rcases hor with h1 | h1
  · exact h.sep g h1 e
  · have := (h.own2.lt g e).2
    omega
end
theorem bs1I (x : Int) (w : World) : (bsT 64 1 #[(0, .int .i64 x)]).run Try.prog w = .ok (.value (.slice (some ⟨w.heap.size, 0, none⟩) 1 1)) (w.alloc (.cells #[.int .i64 x] 3)) := by kernel_rfl
theorem bs1B (x : BitVec 8) (w : World) : (bsT 38 1 #[(0, B x)]).run Try.prog w = .ok (.value (.slice (some ⟨w.heap.size, 0, none⟩) 1 1)) (w.alloc (.cells #[B x] 5)) := by kernel_rfl
/-- One int appended. -/
theorem wpl_pushI {ops : Array Oper} {rest : List Oper} {o : Oper} {a : Act} {Q : Exit → Act → World → Prop} (w : World) (hgd : o.guard = none) (s x : Operand)
    (ho : o.op = .call { callee := .builtin .append, args := #[s, x], argTypes := #[64, 64] })
    (base : Nat) (v : Value) (l : List Nat) (hs : a.eval s = v) (hown : OwnI w base v l) (ad : Addr) (hx : a.eval x = .slice (some ad) 1 1) (u : Nat) (hc : w.cell? ad = some (.int .i64 (u : Int)))
    (n0 : Nat) (hn0 : l.length = n0) (hlen : n0 < 100000000) (hb : base ≤ w.heap.size)
    (h : ∀ g cap' w', OwnI w' base (.slice (some ⟨g, 0, none⟩) (n0 + 1) cap') (l ++ [u]) → w.grownBy w' v.ownBlock → (v.ownBlock = some g ∨ g = w.heap.size) → wpList Try.prog ops Q rest (a.put o.dst (.slice (some ⟨g, 0, none⟩) (n0 + 1) cap')) w') : wpList Try.prog ops Q (o :: rest) a w := by
  subst hn0
  obtain ⟨i0, hi, hz0, hz1, hz2⟩ := info_parts infoI
  exact wpList_append_lies (P := Try.prog) (w := w) hgd s x 64 ho base 3 i0 (.int .i64 0) 1 8 undI hi hz0 hz1 hz2 rfl (by decide) v l.length (l.map vI) hs hown ad 1 1 [vI u] hx rfl
    (fun j u' hu => by
      have : j = 0 := by
        rcases Nat.eq_zero_or_pos j with h | h
        · exact h
        · rw [List.getElem?_eq_none (by simp; omega)] at hu; cases hu
      subst this
      rw [Addr.add_zero', hc]
      simpa [vI] using hu)
    (by intro u' hu; simp at hu; subst hu; rfl) (by decide) (by simp only [maxLen]; omega) (by omega) hb w.heap.size rfl
    (fun g cap' w' h2 h3 h4 _ => h g cap' w' (by unfold OwnI; rw [List.length_append, List.map_append]; exact h2) h3 h4)
/-- One byte appended, at a step of a region that draws its order. -/
theorem step_pushB {ops : Array Oper} {o : Oper} {a : Act} {w : World} {K : Act → World → Prop} {Q : Exit → Act → World → Prop} {E : Prop} (hgd : o.guard = none) (s x : Operand)
    (ho : o.op = .call { callee := .builtin .append, args := #[s, x], argTypes := #[38, 38] })
    (base : Nat) (v : Value) (l : List (BitVec 8)) (hs : a.eval s = v) (hown : OwnB w base v l) (ad : Addr) (hx : a.eval x = .slice (some ad) 1 1) (u : BitVec 8) (hc : w.cell? ad = some (B u))
    (n0 : Nat) (hn0 : l.length = n0) (hlen : n0 < 100000000) (hb : base ≤ w.heap.size)
    (h : ∀ g cap' w', OwnB w' base (.slice (some ⟨g, 0, none⟩) (n0 + 1) cap') (l ++ [u]) → w.grownBy w' v.ownBlock → (v.ownBlock = some g ∨ g = w.heap.size) → K (a.put o.dst (.slice (some ⟨g, 0, none⟩) (n0 + 1) cap')) w') :
    if Region.wanted o (yielded ops a.tmps) = true then Oper.wp Try.prog o a w K Q else E := by
  subst hn0
  obtain ⟨i0, hi, hz0, hz1, hz2⟩ := info_parts info5
  exact step_append_lies (P := Try.prog) (w := w) hgd s x 38 ho base 5 i0 (.int .u8 0) 1 1 und35 hi hz0 hz1 hz2 rfl (by decide) v l.length (l.map B) hs hown ad 1 1 [B u] hx rfl
    (fun j u' hu => by
      have : j = 0 := by
        rcases Nat.eq_zero_or_pos j with h | h
        · exact h
        · rw [List.getElem?_eq_none (by simp; omega)] at hu; cases hu
      subst this
      rw [Addr.add_zero', hc]
      simpa using hu)
    (by intro u' hu; simp at hu; subst hu; exact one_B u) (by decide) (by simp only [maxLen]; omega) (by omega) hb w.heap.size rfl
    (fun g cap' w' h2 h3 h4 _ => h g cap' w' (by unfold OwnB; rw [List.length_append, List.map_append]; exact h2) h3 h4)
/-- Block G holds the headers of t rows that are appended to. -/
structure Ct (w : World) (N G t : Nat) (V : Nat → Value) (L : Nat → List (BitVec 8)) : Prop where
  hds : Row w G 38 t V
  own : ∀ i, i < t → OwnB w N (V i) (L i)
  sep : ∀ i j, i < t → j < t → i ≠ j → ∀ g, (V i).ownBlock = some g → (V j).ownBlock ≠ some g
  neG : ∀ i, i < t → (V i).ownBlock ≠ some G
  loG : N ≤ G
def setV (V : Nat → Value) (i : Nat) (v : Value) : Nat → Value := fun j => if j = i then v else V j
def setL (L : Nat → List (BitVec 8)) (i : Nat) (l : List (BitVec 8)) : Nat → List (BitVec 8) := fun j => if j = i then l else L j
section
variable {w w' : World} {N G t : Nat} {V : Nat → Value} {L L' : Nat → List (BitVec 8)}
theorem OwnB.nilB (w : World) (base : Nat) : OwnB w base (.slice none 0 0) [] := ⟨rfl, .inl ⟨rfl, rfl⟩⟩
theorem Ct.zero (h : Row w G 38 t (fun _ => .slice none 0 0)) (hN : N ≤ G) : Ct w N G t (fun _ => .slice none 0 0) (fun _ => []) :=
  ⟨h, fun i _ => OwnB.nilB w N, (fun i j _ _ _ g e => by cases e), (fun i _ e => by cases e), hN⟩
theorem Ct.congr (h : Ct w N G t V L) (e : ∀ i, i < t → L i = L' i) : Ct w N G t V L' := ⟨h.hds, fun i hi => by rw [← e i hi]; exact h.own i hi, h.sep, h.neG, h.loG⟩
theorem Ct.of_below (h : Ct w N G t V L) (k : Below w.heap.size w w') : Ct w' N G t V L := ⟨h.hds.of_below k, fun i hi => (h.own i hi).of_below k, h.sep, h.neG, h.loG⟩
theorem Ct.push (h : Ct w N G t V L) (i : Nat) (hi : i < t) {g n c : Nat} {l : List (BitVec 8)} (hO : OwnB w' N (.slice (some ⟨g, 0, none⟩) n c) l) (hg : w.grownBy w' (V i).ownBlock) (hor : (V i).ownBlock = some g ∨ g = w.heap.size) :
    Ct (w'.setCell ⟨G, i, none⟩ (.slice (some ⟨g, 0, none⟩) n c)) N G t (setV V i (.slice (some ⟨g, 0, none⟩) n c)) (setL L i l) := by
  have hGl := h.hds.lt
  have hgG : g ≠ G := by
    rcases hor with h1 | h1
    · intro e; subst e; exact h.neG i hi h1
    · omega
  have hrow : Row w' G 38 t V := h.hds.of_block (hg.block G hGl (Ne.symm (h.neG i hi)))
  have ob : (Value.slice (some ⟨g, 0, none⟩) n c).ownBlock = some g := rfl
  have far : ∀ j, j < t → j ≠ i → (V j).ownBlock ≠ some g := fun j hj hne e => by
    rcases hor with h1 | h1
    · exact h.sep i j hi hj (Ne.symm hne) g h1 e
    · have := ((h.own j hj).lt g e).2
      omega
  refine ⟨(hrow.set i _).congr fun j _ => rfl, fun j hj => ?_, fun p q hp hq hpq k e1 e2 => ?_, fun j hj => ?_, h.loG⟩
  · unfold setV setL
    by_cases e : j = i
    · rw [if_pos e, if_pos e]
      exact hO.keep fun k hk => Below.heap_setCell _ _ _ _ (by rw [ob] at hk; injection hk with hk; subst hk; exact hgG)
    · rw [if_neg e, if_neg e]
      refine (h.own j hj).keep fun k hk => ?_
      rw [Below.heap_setCell _ _ _ _ (show k ≠ G from fun e => by subst e; exact h.neG j hj hk)]
      exact hg.block k ((h.own j hj).lt k hk).2 fun e2 => h.sep i j hi hj (Ne.symm e) k e2.symm hk
  · unfold setV at e1 e2
    by_cases h1 : p = i
    · rw [if_pos h1, ob] at e1
      rw [if_neg (by omega)] at e2
      injection e1 with e1
      subst e1
      exact far q hq (by omega) e2
    · rw [if_neg h1] at e1
      by_cases h2 : q = i
      · rw [if_pos h2, ob] at e2
        injection e2 with e2
        subst e2
        exact far p hp h1 e1
      · rw [if_neg h2] at e2
        exact h.sep p q hp hq hpq k e1 e2
  · unfold setV
    by_cases e : j = i
    · rw [if_pos e, ob]
      intro e2
      injection e2 with e2
      exact hgG e2
    · rw [if_neg e]; exact h.neG j hj
theorem Ct.prt (h : Ct w N G t V L) : Prt w (some ⟨G, 0, none⟩) ((List.range t).map L) := fun i hi => by
  have hi' : i < t := by simpa using hi
  have e : ((List.range t).map L).getD i [] = L i := by simp [List.getD_eq_getElem?_getD, hi']
  rw [e]
  obtain ⟨q, c, hv, hs, hq, hle⟩ := (h.own i hi').shape
  exact ⟨G, 0, q, c, rfl, by rw [Nat.zero_add, h.hds.cell i hi', hv], hs, hq, hle⟩
end
end Go.Proofs.Ytphpliclecmnlaa
