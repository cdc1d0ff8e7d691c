/- Layer 3's contracts in the form in which the statements' walks take them. -/
import Derived.Test.YtfilicbbkaifcaaCauchy
import Derived.Test.YtfilicbbkaifcaaSame
import Derived.Test.YtfilicbbkaifcaaMul3
set_option linter.unusedSimpArgs false
set_option linter.unusedVariables false
namespace Go.Proofs.Ytfilicbbkaifcaa
open Go Go.RowKit

theorem bel_step {w0 w w' : World} (h : Below w0.heap.size w0 w) (k : Below w.heap.size w w') : Below w0.heap.size w0 w' := h.trans (k.mono h.size)
theorem bel_dr {w0 w w' : World} (h : Below w0.heap.size w0 w) (k : Dr w w') : Below w0.heap.size w0 w' := h.trans (k.below _)
/-- A new field, where nothing had changed before. -/
theorem newG (w0 w : World) (h : Below w0.heap.size w0 w) : Calls Try.prog 11 #[] w fun e w' => e = .returned (.pointer (some ⟨w.heap.size, 0, none⟩)) ∧ Gd w0 w.heap.size w' ∧ Below w.heap.size w w' :=
  (new_any w).mono fun e w' ⟨he, hf, hb⟩ => ⟨he, ⟨hf, bel_step h hb⟩, hb⟩
theorem copG (ls : List (List (BitVec 8))) (p : Option Addr) (n cap : Nat) (w : World) (hs : Prt w p ls) (hl : ls.length = n) (hf : fewB ls = true) :
    Calls Try.prog 10 #[.slice p n cap] w fun e w' => ∃ q c, e = .returned (.slice q n c) ∧ Prt w' q ls ∧ Below w.heap.size w w' := by
  obtain ⟨h1, h2⟩ := of_decide_eq_true hf
  refine (copied_any ls p n cap w hs hl (by omega) (fun i hi => by have := h2 i hi; omega)).mono ?_
  rintro e w' ⟨v, rfl, hO, hB⟩
  obtain ⟨q, c, rfl, hp, -, -⟩ := hO.prt
  exact ⟨q, c, by rw [hl], hp, hB⟩
theorem sameG (la lb : List (List (BitVec 8))) (p q : Option Addr) (n m c d : Nat) (w : World) (ha : Prt w p la) (hb : Prt w q lb) (hla : la.length = n) (hlb : lb.length = m) (hn : n < 9223372036854775808) (hm : m < 9223372036854775808) :
    Calls Try.prog 13 #[.slice p n c, .slice q m d] w fun e w' => e = .returned (.bool (sameB la lb)) ∧ Dr w w' := by
  by_cases h : n = m
  · subst h
    exact same_any la lb p q n c d w ha hb hla hlb hn
  · have hf : sameB la lb = false := decide_eq_false fun e => h (by rw [← hla, ← hlb, e])
    rw [hf]
    exact (same_odd p q n m c d w hn hm h).mono fun e w' ⟨he, hw⟩ => ⟨he, by rw [← hw]; exact Dr.refl _⟩
/-- A result and an error's number are returned, of which R holds; nothing that was there has changed. -/
def RetR (w : World) (R : Value → Int → World → Prop) (e : Ending) (w' : World) : Prop := ∃ r t, e = .returned (.tuple #[r, .int .i64 t]) ∧ R r t w' ∧ Below w.heap.size w w'
/-- What Mul returns. -/
def MulR (la lb : List (List (BitVec 8))) (r : Value) (t : Int) (w' : World) : Prop :=
  (goodB la = false ∧ r = .slice none 0 0 ∧ t = 1) ∨ (goodB la = true ∧ goodB lb = false ∧ r = .slice none 0 0 ∧ t = 1) ∨
  ∃ n k k' m, Good la n k' ∧ Good lb k m ∧ ((k' ≠ k ∧ r = .slice none 0 0 ∧ t = 2) ∨ (k' = k ∧ t = 0 ∧ ∃ G, r = .slice (some ⟨G, 0, none⟩) n n ∧ Prt w' (some ⟨G, 0, none⟩) (rowsL n m (mm k (mx la) (mx lb)))))
theorem mulG (b : Nat) (la lb : List (List (BitVec 8))) (p q : Option Addr) (n k cap cap' : Nat) (w : World) (hF : Fld w b) (ha : Prt w p la) (hb : Prt w q lb) (hla : la.length = n) (hlb : lb.length = k) (hn : n < 4294967296) (hk : k < 4294967296) :
    Calls Try.prog 12 #[.pointer (some ⟨b, 0, none⟩), .slice p n cap, .slice q k cap'] w (RetR w (MulR la lb)) := by
  cases ea : goodB la with
  | false => exact (mul_no1 la p q n k cap cap' w _ ha hla hn ea).mono fun e w' ⟨he, h⟩ => ⟨_, _, he, .inl ⟨ea, rfl, rfl⟩, h⟩
  | true =>
    cases eb : goodB lb with
    | false => exact (mul_no2 la lb p q n k cap cap' w _ ha hb hla hlb hn hk ea eb).mono fun e w' ⟨he, h⟩ => ⟨_, _, he, .inr (.inl ⟨ea, eb, rfl, rfl⟩), h⟩
    | true =>
      have ga := Good.of ea
      have gb := Good.of eb
      rw [hla] at ga
      rw [hlb] at gb
      by_cases h : (la.getD 0 []).length = k
      · rw [h] at ga
        refine (mul_ok b la lb p q n k _ cap cap' w hF ha hb ga gb).mono ?_
        rintro e w' ⟨G, D, he, hM, hB⟩
        exact ⟨_, _, he, .inr (.inr ⟨n, k, k, _, ga, gb, .inr ⟨rfl, rfl, G, rfl, hM.prt⟩⟩), hB⟩
      · exact (mul_len la lb p q n k _ _ cap cap' w _ ha hb ga gb h).mono fun e w' ⟨he, hB⟩ => ⟨_, _, he, .inr (.inr ⟨n, k, _, _, ga, gb, .inl ⟨h, rfl, rfl⟩⟩), hB⟩
/-- What Invert returns. -/
def InvR (la : List (List (BitVec 8))) (r : Value) (t : Int) (w' : World) : Prop :=
  (goodB la = false ∧ r = .slice none 0 0 ∧ t = 1) ∨
  ∃ n m, Good la n m ∧ ((m ≠ n ∧ r = .slice none 0 0 ∧ t = 2) ∨ (m = n ∧ NoInv n (mx la) ∧ r = .slice none 0 0 ∧ t = 4) ∨
    (m = n ∧ det n (mx la) ≠ 0#8 ∧ t = 0 ∧ ∃ G v, r = .slice (some ⟨G, 0, none⟩) n n ∧ IsInv n (mx la) v ∧ Prt w' (some ⟨G, 0, none⟩) (rowsL n n v)))
theorem invG (b : Nat) (la : List (List (BitVec 8))) (p : Option Addr) (n cap : Nat) (w : World) (hF : Fld w b) (ha : Prt w p la) (hla : la.length = n) (hn : n < 4294967296) :
    Calls Try.prog 19 #[.pointer (some ⟨b, 0, none⟩), .slice p n cap] w (RetR w (InvR la)) := by
  cases ea : goodB la with
  | false => exact (invert_no la p n cap w _ ha hla hn ea).mono fun e w' ⟨he, h⟩ => ⟨_, _, he, .inl ⟨ea, rfl, rfl⟩, h⟩
  | true =>
    have ga := Good.of ea
    rw [hla] at ga
    by_cases h : (la.getD 0 []).length = n
    · rw [h] at ga
      refine (invert_any b la p n cap w hF ha ga).mono ?_
      rintro e w' (⟨hn, he, hB⟩ | ⟨hd, G, v, he, hi, hp, hB⟩)
      · exact ⟨_, _, he, .inr ⟨n, n, ga, .inr (.inl ⟨rfl, hn, rfl, rfl⟩)⟩, hB⟩
      · exact ⟨_, _, he, .inr ⟨n, n, ga, .inr (.inr ⟨rfl, hd, rfl, G, v, rfl, hi, hp⟩)⟩, hB⟩
    · exact (invert_len la p n _ cap w _ ha ga h).mono fun e w' ⟨he, hB⟩ => ⟨_, _, he, .inr ⟨n, _, ga, .inl ⟨h, rfl, rfl⟩⟩, hB⟩
theorem mx_rows (n m : Nat) (a : Mx) (k : Nat) (b : Mx) (i j : Nat) (hi : i < n) (hk : k ≤ m) : mm k (mx (rowsL n m a)) b i j = mm k a b i j := mm_congr (fun l hl => rowsL_mx n m a i l hi (by omega)) (fun _ _ => rfl)
theorem unit_inv (n : Nat) (v : Mx) (h : IsInv n (mx (rowsL n n id1)) v) : rowsL n n v = rowsL n n id1 := rowsL_congr fun i j hi hj => by
  have h1 := h.2 i j hi hj
  rwa [mx_rows n n id1 n v i j hi (Nat.le_refl _), mm_id_l n v i j hi] at h1
theorem unit_noinv (n : Nat) (h : NoInv n (mx (rowsL n n id1))) : False := h.not (u := id1) fun i k hi hk => by
  rw [mm_id_l n _ i k hi]; exact rowsL_mx n n id1 i k hi hk
set_option maxHeartbeats 2000000 in
theorem awakeG (w0 w : World) (h : Below w0.heap.size w0 w) : Calls Try.prog 8 #[] w fun e w' => e = .returned (.bool true) ∧ Below w0.heap.size w0 w' := by
  have HB := Lib.hid h
  clear h
  go_enter Try.func8, Try.ntmps8
  go_wp2_with fail
  refine (unit_ok 3 w (by decide) (by decide)).mono ?_
  rintro e w1 ⟨G, D, rfl, hM, hB1⟩
  have HP1 := Lib.hid hM.prt
  have HB1 := Lib.hid (bel_step HB.out hB1)
  clear hM hB1 HB
  go_wp2_with fail
  refine (newG w0 w1 HB1.out).mono ?_
  rintro e w2 ⟨rfl, hG2, hB2⟩
  have HG2 := Lib.hid hG2
  have HP2 := Lib.hid (HP1.out.of_below hB2)
  clear hG2 hB2 HP1
  go_wp2_with fail
  refine (invert_any _ (rowsL 3 3 id1) _ 3 3 w2 HG2.out.1 HP2.out (Good.mats id1 (by decide) (by decide) (by decide) (by decide))).mono ?_
  rintro e w3 (⟨hn, -⟩ | ⟨-, G3, v, rfl, hi, hp, hB3⟩)
  · exact (unit_noinv 3 hn).elim
  rw [unit_inv 3 v hi] at hp
  have HP3 := Lib.hid (HP2.out.of_below hB3)
  have HQ3 := Lib.hid hp
  have HB3 := Lib.hid (bel_step HG2.out.bel hB3)
  clear hi hp hB3 HP2
  go_wp2_with fail
  refine (matSame_any (rowsL 3 3 id1) (rowsL 3 3 id1) _ _ 3 3 3 3 w3 HP3.out HQ3.out rfl rfl (by decide) (by decide)).mono ?_
  rintro e w4 ⟨rfl, rfl⟩
  have hs : sameB (rowsL 3 3 id1) (rowsL 3 3 id1) = true := decide_eq_true rfl
  go_wp2
  go_ret
  exact ⟨rfl, HB3.out⟩
end Go.Proofs.Ytfilicbbkaifcaa
