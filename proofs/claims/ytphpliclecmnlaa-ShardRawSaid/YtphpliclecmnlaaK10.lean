/- Merged texts: Law4, JoinM, Mix4. -/
import Derived.Deep.QuietTactic
import Derived.BigQuiet
import Derived.Deep.RegionHeld3
import Derived.Test.YtphpliclecmnlaaK2
import Derived.Test.YtphpliclecmnlaaK1
import Derived.Test.YtphpliclecmnlaaK6
import Derived.Lib.SlBytesConst
import Derived.Test.YtphpliclecmnlaaK8
set_option linter.unusedSimpArgs false
set_option linter.unusedVariables false
/- What layer 4's statements ask of shards: few, the same, copied. -/
namespace Go.Proofs.Ytphpliclecmnlaa
open Go Go.RowKit

/-- No more than 32 shards of no more than 40 bytes. -/
def few4B (ls : List (List (BitVec 8))) : Bool := decide (ls.length ≤ 32 ∧ ∀ i, i < ls.length → (ls.getD i []).length ≤ 40)
set_option maxHeartbeats 1000000 in
theorem few4_any (ls : List (List (BitVec 8))) (p : Option Addr) (n cap : Nat) (w : World) (hs : Prt w p ls) (hl : ls.length = n) (hn : n < 9223372036854775808) :
    Calls Try.prog 11 #[.slice p n cap] w fun e w' => e = .returned (.bool (few4B ls)) ∧ w = w' := by
  have HS := Lib.hid hs
  have HL := Lib.hid hl
  clear hs hl
  go_enter Try.func11, Try.ntmps11
  go_wp2
  go_loop [7] (fun i => ∃ k : Nat, k ≤ n ∧ i = .int .i64 k ∧ ∀ i, i < k → (ls.getD i []).length ≤ 40) (fun i => n - (intOf i).toNat)
  case atStart => exact ⟨0, Nat.zero_le _, rfl, fun i hi => absurd hi (by omega)⟩
  case round =>
    obtain ⟨k, hk, rfl, hall⟩ := hrel
    have HALL := Lib.hid hall
    clear hall
    by_cases hlt : k < n
    · obtain ⟨c, o, q, cap', rfl, _, hc, _⟩ := HS.out.at_ k (by rw [HL.out]; exact hlt)
      have hd0 : decide ((k : Int) < (n : Int)) = true := decide_eq_true (by omega)
      have hl0 : (k : Int) < (n : Int) := by omega
      generalize hm : (ls.getD k []).length = m at *
      have HM := Lib.hid hm
      clear hm
      by_cases h5 : 40 < m
      · have hd1 : decide ((40 : Int) < (m : Int)) = true := decide_eq_true (by omega)
        have hf : Hid (few4B ls = false) := decide_eq_false fun ⟨_, h⟩ => by have := h k (by rw [HL.out]; exact hlt); rw [HM.out] at this; omega
        go_wp2
        go_ret
        exact ⟨by rw [hf.out]; rfl, rfl⟩
      · have hd1 : decide ((40 : Int) < (m : Int)) = false := decide_eq_false (by omega)
        go_wp2
        go_round
        case rel =>
          refine ⟨k + 1, by omega, by go_num, fun i hi => ?_⟩
          rcases Nat.lt_or_ge i k with h | h
          · exact HALL.out i h
          · obtain rfl : i = k := by omega
            rw [HM.out]; omega
        case measure => simp [intOf]; omega
    · have hd0 : decide ((k : Int) < (n : Int)) = false := decide_eq_false (by omega)
      obtain rfl : k = n := by omega
      have hf : Hid (few4B ls = decide ((k : Int) ≤ 32)) := by
        show few4B ls = decide ((k : Int) ≤ 32)
        unfold few4B
        rw [decide_eq_decide, HL.out]
        exact ⟨fun h => by omega, fun h => ⟨by omega, HALL.out⟩⟩
      go_wp2
      go_ret
      exact ⟨by rw [hf.out]; rfl, rfl⟩
set_option maxHeartbeats 1000000 in
theorem same4_odd (p q : Option Addr) (n m c d : Nat) (w : World) (hn : n < 9223372036854775808) (hm : m < 9223372036854775808) (h : n ≠ m) :
    Calls Try.prog 15 #[.slice p n c, .slice q m d] w fun e w' => e = .returned (.bool false) ∧ w = w' := by
  have hd : ((n : Int) != (m : Int)) = true := by simp; omega
  have hd2 : ((n : Int) == (m : Int)) = false := by simp; omega
  have hd3 : decide (n = m) = false := by simp; omega
  clear h
  go_enter Try.func15, Try.ntmps15
  go_wp2
  go_ret
  exact ⟨rfl, rfl⟩
set_option maxHeartbeats 2000000 in
theorem same4_any (la lb : List (List (BitVec 8))) (p q : Option Addr) (n c d : Nat) (w : World) (ha : Prt w p la) (hb : Prt w q lb) (hla : la.length = n) (hlb : lb.length = n) (hn : n < 9223372036854775808) :
    Calls Try.prog 15 #[.slice p n c, .slice q n d] w fun e w' => e = .returned (.bool (sameB la lb)) ∧ Dr w w' := by
  have HA := Lib.hid ha
  have HB := Lib.hid hb
  have HLA := Lib.hid hla
  have HLB := Lib.hid hlb
  clear ha hb hla hlb
  go_enter Try.func15, Try.ntmps15
  go_wp2
  go_loopw [13] (fun i wr => ∃ k : Nat, k ≤ n ∧ i = .int .i64 k ∧ (∀ i, i < k → la.getD i [] = lb.getD i []) ∧ Dr w wr) (fun i _ => n - (intOf i).toNat)
  case atStart => exact ⟨0, Nat.zero_le _, rfl, fun i hi => absurd hi (by omega), Dr.refl _⟩
  case round =>
    obtain ⟨k, hk, rfl, hall, hD⟩ := hrel
    have HALL := Lib.hid hall
    have HD := Lib.hid hD
    clear hall
    by_cases hlt : k < n
    · obtain ⟨c1, o1, q1, cap1, rfl, _, hc1, hs1, hq1, _⟩ := HA.out.at_ k (by rw [HLA.out]; exact hlt)
      obtain ⟨c2, o2, q2, cap2, rfl, _, hc2, hs2, hq2, _⟩ := HB.out.at_ k (by rw [HLB.out]; exact hlt)
      have hx1 : wr.cell? ⟨c1, o1 + k, none⟩ = some (.slice q1 (la.getD k []).length cap1) := by rw [hD.cell]; exact hc1
      have hx2 : wr.cell? ⟨c2, o2 + k, none⟩ = some (.slice q2 (lb.getD k []).length cap2) := by rw [hD.cell]; exact hc2
      have hv1 := conv_str wr.drew q1 _ _ cap1 (hs1.dr hD.drew) rfl hq1
      have hv2 := conv_str wr.drew q2 _ _ cap2 (hs2.dr hD.drew) rfl hq2
      have hd0 : decide ((k : Int) < (n : Int)) = true := decide_eq_true (by omega)
      have hl0 : (k : Int) < (n : Int) := by omega
      have hkn : k < la.length := by rw [HLA.out]; exact hlt
      have HKN := Lib.hid hkn
      clear hD hc1 hc2 hs1 hs2 hq1 hq2 hkn
      generalize hu : la.getD k [] = u at *
      generalize hz : lb.getD k [] = z at *
      have HU := Lib.hid hu
      have HZ := Lib.hid hz
      clear hu hz
      by_cases he : u = z
      · rw [show strOf z = strOf u by rw [he]] at hv2
        have HE := Lib.hid he
        clear he
        go_wp2
        go_region_held3 (fun w' : World => w'.cell? ⟨c1, o1 + k, none⟩ = some (.slice q1 u.length cap1) ∧ w'.cell? ⟨c2, o2 + k, none⟩ = some (.slice q2 z.length cap2) ∧ (convert 38 9 (.slice q1 u.length cap1)).run Try.prog w' = .ok (.string (strOf u)) w' ∧ (convert 38 9 (.slice q2 z.length cap2)).run Try.prog w' = .ok (.string (strOf u)) w') (exact ⟨hx1, hx2, hv1, hv2⟩) (fail)
        go_wp2
        go_roundw
        case rel =>
          refine ⟨k + 1, by omega, by go_num, fun i hi => ?_, HD.out.drew⟩
          rcases Nat.lt_or_ge i k with h | h
          · exact HALL.out i h
          · obtain rfl : i = k := by omega
            rw [HU.out, HZ.out, HE.out]
        case measure => simp [intOf]; omega
      · have hb := str_ne u z he
        have hf : Hid (sameB la lb = false) := decide_eq_false fun e => he (by rw [← HU.out, ← HZ.out, e])
        clear he
        go_wp2
        go_region_held3 (fun w' : World => w'.cell? ⟨c1, o1 + k, none⟩ = some (.slice q1 u.length cap1) ∧ w'.cell? ⟨c2, o2 + k, none⟩ = some (.slice q2 z.length cap2) ∧ (convert 38 9 (.slice q1 u.length cap1)).run Try.prog w' = .ok (.string (strOf u)) w' ∧ (convert 38 9 (.slice q2 z.length cap2)).run Try.prog w' = .ok (.string (strOf z)) w') (exact ⟨hx1, hx2, hv1, hv2⟩) (fail)
        go_wp2
        go_ret
        exact ⟨by rw [hf.out]; rfl, HD.out.drew⟩
    · have hd0 : decide ((k : Int) < (n : Int)) = false := decide_eq_false (by omega)
      have hf : Hid (sameB la lb = true) := decide_eq_true (rows_ext (by rw [HLA.out, HLB.out]) fun i hi => HALL.out i (by rw [HLA.out] at hi; omega))
      clear hD
      go_wp2
      go_ret
      exact ⟨by rw [hf.out]; rfl, HD.out⟩
attribute [local go_sem ↓] exec_bs
attribute [local go_sem] bs0 bsR
set_option maxHeartbeats 4000000 in
theorem copied4_any (ls : List (List (BitVec 8))) (p : Option Addr) (n cap : Nat) (w : World) (hs : Prt w p ls) (hl : ls.length = n) (hn : n < 1000000) (hlen : ∀ i, i < ls.length → (ls.getD i []).length < 1000000) :
    Calls Try.prog 13 #[.slice p n cap] w (RetM w.heap.size w ls) := by
  have HS := Lib.hid hs
  have HL := Lib.hid hl
  have HLEN := Lib.hid hlen
  clear hs hl hlen
  go_enter Try.func13, Try.ntmps13
  go_wp2
  generalize hN : w.heap.size = N at *
  have HN := Lib.hid hN
  clear hN
  go_loopw [3, 8] (fun v i wr => ∃ k : Nat, k ≤ n ∧ i = .int .i64 k ∧ (∃ q c, v = .slice q k c) ∧ OwnM wr N v (ls.take k) ∧ Below N w wr) (fun _ i _ => n - (intOf i).toNat)
  case atStart => exact ⟨0, Nat.zero_le _, rfl, ⟨none, 0, rfl⟩, by simpa using OwnM.nil w N, Below.refl _ _⟩
  case round =>
    obtain ⟨k, hk, rfl, ⟨qv, cv, rfl⟩, hO, hB⟩ := hrel
    have HO := Lib.hid hO
    have HBr := Lib.hid hB
    have hNle : N ≤ wr.heap.size := by have := hB.size; have := HN.out; omega
    clear hO hB
    by_cases hlt : k < n
    · obtain ⟨c, o, q, cap', rfl, hcl, hc, hsl, hq, _⟩ := HS.out.at_ k (by rw [HL.out]; exact hlt)
      have hx : wr.cell? ⟨c, o + k, none⟩ = some (.slice q (ls.getD k []).length cap') := by
        rw [HBr.out.cell (by rw [← HN.out]; exact hcl)]; exact hc
      have hm := HLEN.out k (by rw [HL.out]; exact hlt)
      have hslr : Sl wr q (ls.getD k []) := hsl.of_below (by rw [HN.out]; exact HBr.out)
      have hd0 : decide ((k : Int) < (n : Int)) = true := decide_eq_true (by omega)
      have hl0 : (k : Int) < (n : Int) := by omega
      have HT := Lib.hid (take_getD ls [] k (by rw [HL.out]; exact hlt))
      have HLT := Lib.hid (show (ls.take k).length = k by rw [List.length_take, HL.out]; omega)
      have HSLR := Lib.hid hslr
      have HQ := Lib.hid hq
      clear hsl hslr hc hq hcl
      generalize ls.getD k [] = r at *
      generalize hrm : r.length = m at *
      have HM := Lib.hid hrm
      clear hrm
      generalize hlk : ls.take k = lk at *
      clear hlk
      have HO1 := Lib.hid (OwnB.empty wr wr.heap.size (Nat.le_refl _))
      have HB1 := Lib.hid (show Below wr.heap.size wr (wr.alloc (.cells #[] 5)) from (Below.refl _ _).alloc (Nat.le_refl _) _)
      go_wp2_with (first | (refine wpl_append _ rfl (.tmp 13) (.tmp 14) rfl wr.heap.size (.slice (some ⟨wr.heap.size, 0, none⟩) 0 0) [] rfl HO1.out q m cap' r HM.out rfl (HSLR.out.of_below HB1.out) HQ.out (by show 0 + m < _; omega) HB1.out.size ?_; rintro v3 w3 hv3 hg3; have hB3 := HB1.out.grown hg3 HB1.out.size (fun g hg => (HO1.out.lt g hg).1); rw [List.nil_append] at hv3; have hlt3 := OwnB.lt hv3; obtain ⟨q3, c3, e3, hs3, hc3, hle3⟩ := hv3.shape; rw [HM.out] at e3 hle3; subst e3; have HC3 := Lib.hid hc3; have hB4 : Below wr.heap.size wr (w3.alloc (.cells #[.slice q3 m c3] 38)) := hB3.alloc hB3.size _; have HO3 := Lib.hid (HO.out.of_below hB4); have hcell : (w3.alloc (.cells #[.slice q3 m c3] 38)).cell? ⟨w3.heap.size, 0, none⟩ = some (.slice q3 m c3) := (by rw [World.cell?_alloc_new]; rfl); have HS4 := Lib.hid (hs3.of_below (show Below w3.heap.size w3 (w3.alloc (.cells #[.slice q3 m c3] 38)) from (Below.refl _ _).alloc (Nat.le_refl _) _)); have HQB := Lib.hid (show ∀ b, q3 = some b → N ≤ b.block ∧ b.block < (w3.alloc (.cells #[.slice q3 m c3] 38)).heap.size ∧ (Value.slice qv k cv).ownBlock ≠ some b.block from fun b hb => (by subst hb; have h1 := hlt3 b.block rfl; refine ⟨by omega, by rw [World.size_alloc]; omega, fun e => ?_⟩; have h2 := (HO.out.lt _ e).2; omega)); have hN4 : N ≤ (w3.alloc (.cells #[.slice q3 m c3] 38)).heap.size := Nat.le_trans hNle hB4.size; have HB4 := Lib.hid hB4; have HCELL := Lib.hid hcell; have HLE3 := Lib.hid hle3; clear hv3 hg3 hs3 hc3 hB3 hB4 hlt3 hcell hle3) | (refine wpl_push _ rfl (.tmp 12) (.tmp 16) rfl N (.slice qv k cv) lk rfl HO3.out ⟨w3.heap.size, 0, none⟩ rfl q3 r m c3 HCELL.out HM.out HS4.out HC3.out HLE3.out HQB.out k HLT.out (by omega) hN4 ?_; rintro g5 c5 w5 hM5 hg5 ho5 hl5; have HM5 := Lib.hid hM5; have HB5 := Lib.hid ((HBr.out.trans (HB4.out.mono hNle)).grown hg5 hN4 (fun g hg => (hl5 g hg).1)); clear hM5 hg5 ho5 hl5))
      go_roundw
      case rel => exact ⟨k + 1, by omega, by go_num, ⟨_, _, rfl⟩, by rw [HT.out]; exact HM5.out, HB5.out⟩
      case measure => simp [intOf]; omega
    · have hd0 : decide ((k : Int) < (n : Int)) = false := decide_eq_false (by omega)
      obtain rfl : k = n := by omega
      have hO := HO.out
      rw [List.take_of_length_le (by rw [HL.out]; exact Nat.le_refl _)] at hO
      have HO := Lib.hid hO
      clear hO
      go_wp2
      go_ret
      exact ⟨_, rfl, HO.out, HBr.out⟩
end Go.Proofs.Ytphpliclecmnlaa
/- Rows of the call's own that came later, appended to a slice of rows. -/
namespace Go.Proofs.Ytphpliclecmnlaa
open Go Go.RowKit

/-- The rows appended lie in blocks that came to be later than the slice. -/
theorem join_m {w1 w : World} {base base' : Nat} {v u : Value} {ls ms : List (List (BitVec 8))} (h : OwnX w1 base v ls) (k : Below w1.heap.size w1 w) (hu : OwnM w base' u ms) (hb' : w1.heap.size ≤ base') (ty : TypeId) (hpos : 0 < ms.length) (hlen : ls.length + ms.length < 1000000) (hb : base ≤ w1.heap.size) :
    ∃ g cap' w', (Builtin.append_ #[23, 23] ty #[v, u]).run Try.prog w = .ok (.slice (some ⟨g, 0, none⟩) (ls.length + ms.length) cap') w' ∧ Prt w' (some ⟨g, 0, none⟩) (ls ++ ms) ∧ Below base w w' ∧ base ≤ g := by
  have hw := h.of_below k
  have hlt1 := h.lt
  obtain ⟨vs, a1, a2, a3, a4, a5⟩ := h
  have h2 := owns_keep a2 fun g hg => k.block g (World.ownsRow.lt a2 g hg).2
  obtain ⟨us, u1, u2, u3⟩ := hu
  obtain ⟨i0, hi, hz0, hz1, hz2⟩ := info_parts infoB
  have hsz := k.size
  rcases u2.2 with ⟨hv, hl⟩ | ⟨gu, capu, curu, rfl, hbu, hgu, hleu, _, hszu, htu⟩
  · omega
  have hnews : ∀ j x, us[j]? = some x → w.cell? ((⟨gu, 0, none⟩ : Addr).add j) = some x := fun j x hx => by
    have hj : j < us.length := (List.getElem?_eq_some_iff.1 hx).1
    show w.cell? (Addr.add ⟨gu, 0, none⟩ j) = some x
    rw [Addr.add_mid, Nat.zero_add, cell_of_row w gu j curu 38 (0, 0) hgu]
    have e : (curu.toList.take (ms.length * 1))[j]? = us[j]? := by rw [htu]
    rw [List.getElem?_take, if_pos (by omega), hx] at e
    simpa using e
  have hone : ∀ x ∈ us, x.oneCell' = true := fun x hx => by
    obtain ⟨i, hi, rfl⟩ := List.getElem_of_mem hx
    obtain ⟨q, c, e, _⟩ := u3 i (by omega)
    rw [List.getElem?_eq_getElem hi] at e
    injection e with e
    rw [e]; rfl
  obtain ⟨g, cap', w', r1, r2, r3, r4, r5⟩ := run_append_lies (P := Try.prog) w 23 ty base 38 i0 (.slice none 0 0) 1 24 undRows hi hz0 hz1 hz2 rfl (by decide) v ls.length vs h2 ⟨gu, 0, none⟩ ms.length capu us (by rw [u1]; omega) hnews hone hpos (by simp only [maxLen]; omega) (by omega) (Nat.le_trans hb hsz) w.heap.size rfl
  have hbel : Below base w w' := (Below.refl base w).grown r3 (by omega) (fun k hk => (hlt1 k hk).1)
  refine ⟨g, cap', w', r1, ?_, hbel, by rcases r4 with r4 | r4; exact (hlt1 g r4).1; omega⟩
  rcases r2.2 with ⟨hv, hl⟩ | ⟨g', cap2, cur, hv, hb2, hg, hle, _, hsz2, ht⟩
  · omega
  injection hv with e1 _ _
  injection e1 with e1
  injection e1 with e1 _
  subst e1
  intro i hi
  have hcell : ∀ j x, (vs ++ us)[j]? = some x → w'.cell? ⟨g, 0 + j, none⟩ = some x := fun j x hx => by
    have hj : j < (vs ++ us).length := (List.getElem?_eq_some_iff.1 hx).1
    rw [List.length_append, a1, u1] at hj
    rw [Nat.zero_add, cell_of_row w' g j cur 38 (0, 0) hg]
    have e : (cur.toList.take ((ls.length + ms.length) * 1))[j]? = (vs ++ us)[j]? := by rw [ht]
    rw [List.getElem?_take, if_pos (by omega), hx] at e
    simpa using e
  rw [List.length_append] at hi
  by_cases hil : i < ls.length
  · rw [ls_left _ _ _ hil]
    have hown : OwnB w' base (vd vs i) (ls.getD i []) := ((a3 i hil).of_below k).keep fun k' hk' => r3.block k' (Nat.lt_of_lt_of_le ((a3 i hil).lt k' hk').2 hsz) fun e => a4 i k' hil hk' e.symm
    obtain ⟨q, cc, e, hs, hq, hlc⟩ := hown.shape
    refine ⟨g, 0, q, cc, rfl, hcell i _ ?_, hs, hq, hlc⟩
    rw [List.getElem?_append_left (by omega), vd_get (by omega), e]
  · rw [ls_right _ _ _ (by omega)]
    obtain ⟨q, cc, e, hs, hq, hlc, hbl⟩ := u3 (i - ls.length) (by omega)
    refine ⟨g, 0, q, cc, rfl, hcell i _ ?_, hs.of_block fun a ha => r3.block a.block (hbl a ha).2.1 fun e => ?_, hq, hlc⟩
    · rw [List.getElem?_append_right (by omega), a1]; exact e
    · have h1 := (hlt1 a.block e.symm).2
      have h2 := (hbl a ha).1
      omega
theorem wpl_joinM {ops : Array Oper} {rest : List Oper} {o : Oper} {a : Act} {Q : Exit → Act → World → Prop} (w : World) (hgd : o.guard = none) (s x : Operand)
    (ho : o.op = .call { callee := .builtin .append, args := #[s, x], argTypes := #[23, 23] })
    (base base' : Nat) (v u : Value) (ls ms : List (List (BitVec 8))) (hs : a.eval s = v) (hx : a.eval x = u) (w1 : World) (h : OwnX w1 base v ls) (k : Below w1.heap.size w1 w) (hu : OwnM w base' u ms) (hb' : w1.heap.size ≤ base')
    (n0 m0 : Nat) (hn0 : ls.length = n0) (hm0 : ms.length = m0) (hpos : 0 < m0) (hlen : n0 + m0 < 1000000) (hb : base ≤ w1.heap.size)
    (hK : ∀ g cap' w', Prt w' (some ⟨g, 0, none⟩) (ls ++ ms) → Below base w w' → base ≤ g → wpList Try.prog ops Q rest (a.put o.dst (.slice (some ⟨g, 0, none⟩) (n0 + m0) cap')) w') : wpList Try.prog ops Q (o :: rest) a w := by
  subst hn0 hm0
  refine wpList_plain hgd fun K hKK => ?_
  obtain ⟨g, cap', w', hr, h2, h3, h4⟩ := join_m h k hu hb' o.type hpos hlen hb
  unfold Oper.wp execOp
  simp only [ho, resolve, invoke, builtin, Sem.run_bind, Sem.run_pure, Result.andThen_ok, List.map_toArray, List.map_cons, List.map_nil, hs, hx, hr]
  exact hKK _ _ (hK g cap' w' h2 h3 h4)
end Go.Proofs.Ytphpliclecmnlaa
/- Shards of which some are replaced; what is there of them. -/
namespace Go.Proofs.Ytphpliclecmnlaa
open Go Go.RowKit

/-- The first t shards, those replaced of which f doesn't hold; the rest as they are. -/
def mixL (all : List (List (BitVec 8))) (f : Nat → Bool) : Nat → List (List (BitVec 8))
  | 0 => all
  | t + 1 => if f t = true then mixL all f t else (mixL all f t).set t [63#8]
theorem mixL_length (all : List (List (BitVec 8))) (f : Nat → Bool) (t : Nat) : (mixL all f t).length = all.length := by
  induction t with
  | zero => rfl
  | succ t ih =>
    show (if f t = true then mixL all f t else (mixL all f t).set t [63#8]).length = _
    split
    · exact ih
    · rw [List.length_set, ih]
theorem mixL_get (all : List (List (BitVec 8))) (f : Nat → Bool) (t i : Nat) (h : f i = true) : (mixL all f t).getD i [] = all.getD i [] := by
  induction t with
  | zero => rfl
  | succ t ih =>
    show (if f t = true then mixL all f t else (mixL all f t).set t [63#8]).getD i [] = _
    split
    · exact ih
    · rename_i h2
      have hne : t ≠ i := fun e => by subst e; exact h2 h
      have : ((mixL all f t).set t [63#8]).getD i [] = (mixL all f t).getD i [] := by simp [List.getD_eq_getElem?_getD, List.getElem?_set, hne]
      rw [this, ih]
theorem mixL_small (all : List (List (BitVec 8))) (f : Nat → Bool) (t : Nat) (M : Nat) (hM : 1 ≤ M) (h : ∀ i, i < all.length → (all.getD i []).length ≤ M) : ∀ i, i < all.length → ((mixL all f t).getD i []).length ≤ M := by
  induction t with
  | zero => exact h
  | succ t ih =>
    intro i hi
    show ((if f t = true then mixL all f t else (mixL all f t).set t [63#8]).getD i []).length ≤ M
    split
    · exact ih i hi
    · by_cases e : t = i
      · subst e
        have : ((mixL all f t).set t [63#8]).getD t [] = [63#8] := by simp [List.getD_eq_getElem?_getD, mixL_length, hi]
        rw [this]; exact hM
      · have : ((mixL all f t).set t [63#8]).getD i [] = (mixL all f t).getD i [] := by simp [List.getD_eq_getElem?_getD, List.getElem?_set, e]
        rw [this]; exact ih i hi
/-- What is there is of one length, where all are. -/
theorem there_eq (ls : List (List (BitVec 8))) (th : List Bool) (L : Nat) (h : ∀ i, i < ls.length → th.getD i false = true → (ls.getD i []).length = L) : eqB (thereL ls th) = true := by
  have key : ∀ j, j < (thereL ls th).length → ((thereL ls th).getD j []).length = L := fun j hj => by
    rw [there_len] at hj
    rw [there_get ls th j hj]
    have := pick_at j hj
    exact h _ this.1 this.2
  exact decide_eq_true fun j hj => by rw [key j hj, key 0 (by omega)]
theorem bs63 (w : World) : (bsT 38 1 #[(0, .int .u8 63)]).run Try.prog w = .ok (.value (.slice (some ⟨w.heap.size, 0, none⟩) 1 1)) (w.alloc (.cells #[B 63#8] 5)) := by
  rw [show B 63#8 = .int .u8 63 from B_ofNat 63 (by decide)]; kernel_rfl
theorem conv63 (w : World) : (convert 38 38 (.slice (some ⟨w.heap.size, 0, none⟩) 1 1)).run Try.prog (w.alloc (.cells #[B 63#8] 5)) = .ok (.slice (some ⟨w.heap.size, 0, none⟩) 1 1) (w.alloc (.cells #[B 63#8] 5 (1, 2))) :=
  Lib.run_convert_bytes_const (P := Try.prog) w 38 5 #[B 63#8] 1 1 und35 (by kernel_rfl)
theorem sl63 (w : World) : Sl (w.alloc (.cells #[B 63#8] 5 (1, 2))) (some ⟨w.heap.size, 0, none⟩) [63#8] := fun j hj => by
  obtain rfl : j = 0 := by simpa using hj
  exact ⟨w.heap.size, 0, rfl, by rw [cell_of_row _ w.heap.size (0 + 0) #[B 63#8] 5 (1, 2) (heap_alloc_last w _)]; rfl⟩
theorem OwnX.toM {w : World} {base : Nat} {v : Value} {ls : List (List (BitVec 8))} (h : OwnX w base v ls) : OwnM w base v ls := by
  obtain ⟨vs, h1, h2, h3, h4, h5⟩ := h
  refine ⟨vs, h1, h2, fun i hi => ?_⟩
  obtain ⟨q, c, e, hs, hq, hlc⟩ := (h3 i hi).shape
  refine ⟨q, c, by rw [vd_get (by omega), e], hs, hq, hlc, fun a ha => ?_⟩
  by_cases h0 : (ls.getD i []).length = 0 ∧ False
  · exact absurd h0.2 id
  · rcases (h3 i hi).2 with ⟨hv, hl⟩ | ⟨g, cap, cur, hv, r⟩
    · rw [e] at hv; injection hv with hv; rw [ha] at hv; cases hv
    · have hob : (vd vs i).ownBlock = some g := by rw [hv]; rfl
      have := (h3 i hi).lt g hob
      rw [e] at hv
      injection hv with hv _ _
      rw [ha] at hv
      injection hv with hv
      subst hv
      exact ⟨this.1, this.2, h4 i g hi hob⟩
/-- The header of one row set to that of another row. -/
theorem OwnM.hput {w : World} {base : Nat} {v : Value} {ls : List (List (BitVec 8))} (h : OwnM w base v ls) (i : Nat) (hi : i < ls.length) (q : Addr) (l : List (BitVec 8)) (n c : Nat) (hn : l.length = n) (hs : Sl w (some q) l) (hle : n ≤ c) (hb : base ≤ q.block) (hb2 : q.block < w.heap.size) (hb3 : v.ownBlock ≠ some q.block) :
    ∃ g cap, v = .slice (some ⟨g, 0, none⟩) ls.length cap ∧ (∃ x, w.cell? ⟨g, i, none⟩ = some x) ∧ w.frozen? ⟨g, i, none⟩ = false ∧ base ≤ g ∧ g < w.heap.size ∧ OwnM (w.setCell ⟨g, i, none⟩ (.slice (some q) n c)) base v (ls.set i l) := by
  subst hn
  have hlt := h.lt
  obtain ⟨vs, h1, h2, h3⟩ := h
  rcases h2.2 with ⟨hv, hl⟩ | ⟨g, cap, cur, hv, hbg, hg, hle1, hq1, hszc, ht⟩
  · omega
  have hgl := hlt g (by rw [hv]; rfl)
  have hob : v.ownBlock = some g := by rw [hv]; rfl
  have hqg : q.block ≠ g := fun e => hb3 (by rw [hob, e])
  have hcell : ∃ x, w.cell? ⟨g, i, none⟩ = some x := by
    obtain ⟨q0, c0, e0, -⟩ := h3 i hi
    refine ⟨.slice q0 (ls.getD i []).length c0, ?_⟩
    rw [cell_of_row w g i cur 38 (0, 0) hg]
    have e : (cur.toList.take (ls.length * 1))[i]? = vs[i]? := by rw [ht]
    rw [List.getElem?_take, if_pos (by omega), e0] at e
    simpa using e
  have keep : ∀ b, b ≠ g → (w.setCell ⟨g, i, none⟩ (.slice (some q) l.length c)).heap[b]? = w.heap[b]? := fun b hb => Below.heap_setCell _ _ _ _ hb
  refine ⟨g, cap, hv, hcell, by simp only [World.frozen?, hg]; simp, hbg, hgl.2, vs.set i (.slice (some q) l.length c), by rw [List.length_set, List.length_set, h1], ?_, fun j hj => ?_⟩
  · have hst := (World.ownsRow.stored (by rw [hv] at h2; exact h2 : w.ownsRow base 38 1 (.slice (some ⟨g, 0, none⟩) ls.length cap) ls.length vs) i (.slice (some q) l.length c)).1
    rw [hv, List.length_set]
    exact hst
  · rw [List.length_set] at hj
    have hsz : (w.setCell ⟨g, i, none⟩ (.slice (some q) l.length c)).heap.size = w.heap.size := by simp
    by_cases e : j = i
    · subst e
      have e1 : (vs.set j (.slice (some q) l.length c))[j]? = some (.slice (some q) l.length c) := by simp [h1, hj]
      have e2 : (ls.set j l).getD j [] = l := by simp [List.getD_eq_getElem?_getD, hj]
      rw [e2]
      exact ⟨some q, c, e1, hs.of_block (fun a ha => by injection ha with ha; subst ha; exact keep q.block hqg), (fun h => by cases h), hle, fun a ha => by injection ha with ha; subst ha; exact ⟨hb, by rw [hsz]; exact hb2, hb3⟩⟩
    · have e1 : (vs.set i (.slice (some q) l.length c))[j]? = vs[j]? := by simp [List.getElem?_set, Ne.symm e]
      have e2 : (ls.set i l).getD j [] = ls.getD j [] := by simp [List.getD_eq_getElem?_getD, List.getElem?_set, Ne.symm e]
      obtain ⟨q0, c0, x1, x2, x3, x4, x5⟩ := h3 j hj
      rw [e1, e2]
      exact ⟨q0, c0, x1, x2.of_block (fun a ha => keep a.block fun e3 => (x5 a ha).2.2 (by rw [hob, e3])), x3, x4, fun a ha => ⟨(x5 a ha).1, by rw [hsz]; exact (x5 a ha).2.1, (x5 a ha).2.2⟩⟩
end Go.Proofs.Ytphpliclecmnlaa
