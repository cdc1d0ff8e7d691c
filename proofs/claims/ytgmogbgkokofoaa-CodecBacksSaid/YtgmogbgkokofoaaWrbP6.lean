/- The program's Writer: bytes, texts, digests. -/
import Derived.Test.YtgmogbgkokofoaaWrnP6
import Derived.Test.YtgmogbgkokofoaaDig6
import Derived.Lib.AppendStr
import Derived.Deep.RegionLaw
set_option linter.unusedSimpArgs false
set_option linter.unusedVariables false
namespace Go.Proofs.Ytgmogbgkokofoaa
open Go Go.RowKit

theorem strOf_cells (l : List (BitVec 8)) : Lib.strCells (strOf l) = l.map B := by
  show ((l.map UInt8.ofBitVec).toArray.toList.map fun b => Value.int .u8 b.toNat) = _
  simp only [List.map_map]
  apply List.map_congr_left
  intro x _
  show Value.int .u8 ((UInt8.ofBitVec x).toNat : Int) = B x
  rw [B_eq']
  rfl
/-- A text appended to a slice of the call's own: the block afterwards is the old one or a new one. -/
theorem append_strL (w : World) (base : Nat) (ty : TypeId) (v : Value) (l : List (BitVec 8)) (hown : OwnB w base v l) (bs : List (BitVec 8)) (hn : l.length + bs.length < 1000000000000) (hb : base ≤ w.heap.size) :
    ∃ v' w', (Builtin.append_ #[23, 9] ty #[v, .string (strOf bs)]).run Try.prog w = .ok v' w' ∧ OwnB w' base v' (l ++ bs) ∧ w.grownBy w' v.ownBlock ∧ (v'.ownBlock = v.ownBlock ∨ v'.ownBlock = some w.heap.size) := by
  obtain ⟨i0, hi, hz0, hz1, hz2⟩ := info_parts info5
  have hst : Try.prog.underlying 9 = some .string := by kernel_rfl
  have hsz := strOf_size bs
  obtain ⟨v', w', h1, h2, h3, h4⟩ := Lib.run_append_own_string (P := Try.prog) w base 23 9 ty 5 i0 und35 hst hi hz0 hz1 hz2 v l.length (l.map B) hown (strOf bs) (by rw [hsz]; simp only [maxLen]; omega) (by rw [hsz]; omega) hb
  refine ⟨v', w', h1, by unfold OwnB; rw [List.length_append, List.map_append, ← strOf_cells bs, ← hsz]; exact h2, h3, ?_⟩
  rcases hown.2 with ⟨rfl, hl0⟩ | ⟨g, cap, cur, rfl, hbg, hg, hnc, hcm, hcs, htake⟩
  · by_cases h0 : (strOf bs).size = 0
    · left; rw [h4.2 ⟨rfl, h0⟩]
    · right
      have hr := run_append_nil_string (P := Try.prog) w 23 9 ty 5 i0 (.int .u8 0) und35 hst hi hz0 (strOf bs) (by omega) (by rw [hsz]; omega) (by rw [hz2, hsz]; omega)
      rw [hr] at h1
      injection h1 with h1 _
      rw [← h1]; rfl
  · by_cases hroom : l.length + (strOf bs).size ≤ cap
    · left
      have hr := Lib.run_append_room_string (P := Try.prog) w 23 9 ty 5 i0 und35 hst hi hz1 g l.length cap cur hg (strOf bs) hroom (by rw [hcs, Nat.mul_one]; exact hroom)
      rw [hr] at h1
      injection h1 with h1 _
      rw [← h1]; rfl
    · right
      have holds : ∀ j u, (l.map B)[j]? = some u → w.cell? ((⟨g, 0, none⟩ : Addr).add j) = some u := World.ownsRow.cells (g := g) hown rfl
      have hr := Lib.run_append_grow_string (P := Try.prog) w 23 9 ty 5 i0 (.int .u8 0) und35 hst hi hz0 ⟨g, 0, none⟩ l.length cap (l.map B) (by rw [hz1]; simp) holds (strOf bs) (by omega) (by rw [hsz]; omega) (by rw [hz2]; exact growslice_fits (by omega) (by rw [hsz]; omega))
      rw [hr] at h1
      injection h1 with h1 _
      rw [← h1]; rfl
theorem wpl_appendS {ops : Array Oper} {rest : List Oper} {o : Oper} {a : Act} {Q : Exit → Act → World → Prop} (w : World) (hgd : o.guard = none) (s x : Operand)
    (ho : o.op = .call { callee := .builtin .append, args := #[s, x], argTypes := #[23, 9] })
    (base : Nat) (v : Value) (l : List (BitVec 8)) (hs : a.eval s = v) (hown : OwnB w base v l) (bs : List (BitVec 8)) (S : ByteArray) (hS : strOf bs = S) (hx : a.eval x = .string S)
    (hn : l.length + bs.length < 1000000000000) (hb : base ≤ w.heap.size)
    (h : ∀ v' w', OwnB w' base v' (l ++ bs) → w.grownBy w' v.ownBlock → (v'.ownBlock = v.ownBlock ∨ v'.ownBlock = some w.heap.size) → wpList Try.prog ops Q rest (a.put o.dst v') w') : wpList Try.prog ops Q (o :: rest) a w := by
  subst hS
  refine wpList_plain hgd fun K hK => ?_
  obtain ⟨v', w', hr, h2, h3, h4⟩ := append_strL w base o.type v l hown bs hn hb
  unfold Oper.wp execOp
  simp only [ho, resolve, invoke, builtin, Sem.run_bind, Sem.run_pure, Result.andThen_ok, List.map_toArray, List.map_cons, List.map_nil, hs, hx, hr]
  exact hK _ _ (h v' w' h2 h3 h4)
set_option maxHeartbeats 1000000 in
theorem wrP_bytes (N : Nat) (w : World) (a : Addr) (g : Option Nat) (l : List (BitVec 8)) (p : Option Addr) (n cap : Nat) (bs : List (BitVec 8)) (h : WrP N w a g l) (hl : l.length < 1000000000) (hbn : bs.length = n) (hs : Sl w p bs) (hp : p = none → cap = 0) (hn : n < 1000000) (hpb : 0 < n → ∀ c o, p = some ⟨c, o, none⟩ → c < N) :
    Calls Try.prog 26 #[.pointer (some a), .slice p n cap] w fun e w' => e = .returned (.tuple #[]) ∧ WrPost WrP N w a g (l ++ (enc7 n ++ bs)) w' := by
  have hL := wrP_lie _ _ _ _ _ h
  have HN := Lib.hid (wrP_number N w a g l n h (by omega) (by omega))
  have HX := Lib.hid (And.intro hs (And.intro hp (And.intro hpb (And.intro hL (And.intro hbn hl)))))
  have HE9 := Lib.hid (show (enc7 n).length ≤ 9 from enc7_len 8 n (by rw [show (128 : Nat) ^ 9 = 9223372036854775808 by decide]; omega))
  clear h hs hp hpb hL hbn hl
  go_enter Try.func26, Try.ntmps26
  go_wp2_with fail
  refine HN.out.mono ?_
  rintro e w1 ⟨rfl, g1, ⟨b, v, rfl, k1, hc, hf, hO, hv, hgb⟩, hg1, hK1⟩
  obtain ⟨hs, hp, hpb, hL, hbn, hl⟩ := HX.out
  have hblt : b < w1.heap.size := World.block_lt_of_cell? w1 _ hc
  have hB1 : Below N w w1 := hK1.below k1 (fun k hk => (hL.2.2 k hk).1) (by have := hL.2.1; have := hL.1; omega)
  have HS1 := Lib.hid (show Sl w1 p bs from fun j hj => by
    obtain ⟨c, o, e, hx⟩ := hs j hj
    exact ⟨c, o, e, by rw [hB1.cell (by exact hpb (by omega) c o e)]; exact hx⟩)
  have HO := Lib.hid hO
  have HV := Lib.hid (And.intro hv hgb)
  have HG := Lib.hid hg1
  have HK := Lib.hid hK1
  have hNs : N ≤ w1.heap.size := by omega
  have hlen : (l ++ enc7 n).length + n < 1000000000000 := by have := HE9.out; rw [List.length_append]; omega
  have HLEN := Lib.hid hlen
  have HP := Lib.hid (And.intro hp hbn)
  clear hs hp hpb hL hbn hl hO hv hgb hg1 hK1 hB1 hlen HN
  go_wp2_with (first | (refine wpl_appendL _ rfl (.tmp 12) (.tmp 13) rfl N v (l ++ enc7 n) rfl HO.out p n cap bs HP.out.2 rfl HS1.out HP.out.1 HLEN.out hNs ?_; rintro v3 w3 hO3 hg3 ho3
                        obtain ⟨⟨z3, f3⟩, hP3⟩ := wr_put k1 hblt (Below.refl _ _) hc hf HV.out.1 HV.out.2 hO3 hg3 ho3
                        have HP3 := Lib.hid (WrPost.trans HG.out HK.out hP3)
                        obtain ⟨p3, n3, c3, rfl⟩ := hO3.shape3
                        clear hO3 hg3 ho3 hP3))
  go_end0
  exact ⟨rfl, by rw [← List.append_assoc]; exact HP3.out⟩
set_option maxHeartbeats 1000000 in
theorem wrP_text (N : Nat) (w : World) (a : Addr) (g : Option Nat) (l : List (BitVec 8)) (bs : List (BitVec 8)) (h : WrP N w a g l) (hl : l.length < 1000000000) (hn : bs.length < 1000000) :
    Calls Try.prog 27 #[.pointer (some a), .string (strOf bs)] w fun e w' => e = .returned (.tuple #[]) ∧ WrPost WrP N w a g (l ++ (enc7 bs.length ++ bs)) w' := by
  obtain ⟨S, hS⟩ : ∃ S, strOf bs = S := ⟨_, rfl⟩
  have hsz : bs.length = S.size := by rw [← hS, strOf_size]
  have HS := Lib.hid hS
  rw [hS, hsz]
  rw [hsz] at hn
  have hL := wrP_lie _ _ _ _ _ h
  have HN := Lib.hid (wrP_number N w a g l S.size h (by omega) (by omega))
  have HX := Lib.hid (And.intro hL (And.intro hsz hl))
  have HE9 := Lib.hid (show (enc7 S.size).length ≤ 9 from enc7_len 8 _ (by rw [show (128 : Nat) ^ 9 = 9223372036854775808 by decide]; omega))
  clear h hL hl hS hsz
  go_enter Try.func27, Try.ntmps27
  go_wp2_with fail
  refine HN.out.mono ?_
  rintro e w1 ⟨rfl, g1, ⟨b, v, rfl, k1, hc, hf, hO, hv, hgb⟩, hg1, hK1⟩
  obtain ⟨hL, hsz, hl⟩ := HX.out
  have hblt : b < w1.heap.size := World.block_lt_of_cell? w1 _ hc
  have HO := Lib.hid hO
  have HV := Lib.hid (And.intro hv hgb)
  have HG := Lib.hid hg1
  have HK := Lib.hid hK1
  have hNs : N ≤ w1.heap.size := by omega
  have hlen : (l ++ enc7 S.size).length + bs.length < 1000000000000 := by have := HE9.out; rw [List.length_append]; omega
  have HLEN := Lib.hid hlen
  clear hL hsz hl hO hv hgb hg1 hK1 hlen HN
  go_wp2_with (first | (refine wpl_appendS _ rfl (.tmp 12) (.tmp 13) rfl N v (l ++ enc7 S.size) rfl HO.out bs S HS.out rfl HLEN.out hNs ?_; rintro v3 w3 hO3 hg3 ho3
                        obtain ⟨⟨z3, f3⟩, hP3⟩ := wr_put k1 hblt (Below.refl _ _) hc hf HV.out.1 HV.out.2 hO3 hg3 ho3
                        have HP3 := Lib.hid (WrPost.trans HG.out HK.out hP3)
                        obtain ⟨p3, n3, c3, rfl⟩ := hO3.shape3
                        clear hO3 hg3 ho3 hP3))
  go_end0
  exact ⟨rfl, by rw [← List.append_assoc]; exact HP3.out⟩
theorem exec_box32 (r : Operand → Value) (dst : Option Tmp) (x : Operand) (ty : TypeId) (pos : String) (after : Array Edge) (guard : Option (Nat × Bool)) :
    execOp r ⟨dst, .box 51 x, ty, pos, after, guard⟩ = bxT 51 (r x) := rfl
theorem bx_dig (w : World) (l : List (BitVec 8)) : (bxT 51 (digV l)).run Try.prog w = .ok (.value (.pointer (some ⟨w.heap.size, 0, none⟩))) (w.alloc (.cells (tab 32 (dgF l)) 51)) := by
  have hs := size32
  cases hq : Try.prog.info? 51 with
  | none => rw [hq] at hs; cases hs
  | some i =>
    rw [hq] at hs
    simp at hs
    unfold digV
    simp [bxT, Instr.box, newVar, newRow, Value.cells]
theorem dgF_sl {w : World} {E : Nat} {T : TypeId} {l : List (BitVec 8)} (h : Row w E T 32 (dgF l)) (hl : l.length = 32) : Sl w (some ⟨E, 0, none⟩) l :=
  Sl.row h (by omega) fun j hj => rfl
attribute [local go_sem] sl_arr bx_dig
attribute [local go_sem ↓] exec_slice exec_box32
set_option maxHeartbeats 1000000 in
theorem wrP_digest (N : Nat) (w : World) (a : Addr) (g : Option Nat) (l : List (BitVec 8)) (bs : List (BitVec 8)) (h : WrP N w a g l) (hl : l.length < 1000000000) (hn : bs.length = 32) :
    Calls Try.prog 29 #[.pointer (some a), digV bs] w fun e w' => e = .returned (.tuple #[]) ∧ WrPost WrP N w a g (l ++ bs) w' := by
  obtain ⟨b, v, rfl, k1, hc, hf, hO, hv, hgb⟩ := h
  have hblt : b < w.heap.size := World.block_lt_of_cell? w _ hc
  have hB : Below w.heap.size w (w.alloc (.cells (tab 32 (dgF bs)) 51)).drew := ((Below.refl _ _).alloc (Nat.le_refl _) _).drew
  have HB := Lib.hid hB
  have HO := Lib.hid (hO.of_below hB)
  have HSL := Lib.hid (dgF_sl (Row.new w 51 32 (dgF bs)).drew hn)
  have HV := Lib.hid (And.intro hv hgb)
  have hNs : N ≤ (w.alloc (.cells (tab 32 (dgF bs)) 51)).drew.heap.size := by have := hB.size; omega
  have hc1 : (w.alloc (.cells (tab 32 (dgF bs)) 51)).drew.cell? ⟨b, 0, none⟩ = some v := by rw [hB.cell (by exact hblt)]; exact hc
  have HC := Lib.hid (And.intro hc hf)
  have HNS := Lib.hid hNs
  have HL := Lib.hid (And.intro hl hn)
  clear hB hO hv hgb hc hf hNs hl hn
  obtain ⟨p0, n0, c0, rfl⟩ := HO.out.shape3
  go_enter Try.func29, Try.ntmps29
  go_wp2
  go_region_law (first
    | (refine step_appendL _ rfl (.tmp 8) (.tmp 9) rfl N (.slice p0 n0 c0) l rfl HO.out (some ⟨w.heap.size, 0, none⟩) 32 32 bs HL.out.2 rfl HSL.out (fun h => by cases h) (by have := HL.out.1; omega) HNS.out ?_; rintro v3 w3 hO3 hg3 ho3
       obtain ⟨⟨z3, f3⟩, hP3⟩ := wr_put k1 hblt HB.out HC.out.1 HC.out.2 HV.out.1 HV.out.2 hO3 hg3 ho3
       have HP3 := Lib.hid hP3
       obtain ⟨p3, n3, c3, rfl⟩ := hO3.shape3
       clear hO3 hg3 ho3 hP3))
  all_goals
    go_wp2
    go_end0
    exact ⟨rfl, HP3.out⟩
end Go.Proofs.Ytgmogbgkokofoaa
