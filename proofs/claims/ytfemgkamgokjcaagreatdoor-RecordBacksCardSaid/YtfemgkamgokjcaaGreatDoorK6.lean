/- Merged texts: Gdm10, AppL6, Rct10, Rof10, Rog10, RdBP6, RdDP6, RdGP6. -/
import Derived.Test.YtfemgkamgokjcaaGreatDoorK4
import Derived.Test.YtfemgkamgokjcaaGreatDoorK5
import Derived.OwnWalk
import Derived.RegionTactic
import Derived.Maps.AppendAt
import Derived.Test.YtfemgkamgokjcaaGreatDoorBytes
import Derived.Test.YtfemgkamgokjcaaGreatDoorK2
import Derived.Test.YtfemgkamgokjcaaGreatDoorOwnK8
import Derived.Test.YtfemgkamgokjcaaGreatDoorK1
import Derived.Deep.RegionLaw
import Derived.Test.YtfemgkamgokjcaaGreatDoorDig6
set_option linter.unusedSimpArgs false
set_option linter.unusedVariables false
/- Which records are good: the reference. -/
set_option maxRecDepth 100000
namespace Go.Proofs.YtfemgkamgokjcaaGreatDoor
open Go Go.RowKit

attribute [-go_sem] Sha.exec_store
attribute [local go_sem ↓] exec_boxA exec_loadA exec_indexA exec_allocA exec_storeA exec_buildA exec_eqlA exec_neqA exec_boxV exec_loadV exec_indexV exec_allocV exec_storeV exec_buildV exec_eqlV exec_neqV
attribute [local go_sem] boxA indexA storeNewA buildA eqlA neqA boxV indexV storeNewV buildV eqlV neqV

attribute [local go_sem ↓] exec_boxM exec_load32 exec_build32 exec_eqlD exec_neqD
attribute [local go_sem] boxM bd32 eqlD neqD
theorem goodR_true {r : Rc} (h : kindL r.path = 3 ∧ gdV r.ver = true ∧ veq r.ver (fun _ => 0) = false ∧ 0 ≤ r.size ∧ r.size ≤ 16384 ∧ 0 ≤ r.time ∧ 0 ≤ r.chg ∧ r.n = nblk r.size.toNat) :
    goodR r = (!r.dead || (decide (r.size = 0) && deq r.whole z32)) := by
  obtain ⟨h1, h2, h3, h4, h5, h6, h7, h8⟩ := h
  unfold goodR rfE okV
  rw [if_pos h1, okS_iff.2 ⟨h4, h5, h6, h7⟩, h2, h3, decide_eq_true h8]
  simp
theorem goodR_false {r : Rc} (h : ¬ (kindL r.path = 3 ∧ gdV r.ver = true ∧ veq r.ver (fun _ => 0) = false ∧ 0 ≤ r.size ∧ r.size ≤ 16384 ∧ 0 ≤ r.time ∧ 0 ≤ r.chg ∧ r.n = nblk r.size.toNat)) : goodR r = false := by
  cases e : goodR r with
  | false => rfl
  | true =>
    exfalso
    apply h
    unfold goodR at e
    rw [Bool.and_eq_true, Bool.and_eq_true, decide_eq_true_eq, decide_eq_true_eq] at e
    obtain ⟨h1, h2, h3⟩ := rfE_zero e.1
    obtain ⟨h4, h5, h6, h7⟩ := okS_iff.1 h2
    unfold okV at h3
    rw [Bool.and_eq_true, Bool.not_eq_true'] at h3
    exact ⟨h1, h3.1, h3.2, h4, h5, h6, h7, e.2.1⟩
set_option maxRecDepth 100000 in
set_option maxHeartbeats 4000000 in
theorem refGood10_any (r : Rc) (hp : r.path.length < 100000) (hw : r.whole.length = 32) (w : World) :
    Calls Tryz.prog 12 #[rcV r] w fun e w' => e = .returned (.bool (goodR r)) ∧ Below w.heap.size w w' := by
  have HK := Lib.hid (fun u => refKind_any r.path hp u)
  have HG := Lib.hid (fun u => refGood9_any r.ver u)
  obtain ⟨W, hW⟩ : ∃ W, w.alloc (.cells (tab 54 (rcF r)) 26) = W := ⟨_, rfl⟩
  have hR : Row W w.heap.size 26 54 (rcF r) := by rw [← hW]; exact Row.new w _ 54 (rcF r)
  have HB := Lib.hid (show Below w.heap.size w W from by rw [← hW]; exact (Below.refl _ _).alloc (Nat.le_refl _) _)
  have HS := Lib.hid (fun (u : World) (hu : Below W.heap.size W u) => (show _ ∧ _ ∧ _ ∧ _ ∧ _ ∧ _ ∧ _ ∧ _ from ⟨loadVT vtA (rc_ver (hR.of_below hu)), ld_dig (rc_whole (hR.of_below hu) hw) hw, rc_path (hR.of_below hu), rc_size (hR.of_below hu), rc_time (hR.of_below hu), rc_chg (hR.of_below hu), rc_dead (hR.of_below hu), rc_blocks (hR.of_below hu)⟩))
  have HE := Lib.hid hW
  clear hW hR
  have HN := Lib.hid (@goodR_false r)
  have HY := Lib.hid (@goodR_true r)
  obtain ⟨Y, hY⟩ : ∃ Y, goodR r = Y := ⟨_, rfl⟩
  rw [hY] at HN HY ⊢
  clear hY
  obtain ⟨V, hV⟩ : ∃ V, rcV r = V := ⟨_, rfl⟩
  have HV := Lib.hid (show ∀ u : World, (bxT 26 V).run Tryz.prog u = .ok (.value (.pointer (some ⟨u.heap.size, 0, none⟩))) (u.alloc (.cells (tab 54 (rcF r)) 26)) from fun u => by rw [← hV]; exact boxM u r)
  rw [hV]
  have hV2 := HV.out w
  rw [HE.out] at hV2
  clear hV HV
  obtain ⟨p, s, t, c, f, d, wh, q, n, cap⟩ := r
  dsimp only at *
  obtain ⟨k, hk⟩ : ∃ k, kindL p = k := ⟨_, rfl⟩
  obtain ⟨g, hg⟩ : ∃ g, gdV f = g := ⟨_, rfl⟩
  obtain ⟨m, hm⟩ : ∃ m, nblk s.toNat = m := ⟨_, rfl⟩
  have HM := Lib.hid (fun (h1 : 0 ≤ s) (h2 : s ≤ 16384) => (show ((s + 255).tdiv 256 = (m : Int) ∧ (s + 255) / 256 = (m : Int)) ∧ IntKind.i64.wrap (s + 255) = s + 255 ∧ IntKind.i64.wrap (m : Int) = (m : Int) from by
    unfold nblk at hm
    have : (s + 255) / 256 = (m : Int) := by omega
    refine ⟨⟨by rw [Int.tdiv_eq_ediv_of_nonneg (by omega)]; exact this, this⟩, by rw [IntKind.wrap_i64]; omega, by rw [IntKind.wrap_i64]; omega⟩))
  rw [hk] at HK HN HY
  rw [hg] at HG HN HY
  rw [hm] at HN HY
  clear hk hg hm
  have l0 := (HS.out W (Below.refl _ _)).2.2.1
  go_enter Tryz.func12, Tryz.ntmps12
  go_wp2_with fail
  clear hV2 l0
  refine (HK.out _).mono ?_
  rintro e u ⟨rfl, hB⟩
  have HBu := Lib.hid hB
  clear hB
  by_cases h3 : k = 3
  · subst h3
    have l1 := (HS.out u HBu.out).1
    go_wp2_with fail
    clear l1
    refine (HG.out _).mono ?_
    rintro e u2 ⟨rfl, hB2⟩
    obtain ⟨l1, l2, -, l4, l5, l6, l7, l8⟩ := HS.out u2 (HBu.out.trans (hB2.mono HBu.out.size))
    have HBB := Lib.hid (HB.out.trans ((HBu.out.trans (hB2.mono HBu.out.size)).mono HB.out.size))
    clear hB2
    cases g with
    | false =>
      clear l2 l4 l5 l6 l7 l8
      go_wp2
      go_ret
      exact ⟨by rw [HN.out (fun h => by cases h.2.1)]; rfl, HBB.out⟩
    | true =>
      cases hz : veq f fun _ => 0 with
      | true =>
        rw [hz] at HN
        clear l2 l4 l5 l6 l7 l8
        go_wp2
        go_ret
        exact ⟨by rw [HN.out (fun h => by cases h.2.2.1)]; rfl, HBB.out⟩
      | false =>
        rw [hz] at HN HY
        by_cases h1 : s < 0
        · have d1 : decide (s < 0) = true := decide_eq_true h1
          have H1 := Lib.hid h1
          clear l2 l5 l6 l7 l8 h1
          go_wp2
          go_ret
          exact ⟨by rw [HN.out (fun h => by have := h.2.2.2.1; have := H1.out; omega)]; rfl, HBB.out⟩
        · have d1 : decide (s < 0) = false := decide_eq_false h1
          by_cases h2 : 16384 < s
          · have d2 : decide (16384 < s) = true := decide_eq_true h2
            have H2 := Lib.hid h2
            clear l2 l5 l6 l7 l8
            go_wp2
            go_ret
            exact ⟨by rw [HN.out (fun h => by have := h.2.2.2.2.1; have := H2.out; omega)]; rfl, HBB.out⟩
          · have d2 : decide (16384 < s) = false := decide_eq_false h2
            by_cases h4 : t < 0
            · have d4 : decide (t < 0) = true := decide_eq_true h4
              have H4 := Lib.hid h4
              clear l2 l6 l7 l8
              go_wp2
              go_ret
              exact ⟨by rw [HN.out (fun h => by have := h.2.2.2.2.2.1; have := H4.out; omega)]; rfl, HBB.out⟩
            · have d4 : decide (t < 0) = false := decide_eq_false h4
              by_cases h5 : c < 0
              · have d5 : decide (c < 0) = true := decide_eq_true h5
                have H5 := Lib.hid h5
                clear l2 l7 l8
                go_wp2
                go_ret
                exact ⟨by rw [HN.out (fun h => by have := h.2.2.2.2.2.2.1; have := H5.out; omega)]; rfl, HBB.out⟩
              · have d5 : decide (c < 0) = false := decide_eq_false h5
                obtain ⟨⟨x1, x2⟩, x3, x4⟩ := HM.out (by omega) (by omega)
                by_cases h6 : n = m
                · have d6 : decide ((n : Int) = (m : Int)) = true := decide_eq_true (by omega)
                  have HYY := Lib.hid (HY.out ⟨by trivial, by trivial, by trivial, by omega, by omega, by omega, by omega, by first | trivial | exact h6⟩)
                  subst h6
                  cases d with
                  | false =>
                    clear l2
                    go_wp2
                    go_ret
                    exact ⟨by rw [HYY.out]; rfl, HBB.out⟩
                  | true =>
                    by_cases h0 : s = 0
                    · have d0 : decide (s = 0) = true := decide_eq_true h0
                      have H0 := Lib.hid h0
                      clear h0
                      go_wp2
                      · go_ret
                        exact ⟨by rw [HYY.out, d0]; rfl, HBB.out⟩
                      all_goals exact absurd H0.out (by assumption)
                    · have d0 : decide (s = 0) = false := decide_eq_false h0
                      clear l2
                      go_wp2
                      go_ret
                      exact ⟨by rw [HYY.out, d0]; rfl, HBB.out⟩
                · have d6 : decide ((n : Int) = (m : Int)) = false := decide_eq_false (by omega)
                  have H6 := Lib.hid h6
                  have d7 : ((n : Int) != (m : Int)) = true := by rw [bne_iff_ne]; omega
                  clear l2 l7 h6
                  go_wp2
                  go_ret
                  exact ⟨by rw [HN.out (fun h => H6.out h.2.2.2.2.2.2.2)]; rfl, HBB.out⟩
  · have hk1 : ¬ (k : Int) = 3 := by omega
    have hk2 : decide ((k : Int) = 3) = false := decide_eq_false hk1
    have H3 := Lib.hid h3
    have HBB := Lib.hid (HB.out.trans (HBu.out.mono HB.out.size))
    clear h3
    go_wp2
    go_ret
    exact ⟨by rw [HN.out (fun h => H3.out h.1)]; rfl, HBB.out⟩
end Go.Proofs.YtfemgkamgokjcaaGreatDoor
/- Bytes appended to a slice of the call's own: the block afterwards is the old one or a new one. -/
set_option maxRecDepth 100000
namespace Go.Proofs.YtfemgkamgokjcaaGreatDoor
open Go Go.RowKit
attribute [-go_sem] Sha.exec_store

theorem append_ownL (w : World) (base : Nat) (ty : TypeId) (v : Value) (l : List (BitVec 8)) (hown : OwnB w base v l) (p : Option Addr) (n cap : Nat) (bs : List (BitVec 8)) (hbl : bs.length = n) (hs : Sl w p bs) (hc : p = none → cap = 0)
    (hn : l.length + n < 1000000000000) (hb : base ≤ w.heap.size) :
    ∃ v' w', (Builtin.append_ #[35, 35] ty #[v, .slice p n cap]).run Tryz.prog w = .ok v' w' ∧ OwnB w' base v' (l ++ bs) ∧ w.grownBy w' v.ownBlock ∧ (v'.ownBlock = v.ownBlock ∨ v'.ownBlock = some w.heap.size) := by
  subst hbl
  obtain ⟨i0, hi, hz0, hz1, hz2⟩ := info_parts info5
  cases p with
  | some a =>
    obtain ⟨v', w', h1, h2, h3, _, h5⟩ := run_append_own_at (P := Tryz.prog) w base 35 ty 5 i0 (.int .u8 0) 1 1 und35 hi hz0 hz1 hz2 rfl (by decide) v l.length (l.map B) hown a bs.length cap (bs.map B) (by simp) hs.news (one_map bs)
      (by simp only [maxLen]; omega) (by omega) hb
    exact ⟨v', w', h1, by unfold OwnB; rw [List.length_append, List.map_append]; exact h2, h3, h5⟩
  | none =>
    have : bs = [] := by
      cases bs with
      | nil => rfl
      | cons x r => obtain ⟨c, o, e, _⟩ := hs 0 (by simp); cases e
    subst this
    obtain rfl := hc rfl
    exact ⟨v, w, run_append_owned_none (P := Tryz.prog) w base 35 ty 5 i0 1 und35 hi v l.length (l.map B) hown, by rw [List.append_nil]; exact hown, World.grownBy.refl _ _, .inl rfl⟩
theorem wpl_appendL {ops : Array Oper} {rest : List Oper} {o : Oper} {a : Act} {Q : Exit → Act → World → Prop} (w : World) (hgd : o.guard = none) (s x : Operand)
    (ho : o.op = .call { callee := .builtin .append, args := #[s, x], argTypes := #[35, 35] })
    (base : Nat) (v : Value) (l : List (BitVec 8)) (hs : a.eval s = v) (hown : OwnB w base v l) (p : Option Addr) (n cap : Nat) (bs : List (BitVec 8)) (hbl : bs.length = n) (hx : a.eval x = .slice p n cap) (hsl : Sl w p bs) (hc : p = none → cap = 0)
    (hn : l.length + n < 1000000000000) (hb : base ≤ w.heap.size)
    (h : ∀ v' w', OwnB w' base v' (l ++ bs) → w.grownBy w' v.ownBlock → (v'.ownBlock = v.ownBlock ∨ v'.ownBlock = some w.heap.size) → wpList Tryz.prog ops Q rest (a.put o.dst v') w') : wpList Tryz.prog ops Q (o :: rest) a w := by
  refine wpList_plain hgd fun K hK => ?_
  obtain ⟨v', w', hr, h2, h3, h4⟩ := append_ownL w base o.type v l hown p n cap bs hbl hsl hc hn hb
  unfold Oper.wp execOp
  simp only [ho, resolve, invoke, builtin, Sem.run_bind, Sem.run_pure, Result.andThen_ok, List.map_toArray, List.map_cons, List.map_nil, hs, hx, hr]
  exact hK _ _ (h v' w' h2 h3 h4)
theorem step_appendL {ops : Array Oper} {o : Oper} {a : Act} {Q : Exit → Act → World → Prop} {K : Act → World → Prop} {Z : Prop} (w : World) (hgd : o.guard = none) (s x : Operand)
    (ho : o.op = .call { callee := .builtin .append, args := #[s, x], argTypes := #[35, 35] })
    (base : Nat) (v : Value) (l : List (BitVec 8)) (hs : a.eval s = v) (hown : OwnB w base v l) (p : Option Addr) (n cap : Nat) (bs : List (BitVec 8)) (hbl : bs.length = n) (hx : a.eval x = .slice p n cap) (hsl : Sl w p bs) (hc : p = none → cap = 0)
    (hn : l.length + n < 1000000000000) (hb : base ≤ w.heap.size)
    (h : ∀ v' w', OwnB w' base v' (l ++ bs) → w.grownBy w' v.ownBlock → (v'.ownBlock = v.ownBlock ∨ v'.ownBlock = some w.heap.size) → K (a.put o.dst v') w') : if Region.wanted o (yielded ops a.tmps) = true then Oper.wp Tryz.prog o a w K Q else Z := by
  have hw : Region.wanted o (yielded ops a.tmps) = true := by simp [Region.wanted, hgd]
  rw [if_pos hw]
  obtain ⟨v', w', hr, h2, h3, h4⟩ := append_ownL w base o.type v l hown p n cap bs hbl hsl hc hn hb
  unfold Oper.wp execOp
  simp only [ho, resolve, invoke, builtin, Sem.run_bind, Sem.run_pure, Result.andThen_ok, List.map_toArray, List.map_cons, List.map_nil, hs, hx, hr]
  exact h v' w' h2 h3 h4
end Go.Proofs.YtfemgkamgokjcaaGreatDoor
/- The reference's blocks and their digests. -/
set_option maxRecDepth 100000
namespace Go.Proofs.YtfemgkamgokjcaaGreatDoor
open Go Go.RowKit Go.Shelf

attribute [-go_sem] Sha.exec_store
theorem blk_cut2 (q : Option Addr) (n cap i A : Nat) (w : World) (hA : A = 256 * i) (hi : 256 * i < n) (hc : n ≤ cap) : (Instr.slice 35 (.slice q n cap) (some (.int .i64 (A : Int))) (some (.int .i64 (min ((A : Int) + 256) (n : Int)))) none).run Tryz.prog w = .ok (.slice (q.map (·.add (256 * i))) (blen n i) (cap - 256 * i)) w := by
  have hm : min ((A : Int) + 256) (n : Int) = ((min (256 * i + 256) n : Nat) : Int) := by omega
  rw [hm, run_slice_lh (P := Tryz.prog) w 35 q n cap und35 .i64 .i64 _ _ (by omega) (by omega) (by omega), sizeB]
  have h1 : (A : Int).toNat = 256 * i := by omega
  have h2 : (((min (256 * i + 256) n : Nat) : Int)).toNat = min (256 * i + 256) n := by omega
  simp only [Sem.run_bind, Result.andThen_ok, Sem.run_pure, sliced, h1, h2]
  unfold blen
  rw [if_neg (by omega), Nat.mul_one]
theorem below_newR (w : World) (o : Obj) : Below w.heap.size w (w.alloc o) := (Below.refl _ _).alloc (Nat.le_refl _) _
theorem own_sliceR {w : World} {base : Nat} {E : TypeId} {k n : Nat} {v : Value} {cs : List Value} (h : w.ownsRow base E k v n cs) : ∃ q c, v = .slice q n c := by
  obtain ⟨p, cap, e, _⟩ := own_shape h
  exact ⟨p, cap, e⟩
theorem own_emptyB (w : World) : OwnB (w.alloc (.cells #[] 5)) w.heap.size (.slice (some ⟨w.heap.size, 0, none⟩) 0 0) [] := own_empty (E := 5) (k := 1) w w.heap.size (Nat.le_refl _)
end Go.Proofs.YtfemgkamgokjcaaGreatDoor
/- The reference's digests of blocks, and its record of bytes. -/
set_option maxRecDepth 100000
namespace Go.Proofs.YtfemgkamgokjcaaGreatDoor
open Go Go.RowKit Go.Shelf

attribute [-go_sem] Sha.exec_store
section
attribute [local go_sem] bsD1
attribute [local go_sem ↓] exec_bs
end
end Go.Proofs.YtfemgkamgokjcaaGreatDoor
/- The reference's record of bytes, and of a deleted file. -/
set_option maxRecDepth 100000
namespace Go.Proofs.YtfemgkamgokjcaaGreatDoor
open Go Go.RowKit Go.Shelf

attribute [-go_sem] Sha.exec_store
theorem exec_loadM (r : Operand → Value) (dst : Option Tmp) (p : Operand) (ty : TypeId) (pos : String) (after : Array Edge) (guard : Option (Nat × Bool)) :
    execOp r ⟨dst, .load 26 p, ty, pos, after, guard⟩ = ldT 26 (r p) := rfl
theorem exec_store32F (r : Operand → Value) (dst : Option Tmp) (p v : Operand) (ty : TypeId) (pos : String) (after : Array Edge) (guard : Option (Nat × Bool)) :
    execOp r ⟨dst, .store 23 p v, ty, pos, after, guard⟩ = stT 23 (r p) (r v) := rfl
/-- The digest of all, stored in a record. -/
theorem st_whole {w : World} {b : Nat} {T : TypeId} {r : Rc} (hR : Row w b T 54 (rcF r)) (d : By) (hd : d.length = 32) :
    ∃ w', (stT 23 (.pointer (some ⟨b, 21, none⟩)) (digV d)).run Tryz.prog w = .ok .skip w' ∧ Row w' b T 54 (rcF { r with whole := d }) ∧ Kp b w w' := by
  have h := run_storeCells_at (P := Tryz.prog) b 21 T (digC d) 0 (tab 54 (rcF r)) w hR (by rw [digC_len, tab_size]; omega) (digC_one d)
  have e : ((tab 54 (rcF r)).toList.take (21 + 0) ++ digC d ++ (tab 54 (rcF r)).toList.drop (21 + 0 + (digC d).length)).toArray = tab 54 (rcF { r with whole := d }) := by
    apply Array.ext_getElem?
    intro i
    rw [List.getElem?_toArray, digC_len, hd]
    have hlt : ((tab 54 (rcF r)).toList.take (21 + 0)).length = 21 := by simp [tab]
    by_cases h1 : i < 21
    · rw [List.append_assoc, List.getElem?_append_left (by omega), List.getElem?_take, if_pos h1, Array.getElem?_toList, tab_get 54 _ i (by omega), tab_get 54 _ i (by omega)]
      unfold rcF
      repeat (first | rfl | (split; rfl))
      all_goals (first | rfl | omega)
    · by_cases h2 : i < 53
      · rw [List.append_assoc, List.getElem?_append_right (by omega), hlt, List.getElem?_append_left (by rw [digC_len]; omega), tab_get 54 _ i (by omega)]
        unfold digC rcF dgF
        rw [if_neg (by omega), if_neg (by omega), if_neg (by omega), if_neg (by omega), if_neg (by omega), if_neg (by omega), if_pos (by omega)]
        have h32 : i - 21 < d.length := by omega
        rw [List.getElem?_map, List.getElem?_eq_getElem h32, List.getD_eq_getElem?_getD, List.getElem?_eq_getElem h32]
        rfl
      · by_cases h3 : i < 54
        · obtain rfl : i = 53 := by omega
          rw [List.append_assoc, List.getElem?_append_right (by omega), hlt, List.getElem?_append_right (by rw [digC_len]; omega), digC_len, hd, List.getElem?_drop, Array.getElem?_toList, tab_get 54 _ _ (by omega), tab_get 54 _ 53 (by omega)]
          rfl
        · rw [List.getElem?_eq_none (by simp [tab, digC_len, hd]; omega), Array.getElem?_eq_none (by rw [tab_size]; omega)]
  rw [e] at h
  refine ⟨w.setRow b (tab 54 (rcF { r with whole := d })), ?_, setRow_heap w b _ _ T _ hR, ⟨rfl, rfl, rfl, by simp [World.setRow], fun k _ hk => setRow_other w b k _ hk⟩⟩
  have hs := size32
  have hds : (tab 32 (dgF d)).toList = digC d := dig_tab hd
  cases hq : Tryz.prog.info? 23 with
  | none => rw [hq] at hs; cases hs
  | some i =>
    rw [hq] at hs
    have hs2 : i.size = 32 := by simpa using hs
    unfold digV
    simp [stT, Instr.storeAt, Instr.sureAddr, storeVar, sizeOf, typeInfo, hq, Value.cells, hs2, hds, h, tab_size]
theorem goodR_of (p : S8) (n : Nat) (t c : Int) (f : Nat → Int) (wh : By) (q : Option Addr) (c7 : Nat) : goodR ⟨p, (n : Int), t, c, f, false, wh, q, nblk n, c7⟩ = decide (rfE p (n : Int) t c f = 0) := by
  unfold goodR
  simp
theorem goodR_gone (p : S8) (t c : Int) (f : Nat → Int) (q : Option Addr) (c7 : Nat) : goodR ⟨p, 0, t, c, f, true, z32, q, 0, c7⟩ = decide (rfE p 0 t c f = 0) := by
  have h : nblk 0 = 0 := by decide
  unfold goodR
  simp [h, deq_self]
theorem rfE_kind {p : S8} {s t c : Int} {f : Nat → Int} (h : kindL p = 3) (h0 : rfE p s t c f ≠ 0) : rfE p s t c f = 1 := by
  unfold rfE at h0 ⊢
  rw [if_pos h] at h0 ⊢
  split
  · rename_i h2
    rw [if_pos h2] at h0
    exact absurd rfl h0
  · rfl
attribute [local go_sem ↓] exec_boxA exec_loadA exec_indexA exec_allocA exec_storeA exec_buildA exec_eqlA exec_neqA exec_boxV exec_loadV exec_indexV exec_allocV exec_storeV exec_buildV exec_eqlV exec_neqV
attribute [local go_sem] boxA indexA storeNewA buildA eqlA neqA boxV indexV storeNewV buildV eqlV neqV
attribute [local go_sem ↓] exec_loadS exec_boxS exec_boxP exec_boxM exec_allocP exec_allocM exec_storeP exec_storeM exec_buildP exec_buildM exec_buildS exec_load32 exec_build32 exec_eqlD exec_neqD exec_loadM exec_store32F
attribute [local go_sem] box_stamp boxP boxM bd32 eqlD neqD bdM0 bdP0 bdS3
end Go.Proofs.YtfemgkamgokjcaaGreatDoor
/- The reader's bytes and texts. -/
set_option maxRecDepth 100000
namespace Go.Proofs.YtfemgkamgokjcaaGreatDoor
open Go Go.RowKit
attribute [-go_sem] Sha.exec_store

/-- cut where there are that many. -/
theorem cut_ok (p : Option Addr) (N : Nat) (w : World) (a : Addr) (l : List (BitVec 8)) (n : Nat) (h : RdP p N w a l) (hn : n ≤ l.length) : Calls Tryz.prog 98 #[.pointer (some a), .int .i64 (n : Int)] w fun e w' => Kp a.block w w' ∧ (∃ q : Option Addr, e = .returned (.slice q n n) ∧ Sl w' q (l.take n) ∧ (q = none → n = 0) ∧ (0 < n → ∀ c o, q = some ⟨c, o, none⟩ → c < N)) ∧ RdP p N w' a (l.drop n) :=
  (cut_any p N w a l n h).mono fun e w' ⟨hK, hc⟩ => by
    rcases hc with ⟨-, hq, hR⟩ | ⟨hbad, -⟩
    · exact ⟨hK, hq, hR⟩
    · exact absurd hn (by omega)
/-- cut where there are fewer. -/
theorem cut_no (p : Option Addr) (N : Nat) (w : World) (a : Addr) (l : List (BitVec 8)) (n : Nat) (h : RdP p N w a l) (hn : l.length < n) : Calls Tryz.prog 98 #[.pointer (some a), .int .i64 (n : Int)] w fun e w' => Kp a.block w w' ∧ ∃ v, ThrP a 6 w' v ∧ e = .panicked [{ v := v, recovered := false }] :=
  (cut_any p N w a l n h).mono fun e w' ⟨hK, hc⟩ => by
    rcases hc with ⟨hbad, -⟩ | ⟨-, v, hv, rfl⟩
    · exact absurd hn (by omega)
    · exact ⟨hK, v, hv, rfl⟩
theorem num_ok (p : Option Addr) (N : Nat) (w : World) (a : Addr) (l : List (BitVec 8)) (most : Int) (n k : Nat) (h : RdP p N w a l) (ht : takeI l most = (n, k, 0)) : Calls Tryz.prog 68 #[.pointer (some a), .int .i64 most] w fun e w' => Kp a.block w w' ∧ e = .returned (.int .i64 (n : Int)) ∧ RdP p N w' a (l.drop k) :=
  (rdP_number p N w a l most h).mono fun e w' ⟨hK, hc⟩ => by
    rw [ht] at hc
    rcases hc with ⟨-, ⟨v, rfl, rfl⟩, hR⟩ | ⟨hbad, -⟩
    · exact ⟨hK, rfl, hR⟩
    · exact absurd rfl hbad
theorem num_no (p : Option Addr) (N : Nat) (w : World) (a : Addr) (l : List (BitVec 8)) (most : Int) (c : Nat) (h : RdP p N w a l) (ht : (takeI l most).2.2 = c) (hc0 : c ≠ 0) : Calls Tryz.prog 68 #[.pointer (some a), .int .i64 most] w fun e w' => Kp a.block w w' ∧ ∃ v, ThrP a c w' v ∧ e = .panicked [{ v := v, recovered := false }] :=
  (rdP_number p N w a l most h).mono fun e w' ⟨hK, hc⟩ => by
    rw [ht] at hc
    rcases hc with ⟨hbad, -⟩ | ⟨-, v, hv, rfl⟩
    · exact absurd hbad hc0
    · exact ⟨hK, v, hv, rfl⟩
set_option maxHeartbeats 1000000 in
theorem rdP_bytes (p : Option Addr) (N : Nat) (w : World) (a : Addr) (l : List (BitVec 8)) (most : Int) (h : RdP p N w a l) : Calls Tryz.prog 70 #[.pointer (some a), .int .i64 most] w (RdPost RdP ThrP p N w a l (nextI l 1 most).2.2 (nextI l 1 most).2.1 fun v w' => OwnB w' w.heap.size v (nextI l 1 most).1.b) := by
  have hlen : l.length < 1000000 := by obtain ⟨_, _, _, _, _, _, _, _, _, h7, _⟩ := h; exact h7
  rw [nextI_take (by decide) (by decide)]
  by_cases hc : (takeI l most).2.2 = 0
  · rw [if_neg (by omega), if_neg (by decide)]
    have hok := takeI_ok hc
    obtain ⟨n, k, c, ht⟩ : ∃ n k c, takeI l most = (n, k, c) := ⟨_, _, _, rfl⟩
    rw [ht] at hok hc ⊢
    obtain rfl : c = 0 := hc
    dsimp only at hok ⊢
    have HN := Lib.hid (num_ok p N w a l most n k h ht)
    by_cases hsh : l.length - k < n
    · rw [if_pos hsh]
      have hsh2 : (l.drop k).length < n := by rw [List.length_drop]; exact hsh
      have HSH := Lib.hid hsh2
      clear h ht hok hsh hsh2
      go_enter Tryz.func70, Tryz.ntmps70
      go_wp2_with fail
      refine HN.out.mono ?_
      rintro e w2 ⟨hK, rfl, hR⟩
      have HC := Lib.hid (cut_no p N w2 a _ n hR HSH.out)
      have HK := Lib.hid hK
      clear hK hR
      go_wp2_with fail
      refine HC.out.mono ?_
      rintro e w3 ⟨hK3, v, hv, rfl⟩
      exact ⟨rfl, HK.out.trans hK3, .inr ⟨by decide, v, hv, rfl⟩⟩
    · rw [if_neg hsh]
      have hsh2 : n ≤ (l.drop k).length := by rw [List.length_drop]; omega
      have HSH := Lib.hid hsh2
      have hn : n < 2000000000 := by omega
      clear h ht hok hsh hsh2
      go_enter Tryz.func70, Tryz.ntmps70
      go_wp2_with fail
      refine HN.out.mono ?_
      rintro e w2 ⟨hK, rfl, hR⟩
      have HC := Lib.hid (cut_ok p N w2 a _ n hR HSH.out)
      have HK := Lib.hid hK
      clear hK hR
      go_wp2_with fail
      refine HC.out.mono ?_
      rintro e w3 ⟨hK3, ⟨q, rfl, hS3, hq, -⟩, hR3⟩
      have HCL := Lib.hid (clone_any _ q n n w3 (by rw [List.length_take]; have := HSH.out; omega) hS3 hq (Nat.le_refl _) hn)
      have HK3 := Lib.hid (HK.out.trans hK3)
      have HR3 := Lib.hid hR3
      clear hK3 hR3 hS3 hq
      go_wp2_with fail
      refine HCL.out.mono ?_
      rintro e w4 ⟨v, rfl, hO, hB⟩
      have HO := Lib.hid (hO.lower HK3.out.size)
      have HK4 := Lib.hid (HK3.out.of_below hB)
      have HR4 := Lib.hid (rdP_stay _ _ _ _ _ _ HR3.out hB.size (hB.block _ (rdP_lie _ _ _ _ _ HR3.out).2) fun c o _ hc => hB.block _ (by have := rdP_lie _ _ _ _ _ HR3.out; omega))
      clear hO hB
      go_wp2
      go_ret
      exact ⟨HK4.out, .inl ⟨rfl, ⟨_, rfl, HO.out⟩, by have := HR4.out; rwa [List.drop_drop] at this⟩⟩
  · rw [if_pos hc]
    have HN := Lib.hid (num_no p N w a l most _ h rfl hc)
    generalize (takeI l most).2.2 = c at *
    have HC := Lib.hid hc
    clear h hc
    go_enter Tryz.func70, Tryz.ntmps70
    go_wp2_with fail
    refine HN.out.mono ?_
    rintro e w2 ⟨hK, v, hv, rfl⟩
    exact ⟨rfl, hK, .inr ⟨HC.out, v, hv, rfl⟩⟩
set_option maxHeartbeats 1000000 in
theorem rdP_text (p : Option Addr) (N : Nat) (w : World) (a : Addr) (l : List (BitVec 8)) (most : Int) (h : RdP p N w a l) : Calls Tryz.prog 94 #[.pointer (some a), .int .i64 most] w (RdPost RdP ThrP p N w a l (nextI l 2 most).2.2 (nextI l 2 most).2.1 fun v _ => v = .string (strOf (nextI l 2 most).1.b)) := by
  rw [nextI_take (by decide) (by decide)]
  by_cases hc : (takeI l most).2.2 = 0
  · rw [if_neg (by omega), if_neg (by decide)]
    obtain ⟨n, k, c, ht⟩ : ∃ n k c, takeI l most = (n, k, c) := ⟨_, _, _, rfl⟩
    rw [ht] at hc ⊢
    obtain rfl : c = 0 := hc
    dsimp only
    have HN := Lib.hid (num_ok p N w a l most n k h ht)
    by_cases hsh : l.length - k < n
    · rw [if_pos hsh]
      have hsh2 : (l.drop k).length < n := by rw [List.length_drop]; exact hsh
      have HSH := Lib.hid hsh2
      clear h ht hsh hsh2
      go_enter Tryz.func94, Tryz.ntmps94
      go_wp2_with fail
      refine HN.out.mono ?_
      rintro e w2 ⟨hK, rfl, hR⟩
      have HC := Lib.hid (cut_no p N w2 a _ n hR HSH.out)
      have HK := Lib.hid hK
      clear hK hR
      go_wp2_with fail
      refine HC.out.mono ?_
      rintro e w3 ⟨hK3, v, hv, rfl⟩
      exact ⟨rfl, HK.out.trans hK3, .inr ⟨by decide, v, hv, rfl⟩⟩
    · rw [if_neg hsh]
      have hsh2 : n ≤ (l.drop k).length := by rw [List.length_drop]; omega
      have HSH := Lib.hid hsh2
      clear h ht hsh hsh2
      go_enter Tryz.func94, Tryz.ntmps94
      go_wp2_with fail
      refine HN.out.mono ?_
      rintro e w2 ⟨hK, rfl, hR⟩
      have HC := Lib.hid (cut_ok p N w2 a _ n hR HSH.out)
      have HK := Lib.hid hK
      clear hK hR
      go_wp2_with fail
      refine HC.out.mono ?_
      rintro e w3 ⟨hK3, ⟨q, rfl, hS3, hq, -⟩, hR3⟩
      have hcv := conv_str w3 q _ n n hS3 (by rw [List.length_take]; have := HSH.out; omega) hq
      have HK3 := Lib.hid (HK.out.trans hK3)
      have HR3 := Lib.hid hR3
      obtain ⟨sv, hsv⟩ : ∃ sv, strOf (List.take n (List.drop k l)) = sv := ⟨_, rfl⟩
      rw [hsv] at hcv
      have HSV := Lib.hid hsv
      clear hK3 hR3 hS3 hq hsv
      go_wp2
      go_ret
      exact ⟨HK3.out, .inl ⟨rfl, ⟨_, rfl, by rw [HSV.out]; rfl⟩, by have := HR3.out; rwa [List.drop_drop] at this⟩⟩
  · rw [if_pos hc]
    have HN := Lib.hid (num_no p N w a l most _ h rfl hc)
    generalize (takeI l most).2.2 = c at *
    have HC := Lib.hid hc
    clear h hc
    go_enter Tryz.func94, Tryz.ntmps94
    go_wp2_with fail
    refine HN.out.mono ?_
    rintro e w2 ⟨hK, v, hv, rfl⟩
    exact ⟨rfl, hK, .inr ⟨HC.out, v, hv, rfl⟩⟩
end Go.Proofs.YtfemgkamgokjcaaGreatDoor
/- The reader's truths and digests. -/
set_option maxRecDepth 100000
namespace Go.Proofs.YtfemgkamgokjcaaGreatDoor
open Go Go.RowKit
attribute [-go_sem] Sha.exec_store

theorem step_copyT {ops : Array Oper} {o : Oper} {a : Act} {K : Act → World → Prop} {Q : Exit → Act → World → Prop} {F : Prop} (w : World) (hgd : o.guard = none) (d s : Operand)
    (ho : o.op = .call { callee := .builtin .copy, args := #[d, s], argTypes := #[35, 35] }) (T : TypeId) (E m c : Nat) (g : Nat → Value) (q : Option Addr) (n c' : Nat) (l : List (BitVec 8))
    (hd : a.eval d = .slice (some ⟨E, 0, none⟩) m c) (hs : a.eval s = .slice q n c') (hR : Row w E T m g) (hl : l.length = n) (hsl : Sl w q l) (t : Nat) (ht : t = min m n)
    (h : ∀ w', Row w' E T m (copiedT l t g) → Kp E w w' → K (a.put o.dst (.int .i64 (t : Int))) w') :
    if Region.wanted o (yielded ops a.tmps) = true then Oper.wp Tryz.prog o a w K Q else F := by
  have hw : Region.wanted o (yielded ops a.tmps) = true := by simp [Region.wanted, hgd]
  rw [if_pos hw]
  obtain ⟨w', hr, h2, h3⟩ := run_copyT w o.type T E m c g q n c' l hR hl hsl t ht
  unfold Oper.wp execOp
  simp only [ho, resolve, invoke, builtin, Sem.run_bind, Sem.run_pure, Result.andThen_ok, List.map_toArray, List.map_cons, List.map_nil, hd, hs, hr]
  exact h w' h2 h3
/-- What changes a block of the call's own leaves all else alone. -/
theorem Kp.high {b d : Nat} {x y z : World} (h : Kp b x y) (k : Kp d y z) (hd : x.heap.size ≤ d) : Kp b x z :=
  ⟨k.os.trans h.os, k.tape.trans h.tape, k.output.trans h.output, Nat.le_trans h.size k.size, fun i hi hb => (k.block i (Nat.lt_of_lt_of_le hi h.size) (by omega)).trans (h.block i hi hb)⟩
/-- Nor does it touch the reader. -/
theorem rdP_high {p : Option Addr} {N : Nat} {w w' : World} {a : Addr} {l : List (BitVec 8)} {d : Nat} (h : RdP p N w a l) (k : Kp d w w') (hd : a.block < d) : RdP p N w' a l :=
  rdP_stay _ _ _ _ _ _ h k.size (k.block _ (rdP_lie _ _ _ _ _ h).2 (by omega)) fun c o _ hc => k.block _ (by have := rdP_lie _ _ _ _ _ h; omega) (by have := rdP_lie _ _ _ _ _ h; omega)
theorem rdP_below {p : Option Addr} {N : Nat} {w w' : World} {a : Addr} {l : List (BitVec 8)} (h : RdP p N w a l) (k : Below w.heap.size w w') : RdP p N w' a l :=
  rdP_stay _ _ _ _ _ _ h k.size (k.block _ (rdP_lie _ _ _ _ _ h).2) fun c o _ hc => k.block _ (by have := rdP_lie _ _ _ _ _ h; omega)
theorem sl_arr1 (E : Nat) (w : World) : (slT 179 (.pointer (some ⟨E, 0, none⟩)) none none none).run Tryz.prog w = .ok (.value (.slice (some ⟨E, 0, none⟩) 1 1)) w := by
  first
  | kernel_rfl
  | (unfold slT; simp [go_sem, Instr.sliceAt])
attribute [local go_sem] sl_arr1 sl_arr
attribute [local go_sem ↓] exec_slice
set_option maxRecDepth 100000 in
set_option maxHeartbeats 1000000 in
theorem rdP_truth (p : Option Addr) (N : Nat) (w : World) (a : Addr) (l : List (BitVec 8)) (h : RdP p N w a l) : Calls Tryz.prog 97 #[.pointer (some a)] w (RdPost RdP ThrP p N w a l (nextI l 3 0).2.2 (nextI l 3 0).2.1 fun v _ => v = .bool (decide ((nextI l 3 0).1.n = 1))) := by
  have hL := rdP_lie _ _ _ _ _ h
  have HL := Lib.hid hL
  have HB1 := Lib.hid (show Below w.heap.size w (w.alloc (.cells #[.int .u8 0] 179)) from (Below.refl _ _).alloc (Nat.le_refl _) _)
  have HR1 := Lib.hid (rdP_below (rdP_below h HB1.out) ((Dr.refl _).drew.below _))
  have HROW := Lib.hid (show Row (w.alloc (.cells #[.int .u8 0] 179)).drew w.heap.size 179 1 (fun _ => B 0#8) from by
    have e : (#[.int .u8 0] : Array Value) = tab 1 (fun _ => B 0#8) := by rw [B_eq']; rfl
    rw [e]
    exact (Row.new w _ 1 _).drew)
  by_cases hlt : l.length < 1
  · have hN : nextI l 3 0 = (⟨0, 0, []⟩, 0, 6) := by unfold nextI; rw [if_pos rfl, if_pos (.inl hlt)]
    rw [hN]
    have HC := Lib.hid (cut_no p N _ a l 1 HR1.out hlt)
    clear h hlt hN hL
    go_enter Tryz.func97, Tryz.ntmps97
    go_wp2
    refine wp_region_any (by kernel_rfl) ?_
    change wpAny _ _ _ _ _ _ _ (World.drew _)
    refine wpAny_take (i := 0) (v := .slice (some ⟨w.heap.size, 0, none⟩) 1 1) rfl (by kernel_rfl) (by kernel_rfl) (by kernel_rfl) (fun _ _ _ h => h) (Or.inl ⟨by rfl, ?_⟩) ?_
    · intro u; go_simp
    refine wpAny_take (i := 1) (v := .pointer (some a)) rfl (by kernel_rfl) (by kernel_rfl) (by kernel_rfl) (fun _ _ _ h => h) (Or.inl ⟨by rfl, ?_⟩) ?_
    · intro u; go_simp
    refine wpAny_ready (rs := [2]) (by kernel_rfl) (by simp) ?_
    refine AllReady.cons rfl (fun K hK => ?_) AllReady.nil
    go_simp
    go_at_call 98
    refine HC.out.mono ?_
    rintro e w3 ⟨hK, v, hv, rfl⟩
    exact ⟨rfl, (((Kp.refl _ w).of_below HB1.out).drewN 1).trans hK, .inr ⟨by decide, v, hv, rfl⟩⟩
  · obtain ⟨c, hc⟩ : ∃ c, (l.getD 0 0#8).toNat = c := ⟨_, rfl⟩
    have HC := Lib.hid (cut_ok p N _ a l 1 HR1.out (by omega))
    have HCC := Lib.hid hc
    have hcl := (l.getD 0 0#8).isLt
    rw [hc] at hcl
    have hN : nextI l 3 0 = if 1 < c then (⟨0, 0, []⟩, 0, 6) else (⟨3, c, []⟩, 1, 0) := by
      unfold nextI
      rw [if_pos rfl, hc]
      by_cases h1 : 1 < c
      · rw [if_pos (.inr h1), if_pos h1]
      · rw [if_neg (by omega), if_neg h1]
    obtain ⟨X, hX⟩ : ∃ X, nextI l 3 0 = X := ⟨_, rfl⟩
    rw [hX]
    have HXE := Lib.hid (hX.symm.trans hN)
    clear hX
    have HLT := Lib.hid hlt
    clear h hlt hN hL hc
    go_enter Tryz.func97, Tryz.ntmps97
    go_wp2
    go_region_law (first
      | (go_simp; go_at_call 98; refine HC.out.mono ?_; rintro e w3 ⟨hK, ⟨q, rfl, hS, hq, hqb⟩, hR⟩
         have HK3 := Lib.hid hK
         have HR3 := Lib.hid hR
         have HS3 := Lib.hid hS
         have HROW3 := Lib.hid (HROW.out.of_kp hK (by have := HL.out.2; omega))
         clear hK hR hS hq hqb)
      | (refine step_copyT _ rfl (.tmp 4) (.tmp 6) rfl 179 w.heap.size 1 1 (fun _ => B 0#8) q 1 1 (l.take 1) rfl rfl HROW3.out (by rw [List.length_take]; have := HLT.out; omega) HS3.out 1 rfl ?_; rintro w4 hR4 hK4
         have HR4 := Lib.hid hR4
         have HK4 := Lib.hid hK4
         clear hR4 hK4))
    have hx : w4.cell? ⟨w.heap.size, 0, none⟩ = some (.int .u8 (c : Int)) := by
      rw [HR4.out.cell 0 (by decide)]
      have e : (l.take 1).getD 0 0#8 = l.getD 0 0#8 := by simp [List.getD_eq_getElem?_getD]
      show some (copiedT (l.take 1) 1 (fun _ => B 0#8) 0) = _
      unfold copiedT
      rw [if_pos (by decide), e, B_eq', HCC.out]
    have HX := Lib.hid (rdP_high HR3.out HK4.out HL.out.2)
    have HKW := Lib.hid (((((Kp.refl _ w).of_below HB1.out).drewN 1).trans HK3.out).high HK4.out (Nat.le_refl _))
    clear HK4 HR4 HROW3 HS3 HR3 HK3 HC
    by_cases h1 : 1 < c
    · have h1z : (1 : Int) < (c : Int) := by omega
      have h1d : decide ((1 : Int) < (c : Int)) = true := decide_eq_true h1z
      obtain rfl : X = (⟨0, 0, []⟩, 0, 6) := by rw [HXE.out, if_pos h1]
      have HF := Lib.hid (rdP_fail _ _ _ _ _ 6 HX.out (by decide))
      clear h1
      go_wp2_with fail
      refine HF.out.mono ?_
      rintro e w5 ⟨⟨v, hv, rfl⟩, hK5⟩
      exact ⟨rfl, HKW.out.trans hK5, .inr ⟨by decide, v, hv, rfl⟩⟩
    · obtain rfl : X = (⟨3, c, []⟩, 1, 0) := by rw [HXE.out, if_neg h1]
      rcases (show c = 0 ∨ c = 1 by omega) with rfl | rfl
      · have hx0 : w4.cell? ⟨w.heap.size, 0, none⟩ = some (.int .u8 0) := hx
        clear hx h1
        go_wp2
        go_ret
        exact ⟨HKW.out, .inl ⟨rfl, ⟨_, rfl, rfl⟩, HX.out⟩⟩
      · have hx0 : w4.cell? ⟨w.heap.size, 0, none⟩ = some (.int .u8 1) := hx
        clear hx h1
        go_wp2
        go_ret
        exact ⟨HKW.out, .inl ⟨rfl, ⟨_, rfl, rfl⟩, HX.out⟩⟩
end Go.Proofs.YtfemgkamgokjcaaGreatDoor
/- The reader's digests. -/
set_option maxRecDepth 100000
namespace Go.Proofs.YtfemgkamgokjcaaGreatDoor
open Go Go.RowKit
attribute [-go_sem] Sha.exec_store

theorem st_row32 {w : World} {E : Nat} {T : TypeId} {g : Nat → Value} (hR : Row w E T 32 g) (l : List (BitVec 8)) :
    ∃ w', (stT 23 (.pointer (some ⟨E, 0, none⟩)) (digV l)).run Tryz.prog w = .ok .skip w' ∧ Row w' E T 32 (dgF l) ∧ Kp E w w' := by
  have h := run_storeVar_row (P := Tryz.prog) w E T 23 (tab 32 g) (tab 32 (dgF l)) hR (by rw [size32, tab_size]) (by rw [tab_size, tab_size]) (by simp [tab, dgF, one_B])
  refine ⟨w.setRow E (tab 32 (dgF l)), ?_, setRow_heap w E _ _ T _ hR, ⟨rfl, rfl, rfl, by simp [World.setRow], fun k _ hk => setRow_other w E k _ hk⟩⟩
  unfold digV
  simp only [stT, Instr.storeAt, Instr.sureAddr, Sem.run_bind, Sem.run_pure, Result.andThen, h]
attribute [local go_sem] sl_arr
attribute [local go_sem ↓] exec_slice exec_alloc32 exec_load32 exec_store32
set_option maxRecDepth 100000 in
set_option maxHeartbeats 1000000 in
theorem rdP_digest (p : Option Addr) (N : Nat) (w : World) (a : Addr) (l : List (BitVec 8)) (h : RdP p N w a l) : Calls Tryz.prog 51 #[.pointer (some a)] w (RdPost RdP ThrP p N w a l (nextI l 4 0).2.2 (nextI l 4 0).2.1 fun v _ => v = digV (nextI l 4 0).1.b) := by
  have hL := rdP_lie _ _ _ _ _ h
  have HL := Lib.hid hL
  have hB1 : Below w.heap.size w ((w.alloc (.cells (zb 32) 23)).alloc (.cells (zb 32) 23)) := ((Below.refl _ _).alloc (Nat.le_refl _) _).alloc (by simp [World.size_alloc]) _
  have HB1 := Lib.hid hB1
  have HR1 := Lib.hid (rdP_below (rdP_below h hB1) ((Dr.refl _).drew.below _))
  have e0 : zb 32 = tab 32 (fun _ => B 0#8) := by unfold zb; exact tab_congr fun j hj => by rw [B_eq']
  have HROW := Lib.hid (show Row ((w.alloc (.cells (zb 32) 23)).alloc (.cells (zb 32) 23)).drew w.heap.size 23 32 (fun _ => B 0#8) ∧ Row ((w.alloc (.cells (zb 32) 23)).alloc (.cells (zb 32) 23)).drew (w.heap.size + 1) 23 32 (fun _ => B 0#8) from by
    rw [e0]
    refine ⟨((Row.new w _ 32 _).of_below ((Below.refl _ _).alloc (Nat.le_refl _) _)).drew, ?_⟩
    have := Row.new (w.alloc (.cells (tab 32 (fun _ => B 0#8)) 23)) 23 32 (fun _ => B 0#8)
    rw [World.size_alloc] at this
    exact this.drew)
  obtain ⟨X, hX⟩ : ∃ X, nextI l 4 0 = X := ⟨_, rfl⟩
  rw [hX]
  by_cases hlt : l.length < 32
  · obtain rfl : X = (⟨0, 0, []⟩, 0, 6) := by rw [← hX]; unfold nextI; rw [if_neg (by decide), if_pos rfl, if_pos hlt]
    have HC := Lib.hid (cut_no p N _ a l 32 HR1.out hlt)
    clear h hlt hX hL hB1 e0
    go_enter Tryz.func51, Tryz.ntmps51
    go_wp2
    refine wp_region_any (by kernel_rfl) ?_
    change wpAny _ _ _ _ _ _ _ (World.drew _)
    refine wpAny_take (i := 0) (v := .slice (some ⟨w.heap.size + 1, 0, none⟩) 32 32) rfl (by kernel_rfl) (by kernel_rfl) (by kernel_rfl) (fun _ _ _ h => h) (Or.inl ⟨by rfl, ?_⟩) ?_
    · intro u; go_simp
    refine wpAny_take (i := 1) (v := .pointer (some a)) rfl (by kernel_rfl) (by kernel_rfl) (by kernel_rfl) (fun _ _ _ h => h) (Or.inl ⟨by rfl, ?_⟩) ?_
    · intro u; go_simp
    refine wpAny_ready (rs := [2]) (by kernel_rfl) (by simp) ?_
    refine AllReady.cons rfl (fun K hK => ?_) AllReady.nil
    go_simp
    go_at_call 98
    refine HC.out.mono ?_
    rintro e w3 ⟨hK, v, hv, rfl⟩
    exact ⟨rfl, (((Kp.refl _ w).of_below HB1.out).drewN 1).trans hK, .inr ⟨by decide, v, hv, rfl⟩⟩
  · obtain rfl : X = (⟨4, 0, l.take 32⟩, 32, 0) := by rw [← hX]; unfold nextI; rw [if_neg (by decide), if_pos rfl, if_neg hlt]
    have HC := Lib.hid (cut_ok p N _ a l 32 HR1.out (by omega))
    have hl32 : (l.take 32).length = 32 := by rw [List.length_take]; omega
    have HLN := Lib.hid hl32
    generalize l.take 32 = d at *
    clear h hlt hX hL hB1 e0 hl32
    go_enter Tryz.func51, Tryz.ntmps51
    go_wp2
    go_region_law (first
      | (go_simp; go_at_call 98; refine HC.out.mono ?_; rintro e w3 ⟨hK, ⟨q, rfl, hS, hq, hqb⟩, hR⟩
         have HK3 := Lib.hid hK
         have HR3 := Lib.hid hR
         have HS3 := Lib.hid hS
         have HROW3 := Lib.hid (And.intro (HROW.out.1.of_kp hK (by have := HL.out.2; omega)) (HROW.out.2.of_kp hK (by have := HL.out.2; omega)))
         clear hK hR hS hq hqb)
      | (refine step_copyT _ rfl (.tmp 4) (.tmp 6) rfl 23 (w.heap.size + 1) 32 32 (fun _ => B 0#8) q 32 32 d rfl rfl HROW3.out.2 HLN.out HS3.out 32 rfl ?_; rintro w4 hR4 hK4
         have HR4 := Lib.hid hR4
         have HK4 := Lib.hid hK4
         clear hR4 hK4))
    have hsl : Sl w4 (some ⟨w.heap.size + 1, 0, none⟩) d := by
      have := Sl.padded HR4.out HLN.out rfl
      rwa [pad32_same HLN.out] at this
    have hld := ld_dig hsl HLN.out
    obtain ⟨w5, hst, hR5, hK5⟩ := st_row32 (HROW3.out.1.of_kp HK4.out (by omega)) d
    have HR5 := Lib.hid hR5
    have HX := Lib.hid (rdP_high (rdP_high HR3.out HK4.out (by have := HL.out.2; omega)) hK5 HL.out.2)
    have HKW := Lib.hid ((((((Kp.refl _ w).of_below HB1.out).drewN 1).trans HK3.out).high HK4.out (Nat.le_succ _)).high hK5 (Nat.le_refl _))
    clear hsl hR5 hK5 HK4 HR4 HROW3 HS3 HR3 HK3 HC
    go_wp2
    refine bodyPost_ret (results_cell_row rfl _ w5 w.heap.size 23 (tab 32 (dgF d)) (0, 0) _ rfl HR5.out und32 rfl (by rw [size32, tab_size])) rfl ?_
    exact ⟨HKW.out, .inl ⟨rfl, ⟨_, rfl, by unfold digV; rfl⟩, HX.out⟩⟩
end Go.Proofs.YtfemgkamgokjcaaGreatDoor
