/- Merged texts: Rof10, Rog10, RdBP6, RdDP6, RdGP6, Tkr10, Rdj10. -/
import Derived.Test.YtnmopjefjpifoaaGreatDoorKN6
import Derived.Test.YtnmopjefjpifoaaGreatDoorKN4
import Derived.Test.YtnmopjefjpifoaaGreatDoorKN1
import Derived.Deep.RegionLaw
import Derived.Deep.RegionHeld3
import Derived.Test.YtnmopjefjpifoaaGreatDoorKN2
import Derived.Test.YtnmopjefjpifoaaGreatDoorReadP6
set_option linter.unusedSimpArgs false
set_option linter.unusedVariables false
/- The reference's digests of blocks, and its record of bytes. -/
set_option maxRecDepth 100000
namespace Go.Proofs.YtnmopjefjpifoaaGreatDoor
open Go Go.RowKit Go.Shelf

attribute [-go_sem] Sha.exec_store
section
attribute [local go_sem] bsD1
attribute [local go_sem ↓] exec_bs
end
end Go.Proofs.YtnmopjefjpifoaaGreatDoor
/- The reference's record of bytes, and of a deleted file. -/
set_option maxRecDepth 100000
namespace Go.Proofs.YtnmopjefjpifoaaGreatDoor
open Go Go.RowKit Go.Shelf

attribute [-go_sem] Sha.exec_store
theorem exec_loadM (r : Operand → Value) (dst : Option Tmp) (p : Operand) (ty : TypeId) (pos : String) (after : Array Edge) (guard : Option (Nat × Bool)) :
    execOp r ⟨dst, .load 49 p, ty, pos, after, guard⟩ = ldT 49 (r p) := rfl
theorem exec_store32F (r : Operand → Value) (dst : Option Tmp) (p v : Operand) (ty : TypeId) (pos : String) (after : Array Edge) (guard : Option (Nat × Bool)) :
    execOp r ⟨dst, .store 41 p v, ty, pos, after, guard⟩ = stT 41 (r p) (r v) := rfl
/-- The digest of all, stored in a record. -/
theorem st_whole {w : World} {b : Nat} {T : TypeId} {r : Rc} (hR : Row w b T 54 (rcF r)) (d : By) (hd : d.length = 32) :
    ∃ w', (stT 41 (.pointer (some ⟨b, 21, none⟩)) (digV d)).run Tryz.prog w = .ok .skip w' ∧ Row w' b T 54 (rcF { r with whole := d }) ∧ Kp b w w' := by
  have h := run_storeCells_at (P := Tryz.prog) b 21 T (digC d) 0 (tab 54 (rcF r)) w hR (by rw [digC_len, tab_size]; omega) (digC_one d)
  have e : ((tab 54 (rcF r)).toList.take (21 + 0) ++ digC d ++ (tab 54 (rcF r)).toList.drop (21 + 0 + (digC d).length)).toArray = tab 54 (rcF { r with whole := d }) := by
    apply Array.ext_getElem?
    intro i
    rw [List.getElem?_toArray, digC_len, hd]
    have hlt : ((tab 54 (rcF r)).toList.take (21 + 0)).length = 21 := by simp [tab]
    by_cases h1 : i < 21
    · rw [List.append_assoc, List.getElem?_append_left (by omega), List.getElem?_take, if_pos h1, Array.getElem?_toList, tab_get 54 _ i (by omega), tab_get 54 _ i (by omega)]
      unfold rcF
      repeat (first | rfl | (split; rfl))
      all_goals (first | rfl | omega)
    · by_cases h2 : i < 53
      · rw [List.append_assoc, List.getElem?_append_right (by omega), hlt, List.getElem?_append_left (by rw [digC_len]; omega), tab_get 54 _ i (by omega)]
        unfold digC rcF dgF
        rw [if_neg (by omega), if_neg (by omega), if_neg (by omega), if_neg (by omega), if_neg (by omega), if_neg (by omega), if_pos (by omega)]
        have h32 : i - 21 < d.length := by omega
        rw [List.getElem?_map, List.getElem?_eq_getElem h32, List.getD_eq_getElem?_getD, List.getElem?_eq_getElem h32]
        rfl
      · by_cases h3 : i < 54
        · obtain rfl : i = 53 := by omega
          rw [List.append_assoc, List.getElem?_append_right (by omega), hlt, List.getElem?_append_right (by rw [digC_len]; omega), digC_len, hd, List.getElem?_drop, Array.getElem?_toList, tab_get 54 _ _ (by omega), tab_get 54 _ 53 (by omega)]
          rfl
        · rw [List.getElem?_eq_none (by simp [tab, digC_len, hd]; omega), Array.getElem?_eq_none (by rw [tab_size]; omega)]
  rw [e] at h
  refine ⟨w.setRow b (tab 54 (rcF { r with whole := d })), ?_, setRow_heap w b _ _ T _ hR, ⟨rfl, rfl, rfl, by simp [World.setRow], fun k _ hk => setRow_other w b k _ hk⟩⟩
  have hs := size32
  have hds : (tab 32 (dgF d)).toList = digC d := dig_tab hd
  cases hq : Tryz.prog.info? 41 with
  | none => rw [hq] at hs; cases hs
  | some i =>
    rw [hq] at hs
    have hs2 : i.size = 32 := by simpa using hs
    unfold digV
    simp [stT, Instr.storeAt, Instr.sureAddr, storeVar, sizeOf, typeInfo, hq, Value.cells, hs2, hds, h, tab_size]
attribute [local go_sem ↓] exec_boxA exec_loadA exec_indexA exec_allocA exec_storeA exec_buildA exec_eqlA exec_neqA exec_boxV exec_loadV exec_indexV exec_allocV exec_storeV exec_buildV exec_eqlV exec_neqV
attribute [local go_sem] boxA indexA storeNewA buildA eqlA neqA boxV indexV storeNewV buildV eqlV neqV
attribute [local go_sem ↓] exec_loadS exec_boxS exec_boxP exec_boxM exec_allocP exec_allocM exec_storeP exec_storeM exec_buildP exec_buildM exec_buildS exec_load32 exec_build32 exec_eqlD exec_neqD exec_loadM exec_store32F
attribute [local go_sem] box_stamp boxP boxM bd32 eqlD neqD bdM0 bdP0 bdS3
end Go.Proofs.YtnmopjefjpifoaaGreatDoor
/- The reader's bytes and texts. -/
set_option maxRecDepth 100000
namespace Go.Proofs.YtnmopjefjpifoaaGreatDoor
open Go Go.RowKit
attribute [-go_sem] Sha.exec_store

/-- cut where there are that many. -/
theorem cut_ok (p : Option Addr) (N : Nat) (w : World) (a : Addr) (l : List (BitVec 8)) (n : Nat) (h : RdP p N w a l) (hn : n ≤ l.length) : Calls Tryz.prog 133 #[.pointer (some a), .int .i64 (n : Int)] w fun e w' => Kp a.block w w' ∧ (∃ q : Option Addr, e = .returned (.slice q n n) ∧ Sl w' q (l.take n) ∧ (q = none → n = 0) ∧ (0 < n → ∀ c o, q = some ⟨c, o, none⟩ → c < N)) ∧ RdP p N w' a (l.drop n) :=
  (cut_any p N w a l n h).mono fun e w' ⟨hK, hc⟩ => by
    rcases hc with ⟨-, hq, hR⟩ | ⟨hbad, -⟩
    · exact ⟨hK, hq, hR⟩
    · exact absurd hn (by omega)
/-- cut where there are fewer. -/
theorem cut_no (p : Option Addr) (N : Nat) (w : World) (a : Addr) (l : List (BitVec 8)) (n : Nat) (h : RdP p N w a l) (hn : l.length < n) : Calls Tryz.prog 133 #[.pointer (some a), .int .i64 (n : Int)] w fun e w' => Kp a.block w w' ∧ ∃ v, ThrP a 6 w' v ∧ e = .panicked [{ v := v, recovered := false }] :=
  (cut_any p N w a l n h).mono fun e w' ⟨hK, hc⟩ => by
    rcases hc with ⟨hbad, -⟩ | ⟨-, v, hv, rfl⟩
    · exact absurd hn (by omega)
    · exact ⟨hK, v, hv, rfl⟩
theorem num_ok (p : Option Addr) (N : Nat) (w : World) (a : Addr) (l : List (BitVec 8)) (most : Int) (n k : Nat) (h : RdP p N w a l) (ht : takeI l most = (n, k, 0)) : Calls Tryz.prog 65 #[.pointer (some a), .int .i64 most] w fun e w' => Kp a.block w w' ∧ e = .returned (.int .i64 (n : Int)) ∧ RdP p N w' a (l.drop k) :=
  (rdP_number p N w a l most h).mono fun e w' ⟨hK, hc⟩ => by
    rw [ht] at hc
    rcases hc with ⟨-, ⟨v, rfl, rfl⟩, hR⟩ | ⟨hbad, -⟩
    · exact ⟨hK, rfl, hR⟩
    · exact absurd rfl hbad
theorem num_no (p : Option Addr) (N : Nat) (w : World) (a : Addr) (l : List (BitVec 8)) (most : Int) (c : Nat) (h : RdP p N w a l) (ht : (takeI l most).2.2 = c) (hc0 : c ≠ 0) : Calls Tryz.prog 65 #[.pointer (some a), .int .i64 most] w fun e w' => Kp a.block w w' ∧ ∃ v, ThrP a c w' v ∧ e = .panicked [{ v := v, recovered := false }] :=
  (rdP_number p N w a l most h).mono fun e w' ⟨hK, hc⟩ => by
    rw [ht] at hc
    rcases hc with ⟨hbad, -⟩ | ⟨-, v, hv, rfl⟩
    · exact absurd hbad hc0
    · exact ⟨hK, v, hv, rfl⟩
set_option maxHeartbeats 1000000 in
theorem rdP_bytes (p : Option Addr) (N : Nat) (w : World) (a : Addr) (l : List (BitVec 8)) (most : Int) (h : RdP p N w a l) : Calls Tryz.prog 67 #[.pointer (some a), .int .i64 most] w (RdPost RdP ThrP p N w a l (nextI l 1 most).2.2 (nextI l 1 most).2.1 fun v w' => OwnB w' w.heap.size v (nextI l 1 most).1.b) := by
  have hlen : l.length < 1000000 := by obtain ⟨_, _, _, _, _, _, _, _, _, h7, _⟩ := h; exact h7
  rw [nextI_take (by decide) (by decide)]
  by_cases hc : (takeI l most).2.2 = 0
  · rw [if_neg (by omega), if_neg (by decide)]
    have hok := takeI_ok hc
    obtain ⟨n, k, c, ht⟩ : ∃ n k c, takeI l most = (n, k, c) := ⟨_, _, _, rfl⟩
    rw [ht] at hok hc ⊢
    obtain rfl : c = 0 := hc
    dsimp only at hok ⊢
    have HN := Lib.hid (num_ok p N w a l most n k h ht)
    by_cases hsh : l.length - k < n
    · rw [if_pos hsh]
      have hsh2 : (l.drop k).length < n := by rw [List.length_drop]; exact hsh
      have HSH := Lib.hid hsh2
      clear h ht hok hsh hsh2
      go_enter Tryz.func67, Tryz.ntmps67
      go_wp2_with fail
      refine HN.out.mono ?_
      rintro e w2 ⟨hK, rfl, hR⟩
      have HC := Lib.hid (cut_no p N w2 a _ n hR HSH.out)
      have HK := Lib.hid hK
      clear hK hR
      go_wp2_with fail
      refine HC.out.mono ?_
      rintro e w3 ⟨hK3, v, hv, rfl⟩
      exact ⟨rfl, HK.out.trans hK3, .inr ⟨by decide, v, hv, rfl⟩⟩
    · rw [if_neg hsh]
      have hsh2 : n ≤ (l.drop k).length := by rw [List.length_drop]; omega
      have HSH := Lib.hid hsh2
      have hn : n < 2000000000 := by omega
      clear h ht hok hsh hsh2
      go_enter Tryz.func67, Tryz.ntmps67
      go_wp2_with fail
      refine HN.out.mono ?_
      rintro e w2 ⟨hK, rfl, hR⟩
      have HC := Lib.hid (cut_ok p N w2 a _ n hR HSH.out)
      have HK := Lib.hid hK
      clear hK hR
      go_wp2_with fail
      refine HC.out.mono ?_
      rintro e w3 ⟨hK3, ⟨q, rfl, hS3, hq, -⟩, hR3⟩
      have HCL := Lib.hid (clone_any _ q n n w3 (by rw [List.length_take]; have := HSH.out; omega) hS3 hq (Nat.le_refl _) hn)
      have HK3 := Lib.hid (HK.out.trans hK3)
      have HR3 := Lib.hid hR3
      clear hK3 hR3 hS3 hq
      go_wp2_with fail
      refine HCL.out.mono ?_
      rintro e w4 ⟨v, rfl, hO, hB⟩
      have HO := Lib.hid (hO.lower HK3.out.size)
      have HK4 := Lib.hid (HK3.out.of_below hB)
      have HR4 := Lib.hid (rdP_stay _ _ _ _ _ _ HR3.out hB.size (hB.block _ (rdP_lie _ _ _ _ _ HR3.out).2) fun c o _ hc => hB.block _ (by have := rdP_lie _ _ _ _ _ HR3.out; omega))
      clear hO hB
      go_wp2
      go_ret
      exact ⟨HK4.out, .inl ⟨rfl, ⟨_, rfl, HO.out⟩, by have := HR4.out; rwa [List.drop_drop] at this⟩⟩
  · rw [if_pos hc]
    have HN := Lib.hid (num_no p N w a l most _ h rfl hc)
    generalize (takeI l most).2.2 = c at *
    have HC := Lib.hid hc
    clear h hc
    go_enter Tryz.func67, Tryz.ntmps67
    go_wp2_with fail
    refine HN.out.mono ?_
    rintro e w2 ⟨hK, v, hv, rfl⟩
    exact ⟨rfl, hK, .inr ⟨HC.out, v, hv, rfl⟩⟩
set_option maxHeartbeats 1000000 in
theorem rdP_text (p : Option Addr) (N : Nat) (w : World) (a : Addr) (l : List (BitVec 8)) (most : Int) (h : RdP p N w a l) : Calls Tryz.prog 223 #[.pointer (some a), .int .i64 most] w (RdPost RdP ThrP p N w a l (nextI l 2 most).2.2 (nextI l 2 most).2.1 fun v _ => v = .string (strOf (nextI l 2 most).1.b)) := by
  rw [nextI_take (by decide) (by decide)]
  by_cases hc : (takeI l most).2.2 = 0
  · rw [if_neg (by omega), if_neg (by decide)]
    obtain ⟨n, k, c, ht⟩ : ∃ n k c, takeI l most = (n, k, c) := ⟨_, _, _, rfl⟩
    rw [ht] at hc ⊢
    obtain rfl : c = 0 := hc
    dsimp only
    have HN := Lib.hid (num_ok p N w a l most n k h ht)
    by_cases hsh : l.length - k < n
    · rw [if_pos hsh]
      have hsh2 : (l.drop k).length < n := by rw [List.length_drop]; exact hsh
      have HSH := Lib.hid hsh2
      clear h ht hsh hsh2
      go_enter Tryz.func223, Tryz.ntmps223
      go_wp2_with fail
      refine HN.out.mono ?_
      rintro e w2 ⟨hK, rfl, hR⟩
      have HC := Lib.hid (cut_no p N w2 a _ n hR HSH.out)
      have HK := Lib.hid hK
      clear hK hR
      go_wp2_with fail
      refine HC.out.mono ?_
      rintro e w3 ⟨hK3, v, hv, rfl⟩
      exact ⟨rfl, HK.out.trans hK3, .inr ⟨by decide, v, hv, rfl⟩⟩
    · rw [if_neg hsh]
      have hsh2 : n ≤ (l.drop k).length := by rw [List.length_drop]; omega
      have HSH := Lib.hid hsh2
      clear h ht hsh hsh2
      go_enter Tryz.func223, Tryz.ntmps223
      go_wp2_with fail
      refine HN.out.mono ?_
      rintro e w2 ⟨hK, rfl, hR⟩
      have HC := Lib.hid (cut_ok p N w2 a _ n hR HSH.out)
      have HK := Lib.hid hK
      clear hK hR
      go_wp2_with fail
      refine HC.out.mono ?_
      rintro e w3 ⟨hK3, ⟨q, rfl, hS3, hq, -⟩, hR3⟩
      have hcv := conv_str w3 q _ n n hS3 (by rw [List.length_take]; have := HSH.out; omega) hq
      have HK3 := Lib.hid (HK.out.trans hK3)
      have HR3 := Lib.hid hR3
      obtain ⟨sv, hsv⟩ : ∃ sv, strOf (List.take n (List.drop k l)) = sv := ⟨_, rfl⟩
      rw [hsv] at hcv
      have HSV := Lib.hid hsv
      clear hK3 hR3 hS3 hq hsv
      go_wp2
      go_ret
      exact ⟨HK3.out, .inl ⟨rfl, ⟨_, rfl, by rw [HSV.out]; rfl⟩, by have := HR3.out; rwa [List.drop_drop] at this⟩⟩
  · rw [if_pos hc]
    have HN := Lib.hid (num_no p N w a l most _ h rfl hc)
    generalize (takeI l most).2.2 = c at *
    have HC := Lib.hid hc
    clear h hc
    go_enter Tryz.func223, Tryz.ntmps223
    go_wp2_with fail
    refine HN.out.mono ?_
    rintro e w2 ⟨hK, v, hv, rfl⟩
    exact ⟨rfl, hK, .inr ⟨HC.out, v, hv, rfl⟩⟩
end Go.Proofs.YtnmopjefjpifoaaGreatDoor
/- The reader's truths and digests. -/
set_option maxRecDepth 100000
namespace Go.Proofs.YtnmopjefjpifoaaGreatDoor
open Go Go.RowKit
attribute [-go_sem] Sha.exec_store

theorem step_copyT {ops : Array Oper} {o : Oper} {a : Act} {K : Act → World → Prop} {Q : Exit → Act → World → Prop} {F : Prop} (w : World) (hgd : o.guard = none) (d s : Operand)
    (ho : o.op = .call { callee := .builtin .copy, args := #[d, s], argTypes := #[53, 53] }) (T : TypeId) (E m c : Nat) (g : Nat → Value) (q : Option Addr) (n c' : Nat) (l : List (BitVec 8))
    (hd : a.eval d = .slice (some ⟨E, 0, none⟩) m c) (hs : a.eval s = .slice q n c') (hR : Row w E T m g) (hl : l.length = n) (hsl : Sl w q l) (t : Nat) (ht : t = min m n)
    (h : ∀ w', Row w' E T m (copiedT l t g) → Kp E w w' → K (a.put o.dst (.int .i64 (t : Int))) w') :
    if Region.wanted o (yielded ops a.tmps) = true then Oper.wp Tryz.prog o a w K Q else F := by
  have hw : Region.wanted o (yielded ops a.tmps) = true := by simp [Region.wanted, hgd]
  rw [if_pos hw]
  obtain ⟨w', hr, h2, h3⟩ := run_copyT w o.type T E m c g q n c' l hR hl hsl t ht
  unfold Oper.wp execOp
  simp only [ho, resolve, invoke, builtin, Sem.run_bind, Sem.run_pure, Result.andThen_ok, List.map_toArray, List.map_cons, List.map_nil, hd, hs, hr]
  exact h w' h2 h3
/-- What changes a block of the call's own leaves all else alone. -/
theorem Kp.high {b d : Nat} {x y z : World} (h : Kp b x y) (k : Kp d y z) (hd : x.heap.size ≤ d) : Kp b x z :=
  ⟨k.os.trans h.os, k.tape.trans h.tape, k.output.trans h.output, Nat.le_trans h.size k.size, fun i hi hb => (k.block i (Nat.lt_of_lt_of_le hi h.size) (by omega)).trans (h.block i hi hb)⟩
/-- Nor does it touch the reader. -/
theorem rdP_high {p : Option Addr} {N : Nat} {w w' : World} {a : Addr} {l : List (BitVec 8)} {d : Nat} (h : RdP p N w a l) (k : Kp d w w') (hd : a.block < d) : RdP p N w' a l :=
  rdP_stay _ _ _ _ _ _ h k.size (k.block _ (rdP_lie _ _ _ _ _ h).2 (by omega)) fun c o _ hc => k.block _ (by have := rdP_lie _ _ _ _ _ h; omega) (by have := rdP_lie _ _ _ _ _ h; omega)
theorem rdP_below {p : Option Addr} {N : Nat} {w w' : World} {a : Addr} {l : List (BitVec 8)} (h : RdP p N w a l) (k : Below w.heap.size w w') : RdP p N w' a l :=
  rdP_stay _ _ _ _ _ _ h k.size (k.block _ (rdP_lie _ _ _ _ _ h).2) fun c o _ hc => k.block _ (by have := rdP_lie _ _ _ _ _ h; omega)
theorem sl_arr1 (E : Nat) (w : World) : (slT 340 (.pointer (some ⟨E, 0, none⟩)) none none none).run Tryz.prog w = .ok (.value (.slice (some ⟨E, 0, none⟩) 1 1)) w := by
  first
  | kernel_rfl
  | (unfold slT; simp [go_sem, Instr.sliceAt])
attribute [local go_sem] sl_arr1 sl_arr
attribute [local go_sem ↓] exec_slice
set_option maxRecDepth 100000 in
set_option maxHeartbeats 1000000 in
theorem rdP_truth (p : Option Addr) (N : Nat) (w : World) (a : Addr) (l : List (BitVec 8)) (h : RdP p N w a l) : Calls Tryz.prog 226 #[.pointer (some a)] w (RdPost RdP ThrP p N w a l (nextI l 3 0).2.2 (nextI l 3 0).2.1 fun v _ => v = .bool (decide ((nextI l 3 0).1.n = 1))) := by
  have hL := rdP_lie _ _ _ _ _ h
  have HL := Lib.hid hL
  have HB1 := Lib.hid (show Below w.heap.size w (w.alloc (.cells #[.int .u8 0] 340)) from (Below.refl _ _).alloc (Nat.le_refl _) _)
  have HR1 := Lib.hid (rdP_below (rdP_below h HB1.out) ((Dr.refl _).drew.below _))
  have HROW := Lib.hid (show Row (w.alloc (.cells #[.int .u8 0] 340)).drew w.heap.size 340 1 (fun _ => B 0#8) from by
    have e : (#[.int .u8 0] : Array Value) = tab 1 (fun _ => B 0#8) := by rw [B_eq']; rfl
    rw [e]
    exact (Row.new w _ 1 _).drew)
  by_cases hlt : l.length < 1
  · have hN : nextI l 3 0 = (⟨0, 0, []⟩, 0, 6) := by unfold nextI; rw [if_pos rfl, if_pos (.inl hlt)]
    rw [hN]
    have HC := Lib.hid (cut_no p N _ a l 1 HR1.out hlt)
    clear h hlt hN hL
    go_enter Tryz.func226, Tryz.ntmps226
    go_wp2
    refine wp_region_any (by kernel_rfl) ?_
    change wpAny _ _ _ _ _ _ _ (World.drew _)
    refine wpAny_take (i := 0) (v := .slice (some ⟨w.heap.size, 0, none⟩) 1 1) rfl (by kernel_rfl) (by kernel_rfl) (by kernel_rfl) (fun _ _ _ h => h) (Or.inl ⟨by rfl, ?_⟩) ?_
    · intro u; go_simp
    refine wpAny_take (i := 1) (v := .pointer (some a)) rfl (by kernel_rfl) (by kernel_rfl) (by kernel_rfl) (fun _ _ _ h => h) (Or.inl ⟨by rfl, ?_⟩) ?_
    · intro u; go_simp
    refine wpAny_ready (rs := [2]) (by kernel_rfl) (by simp) ?_
    refine AllReady.cons rfl (fun K hK => ?_) AllReady.nil
    go_simp
    go_at_call 133
    refine HC.out.mono ?_
    rintro e w3 ⟨hK, v, hv, rfl⟩
    exact ⟨rfl, (((Kp.refl _ w).of_below HB1.out).drewN 1).trans hK, .inr ⟨by decide, v, hv, rfl⟩⟩
  · obtain ⟨c, hc⟩ : ∃ c, (l.getD 0 0#8).toNat = c := ⟨_, rfl⟩
    have HC := Lib.hid (cut_ok p N _ a l 1 HR1.out (by omega))
    have HCC := Lib.hid hc
    have hcl := (l.getD 0 0#8).isLt
    rw [hc] at hcl
    have hN : nextI l 3 0 = if 1 < c then (⟨0, 0, []⟩, 0, 6) else (⟨3, c, []⟩, 1, 0) := by
      unfold nextI
      rw [if_pos rfl, hc]
      by_cases h1 : 1 < c
      · rw [if_pos (.inr h1), if_pos h1]
      · rw [if_neg (by omega), if_neg h1]
    obtain ⟨X, hX⟩ : ∃ X, nextI l 3 0 = X := ⟨_, rfl⟩
    rw [hX]
    have HXE := Lib.hid (hX.symm.trans hN)
    clear hX
    have HLT := Lib.hid hlt
    clear h hlt hN hL hc
    go_enter Tryz.func226, Tryz.ntmps226
    go_wp2
    go_region_law (first
      | (go_simp; go_at_call 133; refine HC.out.mono ?_; rintro e w3 ⟨hK, ⟨q, rfl, hS, hq, hqb⟩, hR⟩
         have HK3 := Lib.hid hK
         have HR3 := Lib.hid hR
         have HS3 := Lib.hid hS
         have HROW3 := Lib.hid (HROW.out.of_kp hK (by have := HL.out.2; omega))
         clear hK hR hS hq hqb)
      | (refine step_copyT _ rfl (.tmp 4) (.tmp 6) rfl 340 w.heap.size 1 1 (fun _ => B 0#8) q 1 1 (l.take 1) rfl rfl HROW3.out (by rw [List.length_take]; have := HLT.out; omega) HS3.out 1 rfl ?_; rintro w4 hR4 hK4
         have HR4 := Lib.hid hR4
         have HK4 := Lib.hid hK4
         clear hR4 hK4))
    have hx : w4.cell? ⟨w.heap.size, 0, none⟩ = some (.int .u8 (c : Int)) := by
      rw [HR4.out.cell 0 (by decide)]
      have e : (l.take 1).getD 0 0#8 = l.getD 0 0#8 := by simp [List.getD_eq_getElem?_getD]
      show some (copiedT (l.take 1) 1 (fun _ => B 0#8) 0) = _
      unfold copiedT
      rw [if_pos (by decide), e, B_eq', HCC.out]
    have HX := Lib.hid (rdP_high HR3.out HK4.out HL.out.2)
    have HKW := Lib.hid (((((Kp.refl _ w).of_below HB1.out).drewN 1).trans HK3.out).high HK4.out (Nat.le_refl _))
    clear HK4 HR4 HROW3 HS3 HR3 HK3 HC
    by_cases h1 : 1 < c
    · have h1z : (1 : Int) < (c : Int) := by omega
      have h1d : decide ((1 : Int) < (c : Int)) = true := decide_eq_true h1z
      obtain rfl : X = (⟨0, 0, []⟩, 0, 6) := by rw [HXE.out, if_pos h1]
      have HF := Lib.hid (rdP_fail _ _ _ _ _ 6 HX.out (by decide))
      clear h1
      go_wp2_with fail
      refine HF.out.mono ?_
      rintro e w5 ⟨⟨v, hv, rfl⟩, hK5⟩
      exact ⟨rfl, HKW.out.trans hK5, .inr ⟨by decide, v, hv, rfl⟩⟩
    · obtain rfl : X = (⟨3, c, []⟩, 1, 0) := by rw [HXE.out, if_neg h1]
      rcases (show c = 0 ∨ c = 1 by omega) with rfl | rfl
      · have hx0 : w4.cell? ⟨w.heap.size, 0, none⟩ = some (.int .u8 0) := hx
        clear hx h1
        go_wp2
        go_ret
        exact ⟨HKW.out, .inl ⟨rfl, ⟨_, rfl, rfl⟩, HX.out⟩⟩
      · have hx0 : w4.cell? ⟨w.heap.size, 0, none⟩ = some (.int .u8 1) := hx
        clear hx h1
        go_wp2
        go_ret
        exact ⟨HKW.out, .inl ⟨rfl, ⟨_, rfl, rfl⟩, HX.out⟩⟩
end Go.Proofs.YtnmopjefjpifoaaGreatDoor
/- The reader's digests. -/
set_option maxRecDepth 100000
namespace Go.Proofs.YtnmopjefjpifoaaGreatDoor
open Go Go.RowKit
attribute [-go_sem] Sha.exec_store

theorem st_row32 {w : World} {E : Nat} {T : TypeId} {g : Nat → Value} (hR : Row w E T 32 g) (l : List (BitVec 8)) :
    ∃ w', (stT 41 (.pointer (some ⟨E, 0, none⟩)) (digV l)).run Tryz.prog w = .ok .skip w' ∧ Row w' E T 32 (dgF l) ∧ Kp E w w' := by
  have h := run_storeVar_row (P := Tryz.prog) w E T 41 (tab 32 g) (tab 32 (dgF l)) hR (by rw [size32, tab_size]) (by rw [tab_size, tab_size]) (by simp [tab, dgF, one_B])
  refine ⟨w.setRow E (tab 32 (dgF l)), ?_, setRow_heap w E _ _ T _ hR, ⟨rfl, rfl, rfl, by simp [World.setRow], fun k _ hk => setRow_other w E k _ hk⟩⟩
  unfold digV
  simp only [stT, Instr.storeAt, Instr.sureAddr, Sem.run_bind, Sem.run_pure, Result.andThen, h]
attribute [local go_sem] sl_arr
attribute [local go_sem ↓] exec_slice exec_alloc32 exec_load32 exec_store32
set_option maxRecDepth 100000 in
set_option maxHeartbeats 1000000 in
theorem rdP_digest (p : Option Addr) (N : Nat) (w : World) (a : Addr) (l : List (BitVec 8)) (h : RdP p N w a l) : Calls Tryz.prog 68 #[.pointer (some a)] w (RdPost RdP ThrP p N w a l (nextI l 4 0).2.2 (nextI l 4 0).2.1 fun v _ => v = digV (nextI l 4 0).1.b) := by
  have hL := rdP_lie _ _ _ _ _ h
  have HL := Lib.hid hL
  have hB1 : Below w.heap.size w ((w.alloc (.cells (zb 32) 41)).alloc (.cells (zb 32) 41)) := ((Below.refl _ _).alloc (Nat.le_refl _) _).alloc (by simp [World.size_alloc]) _
  have HB1 := Lib.hid hB1
  have HR1 := Lib.hid (rdP_below (rdP_below h hB1) ((Dr.refl _).drew.below _))
  have e0 : zb 32 = tab 32 (fun _ => B 0#8) := by unfold zb; exact tab_congr fun j hj => by rw [B_eq']
  have HROW := Lib.hid (show Row ((w.alloc (.cells (zb 32) 41)).alloc (.cells (zb 32) 41)).drew w.heap.size 41 32 (fun _ => B 0#8) ∧ Row ((w.alloc (.cells (zb 32) 41)).alloc (.cells (zb 32) 41)).drew (w.heap.size + 1) 41 32 (fun _ => B 0#8) from by
    rw [e0]
    refine ⟨((Row.new w _ 32 _).of_below ((Below.refl _ _).alloc (Nat.le_refl _) _)).drew, ?_⟩
    have := Row.new (w.alloc (.cells (tab 32 (fun _ => B 0#8)) 41)) 41 32 (fun _ => B 0#8)
    rw [World.size_alloc] at this
    exact this.drew)
  obtain ⟨X, hX⟩ : ∃ X, nextI l 4 0 = X := ⟨_, rfl⟩
  rw [hX]
  by_cases hlt : l.length < 32
  · obtain rfl : X = (⟨0, 0, []⟩, 0, 6) := by rw [← hX]; unfold nextI; rw [if_neg (by decide), if_pos rfl, if_pos hlt]
    have HC := Lib.hid (cut_no p N _ a l 32 HR1.out hlt)
    clear h hlt hX hL hB1 e0
    go_enter Tryz.func68, Tryz.ntmps68
    go_wp2
    refine wp_region_any (by kernel_rfl) ?_
    change wpAny _ _ _ _ _ _ _ (World.drew _)
    refine wpAny_take (i := 0) (v := .slice (some ⟨w.heap.size + 1, 0, none⟩) 32 32) rfl (by kernel_rfl) (by kernel_rfl) (by kernel_rfl) (fun _ _ _ h => h) (Or.inl ⟨by rfl, ?_⟩) ?_
    · intro u; go_simp
    refine wpAny_take (i := 1) (v := .pointer (some a)) rfl (by kernel_rfl) (by kernel_rfl) (by kernel_rfl) (fun _ _ _ h => h) (Or.inl ⟨by rfl, ?_⟩) ?_
    · intro u; go_simp
    refine wpAny_ready (rs := [2]) (by kernel_rfl) (by simp) ?_
    refine AllReady.cons rfl (fun K hK => ?_) AllReady.nil
    go_simp
    go_at_call 133
    refine HC.out.mono ?_
    rintro e w3 ⟨hK, v, hv, rfl⟩
    exact ⟨rfl, (((Kp.refl _ w).of_below HB1.out).drewN 1).trans hK, .inr ⟨by decide, v, hv, rfl⟩⟩
  · obtain rfl : X = (⟨4, 0, l.take 32⟩, 32, 0) := by rw [← hX]; unfold nextI; rw [if_neg (by decide), if_pos rfl, if_neg hlt]
    have HC := Lib.hid (cut_ok p N _ a l 32 HR1.out (by omega))
    have hl32 : (l.take 32).length = 32 := by rw [List.length_take]; omega
    have HLN := Lib.hid hl32
    generalize l.take 32 = d at *
    clear h hlt hX hL hB1 e0 hl32
    go_enter Tryz.func68, Tryz.ntmps68
    go_wp2
    go_region_law (first
      | (go_simp; go_at_call 133; refine HC.out.mono ?_; rintro e w3 ⟨hK, ⟨q, rfl, hS, hq, hqb⟩, hR⟩
         have HK3 := Lib.hid hK
         have HR3 := Lib.hid hR
         have HS3 := Lib.hid hS
         have HROW3 := Lib.hid (And.intro (HROW.out.1.of_kp hK (by have := HL.out.2; omega)) (HROW.out.2.of_kp hK (by have := HL.out.2; omega)))
         clear hK hR hS hq hqb)
      | (refine step_copyT _ rfl (.tmp 4) (.tmp 6) rfl 41 (w.heap.size + 1) 32 32 (fun _ => B 0#8) q 32 32 d rfl rfl HROW3.out.2 HLN.out HS3.out 32 rfl ?_; rintro w4 hR4 hK4
         have HR4 := Lib.hid hR4
         have HK4 := Lib.hid hK4
         clear hR4 hK4))
    have hsl : Sl w4 (some ⟨w.heap.size + 1, 0, none⟩) d := by
      have := Sl.padded HR4.out HLN.out rfl
      rwa [pad32_same HLN.out] at this
    have hld := ld_dig hsl HLN.out
    obtain ⟨w5, hst, hR5, hK5⟩ := st_row32 (HROW3.out.1.of_kp HK4.out (by omega)) d
    have HR5 := Lib.hid hR5
    have HX := Lib.hid (rdP_high (rdP_high HR3.out HK4.out (by have := HL.out.2; omega)) hK5 HL.out.2)
    have HKW := Lib.hid ((((((Kp.refl _ w).of_below HB1.out).drewN 1).trans HK3.out).high HK4.out (Nat.le_succ _)).high hK5 (Nat.le_refl _))
    clear hsl hR5 hK5 HK4 HR4 HROW3 HS3 HR3 HK3 HC
    go_wp2
    refine bodyPost_ret (results_cell_row rfl _ w5 w.heap.size 41 (tab 32 (dgF d)) (0, 0) _ rfl HR5.out und32 rfl (by rw [size32, tab_size])) rfl ?_
    exact ⟨HKW.out, .inl ⟨rfl, ⟨_, rfl, by unfold digV; rfl⟩, HX.out⟩⟩
end Go.Proofs.YtnmopjefjpifoaaGreatDoor
/- What is taken of bytes as a record. -/
set_option maxRecDepth 100000
namespace Go.Proofs.YtnmopjefjpifoaaGreatDoor
open Go Go.RowKit

attribute [-go_sem] Sha.exec_store
set_option maxHeartbeats 1000000 in
theorem number10_any (p : Option Addr) (N : Nat) (w : World) (a : Addr) (l : By) (h : RdP p N w a l) : Calls Tryz.prog 224 #[.pointer (some a)] w (RdPost RdP ThrP p N w a l (takeI l maxT).2.2 (takeI l maxT).2.1 fun v _ => v = .int .i64 ((takeI l maxT).1 : Int)) := by
  have HN := Lib.hid (rdP_number p N w a l 9223372036854775807 h)
  clear h
  show Calls Tryz.prog _ _ _ (RdPost RdP ThrP p N w a l (takeI l 9223372036854775807).2.2 (takeI l 9223372036854775807).2.1 fun v _ => v = .int .i64 ((takeI l 9223372036854775807).1 : Int))
  obtain ⟨y, hy⟩ : ∃ y, takeI l 9223372036854775807 = y := ⟨_, rfl⟩
  obtain ⟨x, k, c⟩ := y
  rw [hy] at HN ⊢
  clear hy
  go_enter Tryz.func224, Tryz.ntmps224
  go_wp2_with fail
  refine HN.out.mono ?_
  rintro e w' ⟨hK, ⟨hc, ⟨v, rfl, rfl⟩, hR⟩ | ⟨hc, v, hv, rfl⟩⟩
  · have HX := Lib.hid (And.intro hK (And.intro hc hR))
    clear hK hc hR
    go_wp2
    go_ret
    exact ⟨HX.out.1, .inl ⟨HX.out.2.1, ⟨_, rfl, rfl⟩, HX.out.2.2⟩⟩
  · exact ⟨rfl, hK, .inr ⟨hc, v, hv, rfl⟩⟩
/-- A record that was taken, as a value. -/
def RcT.rc (r : RcT) (q : Option Addr) (cap : Nat) : Rc := ⟨pS r.path, (r.size : Int), (r.time : Int), (r.chg : Int), r.ver, r.dead, r.whole, q, r.ds.length, cap⟩
/-- What take tells. -/
def TakeRcPost (p : Option Addr) (N : Nat) (w : World) (a : Addr) (x : Except Nat (RcT × By)) (e : Ending) (w' : World) : Prop :=
  Kp a.block w w' ∧ match x with
    | .ok (r, rest) => (∃ q cap, e = .returned (rcV (r.rc q cap)) ∧ DgAt w' (r.rc q cap) r.ds ∧ ∀ c o, q = some ⟨c, o, none⟩ → w.heap.size ≤ c) ∧ RdP p N w' a rest
    | .error c => c ≠ 0 ∧ Thrown (ThrP a) c e w'
theorem rdP_keepM {p : Option Addr} {N : Nat} {x y : World} {a : Addr} {l : By} (h : RdP p N x a l) {M : Nat} (ha : a.block < M) (k : Below M x y) : RdP p N y a l :=
  rdP_stay _ _ _ _ _ _ h k.size (k.block _ ha) fun c o _ hc => k.block _ (by have := rdP_lie _ _ _ _ _ h; omega)
theorem Kp.newM {b M : Nat} {x y z : World} (h : Kp b x y) (k : Below M y z) (hM : x.heap.size ≤ M) : Kp b x z :=
  ⟨k.os.trans h.os, k.tape.trans h.tape, k.output.trans h.output, Nat.le_trans h.size k.size, fun i hi hb => (k.block i (by omega)).trans (h.block i hi hb)⟩
theorem nextI_code {l : By} {most : Int} {x : It} {k c : Nat} (h : nextI l 4 most = (x, k, c)) : (c = 0 → x.b = l.take 32 ∧ k = 32 ∧ 32 ≤ l.length) ∧ (c ≠ 0 → c = 6 ∧ l.length < 32) := by
  unfold nextI at h
  rw [if_neg (by decide), if_pos rfl] at h
  split at h
  · injection h with h1 h2
    injection h2 with h2 h3
    subst h1 h2 h3
    exact ⟨(fun e => by cases e), fun _ => ⟨rfl, by assumption⟩⟩
  · injection h with h1 h2
    injection h2 with h2 h3
    subst h1 h2 h3
    exact ⟨fun _ => ⟨rfl, rfl, by omega⟩, fun e => absurd rfl e⟩
theorem exec_loadP2 (r : Operand → Value) (dst : Option Tmp) (p : Operand) (ty : TypeId) (pos : String) (after : Array Edge) (guard : Option (Nat × Bool)) :
    execOp r ⟨dst, .load 44 p, ty, pos, after, guard⟩ = ldT 44 (r p) := rfl
theorem bdP4d (p : S8) (s t c : Int) (f : Nat → Int) (d : Bool) (w : World) :
    (bdT 44 #[(0, .string (mkS p)), (1, stV s t c), (2, vcV f), (3, .bool d)]).run Tryz.prog w = .ok (.value (rcV ⟨p, s, t, c, f, d, z32, none, 0, 0⟩)) w := by
  unfold rcV vcV stV
  kernel_rfl
theorem takeI_le {l : By} {n k : Nat} {most : Int} (h : takeI l most = (n, k, 0)) : (n : Int) ≤ most := by
  unfold takeI at h
  split at h
  · injection h with _ h; injection h with _ h; cases h
  · split at h
    · injection h with _ h; injection h with _ h; cases h
    · rename_i hm
      injection h with h1 h2
      subst h1
      omega
theorem setB53 {w : World} {b : Nat} {T : TypeId} {p : S8} {s t c : Int} {f : Nat → Int} {d : Bool} {wh : By} {q : Option Addr} {n cap : Nat} (h : Row w b T 54 (rcF ⟨p, s, t, c, f, d, wh, q, n, cap⟩)) (q' : Option Addr) (n' cap' : Nat) : Row (w.setCell ⟨b, 53, none⟩ (.slice q' n' cap')) b T 54 (rcF ⟨p, s, t, c, f, d, wh, q', n', cap'⟩) := by
  refine (h.set 53 (.slice q' n' cap')).congr fun i hi => ?_
  by_cases i1 : i = 53
  · rw [if_pos i1, i1]; rfl
  · rw [if_neg i1]
    unfold rcF
    repeat (first | rfl | (split; rfl))
    all_goals (first | rfl | omega)
attribute [local go_sem ↓] exec_boxA exec_loadA exec_indexA exec_allocA exec_storeA exec_buildA exec_eqlA exec_neqA exec_boxV exec_loadV exec_indexV exec_allocV exec_storeV exec_buildV exec_eqlV exec_neqV
attribute [local go_sem] boxA indexA storeNewA buildA eqlA neqA boxV indexV storeNewV buildV eqlV neqV

attribute [local go_sem ↓] exec_loadS exec_boxS exec_boxP exec_allocP exec_storeP exec_buildP exec_buildS exec_load32 exec_build32 exec_loadP2 exec_store32F exec_bs
attribute [local go_sem] box_stamp boxP bd32 bdS3 bsD1
set_option maxRecDepth 100000 in
set_option maxHeartbeats 16000000 in
theorem take10_any (p : Option Addr) (N : Nat) (w : World) (a : Addr) (l : By) (h : RdP p N w a l) : Calls Tryz.prog 190 #[.pointer (some a)] w (TakeRcPost p N w a (takeRc l)) := by
  obtain ⟨T, hT⟩ : ∃ T, takeRc l = T := ⟨_, rfl⟩
  rw [hT]
  unfold takeRc at hT
  have hlie := rdP_lie _ _ _ _ _ h
  obtain ⟨M, hM⟩ : ∃ M, w.heap.size = M := ⟨_, rfl⟩
  obtain ⟨w0, hW0⟩ : ∃ W, w.alloc (.cells (tab 54 (rcF rc0)) 44) = W := ⟨_, rfl⟩
  have hB0 : Below w.heap.size w w0 := by rw [← hW0]; exact below_newD _ _
  have hR0 : Row w0 M 44 54 (rcF rc0) := by rw [← hM, ← hW0]; exact Row.new _ _ 54 _
  have HLI := Lib.hid (show a.block < M ∧ M = w.heap.size ∧ M < w0.heap.size from ⟨by rw [← hM]; exact hlie.2, hM.symm, hR0.lt⟩)
  have HR0 := Lib.hid (rdP_below h hB0)
  have HKA := Lib.hid ((Kp.refl a.block w).of_below hB0)
  have HK0 := Lib.hid (Kp.refl a.block w0)
  have HROW := Lib.hid (fun (u : World) (hu : Kp a.block w0 u) => hR0.of_kp hu (show M ≠ a.block by have := HLI.out; omega))
  have HCT := Lib.hid (fun (u : World) => (show Calls Tryz.prog 143 #[.int .i64 16384] u fun e w' => e = .returned (.int .i64 64) ∧ w' = u from by
    have e : nblk 16384 = 64 := by decide
    have h1 : Calls Tryz.prog 143 #[.int .i64 ((16384 : Nat) : Int)] u _ := count_any 16384 u (by decide)
    rw [e] at h1
    exact h1.mono fun e w' ⟨h1, h2⟩ => ⟨h1, by rw [h2]⟩))
  clear hlie hB0 hR0 h
  go_enter Tryz.func190, Tryz.ntmps190
  try rw [hM]
  obtain ⟨y, hy⟩ : ∃ y, nextI l 2 100 = y := ⟨_, rfl⟩
  obtain ⟨x, k, c⟩ := y
  have HC := Lib.hid (rdP_text p N w0 a l 100 HR0.out)
  rw [hy] at HC hT
  try dsimp only at HC
  by_cases hc : c = 0
  · subst hc
    rw [stp_ok rfl] at hT
    try dsimp only at hT
    have HE_l1 := Lib.hid hy
    obtain ⟨l1, hl⟩ : ∃ l', l.drop k = l' := ⟨_, rfl⟩
    rw [hl] at hT
    have HLD := Lib.hid hl
    have HT := Lib.hid hT
    clear hT hl hy
    go_wp2_with fail
    refine HC.out.mono ?_
    rintro e w1 ⟨hK, ⟨-, ⟨v, rfl, hval⟩, hR⟩ | ⟨hcc, -⟩⟩
    · rw [HLD.out] at hR
      have HK_l1 := Lib.hid (HK0.out.trans hK)
      have HKD_l1 := Lib.hid hK
      have HR_l1 := Lib.hid hR
      have hT := HT.out
      rw [strOf_pS] at hval
      clear HC HT hK hR HLD
      subst hval
      obtain ⟨y, hy⟩ : ∃ y, takeI l1 maxT = y := ⟨_, rfl⟩
      obtain ⟨s, k, c⟩ := y
      have HC := Lib.hid (number10_any p N w1 a l1 HR_l1.out)
      rw [hy] at HC hT
      try dsimp only at HC
      by_cases hc : c = 0
      · subst hc
        rw [stp_ok rfl] at hT
        try dsimp only at hT
        have HE_l2 := Lib.hid hy
        obtain ⟨l2, hl⟩ : ∃ l', l1.drop k = l' := ⟨_, rfl⟩
        rw [hl] at hT
        have HLD := Lib.hid hl
        have HT := Lib.hid hT
        clear hT hl hy
        go_wp2_with fail
        refine HC.out.mono ?_
        rintro e w2 ⟨hK, ⟨-, ⟨v, rfl, hval⟩, hR⟩ | ⟨hcc, -⟩⟩
        · rw [HLD.out] at hR
          have HK_l2 := Lib.hid (HK_l1.out.trans hK)
          have HKD_l2 := Lib.hid hK
          have HR_l2 := Lib.hid hR
          have hT := HT.out
          clear HC HT hK hR HLD
          subst hval
          obtain ⟨y, hy⟩ : ∃ y, takeI l2 maxT = y := ⟨_, rfl⟩
          obtain ⟨t, k, c⟩ := y
          have HC := Lib.hid (number10_any p N w2 a l2 HR_l2.out)
          rw [hy] at HC hT
          try dsimp only at HC
          by_cases hc : c = 0
          · subst hc
            rw [stp_ok rfl] at hT
            try dsimp only at hT
            have HE_l3 := Lib.hid hy
            obtain ⟨l3, hl⟩ : ∃ l', l2.drop k = l' := ⟨_, rfl⟩
            rw [hl] at hT
            have HLD := Lib.hid hl
            have HT := Lib.hid hT
            clear hT hl hy
            go_wp2_with fail
            refine HC.out.mono ?_
            rintro e w3 ⟨hK, ⟨-, ⟨v, rfl, hval⟩, hR⟩ | ⟨hcc, -⟩⟩
            · rw [HLD.out] at hR
              have HK_l3 := Lib.hid (HK_l2.out.trans hK)
              have HKD_l3 := Lib.hid hK
              have HR_l3 := Lib.hid hR
              have hT := HT.out
              clear HC HT hK hR HLD
              subst hval
              obtain ⟨y, hy⟩ : ∃ y, takeI l3 maxT = y := ⟨_, rfl⟩
              obtain ⟨ch, k, c⟩ := y
              have HC := Lib.hid (number10_any p N w3 a l3 HR_l3.out)
              rw [hy] at HC hT
              try dsimp only at HC
              by_cases hc : c = 0
              · subst hc
                rw [stp_ok rfl] at hT
                try dsimp only at hT
                have HE_l4 := Lib.hid hy
                obtain ⟨l4, hl⟩ : ∃ l', l3.drop k = l' := ⟨_, rfl⟩
                rw [hl] at hT
                have HLD := Lib.hid hl
                have HT := Lib.hid hT
                clear hT hl hy
                go_wp2_with fail
                refine HC.out.mono ?_
                rintro e w4 ⟨hK, ⟨-, ⟨v, rfl, hval⟩, hR⟩ | ⟨hcc, -⟩⟩
                · rw [HLD.out] at hR
                  have HK_l4 := Lib.hid (HK_l3.out.trans hK)
                  have HKD_l4 := Lib.hid hK
                  have HR_l4 := Lib.hid hR
                  have hT := HT.out
                  clear HC HT hK hR HLD
                  subst hval
                  obtain ⟨y, hy⟩ : ∃ y, takeV l4 = y := ⟨_, rfl⟩
                  have HC := Lib.hid (take9_any p N w4 a l4 HR_l4.out)
                  rw [hy] at HC hT
                  cases y with
                  | none =>
                    dsimp only at hT
                    subst hT
                    clear hy
                    go_wp2_with fail
                    refine HC.out.mono ?_
                    rintro e wx ⟨hK, v, hv, rfl⟩
                    exact ⟨rfl, (HKA.out.trans HK_l4.out).trans hK, by decide, v, hv, rfl⟩
                  | some fr =>
                    obtain ⟨f, l5⟩ := fr
                    dsimp only at hT
                    have HT := Lib.hid hT
                    clear hT hy
                    go_wp2_with fail
                    refine HC.out.mono ?_
                    rintro e w5 ⟨hK, rfl, hR⟩
                    have HK_l5 := Lib.hid (HK_l4.out.trans hK)
                    have HR_l5 := Lib.hid hR
                    have hT := HT.out
                    clear HC HT hK hR
                    obtain ⟨y, hy⟩ : ∃ y, nextI l5 3 0 = y := ⟨_, rfl⟩
                    obtain ⟨d0, k, c⟩ := y
                    have HC := Lib.hid (rdP_truth p N w5 a l5 HR_l5.out)
                    rw [hy] at HC hT
                    try dsimp only at HC
                    by_cases hc : c = 0
                    · subst hc
                      rw [stp_ok rfl] at hT
                      try dsimp only at hT
                      have HE_l6 := Lib.hid hy
                      obtain ⟨l6, hl⟩ : ∃ l', l5.drop k = l' := ⟨_, rfl⟩
                      rw [hl] at hT
                      have HLD := Lib.hid hl
                      have HT := Lib.hid hT
                      clear hT hl hy
                      go_wp2_with fail
                      refine HC.out.mono ?_
                      rintro e w6 ⟨hK, ⟨-, ⟨v, rfl, hval⟩, hR⟩ | ⟨hcc, -⟩⟩
                      · rw [HLD.out] at hR
                        have HK_l6 := Lib.hid (HK_l5.out.trans hK)
                        have HKD_l6 := Lib.hid hK
                        have HR_l6 := Lib.hid hR
                        have hT := HT.out
                        clear HC HT hK hR HLD
                        subst hval
                        obtain ⟨tt, htt⟩ : ∃ tt : Bool, decide (d0.n = 1) = tt := ⟨_, rfl⟩
                        rw [htt]
                        have hbd := fun u => bdP4d (pS x.b) (s : Int) (t : Int) (ch : Int) f tt u
                        obtain ⟨W7, hW7⟩ : ∃ W, w6.alloc (.cells (tab 54 (rcF ⟨pS x.b, (s : Int), (t : Int), (ch : Int), f, tt, z32, none, 0, 0⟩)) 44) = W := ⟨_, rfl⟩
                        have hst7 := storeNewP w6 w6.heap.size 44 (rcF rc0) ⟨pS x.b, (s : Int), (t : Int), (ch : Int), f, tt, z32, none, 0, 0⟩ rfl
                        rw [hW7] at hst7
                        have hB7 : Below w6.heap.size w6 W7 := by rw [← hW7]; exact below_newD _ _
                        have hR7 : Row W7 w6.heap.size 44 54 (rcF ⟨pS x.b, (s : Int), (t : Int), (ch : Int), f, tt, z32, none, 0, 0⟩) := by rw [← hW7]; exact Row.new _ _ 54 _
                        have hz7 : w6.heap.size + 1 ≤ W7.heap.size := by rw [← hW7, World.size_alloc]; exact Nat.le_refl _
                        obtain ⟨b3, hb3⟩ : ∃ b, w6.heap.size = b := ⟨_, rfl⟩
                        have HBD := Lib.hid (show a.block < M ∧ M = w.heap.size ∧ M < b3 ∧ w0.heap.size ≤ b3 from ⟨HLI.out.1, HLI.out.2.1, by rw [← hb3]; exact Nat.lt_of_lt_of_le HLI.out.2.2 HK_l6.out.size, by rw [← hb3]; exact HK_l6.out.size⟩)
                        have HK7 := Lib.hid (HK_l6.out.of_below hB7)
                        have HR7 := Lib.hid (rdP_below HR_l6.out hB7)
                        rw [hb3] at hst7 hR7 hz7
                        have HSZ7 := Lib.hid hz7
                        have HRW7 := Lib.hid hR7
                        have hcd := rc_dead hR7
                        dsimp only at hcd
                        clear hB7 hz7
                        cases tt with
                        | true =>
                          have h1 : d0.n = 1 := by simpa using htt
                          rw [if_pos h1] at hT
                          subst hT
                          have l1 := loadRT rtP hR7
                          obtain ⟨u, hst, hRU, hKU⟩ := storeRT rtP (HROW.out W7 HK7.out) ⟨pS x.b, (s : Int), (t : Int), (ch : Int), f, true, z32, none, 0, 0⟩
                          have HRU := Lib.hid hRU
                          have HFIN := Lib.hid (show Kp a.block w u ∧ RdP p N u a l6 from ⟨(HKA.out.trans HK7.out).high hKU (by have := HBD.out; omega), rdP_high HR7.out hKU (by have := HBD.out; omega)⟩)
                          clear hR7 htt h1 hRU hKU
                          go_wp2
                          refine bodyPost_ret (resR rtP rfl _ u M 44 _ rfl HRU.out) rfl ?_
                          exact ⟨HFIN.out.1, ⟨none, 0, rfl, dg_nil _ _ rfl rfl rfl z32_len, fun c o e => by cases e⟩, HFIN.out.2⟩
                        | false =>
                          have h1 : ¬ d0.n = 1 := by simpa using htt
                          rw [if_neg h1] at hT
                          clear hR7 htt h1
                          obtain ⟨y, hy⟩ : ∃ y, nextI l6 4 0 = y := ⟨_, rfl⟩
                          obtain ⟨dg, k, c⟩ := y
                          have HC := Lib.hid (rdP_digest p N W7 a l6 HR7.out)
                          rw [hy] at HC hT
                          try dsimp only at HC
                          by_cases hc : c = 0
                          · subst hc
                            rw [stp_ok rfl] at hT
                            try dsimp only at hT
                            have HE_l7 := Lib.hid hy
                            obtain ⟨l7, hl⟩ : ∃ l', l6.drop k = l' := ⟨_, rfl⟩
                            rw [hl] at hT
                            have HLD := Lib.hid hl
                            have HT := Lib.hid hT
                            clear hT hl hy
                            go_wp2_with fail
                            refine HC.out.mono ?_
                            rintro e w8 ⟨hK, ⟨-, ⟨v, rfl, hval⟩, hR⟩ | ⟨hcc, -⟩⟩
                            · rw [HLD.out] at hR
                              have HK_l7 := Lib.hid (HK7.out.trans hK)
                              have HKD_l7 := Lib.hid hK
                              have HR_l7 := Lib.hid hR
                              have hT := HT.out
                              clear HC HT hK hR HLD
                              subst hval
                              have hlen : dg.b.length = 32 := by have := (nextI_code HE_l7.out).1 rfl; rw [this.1, List.length_take]; omega
                              have HDL8 := Lib.hid hlen
                              obtain ⟨u8, hst8, hR8', hK8'⟩ := st_whole (HRW7.out.of_kp (HKD_l7.out) (by have := HBD.out; omega)) dg.b hlen
                              have HRWu := Lib.hid (show Row u8 b3 44 54 (rcF ⟨pS x.b, (s : Int), (t : Int), (ch : Int), f, false, dg.b, none, 0, 0⟩) from hR8')
                              have HR8p := Lib.hid (rdP_high HR_l7.out hK8' (by have := HBD.out; omega))
                              have HK8p := Lib.hid (HK_l7.out.high hK8' (by have := HBD.out; omega))
                              have HSZu := Lib.hid (show b3 + 1 ≤ u8.heap.size from Nat.le_trans HSZ7.out (Nat.le_trans HKD_l7.out.size hK8'.size))
                              clear hlen hR8' hK8'
                              obtain ⟨y, hy⟩ : ∃ y, takeI l7 64 = y := ⟨_, rfl⟩
                              obtain ⟨m, k, c⟩ := y
                              have HC := Lib.hid (rdP_count p N u8 a l7 64 HR8p.out)
                              rw [hy] at HC hT
                              try dsimp only at HC
                              by_cases hc : c = 0
                              · subst hc
                                rw [stp_ok rfl] at hT
                                try dsimp only at hT
                                have HE_l8 := Lib.hid hy
                                obtain ⟨l8, hl⟩ : ∃ l', l7.drop k = l' := ⟨_, rfl⟩
                                rw [hl] at hT
                                have HLD := Lib.hid hl
                                have HT := Lib.hid hT
                                clear hT hl hy
                                go_wp2_with fail
                                clear hst8
                                refine (HCT.out _).mono ?_
                                rintro e wc ⟨rfl, rfl⟩
                                go_wp2_with fail
                                refine HC.out.mono ?_
                                rintro e w9 ⟨hK, ⟨-, ⟨v, rfl, hval⟩, hR⟩ | ⟨hcc, -⟩⟩
                                · rw [HLD.out] at hR
                                  have HK_l8 := Lib.hid (HK8p.out.trans hK)
                                  have HKD_l8 := Lib.hid hK
                                  have HR_l8 := Lib.hid hR
                                  have hT := HT.out
                                  clear HC HT hK hR HLD
                                  subst hval
                                  have HM64 := Lib.hid (takeI_le HE_l8.out)
                                  have HR8 := Lib.hid HR_l8.out
                                  have HRW8 := Lib.hid (HRWu.out.of_kp HKD_l8.out (by have := HBD.out; omega))
                                  have HK8w := Lib.hid HK_l8.out
                                  have HK8 := Lib.hid (HKA.out.trans HK_l8.out)
                                  have HSZ8 := Lib.hid (Nat.le_trans HSZu.out HKD_l8.out.size)
                                  have HT := Lib.hid hT
                                  clear hT
                                  have hT := HT.out
                                  try dsimp only at hT
                                  have HTT := Lib.hid hT
                                  clear hT
                                  go_wp2
                                  go_loopw [27] (fun i wr => ∃ (k : Nat) (dn : List By) (li : By) (q : Option Addr) (cap : Nat), k ≤ m ∧ i = .int .i64 (k : Int) ∧ dn.length = k ∧ (∀ d ∈ dn, d.length = 32) ∧ digsN m l8 = (digsN (m - k) li).map (fun x => (dn ++ x.1, x.2)) ∧ RdP p N wr a li ∧ wr.ownsRow (b3 + 1) 41 32 (.slice q k cap) k (dn.flatMap digC) ∧ Row wr b3 44 54 (rcF ⟨pS x.b, (s : Int), (t : Int), (ch : Int), f, false, dg.b, q, k, cap⟩) ∧ Row wr M 44 54 (rcF rc0) ∧ Kp a.block w wr ∧ b3 + 1 ≤ wr.heap.size) (fun i _ => m - (intOf i).toNat)
                                  case atStart => exact ⟨0, [], l8, none, 0, Nat.zero_le _, rfl, rfl, (fun d hd => by cases hd), by rw [Nat.sub_zero]; cases digsN m l8 <;> simp, HR8.out, ⟨rfl, .inl ⟨rfl, rfl⟩⟩, HRW8.out, HROW.out _ HK8w.out, HK8.out, HSZ8.out⟩
                                  case round =>
                                    obtain ⟨k, dn, li, q, cap, hkm, rfl, hdn, hdn2, hnx, hR, hO, hRW, hR0, hK, hsz⟩ := hrel
                                    have HDN := Lib.hid (And.intro hdn hdn2)
                                    have HNX := Lib.hid hnx
                                    have HX0 := Lib.hid (show RdP p N wr.drew a li ∧ wr.drew.ownsRow (b3 + 1) 41 32 (.slice q k cap) k (dn.flatMap digC) ∧ Row wr.drew b3 44 54 (rcF ⟨pS x.b, (s : Int), (t : Int), (ch : Int), f, false, dg.b, q, k, cap⟩) ∧ Row wr.drew M 44 54 (rcF rc0) ∧ Kp a.block w wr.drew ∧ b3 + 1 ≤ wr.drew.heap.size from ⟨rdP_below hR (Below.refl _ _).drew, hO, hRW.drew, hR0.drew, hK.drewN 1, hsz⟩)
                                    by_cases hlt : k < m
                                    · have z1 : (k : Int) < (m : Int) := by omega
                                      have z2 : decide ((k : Int) < (m : Int)) = true := decide_eq_true z1
                                      have hw6 : IntKind.i64.wrap ((k : Int) + 1) = (k : Int) + 1 := by rw [IntKind.wrap_i64]; have := HM64.out; omega
                                      obtain ⟨j, hj⟩ : ∃ j, m - k = j + 1 := ⟨m - k - 1, by omega⟩
                                      have hj2 : m - (k + 1) = j := by omega
                                      obtain ⟨y, hy⟩ : ∃ y, nextI li 4 0 = y := ⟨_, rfl⟩
                                      obtain ⟨dx, k4, c4⟩ := y
                                      have hcode := nextI_code hy
                                      have HDG := Lib.hid (fun (u : World) (hu : RdP p N u a li) => (show Calls Tryz.prog 68 #[.pointer (some a)] u (RdPost RdP ThrP p N u a li c4 k4 fun v _ => v = digV dx.b) from by have := rdP_digest p N u a li hu; rw [hy] at this; exact this))
                                      rw [hj] at hnx
                                      by_cases hc4 : c4 = 0
                                      · subst hc4
                                        obtain ⟨e1, e2, e3⟩ := hcode.1 rfl
                                        subst e2
                                        rw [digsN, if_neg (by omega)] at hnx
                                        obtain ⟨d, hd⟩ : ∃ d, dx.b = d := ⟨_, rfl⟩
                                        rw [hd] at HDG e1
                                        obtain ⟨li2, hli2⟩ : ∃ l', li.drop 32 = l' := ⟨_, rfl⟩
                                        rw [hli2, ← e1] at hnx
                                        have HLI2 := Lib.hid hli2
                                        have hdl : d.length = 32 := by rw [e1, List.length_take]; omega
                                        have HDL := Lib.hid hdl
                                        have HNX := Lib.hid (show digsN m l8 = (digsN (m - (k + 1)) li2).map (fun x => (dn ++ [d] ++ x.1, x.2)) from by rw [hnx, hj2]; cases digsN j li2 <;> simp)
                                        have HDN2 := Lib.hid (show ∀ y ∈ dn ++ [d], y.length = 32 from fun y hy => by
                                          rcases List.mem_append.1 hy with h | h
                                          · exact hdn2 y h
                                          · rw [List.mem_singleton] at h; rw [h]; exact hdl)
                                        have HK8 := Lib.hid (show k + 1 < 100000000 by have := HM64.out; omega)
                                        have HSK := Lib.hid (fun (z1 z2 : World) (hx : RdP p N z1 a li ∧ z1.ownsRow (b3 + 1) 41 32 (.slice q k cap) k (dn.flatMap digC) ∧ Row z1 b3 44 54 (rcF ⟨pS x.b, (s : Int), (t : Int), (ch : Int), f, false, dg.b, q, k, cap⟩) ∧ Row z1 M 44 54 (rcF rc0) ∧ Kp a.block w z1 ∧ b3 + 1 ≤ z1.heap.size) (hk : Kp a.block z1 z2) (hr : RdP p N z2 a li2) => (show RdP p N z2 a li2 ∧ z2.ownsRow (b3 + 1) 41 32 (.slice q k cap) k (dn.flatMap digC) ∧ Row z2 b3 44 54 (rcF ⟨pS x.b, (s : Int), (t : Int), (ch : Int), f, false, dg.b, q, k, cap⟩) ∧ Row z2 M 44 54 (rcF rc0) ∧ Kp a.block w z2 ∧ b3 + 1 ≤ z2.heap.size from
                                          ⟨hr, own_keep hx.2.1 (fun g hg => hk.block g (hx.2.1.lt g hg).2 (by have := (hx.2.1.lt g hg).1; have := HBD.out; omega)), hx.2.2.1.of_kp hk (by have := HBD.out; omega), hx.2.2.2.1.of_kp hk (by have := HBD.out; omega), hx.2.2.2.2.1.trans hk, Nat.le_trans hx.2.2.2.2.2 hk.size⟩))
                                        have HSA := Lib.hid (fun (z1 z2 : World) (hx : RdP p N z1 a li2 ∧ z1.ownsRow (b3 + 1) 41 32 (.slice q k cap) k (dn.flatMap digC) ∧ Row z1 b3 44 54 (rcF ⟨pS x.b, (s : Int), (t : Int), (ch : Int), f, false, dg.b, q, k, cap⟩) ∧ Row z1 M 44 54 (rcF rc0) ∧ Kp a.block w z1 ∧ b3 + 1 ≤ z1.heap.size) (hb : Below z1.heap.size z1 z2) => (show RdP p N z2 a li2 ∧ z2.ownsRow (b3 + 1) 41 32 (.slice q k cap) k (dn.flatMap digC) ∧ Row z2 b3 44 54 (rcF ⟨pS x.b, (s : Int), (t : Int), (ch : Int), f, false, dg.b, q, k, cap⟩) ∧ Row z2 M 44 54 (rcF rc0) ∧ Kp a.block w z2 ∧ b3 + 1 ≤ z2.heap.size from
                                          ⟨rdP_below hx.1 hb, own_below hx.2.1 hb, hx.2.2.1.of_below hb, hx.2.2.2.1.of_below hb, hx.2.2.2.2.1.of_below hb, Nat.le_trans hx.2.2.2.2.2 hb.size⟩))
                                        have HSB := Lib.hid (fun (z1 z2 : World) (q5 : Option Addr) (c5 : Nat) (hx : RdP p N z1 a li2 ∧ z1.ownsRow (b3 + 1) 41 32 (.slice q k cap) k (dn.flatMap digC) ∧ Row z1 b3 44 54 (rcF ⟨pS x.b, (s : Int), (t : Int), (ch : Int), f, false, dg.b, q, k, cap⟩) ∧ Row z1 M 44 54 (rcF rc0) ∧ Kp a.block w z1 ∧ b3 + 1 ≤ z1.heap.size) (ho : z2.ownsRow (b3 + 1) 41 32 (.slice q5 (k + 1) c5) (k + 1) (dn.flatMap digC ++ digC d)) (hb : Below (b3 + 1) z1 z2) => (show RdP p N z2 a li2 ∧ z2.ownsRow (b3 + 1) 41 32 (.slice q5 (k + 1) c5) (k + 1) ((dn ++ [d]).flatMap digC) ∧ Row z2 b3 44 54 (rcF ⟨pS x.b, (s : Int), (t : Int), (ch : Int), f, false, dg.b, q, k, cap⟩) ∧ Row z2 M 44 54 (rcF rc0) ∧ Kp a.block w z2 ∧ b3 + 1 ≤ z2.heap.size from
                                          ⟨rdP_keepM hx.1 (by have := HBD.out; omega) hb, by rw [List.flatMap_append]; simpa using ho, hx.2.2.1.below hb (by omega), hx.2.2.2.1.below hb (by have := HBD.out; omega), hx.2.2.2.2.1.newM hb (by have := HBD.out; omega), Nat.le_trans hx.2.2.2.2.2 hb.size⟩))
                                        have HSC := Lib.hid (fun (z1 : World) (q5 : Option Addr) (c5 : Nat) (hx : RdP p N z1 a li2 ∧ z1.ownsRow (b3 + 1) 41 32 (.slice q5 (k + 1) c5) (k + 1) ((dn ++ [d]).flatMap digC) ∧ Row z1 b3 44 54 (rcF ⟨pS x.b, (s : Int), (t : Int), (ch : Int), f, false, dg.b, q, k, cap⟩) ∧ Row z1 M 44 54 (rcF rc0) ∧ Kp a.block w z1 ∧ b3 + 1 ≤ z1.heap.size) => (show RdP p N (z1.setCell ⟨b3, 53, none⟩ (.slice q5 (k + 1) c5)) a li2 ∧ (z1.setCell ⟨b3, 53, none⟩ (.slice q5 (k + 1) c5)).ownsRow (b3 + 1) 41 32 (.slice q5 (k + 1) c5) (k + 1) ((dn ++ [d]).flatMap digC) ∧ Row (z1.setCell ⟨b3, 53, none⟩ (.slice q5 (k + 1) c5)) b3 44 54 (rcF ⟨pS x.b, (s : Int), (t : Int), (ch : Int), f, false, dg.b, q5, k + 1, c5⟩) ∧ Row (z1.setCell ⟨b3, 53, none⟩ (.slice q5 (k + 1) c5)) M 44 54 (rcF rc0) ∧ Kp a.block w (z1.setCell ⟨b3, 53, none⟩ (.slice q5 (k + 1) c5)) ∧ b3 + 1 ≤ (z1.setCell ⟨b3, 53, none⟩ (.slice q5 (k + 1) c5)).heap.size from by
                                          have hk : Kp b3 z1 (z1.setCell ⟨b3, 53, none⟩ (.slice q5 (k + 1) c5)) := (Kp.refl _ _).setCell 53 _
                                          exact ⟨rdP_high hx.1 hk (by have := HBD.out; omega), own_keep hx.2.1 (fun g hg => hk.block g (hx.2.1.lt g hg).2 (by have := (hx.2.1.lt g hg).1; omega)), setB53 hx.2.2.1 q5 (k + 1) c5, hx.2.2.2.1.of_kp hk (by have := HBD.out; omega), hx.2.2.2.2.1.high hk (by have := HBD.out; omega), Nat.le_trans hx.2.2.2.2.2 hk.size⟩))
                                        clear hR hO hRW hR0 hK hsz hnx hcode hy hdn hdn2 hj hj2 e1 e3 hd hli2 hdl
                                        go_wp2
                                        refine wp_region_noPanic ?_
                                        refine wp_region_any (by kernel_rfl) ?_
                                        try (change wpAny _ _ _ _ _ _ _ (World.drew _))
                                        have HX := Lib.hid (HX0.out)
                                        generalize wr.drew = x at HX ⊢
                                        refine wpAny_take (i := 0) (v := ?_) rfl (by kernel_rfl) (by kernel_rfl) (by kernel_rfl) (fun _ _ _ h => h) (Or.inl ⟨by rfl, ?_⟩) ?_
                                        rotate_left 1
                                        · (intro w; go_simp; try with_reducible rfl)
                                        try simp only [Act.put, List.setIfInBounds_toArray, List.set_cons_zero, List.set_cons_succ]
                                        refine wpAny_take (i := 2) (v := ?_) rfl (by kernel_rfl) (by kernel_rfl) (by kernel_rfl) (fun _ _ _ h => h) (Or.inl ⟨by rfl, ?_⟩) ?_
                                        rotate_left 1
                                        · (intro w; go_simp; try with_reducible rfl)
                                        try simp only [Act.put, List.setIfInBounds_toArray, List.set_cons_zero, List.set_cons_succ]
                                        refine wpAny_ready (rs := [1, 3]) (by kernel_rfl) (by simp) ?_
                                        refine (AllReady.cons (by simp only [List.getElem?_toArray, List.getElem?_cons_succ, List.getElem?_cons_zero]; exact rfl) (fun K hK => ?_) (AllReady.cons (by simp only [List.getElem?_toArray, List.getElem?_cons_succ, List.getElem?_cons_zero]; exact rfl) (fun K hK => ?_) AllReady.nil))
                                        · have hcc := (rc_blocks HX.out.2.2.1)
                                          dsimp only at hcc
                                          go_simp
                                          refine hK _ _ ?_
                                          clear hK K hcc
                                          try simp only [Act.put, List.setIfInBounds_toArray, List.set_cons_zero, List.set_cons_succ]
                                          refine wpAny_ready (rs := [3]) (by kernel_rfl) (by simp) ?_
                                          refine (AllReady.cons (by simp only [List.getElem?_toArray, List.getElem?_cons_succ, List.getElem?_cons_zero]; exact rfl) (fun K hK => ?_) AllReady.nil)
                                          go_simp
                                          refine (HDG.out x HX.out.1).mono ?_
                                          rintro e x3 ⟨hK3, h3⟩
                                          obtain ⟨-, ⟨v, rfl, hval⟩, hR3⟩ := h3.resolve_right (fun h => h.1 rfl)
                                          subst hval
                                          rw [HLI2.out] at hR3
                                          have HX := Lib.hid (HSK.out x x3 HX.out hK3 hR3)
                                          clear hK3 hR3 h3
                                          have HKK := Lib.hid hK
                                          clear hK
                                          go_wp2_with fail
                                          refine HKK.out _ _ ?_
                                          clear HKK K
                                          try simp only [Act.put, List.setIfInBounds_toArray, List.set_cons_zero, List.set_cons_succ]
                                          refine wpAny_ready (rs := [4]) (by kernel_rfl) (by simp) ?_
                                          refine (AllReady.cons (by simp only [List.getElem?_toArray, List.getElem?_cons_succ, List.getElem?_cons_zero]; exact rfl) (fun K hK => ?_) AllReady.nil)
                                          go_simp
                                          obtain ⟨x34, hy⟩ : ∃ y, (x3.alloc (.cells (tab 32 (dgF d)) 41)) = y := ⟨_, rfl⟩
                                          have HLS := Lib.hid (show LsC x34 (some ⟨x3.heap.size, 0, none⟩) (digC d) from by rw [← hy]; exact lsc_dig x3 d HDL.out)
                                          have HX := Lib.hid (HSA.out x3 x34 HX.out (by rw [← hy]; exact below_newD _ _))
                                          refine hK _ _ ?_
                                          clear hK K
                                          rw [hy]
                                          clear hy
                                          try simp only [Act.put, List.setIfInBounds_toArray, List.set_cons_zero, List.set_cons_succ]
                                          refine wpAny_ready (rs := [5]) (by kernel_rfl) (by simp) ?_
                                          refine (AllReady.cons (by simp only [List.getElem?_toArray, List.getElem?_cons_succ, List.getElem?_cons_zero]; exact rfl) (fun K hK => ?_) AllReady.nil)
                                          refine step_appendK elD x34 rfl (.tmp 30) (.tmp 33) rfl (b3 + 1) rfl HX.out.2.1 _ 1 1 (digC d) (by rw [digC_len, HDL.out]) rfl HLS.out (fun h => by cases h) (digC_one _) HK8.out (HX.out.2.2.2.2.2) ?_
                                          rintro v5 x345 hO5 hg5 ho5
                                          obtain ⟨q5, c5, hve⟩ := own_sliceR hO5
                                          subst hve
                                          have hB5 : Below (b3 + 1) x34 x345 := (Below.refl _ _).grown hg5 (HX.out.2.2.2.2.2) (fun g hg => (HX.out.2.1.lt g hg).1)
                                          have HY := Lib.hid (HSB.out x34 x345 q5 c5 HX.out hO5 hB5)
                                          clear hO5 hg5 ho5 hB5
                                          refine hK _ _ ?_
                                          clear hK K
                                          try simp only [Act.put, List.setIfInBounds_toArray, List.set_cons_zero, List.set_cons_succ]
                                          refine wpAny_take (i := 6) (v := ?_) rfl (by kernel_rfl) (by kernel_rfl) (by kernel_rfl) (fun _ _ _ h => h) (Or.inl ⟨by rfl, ?_⟩) ?_
                                          rotate_left 1
                                          · (intro w; go_simp; try with_reducible rfl)
                                          try simp only [Act.put, List.setIfInBounds_toArray, List.set_cons_zero, List.set_cons_succ]
                                          refine wpAny_ready (rs := [7]) (by kernel_rfl) (by simp) ?_
                                          refine (AllReady.cons (by simp only [List.getElem?_toArray, List.getElem?_cons_succ, List.getElem?_cons_zero]; exact rfl) (fun K hK => ?_) AllReady.nil)
                                          have hcc := (rc_blocks HY.out.2.2.1)
                                          dsimp only at hcc
                                          have hcf := (HY.out.2.2.1).free 53
                                          go_simp
                                          refine hK _ _ ?_
                                          clear hK K
                                          have HZ := Lib.hid (HSC.out x345 q5 c5 HY.out)
                                          clear hcc hcf
                                          try simp only [Act.put, List.setIfInBounds_toArray, List.set_cons_zero, List.set_cons_succ]
                                          refine wpAny_done (by kernel_rfl) ?_ _
                                          refine NoPanic.normal ?_
                                          go_wp2
                                          go_roundw
                                          case rel => exact ⟨k + 1, dn ++ [d], li2, q5, c5, by omega, by go_num, by rw [List.length_append, HDN.out.1]; rfl, HDN2.out, HNX.out, HZ.out.1, HZ.out.2.1, HZ.out.2.2.1, HZ.out.2.2.2.1, HZ.out.2.2.2.2.1, HZ.out.2.2.2.2.2⟩
                                          case measure => simp [intOf]; omega
                                        · go_simp
                                          refine (HDG.out x HX.out.1).mono ?_
                                          rintro e x3 ⟨hK3, h3⟩
                                          obtain ⟨-, ⟨v, rfl, hval⟩, hR3⟩ := h3.resolve_right (fun h => h.1 rfl)
                                          subst hval
                                          rw [HLI2.out] at hR3
                                          have HX := Lib.hid (HSK.out x x3 HX.out hK3 hR3)
                                          clear hK3 hR3 h3
                                          have HKK := Lib.hid hK
                                          clear hK
                                          go_wp2_with fail
                                          refine HKK.out _ _ ?_
                                          clear HKK K
                                          try simp only [Act.put, List.setIfInBounds_toArray, List.set_cons_zero, List.set_cons_succ]
                                          refine wpAny_ready (rs := [1, 4]) (by kernel_rfl) (by simp) ?_
                                          refine (AllReady.cons (by simp only [List.getElem?_toArray, List.getElem?_cons_succ, List.getElem?_cons_zero]; exact rfl) (fun K hK => ?_) (AllReady.cons (by simp only [List.getElem?_toArray, List.getElem?_cons_succ, List.getElem?_cons_zero]; exact rfl) (fun K hK => ?_) AllReady.nil))
                                          · have hcc := (rc_blocks HX.out.2.2.1)
                                            dsimp only at hcc
                                            go_simp
                                            refine hK _ _ ?_
                                            clear hK K hcc
                                            try simp only [Act.put, List.setIfInBounds_toArray, List.set_cons_zero, List.set_cons_succ]
                                            refine wpAny_ready (rs := [4]) (by kernel_rfl) (by simp) ?_
                                            refine (AllReady.cons (by simp only [List.getElem?_toArray, List.getElem?_cons_succ, List.getElem?_cons_zero]; exact rfl) (fun K hK => ?_) AllReady.nil)
                                            go_simp
                                            obtain ⟨x34, hy⟩ : ∃ y, (x3.alloc (.cells (tab 32 (dgF d)) 41)) = y := ⟨_, rfl⟩
                                            have HLS := Lib.hid (show LsC x34 (some ⟨x3.heap.size, 0, none⟩) (digC d) from by rw [← hy]; exact lsc_dig x3 d HDL.out)
                                            have HX := Lib.hid (HSA.out x3 x34 HX.out (by rw [← hy]; exact below_newD _ _))
                                            refine hK _ _ ?_
                                            clear hK K
                                            rw [hy]
                                            clear hy
                                            try simp only [Act.put, List.setIfInBounds_toArray, List.set_cons_zero, List.set_cons_succ]
                                            refine wpAny_ready (rs := [5]) (by kernel_rfl) (by simp) ?_
                                            refine (AllReady.cons (by simp only [List.getElem?_toArray, List.getElem?_cons_succ, List.getElem?_cons_zero]; exact rfl) (fun K hK => ?_) AllReady.nil)
                                            refine step_appendK elD x34 rfl (.tmp 30) (.tmp 33) rfl (b3 + 1) rfl HX.out.2.1 _ 1 1 (digC d) (by rw [digC_len, HDL.out]) rfl HLS.out (fun h => by cases h) (digC_one _) HK8.out (HX.out.2.2.2.2.2) ?_
                                            rintro v5 x345 hO5 hg5 ho5
                                            obtain ⟨q5, c5, hve⟩ := own_sliceR hO5
                                            subst hve
                                            have hB5 : Below (b3 + 1) x34 x345 := (Below.refl _ _).grown hg5 (HX.out.2.2.2.2.2) (fun g hg => (HX.out.2.1.lt g hg).1)
                                            have HY := Lib.hid (HSB.out x34 x345 q5 c5 HX.out hO5 hB5)
                                            clear hO5 hg5 ho5 hB5
                                            refine hK _ _ ?_
                                            clear hK K
                                            try simp only [Act.put, List.setIfInBounds_toArray, List.set_cons_zero, List.set_cons_succ]
                                            refine wpAny_take (i := 6) (v := ?_) rfl (by kernel_rfl) (by kernel_rfl) (by kernel_rfl) (fun _ _ _ h => h) (Or.inl ⟨by rfl, ?_⟩) ?_
                                            rotate_left 1
                                            · (intro w; go_simp; try with_reducible rfl)
                                            try simp only [Act.put, List.setIfInBounds_toArray, List.set_cons_zero, List.set_cons_succ]
                                            refine wpAny_ready (rs := [7]) (by kernel_rfl) (by simp) ?_
                                            refine (AllReady.cons (by simp only [List.getElem?_toArray, List.getElem?_cons_succ, List.getElem?_cons_zero]; exact rfl) (fun K hK => ?_) AllReady.nil)
                                            have hcc := (rc_blocks HY.out.2.2.1)
                                            dsimp only at hcc
                                            have hcf := (HY.out.2.2.1).free 53
                                            go_simp
                                            refine hK _ _ ?_
                                            clear hK K
                                            have HZ := Lib.hid (HSC.out x345 q5 c5 HY.out)
                                            clear hcc hcf
                                            try simp only [Act.put, List.setIfInBounds_toArray, List.set_cons_zero, List.set_cons_succ]
                                            refine wpAny_done (by kernel_rfl) ?_ _
                                            refine NoPanic.normal ?_
                                            go_wp2
                                            go_roundw
                                            case rel => exact ⟨k + 1, dn ++ [d], li2, q5, c5, by omega, by go_num, by rw [List.length_append, HDN.out.1]; rfl, HDN2.out, HNX.out, HZ.out.1, HZ.out.2.1, HZ.out.2.2.1, HZ.out.2.2.2.1, HZ.out.2.2.2.2.1, HZ.out.2.2.2.2.2⟩
                                            case measure => simp [intOf]; omega
                                          · go_simp
                                            obtain ⟨x34, hy⟩ : ∃ y, (x3.alloc (.cells (tab 32 (dgF d)) 41)) = y := ⟨_, rfl⟩
                                            have HLS := Lib.hid (show LsC x34 (some ⟨x3.heap.size, 0, none⟩) (digC d) from by rw [← hy]; exact lsc_dig x3 d HDL.out)
                                            have HX := Lib.hid (HSA.out x3 x34 HX.out (by rw [← hy]; exact below_newD _ _))
                                            refine hK _ _ ?_
                                            clear hK K
                                            rw [hy]
                                            clear hy
                                            try simp only [Act.put, List.setIfInBounds_toArray, List.set_cons_zero, List.set_cons_succ]
                                            refine wpAny_ready (rs := [1]) (by kernel_rfl) (by simp) ?_
                                            refine (AllReady.cons (by simp only [List.getElem?_toArray, List.getElem?_cons_succ, List.getElem?_cons_zero]; exact rfl) (fun K hK => ?_) AllReady.nil)
                                            have hcc := (rc_blocks HX.out.2.2.1)
                                            dsimp only at hcc
                                            go_simp
                                            refine hK _ _ ?_
                                            clear hK K hcc
                                            try simp only [Act.put, List.setIfInBounds_toArray, List.set_cons_zero, List.set_cons_succ]
                                            refine wpAny_ready (rs := [5]) (by kernel_rfl) (by simp) ?_
                                            refine (AllReady.cons (by simp only [List.getElem?_toArray, List.getElem?_cons_succ, List.getElem?_cons_zero]; exact rfl) (fun K hK => ?_) AllReady.nil)
                                            refine step_appendK elD x34 rfl (.tmp 30) (.tmp 33) rfl (b3 + 1) rfl HX.out.2.1 _ 1 1 (digC d) (by rw [digC_len, HDL.out]) rfl HLS.out (fun h => by cases h) (digC_one _) HK8.out (HX.out.2.2.2.2.2) ?_
                                            rintro v5 x345 hO5 hg5 ho5
                                            obtain ⟨q5, c5, hve⟩ := own_sliceR hO5
                                            subst hve
                                            have hB5 : Below (b3 + 1) x34 x345 := (Below.refl _ _).grown hg5 (HX.out.2.2.2.2.2) (fun g hg => (HX.out.2.1.lt g hg).1)
                                            have HY := Lib.hid (HSB.out x34 x345 q5 c5 HX.out hO5 hB5)
                                            clear hO5 hg5 ho5 hB5
                                            refine hK _ _ ?_
                                            clear hK K
                                            try simp only [Act.put, List.setIfInBounds_toArray, List.set_cons_zero, List.set_cons_succ]
                                            refine wpAny_take (i := 6) (v := ?_) rfl (by kernel_rfl) (by kernel_rfl) (by kernel_rfl) (fun _ _ _ h => h) (Or.inl ⟨by rfl, ?_⟩) ?_
                                            rotate_left 1
                                            · (intro w; go_simp; try with_reducible rfl)
                                            try simp only [Act.put, List.setIfInBounds_toArray, List.set_cons_zero, List.set_cons_succ]
                                            refine wpAny_ready (rs := [7]) (by kernel_rfl) (by simp) ?_
                                            refine (AllReady.cons (by simp only [List.getElem?_toArray, List.getElem?_cons_succ, List.getElem?_cons_zero]; exact rfl) (fun K hK => ?_) AllReady.nil)
                                            have hcc := (rc_blocks HY.out.2.2.1)
                                            dsimp only at hcc
                                            have hcf := (HY.out.2.2.1).free 53
                                            go_simp
                                            refine hK _ _ ?_
                                            clear hK K
                                            have HZ := Lib.hid (HSC.out x345 q5 c5 HY.out)
                                            clear hcc hcf
                                            try simp only [Act.put, List.setIfInBounds_toArray, List.set_cons_zero, List.set_cons_succ]
                                            refine wpAny_done (by kernel_rfl) ?_ _
                                            refine NoPanic.normal ?_
                                            go_wp2
                                            go_roundw
                                            case rel => exact ⟨k + 1, dn ++ [d], li2, q5, c5, by omega, by go_num, by rw [List.length_append, HDN.out.1]; rfl, HDN2.out, HNX.out, HZ.out.1, HZ.out.2.1, HZ.out.2.2.1, HZ.out.2.2.2.1, HZ.out.2.2.2.2.1, HZ.out.2.2.2.2.2⟩
                                            case measure => simp [intOf]; omega
                                      · have HCN := Lib.hid hc4
                                        obtain ⟨h6, h32⟩ := hcode.2 hc4
                                        rw [digsN, if_pos h32] at hnx
                                        have hT := HTT.out
                                        rw [hnx] at hT
                                        dsimp only [Option.map] at hT
                                        subst h6
                                        subst hT
                                        clear hR hO hRW hR0 hK hsz hnx hcode hy hdn hdn2 hj hj2 h32 hc4 HTT
                                        go_wp2
                                        refine wp_region_any (by kernel_rfl) ?_
                                        try (change wpAny _ _ _ _ _ _ _ (World.drew _))
                                        have HX := Lib.hid (HX0.out)
                                        generalize wr.drew = x at HX ⊢
                                        refine wpAny_take (i := 0) (v := ?_) rfl (by kernel_rfl) (by kernel_rfl) (by kernel_rfl) (fun _ _ _ h => h) (Or.inl ⟨by rfl, ?_⟩) ?_
                                        rotate_left 1
                                        · (intro w; go_simp; try with_reducible rfl)
                                        try simp only [Act.put, List.setIfInBounds_toArray, List.set_cons_zero, List.set_cons_succ]
                                        refine wpAny_take (i := 2) (v := ?_) rfl (by kernel_rfl) (by kernel_rfl) (by kernel_rfl) (fun _ _ _ h => h) (Or.inl ⟨by rfl, ?_⟩) ?_
                                        rotate_left 1
                                        · (intro w; go_simp; try with_reducible rfl)
                                        try simp only [Act.put, List.setIfInBounds_toArray, List.set_cons_zero, List.set_cons_succ]
                                        refine wpAny_ready (rs := [1, 3]) (by kernel_rfl) (by simp) ?_
                                        refine (AllReady.cons (by simp only [List.getElem?_toArray, List.getElem?_cons_succ, List.getElem?_cons_zero]; exact rfl) (fun K hK => ?_) (AllReady.cons (by simp only [List.getElem?_toArray, List.getElem?_cons_succ, List.getElem?_cons_zero]; exact rfl) (fun K hK => ?_) AllReady.nil))
                                        · have hcc := (rc_blocks HX.out.2.2.1)
                                          dsimp only at hcc
                                          go_simp
                                          refine hK _ _ ?_
                                          clear hK K hcc
                                          try simp only [Act.put, List.setIfInBounds_toArray, List.set_cons_zero, List.set_cons_succ]
                                          refine wpAny_ready (rs := [3]) (by kernel_rfl) (by simp) ?_
                                          refine (AllReady.cons (by simp only [List.getElem?_toArray, List.getElem?_cons_succ, List.getElem?_cons_zero]; exact rfl) (fun K hK => ?_) AllReady.nil)
                                          go_simp
                                          refine (HDG.out x HX.out.1).mono ?_
                                          rintro e y3 ⟨hK3, ⟨hcc, -⟩ | ⟨hcc, v, hv, rfl⟩⟩
                                          · exact absurd hcc HCN.out
                                          · exact ⟨rfl, HX.out.2.2.2.2.1.trans hK3, HCN.out, v, hv, rfl⟩
                                        · go_simp
                                          refine (HDG.out x HX.out.1).mono ?_
                                          rintro e y3 ⟨hK3, ⟨hcc, -⟩ | ⟨hcc, v, hv, rfl⟩⟩
                                          · exact absurd hcc HCN.out
                                          · exact ⟨rfl, HX.out.2.2.2.2.1.trans hK3, HCN.out, v, hv, rfl⟩
                                    · have z1 : ¬ (k : Int) < (m : Int) := by omega
                                      have z2 : decide ((k : Int) < (m : Int)) = false := decide_eq_false z1
                                      obtain rfl : k = m := by omega
                                      rw [show k - k = 0 by omega, digsN] at hnx
                                      have hT := HTT.out
                                      rw [hnx] at hT
                                      dsimp only [Option.map] at hT
                                      rw [List.append_nil] at hT
                                      subst hT
                                      have l1 := loadRT rtP hRW
                                      obtain ⟨u, hst, hRU, hKU⟩ := storeRT rtP hR0 ⟨pS x.b, (s : Int), (t : Int), (ch : Int), f, false, dg.b, q, k, cap⟩
                                      obtain ⟨q6, c6, e6, hlt6, hdg6⟩ := dg_own hO hdn.symm hdn2
                                      rw [hdn] at e6
                                      injection e6 with e6 e7 e8
                                      subst e6 e8
                                      have HRU := Lib.hid hRU
                                      have HFIN := Lib.hid (show Kp a.block w u ∧ RdP p N u a li ∧ DgAt u ⟨pS x.b, (s : Int), (t : Int), (ch : Int), f, false, dg.b, q, k, cap⟩ dn ∧ ∀ c o, q = some ⟨c, o, none⟩ → w.heap.size ≤ c from
                                        ⟨hK.high hKU (by have := HBD.out; omega), rdP_high hR hKU (by have := HBD.out; omega), (hdg6 ⟨pS x.b, (s : Int), (t : Int), (ch : Int), f, false, dg.b, q, k, cap⟩ rfl (by dsimp only; exact hdn.symm) rfl HDL8.out).keep (fun c o e hlt => hKU.block c hlt (by have := (hlt6 c o e).1; have := HBD.out; omega)), fun c o e => by have := (hlt6 c o e).1; have := HBD.out; omega⟩)
                                      have HDK := Lib.hid hdn
                                      clear hR hO hRW hR0 hK hsz hnx hdn hdn2 hRU hKU hlt6 hdg6
                                      go_wp2
                                      refine bodyPost_ret (resR rtP rfl _ u M 44 _ rfl HRU.out) rfl ?_
                                      refine ⟨HFIN.out.1, ⟨q, cap, ?_, ?_, HFIN.out.2.2.2⟩, HFIN.out.2.1⟩
                                      · unfold RcT.rc
                                        dsimp only
                                        rw [HDK.out]
                                      · have := HFIN.out.2.2.1
                                        unfold RcT.rc
                                        dsimp only
                                        rw [HDK.out]
                                        exact this
                                · exact absurd rfl hcc
                              · rw [stp_no hc] at hT
                                subst hT
                                clear hy
                                go_wp2_with fail
                                clear hst8
                                refine (HCT.out _).mono ?_
                                rintro e wc ⟨rfl, rfl⟩
                                go_wp2_with fail
                                refine HC.out.mono ?_
                                rintro e wx ⟨hK, ⟨hcc, -⟩ | ⟨hcc, v, hv, rfl⟩⟩
                                · exact absurd hcc hc
                                · exact ⟨rfl, (HKA.out.trans HK8p.out).trans hK, hc, v, hv, rfl⟩
                            · exact absurd rfl hcc
                          · rw [stp_no hc] at hT
                            subst hT
                            clear hy
                            go_wp2_with fail
                            refine HC.out.mono ?_
                            rintro e wx ⟨hK, ⟨hcc, -⟩ | ⟨hcc, v, hv, rfl⟩⟩
                            · exact absurd hcc hc
                            · exact ⟨rfl, (HKA.out.trans HK7.out).trans hK, hc, v, hv, rfl⟩
                      · exact absurd rfl hcc
                    · rw [stp_no hc] at hT
                      subst hT
                      clear hy
                      go_wp2_with fail
                      refine HC.out.mono ?_
                      rintro e wx ⟨hK, ⟨hcc, -⟩ | ⟨hcc, v, hv, rfl⟩⟩
                      · exact absurd hcc hc
                      · exact ⟨rfl, (HKA.out.trans HK_l5.out).trans hK, hc, v, hv, rfl⟩
                · exact absurd rfl hcc
              · rw [stp_no hc] at hT
                subst hT
                clear hy
                go_wp2_with fail
                refine HC.out.mono ?_
                rintro e wx ⟨hK, ⟨hcc, -⟩ | ⟨hcc, v, hv, rfl⟩⟩
                · exact absurd hcc hc
                · exact ⟨rfl, (HKA.out.trans HK_l3.out).trans hK, hc, v, hv, rfl⟩
            · exact absurd rfl hcc
          · rw [stp_no hc] at hT
            subst hT
            clear hy
            go_wp2_with fail
            refine HC.out.mono ?_
            rintro e wx ⟨hK, ⟨hcc, -⟩ | ⟨hcc, v, hv, rfl⟩⟩
            · exact absurd hcc hc
            · exact ⟨rfl, (HKA.out.trans HK_l2.out).trans hK, hc, v, hv, rfl⟩
        · exact absurd rfl hcc
      · rw [stp_no hc] at hT
        subst hT
        clear hy
        go_wp2_with fail
        refine HC.out.mono ?_
        rintro e wx ⟨hK, ⟨hcc, -⟩ | ⟨hcc, v, hv, rfl⟩⟩
        · exact absurd hcc hc
        · exact ⟨rfl, (HKA.out.trans HK_l1.out).trans hK, hc, v, hv, rfl⟩
    · exact absurd rfl hcc
  · rw [stp_no hc] at hT
    subst hT
    clear hy
    go_wp2_with fail
    refine HC.out.mono ?_
    rintro e wx ⟨hK, ⟨hcc, -⟩ | ⟨hcc, v, hv, rfl⟩⟩
    · exact absurd hcc hc
    · exact ⟨rfl, (HKA.out.trans HK0.out).trans hK, hc, v, hv, rfl⟩
end Go.Proofs.YtnmopjefjpifoaaGreatDoor
/- Read, once more: what its function leaves may lie in new blocks. -/
set_option maxRecDepth 100000
namespace Go.Proofs.YtnmopjefjpifoaaGreatDoor
open Go Go.RowKit
attribute [-go_sem] Sha.exec_store

attribute [local go_sem] mkFn sl_full
attribute [local go_sem ↓] exec_slice
set_option maxRecDepth 100000 in
set_option maxHeartbeats 4000000 in
/-- Read, of what changes with no more than Read's own blocks. -/
theorem readJ_any (l : List (BitVec 8)) (p : Option Addr) (n cap g : Nat) (caps : Array Value) (w : World) (J : Nat → World → Prop) (hl : l.length = n) (hs : Sl w p l) (hp : p = none → cap = 0) (hnc : n ≤ cap) (hn : n < 1000000)
    (hent : ∀ args w, (callFunc g args).run Tryz.prog w = .ok (.enter g args) w) (hJ : ∀ c x y, J c x → Below w.heap.size x y → (∀ k, k < x.heap.size → k ≠ w.heap.size → k ≠ w.heap.size + 1 → y.heap[k]? = x.heap[k]?) → J c y)
    (hf : ∀ a w1, Below w.heap.size w w1 → w.heap.size + 3 ≤ w1.heap.size → RdP p w.heap.size w1 a l → Calls Tryz.prog g (#[.pointer (some a)] ++ caps) w1 fun e w2 => Loc w.heap.size a.block w1 w2 ∧ ((∃ rest, e = .returned (.tuple #[]) ∧ RdP p w.heap.size w2 a rest ∧ J (if rest = [] then 0 else 6) w2) ∨ (∃ code : Nat, Thrown (ThrP a) code e w2 ∧ J code w2))) :
    Calls Tryz.prog 63 #[.slice p n cap, .func (.func g) #[] caps] w fun e w' => ∃ code : Nat, e = .returned (.int .i64 (code : Int)) ∧ J code w' := by
  go_enter_defers Tryz.func63, Tryz.ntmps63
  have hB3 : Below w.heap.size w (((w.alloc (.cells #[.int .i64 0] 35)).alloc (.cells #[.slice p n n, .bool true, .int .i64 0] 209)).alloc (.cells #[.pointer (some ⟨w.heap.size + 1, 0, none⟩)] 139)) := (((Below.refl _ _).alloc (Nat.le_refl _) _).alloc (by simp [World.size_alloc]) _).alloc (by simp [World.size_alloc]; omega) _
  have hz3 : (((w.alloc (.cells #[.int .i64 0] 35)).alloc (.cells #[.slice p n n, .bool true, .int .i64 0] 209)).alloc (.cells #[.pointer (some ⟨w.heap.size + 1, 0, none⟩)] 139)).heap.size = w.heap.size + 1 + 1 + 1 := by simp [World.size_alloc]
  have c0 : (((w.alloc (.cells #[.int .i64 0] 35)).alloc (.cells #[.slice p n n, .bool true, .int .i64 0] 209)).alloc (.cells #[.pointer (some ⟨w.heap.size + 1, 0, none⟩)] 139)).cell? ⟨w.heap.size, 0, none⟩ = some (.int .i64 0) := by go_simp
  have d0 : (((w.alloc (.cells #[.int .i64 0] 35)).alloc (.cells #[.slice p n n, .bool true, .int .i64 0] 209)).alloc (.cells #[.pointer (some ⟨w.heap.size + 1, 0, none⟩)] 139)).frozen? ⟨w.heap.size, 0, none⟩ = false := by go_simp
  have hrd : RdC (((w.alloc (.cells #[.int .i64 0] 35)).alloc (.cells #[.slice p n n, .bool true, .int .i64 0] 209)).alloc (.cells #[.pointer (some ⟨w.heap.size + 1, 0, none⟩)] 139)) (w.heap.size + 1) p n n true 0 := ⟨by go_simp, by go_simp, by go_simp, by go_simp, by go_simp, by go_simp⟩
  have c2 : (((w.alloc (.cells #[.int .i64 0] 35)).alloc (.cells #[.slice p n n, .bool true, .int .i64 0] 209)).alloc (.cells #[.pointer (some ⟨w.heap.size + 1, 0, none⟩)] 139)).cell? ⟨w.heap.size + 1 + 1, 0, none⟩ = some (.pointer (some ⟨w.heap.size + 1, 0, none⟩)) := by go_simp
  have hnil : p = none → n = 0 := fun e => by
    rcases Nat.eq_zero_or_pos n with h | h
    · exact h
    · obtain ⟨c, o, e2, -⟩ := hs 0 (by omega)
      rw [e] at e2; cases e2
  have HRD := Lib.hid (show RdP p w.heap.size (((w.alloc (.cells #[.int .i64 0] 35)).alloc (.cells #[.slice p n n, .bool true, .int .i64 0] 209)).alloc (.cells #[.pointer (some ⟨w.heap.size + 1, 0, none⟩)] 139)) ⟨w.heap.size + 1, 0, none⟩ l from
    ⟨w.heap.size + 1, p, n, rfl, Nat.le_succ _, by rw [hl]; exact hrd, hs.of_below hB3, hnil, by omega, by omega, fun h c o e => ⟨hs.blk6 h c o e, o, e⟩⟩)
  have HF := Lib.hid (hf ⟨w.heap.size + 1, 0, none⟩ _ hB3 (by rw [hz3]; exact Nat.le_refl _) HRD.out)
  have HC := Lib.hid (And.intro c0 (And.intro d0 (And.intro c2 hz3)))
  have HJ := Lib.hid hJ
  have HB3 := Lib.hid hB3
  clear hf HRD c0 d0 c2 hz3 hJ hs hp hB3 hrd
  go_wp2_with fail
  refine HF.out.mono ?_
  clear HF
  generalize (((w.alloc (.cells #[.int .i64 0] 35)).alloc (.cells #[.slice p n n, .bool true, .int .i64 0] 209)).alloc (.cells #[.pointer (some ⟨w.heap.size + 1, 0, none⟩)] 139)) = W3 at *
  generalize hH : w.heap.size = H at *
  rintro e w2 ⟨hLo, h⟩
  have k0 : w2.cell? ⟨H, 0, none⟩ = some (.int .i64 0) := by rw [World.cell?_of_block (w := W3) (hLo.block H (Nat.le_refl _) (by rw [HC.out.2.2.2]; omega) (by show H ≠ H + 1; omega))]; exact HC.out.1
  have k1 : w2.frozen? ⟨H, 0, none⟩ = false := by rw [World.frozen?_of_block (w := W3) (hLo.block H (Nat.le_refl _) (by rw [HC.out.2.2.2]; omega) (by show H ≠ H + 1; omega))]; exact HC.out.2.1
  have k2 : w2.cell? ⟨H + 1 + 1, 0, none⟩ = some (.pointer (some ⟨H + 1, 0, none⟩)) := by rw [World.cell?_of_block (w := W3) (hLo.block (H + 1 + 1) (by omega) (by rw [HC.out.2.2.2]; omega) (by show H + 1 + 1 ≠ H + 1; omega))]; exact HC.out.2.2.1
  have hz2 : H + 1 + 1 + 1 ≤ w2.heap.size := by rw [← HC.out.2.2.2]; exact hLo.size
  have hlast : ∀ (c : Nat) (w4 : World), Kp (H + 1) w2 w4 → J c w2 → J c (w4.setCell ⟨H, 0, none⟩ (.int .i64 (c : Int))) ∧ (w4.setCell ⟨H, 0, none⟩ (.int .i64 (c : Int))).cell? ⟨H, 0, none⟩ = some (.int .i64 (c : Int)) := fun c w4 hK hj => by
    have hb := (hK.below (N := H) (by omega) (by omega)).setCell (show H ≤ (⟨H, 0, none⟩ : Addr).block from Nat.le_refl H) (.int .i64 (c : Int))
    refine ⟨HJ.out c _ _ hj hb (fun k h1 h2 h3 => (Below.heap_setCell _ _ _ _ (by show k ≠ H; exact h2)).trans (hK.block k h1 h3)), World.cell?_setCell_same _ _ _ (u := .int .i64 0) ?_⟩
    rw [hK.cell (by show H < _; omega) (by show H ≠ H + 1; omega)]; exact k0
  rcases h with ⟨rest, rfl, ⟨b, q2, cap2, hb, hNb, r1, -⟩, hJ2⟩ | ⟨code, ⟨v, ⟨rfl, hc0, hc15, b, q2, n2, cap2, hb, r1⟩, rfl⟩, hJ2⟩
  · injection hb with hb _ _
    subst hb
    have HR1 := Lib.hid r1
    have HJ2 := Lib.hid hJ2
    have HL := Lib.hid hlast
    have H2 := Lib.hid (And.intro k0 (And.intro k1 k2))
    clear r1 hJ2 hlast k0 k1 k2 hLo
    obtain ⟨x, hx⟩ : ∃ x : Nat, (if rest.length = 0 then 0 else 6) = x := ⟨_, rfl⟩
    have hx2 : (if rest = [] then 0 else 6 : Nat) = x := by rw [← hx]; cases rest <;> simp
    have hci := catch_idle (H + 1) q2 rest.length cap2 (H + 1 + 1) H _ w2 HR1.out H2.out.2.2 H2.out.1 H2.out.2.1 (by omega)
    rw [hx] at hci
    have HCI := Lib.hid hci
    rw [hx2] at HJ2
    clear hx hx2 hci
    go_wp2
    refine leaves_cons (f := 129) (args := #[.pointer (some ⟨H + 1 + 1, 0, none⟩), .pointer (some ⟨H, 0, none⟩)]) (by simp) (by simp [go_sem]) ?_
    refine HCI.out.mono ?_
    rintro e u' w'' ⟨rfl, rfl, w4, hK, rfl⟩
    obtain ⟨hj, kk⟩ := HL.out x w4 hK HJ2.out
    simp [Leaves, settle, results, Tryz.results63, go_sem, kk]
    exact ⟨x, rfl, hj⟩
  · injection hb with hb _ _
    subst hb
    dsimp only
    refine leaves_cons (f := 129) (args := #[.pointer (some ⟨H + 1 + 1, 0, none⟩), .pointer (some ⟨H, 0, none⟩)]) (by simp) (by simp [go_sem]) ?_
    refine (catch_thrown (H + 1) q2 n2 cap2 code (H + 1 + 1) H _ w2 r1 hc0 hc15 k2 k0 k1 (by omega)).mono ?_
    rintro e u' w'' ⟨rfl, rfl, w4, hK, rfl⟩
    obtain ⟨hj, kk⟩ := hlast code w4 hK hJ2
    simp [Leaves, settle, results, Tryz.results63, go_sem, kk]
    exact ⟨code, rfl, hj⟩
end Go.Proofs.YtnmopjefjpifoaaGreatDoor
