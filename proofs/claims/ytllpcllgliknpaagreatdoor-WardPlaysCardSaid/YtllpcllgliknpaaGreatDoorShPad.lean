/- The last block filled up, and the digest of a hash. -/
import Derived.Test.YtllpcllgliknpaaGreatDoorShPut
import Derived.Deep.LoopGhost
set_option linter.unusedSimpArgs false
set_option maxRecDepth 100000
set_option linter.unusedVariables false
namespace Go.Proofs.YtllpcllgliknpaaGreatDoor.Sha
open Go Go.RowKit

theorem B_eq' (x : BitVec 8) : B x = .int .u8 (x.toNat : Int) := by unfold B; rfl
theorem B_128 : B 128#8 = .int .u8 128 := by unfold B; rfl
theorem B_0 : B 0#8 = .int .u8 0 := by unfold B; rfl
/-- One byte in a block of its own. -/
theorem Sl_new (w : World) (x : BitVec 8) (v : Value) (hv : v = B x) (T : TypeId) : Sl (w.alloc (.cells #[v] T)) (some ⟨w.heap.size, 0, none⟩) [x] := fun j hj => by
  have : j = 0 := by simpa using hj
  subst this
  refine ⟨w.heap.size, 0, rfl, ?_⟩
  rw [World.cell?_alloc_new, hv]; rfl
theorem rep_snoc (l : List (BitVec 8)) (k : Nat) : (l ++ 128#8 :: List.replicate k 0#8) ++ [0#8] = l ++ 128#8 :: List.replicate (k + 1) 0#8 := by
  rw [List.replicate_succ']; simp

theorem B_be (n k : Nat) (hk : k < 8) : Value.int .u8 ((n : Int) * 8 / 2 ^ (56 - 8 * k) % 256) = B ((be64 (8 * n)).getD k 0#8) := by
  have h1 : (be64 (8 * n)).getD k 0#8 = BitVec.ofNat 8 (8 * n / 256 ^ (7 - k)) := by
    simp [be64, List.getD_eq_getElem?_getD, hk]
  have h2 : 256 ^ (7 - k) = 2 ^ (56 - 8 * k) := by
    rw [show (256 : Nat) = 2 ^ 8 from rfl, ← Nat.pow_mul]
    congr 1
    omega
  rw [h1, B_eq', BitVec.toNat_ofNat, h2, Nat.mul_comm 8 n]
  congr 1
set_option maxHeartbeats 1000000 in
theorem pad_any (b : Nat) (T : TypeId) (l : List (BitVec 8)) (w : World) (h : Holds w b T l) (hk : Kt w) (hb : 1 < b) (hn : l.length < 100000000000000000) :
    Calls Tryz.prog 66 #[.pointer (some ⟨b, 0, none⟩)] w fun e w' => e = .returned (.tuple #[]) ∧ Holds w' b T (padl l) ∧ Kp b w w' := by
  have H := Lib.hid h
  have HK := Lib.hid hk
  have hbl := h.lt
  have h72 : w.cell? ⟨b, 72, none⟩ = some (.int .i64 l.length) := let ⟨_, h1, _⟩ := h; h1.len
  generalize hnn : l.length = n at *
  have HN := Lib.hid hnn
  clear h hk hnn
  go_enter Tryz.func66, Tryz.ntmps66
  go_wp2_with (go_at_call 65; go_loud (refine (put_any b T l [128#8] _ 1 _ (H.out.of_below ((Below.refl _ _).alloc (Nat.le_refl _) _)) (Sl_new w _ _ B_128.symm _) (by intro _ a ha; injection ha with ha; subst ha; show w.heap.size ≠ b; omega) (HK.out.of_kp ((Kp.refl b w).alloc _) hb) hb (by rw [HN.out]; show n + 1 < _; omega)).mono ?_); rintro e w1 ⟨rfl, hH1, hK1⟩)
  have HH1 := Lib.hid hH1
  have HK1 := Lib.hid (((Kp.refl b w).alloc _).trans hK1)
  have hw1 := hK1.size
  clear hH1 hK1
  simp only [World.size_alloc] at hw1
  go_loopg [] (nz n) (fun g wr => g ≤ nz n ∧ Holds wr b T (l ++ 128#8 :: List.replicate (nz n - g) 0#8) ∧ Kp b w wr)
  case atStart => exact ⟨Nat.le_refl _, by rw [Nat.sub_self]; exact HH1.out, HK1.out⟩
  case round =>
    obtain ⟨hg, hH, hKp⟩ := hrel
    have hc : (l ++ 128#8 :: List.replicate (nz n - gk) 0#8).length = n + 1 + (nz n - gk) := by simp [HN.out]; omega
    have hl : wr.cell? ⟨b, 72, none⟩ = some (.int .i64 ((n + 1 + (nz n - gk) : Nat) : Int)) := by
      obtain ⟨_, h1, _⟩ := hH
      rw [← hc]; exact h1.len
    have HH := Lib.hid hH
    have HKp := Lib.hid hKp
    have hsz := hKp.size
    have hgn := nz_le n
    generalize hq : n + 1 + (nz n - gk) = q at *
    have HQ := Lib.hid hq
    have hqb : (q : Int) < 1000000000000000000 := by omega
    have hqn : q ≤ n + 64 := by omega
    have hc' := hc
    clear hH hKp HH1 HK1 hc
    by_cases hgk : gk = 0
    · have hz : ((q : Int) % 64 != 56) = false := by
        have := nz_ok n
        simp; omega
      clear hq
      have hq8 : nz n - gk = nz n := by omega
      have HQ8 := Lib.hid hq8
      clear hq8 hsz hw1 hg hgk hc'
      go_wp2_with fail
      clear hqb hqn hl
      go_loopw [22] (fun i wv => ∃ k : Nat, k ≤ 8 ∧ i = .int .i64 k ∧ Holds wv b T ((l ++ 128#8 :: List.replicate (nz n) 0#8) ++ (be64 (8 * n)).take k) ∧ Kp b w wv) (fun i _ => 8 - (intOf i).toNat)
      case atStart => exact ⟨0, by decide, rfl, by have := HH.out; rw [HQ8.out] at this; simpa using this, HKp.out⟩
      case round =>
        clear hz HH HKp HQ HQ8
        obtain ⟨k, hk, rfl, hH, hKp⟩ := hrel
        have HH := Lib.hid hH
        have HKp := Lib.hid hKp
        have hsz := hKp.size
        clear hH hKp
        by_cases hlt : k < 8
        · have g1 : 8 * (k : Int) ≤ 56 := by omega
          have g2 : 0 ≤ 8 * (k : Int) := by omega
          have HV := Lib.hid (B_be n k hlt)
          have HT := Lib.hid (take_getD (be64 (8 * n)) 0#8 k (by rw [be64_length]; exact hlt))
          go_wp2_with (go_at_call 65; go_loud (refine (put_any b T _ [(be64 (8 * n)).getD k 0#8] _ 1 _ (HH.out.of_below ((Below.refl _ _).alloc (Nat.le_refl _) _)) (Sl_new wr _ _ HV.out _) (by intro _ a ha; injection ha with ha; subst ha; show wr.heap.size ≠ b; omega) (HK.out.of_kp (HKp.out.alloc _) hb) hb (by have := nz_le n; simp [HN.out, be64_length]; omega)).mono ?_); rintro e w2 ⟨rfl, hH2, hK2⟩)
          have F := Lib.hid (show Holds w2 b T ((l ++ 128#8 :: List.replicate (nz n) 0#8) ++ (be64 (8 * n)).take (k + 1)) ∧ Kp b w w2 from ⟨by rw [HT.out, ← List.append_assoc]; exact hH2, (HKp.out.alloc _).trans hK2⟩)
          clear hH2 hK2
          go_roundw
          case rel => exact ⟨k + 1, by omega, by go_num, F.out⟩
          case measure => simp [intOf]; omega
        · go_wp2
          go_end0
          refine ⟨rfl, ?_, HKp.out⟩
          have := HH.out
          rw [List.take_of_length_le (by rw [be64_length]; omega)] at this
          rw [padl, HN.out]
          simpa using this
    · have hz : ((q : Int) % 64 != 56) = true := by
        have := nz_lt n (nz n - gk) (by omega)
        simp; omega
      clear hq
      go_wp2_with (go_at_call 65; go_loud (refine (put_any b T _ [0#8] _ 1 _ (HH.out.of_below ((Below.refl _ _).alloc (Nat.le_refl _) _)) (Sl_new wr _ _ B_0.symm _) (by intro _ a ha; injection ha with ha; subst ha; show wr.heap.size ≠ b; omega) (HK.out.of_kp (HKp.out.alloc _) hb) hb (by rw [hc']; show q + 1 < _; omega)).mono ?_); rintro e w2 ⟨rfl, hH2, hK2⟩)
      go_roundg (gk - 1)
      case measure => omega
      case rel =>
        refine ⟨by omega, ?_, (HKp.out.alloc _).trans hK2⟩
        rw [rep_snoc] at hH2
        rwa [show nz n - (gk - 1) = nz n - gk + 1 by omega]

/-! The digest of a hash. -/
/-- n zero bytes. -/
def zb (n : Nat) : Array Value := tab n (fun _ => B 0#8)
theorem zb_eq (n : Nat) : zb n = Array.replicate n (Value.int .u8 0) := by
  rw [zb, tab_const, B_0]
theorem info24 : (Tryz.prog.info? 72).map (fun i => (i.zero, i.size)) = some (some (.agg (Array.replicate 32 (Value.int .u8 0))), 32) := by kernel_rfl
theorem und24 : Tryz.prog.underlying 72 = some (.array 32 5) := by kernel_rfl
theorem size24 : (Tryz.prog.info? 72).map (·.size) = some 32 := by kernel_rfl
theorem exec_alloc24 (r : Operand → Value) (dst : Option Tmp) (ty : TypeId) (pos : String) (after : Array Edge) (guard : Option (Nat × Bool)) (w : World) :
    (execOp r ⟨dst, .alloc 72, ty, pos, after, guard⟩).run Tryz.prog w = .ok (.value (.pointer (some ⟨w.heap.size, 0, none⟩))) (w.alloc (.cells (zb 32) 72)) := by
  have h := (zero_of_info info24).1 w
  rw [← zb_eq] at h
  simp [execOp, Instr.alloc, h, newVar, newRow, Value.cells]
attribute [local go_sem ↓] exec_alloc24
attribute [local go_sem] tab_set tab_get
/-- The first k bytes of a digest. -/
def cur3 (s : S8) (k i : Nat) : BitVec 8 := if i < k then dgB s i else 0#8
theorem cur3_succ (s : S8) (k i : Nat) : (if i = k then B (BitVec.setWidth 8 (s.get (k / 4) >>> (24 - 8 * (k % 4)))) else B (cur3 s k i)) = B (cur3 s (k + 1) i) := by
  unfold cur3
  by_cases h : i = k
  · subst h; rw [if_pos rfl, if_pos (by omega)]; rfl
  · rw [if_neg h]
    by_cases h1 : i < k
    · rw [if_pos h1, if_pos (by omega)]
    · rw [if_neg h1, if_neg (by omega)]
/-- A digest as a value. -/
def dgV (f : Nat → BitVec 8) : Value := .agg (tab 32 fun i => B (f i))
set_option maxHeartbeats 1000000 in
theorem digest_any (b : Nat) (T : TypeId) (s : S8) (m : Nat → BitVec 8) (n : Nat) (w : World) (h : Blk w b T s.get m n) :
    Calls Tryz.prog 67 #[.pointer (some ⟨b, 0, none⟩)] w fun e w' => e = .returned (dgV (dgB s)) ∧ Below w.heap.size w w' := by
  have H := Lib.hid h
  have hbl := h.lt
  clear h
  go_enter Tryz.func67, Tryz.ntmps67
  go_wp2
  go_loopw [5] (fun i wr => ∃ k : Nat, k ≤ 32 ∧ i = .int .i64 k ∧ wr = (w.alloc (.cells (zb 32) 72)).alloc (.cells (tab 32 fun i => B (cur3 s k i)) 72)) (fun i _ => 32 - (intOf i).toNat)
  case atStart => exact ⟨0, by decide, rfl, rfl⟩
  case round =>
    obtain ⟨k, hk, rfl, rfl⟩ := hrel
    by_cases hlt : k < 32
    · have c : w.cell? ⟨b, k / 4, none⟩ = some (U (s.get (k / 4))) := H.out.word (k / 4) (by omega)
      have g1 : 8 * ((k : Int) % 4) ≤ 24 := by omega
      have g2 : 0 ≤ (k : Int) / 4 := by omega
      have g3 : (k : Int) / 4 < 8 := by omega
      go_wp2
      go_roundw
      case rel =>
        refine ⟨k + 1, by omega, by go_num, ?_⟩
        congr 2
        exact tab_congr fun t _ => cur3_succ s k t
      case measure => simp [intOf]; omega
    · obtain rfl : k = 32 := by omega
      have hr : ((w.alloc (.cells (zb 32) 72)).alloc (.cells (tab 32 fun i => B (cur3 s 32 i)) 72)).rangeAt (w.heap.size + 1) 0 (tab 32 fun i => B (cur3 s 32 i)).toList := by
        intro j v hv
        simp only [Nat.zero_add]
        rw [World.cell?_alloc2_new]
        simpa using hv
      have ht : ((w.alloc (.cells (zb 32) 72)).alloc (.cells (tab 32 fun i => B (cur3 s 32 i)) 72)).there w.heap.size 0 (tab 32 fun i => B (cur3 s 32 i)).size := by
        intro j hj
        rw [tab_size] at hj
        simp only [Nat.zero_add]
        rw [World.cell?_alloc2_first, World.frozen?_alloc2_first]
        simp [zb, tab_get _ _ _ hj]
      have HR := Lib.hid hr
      have HT := Lib.hid ht
      clear hr ht
      go_wp2_with (first | (refine wpList_load_mid rfl 72 (.tmp 3) rfl (w.heap.size + 1) 0 rfl (tab 32 fun i => B (cur3 s 32 i)).toList _ HR.out und24 rfl (by rw [size24]; simp [tab_size]) ?_) | (refine wpList_store_mid rfl 72 (.tmp 2) (.tmp 24) rfl w.heap.size 0 (tab 32 fun i => B (cur3 s 32 i)) rfl (by simp [Act.put, Act.eval]) HT.out (by rw [size24, tab_size]) (by simp [tab, one_B]) ?_))
      have hv : (tab 32 fun i => B (cur3 s 32 i)) = tab 32 fun i => B (dgB s i) := tab_congr fun i hi => by rw [cur3, if_pos hi]
      have hl : (tab 32 fun i => B (cur3 s 32 i)).toList.length = 32 := by simp [tab]
      refine body_cell rfl rfl (World.rangeAt_setCells_same _ w.heap.size 0 (tab 32 fun i => B (cur3 s 32 i)).toList (by have := HT.out; simpa using this)) und24 rfl (by rw [size24, hl]) rfl ⟨by rw [Array.toArray_toList, hv, dgV], ?_⟩
      exact below_setCells _ _ (((Below.refl _ _).alloc (Nat.le_refl _) _).alloc (by simp) _) (Nat.le_refl _)
end Go.Proofs.YtllpcllgliknpaaGreatDoor.Sha
