/- WardFull. -/
import Derived.Test.YtcgilacmdckbfaaDoorAwk15
import Derived.Test.YtcgilacmdckbfaaDoorBytes
set_option linter.unusedSimpArgs false
set_option maxRecDepth 100000
set_option linter.unusedVariables false
namespace Go.Proofs.YtcgilacmdckbfaaDoor
open Go Go.RowKit

theorem w64i (a : Nat) (h : a < 16) : IntKind.i64.wrap (a : Int) = (a : Int) := by rw [IntKind.wrap_i64]; omega
theorem w64j (a : Nat) (h : a < 16) : IntKind.i64.wrap (97 + (a : Int)) = ((97 + a : Nat) : Int) := by rw [IntKind.wrap_i64]; omega
theorem w64a (a : Nat) (h : a < 16) : wrap64 (a : Int) = (a : Int) := by
  have h := w64i a h
  rw [IntKind.wrap_i64] at h
  unfold wrap64
  exact h
theorem w64b (a : Nat) (h : a < 16) : wrap64 (97 + (a : Int)) = ((97 + a : Nat) : Int) := by
  have h := w64j a h
  rw [IntKind.wrap_i64] at h
  unfold wrap64
  exact h
def nmW (a : Nat) : S8 := [102, UInt8.ofNat (97 + a)]
theorem nmW_kind (a : Nat) (ha : a < 16) : kindL (nmW a) = 3 := by
  have : ∀ i : Fin 16, kindL (nmW i.val) = 3 := by decide +kernel
  exact this ⟨a, ha⟩
theorem nmW_inj {a b : Nat} (ha : a < 16) (hb : b < 16) (h : nmW a = nmW b) : a = b := by
  have : ∀ i j : Fin 16, nmW i.val = nmW j.val → i = j := by decide +kernel
  have := this ⟨a, ha⟩ ⟨b, hb⟩ h
  exact congrArg Fin.val this
/-- So many blocks are held, one after the other. -/
def FInv (s : Ws) (i : Nat) : Prop := lenW s = min i 1000 ∧ ∀ a c : Nat, a < 16 → c < 64 → (whyW (ofW s (nmW a)) (c : Int)).isSome = decide (64 * a + c < min i 1000)
theorem FInv.zero : FInv [] 0 := ⟨rfl, fun a c _ _ => by
  rw [decide_eq_false (by omega)]
  rfl⟩
def fullC (i : Nat) : Int := if i < 1000 then 0 else 14
theorem FInv.code {s : Ws} {i : Nat} (h : FInv s i) (hi : i < 1024) : holdC s (nmW (i / 64)) ((i % 64 : Nat) : Int) ((1 + i % 3 : Nat) : Int) = fullC i := by
  have h1 := h.2 (i / 64) (i % 64) (by omega) (Nat.mod_lt _ (by decide))
  rw [decide_eq_false (by omega)] at h1
  have h2 : whyW (ofW s (nmW (i / 64))) ((i % 64 : Nat) : Int) = none := by
    cases hw : whyW (ofW s (nmW (i / 64))) ((i % 64 : Nat) : Int) with
    | none => rfl
    | some v => rw [hw] at h1; cases h1
  unfold holdC fullC
  rw [if_neg (by rw [nmW_kind _ (by omega)]; decide), if_neg (by omega), h2, h.1]
  by_cases hl : i < 1000
  · rw [if_pos hl, if_neg (by omega)]
  · rw [if_neg hl, if_pos ⟨rfl, by omega⟩]
theorem FInv.step {s : Ws} {i : Nat} (h : FInv s i) (hk : OkW s) (hi : i < 1024) : FInv (holdW s (nmW (i / 64)) ((i % 64 : Nat) : Int) ((1 + i % 3 : Nat) : Int)) (i + 1) := by
  have hc := h.code hi
  unfold holdW
  rw [hc]
  unfold fullC
  by_cases hl : i < 1000
  · rw [if_pos hl, if_pos rfl]
    have h1 := h.2 (i / 64) (i % 64) (by omega) (Nat.mod_lt _ (by decide))
    rw [decide_eq_false (by omega)] at h1
    refine ⟨?_, fun a c ha hcc => ?_⟩
    · rw [lenW_put hk, h1, h.1]
      simp only [Bool.false_eq_true, if_false]
      omega
    · rw [ofW_put]
      by_cases hn : nmW a = nmW (i / 64)
      · have hai := nmW_inj ha (by omega) hn
        rw [if_pos hn, whyW_put]
        by_cases hcc2 : c = i % 64
        · rw [if_pos (by rw [hcc2]), decide_eq_true (by omega)]
          rfl
        · rw [if_neg (by omega), ← hn, h.2 a c ha hcc]
          exact decide_eq_decide.2 (by omega)
      · rw [if_neg hn, h.2 a c ha hcc]
        have : a ≠ i / 64 := fun e => hn (by rw [e])
        exact decide_eq_decide.2 (by omega)
  · rw [if_neg hl, if_neg (by decide)]
    refine ⟨by rw [h.1]; omega, fun a c ha hcc => ?_⟩
    rw [h.2 a c ha hcc]
    exact decide_eq_decide.2 (by omega)
theorem FInv.again {s : Ws} {i : Nat} (h : FInv s i) (hk : OkW s) (hi : 0 < i) : holdC s [102, 97] 0 3 = 0 ∧ lenW (holdW s [102, 97] 0 3) = min i 1000 := by
  have h1 := h.2 0 0 (by omega) (by omega)
  rw [decide_eq_true (by omega)] at h1
  have h1' : (whyW (ofW s [102, 97]) 0).isSome = true := h1
  have hc : holdC s [102, 97] 0 3 = 0 := by
    unfold holdC
    rw [if_neg (by rw [show ([102, 97] : S8) = nmW 0 from by decide, nmW_kind 0 (by decide)]; decide), if_neg (by omega), if_neg]
    rintro ⟨e, -⟩
    rw [e] at h1'
    cases h1'
  refine ⟨hc, ?_⟩
  unfold holdW
  rw [if_pos hc, lenW_put hk, h1', h.1]
  rfl
set_option maxRecDepth 100000 in
set_option maxHeartbeats 8000000 in
theorem full_any (x : Nat) (hx : x < 256) (w : World) : Calls Tryd.prog 5 #[.int .u8 (x : Int)] w fun e w' => e = .returned (.bool true) ∧ Below w.heap.size w w' := by
  have HAW := Lib.hid (awake15 w)
  obtain ⟨M, hM⟩ : ∃ M : Nat, 990 + x % 30 = M := ⟨_, rfl⟩
  have hMb : 990 ≤ M ∧ M < 1020 := by have := Nat.mod_lt x (show 0 < 30 by decide); omega
  have hMw : IntKind.i64.wrap (990 + (x : Int) % 30) = (M : Int) := by rw [IntKind.wrap_i64]; omega
  have HMB := Lib.hid hMb
  clear hM hMb
  go_enter Tryd.func5, Tryd.ntmps5
  go_wp2_with fail
  refine HAW.out.mono ?_
  rintro e w1 ⟨rfl, hB⟩
  have HNW := Lib.hid (wst_new w hB)
  clear hB HAW
  go_wp2_with fail
  refine HNW.out.mono ?_
  rintro e w2 ⟨b, rfl, hW⟩
  have HW2 := Lib.hid hW
  clear hW HNW
  go_wp2
  go_loopw [5, 6, 7, 16] (fun _ _ _ v wr => ∃ i : Nat, i ≤ M ∧ v = .int .i64 (i : Int) ∧ ∃ s, WSt w wr b s ∧ FInv s i) (fun _ _ _ v _ => M - (intOf v).toNat)
  case atStart => exact ⟨0, Nat.zero_le _, rfl, [], HW2.out, FInv.zero⟩
  case round =>
    obtain ⟨i, hi, rfl, s, hW, hF⟩ := hrel
    have HS := Lib.hid (And.intro hW hF)
    clear hW hF HW2 hMw
    by_cases hlt : i < M
    · have z1 : (i : Int) < (M : Int) := by omega
      have z2 : decide ((i : Int) < (M : Int)) = true := decide_eq_true z1
      have z3 : decide (i < M) = true := decide_eq_true hlt
      have hb := HMB.out
      have hc2 := HS.out.2.code (i := i) (by omega)
      have hst := HS.out.2.step HS.out.1.ok (i := i) (by omega)
      obtain ⟨a, ha⟩ : ∃ a, i / 64 = a := ⟨_, rfl⟩
      obtain ⟨d, hd⟩ : ∃ d, i % 64 = d := ⟨_, rfl⟩
      obtain ⟨m, hm⟩ : ∃ m, i % 3 = m := ⟨_, rfl⟩
      obtain ⟨c, hc⟩ : ∃ c, 97 + a = c := ⟨_, rfl⟩
      obtain ⟨r, hr⟩ : ∃ r, 1 + m = r := ⟨_, rfl⟩
      have q1 : (i : Int) / 64 = (a : Int) := by omega
      have q2 : (i : Int) % 64 = (d : Int) := by omega
      have q3 : (i : Int) % 3 = (m : Int) := by omega
      have q4 : IntKind.i64.wrap (97 + (a : Int)) = (c : Int) := by rw [IntKind.wrap_i64]; omega
      have q5 : IntKind.i64.wrap (1 + (m : Int)) = (r : Int) := by rw [IntKind.wrap_i64]; omega
      have q6 : IntKind.u8.wrap (c : Int) = (c : Int) := by simp [IntKind.wrap, IntKind.bits, IntKind.signed]; omega
      have q10 : (c : Int) % 256 = (c : Int) := by omega
      have ha16 : a < 16 := by omega
      have Q8 := Lib.hid (w64a a ha16)
      have Q9 := Lib.hid (show wrap64 (97 + (a : Int)) = (c : Int) from by rw [w64b a ha16, hc])
      clear ha16
      have q7 : IntKind.i64.wrap ((i : Int) + 1) = ((i + 1 : Nat) : Int) := by rw [IntKind.wrap_i64]; omega
      rw [ha, hd, hm, hr] at hc2 hst
      obtain ⟨y, hy⟩ : ∃ y, UInt8.ofNat c = y := ⟨_, rfl⟩
      have hnm : nmW a = [102, y] := by unfold nmW; rw [hc, hy]
      rw [hnm] at hc2 hst
      have hcv : (convert 60 9 (.slice (some ⟨wr.heap.size, 0, none⟩) 1 1)).run Tryd.prog (wr.alloc (.cells #[.int .u8 (c : Int)] 5)) = .ok (.string (mkS [y])) (wr.alloc (.cells #[.int .u8 (c : Int)] 5)) := by
        have hb : B (BitVec.ofNat 8 c) = .int .u8 (c : Int) := by unfold B; simp; omega
        have hsl : Sl (wr.alloc (.cells #[.int .u8 (c : Int)] 5)) (some ⟨wr.heap.size, 0, none⟩) [BitVec.ofNat 8 c] := by
          rw [← hb]
          intro j hj
          have : j = 0 := by simpa using hj
          subst this
          exact ⟨wr.heap.size, 0, rfl, by have := World.alloc_heap_new wr (.cells #[B (BitVec.ofNat 8 c)] 5); unfold World.cell?; simp only [this]; simp⟩
        have := conv_str _ _ _ 1 1 hsl rfl (fun e => by cases e)
        rw [this]
        have e : strOf [BitVec.ofNat 8 c] = mkS [y] := by
          unfold strOf mkS
          rw [← hy]
          rfl
        rw [e]
      have hadd : ∀ u, (Op.stringOp .add ⟨#[102]⟩ (mkS [y])).run Tryd.prog u = .ok (.string (mkS [102, y])) u := fun u => by
        have := add_LS [102] [y] u (fit (by simp))
        rw [cat_eq] at this
        exact this
      obtain ⟨wa, hwa⟩ : ∃ wa, wr.alloc (.cells #[.int .u8 (c : Int)] 5) = wa := ⟨_, rfl⟩
      have hBa : Below wr.heap.size wr wa := by rw [← hwa]; exact (Below.refl _ _).alloc (Nat.le_refl _) _
      have hh := wst_hold (HS.out.1.next hBa) (by have := HS.out.2.1; omega) [102, y] (by simp) (d : Int) (r : Int)
      rw [hc2] at hh
      have HH := Lib.hid hh
      have HWA := Lib.hid hwa
      have HST := Lib.hid hst
      have HMS := Lib.hid (show i + 1 ≤ M ∧ M - (i + 1) < M - i by omega)
      obtain ⟨SS, hSS⟩ : ∃ SS, mkS [102, y] = SS := ⟨_, rfl⟩
      obtain ⟨S1, hS1⟩ : ∃ S1, mkS [y] = S1 := ⟨_, rfl⟩
      rw [hSS] at HH hadd
      rw [hS1] at hcv hadd
      clear hBa hh hwa hst hlt hi hb ha hd hm hc hr hc2 hnm hy hSS hS1
      by_cases hl : i < 1000
      · have t1 : decide (i < 1000) = true := decide_eq_true hl
        have t2 : decide ((i : Int) < 1000) = true := decide_eq_true (by omega)
        have t3 : decide ((1000 : Int) ≤ (i : Int)) = false := decide_eq_false (by omega)
        have t4 : decide (1000 ≤ i) = false := decide_eq_false (by omega)
        rw [show fullC i = 0 from if_pos hl] at HH
        have q8 := Q8.out
        have q9 := Q9.out
        clear hl q4
        go_wp2_with fail
        rw [HWA.out]
        refine HH.out.mono ?_
        rintro e w5 ⟨rfl, hW⟩
        have HW5 := Lib.hid hW
        clear hW
        go_wp2
        exact ⟨⟨i + 1, HMS.out.1, rfl, _, HW5.out, HST.out⟩, by simp [intOf]; have := HMS.out; omega⟩
      · have t1 : decide (i < 1000) = false := decide_eq_false hl
        have t2 : decide ((i : Int) < 1000) = false := decide_eq_false (by omega)
        have t3 : decide ((1000 : Int) ≤ (i : Int)) = true := decide_eq_true (by omega)
        have t4 : decide (1000 ≤ i) = true := decide_eq_true (by omega)
        rw [show fullC i = 14 from if_neg hl] at HH
        have q8 := Q8.out
        have q9 := Q9.out
        clear hl q4
        go_wp2_with fail
        rw [HWA.out]
        refine HH.out.mono ?_
        rintro e w5 ⟨rfl, hW⟩
        have HW5 := Lib.hid hW
        clear hW
        go_wp2
        exact ⟨⟨i + 1, HMS.out.1, rfl, _, HW5.out, HST.out⟩, by simp [intOf]; have := HMS.out; omega⟩
    · obtain rfl : i = M := by omega
      have z1 : ¬ (i : Int) < (i : Int) := by omega
      have z2 : decide ((i : Int) < (i : Int)) = false := decide_eq_false z1
      have z3 : decide (i < i) = false := decide_eq_false hlt
      obtain ⟨g1, g2⟩ := HS.out.2.again HS.out.1.ok (by have := HMB.out; omega)
      have hln := wst_len HS.out.1 (by have := HS.out.2.1; omega)
      rw [HS.out.2.1] at hln
      obtain ⟨m, hm⟩ : ∃ m, min i 1000 = m := ⟨_, rfl⟩
      rw [hm] at hln g2
      have hmm : min (i : Int) 1000 = (m : Int) := by omega
      have HG := Lib.hid (And.intro g1 g2)
      have HLN := Lib.hid hln
      have HMM := Lib.hid (show m ≤ 1000 by omega)
      have HS1 := Lib.hid HS.out.2.1
      clear hlt hi hln g1 g2 hm HS
      go_wp2_with fail
      refine HLN.out.mono ?_
      rintro e w5 ⟨rfl, hW⟩
      have hh := wst_hold hW (by have := HS1.out; omega) [102, 97] (by simp) 0 3
      rw [HG.out.1, ← mkS_lit [102, 97]] at hh
      have HH := Lib.hid hh
      clear hW hh HLN
      go_wp2_with fail
      refine HH.out.mono ?_
      rintro e w6 ⟨rfl, hW⟩
      have hln := wst_len hW (by rw [HG.out.2]; have := HMM.out; omega)
      rw [HG.out.2] at hln
      have HLN := Lib.hid hln
      clear hW hln
      go_wp2_with fail
      refine HLN.out.mono ?_
      rintro e w7 ⟨rfl, hW⟩
      have HW := Lib.hid hW
      clear hW
      go_wp2
      go_ret
      exact ⟨rfl, HW.out.2⟩
end Go.Proofs.YtcgilacmdckbfaaDoor
