/- Merged texts: IdxF7, RunP7, RunQ7, OnlP7, GodP7, Rmv8. -/
import Derived.OwnWalk
import Derived.Lib.Hide
import Derived.Lib.OthersKept
import Derived.Laws.RangeAny
import Derived.Test.YtjglgohchhdkkaaGreatDoorStr7
import Derived.Laws.Runes
import Derived.Lib.Bytealg
import Derived.Laws.Externs
import Derived.Deep.QuietTactic
import Derived.WalkMore
import Derived.Shelf.Abstract
import Derived.Test.YtjglgohchhdkkaaGreatDoorK3
set_option linter.unusedSimpArgs false
set_option linter.unusedVariables false
/- strings.IndexFunc and strings.ContainsFunc at any function that holds of all runes from 128 on. -/
namespace Go.Proofs.YtjglgohchhdkkaaGreatDoor
open Go Go.RowKit

/-- The function value answers whether P holds, at every rune, as long as what lay below N stands as in w0. -/
def Tells (N : Nat) (w0 : World) (g : Nat) (caps : Array Value) (P : Nat → Bool) : Prop := ∀ (r : Nat) (u : World), r ≤ 2147483647 → Below N w0 u → Calls Tryz.prog g (#[.int .i32 (r : Int)] ++ caps) u fun e w' => e = .returned (.bool (P r)) ∧ Below u.heap.size u w'
theorem below_iter {N k : Nat} {w x : World} {s : ByteArray} {pos : Nat} (h : Below N w x) (hk : N ≤ k) (hlt : k < x.heap.size) : Below N w (x.iterAt k s pos) :=
  ⟨h.os, h.tape, h.output, by rw [Lib.iterAt_size]; exact h.size, fun j hj => by rw [Lib.iterAt_other _ _ _ _ _ (by omega)]; exact h.block j hj⟩
set_option maxRecDepth 100000 in
set_option maxHeartbeats 1000000 in
theorem indexFunc_any (N : Nat) (w0 : World) (g : Nat) (caps : Array Value) (P : Nat → Bool) (hent : ∀ args w, (callFunc g args).run Tryz.prog w = .ok (.enter g args) w) (hT : Tells N w0 g caps P) (hP : ∀ r, 128 ≤ r → P r = true) (l : S8) (u : World) (hN : N ≤ u.heap.size) (hB0 : Below N w0 u) :
    Calls Tryz.prog 106 #[.string (mkS l), .func (.func g) #[] caps, .bool true] u fun e w' => (∃ i : Int, e = .returned (.int .i64 i) ∧ -1 ≤ i ∧ (0 ≤ i ↔ l.any (fun c => P c.toNat) = true)) ∧ Below u.heap.size u w' := by
  obtain ⟨s, hs⟩ : ∃ s, mkS l = s := ⟨_, rfl⟩
  have hsz : s.size = l.length := by rw [← hs, mkS_size]
  have hget : ∀ i (h : i < s.size), (s[i]).toNat = chr l i := by subst hs; exact fun i h => mkS_get l i h
  rw [hs]
  have HSZ := Lib.hid hsz
  have HGET := Lib.hid hget
  have HT := Lib.hid (fun (r : Nat) (x : World) (hr : r ≤ 2147483647) (hx : Below u.heap.size u x) => hT r x hr (hB0.trans (hx.mono hN)))
  have HP := Lib.hid hP
  clear hs hsz hget hT hP hB0 hN
  go_enter Tryz.func106, Tryz.ntmps106
  go_wp2
  go_loopw [7, 8] (fun va vb wr => ∃ pos : Nat, wr.heap[u.heap.size]? = some (.stringIter s pos) ∧ pos ≤ l.length ∧ (∀ j, j < pos → P (chr l j) = false) ∧ Below u.heap.size u wr) (fun va vb wr => l.length - wr.iterPos u.heap.size)
  case atStart => exact ⟨0, World.iter_heap _ _ _, Nat.zero_le _, fun j h => absurd h (by omega), (Below.refl _ _).alloc (Nat.le_refl _) _⟩
  case round =>
    obtain ⟨pos, hk, hle, hno, hB⟩ := hrel
    have HK := Lib.hid hk
    have HNO := Lib.hid hno
    have HB := Lib.hid hB
    have hlt := (Array.getElem?_eq_some_iff.1 hk).1
    by_cases hp : pos < s.size
    · have hpl : pos < l.length := by rw [← HSZ.out]; exact hp
      have hch := HGET.out pos hp
      obtain ⟨c, hc⟩ : ∃ c, chr l pos = c := ⟨_, rfl⟩
      rw [hc] at hch
      have hci : (l[pos]).toNat = c := by rw [← chr_eq hpl]; exact hc
      have hin : P c = true → l.any (fun c => P c.toNat) = true := fun h => by rw [List.any_eq_true]; exact ⟨l[pos], List.getElem_mem hpl, by rw [hci]; exact h⟩
      have HIN := Lib.hid hin
      by_cases ha : c < 128
      · have hnx : ∀ ty, (Instr.next (.pointer (some ⟨u.heap.size, 0, none⟩)) true ty).run Tryz.prog wr = .ok (.tuple #[.bool true, .int .i64 pos, .int .i32 (c : Int)]) (wr.iterAt u.heap.size s (pos + 1)) := fun ty => by
          rw [Lib.run_next_ascii_at wr u.heap.size s pos ty hk hp (by rw [hch]; exact ha), hch]
        have hB2 := below_iter (s := s) (pos := pos + 1) hB (Nat.le_refl _) hlt
        have hk2 := Lib.iterAt_heap wr u.heap.size s pos (pos + 1) hk
        generalize wr.iterAt u.heap.size s (pos + 1) = x at *
        have HB2 := Lib.hid hB2
        have HK2 := Lib.hid hk2
        have HC := Lib.hid (HT.out c x (by omega) HB2.out)
        have HIP := Lib.hid (iterPos_of hk)
        have HPL := Lib.hid hpl
        cases hPc : P c with
        | true =>
          rw [hPc] at HC
          have HI := Lib.hid (HIN.out hPc)
          clear hPc hin hno hB hk hB2 hk2 hci hch hc
          go_wp2_with (refine HC.out.mono ?_; rintro e x2 ⟨rfl, hB3⟩; have HB3 := Lib.hid (HB2.out.trans (hB3.mono HB2.out.size)); clear hB3)
          go_ret
          exact ⟨⟨_, rfl, by omega, fun _ => HI.out, fun _ => by omega⟩, HB3.out⟩
        | false =>
          rw [hPc] at HC
          have HNN := Lib.hid (show ∀ j, j < pos + 1 → P (chr l j) = false from fun j h => by
            rcases Nat.lt_succ_iff_lt_or_eq.1 h with h | h
            · exact HNO.out j h
            · rw [h, hc]; exact hPc)
          clear hPc hin hno hB hk hB2 hk2 hci hch hc
          go_wp2_with (refine HC.out.mono ?_; rintro e x2 ⟨rfl, hB3⟩; have HB3 := Lib.hid (HB2.out.trans (hB3.mono HB2.out.size)); have HK3 := Lib.hid (show x2.heap[u.heap.size]? = some (.stringIter s (pos + 1)) from by rw [hB3.block _ (Array.getElem?_eq_some_iff.1 HK2.out).1]; exact HK2.out); clear hB3)
          exact ⟨⟨pos + 1, HK3.out, by have := HPL.out; omega, HNN.out, HB3.out⟩, by rw [iterPos_of HK3.out, HIP.out]; have := HPL.out; omega⟩
      · have ha2 : 128 ≤ (s[pos]).toNat := by rw [hch]; omega
        have hd := (decode_high s pos hp ha2).1
        have hdl := decode_le s pos
        obtain ⟨r, hr⟩ : ∃ r, (Utf8.decode s pos).1 = r := ⟨_, rfl⟩
        obtain ⟨d, hdd⟩ : ∃ d, pos + (Utf8.decode s pos).2 = d := ⟨_, rfl⟩
        rw [hr] at hd hdl
        have hnx : ∀ ty, (Instr.next (.pointer (some ⟨u.heap.size, 0, none⟩)) true ty).run Tryz.prog wr = .ok (.tuple #[.bool true, .int .i64 pos, .int .i32 (r : Int)]) (wr.iterAt u.heap.size s d) := fun ty => by
          rw [Lib.run_next_any_at wr u.heap.size s pos ty hk hp, hr, hdd]
        have hB2 := below_iter (s := s) (pos := d) hB (Nat.le_refl _) hlt
        generalize wr.iterAt u.heap.size s d = x at *
        have HB2 := Lib.hid hB2
        have HC := Lib.hid (HT.out r x hdl HB2.out)
        rw [HP.out r hd] at HC
        have HI := Lib.hid (HIN.out (HP.out c (by omega)))
        clear hin hno hB hk hB2 hci hch hc hr hdd ha2 hdl
        go_wp2_with (refine HC.out.mono ?_; rintro e x2 ⟨rfl, hB3⟩; have HB3 := Lib.hid (HB2.out.trans (hB3.mono HB2.out.size)); clear hB3)
        go_ret
        exact ⟨⟨_, rfl, by omega, fun _ => HI.out, fun _ => by omega⟩, HB3.out⟩
    · have hnx : ∀ ty, (Instr.next (.pointer (some ⟨u.heap.size, 0, none⟩)) true ty).run Tryz.prog wr = .ok (.tuple #[.bool false]) wr := fun ty => Lib.run_next_end_at wr u.heap.size s pos ty hk hp
      have HI := Lib.hid (show l.any (fun c => P c.toNat) = false from by
        rw [List.any_eq_false]
        intro c hc
        obtain ⟨j, hj, rfl⟩ := List.getElem_of_mem hc
        have := hno j (by rw [HSZ.out] at hp; omega)
        rw [chr_eq hj] at this
        simp [this])
      clear hno hB hk
      go_wp2
      go_ret
      exact ⟨⟨_, rfl, by decide, fun h => absurd h (by decide), fun h => by rw [HI.out] at h; cases h⟩, HB.out⟩
set_option maxHeartbeats 1000000 in
theorem IndexFunc_any (N : Nat) (w0 : World) (g : Nat) (caps : Array Value) (P : Nat → Bool) (hent : ∀ args w, (callFunc g args).run Tryz.prog w = .ok (.enter g args) w) (hT : Tells N w0 g caps P) (hP : ∀ r, 128 ≤ r → P r = true) (l : S8) (u : World) (hN : N ≤ u.heap.size) (hB0 : Below N w0 u) :
    Calls Tryz.prog 93 #[.string (mkS l), .func (.func g) #[] caps] u fun e w' => (∃ i : Int, e = .returned (.int .i64 i) ∧ -1 ≤ i ∧ (0 ≤ i ↔ l.any (fun c => P c.toNat) = true)) ∧ Below u.heap.size u w' := by
  have HC := Lib.hid (indexFunc_any N w0 g caps P hent hT hP l u hN hB0)
  clear hent hT hP hB0 hN
  go_enter Tryz.func93, Tryz.ntmps93
  go_wp2_with fail
  refine HC.out.mono ?_
  rintro e w2 ⟨⟨i, rfl, h1, h2⟩, hB⟩
  have HX := Lib.hid (And.intro h1 (And.intro h2 hB))
  clear h1 h2 hB HC
  go_wp2
  go_ret
  exact ⟨⟨i, rfl, HX.out.1, HX.out.2.1⟩, HX.out.2.2⟩
set_option maxHeartbeats 1000000 in
theorem ContainsFunc_any (N : Nat) (w0 : World) (g : Nat) (caps : Array Value) (P : Nat → Bool) (hent : ∀ args w, (callFunc g args).run Tryz.prog w = .ok (.enter g args) w) (hT : Tells N w0 g caps P) (hP : ∀ r, 128 ≤ r → P r = true) (l : S8) (u : World) (hN : N ≤ u.heap.size) (hB0 : Below N w0 u) :
    Calls Tryz.prog 75 #[.string (mkS l), .func (.func g) #[] caps] u fun e w' => e = .returned (.bool (l.any (fun c => P c.toNat))) ∧ Below u.heap.size u w' := by
  have HC := Lib.hid (IndexFunc_any N w0 g caps P hent hT hP l u hN hB0)
  clear hent hT hP hB0 hN
  go_enter Tryz.func75, Tryz.ntmps75
  go_wp2_with fail
  refine HC.out.mono ?_
  rintro e w2 ⟨⟨i, rfl, h1, h2⟩, hB⟩
  have HB := Lib.hid hB
  clear hB HC
  by_cases h : 0 ≤ i
  · have HA := Lib.hid (h2.1 h)
    have hd : decide (0 ≤ i) = true := decide_eq_true h
    clear h2
    go_wp2
    go_ret
    exact ⟨by rw [HA.out]; rfl, HB.out⟩
  · have HA := Lib.hid (show l.any (fun c => P c.toNat) = false from by
      cases hh : l.any (fun c => P c.toNat) with
      | true => exact absurd (h2.2 hh) h
      | false => rfl)
    have hd : decide (0 ≤ i) = false := decide_eq_false h
    clear h2
    go_wp2
    go_ret
    exact ⟨by rw [HA.out]; rfl, HB.out⟩
end Go.Proofs.YtjglgohchhdkkaaGreatDoor
/- strings.IndexRune and strings.ContainsRune at whatever rune, over a string of five ASCII bytes; what a name may have, what a digest's text may have. -/
namespace Go.Proofs.YtjglgohchhdkkaaGreatDoor
open Go Go.RowKit

theorem bytesL (l : S8) : (mkS l).data.toList = l := by rw [← ByteArray.toList_eq, mkS_toList]
/-- The library's search for one byte, in the model. -/
theorem ixc (l : S8) (c : Int) (w : World) : (callFunc 111 #[.string (mkS l), .int .u8 c]).run Tryz.prog w = .ok (.value (.int .i64 (Lib.indexByte l c.toNat.toUInt8))) w := by
  have h := run_callFunc_extern (P := Tryz.prog) (f := 111) (e := Extern.BytealgIndexByte.indexByte) Tryz.func111 (by kernel_rfl) (by kernel_rfl) (by kernel_rfl) (by kernel_rfl) #[.string (mkS l), .int .u8 c] w
  rw [h, Lib.run_indexByteString (P := Tryz.prog), bytesL]
  rfl
attribute [local go_sem] ixc
theorem indexByte_lite (l : S8) (c : Int) (w : World) : Calls Tryz.prog 102 #[.string (mkS l), .int .u8 c] w fun e w' => e = .returned (.int .i64 (Lib.indexByte l c.toNat.toUInt8)) ∧ w = w' := by
  go_enter Tryz.func102, Tryz.ntmps102
  go_wp2
  go_ret
  exact ⟨rfl, rfl⟩
theorem indexByte_any (l : S8) (c : Int) (w : World) : Calls Tryz.prog 107 #[.string (mkS l), .int .u8 c] w fun e w' => e = .returned (.int .i64 (Lib.indexByte l c.toNat.toUInt8)) ∧ w = w' := by
  have HC := Lib.hid (indexByte_lite l c w)
  generalize Lib.indexByte l c.toNat.toUInt8 = x at *
  go_enter Tryz.func107, Tryz.ntmps107
  go_wp2_with fail
  refine HC.out.mono ?_
  rintro e w' ⟨rfl, rfl⟩
  go_wp2
  go_ret
  exact ⟨rfl, rfl⟩
theorem indexByte_has (l : S8) (c : UInt8) : (0 ≤ Lib.indexByte l c) = (l.contains c = true) ∧ -1 ≤ Lib.indexByte l c := by
  induction l with
  | nil => exact ⟨by simp [Lib.indexByte], by simp [Lib.indexByte]⟩
  | cons b r ih =>
    obtain ⟨i1, i2⟩ := ih
    unfold Lib.indexByte
    by_cases h : b = c
    · subst h; simp
    · have hb : (b == c) = false := beq_eq_false_iff_ne.2 h
      have hcb : (c == b) = false := beq_eq_false_iff_ne.2 (fun e => h e.symm)
      rw [List.contains_cons, hcb, Bool.false_or, ← i1, hb]
      by_cases h1 : Lib.indexByte r c = -1
      · have e1 : (Lib.indexByte r c == -1) = true := by rw [h1]; rfl
        simp [e1, h1]
      · have e1 : (Lib.indexByte r c == -1) = false := beq_eq_false_iff_ne.2 h1
        rw [e1]
        simp only [Bool.false_eq_true, if_false]
        exact ⟨propext (by omega), by omega⟩
theorem indexByte_none {l : S8} {c : UInt8} (h : ∀ b ∈ l, b ≠ c) : Lib.indexByte l c = -1 := by
  obtain ⟨h1, h2⟩ := indexByte_has l c
  have : ¬ l.contains c = true := by simpa using fun hc => h c hc rfl
  rw [← h1] at this
  omega
set_option maxRecDepth 1000000 in
set_option maxHeartbeats 2000000 in
/-- A rune of ASCII. -/
theorem indexRune_lo (l : S8) (r : Nat) (w : World) (hr : r < 128) : Calls Tryz.prog 94 #[.string (mkS l), .int .i32 (r : Int)] w fun e w' => e = .returned (.int .i64 (Lib.indexByte l (UInt8.ofNat r))) ∧ w = w' := by
  have HC := Lib.hid (show Calls Tryz.prog 107 #[.string (mkS l), .int .u8 (r : Int)] w _ from indexByte_any l (r : Int) w)
  have e : ((r : Int).toNat.toUInt8) = UInt8.ofNat r := by simp [Nat.toUInt8]
  rw [e] at HC
  generalize Lib.indexByte l (UInt8.ofNat r) = x at *
  have z1 : (r : Int) < 128 := by omega
  have z2 : decide ((r : Int) < 128) = true := decide_eq_true z1
  have z3 : IntKind.u8.wrap (r : Int) = (r : Int) := by unfold IntKind.wrap; simp [IntKind.bits, IntKind.signed]; omega
  go_enter Tryz.func94, Tryz.ntmps94
  go_wp2_with fail
  refine HC.out.mono ?_
  rintro e w' ⟨rfl, rfl⟩
  go_wp2
  go_ret
  exact ⟨rfl, rfl⟩
theorem valid_any (r : Int) (w : World) : Calls Tryz.prog 108 #[.int .i32 r] w fun e w' => e = .returned (.bool (Utf8.valid r)) ∧ w = w' := by
  rw [validRune_eq]
  obtain ⟨v, hv⟩ : ∃ v, validRune r = v := ⟨_, rfl⟩
  rw [hv]
  unfold validRune at hv
  by_cases h1 : 0 ≤ r ∧ r < 55296
  · obtain rfl : v = true := hv.symm.trans (decide_eq_true (Or.inl h1))
    obtain ⟨a1, a2⟩ := h1
    clear hv
    go_enter Tryz.func108, Tryz.ntmps108
    go_wp2
    go_ret
    exact ⟨rfl, rfl⟩
  · by_cases h2 : 57343 < r ∧ r ≤ 1114111
    · obtain rfl : v = true := hv.symm.trans (decide_eq_true (Or.inr h2))
      obtain ⟨a1, a2⟩ := h2
      have a3 : ¬ r < 55296 := by omega
      have a4 : 0 ≤ r := by omega
      clear h1 hv
      go_enter Tryz.func108, Tryz.ntmps108
      go_wp2
      go_ret
      exact ⟨rfl, rfl⟩
    · obtain rfl : v = false := hv.symm.trans (decide_eq_false (fun h => h.elim h1 h2))
      clear hv
      by_cases b1 : 0 ≤ r
      · have b2 : ¬ r < 55296 := fun h => h1 ⟨b1, h⟩
        by_cases b3 : 57343 < r
        · have b4 : ¬ r ≤ 1114111 := fun h => h2 ⟨b3, h⟩
          clear h1 h2
          go_enter Tryz.func108, Tryz.ntmps108
          go_wp2
          go_ret
          exact ⟨rfl, rfl⟩
        · clear h1 h2
          go_enter Tryz.func108, Tryz.ntmps108
          go_wp2
          go_ret
          exact ⟨rfl, rfl⟩
      · have b3 : ¬ 57343 < r := by omega
        clear h1 h2
        go_enter Tryz.func108, Tryz.ntmps108
        go_wp2
        go_ret
        exact ⟨rfl, rfl⟩
/-- Bytes of ASCII, five of them. -/
def Low5 (l : S8) : Prop := l.length = 5 ∧ ∀ c ∈ l, c.toNat < 128
theorem Low5.get {l : S8} (h : Low5 l) (i : Nat) (hi : i < l.length) : chr l i < 128 := by
  rw [chr_eq hi]
  exact h.2 _ (List.getElem_mem hi)
set_option maxRecDepth 1000000 in
set_option maxHeartbeats 2000000 in
/-- A rune that is no rune. -/
theorem indexRune_no (l : S8) (r : Nat) (w : World) (hr : 128 ≤ r) (hf : r ≠ 65533) (hv : Utf8.valid (r : Int) = false) : Calls Tryz.prog 94 #[.string (mkS l), .int .i32 (r : Int)] w fun e w' => e = .returned (.int .i64 (-1)) ∧ w = w' := by
  have HV := Lib.hid (valid_any (r : Int) w)
  rw [hv] at HV
  have z0 : (0 : Int) ≤ (r : Int) := by omega
  have z1 : ¬ (r : Int) < 128 := by omega
  have z2 : decide ((r : Int) < 128) = false := decide_eq_false z1
  have z3 : ((r : Int) == 65533) = false := by simp; omega
  clear hv hr hf
  go_enter Tryz.func94, Tryz.ntmps94
  go_wp2_with fail
  refine HV.out.mono ?_
  rintro e w' ⟨rfl, rfl⟩
  go_wp2
  go_ret
  exact ⟨rfl, rfl⟩
end Go.Proofs.YtjglgohchhdkkaaGreatDoor
/- strings.IndexRune at runes beyond ASCII; strings.ContainsRune. -/
namespace Go.Proofs.YtjglgohchhdkkaaGreatDoor
open Go Go.RowKit

set_option maxRecDepth 1000000 in
set_option maxHeartbeats 4000000 in
/-- The rune that stands for what is no rune: the string's runes are gone through. -/
theorem indexRune_bad (l : S8) (hl : Low5 l) (u : World) : Calls Tryz.prog 94 #[.string (mkS l), .int .i32 65533] u fun e w' => e = .returned (.int .i64 (-1)) ∧ Below u.heap.size u w' := by
  obtain ⟨s, hs⟩ : ∃ s, mkS l = s := ⟨_, rfl⟩
  have hsz : s.size = l.length := by rw [← hs, mkS_size]
  have hget : ∀ i (h : i < s.size), (s[i]).toNat < 128 := by subst hs; exact fun i h => by rw [mkS_get l i h]; exact hl.get i (by rw [mkS_size] at h; exact h)
  rw [hs]
  have HSZ := Lib.hid hsz
  have HGET := Lib.hid hget
  clear hs hsz hget hl
  go_enter Tryz.func94, Tryz.ntmps94
  go_wp2
  go_loopw [5, 6] (fun va vb wr => ∃ pos : Nat, wr.heap[u.heap.size]? = some (.stringIter s pos) ∧ pos ≤ l.length ∧ Below u.heap.size u wr) (fun va vb wr => l.length - wr.iterPos u.heap.size)
  case atStart => exact ⟨0, World.iter_heap _ _ _, Nat.zero_le _, (Below.refl _ _).alloc (Nat.le_refl _) _⟩
  case round =>
    obtain ⟨pos, hk, hle, hB⟩ := hrel
    have HK := Lib.hid hk
    have HB := Lib.hid hB
    have hlt := (Array.getElem?_eq_some_iff.1 hk).1
    by_cases hp : pos < s.size
    · have hpl : pos < l.length := by rw [← HSZ.out]; exact hp
      have ha := HGET.out pos hp
      obtain ⟨c, hc⟩ : ∃ c, (s[pos]).toNat = c := ⟨_, rfl⟩
      rw [hc] at ha
      have hnx : ∀ ty, (Instr.next (.pointer (some ⟨u.heap.size, 0, none⟩)) true ty).run Tryz.prog wr = .ok (.tuple #[.bool true, .int .i64 pos, .int .i32 (c : Int)]) (wr.iterAt u.heap.size s (pos + 1)) := fun ty => by
        rw [Lib.run_next_ascii_at wr u.heap.size s pos ty hk hp (by rw [hc]; exact ha), hc]
      have HB2 := Lib.hid (below_iter (s := s) (pos := pos + 1) hB (Nat.le_refl _) hlt)
      have HK2 := Lib.hid (Lib.iterAt_heap wr u.heap.size s pos (pos + 1) hk)
      generalize wr.iterAt u.heap.size s (pos + 1) = x at *
      have HIP := Lib.hid (iterPos_of hk)
      have HPL := Lib.hid hpl
      have z3 : ((c : Int) == 65533) = false := by simp; omega
      clear hB hk hc ha
      go_wp2
      exact ⟨⟨pos + 1, HK2.out, by have := HPL.out; omega, HB2.out⟩, by rw [iterPos_of HK2.out, HIP.out]; have := HPL.out; omega⟩
    · have hnx : ∀ ty, (Instr.next (.pointer (some ⟨u.heap.size, 0, none⟩)) true ty).run Tryz.prog wr = .ok (.tuple #[.bool false]) wr := fun ty => Lib.run_next_end_at wr u.heap.size s pos ty hk hp
      clear hB hk
      go_wp2
      go_ret
      exact ⟨rfl, HB.out⟩
attribute [local go_sem high] sl_from
set_option maxRecDepth 1000000 in
set_option maxHeartbeats 4000000 in
/-- A rune beyond ASCII: the last byte of its encoding is none of ASCII. -/
theorem indexRune_hi (l : S8) (hl : Low5 l) (r : Nat) (w : World) (hr : 128 ≤ r) (hf : r ≠ 65533) (hv : Utf8.valid (r : Int) = true) : Calls Tryz.prog 94 #[.string (mkS l), .int .i32 (r : Int)] w fun e w' => e = .returned (.int .i64 (-1)) ∧ Below w.heap.size w w' := by
  have HV := Lib.hid (valid_any (r : Int) w)
  rw [hv] at HV
  have z0 : (0 : Int) ≤ (r : Int) := by omega
  have z1 : ¬ (r : Int) < 128 := by omega
  have z2 : decide ((r : Int) < 128) = false := decide_eq_false z1
  have z3 : ((r : Int) == 65533) = false := by simp; omega
  obtain ⟨f1, f2, f3⟩ := encode_facts (r : Int) hv (by omega)
  have hcv : ∀ u, (convert 21 9 (.int .i32 (r : Int))).run Tryz.prog u = .ok (.string (Utf8.encode (r : Int))) u := fun u => run_convert_int_string u 21 9 .i32 (r : Int) (by kernel_rfl) (by kernel_rfl)
  obtain ⟨z, hz⟩ : ∃ z, Utf8.encode (r : Int) = mkS z := ⟨_, (mkS_of _).symm⟩
  rw [hz] at hcv f1 f2 f3
  rw [mkS_size] at f1 f2
  obtain ⟨n, hn⟩ : ∃ n, z.length = n + 1 := ⟨z.length - 1, by omega⟩
  have hch : 128 ≤ chr z n := by
    have := f3 (by rw [mkS_size]; omega)
    rw [mkS_get] at this
    rw [mkS_size] at this
    rw [show n = z.length - 1 by omega]
    exact this
  obtain ⟨c, hc⟩ : ∃ c, chr z n = c := ⟨_, rfl⟩
  have hc256 : c < 256 := by rw [← hc]; exact chr_lt _ _
  have hixz : ∀ u, (Instr.index 9 (.string (mkS z)) (.int .i64 (n : Int))).run Tryz.prog u = .ok (.int .u8 (c : Int)) u := fun u => by rw [ix_S z n u (by omega), hc]
  obtain ⟨b, hb⟩ : ∃ b, chr l n = b := ⟨_, rfl⟩
  have hb128 : b < 128 := by rw [← hb]; exact hl.get n (by rw [hl.1]; omega)
  have hixl : ∀ u, (Instr.index 9 (.string (mkS l)) (.int .i64 (n : Int))).run Tryz.prog u = .ok (.int .u8 (b : Int)) u := fun u => by rw [ix_S l n u (by rw [hl.1]; omega), hb]
  have hne : ((b : Int) == (c : Int)) = false := by simp; omega
  have hsl : ∀ u, (Instr.slice 9 (.string (mkS l)) (some (.int .i64 ((n : Int) + 1))) none none).run Tryz.prog u = .ok (.string (mkS (l.drop (n + 1)))) u := fun u => by
    have := sl_from l (n + 1) u (by rw [hl.1]; omega)
    simpa using this
  have hll : (l.length : Int) = 5 := by rw [hl.1]; rfl
  have hzl : (z.length : Int) = (n : Int) + 1 := by omega
  have hn4 : n < 4 := by omega
  have HI := Lib.hid (fun u => indexByte_any (l.drop (n + 1)) (c : Int) u)
  have e : ((c : Int).toNat.toUInt8) = UInt8.ofNat c := by simp [Nat.toUInt8]
  have hno : Lib.indexByte (l.drop (n + 1)) (UInt8.ofNat c) = -1 := indexByte_none fun x hx e => by
    have h1 := hl.2 x (List.mem_of_mem_drop hx)
    rw [e] at h1
    simp [Nat.mod_eq_of_lt hc256] at h1
    omega
  rw [e, hno] at HI
  have w1 : IntKind.i64.wrap (n : Int) = (n : Int) := by rw [IntKind.wrap_i64]; clear e; omega
  have w2 : IntKind.i64.wrap ((n : Int) + 1) = (n : Int) + 1 := by rw [IntKind.wrap_i64]; clear e; omega
  have w3 : (n : Int) + 1 - 1 = (n : Int) := by omega
  have y1 : (n : Int) < 5 := by omega
  have y2 : decide ((n : Int) < 5) = true := decide_eq_true y1
  generalize l.drop (n + 1) = q at *
  clear hv hr hf hz f1 f2 f3 hch hb hc hc256 hb128 e hno hl hn
  go_enter Tryz.func94, Tryz.ntmps94
  go_wp2_with fail
  refine HV.out.mono ?_
  rintro e w' ⟨rfl, rfl⟩
  go_wp2
  go_step3
  go_wp2
  go_loopw [9, 10, 11, 12] (fun vi vf vo vj wr => vi = .int .i64 (n : Int) ∧ vf = .int .i64 0 ∧ vo = undef ∧ vj = undef ∧ Dr w wr) (fun vi vf vo vj _ => 0)
  case atStart => exact ⟨rfl, rfl, rfl, rfl, Dr.refl w⟩
  case round =>
    obtain ⟨rfl, rfl, rfl, rfl, hD⟩ := hrel
    have HD := Lib.hid hD
    clear hD
    go_wp2
    go_step3
    go_wp2
    go_quiet (fail)
    have HD2 := Lib.hid (HD.out.drewN nq)
    generalize wr.drewN nq = wq at *
    go_wp2
    go_quiet ((go_at_call 107; exact Calls.quiet_of_same ((HI.out _).mono fun e w' ⟨he, hw⟩ => ⟨he, hw.symm⟩)))
    go_wp2
    rw [Exit.noGoto_ret]
    go_wp2
    rw [Exit.noGoto_ret]
    go_ret
    exact ⟨rfl, (HD2.out.drewN nq).below _⟩
/-- What is no ASCII is not found among ASCII. -/
def hasR (l : S8) (r : Nat) : Bool := decide (r < 128) && l.contains (UInt8.ofNat r)
theorem containsRune_any (l : S8) (hl : Low5 l) (r : Nat) (w : World) : Calls Tryz.prog 78 #[.string (mkS l), .int .i32 (r : Int)] w fun e w' => e = .returned (.bool (hasR l r)) ∧ Below w.heap.size w w' := by
  have key : Calls Tryz.prog 94 #[.string (mkS l), .int .i32 (r : Int)] w fun e w' => ∃ i : Int, e = .returned (.int .i64 i) ∧ decide (0 ≤ i) = hasR l r ∧ Below w.heap.size w w' := by
    by_cases h : r < 128
    · refine (indexRune_lo l r w h).mono ?_
      rintro e w' ⟨rfl, rfl⟩
      refine ⟨_, rfl, ?_, Below.refl _ _⟩
      have := (indexByte_has l (UInt8.ofNat r)).1
      unfold hasR
      rw [decide_eq_true h, Bool.true_and]
      cases hc : l.contains (UInt8.ofNat r) with
      | true => exact decide_eq_true (this ▸ hc)
      | false => exact decide_eq_false (fun h0 => by rw [this, hc] at h0; cases h0)
    · have hh : hasR l r = false := by unfold hasR; rw [decide_eq_false h]; rfl
      rw [hh]
      have fin : ∀ e w', (e = Ending.returned (.int .i64 (-1)) ∧ Below w.heap.size w w') → ∃ i : Int, e = .returned (.int .i64 i) ∧ decide (0 ≤ i) = false ∧ Below w.heap.size w w' := fun e w' k => ⟨-1, k.1, rfl, k.2⟩
      by_cases hf : r = 65533
      · subst hf
        exact (indexRune_bad l hl w).mono fin
      · cases hv : Utf8.valid (r : Int) with
        | true => exact (indexRune_hi l hl r w (by omega) hf hv).mono fin
        | false => exact (indexRune_no l r w (by omega) hf hv).mono fun e w' k => fin e w' ⟨k.1, by rw [← k.2]; exact Below.refl _ _⟩
  have HC := Lib.hid key
  clear key hl
  generalize hasR l r = b at *
  go_enter Tryz.func78, Tryz.ntmps78
  go_wp2_with fail
  refine HC.out.mono ?_
  rintro e w2 ⟨i, rfl, hd, hB⟩
  have HB := Lib.hid hB
  clear hB HC
  go_wp2
  go_ret
  exact ⟨by first | rfl | rw [hd], HB.out⟩
/-! ### What a name may have; what a digest's text may have -/
def betw (r a b : Nat) : Bool := decide (a ≤ r) && decide (r ≤ b)
theorem between_any (r a b : Nat) (w : World) : Calls Tryz.prog 77 #[.int .i32 (r : Int), .int .i32 (a : Int), .int .i32 (b : Int)] w fun e w' => e = .returned (.bool (betw r a b)) ∧ w = w' := by
  by_cases h1 : a ≤ r
  · have z1 : (a : Int) ≤ (r : Int) := by omega
    have z2 : decide ((a : Int) ≤ (r : Int)) = true := decide_eq_true z1
    by_cases h2 : r ≤ b
    · have HS := Lib.hid (show betw r a b = true from by unfold betw; rw [decide_eq_true h1, decide_eq_true h2]; rfl)
      have z3 : (r : Int) ≤ (b : Int) := by omega
      have z4 : decide ((r : Int) ≤ (b : Int)) = true := decide_eq_true z3
      go_enter Tryz.func77, Tryz.ntmps77
      go_wp2
      go_ret
      exact ⟨by rw [HS.out]; rfl, rfl⟩
    · have HS := Lib.hid (show betw r a b = false from by unfold betw; rw [decide_eq_true h1, decide_eq_false h2]; rfl)
      have z3 : ¬ (r : Int) ≤ (b : Int) := by omega
      have z4 : decide ((r : Int) ≤ (b : Int)) = false := decide_eq_false z3
      go_enter Tryz.func77, Tryz.ntmps77
      go_wp2
      go_ret
      exact ⟨by rw [HS.out]; rfl, rfl⟩
  · have HS := Lib.hid (show betw r a b = false from by unfold betw; rw [decide_eq_false h1]; rfl)
    have z1 : ¬ (a : Int) ≤ (r : Int) := by omega
    have z2 : decide ((a : Int) ≤ (r : Int)) = false := decide_eq_false z1
    go_enter Tryz.func77, Tryz.ntmps77
    go_wp2
    go_ret
    exact ⟨by rw [HS.out]; rfl, rfl⟩
def moreS : S8 := [45, 95, 46, 126, 43]
theorem more5 : Low5 moreS := ⟨rfl, by decide⟩
def nameR (r : Nat) : Bool := betw r 97 122 || betw r 65 90 || betw r 48 57 || hasR moreS r
def sumR (r : Nat) : Bool := betw r 48 57 || betw r 97 102
set_option maxHeartbeats 1000000 in
theorem inName_any (r : Nat) (w : World) : Calls Tryz.prog 66 #[.int .i32 (r : Int)] w fun e w' => e = .returned (.bool (nameR r)) ∧ Below w.heap.size w w' := by
  have H1 := Lib.hid (fun u => between_any r 97 122 u)
  have H2 := Lib.hid (fun u => between_any r 65 90 u)
  have H3 := Lib.hid (fun u => between_any r 48 57 u)
  have H4 := Lib.hid (show Calls Tryz.prog 78 #[.string ⟨#[45, 95, 46, 126, 43]⟩, .int .i32 (r : Int)] w (fun e w' => e = .returned (.bool (hasR moreS r)) ∧ Below w.heap.size w w') from by have := containsRune_any moreS more5 r w; rw [← mkS_lit] at this; exact this)
  unfold nameR
  generalize betw r 97 122 = b1 at *
  generalize betw r 65 90 = b2 at *
  generalize betw r 48 57 = b3 at *
  generalize hasR moreS r = b4 at *
  cases b1 with
  | true =>
    go_enter Tryz.func66, Tryz.ntmps66
    go_wp2_with fail
    refine (H1.out _).mono ?_
    rintro e w' ⟨rfl, rfl⟩
    go_wp2
    go_ret
    exact ⟨rfl, Below.refl _ _⟩
  | false =>
    cases b2 with
    | true =>
      go_enter Tryz.func66, Tryz.ntmps66
      go_wp2_with fail
      refine (H1.out _).mono ?_
      rintro e w' ⟨rfl, rfl⟩
      go_wp2_with fail
      refine (H2.out _).mono ?_
      rintro e w' ⟨rfl, rfl⟩
      go_wp2
      go_ret
      exact ⟨rfl, Below.refl _ _⟩
    | false =>
      cases b3 with
      | true =>
        go_enter Tryz.func66, Tryz.ntmps66
        go_wp2_with fail
        refine (H1.out _).mono ?_
        rintro e w' ⟨rfl, rfl⟩
        go_wp2_with fail
        refine (H2.out _).mono ?_
        rintro e w' ⟨rfl, rfl⟩
        go_wp2_with fail
        refine (H3.out _).mono ?_
        rintro e w' ⟨rfl, rfl⟩
        go_wp2
        go_ret
        exact ⟨rfl, Below.refl _ _⟩
      | false =>
        go_enter Tryz.func66, Tryz.ntmps66
        go_wp2_with fail
        refine (H1.out _).mono ?_
        rintro e w' ⟨rfl, rfl⟩
        go_wp2_with fail
        refine (H2.out _).mono ?_
        rintro e w' ⟨rfl, rfl⟩
        go_wp2_with fail
        refine (H3.out _).mono ?_
        rintro e w' ⟨rfl, rfl⟩
        go_wp2_with fail
        refine H4.out.mono ?_
        rintro e w2 ⟨rfl, hB⟩
        have HB := Lib.hid hB
        clear hB H4
        go_wp2
        go_ret
        exact ⟨rfl, HB.out⟩
end Go.Proofs.YtjglgohchhdkkaaGreatDoor
/- only, isName, isSum: all characters of a string are permitted. -/
namespace Go.Proofs.YtjglgohchhdkkaaGreatDoor
open Go Go.RowKit Go.Shelf

/-- A function without captured variables answers whether p holds. -/
def Says (g : Nat) (p : Nat → Bool) : Prop := ∀ (r : Nat) (u : World), Calls Tryz.prog g (#[.int .i32 (r : Int)] ++ #[]) u fun e w' => e = .returned (.bool (p r)) ∧ Below u.heap.size u w'
set_option maxHeartbeats 1000000 in
theorem onlyF_tells (g : Nat) (p : Nat → Bool) (hent : ∀ args w, (callFunc g args).run Tryz.prog w = .ok (.enter g args) w) (hS : Says g p) (N B : Nat) (w0 : World) (hc : w0.cell? ⟨B, 0, none⟩ = some (.func (.func g) #[] #[])) (hB : B < N) :
    Tells N w0 76 #[.pointer (some ⟨B, 0, none⟩)] (fun r => !p r) := by
  intro r u _ hu
  have hcu : u.cell? ⟨B, 0, none⟩ = some (.func (.func g) #[] #[]) := by rw [hu.cell (p := ⟨B, 0, none⟩) hB]; exact hc
  have HS := Lib.hid (hS r u)
  clear hS hc hu
  dsimp only
  generalize p r = b at *
  show Calls Tryz.prog 76 #[.int .i32 (r : Int), .pointer (some ⟨B, 0, none⟩)] u _
  go_enter Tryz.func76, Tryz.ntmps76
  go_wp2_with fail
  refine HS.out.mono ?_
  rintro e w2 ⟨rfl, hB2⟩
  have HB := Lib.hid hB2
  clear hB2 HS
  go_wp2
  go_ret
  exact ⟨rfl, HB.out⟩
set_option maxHeartbeats 1000000 in
theorem only_any (g : Nat) (p : Nat → Bool) (hent : ∀ args w, (callFunc g args).run Tryz.prog w = .ok (.enter g args) w) (hS : Says g p) (hp : ∀ r, 128 ≤ r → p r = false) (l : S8) (w : World) :
    Calls Tryz.prog 65 #[.string (mkS l), .func (.func g) #[] #[]] w fun e w' => e = .returned (.bool (l.all fun c => p c.toNat)) ∧ Below w.heap.size w w' := by
  have hT := onlyF_tells g p hent hS (w.heap.size + 1) w.heap.size (w.alloc (.cells #[.func (.func g) #[] #[]] 106)) (World.cell?_alloc_new _ _ _ _) (by omega)
  have HC := Lib.hid (ContainsFunc_any (w.heap.size + 1) _ 76 _ _ (enters_of Tryz.func76 (by kernel_rfl) rfl) hT (fun r hr => by rw [hp r hr]; rfl) l (w.alloc (.cells #[.func (.func g) #[] #[]] 106)) (by simp) (Below.refl _ _))
  have HA := Lib.hid (show (!(l.any fun c => !p c.toNat)) = l.all fun c => p c.toNat from by
    rw [List.not_any_eq_all_not]
    simp)
  have hmf : ∀ (fn : Fn) (first cap : Array Value) (w : World), (Instr.makeFunc fn first cap).run Tryz.prog w = .ok (.func fn first cap) w := fun _ _ _ _ => rfl
  clear hT hS hp hent
  generalize (l.any fun c => !p c.toNat) = b at *
  go_enter Tryz.func65, Tryz.ntmps65
  go_wp2_with fail
  refine HC.out.mono ?_
  rintro e w2 ⟨rfl, hB2⟩
  have HB := Lib.hid (((Below.refl w.heap.size w).alloc (Nat.le_refl _) (.cells #[.func (.func g) #[] #[]] 106)).trans (hB2.mono (by simp)))
  clear hB2 HC
  go_wp2
  go_ret
  exact ⟨by rw [← HA.out]; rfl, HB.out⟩
theorem name_high (r : Nat) (h : 128 ≤ r) : nameR r = false := by
  unfold nameR betw hasR
  simp; omega
theorem sum_high (r : Nat) (h : 128 ≤ r) : sumR r = false := by
  unfold sumR betw
  simp; omega
set_option maxRecDepth 100000 in
theorem nameF : ∀ c : Fin 256, nameR c.val = signB (UInt8.ofNat c.val) := by decide
theorem name_sign (c : UInt8) : nameR c.toNat = signB c := by
  have := nameF ⟨c.toNat, c.toNat_lt⟩
  simpa using this
theorem sum_hex (r : Nat) : sumR r = hexB r := rfl
set_option maxHeartbeats 1000000 in
theorem isName_any (x : S8) (w : World) : Calls Tryz.prog 52 #[.string (mkS x)] w fun e w' => Gives (.bool (okN x)) w e w' := by
  have HC := Lib.hid (only_any 66 nameR (enters_of Tryz.func66 (by kernel_rfl) rfl) (fun r u => inName_any r u) name_high x w)
  have ha : (x.all fun c => nameR c.toNat) = x.all signB := by congr 1; funext c; exact name_sign c
  rw [ha] at HC
  clear ha
  by_cases a : x = []
  · subst a
    clear HC
    go_enter Tryz.func52, Tryz.ntmps52
    go_wp2
    go_ret
    exact ⟨rfl, Below.refl _ _⟩
  · have a1 : (x == []) = false := beq_eq_false_iff_ne.2 a
    have a2 : x.isEmpty = false := by cases x with | nil => exact absurd rfl a | cons _ _ => rfl
    by_cases b : x = [46]
    · subst b
      clear HC
      go_enter Tryz.func52, Tryz.ntmps52
      go_wp2
      go_ret
      exact ⟨rfl, Below.refl _ _⟩
    · have b1 : (x == [46]) = false := beq_eq_false_iff_ne.2 b
      by_cases d : x = [46, 46]
      · subst d
        clear HC
        go_enter Tryz.func52, Tryz.ntmps52
        go_wp2
        go_ret
        exact ⟨rfl, Below.refl _ _⟩
      · have d1 : (x == [46, 46]) = false := beq_eq_false_iff_ne.2 d
        have HOK := Lib.hid (show okN x = x.all signB from by unfold okN; simp [a, b, d])
        clear a b d
        generalize x.all signB = g at *
        go_enter Tryz.func52, Tryz.ntmps52
        go_wp2_with fail
        refine HC.out.mono ?_
        rintro e w2 ⟨rfl, hB2⟩
        have HB := Lib.hid hB2
        clear hB2 HC
        go_wp2
        go_ret
        exact ⟨by rw [HOK.out]; rfl, HB.out⟩
end Go.Proofs.YtjglgohchhdkkaaGreatDoor
/- Good: all names of a string are names. -/
namespace Go.Proofs.YtjglgohchhdkkaaGreatDoor
open Go Go.RowKit Go.Shelf

attribute [local go_sem] Oper.semAt_some
theorem new_c (w : World) (v : Value) (T : TypeId) : (w.alloc (.cells #[v] T)).cell? ⟨w.heap.size, 0, none⟩ = some v ∧ (w.alloc (.cells #[v] T)).frozen? ⟨w.heap.size, 0, none⟩ = false := ⟨World.cell?_alloc_new _ _ _ _, by go_simp⟩
theorem kept_c {w : World} {a : Addr} {v : Value} (o : Obj) (h : w.cell? a = some v) (hf : w.frozen? a = false) : (w.alloc o).cell? a = some v ∧ (w.alloc o).frozen? a = false := by
  have hB : Below w.heap.size w (w.alloc o) := (Below.refl _ _).alloc (Nat.le_refl _) _
  exact ⟨by rw [hB.cell (World.block_lt_of_cell? w _ h)]; exact h, by rw [hB.frozen (World.block_lt_of_cell? w _ h)]; exact hf⟩
theorem others_below {W W' : World} (h : Below W.heap.size W W') : KeepsOthers W W' := ⟨h.size, fun k o hk _ => by rw [h.block k (Array.getElem?_eq_some_iff.1 hk).1]; exact hk⟩
/-- The caller's word: its result's cell, and all that lay ahead of it; the heap has not shrunk. -/
def InvG (w : World) (M : Nat) (A : World) : Prop := A.cell? ⟨w.heap.size, 0, none⟩ = some (.bool false) ∧ A.frozen? ⟨w.heap.size, 0, none⟩ = false ∧ Below w.heap.size w A ∧ M ≤ A.heap.size
theorem InvG.below {w A A' : World} {N M : Nat} (h : InvG w M A) (hB : Below N A A') (hN : w.heap.size < N) : InvG w M A' :=
  ⟨by rw [hB.cell (p := ⟨w.heap.size, 0, none⟩) hN]; exact h.1, by rw [hB.frozen (p := ⟨w.heap.size, 0, none⟩) hN]; exact h.2.1, h.2.2.1.trans (hB.mono (Nat.le_of_lt hN)), Nat.le_trans h.2.2.2 hB.size⟩
theorem InvG.lt {w A : World} {M : Nat} (h : InvG w M A) : w.heap.size < A.heap.size := World.block_lt_of_cell? A _ h.1
theorem InvG.bears (w : World) (N M : Nat) (hN : w.heap.size + 1 ≤ N) (P : List S8 → Prop) : Bears N (w.heap.size + 1) (fun pre A => P pre ∧ InvG w M A) :=
  ⟨fun pre A o h => ⟨h.1, h.2.below (N := A.heap.size) ((Below.refl _ _).alloc (Nat.le_refl _) _) h.2.lt⟩,
   fun pre A k o hk hlt h => ⟨h.1, h.2.below (below_put o hk hlt) (by omega)⟩,
   fun pre A k h => ⟨h.1, h.2.below (N := A.heap.size) ((show Dr A (A.drewN k) from ⟨k, rfl⟩).below _) h.2.lt⟩,
   fun pre A v h => ⟨h.1, h.2.below (N := w.heap.size + 1) ((Below.refl _ _).setCell (p := ⟨w.heap.size + 1, 0, none⟩) (by simp) v) (by omega)⟩⟩
set_option maxRecDepth 100000 in
set_option maxHeartbeats 2000000 in
theorem good_any (l : S8) (w : World) (hl : l.length < 1000000) : Calls Tryz.prog 38 #[.string (mkS l)] w fun e w' => Gives (.bool (goodL l)) w e w' := by
  refine (callsIn_wide (n := 7)).1 ?_
  refine callsIn_of_wp_marks Tryz.func38 rfl trivial ?_ rfl
  simp only [Tryz.ntmps38, List.size_toArray, List.length_cons, List.length_nil, Nat.reduceAdd, Nat.reduceSub, Array.replicate_succ, Array.replicate_zero, List.push_toArray, List.append_toArray, List.nil_append, List.cons_append]
  by_cases h100 : 100 < l.length
  · have x1 : (100 : Int) < (l.length : Int) := by omega
    have x2 : decide ((100 : Int) < (l.length : Int)) = true := decide_eq_true x1
    gi_wp2
    have c0 := new_c w (.bool false) 4
    have hS := Lib.hid (show goodL l = false from by unfold goodL; rw [decide_eq_false (by omega)]; rfl)
    simp [bodyPostM, LeavesInM, LeavesIn, settle, results, Tryz.f38, go_sem, c0.1]
    exact ⟨by rw [hS.out], (Below.refl _ _).alloc (Nat.le_refl _) _⟩
  · have x1 : ¬ (100 : Int) < (l.length : Int) := by omega
    have x2 : decide ((100 : Int) < (l.length : Int)) = false := decide_eq_false x1
    gi_wp2_with (refine ⟨trivial, ?_⟩; gi_at_call 51; refine (callsIn_wide.2 (splitSeq_any l _)).mono ?_; rintro e w' ⟨rfl, rfl⟩)
    have HG := Lib.hid (show goodL l = allN l from by unfold goodL; rw [decide_eq_true (by omega), Bool.true_and])
    obtain ⟨N, hN⟩ : ∃ N, w.heap.size = N := ⟨_, rfl⟩
    obtain ⟨W1, hW1⟩ : ∃ W1, w.alloc (.cells #[.bool false] 4) = W1 := ⟨_, rfl⟩
    obtain ⟨W2, hW2⟩ : ∃ W2, W1.alloc (.cells #[.string (mkS l)] 9) = W2 := ⟨_, rfl⟩
    obtain ⟨W3, hW3⟩ : ∃ W3, W2.alloc (.cells #[.string ⟨#[47]⟩] 9) = W3 := ⟨_, rfl⟩
    obtain ⟨W4, hW4⟩ : ∃ W4, W3.alloc (.cells #[.int .i64 0] 3) = W4 := ⟨_, rfl⟩
    have s1 : W1.heap.size = N + 1 := by rw [← hW1]; simp [hN]
    have s2 : W2.heap.size = N + 2 := by rw [← hW2]; simp [s1]
    have s3 : W3.heap.size = N + 3 := by rw [← hW3]; simp [s2]
    have s4 : W4.heap.size = N + 4 := by rw [← hW4]; simp [s3]
    have c0 := new_c w (.bool false) 4
    have k1 := new_c W1 (.string (mkS l)) 9
    have k2 := new_c W2 (.string ⟨#[47]⟩) 9
    have k3 := new_c W3 (.int .i64 0) 3
    rw [hW1, hN] at c0
    rw [hW2, s1] at k1
    rw [hW3, s2] at k2
    rw [hW4, s3] at k3
    have c1 := kept_c (.cells #[.string (mkS l)] 9) c0.1 c0.2
    rw [hW2] at c1
    have c2 := kept_c (.cells #[.string ⟨#[47]⟩] 9) c1.1 c1.2
    rw [hW3] at c2
    have c3 := kept_c (.cells #[.int .i64 0] 3) c2.1 c2.2
    rw [hW4] at c3
    have k1b := kept_c (.cells #[.string ⟨#[47]⟩] 9) k1.1 k1.2
    rw [hW3] at k1b
    have k1c := kept_c (.cells #[.int .i64 0] 3) k1b.1 k1b.2
    rw [hW4] at k1c
    have k2b := kept_c (.cells #[.int .i64 0] 3) k2.1 k2.2
    rw [hW4] at k2b
    have hB0 : Below w.heap.size w W4 := by
      rw [← hW4, ← hW3, ← hW2, ← hW1]
      exact ((((Below.refl _ w).alloc (Nat.le_refl _) _).alloc (by simp) _).alloc (by simp; omega) _).alloc (by simp; omega) _
    have hbx : Boxes (N + 1 + 1) (N + 1) (N + 1 + 2) l W4 := ⟨k2b.1, k1c.1, k1c.2, k3.1⟩
    have inv0 : InvG w W4.heap.size W4 := by
      refine ⟨?_, ?_, hB0, Nat.le_refl _⟩
      · rw [hN]; exact c3.1
      · rw [hN]; exact c3.2
    clear c0 c1 c2 c3 k1 k1b k1c k2 k2b k3
    rw [hW1, hW2, hW3, hW4, hN]
    clear hW1 hW2 hW3 hW4 s1 s2 s3
    refine range_box (m := 7) (by decide) (gf := 72) (lb := #[.pointer (some ⟨N + 1 + 1, 0, none⟩), .pointer (some ⟨N + 1, 0, none⟩), .pointer (some ⟨N + 1 + 2, 0, none⟩)]) rfl (enters_of Tryz.func72 (by kernel_rfl) rfl)
      (encs := fun x : S8 => #[.string (mkS x)]) (fun _ => rfl) (b := N + 1) (by omega) (split_seq 6 (by decide) (N + 1 + 1) (N + 1) (N + 1 + 2) l W4 (by omega) (by omega) (by omega) (by omega) (by omega) hbx hl)
      (fun pre A => pre.all okN = true ∧ InvG w W4.heap.size A) (fun pre A => pre.all okN = false ∧ InvG w W4.heap.size A)
      (by have := InvG.bears w W4.heap.size W4.heap.size (by omega) (fun pre => pre.all okN = true); rw [hN] at this; exact this)
      (fun pre A k o hk hlt h => ⟨h.1, h.2.below (below_put o hk hlt) (by omega)⟩)
      ⟨rfl, inv0⟩
      (fun x => { tmps := #[.string (mkS l), undef, .pointer (some ⟨N, 0, none⟩), .string (mkS x), .string (mkS l), .int .i64 (l.length : Int), .bool false, .string (mkS l), .func (.func 72) #[] #[.pointer (some ⟨N + 1 + 1, 0, none⟩), .pointer (some ⟨N + 1, 0, none⟩), .pointer (some ⟨N + 1 + 2, 0, none⟩)], .string (mkS x), undef, undef, undef], defers := [] }) ?assign ?body ?done ?stop
    case assign =>
      intro L x A K hK
      gi_wp2
      exact hK
    case body =>
      rintro L pre x A ⟨hp, hinv⟩
      have hlt := hinv.lt
      have HP := Lib.hid hp
      have HINV := Lib.hid hinv
      have HC := Lib.hid (isName_any x A)
      clear hp
      generalize hgx : okN x = g at *
      have HGX := Lib.hid hgx
      clear hgx
      cases g with
      | true =>
        clear hinv
        gi_wp2_with (refine ⟨trivial, ?_⟩; gi_at_call 52; refine (CallsIn.inRound L (callsIn_wide.2 HC.out)).mono ?_; rintro e w2 ⟨rfl, hB2⟩; have HB2 := Lib.hid hB2; clear hB2)
        exact ⟨others_below HB2.out, HB2.out.mono HINV.out.2.2.2, ⟨by rw [List.all_append, HP.out]; simp [HGX.out], HINV.out.below HB2.out hlt⟩⟩
      | false =>
        gi_wp2_with (refine ⟨trivial, ?_⟩; gi_at_call 52; refine (CallsIn.inRound L (callsIn_wide.2 HC.out)).mono ?_; rintro e w2 ⟨rfl, hB2⟩; have hinv2 := hinv.below hB2 hlt; have hcr := hinv2.1; have hfr := hinv2.2.1; rw [hN] at hcr hfr; have HB2 := Lib.hid hB2; have HI2 := Lib.hid hinv2; clear hB2 hinv2 hinv)
        refine ⟨(others_below HB2.out).trans (KeepsOthers.setCell _ _ _), ⟨by rw [List.all_append, HP.out]; simp [HGX.out], ?_, ?_, ?_, ?_⟩⟩
        · rw [hN]; exact World.cell?_setCell_same' _ _ _ (by rw [hcr]; rfl)
        · rw [World.frozen?_setCell]; exact HI2.out.2.1
        · exact HI2.out.2.2.1.setCell (p := ⟨N, 0, none⟩) (by rw [hN]; simp) _
        · exact Nat.le_trans HI2.out.2.2.2 (KeepsOthers.setCell _ _ _).size
    case done =>
      rintro D A hD ⟨hp, hinv⟩ hK
      have hcr := hinv.1
      have hfr := hinv.2.1
      rw [hN] at hcr hfr
      gi_wp2
      have hK' := (KeepsOthers.setCell A ⟨N, 0, none⟩ (.bool true)).same D _ hK rfl
      refine ⟨by simp, .inl ⟨_, _, rfl, run_takeDeferred hK', ?_⟩⟩
      have hc5 := cell_kept (World.cell?_setCell_same' A ⟨N, 0, none⟩ (.bool true) (by rw [hcr]; rfl)) (grownBy_putObj' _ D (.deferred none)) (fun r e => by cases e; exact ⟨_, hK', rfl⟩)
      refine ⟨.bool true, ?_, by rw [HG.out]; exact congrArg _ (congrArg _ hp.symm), (hinv.2.2.1.setCell (p := ⟨N, 0, none⟩) (by rw [hN]; simp) _).trans (below_put _ (by omega) (Array.getElem?_eq_some_iff.1 hK').1)⟩
      simp [results, Tryz.f38, go_sem, hc5]
    case stop =>
      rintro D pre A hD hpre ⟨hp, hinv⟩ hK
      have hcr := hinv.1
      rw [hN] at hcr
      gi_wp2
      refine ⟨by simp, .inl ⟨_, _, rfl, run_takeDeferred hK, ?_⟩⟩
      have hc5 := cell_kept hcr (grownBy_putObj' _ D (.deferred none)) (fun r e => by cases e; exact ⟨_, hK, rfl⟩)
      refine ⟨.bool false, ?_, by rw [HG.out, all_pre hpre hp], hinv.2.2.1.trans (below_put _ (by omega) (Array.getElem?_eq_some_iff.1 hK).1)⟩
      simp [results, Tryz.f38, go_sem, hc5]
end Go.Proofs.YtjglgohchhdkkaaGreatDoor
/- Remove, Rename of the program's disk. -/
namespace Go.Proofs.YtjglgohchhdkkaaGreatDoor
open Go Go.RowKit

/-- What a call leaves behind. -/
def DPost (S : Nat → Prop) (b : Nat) (w : World) (m : Dk) (w' : World) : Prop := (∃ mv md pv vs sl, Dp w' (SN S w.heap.size w'.heap.size) b m mv md pv vs sl) ∧ Kq8 S w w'
section
variable {w w' w2 w3 : World} {S S' : Nat → Prop} {b : Nat} {m : Dk} {mv md : Nat} {pv : Value} {vs : List Value} {sl : Nat → Hn}
theorem SN.low {N M : Nat} (hl : ∀ k, S k → k < N) (hNM : N ≤ M) : ∀ k, SN S N M k → k < M := fun k hk => by
  rcases hk with x | x
  · exact Nat.lt_of_lt_of_le (hl k x) hNM
  · exact x.2
theorem Dp.wide (h : Dp w S b m mv md pv vs sl) (hB : Below w.heap.size w w') : Dp w' (SN S w.heap.size w'.heap.size) b m mv md pv vs sl :=
  h.keep (fun k hk => hB.block k (h.low k hk)) (fun k hk => .inl hk) (SN.low h.low hB.size)
theorem DPost.same (h : Dp w S b m mv md pv vs sl) (hB : Below w.heap.size w w') : DPost S b w m w' := ⟨⟨mv, md, pv, vs, sl, h.wide hB⟩, Kq8.of_below hB⟩
theorem SN.join {N M K : Nat} (h1 : N ≤ M) (h2 : M ≤ K) (k : Nat) (h : SN (SN S N M) M K k) : SN S N K k := by
  rcases h with (x | x) | x
  · exact .inl x
  · exact .inr ⟨x.1, Nat.lt_of_lt_of_le x.2 h2⟩
  · exact .inr ⟨Nat.le_trans h1 x.1, x.2⟩
theorem DPost.after (hB : Below w.heap.size w w2) (hl : ∀ k, S k → k < w.heap.size) (h : DPost (SN S w.heap.size w2.heap.size) b w2 m w3) : DPost S b w m w3 := by
  obtain ⟨⟨mv, md, pv, vs, sl, hd⟩, hk⟩ := h
  refine ⟨⟨mv, md, pv, vs, sl, hd.keep (fun _ _ => rfl) (fun k hk2 => SN.join hB.size hk.size k hk2) (SN.low hl (Nat.le_trans hB.size hk.size))⟩, ?_⟩
  exact ⟨hk.os.trans hB.os, hk.tape.trans hB.tape, hk.output.trans hB.output, Nat.le_trans hB.size hk.size, fun k hk1 hn => by
    rw [hk.block k (Nat.lt_of_lt_of_le hk1 hB.size) (fun x => by rcases x with x | x; exact hn x; omega)]
    exact hB.block k hk1⟩
theorem ClsV.of_below {c : Ch} {v : Value} (h : ClsV w S sl c v) (hl : ∀ k, S k → k < w.heap.size) (hB : Below w.heap.size w w') (hS : ∀ k, S k → S' k) : ClsV w' S' sl c v :=
  h.keep (fun k T cs hs _ _ => hB.block k (hl k hs)) hS
set_option maxRecDepth 100000 in
set_option maxHeartbeats 4000000 in
theorem remove_any (h : Dp w S b m mv md pv vs sl) (hok : DkOk 300 m) (p : S8) (hp : p.length ≤ 1000) : Calls Tryz.prog 19 #[.pointer (some ⟨b, 0, none⟩), .string (mkS p)] w fun e w' => e = .returned (.int .i64 ((removeL m p).2 : Int)) ∧ DPost S b w (removeL m p).1 w' := by
  have c2 := h.cell 2
  simp at c2
  have H := Lib.hid h
  have HOK := Lib.hid hok
  cases hf : findL m.seen p with
  | none =>
    have hl := look_none h.vis hf
    have HR := Lib.hid (show removeL m p = (m, 8) by unfold removeL; rw [hf]; rfl)
    have HB := Lib.hid ((Below.refl w.heap.size w).alloc (Nat.le_refl _) (.cells #[.int .i64 0, .int .i64 0, .int .i64 0, .slice none 0 0] 74))
    clear h hf hok
    go_enter Tryz.func19, Tryz.ntmps19
    go_wp2
    go_ret
    rw [HR.out]
    exact ⟨rfl, DPost.same H.out HB.out⟩
  | some i =>
    obtain ⟨x, hx⟩ : ∃ x, m.seen.getD i fl0 = x := ⟨_, rfl⟩
    have hl := look_some h.vis hf x hx
    have HR := Lib.hid (show removeL m p = (changeL m ⟨3, p, fl0⟩, 0) by unfold removeL; rw [hf]; rfl)
    have hB := ((Below.refl w.heap.size w).alloc (Nat.le_refl _) (.cells #[.int .i64 x.size, .int .i64 x.time, .int .i64 x.chg, .slice (sl x.body).q (sl x.body).n (sl x.body).c] 74))
    have HB := Lib.hid hB
    have HMK := Lib.hid (removing_any p (w.alloc (.cells #[.int .i64 x.size, .int .i64 x.time, .int .i64 x.chg, .slice (sl x.body).q (sl x.body).n (sl x.body).c] 74)) (by omega))
    have HSZ := Lib.hid (World.size_alloc w (.cells #[.int .i64 x.size, .int .i64 x.time, .int .i64 x.chg, .slice (sl x.body).q (sl x.body).n (sl x.body).c] 74))
    clear h hf hok hB hx
    go_enter Tryz.func19, Tryz.ntmps19
    go_wp2_with fail
    refine HMK.out.mono ?_
    rintro e w2 ⟨rfl, hbx, hB2⟩
    have hB3 := HB.out.trans (hB2.mono HB.out.size)
    have hw2 := H.out.wide hB3
    have hcl : ClsV w2 (SN S w.heap.size w2.heap.size) sl ⟨3, p, fl0⟩ (.func (.func 55) #[] #[.pointer (some ⟨(w.alloc (.cells #[.int .i64 x.size, .int .i64 x.time, .int .i64 x.chg, .slice (sl x.body).q (sl x.body).n (sl x.body).c] 74)).heap.size, 0, none⟩)]) :=
      .remove _ rfl rfl hbx (.inr ⟨by rw [HSZ.out]; omega, hbx.lt⟩)
    have HDO := Lib.hid (do_any hw2 HOK.out hcl (by show ([] : S8).length < _; decide) (fun e => by cases e))
    have HB3 := Lib.hid hB3
    clear hB2 hB3 hw2 hcl hbx HMK
    rw [HSZ.out] at HDO
    rw [HSZ.out]
    go_wp2_with fail
    refine HDO.out.mono ?_
    rintro e w3 ⟨rfl, ⟨pv2, vs2, hd⟩, hk⟩
    have HP := Lib.hid (DPost.after HB3.out H.out.low (m := changeL m ⟨3, p, fl0⟩) ⟨⟨_, _, _, _, _, hd⟩, hk⟩)
    clear hd hk HDO
    go_wp2
    go_ret
    rw [HR.out]
    exact ⟨rfl, HP.out⟩
set_option maxRecDepth 100000 in
set_option maxHeartbeats 4000000 in
theorem rename_any (h : Dp w S b m mv md pv vs sl) (hok : DkOk 300 m) (p q : S8) (hp : p.length ≤ 1000) (hq : q.length ≤ 1000) : Calls Tryz.prog 17 #[.pointer (some ⟨b, 0, none⟩), .string (mkS p), .string (mkS q)] w fun e w' => e = .returned (.int .i64 ((renameL m p q).2 : Int)) ∧ DPost S b w (renameL m p q).1 w' := by
  have c2 := h.cell 2
  simp at c2
  have H := Lib.hid h
  have HOK := Lib.hid hok
  cases hf : findL m.seen p with
  | none =>
    have hl := look_none h.vis hf
    have HR := Lib.hid (show renameL m p q = (m, 8) by unfold renameL; rw [hf]; rfl)
    have HB := Lib.hid ((Below.refl w.heap.size w).alloc (Nat.le_refl _) (.cells #[.int .i64 0, .int .i64 0, .int .i64 0, .slice none 0 0] 74))
    clear h hf hok
    go_enter Tryz.func17, Tryz.ntmps17
    go_wp2
    go_ret
    rw [HR.out]
    exact ⟨rfl, DPost.same H.out HB.out⟩
  | some i =>
    obtain ⟨x, hx⟩ : ∃ x, m.seen.getD i fl0 = x := ⟨_, rfl⟩
    have hl := look_some h.vis hf x hx
    have HR := Lib.hid (show renameL m p q = if !goodL q then (m, 7) else if clashesL m.seen q p then (m, 9) else (changeL m ⟨2, p, { fl0 with p := q }⟩, 0) by unfold renameL; rw [hf]; rfl)
    have hB := ((Below.refl w.heap.size w).alloc (Nat.le_refl _) (.cells #[.int .i64 x.size, .int .i64 x.time, .int .i64 x.chg, .slice (sl x.body).q (sl x.body).n (sl x.body).c] 74))
    have HB := Lib.hid hB
    have HPL := Lib.hid (And.intro hp hq)
    have HGD := Lib.hid (good_any q (w.alloc (.cells #[.int .i64 x.size, .int .i64 x.time, .int .i64 x.chg, .slice (sl x.body).q (sl x.body).n (sl x.body).c] 74)) (by omega))
    clear h hf hok hB hx hp hq
    cases hgd : goodL q with
    | false =>
      rw [hgd] at HGD
      have HE := Lib.hid (show renameL m p q = (m, 7) by rw [HR.out, hgd]; rfl)
      clear hgd HR
      go_enter Tryz.func17, Tryz.ntmps17
      go_wp2_with fail
      refine HGD.out.mono ?_
      rintro e w2 ⟨rfl, hB2⟩
      have HB3 := Lib.hid (HB.out.trans (hB2.mono HB.out.size))
      clear hB2
      go_wp2
      go_ret
      rw [HE.out]
      exact ⟨rfl, DPost.same H.out HB3.out⟩
    | true =>
      rw [hgd] at HGD
      have HR2 := Lib.hid (show renameL m p q = if clashesL m.seen q p then (m, 9) else (changeL m ⟨2, p, { fl0 with p := q }⟩, 0) by rw [HR.out, hgd]; rfl)
      clear hgd HR
      go_enter Tryz.func17, Tryz.ntmps17
      go_wp2_with fail
      refine HGD.out.mono ?_
      rintro e w2 ⟨rfl, hB2⟩
      have hB3 := HB.out.trans (hB2.mono HB.out.size)
      have HB3 := Lib.hid hB3
      have hw2 := H.out.of_below hB3
      have c22 := hw2.cell 2
      simp at c22
      have HCL := Lib.hid (clashes_any hw2.vis HOK.out.shS q p (by have := HPL.out.2; omega))
      clear hB2 c2 hl HGD hB3 hw2
      cases hcl : clashesL m.seen q p with
      | true =>
        rw [hcl] at HCL
        have HE := Lib.hid (show renameL m p q = (m, 9) by rw [HR2.out, hcl]; rfl)
        clear hcl HR2
        go_wp2_with fail
        refine HCL.out.mono ?_
        rintro e w4 ⟨rfl, hB4⟩
        have HB4 := Lib.hid (HB3.out.trans (hB4.mono HB3.out.size))
        clear hB4
        go_wp2
        go_ret
        rw [HE.out]
        exact ⟨rfl, DPost.same H.out HB4.out⟩
      | false =>
        rw [hcl] at HCL
        have HE := Lib.hid (show renameL m p q = (changeL m ⟨2, p, { fl0 with p := q }⟩, 0) by rw [HR2.out, hcl]; rfl)
        clear hcl HR2
        go_wp2_with fail
        refine HCL.out.mono ?_
        rintro e w4 ⟨rfl, hB4⟩
        have HB4 := Lib.hid (HB3.out.trans (hB4.mono HB3.out.size))
        have HMK := Lib.hid (renaming_any p q w4 (by have := HPL.out.1; omega) (by have := HPL.out.2; omega))
        clear hB4 c22 HCL
        go_wp2_with fail
        refine HMK.out.mono ?_
        rintro e w5 ⟨rfl, hb1, hb2, hB5⟩
        have hB6 := HB4.out.trans (hB5.mono HB4.out.size)
        have hw5 := H.out.wide hB6
        have hcl : ClsV w5 (SN S w.heap.size w5.heap.size) sl ⟨2, p, { fl0 with p := q }⟩ (.func (.func 54) #[] #[.pointer (some ⟨w4.heap.size, 0, none⟩), .pointer (some ⟨w4.heap.size + 1, 0, none⟩)]) :=
          .rename _ _ rfl rfl hb1 hb2 (.inr ⟨HB4.out.size, hb1.lt⟩) (.inr ⟨Nat.le_succ_of_le HB4.out.size, hb2.lt⟩)
        have HDO := Lib.hid (do_any hw5 HOK.out hcl (by show q.length < _; have := HPL.out.2; omega) (fun e => by cases e))
        have HB6 := Lib.hid hB6
        clear hB5 hB6 hw5 hcl hb1 hb2 HMK
        go_wp2_with fail
        refine HDO.out.mono ?_
        rintro e w6 ⟨rfl, ⟨pv2, vs2, hd⟩, hk⟩
        have HP := Lib.hid (DPost.after HB6.out H.out.low (m := changeL m ⟨2, p, { fl0 with p := q }⟩) ⟨⟨_, _, _, _, _, hd⟩, hk⟩)
        clear hd hk HDO
        go_wp2
        go_ret
        rw [HE.out]
        exact ⟨rfl, HP.out⟩
end
end Go.Proofs.YtjglgohchhdkkaaGreatDoor
