/- strings.IndexFunc and strings.ContainsFunc at any function that holds of all runes from 128 on. -/
import Derived.Test.YtcgilacmdckbfaaDoorStr7
import Derived.OwnWalk
import Derived.Lib.Hide
import Derived.Lib.OthersKept
import Derived.Laws.RangeAny
set_option linter.unusedSimpArgs false
set_option maxRecDepth 100000
set_option linter.unusedVariables false
namespace Go.Proofs.YtcgilacmdckbfaaDoor
open Go Go.RowKit

/-- The function value answers whether P holds, at every rune, as long as what lay below N stands as in w0. -/
def Tells (N : Nat) (w0 : World) (g : Nat) (caps : Array Value) (P : Nat → Bool) : Prop := ∀ (r : Nat) (u : World), r ≤ 2147483647 → Below N w0 u → Calls Tryd.prog g (#[.int .i32 (r : Int)] ++ caps) u fun e w' => e = .returned (.bool (P r)) ∧ Below u.heap.size u w'
theorem below_iter {N k : Nat} {w x : World} {s : ByteArray} {pos : Nat} (h : Below N w x) (hk : N ≤ k) (hlt : k < x.heap.size) : Below N w (x.iterAt k s pos) :=
  ⟨h.os, h.tape, h.output, by rw [Lib.iterAt_size]; exact h.size, fun j hj => by rw [Lib.iterAt_other _ _ _ _ _ (by omega)]; exact h.block j hj⟩
set_option maxRecDepth 100000 in
set_option maxHeartbeats 1000000 in
theorem indexFunc_any (N : Nat) (w0 : World) (g : Nat) (caps : Array Value) (P : Nat → Bool) (hent : ∀ args w, (callFunc g args).run Tryd.prog w = .ok (.enter g args) w) (hT : Tells N w0 g caps P) (hP : ∀ r, 128 ≤ r → P r = true) (l : S8) (u : World) (hN : N ≤ u.heap.size) (hB0 : Below N w0 u) :
    Calls Tryd.prog 91 #[.string (mkS l), .func (.func g) #[] caps, .bool true] u fun e w' => (∃ i : Int, e = .returned (.int .i64 i) ∧ -1 ≤ i ∧ (0 ≤ i ↔ l.any (fun c => P c.toNat) = true)) ∧ Below u.heap.size u w' := by
  obtain ⟨s, hs⟩ : ∃ s, mkS l = s := ⟨_, rfl⟩
  have hsz : s.size = l.length := by rw [← hs, mkS_size]
  have hget : ∀ i (h : i < s.size), (s[i]).toNat = chr l i := by subst hs; exact fun i h => mkS_get l i h
  rw [hs]
  have HSZ := Lib.hid hsz
  have HGET := Lib.hid hget
  have HT := Lib.hid (fun (r : Nat) (x : World) (hr : r ≤ 2147483647) (hx : Below u.heap.size u x) => hT r x hr (hB0.trans (hx.mono hN)))
  have HP := Lib.hid hP
  clear hs hsz hget hT hP hB0 hN
  go_enter Tryd.func91, Tryd.ntmps91
  go_wp2
  go_loopw [7, 8] (fun va vb wr => ∃ pos : Nat, wr.heap[u.heap.size]? = some (.stringIter s pos) ∧ pos ≤ l.length ∧ (∀ j, j < pos → P (chr l j) = false) ∧ Below u.heap.size u wr) (fun va vb wr => l.length - wr.iterPos u.heap.size)
  case atStart => exact ⟨0, World.iter_heap _ _ _, Nat.zero_le _, fun j h => absurd h (by omega), (Below.refl _ _).alloc (Nat.le_refl _) _⟩
  case round =>
    obtain ⟨pos, hk, hle, hno, hB⟩ := hrel
    have HK := Lib.hid hk
    have HNO := Lib.hid hno
    have HB := Lib.hid hB
    have hlt := (Array.getElem?_eq_some_iff.1 hk).1
    by_cases hp : pos < s.size
    · have hpl : pos < l.length := by rw [← HSZ.out]; exact hp
      have hch := HGET.out pos hp
      obtain ⟨c, hc⟩ : ∃ c, chr l pos = c := ⟨_, rfl⟩
      rw [hc] at hch
      have hci : (l[pos]).toNat = c := by rw [← chr_eq hpl]; exact hc
      have hin : P c = true → l.any (fun c => P c.toNat) = true := fun h => by rw [List.any_eq_true]; exact ⟨l[pos], List.getElem_mem hpl, by rw [hci]; exact h⟩
      have HIN := Lib.hid hin
      by_cases ha : c < 128
      · have hnx : ∀ ty, (Instr.next (.pointer (some ⟨u.heap.size, 0, none⟩)) true ty).run Tryd.prog wr = .ok (.tuple #[.bool true, .int .i64 pos, .int .i32 (c : Int)]) (wr.iterAt u.heap.size s (pos + 1)) := fun ty => by
          rw [Lib.run_next_ascii_at wr u.heap.size s pos ty hk hp (by rw [hch]; exact ha), hch]
        have hB2 := below_iter (s := s) (pos := pos + 1) hB (Nat.le_refl _) hlt
        have hk2 := Lib.iterAt_heap wr u.heap.size s pos (pos + 1) hk
        generalize wr.iterAt u.heap.size s (pos + 1) = x at *
        have HB2 := Lib.hid hB2
        have HK2 := Lib.hid hk2
        have HC := Lib.hid (HT.out c x (by omega) HB2.out)
        have HIP := Lib.hid (iterPos_of hk)
        have HPL := Lib.hid hpl
        cases hPc : P c with
        | true =>
          rw [hPc] at HC
          have HI := Lib.hid (HIN.out hPc)
          clear hPc hin hno hB hk hB2 hk2 hci hch hc
          go_wp2_with (refine HC.out.mono ?_; rintro e x2 ⟨rfl, hB3⟩; have HB3 := Lib.hid (HB2.out.trans (hB3.mono HB2.out.size)); clear hB3)
          go_ret
          exact ⟨⟨_, rfl, by omega, fun _ => HI.out, fun _ => by omega⟩, HB3.out⟩
        | false =>
          rw [hPc] at HC
          have HNN := Lib.hid (show ∀ j, j < pos + 1 → P (chr l j) = false from fun j h => by
            rcases Nat.lt_succ_iff_lt_or_eq.1 h with h | h
            · exact HNO.out j h
            · rw [h, hc]; exact hPc)
          clear hPc hin hno hB hk hB2 hk2 hci hch hc
          go_wp2_with (refine HC.out.mono ?_; rintro e x2 ⟨rfl, hB3⟩; have HB3 := Lib.hid (HB2.out.trans (hB3.mono HB2.out.size)); have HK3 := Lib.hid (show x2.heap[u.heap.size]? = some (.stringIter s (pos + 1)) from by rw [hB3.block _ (Array.getElem?_eq_some_iff.1 HK2.out).1]; exact HK2.out); clear hB3)
          exact ⟨⟨pos + 1, HK3.out, by have := HPL.out; omega, HNN.out, HB3.out⟩, by rw [iterPos_of HK3.out, HIP.out]; have := HPL.out; omega⟩
      · have ha2 : 128 ≤ (s[pos]).toNat := by rw [hch]; omega
        have hd := (decode_high s pos hp ha2).1
        have hdl := decode_le s pos
        obtain ⟨r, hr⟩ : ∃ r, (Utf8.decode s pos).1 = r := ⟨_, rfl⟩
        obtain ⟨d, hdd⟩ : ∃ d, pos + (Utf8.decode s pos).2 = d := ⟨_, rfl⟩
        rw [hr] at hd hdl
        have hnx : ∀ ty, (Instr.next (.pointer (some ⟨u.heap.size, 0, none⟩)) true ty).run Tryd.prog wr = .ok (.tuple #[.bool true, .int .i64 pos, .int .i32 (r : Int)]) (wr.iterAt u.heap.size s d) := fun ty => by
          rw [Lib.run_next_any_at wr u.heap.size s pos ty hk hp, hr, hdd]
        have hB2 := below_iter (s := s) (pos := d) hB (Nat.le_refl _) hlt
        generalize wr.iterAt u.heap.size s d = x at *
        have HB2 := Lib.hid hB2
        have HC := Lib.hid (HT.out r x hdl HB2.out)
        rw [HP.out r hd] at HC
        have HI := Lib.hid (HIN.out (HP.out c (by omega)))
        clear hin hno hB hk hB2 hci hch hc hr hdd ha2 hdl
        go_wp2_with (refine HC.out.mono ?_; rintro e x2 ⟨rfl, hB3⟩; have HB3 := Lib.hid (HB2.out.trans (hB3.mono HB2.out.size)); clear hB3)
        go_ret
        exact ⟨⟨_, rfl, by omega, fun _ => HI.out, fun _ => by omega⟩, HB3.out⟩
    · have hnx : ∀ ty, (Instr.next (.pointer (some ⟨u.heap.size, 0, none⟩)) true ty).run Tryd.prog wr = .ok (.tuple #[.bool false]) wr := fun ty => Lib.run_next_end_at wr u.heap.size s pos ty hk hp
      have HI := Lib.hid (show l.any (fun c => P c.toNat) = false from by
        rw [List.any_eq_false]
        intro c hc
        obtain ⟨j, hj, rfl⟩ := List.getElem_of_mem hc
        have := hno j (by rw [HSZ.out] at hp; omega)
        rw [chr_eq hj] at this
        simp [this])
      clear hno hB hk
      go_wp2
      go_ret
      exact ⟨⟨_, rfl, by decide, fun h => absurd h (by decide), fun h => by rw [HI.out] at h; cases h⟩, HB.out⟩
set_option maxHeartbeats 1000000 in
theorem IndexFunc_any (N : Nat) (w0 : World) (g : Nat) (caps : Array Value) (P : Nat → Bool) (hent : ∀ args w, (callFunc g args).run Tryd.prog w = .ok (.enter g args) w) (hT : Tells N w0 g caps P) (hP : ∀ r, 128 ≤ r → P r = true) (l : S8) (u : World) (hN : N ≤ u.heap.size) (hB0 : Below N w0 u) :
    Calls Tryd.prog 85 #[.string (mkS l), .func (.func g) #[] caps] u fun e w' => (∃ i : Int, e = .returned (.int .i64 i) ∧ -1 ≤ i ∧ (0 ≤ i ↔ l.any (fun c => P c.toNat) = true)) ∧ Below u.heap.size u w' := by
  have HC := Lib.hid (indexFunc_any N w0 g caps P hent hT hP l u hN hB0)
  clear hent hT hP hB0 hN
  go_enter Tryd.func85, Tryd.ntmps85
  go_wp2_with fail
  refine HC.out.mono ?_
  rintro e w2 ⟨⟨i, rfl, h1, h2⟩, hB⟩
  have HX := Lib.hid (And.intro h1 (And.intro h2 hB))
  clear h1 h2 hB HC
  go_wp2
  go_ret
  exact ⟨⟨i, rfl, HX.out.1, HX.out.2.1⟩, HX.out.2.2⟩
set_option maxHeartbeats 1000000 in
theorem ContainsFunc_any (N : Nat) (w0 : World) (g : Nat) (caps : Array Value) (P : Nat → Bool) (hent : ∀ args w, (callFunc g args).run Tryd.prog w = .ok (.enter g args) w) (hT : Tells N w0 g caps P) (hP : ∀ r, 128 ≤ r → P r = true) (l : S8) (u : World) (hN : N ≤ u.heap.size) (hB0 : Below N w0 u) :
    Calls Tryd.prog 78 #[.string (mkS l), .func (.func g) #[] caps] u fun e w' => e = .returned (.bool (l.any (fun c => P c.toNat))) ∧ Below u.heap.size u w' := by
  have HC := Lib.hid (IndexFunc_any N w0 g caps P hent hT hP l u hN hB0)
  clear hent hT hP hB0 hN
  go_enter Tryd.func78, Tryd.ntmps78
  go_wp2_with fail
  refine HC.out.mono ?_
  rintro e w2 ⟨⟨i, rfl, h1, h2⟩, hB⟩
  have HB := Lib.hid hB
  clear hB HC
  by_cases h : 0 ≤ i
  · have HA := Lib.hid (h2.1 h)
    have hd : decide (0 ≤ i) = true := decide_eq_true h
    clear h2
    go_wp2
    go_ret
    exact ⟨by rw [HA.out]; rfl, HB.out⟩
  · have HA := Lib.hid (show l.any (fun c => P c.toNat) = false from by
      cases hh : l.any (fun c => P c.toNat) with
      | true => exact absurd (h2.2 hh) h
      | false => rfl)
    have hd : decide (0 ≤ i) = false := decide_eq_false h
    clear h2
    go_wp2
    go_ret
    exact ⟨by rw [HA.out]; rfl, HB.out⟩
end Go.Proofs.YtcgilacmdckbfaaDoor
