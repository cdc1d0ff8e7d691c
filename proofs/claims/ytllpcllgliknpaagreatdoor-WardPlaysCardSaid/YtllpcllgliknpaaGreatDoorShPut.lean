/- Bytes appended to a hash. -/
import Derived.Test.YtllpcllgliknpaaGreatDoorShMix
set_option linter.unusedSimpArgs false
set_option maxRecDepth 100000
set_option linter.unusedVariables false
namespace Go.Proofs.YtllpcllgliknpaaGreatDoor.Sha
open Go Go.RowKit

theorem Kt.of_kp {b : Nat} {w w' : World} (h : Kt w) (k : Kp b w w') (hb : 1 < b) : Kt w' := fun t ht => by
  have := h t ht
  rw [k.cell (World.block_lt_of_cell? w _ this) (by show 1 ≠ b; omega)]; exact this
/-- The hash that lies in block b has taken the bytes l. -/
def Holds (w : World) (b : Nat) (T : TypeId) (l : List (BitVec 8)) : Prop :=
  ∃ m, Blk w b T (hB l (l.length / 64)).get m l.length ∧ ∀ j, j < l.length % 64 → m j = l.getD (64 * (l.length / 64) + j) 0#8
theorem Holds.of_kp {w w' : World} {b c : Nat} {T : TypeId} {l : List (BitVec 8)} (h : Holds w b T l) (k : Kp c w w') (hc : b ≠ c) : Holds w' b T l :=
  let ⟨m, h1, h2⟩ := h; ⟨m, h1.of_kp k hc, h2⟩
theorem Holds.of_below {w w' : World} {b : Nat} {T : TypeId} {l : List (BitVec 8)} (h : Holds w b T l) (k : Below w.heap.size w w') : Holds w' b T l :=
  let ⟨m, h1, h2⟩ := h; ⟨m, h1.of_below k, h2⟩
theorem Holds.lt {w : World} {b : Nat} {T : TypeId} {l : List (BitVec 8)} (h : Holds w b T l) : b < w.heap.size := let ⟨_, h1, _⟩ := h; h1.lt

theorem getD_snoc_lt {α : Type} (l : List α) (x d : α) (i : Nat) (h : i < l.length) : (l ++ [x]).getD i d = l.getD i d := by
  simp [List.getD_eq_getElem?_getD, List.getElem?_append_left h]
theorem getD_snoc_eq {α : Type} (l : List α) (x d : α) : (l ++ [x]).getD l.length d = x := by
  simp [List.getD_eq_getElem?_getD]

/-- The block's bytes behind one byte more. -/
theorem byte_step (l : List (BitVec 8)) (x : BitVec 8) (m : Nat → BitVec 8) (hm : ∀ j, j < l.length % 64 → m j = l.getD (64 * (l.length / 64) + j) 0#8) (j : Nat) (hj : j < l.length % 64 + 1) :
    (if j = l.length % 64 then x else m j) = (l ++ [x]).getD (64 * (l.length / 64) + j) 0#8 := by
  by_cases e : j = l.length % 64
  · rw [if_pos e, e]
    have : 64 * (l.length / 64) + l.length % 64 = l.length := by omega
    rw [this, getD_snoc_eq]
  · rw [if_neg e, hm j (by omega), getD_snoc_lt _ _ _ _ (by omega)]
theorem Holds.part {w : World} {b : Nat} {T : TypeId} {l : List (BitVec 8)} {x : BitVec 8} {m : Nat → BitVec 8} (h : Blk w b T (hB l (l.length / 64)).get (fun j => if j = l.length % 64 then x else m j) (l.length + 1))
    (hm : ∀ j, j < l.length % 64 → m j = l.getD (64 * (l.length / 64) + j) 0#8) (hn : (l.length + 1) % 64 ≠ 0) : Holds w b T (l ++ [x]) := by
  have e1 : (l ++ [x]).length = l.length + 1 := by simp
  have e2 : (l.length + 1) / 64 = l.length / 64 := by omega
  have e3 : (l.length + 1) % 64 = l.length % 64 + 1 := by omega
  refine ⟨fun j => if j = l.length % 64 then x else m j, ?_, ?_⟩
  · rw [e1, e2, hB_append _ _ _ (by omega)]; exact h
  · intro j hj
    rw [e1, e3] at hj
    rw [e1, e2]
    exact byte_step l x m hm j hj
theorem Holds.full {w : World} {b : Nat} {T : TypeId} {l : List (BitVec 8)} {x : BitVec 8} {m : Nat → BitVec 8} (h : Blk w b T (comp (hB l (l.length / 64)) fun j => if j = l.length % 64 then x else m j).get (fun j => if j = l.length % 64 then x else m j) (l.length + 1))
    (hm : ∀ j, j < l.length % 64 → m j = l.getD (64 * (l.length / 64) + j) 0#8) (hn : (l.length + 1) % 64 = 0) : Holds w b T (l ++ [x]) := by
  have e1 : (l ++ [x]).length = l.length + 1 := by simp
  have e2 : (l.length + 1) / 64 = l.length / 64 + 1 := by omega
  refine ⟨fun j => if j = l.length % 64 then x else m j, ?_, ?_⟩
  · rw [e1, e2, hB, hB_append _ _ _ (by omega)]
    rw [comp_congr (m' := fun j => if j = l.length % 64 then x else m j) (fun j hj => (byte_step l x m hm j (by omega)).symm)]
    exact h
  · intro j hj
    rw [e1, hn] at hj
    omega

/-- The bytes l lie where a slice of their length begins. -/
def Sl (w : World) (p : Option Addr) (l : List (BitVec 8)) : Prop := ∀ j, j < l.length → ∃ c o, p = some ⟨c, o, none⟩ ∧ w.cell? ⟨c, o + j, none⟩ = some (B (l.getD j 0#8))
theorem take_getD {α : Type} (l : List α) (d : α) (k : Nat) (h : k < l.length) : l.take (k + 1) = l.take k ++ [l.getD k d] := by
  rw [List.take_succ_eq_append_getElem h]
  simp [List.getD_eq_getElem?_getD, h]

set_option maxHeartbeats 1000000 in
theorem put_any (b : Nat) (T : TypeId) (l bs : List (BitVec 8)) (p : Option Addr) (cap : Nat) (w : World) (h : Holds w b T l) (hs : Sl w p bs) (hp : 0 < bs.length → ∀ a, p = some a → a.block ≠ b) (hk : Kt w) (hb : 1 < b)
    (hn : l.length + bs.length < 1000000000000000000) :
    Calls Tryz.prog 65 #[.pointer (some ⟨b, 0, none⟩), .slice p bs.length cap] w fun e w' => e = .returned (.tuple #[]) ∧ Holds w' b T (l ++ bs) ∧ Kp b w w' := by
  have H := Lib.hid h
  have HS := Lib.hid hs
  have HP := Lib.hid hp
  have HK := Lib.hid hk
  have hb1 := hb
  clear h hs hp hk
  go_enter Tryz.func65, Tryz.ntmps65
  go_wp2
  go_loopw [7] (fun i wr => ∃ k : Nat, k ≤ bs.length ∧ i = .int .i64 k ∧ Holds wr b T (l ++ bs.take k) ∧ Kp b w wr) (fun i _ => bs.length - (intOf i).toNat)
  case atStart => exact ⟨0, Nat.zero_le _, rfl, by simpa using H.out, Kp.refl _ _⟩
  case round =>
    obtain ⟨k, hk, rfl, hH, hKp⟩ := hrel
    by_cases hlt : k < bs.length
    · obtain ⟨c, o, rfl, hc⟩ := HS.out k hlt
      have hcb : c ≠ b := HP.out (by omega) _ rfl
      have hx : wr.cell? ⟨c, o + k, none⟩ = some (B (bs.getD k 0#8)) := by
        rw [hKp.cell (World.block_lt_of_cell? w _ hc) hcb]; exact hc
      obtain ⟨m, hB', hm⟩ := hH
      have hL : (l ++ bs.take k).length = l.length + k := by simp; omega
      have hTk := Lib.hid (take_getD bs 0#8 k hlt)
      generalize bs.getD k 0#8 = x at *
      generalize hLL : l ++ bs.take k = L at *
      have HLL := Lib.hid hLL
      have HL := Lib.hid hL
      generalize hnn : L.length = n at *
      have HN := Lib.hid hnn
      have HM := Lib.hid hm
      have HB' := Lib.hid hB'
      have HKp := Lib.hid hKp
      have h72 : wr.cell? ⟨b, 72, none⟩ = some (.int .i64 n) := hB'.len
      have hby : wr.cell? ⟨b, 8 + n % 64, none⟩ = some (B (m (n % 64))) := hB'.byte (n % 64) (by omega)
      have hfz : ∀ i, wr.frozen? ⟨b, i, none⟩ = false := hB'.free
      have h72' : ∀ v, (wr.setCell ⟨b, 8 + n % 64, none⟩ v).cell? ⟨b, 72, none⟩ = some (.int .i64 n) := fun v => by
        rw [World.cell?_setCell_other _ _ _ _ (by intro e; injection e; omega)]; exact h72
      have hr0 : (0 : Int) ≤ (n : Int) % 64 := by omega
      have hr1 : (n : Int) % 64 < 64 := by omega
      have hnb : (n : Int) < 1000000000000000000 := by omega
      clear hnn hL hLL hm hB' hKp hc hcb hb
      go_wp2
      refine wp_region_still_tail 13 (by kernel_rfl) (by kernel_rfl) ?_
      simp only [List.take_succ_cons, List.take_zero, List.drop_succ_cons, List.drop_zero, World.drew_eq]
      repeat (refine wpStill_step (fun K hK => ?_); go_simp; (try go_bits); refine hK _ ?_; clear hK K)
      try refine wpStill_nil ?_
      have hW : Blk ((wr.setCell ⟨b, 8 + n % 64, none⟩ (B x)).setCell ⟨b, 72, none⟩ (.int .i64 ((n : Int) + 1))).drew b T (hB L (n / 64)).get (fun j => if j = n % 64 then x else m j) (n + 1) := by
        have := (HB'.out.setByte (n % 64) (by omega) x).setLen (n + 1)
        rw [show ((n + 1 : Nat) : Int) = (n : Int) + 1 from rfl] at this
        exact this.drewN 1
      have hKp3 : Kp b w ((wr.setCell ⟨b, 8 + n % 64, none⟩ (B x)).setCell ⟨b, 72, none⟩ (.int .i64 ((n : Int) + 1))).drew := ((HKp.out.setCell _ _).setCell _ _).drewN 1
      have HW := Lib.hid hW
      have HKp3 := Lib.hid hKp3
      clear hW hKp3
      have fin : ∀ w2, Holds w2 b T (L ++ [x]) → Kp b w w2 → Holds w2 b T (l ++ bs.take (k + 1)) ∧ Kp b w w2 := fun w2 h1 h2 => by
        rw [hTk.out, ← List.append_assoc, HLL.out]; exact ⟨h1, h2⟩
      by_cases hz : (n + 1) % 64 = 0
      · have hzb : (((n : Int) + 1) % 64 == 0) = true := by simp; omega
        have Hz := Lib.hid hz
        clear hz
        go_wp2_with (go_at_call 79; refine (mix_any b T (hB L (n / 64)) _ (n + 1) _ HW.out (HK.out.of_kp HKp3.out hb1) hb1).mono ?_; rintro e w2 ⟨rfl, hM, hKp4⟩)
        have F := Lib.hid (fin w2 (Holds.full (by rw [HN.out]; exact hM) (by rw [HN.out]; exact HM.out) (by rw [HN.out]; exact Hz.out)) (HKp3.out.trans hKp4))
        clear fin hM hKp4
        go_roundw
        case rel => exact ⟨k + 1, by omega, by go_num, F.out⟩
        case measure => simp [intOf]; omega
      · have hzb : (((n : Int) + 1) % 64 == 0) = false := by simp; omega
        have F := Lib.hid (fin _ (Holds.part (by rw [HN.out]; exact HW.out) (by rw [HN.out]; exact HM.out) (by rw [HN.out]; exact hz)) HKp3.out)
        clear fin hz
        go_wp2
        go_roundw
        case rel => exact ⟨k + 1, by omega, by go_num, F.out⟩
        case measure => simp [intOf]; omega
    · have HH := Lib.hid hH
      have HKp := Lib.hid hKp
      have e : Hid (k = bs.length) := by show k = bs.length; omega
      clear hH hKp
      go_wp2
      go_end0
      refine ⟨rfl, ?_, HKp.out⟩
      have := HH.out
      rwa [e.out, List.take_length] at this
end Go.Proofs.YtllpcllgliknpaaGreatDoor.Sha
