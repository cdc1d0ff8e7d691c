/- The iterator over the blocks of bytes. -/
import Derived.Test.YtfemgkamgokjcaaGreatDoorRngP
import Derived.Test.YtfemgkamgokjcaaGreatDoorCuts
import Derived.Lib.Hide
import Derived.Lib.MinMax
set_option linter.unusedSimpArgs false
set_option maxRecDepth 100000
set_option linter.unusedVariables false
namespace Go.Proofs.YtfemgkamgokjcaaGreatDoor
open Go Go.RowKit Go.Shelf

attribute [local go_sem] Oper.semAt_some
/-- How many blocks so many bytes have; how long a block is; a block. -/
def nblk (n : Nat) : Nat := (n + 255) / 256
def blen (n i : Nat) : Nat := min (256 * i + 256) n - 256 * i
def blkL (l : List (BitVec 8)) (i : Nat) : List (BitVec 8) := (l.drop (256 * i)).take 256
/-- A block as a slice. -/
def blkS (q : Option Addr) (n i : Nat) : Value := .slice (q.map (·.add (256 * i))) (blen n i) (blen n i)
theorem blkL_len (l : List (BitVec 8)) (i : Nat) : (blkL l i).length = blen l.length i := by
  unfold blkL blen
  rw [List.length_take, List.length_drop]
  omega
theorem blkL_sl {w : World} {q : Option Addr} {l : List (BitVec 8)} (h : Sl w q l) (i : Nat) : Sl w (q.map (·.add (256 * i))) (blkL l i) := fun j hj => by
  have hj' : j < 256 ∧ 256 * i + j < l.length := by
    unfold blkL at hj
    rw [List.length_take, List.length_drop] at hj
    omega
  obtain ⟨c, o, e, hc⟩ := h (256 * i + j) hj'.2
  refine ⟨c, o + 256 * i, by rw [e]; show some ((⟨c, o, none⟩ : Addr).add (256 * i)) = _; rw [Addr.add_mid], ?_⟩
  rw [show o + 256 * i + j = o + (256 * i + j) by omega, hc]
  unfold blkL
  simp [List.getD_eq_getElem?_getD, List.getElem?_take, List.getElem?_drop, hj'.1]
theorem nblk_lt {n i : Nat} (h : i < nblk n) : 256 * i < n := by unfold nblk at h; omega
theorem count_any (n : Nat) (w : World) (hn : n < 100000000) : Calls Tryz.prog 41 #[.int .i64 (n : Int)] w fun e w' => e = .returned (.int .i64 (nblk n : Int)) ∧ w = w' := by
  have h1 : IntKind.i64.wrap ((n : Int) + 256) = (n : Int) + 256 := by rw [IntKind.wrap_i64]; omega
  have h2 : IntKind.i64.wrap ((n : Int) + 256 - 1) = (n : Int) + 255 := by rw [IntKind.wrap_i64]; omega
  have h3 : ((n : Int) + 255).tdiv 256 = (nblk n : Int) := by rw [Int.tdiv_eq_ediv_of_nonneg (by omega)]; unfold nblk; omega
  have h4 : IntKind.i64.wrap (nblk n : Int) = (nblk n : Int) := by unfold nblk; rw [IntKind.wrap_i64]; omega
  have h5 : ((n : Int) + 255) / 256 = (nblk n : Int) := by unfold nblk; omega
  generalize nblk n = k at *
  go_enter Tryz.func41, Tryz.ntmps41
  go_wp2
  go_ret
  exact ⟨rfl, rfl⟩
theorem blk_cut (q : Option Addr) (n cap i : Nat) (w : World) (hi : 256 * i < n) (hc : n ≤ cap) : (Instr.slice 35 (.slice q n cap) (some (.int .i64 ((i : Int) * 256))) (some (.int .i64 (min ((i : Int) * 256 + 256) (n : Int)))) (some (.int .i64 (min ((i : Int) * 256 + 256) (n : Int))))).run Tryz.prog w = .ok (blkS q n i) w := by
  have hm : min ((i : Int) * 256 + 256) (n : Int) = ((min (256 * i + 256) n : Nat) : Int) := by omega
  rw [hm, run_slice_lhm (P := Tryz.prog) w 35 q n cap und35 .i64 .i64 .i64 _ _ _ (by omega) (by omega) (by omega) (by omega), sizeB]
  have h1 : ((i : Int) * 256).toNat = 256 * i := by omega
  have h2 : (((min (256 * i + 256) n : Nat) : Int)).toNat = min (256 * i + 256) n := by omega
  simp only [Sem.run_bind, Result.andThen_ok, Sem.run_pure, sliced, h1, h2]
  unfold blkS blen
  rw [if_neg (by omega), Nat.mul_one]
set_option maxRecDepth 100000 in
set_option maxHeartbeats 2000000 in
theorem blocks_seq (m : Nat) (hm : 3 ≤ m) (bb : Nat) (q : Option Addr) (n cap : Nat) (w : World) (hb : w.cell? ⟨bb, 0, none⟩ = some (.slice q n cap)) (hn : n < 1000000) (hc : n ≤ cap) :
    SeqP m 115 #[.pointer (some ⟨bb, 0, none⟩)] (fun i : Nat => #[.int .i64 (i : Int), blkS q n i]) bb (List.range (nblk n)) w := by
  intro L J Jx A hA hJd hY h0
  have hm1 : 1 ≤ m := by omega
  have hbw := World.block_lt_of_cell? w _ hb
  have hbA : A.cell? ⟨bb, 0, none⟩ = some (.slice q n cap) := by rw [hA.cell (by exact hbw)]; exact hb
  have HC := Lib.hid (count_any n A (by omega))
  obtain ⟨k, hk⟩ : ∃ k, nblk n = k := ⟨_, rfl⟩
  have HK := Lib.hid hk
  rw [hk] at HC hY ⊢
  have hk2 : k ≤ 10000 := by rw [← hk]; unfold nblk; omega
  refine callsIn_of_wp Tryz.func115 rfl trivial ?_ rfl
  simp only [Tryz.ntmps115, List.size_toArray, List.length_cons, List.length_nil, Nat.reduceAdd, Nat.reduceSub, Array.replicate_succ, Array.replicate_zero, List.push_toArray, List.append_toArray, List.nil_append, List.cons_append]
  clear hb hk
  have HBA := Lib.hid hbA
  gi_wp2_with (refine ⟨trivial, ?_⟩; gi_at_call 41; refine (callsIn_wide.2 HC.out).mono ?_; rintro e w' ⟨rfl, rfl⟩)
  gi_loopw [9] (fun v9 wr => ∃ i : Nat, v9 = .int .i64 (i : Int) ∧ i ≤ k ∧ wr.cell? ⟨bb, 0, none⟩ = some (.slice q n cap) ∧ J (List.range i) wr) (fun v9 wr => k - (intOf v9).toNat)
  case atStart => exact ⟨0, rfl, Nat.zero_le _, HBA.out, h0⟩
  case round =>
    obtain ⟨i, rfl, hik, hbr, hJ0⟩ := hrel
    have HJ0 := Lib.hid hJ0
    have HBR := Lib.hid hbr
    by_cases hlt : i < k
    · have z1 : (i : Int) < (k : Int) := by omega
      have z2 : decide ((i : Int) < (k : Int)) = true := decide_eq_true z1
      have hi256 : 256 * i < n := nblk_lt (by rw [HK.out]; exact hlt)
      have w1 : IntKind.i64.wrap ((i : Int) * 256) = (i : Int) * 256 := by rw [IntKind.wrap_i64]; omega
      have w2 : IntKind.i64.wrap ((i : Int) * 256 + 256) = (i : Int) * 256 + 256 := by rw [IntKind.wrap_i64]; omega
      have w3 : IntKind.i64.wrap ((i : Int) + 1) = (i : Int) + 1 := by rw [IntKind.wrap_i64]; omega
      have hcut := fun u => blk_cut q n cap i u hi256 hc
      have hpre : List.range i ++ [i] <+: List.range k := by
        rw [← List.range_succ]
        exact ⟨(List.range k).drop (i + 1), by
          have h := List.take_append_drop (i + 1) (List.range k)
          rw [List.take_range, Nat.min_eq_left (by omega)] at h
          exact h⟩
      have HPRE := Lib.hid hpre
      obtain ⟨fn, tmps, assign, body, hy, hR⟩ := hY (List.range i) i wr hpre hJ0
      clear hpre
      dsimp only at hy
      clear hJ0
      gi_wp2
      refine hR.mono ?_
      rintro e W3 (⟨rfl, hJ3, hB3⟩ | ⟨rfl, hJx3⟩)
      · have hb3 : W3.cell? ⟨bb, 0, none⟩ = some (.slice q n cap) := by rw [World.cell?_of_block (w := wr) hB3]; exact HBR.out
        have HJ3 := Lib.hid (show J (List.range (i + 1)) W3 from by rw [List.range_succ]; exact hJ3)
        have HB3 := Lib.hid hb3
        clear hJ3 hB3 hb3
        gi_wp2
        go_roundw
        case rel => exact ⟨i + 1, by go_num, by omega, HB3.out, HJ3.out⟩
        case measure => simp [intOf]; omega
      · have HJX := Lib.hid (show ∃ pre, pre <+: List.range k ∧ Jx pre W3 from ⟨List.range i ++ [i], HPRE.out, hJx3⟩)
        clear hJx3
        gi_wp2
        refine bodyPost_ret (results_none rfl _ _ _) rfl ?_
        exact ⟨⟨_, rfl⟩, .inr HJX.out⟩
    · have z1 : ¬ (i : Int) < (k : Int) := by omega
      have z2 : decide ((i : Int) < (k : Int)) = false := decide_eq_false z1
      obtain rfl : i = k := by omega
      gi_wp2
      go_end0
      exact ⟨⟨_, rfl⟩, .inl HJ0.out⟩
theorem mkFnB : ∀ (fn : Fn) (first cap : Array Value) (w : World), (Instr.makeFunc fn first cap).run Tryz.prog w = .ok (.func fn first cap) w := fun _ _ _ _ => rfl
attribute [local go_sem] mkFnB
theorem blocks_any (q : Option Addr) (n cap : Nat) (u : World) : Calls Tryz.prog 77 #[.slice q n cap] u fun e w' => e = .returned (.func (.func 115) #[] #[.pointer (some ⟨u.heap.size, 0, none⟩)]) ∧ w' = u.alloc (.cells #[.slice q n cap] 35) := by
  go_enter Tryz.func77, Tryz.ntmps77
  go_wp2
  go_ret
  exact ⟨rfl, rfl⟩
end Go.Proofs.YtfemgkamgokjcaaGreatDoor
