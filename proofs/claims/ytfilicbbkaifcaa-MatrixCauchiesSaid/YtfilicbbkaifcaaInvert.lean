/- The program's Invert. -/
import Derived.Test.YtfilicbbkaifcaaInvM
import Derived.Test.YtfilicbbkaifcaaDet3
import Derived.BigRegion
set_option linter.unusedSimpArgs false
set_option linter.unusedVariables false
namespace Go.Proofs.Ytfilicbbkaifcaa
open Go Go.RowKit

theorem sizeR (w : World) : (sizeOf (Try.prog.elem 22)).run Try.prog w = .ok 1 w := by kernel_rfl
theorem sl_rows (G n c : Nat) (w : World) (hc : c < n) :
    (slT 22 (.slice (some ⟨G, 0, none⟩) n n) (some (.int .i64 (c : Int))) none none).run Try.prog w = .ok (.value (.slice (some ⟨G, c, none⟩) (n - c) (n - c))) w := by
  have h1 := run_sliceAt_slice (P := Try.prog) w 22 (.slice (some ⟨G, 0, none⟩) n n) (some (.int .i64 (c : Int))) none none undRows
  rw [run_slice_l (P := Try.prog) w 22 (some ⟨G, 0, none⟩) n n undRows .i64 (c : Int) (by omega) (by omega), sizeR] at h1
  simp only [slT, Sem.run_bind, h1, Result.andThen_ok, Sem.run_pure]
  simp only [sliced, Int.toNat_natCast, Nat.mul_one]
  rw [if_neg (by omega)]
  simp [Addr.add]
  omega
theorem sl_bytes (D n m M : Nat) (w : World) (hM : M = n + m) (hm : 0 < m) :
    (slT 35 (.slice (some ⟨D, 0, none⟩) M M) (some (.int .i64 (n : Int))) none none).run Try.prog w = .ok (.value (.slice (some ⟨D, n, none⟩) m m)) w := by
  have h1 := run_sliceAt_slice (P := Try.prog) w 35 (.slice (some ⟨D, 0, none⟩) M M) (some (.int .i64 (n : Int))) none none und35
  rw [run_slice_l (P := Try.prog) w 35 (some ⟨D, 0, none⟩) M M und35 .i64 (n : Int) (by omega) (by omega), sizeB] at h1
  simp only [slT, Sem.run_bind, h1, Result.andThen_ok, Sem.run_pure]
  simp only [sliced, Int.toNat_natCast, Nat.mul_one]
  rw [if_neg (by omega), show M - n = m by omega]
  simp [Addr.add]
  omega
theorem enters_nz : ∀ args w, (callFunc 34 args).run Try.prog w = .ok (.enter 34 args) w := enters_of Try.func34 (by kernel_rfl) rfl
theorem nz_any (b c n cap : Nat) (q : Option Addr) (l : List (BitVec 8)) (w : World) (h1 : w.cell? ⟨b, 0, none⟩ = some (.int .i64 (c : Int))) (hl : l.length = n) (hs : Sl w q l) (hc : c < n) :
    Calls Try.prog 34 #[.slice q n cap, .pointer (some ⟨b, 0, none⟩)] w fun e w' => e = .returned (.bool (l.getD c 0#8 != 0#8)) ∧ w = w' := by
  obtain ⟨d, o, rfl, hx⟩ := hs c (by omega)
  have hcn : (c : Int) < (n : Int) := by omega
  generalize l.getD c 0#8 = x at *
  clear hs hl
  go_enter Try.func34, Try.ntmps34
  go_wp2
  go_ret
  exact ⟨rfl, rfl⟩
/-- The rows from row c on. -/
def fromL (n m c : Nat) (a : Mx) : List (List (BitVec 8)) := (List.range (n - c)).map fun k => rowL m a (c + k)
theorem fromL_length (n m c : Nat) (a : Mx) : (fromL n m c a).length = n - c := by simp [fromL]
theorem fromL_get (n m c : Nat) (a : Mx) (k : Nat) (h : k < n - c) : (fromL n m c a).getD k [] = rowL m a (c + k) := by simp [fromL, List.getD_eq_getElem?_getD, h]
theorem Mp.from {w : World} {N G n m : Nat} {D : Nat → Nat} {a : Mx} (h : Mp w N G n n m D a) (c : Nat) : Prt w (some ⟨G, c, none⟩) (fromL n m c a) := fun i hi => by
  rw [fromL_length] at hi
  rw [fromL_get _ _ _ _ _ hi, rowL_length]
  exact ⟨G, c, some ⟨D (c + i), 0, none⟩, m, rfl, h.cellH (c + i) (by omega) (by omega), h.sl (c + i) (by omega), (fun e => by cases e), Nat.le_refl _⟩
/-- What Invert gives of a square matrix. -/
def InvPost (w : World) (n : Nat) (a : Mx) (e : Ending) (w' : World) : Prop :=
  (NoInv n a ∧ RetNo w.heap.size w 4 e w') ∨ (det n a ≠ 0#8 ∧ ∃ G v, e = .returned (.tuple #[.slice (some ⟨G, 0, none⟩) n n, .int .i64 0]) ∧ IsInv n a v ∧ Prt w' (some ⟨G, 0, none⟩) (rowsL n n v) ∧ Below w.heap.size w w')
attribute [local go_sem ↓] exec_store exec_make exec_bs exec_slice
attribute [local go_sem] st_B st_I st_b st_H mkB mkR sl_rows
set_option maxRecDepth 100000 in
set_option maxHeartbeats 16000000 in
theorem invert_any (b : Nat) (la : List (List (BitVec 8))) (p : Option Addr) (n cap : Nat) (w : World) (hF : Fld w b) (ha : Prt w p la) (ga : Good la n n) :
    Calls Try.prog 19 #[.pointer (some ⟨b, 0, none⟩), .slice p n cap] w (InvPost w n (mx la)) := by
  have g1 := ga.lo
  have g2 := ga.hi
  have HF := Lib.hid hF
  have HA := Lib.hid ha
  have GA := Lib.hid ga
  obtain ⟨M, hM⟩ : ∃ M, M = n + n := ⟨_, rfl⟩
  have HMM := Lib.hid hM
  obtain ⟨c0, o0, q0, cap0, rfl, hc0, hcc0⟩ := ha.head (by rw [ga.len]; omega)
  rw [ga.head] at hcc0
  have ta := ga.true_
  have hn0 : (0 : Int) < (n : Int) := by omega
  have hnn : ((n : Int) != (n : Int)) = false := by simp
  have hbN : b < w.heap.size := hF.lt
  clear hF ha ga hM
  go_enter Try.func19, Try.ntmps19
  go_wp2_with fail
  refine (good_any la _ n cap w HA.out GA.out.len (by omega)).mono ?_
  rintro e w1 ⟨rfl, hB1⟩
  have hx : w1.cell? ⟨c0, o0, none⟩ = some (.slice q0 n cap0) := by rw [hB1.cell (by exact hc0)]; exact hcc0
  have HB1 := Lib.hid hB1
  clear hB1
  go_wp2_with fail
  refine (beside_any la _ n cap M w1 (HA.out.of_below HB1.out) GA.out.len GA.out.rows g2 (by have := HMM.out; omega)).mono ?_
  rintro e w2 ⟨G, D, rfl, hM2, hB2⟩
  have HB2 := Lib.hid (HB1.out.trans (hB2.mono HB1.out.size))
  have hsz := HB1.out.size
  have HM2 := Lib.hid (⟨hM2.hds, hM2.row, hM2.inj, hM2.ne, fun i hi => Nat.le_trans hsz (hM2.lo i hi), Nat.le_trans hsz hM2.loG⟩ : Mp w2 w.heap.size G n n M D (wide n (mx la)))
  clear hM2 hB2 hx hsz HB1 hcc0 ta
  generalize hN : w.heap.size = N at *
  have HN := Lib.hid hN
  clear hN
  go_wp2
  go_loopw [26] (fun i wr => ∃ c : Nat, c ≤ n ∧ i = .int .i64 c ∧ ∃ D X, Mp wr N G n n M D X ∧ Below N w wr ∧ Reach n c (mx la) X) (fun i _ => n - (intOf i).toNat)
  case atStart => exact ⟨0, Nat.zero_le _, rfl, D, _, HM2.out, HB2.out, reach_zero n (mx la)⟩
  case round =>
    clear HM2 HB2
    obtain ⟨c, hc, rfl, D1, X, hM, hB, hR⟩ := hrel
    rename World => WP
    have HM := Lib.hid hM
    have HB := Lib.hid hB
    have HR := Lib.hid hR
    have hNG : N ≤ G := hM.loG
    have hGP : G < WP.heap.size := hM.ltG
    by_cases hlt : c < n
    · have hd0 : decide ((c : Int) < (n : Int)) = true := decide_eq_true (by omega)
      have hl0 : (c : Int) < (n : Int) := by omega
      have hbb : Below WP.heap.size WP (WP.alloc (.cells #[.int .i64 (c : Int)] 3)) := (Below.refl _ _).alloc (Nat.le_refl _) _
      have HM1 := Lib.hid (hM.of_below hbb)
      have HB1 := Lib.hid (show Below N w (WP.alloc (.cells #[.int .i64 (c : Int)] 3)) from hB.alloc (by omega) _)
      have hbox : (WP.alloc (.cells #[.int .i64 (c : Int)] 3)).cell? ⟨WP.heap.size, 0, none⟩ = some (.int .i64 (c : Int)) := by rw [World.cell?_alloc_new]; rfl
      have hPRT := HM1.out.from c
      have hask : Asks 34 #[.pointer (some ⟨WP.heap.size, 0, none⟩)] (fromL n M c X) (fun k => ((fromL n M c X).getD k []).getD c 0#8 != 0#8) (WP.alloc (.cells #[.int .i64 (c : Int)] 3)) := by
        intro k hk q cap' hsl
        rw [fromL_length] at hk
        exact nz_any WP.heap.size c _ cap' q _ _ hbox rfl hsl (by rw [fromL_get _ _ _ _ _ hk, rowL_length]; have := HMM.out; omega)
      have HASK := Lib.hid hask
      have HPRT := Lib.hid hPRT
      have hfk : ∀ k, k < n - c → ((fromL n M c X).getD k []).getD c 0#8 = X (c + k) c := fun k hk => by
        rw [fromL_get _ _ _ _ _ hk, rowL_get _ _ _ _ (by have := HMM.out; omega)]
      clear hM hB hbb hask hPRT
      rcases hit_or (fun k => ((fromL n M c X).getD k []).getD c 0#8 != 0#8) (n - c) with ⟨t, ht⟩ | ht
      · have htn : t < n - c := ht.1
        have hxne : X (c + t) c ≠ 0#8 := by
          have h1 := ht.2.1
          rw [← hfk t htn]
          simpa using h1
        have HNEXT := Lib.hid (hR.next hlt (show c + t < n by omega) (by omega) hxne)
        have HNE := Lib.hid hxne
        have HT := Lib.hid ht
        have hdt : decide ((t : Int) < 0) = false := decide_eq_false (by omega)
        clear hR hfk ht hxne
        go_wp2_with fail
        refine (index_hit _ _ enters_nz (fromL n M c X) _ _ (n - c) (n - c) t _ HASK.out HPRT.out (fromL_length _ _ _ _) (by omega) HT.out).mono ?_
        rintro e w' ⟨rfl, rfl⟩
        clear HASK HPRT HT
        have hGB : G ≠ WP.heap.size := Nat.ne_of_lt hGP
        generalize WP.alloc (.cells #[.int .i64 (c : Int)] 3) = W1 at *
        generalize WP.heap.size = BX at *
        clear hGP
        have x1 := HM1.out.cellH c hlt hlt
        have x2 := HM1.out.cellH (c + t) (by omega) (by omega)
        have f1 : ∀ i, W1.frozen? ⟨G, i, none⟩ = false := HM1.out.free
        obtain ⟨v3, x3⟩ : ∃ v, (W1.setCell ⟨G, c, none⟩ (.slice (some ⟨D1 (c + t), 0, none⟩) M M)).cell? ⟨G, c + t, none⟩ = some v := ⟨_, (HM1.out.hds.set c _).cell (c + t) (by omega)⟩
        go_wp2
        have hw : IntKind.i64.wrap ((c : Int) + (t : Int)) = (c : Int) + (t : Int) := IntWalk.i64_in _ (by omega)
        have hw1 : 0 ≤ (c : Int) + (t : Int) := by omega
        have hw2 : (c : Int) + (t : Int) < (n : Int) := by omega
        have hw3 : ((c : Int) + (t : Int)).toNat = c + t := by omega
        have hw4 : c + t < n := by omega
        go_region
        have hs2 := HM1.out.swap c (c + t) hlt hw4
        have hx5 : (((W1.setCell ⟨G, c, none⟩ (.slice (some ⟨D1 (c + t), 0, none⟩) M M)).setCell ⟨G, c + t, none⟩ (.slice (some ⟨D1 c, 0, none⟩) M M)).drew).cell? ⟨BX, 0, none⟩ = some (.int .i64 (c : Int)) := by
          show ((W1.setCell ⟨G, c, none⟩ (.slice (some ⟨D1 (c + t), 0, none⟩) M M)).setCell ⟨G, c + t, none⟩ (.slice (some ⟨D1 c, 0, none⟩) M M)).cell? ⟨BX, 0, none⟩ = _
          rw [World.cell?_setCell_far _ _ _ _ hGB, World.cell?_setCell_far _ _ _ _ hGB]
          exact hbox
        have HM2 := Lib.hid (hs2.dr (Dr.refl _).drew)
        have HB2 := Lib.hid (((HB1.out.setCell (show N ≤ (⟨G, c, none⟩ : Addr).block from hNG) (.slice (some ⟨D1 (c + t), 0, none⟩) M M)).setCell (show N ≤ (⟨G, c + t, none⟩ : Addr).block from hNG) (.slice (some ⟨D1 c, 0, none⟩) M M)).drew)
        clear hs2 x1 x2 x3 f1 hbox hw hw1 hw2 hw3
        generalize ((W1.setCell ⟨G, c, none⟩ (.slice (some ⟨D1 (c + t), 0, none⟩) M M)).setCell ⟨G, c + t, none⟩ (.slice (some ⟨D1 c, 0, none⟩) M M)).drew = W2 at *
        clear HM1 HB1
        go_wp2_with fail
        refine (elim_any b G n M c N _ _ W2 (HF.out.below HB2.out hbN) hbN HM2.out hlt (by have := HMM.out; omega) g2 (by have := HMM.out; omega) (by show X (swp c (c + t) c) c ≠ 0#8; rw [show swp c (c + t) c = c + t from if_pos rfl]; exact HNE.out)).mono ?_
        rintro e w5 ⟨rfl, D5, hM5, hB5⟩
        have HM5 := Lib.hid hM5
        have HB5 := Lib.hid (HB2.out.trans hB5)
        clear hM5 hB5
        go_wp2
        go_roundw
        case rel => exact ⟨c + 1, by omega, by go_num, D5, _, HM5.out, HB5.out, HNEXT.out⟩
        case measure => simp [intOf]; omega
      · have HNO := Lib.hid (hR.stuck hlt fun i hci hi => by
          have h1 := ht (i - c) (by omega)
          rw [show i = c + (i - c) by omega, ← hfk (i - c) (by omega)]
          simpa using h1)
        have HT := Lib.hid ht
        clear hR hfk ht
        go_wp2_with fail
        refine (index_miss _ _ enters_nz (fromL n M c X) _ _ (n - c) (n - c) _ HASK.out HPRT.out (fromL_length _ _ _ _) (by omega) HT.out).mono ?_
        rintro e w' ⟨rfl, rfl⟩
        go_wp2
        go_ret2
        exact .inl ⟨HNO.out, rfl, by rw [HN.out]; exact HB1.out⟩
    · have hd0 : decide ((c : Int) < (n : Int)) = false := decide_eq_false (by omega)
      obtain rfl : c = n := by omega
      clear hM hB hR
      have hcut : ∀ (D : Nat) (w : World), (slT 35 (.slice (some ⟨D, 0, none⟩) M M) (some (.int .i64 (c : Int))) none none).run Try.prog w = .ok (.value (.slice (some ⟨D, c, none⟩) c c)) w := fun D w => sl_bytes D c c M w HMM.out (by omega)
      go_wp2
      go_loopw [61] (fun i wr => ∃ k : Nat, k ≤ c ∧ i = .int .i64 k ∧ Row wr G 35 c (fun i => if i < k then .slice (some ⟨D1 i, c, none⟩) c c else .slice (some ⟨D1 i, 0, none⟩) M M) ∧ Kp G WP wr) (fun i _ => c - (intOf i).toNat)
      case atStart => exact ⟨0, Nat.zero_le _, rfl, HM.out.hds.congr fun i hi => by rw [hdr, if_pos hi, if_neg (by omega)], Kp.refl _ _⟩
      case round =>
        obtain ⟨k, hk, rfl, hRow, hK⟩ := hrel
        have HRow := Lib.hid hRow
        have HK := Lib.hid hK
        by_cases hkc : k < c
        · have hdk : decide ((k : Int) < (c : Int)) = true := decide_eq_true (by omega)
          have hlk : (k : Int) < (c : Int) := by omega
          have x1 : wr.cell? ⟨G, k, none⟩ = some (.slice (some ⟨D1 k, 0, none⟩) M M) := by rw [hRow.cell k hkc, if_neg (by omega)]
          have f1 : ∀ i, wr.frozen? ⟨G, i, none⟩ = false := hRow.free
          clear hRow hK
          go_wp2
          go_roundw
          case rel =>
            refine ⟨k + 1, by omega, by go_num, (HRow.out.set k _).congr fun i hi => ?_, HK.out.setCell _ _⟩
            by_cases h1 : i = k
            · subst h1; rw [if_pos rfl, if_pos (by omega)]
            · rw [if_neg h1]
              by_cases h2 : i < k
              · rw [if_pos h2, if_pos (by omega)]
              · rw [if_neg h2, if_neg (by omega)]
          case measure => simp [intOf]; omega
        · have hdk : decide ((k : Int) < (c : Int)) = false := decide_eq_false (by omega)
          obtain rfl : k = c := by omega
          clear hRow hK
          have hdone := HR.out.done
          have hprt : Prt wr (some ⟨G, 0, none⟩) (rowsL k k (fun i j => X i (k + j))) := fun i hi => by
            rw [rowsL_length] at hi
            rw [rowsL_get _ _ _ _ hi]
            refine ⟨G, 0, some ⟨D1 i, k, none⟩, k, rfl, ?_, fun j hj => ⟨D1 i, k, rfl, ?_⟩, (fun e => by cases e), by rw [rowL_length]; exact Nat.le_refl _⟩
            · rw [Nat.zero_add, HRow.out.cell i hi, if_pos hi, rowL_length]
            · rw [rowL_length] at hj
              rw [rowL_get _ _ _ _ hj]
              exact ((HM.out.row i hi).of_kp HK.out (HM.out.ne i hi)).cell (k + j) (by have := HMM.out; omega)
          have HP := Lib.hid hprt
          have HD := Lib.hid hdone
          clear hdone hprt hcut
          go_wp2
          go_ret2
          exact .inr ⟨HD.out.2, G, _, rfl, HD.out.1, HP.out, by rw [HN.out]; exact HB.out.trans (HK.out.below hNG (Nat.le_of_lt (Nat.lt_of_le_of_lt hNG hGP)))⟩
end Go.Proofs.Ytfilicbbkaifcaa
