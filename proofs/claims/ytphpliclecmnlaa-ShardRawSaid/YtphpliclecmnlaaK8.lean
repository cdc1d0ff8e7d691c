/- Merged texts: Plus4, RecD, DecP, CodeP. -/
import Derived.Deep.RegionHeld3
import Derived.Test.YtphpliclecmnlaaK3
import Derived.Test.YtphpliclecmnlaaK2
import Derived.Test.YtphpliclecmnlaaK7
import Derived.BigRegion
import Derived.Test.YtphpliclecmnlaaK6
import Derived.Test.YtphpliclecmnlaaK5
set_option linter.unusedSimpArgs false
set_option linter.unusedVariables false
/- Rows added by the program's field (the text Plus, over the text Two: in seats that have the matrices). -/
namespace Go.Proofs.Ytphpliclecmnlaa
open Go Go.RowKit

attribute [local go_sem ↓] exec_store exec_make exec_bs
attribute [local go_sem] st_B st_I st_b mkB
set_option maxHeartbeats 1000000 in
theorem plus_odd (f : Value) (p q : Option Addr) (m n c d : Nat) (w : World) (hm : m < 4294967296) (hn : n < 4294967296) (hne : m ≠ n) :
    Calls Try.prog 50 #[f, .slice p m c, .slice q n d] w fun e w' => e = .returned (.tuple #[.slice none 0 0, .int .i64 2]) ∧ w = w' := by
  have hd : ((m : Int) != (n : Int)) = true := by simp; omega
  have hd2 : ((m : Int) == (n : Int)) = false := by simp; omega
  have hd3 : decide (m = n) = false := by simp; omega
  clear hne
  go_enter Try.func50, Try.ntmps50
  go_wp2
  go_ret2
  exact ⟨rfl, rfl⟩

attribute [local go_sem] bs2
set_option maxHeartbeats 4000000 in
theorem plus_any (b : Nat) (l m : List (BitVec 8)) (p q : Option Addr) (n cap cap' : Nat) (w : World) (hs : Sl w p l) (ht : Sl w q m) (hl : l.length = n) (hm : m.length = n) (hn : n < 4294967296) :
    Calls Try.prog 50 #[.pointer (some ⟨b, 0, none⟩), .slice p n cap, .slice q n cap'] w fun e w' =>
      e = .returned (.tuple #[.slice (some ⟨w.heap.size, 0, none⟩) n n, .int .i64 0]) ∧ Row w' w.heap.size 5 n (fun j => B (l.getD j 0#8 ^^^ m.getD j 0#8)) ∧ Below w.heap.size w w' := by
  have HS := Lib.hid hs
  have HT := Lib.hid ht
  have HL := Lib.hid hl
  have HM := Lib.hid hm
  have hr : Row (w.alloc (.cells (zb n) 5)) w.heap.size 5 n (fun j => B 0#8) := Row.new w _ n _
  have hb : Below w.heap.size w (w.alloc (.cells (zb n) 5)) := (Below.refl _ _).alloc (Nat.le_refl _) _
  clear hs ht hl hm
  go_enter Try.func50, Try.ntmps50
  go_wp2
  generalize w.alloc (.cells (zb n) 5) = w1 at *
  have HR := Lib.hid (hr.congr fun j _ => upto_zero (fun j => l.getD j 0#8 ^^^ m.getD j 0#8) j)
  have HB := Lib.hid hb
  clear hr hb
  generalize hN : w.heap.size = N at *
  have HN := Lib.hid hN
  clear hN
  go_loopw [20] (fun i wr => ∃ k : Nat, k ≤ n ∧ i = .int .i64 k ∧ Row wr N 5 n (upto (fun j => l.getD j 0#8 ^^^ m.getD j 0#8) k) ∧ Below N w wr) (fun i _ => n - (intOf i).toNat)
  case atStart => exact ⟨0, Nat.zero_le _, rfl, HR.out, HB.out⟩
  case round =>
    clear HR HB
    obtain ⟨k, hk, rfl, hR, hB⟩ := hrel
    have HB := Lib.hid hB
    have HR := Lib.hid hR
    by_cases hlt : k < n
    · obtain ⟨c, o, rfl, hc⟩ := HS.out k (by rw [HL.out]; exact hlt)
      obtain ⟨c', o', rfl, hc'⟩ := HT.out k (by rw [HM.out]; exact hlt)
      have hx : wr.cell? ⟨c, o + k, none⟩ = some (B (l.getD k 0#8)) := by
        rw [hB.cell (by rw [← HN.out]; exact World.block_lt_of_cell? w _ hc)]; exact hc
      have hy : wr.cell? ⟨c', o' + k, none⟩ = some (B (m.getD k 0#8)) := by
        rw [hB.cell (by rw [← HN.out]; exact World.block_lt_of_cell? w _ hc')]; exact hc'
      have hd0 : decide ((k : Int) < (n : Int)) = true := decide_eq_true (by omega)
      have hl0 : (k : Int) < (n : Int) := by omega
      have HST := Lib.hid (fun j (_ : j < n) => upto_step (fun j => l.getD j 0#8 ^^^ m.getD j 0#8) k j)
      generalize l.getD k 0#8 = x at *
      generalize m.getD k 0#8 = y at *
      have hNlt : N < wr.heap.size := hR.lt
      have hcN : c < N := by rw [← HN.out]; exact World.block_lt_of_cell? w _ hc
      have hcN' : c' < N := by rw [← HN.out]; exact World.block_lt_of_cell? w _ hc'
      clear hR hB hc hc'
      have HPOST : Hid (∀ w2, Dr (wr.alloc (.cells #[B x, B y] 5)).drew w2 → Row w2 N 5 n (upto (fun j => l.getD j 0#8 ^^^ m.getD j 0#8) k) ∧ Below N w w2 ∧
          w2.cell? ⟨c, o + k, none⟩ = some (B x) ∧ w2.cell? ⟨c', o' + k, none⟩ = some (B y)) := by
        intro w2 hD2
        have hb0 : Below wr.heap.size wr (wr.alloc (.cells #[B x, B y] 5)).drew := ((Below.refl _ _).alloc (Nat.le_refl _) _).drew
        refine ⟨(HR.out.of_below hb0).dr hD2, (HB.out.trans (hb0.mono (Nat.le_of_lt hNlt))).trans (hD2.below N), ?_, ?_⟩
        · rw [hD2.cell, hb0.cell (World.block_lt_of_cell? wr _ hx)]; exact hx
        · rw [hD2.cell, hb0.cell (World.block_lt_of_cell? wr _ hy)]; exact hy
      go_wp2_with fail
      go_region_held3 (fun w' : World => w'.cell? ⟨c, o + k, none⟩ = some (B x) ∧ w'.cell? ⟨c', o' + k, none⟩ = some (B y)) (first | go_keep | exact ⟨hs1 _, hs2 _⟩) ((first | (go_at_call 41; refine (add_two _ x y _ _ (by exact Sl_two _ x y _)).mono ?_; rintro e w2 ⟨rfl, hD2⟩; obtain ⟨hR2, hB2, hx2, hy2⟩ := HPOST.out w2 hD2; have c1 : (w2.cell? ⟨N, k, none⟩).isSome = true := (by rw [hR2.cell k (by omega)]; rfl); have f1 : w2.frozen? ⟨N, k, none⟩ = false := hR2.free k; have hs1 : ∀ v, (w2.setCell ⟨N, k, none⟩ v).cell? ⟨c, o + k, none⟩ = some (B x) := (fun v => by rw [World.cell?_setCell_other _ _ _ _ (by intro e; injection e; omega)]; exact hx2); have hs2 : ∀ v, (w2.setCell ⟨N, k, none⟩ v).cell? ⟨c', o' + k, none⟩ = some (B y) := (fun v => by rw [World.cell?_setCell_other _ _ _ _ (by intro e; injection e; omega)]; exact hy2); have HR2 := Lib.hid ((hR2.set k (B (x ^^^ y))).congr HST.out); have HB2 := Lib.hid hB2; clear hR2 hB2 hD2)))
      clear HPOST
      go_wp2
      go_roundw
      case rel => exact ⟨k + 1, by omega, by go_num, HR2.out, HB2.out.setCell (Nat.le_refl _) _⟩
      case measure => simp [intOf]; omega
    · have hd0 : decide ((k : Int) < (n : Int)) = false := decide_eq_false (by omega)
      have he : Hid (k = n) := by show k = n; omega
      clear hR hB
      go_wp2
      go_ret2
      refine ⟨by rw [HN.out]; rfl, ?_, by rw [HN.out]; exact HB.out⟩
      rw [HN.out]
      have := HR.out
      rw [he.out] at this
      exact this.congr fun j hj => upto_full _ _ _ hj
end Go.Proofs.Ytphpliclecmnlaa
/- The program's recoverData. -/
namespace Go.Proofs.Ytphpliclecmnlaa
open Go Go.RowKit

theorem sizeI (w : World) : (sizeOf (Try.prog.elem 64)).run Try.prog w = .ok 1 w := by kernel_rfl
theorem sli_hi (q : Option Addr) (n cap k : Nat) (w : World) (hk : k ≤ cap) :
    (slT 64 (.slice q n cap) none (some (.int .i64 (k : Int))) none).run Try.prog w = .ok (.value (.slice q k cap)) w := by
  have h1 := run_sliceAt_slice (P := Try.prog) w 64 (.slice q n cap) none (some (.int .i64 (k : Int))) none undI
  rw [run_slice_h (P := Try.prog) w 64 q n cap undI .i64 (k : Int) (by omega) (by omega), sizeI] at h1
  simp only [slT, Sem.run_bind, h1, Result.andThen_ok, Sem.run_pure]
  simp only [sliced, Int.toNat_natCast, Nat.zero_mul, Nat.sub_zero]
  have := cutA_zero q cap
  unfold cutA at this
  rw [this]
/-- What is known of all shards when the data shards are told. -/
def RecPost (k m n L G : Nat) (X : Mx) (th : List Bool) (w0 : World) (e : Ending) (w' : World) : Prop :=
  e = .returned (.tuple #[]) ∧ ∃ D' Y, Mp w' w0.heap.size G n n L D' Y ∧ Below w0.heap.size w0 w' ∧ (∀ i x, ¬ (i < k ∧ th.getD i false = false) → Y i x = X i x) ∧
    ∃ rl : List Nat, Picks (k + m) rl ∧ rl.length = k ∧ ∀ t, t < k → th.getD (rl.getD t 0) false = true ∧ ∀ x, x < L → mm k (ext k) Y (rl.getD t 0) x = X (rl.getD t 0) x
attribute [local go_sem ↓] exec_store exec_make exec_slice
attribute [local go_sem] st_H st_I slr_hi sli_hi mkR
set_option maxRecDepth 100000 in
set_option maxHeartbeats 16000000 in
theorem recD_any (b k m n L G cap' : Nat) (D : Nat → Nat) (X : Mx) (th : List Bool) (q : Option Addr) (w0 w : World) (hC : Cd w0 b k m) (hB : Below w0.heap.size w0 w) (hM : Mp w w0.heap.size G n n L D X) (hn : n = k + m) (hb : Bl w0 q th) (hth : th.length = n) (hL : L < 100000)
    (hz : ∀ i x, i < k → th.getD i false = false → x < L → X i x = 0#8) (hen : k ≤ (pick (fun i => th.getD i false) (k + m)).length) :
    Calls Try.prog 37 #[.pointer (some ⟨b, 0, none⟩), .slice (some ⟨G, 0, none⟩) n n, .slice q n cap'] w (RecPost k m n L G X th w0) := by
  have hk1 := hC.k1
  have hm1 := hC.m1
  have hkm := hC.hi
  have hkn : k ≤ n := by omega
  have HC := Lib.hid hC
  have HBL := Lib.hid hb
  have HTH := Lib.hid hth
  have HN := Lib.hid hn
  have HZ := Lib.hid hz
  have HEN := Lib.hid hen
  have hNw : w0.heap.size ≤ w.heap.size := hB.size
  have hGw : G < w.heap.size := hM.ltG
  have hb1 : Below w.heap.size w (w.alloc (.cells #[.slice q n cap'] 40)) := (Below.refl _ _).alloc (Nat.le_refl _) _
  have HB1 := Lib.hid (bel_step hB hb1)
  have HM1 := Lib.hid (hM.of_below hb1)
  have HE1 := Lib.hid (show (w.alloc (.cells #[.slice q n cap'] 40)).cell? ⟨w.heap.size, 0, none⟩ = some (.slice q n cap') by rw [World.cell?_alloc_new]; rfl)
  have hs1 : (w.alloc (.cells #[.slice q n cap'] 40)).heap.size = w.heap.size + 1 := World.size_alloc ..
  clear hC hB hM hb hth hb1 hn hz hen
  go_enter Try.func37, Try.ntmps37
  go_wp2_with fail
  generalize w.alloc (.cells #[.slice q n cap'] 40) = w1 at *
  generalize w.heap.size = E at *
  refine (data_any b k m w1 (HC.out.keep HB1.out)).mono ?_
  rintro e w2 ⟨rfl, rfl⟩
  go_wp2_with fail
  have hb2 : Below w1.heap.size w1 (w1.alloc (.cells #[.int .i64 (k : Int)] 3)) := (Below.refl _ _).alloc (Nat.le_refl _) _
  have HB2 := Lib.hid (bel_step HB1.out hb2)
  have HM2 := Lib.hid (HM1.out.of_below hb2)
  have HE2 := Lib.hid (show (w1.alloc (.cells #[.int .i64 (k : Int)] 3)).cell? ⟨E, 0, none⟩ = some (.slice q n cap') by rw [hb2.cell (by show E < _; omega)]; exact HE1.out)
  have HK2 := Lib.hid (show (w1.alloc (.cells #[.int .i64 (k : Int)] 3)).cell? ⟨E + 1, 0, none⟩ = some (.int .i64 (k : Int)) by rw [← hs1, World.cell?_alloc_new]; rfl)
  have hs2 : (w1.alloc (.cells #[.int .i64 (k : Int)] 3)).heap.size = E + 2 := by rw [World.size_alloc, hs1]
  clear hb2 HM1 HE1
  generalize w1.alloc (.cells #[.int .i64 (k : Int)] 3) = w2 at *
  clear hs1 HB1
  have hask : AskI 48 #[.pointer (some ⟨E, 0, none⟩)] k (fun i => !th.getD i false) w2 := fun i hi w' hB' =>
    r1_any E i n cap' q th w' (by rw [hB'.cell (by show E < _; omega)]; exact HE2.out) ((HBL.out.of_below HB2.out).of_below hB') HTH.out (by omega)
  refine (where_il _ _ enters_R1 k _ w2 hask (by omega)).mono ?_
  rintro e w3 ⟨pm, cm, M, rfl, hlen, hlc, hIl, hpb, hb3⟩
  have HB3 := Lib.hid (bel_step HB2.out hb3)
  have HM3 := Lib.hid (HM2.out.of_below hb3)
  have HE3 := Lib.hid (show w3.cell? ⟨E, 0, none⟩ = some (.slice q n cap') by rw [hb3.cell (by show E < _; omega)]; exact HE2.out)
  have HK3 := Lib.hid (show w3.cell? ⟨E + 1, 0, none⟩ = some (.int .i64 (k : Int)) by rw [hb3.cell (by show E + 1 < _; omega)]; exact HK2.out)
  have HDL := Lib.hid (show ∀ j, j < n → D j < E + 2 from fun j hj => by have := HM2.out.lt j hj; omega)
  have HIL := Lib.hid hIl
  have HPB := Lib.hid (show ∀ b, pm = some ⟨b, 0, none⟩ → b ≠ G from fun b e => by have := hpb b e; omega)
  have hs3 : E + 2 ≤ w3.heap.size := by have := hb3.size; omega
  obtain ⟨ml, hml⟩ : ∃ ml, ml = pick (fun i => !th.getD i false) k := ⟨_, rfl⟩
  have hMk : M ≤ k := by rw [← hlen]; exact pick_len _ _
  have hMM := hlen
  rw [← hml] at hlen HIL
  have HML := Lib.hid hml
  have HLEN := Lib.hid hlen
  have HMM := Lib.hid hMM
  have hMle : M ≤ (pick (fun i => th.getD (k + i) false) m).length := by
    have h1 := pick_both (fun i => th.getD i false) k
    have h2 : (pick (fun i => th.getD i false) (k + m)).length = (pick (fun i => th.getD i false) k).length + (pick (fun i => th.getD (k + i) false) m).length := by rw [pick_split, List.length_append, List.length_map]
    have h3 := HEN.out
    have h4 : (pick (fun i => !th.getD i false) k).length = M := hMM
    have h5 : (pick (fun i => !(fun i => th.getD i false) i) k).length = M := hMM
    omega
  clear hIl hpb hb3 hml hlen hask HM2 HE2 HK2 HB2 hs2 hMM
  by_cases hM0 : M = 0
  · have hm0 : ((M : Int) == 0) = true := by simp; omega
    have HALL := Lib.hid (rec_all k m 0 L (fun i => th.getD i false) X X [] (by rw [← hM0]; exact HMM.out) (by simp) (Nat.zero_le _) (fun i x _ _ => rfl) (fun s x hs => by omega))
    clear hM0
    go_wp2
    go_end0
    exact ⟨rfl, D, X, HM3.out, HB3.out, fun i x _ => rfl, HALL.out⟩
  have hm0 : ((M : Int) == 0) = false := by simp; omega
  have hm00 : decide (M = 0) = false := decide_eq_false hM0
  have hM1 : 1 ≤ M := by omega
  clear hM0
  go_wp2_with fail
  refine (parity_any b k m w3 (HC.out.keep HB3.out)).mono ?_
  rintro e w4 ⟨rfl, rfl⟩
  have HASK2 : Hid (AskI 49 #[.pointer (some ⟨E, 0, none⟩), .pointer (some ⟨E + 1, 0, none⟩)] m (fun i => th.getD (k + i) false) w3) := fun i hi w' hB' =>
    r2_any E (E + 1) i k n cap' q th w' (by rw [hB'.cell (by show E < _; omega)]; exact HE3.out) ((HBL.out.of_below HB3.out).of_below hB') HTH.out (by rw [hB'.cell (by show E + 1 < _; omega)]; exact HK3.out) (by have := HN.out; omega) (by have := HN.out; omega)
  go_wp2_with fail
  refine (where_il _ _ enters_R2 m _ w3 HASK2.out (by omega)).mono ?_
  rintro e w4 ⟨pu, cu, lu, rfl, hlen2, hlc2, hIl2, hpb2, hb4⟩
  have hMlu : M ≤ lu := by rw [← hlen2]; exact hMle
  have hMcu : M ≤ cu := by omega
  obtain ⟨ul, hul⟩ : ∃ ul, ul = (pick (fun i => th.getD (k + i) false) m).take M := ⟨_, rfl⟩
  have hull : ul.length = M := by rw [hul, List.length_take]; omega
  have hIu := hIl2.take M
  rw [← hul] at hIu
  have HUL := Lib.hid hul
  have HULL := Lib.hid hull
  have HUP := Lib.hid (show Picks m ul by rw [hul]; exact picks_take _ _ _)
  have HB4 := Lib.hid (bel_step HB3.out hb4)
  have HM4 := Lib.hid (HM3.out.of_below hb4)
  have HK4 := Lib.hid (show w4.cell? ⟨E + 1, 0, none⟩ = some (.int .i64 (k : Int)) by rw [hb4.cell (by show E + 1 < _; omega)]; exact HK3.out)
  have HIL4 := Lib.hid (HIL.out.of_below hb4)
  have HIU4 := Lib.hid hIu
  have HPU := Lib.hid (show ∀ b, pu = some ⟨b, 0, none⟩ → b ≠ G from fun b e => by have := hpb2 b e; omega)
  have hs4 : E + 2 ≤ w4.heap.size := Nat.le_trans hs3 hb4.size
  have HMLE := Lib.hid hMle
  clear hlen2 hlc2 hIl2 hpb2 hb4 hMlu hul hull hIu hMle HASK2 HE3 HK3 HIL HM3 HB3 hs3 hlc
  have hk4 := HK4.out
  go_wp2_with fail
  clear hk4
  refine (encode_own b k m n L G _ D X w4 (HC.out.keep HB4.out) HM4.out hkn hL).mono ?_
  rintro e w5 ⟨Gp, Dp, rfl, hMp, hb5⟩
  have HB5 := Lib.hid (bel_step HB4.out hb5)
  have HM5 := Lib.hid (HM4.out.of_below hb5)
  have HK5 := Lib.hid (show w5.cell? ⟨E + 1, 0, none⟩ = some (.int .i64 (k : Int)) by rw [hb5.cell (by show E + 1 < _; omega)]; exact HK4.out)
  have HIL5 := Lib.hid (HIL4.out.of_below hb5)
  have HIU5 := Lib.hid (HIU4.out.of_below hb5)
  have HMP5 := Lib.hid hMp
  have hs5 : E + 2 ≤ w5.heap.size := Nat.le_trans hs4 hb5.size
  have hMk8 : M < 100000000 := by omega
  obtain ⟨DM, hDM⟩ : ∃ DM : Mx, DM = fun s x => mm k (cau k) X (ul.getD s 0) x ^^^ X (k + ul.getD s 0) x := ⟨_, rfl⟩
  have hmat : Mp (w5.alloc (.cells (tab M (fun _ => .slice none 0 0)) 38)) w5.heap.size w5.heap.size M 0 L (fun _ => 0) DM := Mp.zero (Row.new w5 _ M _) (Nat.le_refl _)
  have hb6 : Below w5.heap.size w5 (w5.alloc (.cells (tab M (fun _ => .slice none 0 0)) 38)) := (Below.refl _ _).alloc (Nat.le_refl _) _
  have HMD := Lib.hid hmat
  have HB6 := Lib.hid hb6
  have HDM := Lib.hid hDM
  clear hMp hb5 hmat hb6 hDM HB4 HM4 HK4 HIL4 HIU4 hs4
  obtain ⟨f, GC, DC, c1, -, hF, -⟩ := (HC.out.keep HB5.out).mem
  have HF5 := Lib.hid hF
  have HCF := Lib.hid c1
  clear hF c1
  go_wp2
  generalize w5.alloc (.cells (tab M (fun _ => .slice none 0 0)) 38) = w6 at *
  generalize hN5 : w5.heap.size = N5 at *
  have HN5 := Lib.hid hN5
  clear hN5
  go_loopw [12, 13, 48] (fun _ _ i wr => ∃ t : Nat, t ≤ M ∧ i = .int .i64 t ∧ ∃ Dd, Mp wr N5 N5 M t L Dd DM ∧ Below N5 w5 wr) (fun _ _ i _ => M - (intOf i).toNat)
  case atStart => exact ⟨0, Nat.zero_le _, rfl, _, HMD.out, HB6.out⟩
  case round =>
    clear HMD HB6
    obtain ⟨t, ht, rfl, Dd, hMd, hB⟩ := hrel
    rename World => WO
    have HMD := Lib.hid hMd
    have HBO := Lib.hid hB
    by_cases hlt : t < M
    · have hd0 : decide ((t : Int) < (M : Int)) = true := decide_eq_true (by omega)
      have hl0 : (t : Int) < (M : Int) := by omega
      have hBO : Below w5.heap.size w5 WO := by rw [HN5.out]; exact hB
      obtain ⟨gu, rfl, -, hx1⟩ := (HIU5.out.of_below hBO) t (by rw [HULL.out]; exact hlt)
      have hum : ul.getD t 0 < m := (HUP.out t (by rw [HULL.out]; exact hlt)).1
      have hnu : k + ul.getD t 0 < n := by have := HN.out; omega
      have hMPO := HMP5.out.of_below hBO
      have hMO := HM5.out.of_below hBO
      have hx2 := hMPO.cellH (ul.getD t 0) hum hum
      have hx3 : WO.cell? ⟨E + 1, 0, none⟩ = some (.int .i64 (k : Int)) := by rw [hBO.cell (World.block_lt_of_cell? w5 _ HK5.out)]; exact HK5.out
      have hx4 := hMO.cellH (k + ul.getD t 0) hnu hnu
      have hx5 : WO.cell? ⟨b, 0, none⟩ = some (.pointer (some ⟨f, 0, none⟩)) := by rw [hBO.cell (World.block_lt_of_cell? w5 _ HCF.out)]; exact HCF.out
      have HSP := Lib.hid (hMPO.sl (ul.getD t 0) hum)
      have HSA := Lib.hid (hMO.sl (k + ul.getD t 0) hnu)
      have HDMT := Lib.hid (show ∀ x, x < L → (rowL L (mm k (cau k) X) (ul.getD t 0)).getD x 0#8 ^^^ (rowL L X (k + ul.getD t 0)).getD x 0#8 = DM t x from fun x hx => by
        rw [rowL_get _ _ _ _ hx, rowL_get _ _ _ _ hx, HDM.out])
      have HLN1 := Lib.hid (rowL_length L (mm k (cau k) X) (ul.getD t 0))
      have HLN2 := Lib.hid (rowL_length L X (k + ul.getD t 0))
      have hcell : WO.cell? ⟨N5, t, none⟩ = some (hdr t L Dd t) := hMd.hds.cell t hlt
      generalize hr1 : rowL L (mm k (cau k) X) (ul.getD t 0) = r1 at *
      generalize hr2 : rowL L X (k + ul.getD t 0) = r2 at *
      clear hr1 hr2
      generalize Dp (ul.getD t 0) = e1 at *
      generalize hu : ul.getD t 0 = u at *
      generalize D (k + u) = e2 at *
      have hw : IntKind.i64.wrap ((k : Int) + (u : Int)) = (k : Int) + (u : Int) := IntWalk.i64_in _ (by omega)
      have hui : (u : Int) < (m : Int) := by omega
      have hu0 : (0 : Int) ≤ (k : Int) + (u : Int) := by omega
      have hu1 : (k : Int) + (u : Int) < (n : Int) := by omega
      have hu2 : ((k : Int) + (u : Int)).toNat = k + u := by omega
      have hL4 : L < 4294967296 := by omega
      have HGO := Lib.hid (show Gp < WO.heap.size ∧ G < WO.heap.size ∧ E + 1 < WO.heap.size ∧ b < WO.heap.size from ⟨World.block_lt_of_cell? WO _ hx2, World.block_lt_of_cell? WO _ hx4, World.block_lt_of_cell? WO _ hx3, World.block_lt_of_cell? WO _ hx5⟩)
      have HGN := Lib.hid (show Gp ≠ N5 ∧ G ≠ N5 ∧ E + 1 ≠ N5 ∧ b ≠ N5 from by
        have h1 := HMP5.out.ltG
        have h2 := HM5.out.ltG
        have h3 := World.block_lt_of_cell? w5 _ HK5.out
        have h4 := World.block_lt_of_cell? w5 _ HCF.out
        have h5 := HN5.out
        have h3' : E + 1 < w5.heap.size := h3
        have h4' : b < w5.heap.size := h4
        omega)
      clear hMd hB hBO hMPO hMO hu
      go_wp2_with fail
      go_region_held3 (fun w' : World => w'.cell? ⟨b, 0, none⟩ = some (.pointer (some ⟨f, 0, none⟩)) ∧ w'.cell? ⟨Gp, u, none⟩ = some (.slice (some ⟨e1, 0, none⟩) L L) ∧ w'.cell? ⟨E + 1, 0, none⟩ = some (.int .i64 (k : Int)) ∧ w'.cell? ⟨G, k + u, none⟩ = some (.slice (some ⟨e2, 0, none⟩) L L)) (first | exact ⟨hx5, hx2, hx3, hx4⟩ | exact hs7 | exact hs8 _) ((go_at_call 50; refine (plus_any f r1 r2 _ _ L L L _ (HSP.out.dr (Dr.refl _).drew) (HSA.out.dr (Dr.refl _).drew) HLN1.out HLN2.out hL4).mono ?_; rintro e w7 ⟨rfl, hR7, hB7⟩; have hb7 : Below WO.heap.size WO w7 := (Below.refl _ _).drew.trans (by exact hB7); have hs7 : w7.cell? ⟨b, 0, none⟩ = some (.pointer (some ⟨f, 0, none⟩)) ∧ w7.cell? ⟨Gp, u, none⟩ = some (.slice (some ⟨e1, 0, none⟩) L L) ∧ w7.cell? ⟨E + 1, 0, none⟩ = some (.int .i64 (k : Int)) ∧ w7.cell? ⟨G, k + u, none⟩ = some (.slice (some ⟨e2, 0, none⟩) L L) := ⟨by rw [hb7.cell (by exact HGO.out.2.2.2)]; exact hx5, by rw [hb7.cell (by exact HGO.out.1)]; exact hx2, by rw [hb7.cell (by exact HGO.out.2.2.1)]; exact hx3, by rw [hb7.cell (by exact HGO.out.2.1)]; exact hx4⟩; have hm7 := HMD.out.of_below hb7; have c7 : (w7.cell? ⟨N5, t, none⟩).isSome = true := (by rw [hm7.hds.cell t hlt]; rfl); have f7 : w7.frozen? ⟨N5, t, none⟩ = false := hm7.free t; have hs8 : ∀ v, (w7.setCell ⟨N5, t, none⟩ v).cell? ⟨b, 0, none⟩ = some (.pointer (some ⟨f, 0, none⟩)) ∧ (w7.setCell ⟨N5, t, none⟩ v).cell? ⟨Gp, u, none⟩ = some (.slice (some ⟨e1, 0, none⟩) L L) ∧ (w7.setCell ⟨N5, t, none⟩ v).cell? ⟨E + 1, 0, none⟩ = some (.int .i64 (k : Int)) ∧ (w7.setCell ⟨N5, t, none⟩ v).cell? ⟨G, k + u, none⟩ = some (.slice (some ⟨e2, 0, none⟩) L L) := (fun v => ⟨by rw [World.cell?_setCell_far _ _ _ _ (by exact HGN.out.2.2.2.symm)]; exact hs7.1, by rw [World.cell?_setCell_far _ _ _ _ (by exact HGN.out.1.symm)]; exact hs7.2.1, by rw [World.cell?_setCell_far _ _ _ _ (by exact HGN.out.2.2.1.symm)]; exact hs7.2.2.1, by rw [World.cell?_setCell_far _ _ _ _ (by exact HGN.out.2.1.symm)]; exact hs7.2.2.2⟩); have HR7 := Lib.hid hR7; have HB7 := Lib.hid hb7; clear hR7 hB7 hb7 hm7))
      go_wp2
      go_roundw
      case rel =>
        have hm7 := HMD.out.of_below HB7.out
        have hlt5 := hm7.ltG
        have hp := hm7.put t WO.heap.size (DM t) (HR7.out.congr fun x hx => by rw [HDMT.out x hx]) (t + 1) (.inr ⟨rfl, rfl⟩) (fun j hj _ => by have := HMD.out.lt j hj; omega) (by have := HMD.out.ltG; omega) (by have := HMD.out.ltG; omega)
        refine ⟨t + 1, by omega, by go_num, _, hp.congr fun i x hi hx => ?_, (HBO.out.trans (HB7.out.mono (Nat.le_of_lt HMD.out.ltG))).setCell (Nat.le_refl _) _⟩
        unfold setr
        by_cases h : i = t
        · rw [if_pos h, h]
        · rw [if_neg h]
      case measure => simp [intOf]; omega
    · have hd0 : decide ((t : Int) < (M : Int)) = false := decide_eq_false (by omega)
      obtain rfl : t = M := by omega
      have hBO : Below w5.heap.size w5 WO := by rw [HN5.out]; exact hB
      have HBW := Lib.hid (bel_step HB5.out hBO)
      have HMW := Lib.hid (HM5.out.of_below hBO)
      have HILW := Lib.hid (HIL5.out.of_below hBO)
      have HIUW := Lib.hid (HIU5.out.of_below hBO)
      have HCW := Lib.hid ((HC.out.keep HB5.out).keep hBO)
      have hx5 : WO.cell? ⟨b, 0, none⟩ = some (.pointer (some ⟨f, 0, none⟩)) := by rw [hBO.cell (World.block_lt_of_cell? w5 _ HCF.out)]; exact HCF.out
      have HFW := Lib.hid (HF5.out.of_below hBO)
      have hltb : b < WO.heap.size := World.block_lt_of_cell? WO _ hx5
      have hs6 : E + 2 ≤ WO.heap.size := by have := hBO.size; have := HN5.out; omega
      have HGU := Lib.hid (Good.mats (cutM k ul ml) hM1 (by omega) hM1 (by omega))
      have HNOT := Lib.hid (cut_not k m t ul ml (by omega) (by omega) HUP.out (by rw [HML.out]; exact picks_pick _ _) HULL.out HLEN.out)
      clear hMd hB hBO HM5 HB5 HIL5 HIU5 HF5 HCF HMP5 HK5 HBO
      go_wp2_with fail
      go_region_held3 (fun w' : World => w'.cell? ⟨b, 0, none⟩ = some (.pointer (some ⟨f, 0, none⟩))) (first | exact hx5 | exact hx7 | exact hx8) ((first | (go_at_call 52; refine (sub_any b k m t t _ _ ul ml _ _ _ (HCW.out.dr (Dr.refl _).drew) (HIUW.out.dr (Dr.refl _).drew) (HILW.out.dr (Dr.refl _).drew) HULL.out HLEN.out (fun i hi => (HUP.out i (by rw [HULL.out]; exact hi)).1) (fun j hj => by have := (picks_pick (fun i => !th.getD i false) k j (by rw [← HML.out, HLEN.out]; exact hj)).1; rw [← HML.out] at this; exact this) (by omega) (by omega)).mono ?_; rintro e w7 ⟨G7, rfl, hP7, hB7⟩; have hb7 : Below WO.heap.size WO w7 := (Below.refl _ _).drew.trans (by exact hB7); have hx7 : w7.cell? ⟨b, 0, none⟩ = some (.pointer (some ⟨f, 0, none⟩)) := (by rw [hb7.cell (by exact hltb)]; exact hx5); have HP7 := Lib.hid hP7; have HB7 := Lib.hid hb7; have hl7 : b < w7.heap.size := Nat.lt_of_lt_of_le hltb hb7.size; clear hP7 hB7 hb7) | (go_at_call 51; refine (inv_of (HFW.out.of_below HB7.out) HP7.out HGU.out HNOT.out).mono ?_; rintro e w8 ⟨G8, V, rfl, hIV, hP8, hB8⟩; have hx8 : w8.cell? ⟨b, 0, none⟩ = some (.pointer (some ⟨f, 0, none⟩)) := (by rw [hB8.cell (by exact hl7)]; exact hx7); have HP8 := Lib.hid hP8; have HB8 := Lib.hid (bel_step HB7.out hB8); have HIV := Lib.hid hIV; clear hIV hP8 hB8)))
      have hMDV := HMD.out.of_below HB8.out
      have HMD8 := Lib.hid hMDV
      have HF8 := Lib.hid (HFW.out.of_below HB8.out)
      have hs8' : E + 2 ≤ w8.heap.size := Nat.le_trans hs6 HB8.out.size
      have HMG := Lib.hid (HMW.out.of_below HB8.out)
      have HBG := Lib.hid (bel_step HBW.out HB8.out)
      have HILG := Lib.hid (HILW.out.of_below HB8.out)
      clear hMDV hx5 hx7 HP7 HB7 HFW HMW HBW HILW HIUW HCW HMD HNOT HGU hl7
      go_wp2_with fail
      refine (apply_ok f (rowsL t t V) (rowsL t L DM) _ _ t t L t _ w8 HF8.out HP8.out HMD8.out.prt (Good.mats V hM1 (by omega) hM1 (by omega)) (rowsL_length _ _ _) (fun i hi => rowsL_len _ _ _ _ hi) (by omega)).mono ?_
      rintro e w9 ⟨Gf, Df, rfl, hMf, hB9⟩
      have HMF := Lib.hid (hMf.congr (b := mm t V DM) fun i j hi hj => mm_congr (fun l hl => rowsL_mx t t V i l hi hl) (fun l hl => rowsL_mx t L DM l j hl hj))
      have HM9 := Lib.hid (HMG.out.of_below hB9)
      have HB9 := Lib.hid (bel_step HBG.out hB9)
      have HIL9 := Lib.hid (HILG.out.of_below hB9)
      have HD8 := Lib.hid (show ∀ j, j < n → D j < w8.heap.size from fun j hj => by have := HDL.out j hj; omega)
      have HPT := Lib.hid (show ∀ s, s < t → ml.getD s 0 < k ∧ th.getD (ml.getD s 0) false = false from fun s hs => by
        have := pick_at (f := fun i => !th.getD i false) (n := k) s (by rw [← HML.out, HLEN.out]; exact hs)
        rw [← HML.out] at this
        exact ⟨this.1, by simpa using this.2⟩)
      have HPI := Lib.hid (show ∀ a b, a < t → b < t → ml.getD a 0 = ml.getD b 0 → a = b from fun a b ha hb h => by
        rw [HML.out] at h
        exact pick_inj _ _ a b (by rw [← HML.out, HLEN.out]; exact ha) (by rw [← HML.out, HLEN.out]; exact hb) h)
      have hG8 : G < w8.heap.size := by omega
      have hN08 : w0.heap.size ≤ w8.heap.size := HBG.out.size
      clear hMf hB9 HMG HBG HILG HMD8 HP8 hx8 HF8
      go_wp2
      go_loopw [18, 19, 99] (fun _ _ i wr => ∃ s : Nat, s ≤ t ∧ i = .int .i64 s ∧ Kp G w9 wr ∧ Mp wr w0.heap.size G n n L (putD D Df (fun s => ml.getD s 0) (fun s => s) s) (putX X (mm t V DM) (fun s => ml.getD s 0) (fun s => s) s)) (fun _ _ i _ => t - (intOf i).toNat)
      case atStart => exact ⟨0, Nat.zero_le _, rfl, Kp.refl _ _, HM9.out⟩
      case round =>
        obtain ⟨s, hs, rfl, hK, hM⟩ := hrel
        rename World => WP
        have HKP := Lib.hid hK
        have HMO := Lib.hid hM
        by_cases hlt : s < t
        · have hd0 : decide ((s : Int) < (t : Int)) = true := decide_eq_true (by omega)
          have hl0 : (s : Int) < (t : Int) := by omega
          obtain ⟨gp, rfl, -, hx1⟩ := (HIL9.out.of_kp hK HPB.out) s (by rw [HLEN.out]; exact hlt)
          have huk := (HPT.out s hlt).1
          have hMFO := HMF.out.of_kp hK (by have := HMF.out.loG; omega) (fun i hi => by have := HMF.out.lo i hi; omega)
          have HMFO := Lib.hid hMFO
          have hx2 := hMFO.cellH s hlt hlt
          have hcell : WP.cell? ⟨G, ml.getD s 0, none⟩ = some (hdr n L (putD D Df (fun s => ml.getD s 0) (fun s => s) s) (ml.getD s 0)) := hM.hds.cell _ (by omega)
          have hfr : WP.frozen? ⟨G, ml.getD s 0, none⟩ = false := hM.free _
          generalize hu : ml.getD s 0 = u at *
          have HU := Lib.hid hu
          have hui : (u : Int) < (n : Int) := by omega
          clear hK hM hMFO hu
          go_wp2
          go_roundw
          case rel =>
            have hm := HMO.out.puts HMFO.out HD8.out (by omega) (by omega) (by show ml.getD s 0 < n; rw [HU.out]; omega) (fun a ha => by show a < t; omega) (fun a ha e => by have e' : a = s := e; omega)
            refine ⟨s + 1, by omega, by go_num, HKP.out.setCell _ _, ?_⟩
            simp only [HU.out] at hm
            exact hm
          case measure => simp [intOf]; omega
        · have hd0 : decide ((s : Int) < (t : Int)) = false := decide_eq_false (by omega)
          obtain rfl : s = t := by omega
          clear hK hM
          go_wp2
          go_end0
          have hno : ∀ i x, ¬ (i < k ∧ th.getD i false = false) → putX X (mm s V DM) (fun s => ml.getD s 0) (fun s => s) s i x = X i x := fun i x h => putX_no X _ _ _ s i x fun a ha e => h (by
            have e' : ml.getD a 0 = i := e
            have := HPT.out a ha
            rw [e'] at this
            exact this)
          have hyes : ∀ a x, a < s → x < L → putX X (mm s V DM) (fun s => ml.getD s 0) (fun s => s) s (ml.getD a 0) x = mm s V DM a x := fun a x ha _ => putX_yes X (mm s V DM) (fun s => ml.getD s 0) (fun s => s) s a x ha HPI.out
          refine ⟨rfl, _, _, HMO.out, HB9.out.trans (HKP.out.below HM9.out.loG (by have := HB9.out.size; omega)), hno, ?_⟩
          refine rec_all k m s L (fun i => th.getD i false) X _ ul HMM.out HUL.out HMLE.out (fun i x hi hf => hno i x (fun h => by rw [show th.getD i false = true from hf] at h; cases h.2)) fun a x ha hx => ?_
          exact rec_sum k m s L (fun i => th.getD i false) X V ul ml HML.out HLEN.out HZ.out HIV.out DM _ (fun a x _ _ => by rw [HDM.out]) (fun i x hi hf => hno i x (fun h => by rw [show th.getD i false = true from hf] at h; cases h.2)) hyes a x ha hx
end Go.Proofs.Ytphpliclecmnlaa
/- The program's Decode. -/
namespace Go.Proofs.Ytphpliclecmnlaa
open Go Go.RowKit

theorem dec_no {k m : Nat} {ls : List (List (BitVec 8))} {th : List Bool} {w w' : World} (h : ¬ (ls.length = k + m ∧ th.length = k + m ∧ eqB (thereL ls th) = true)) (hB : Below w.heap.size w w') : RetR w (DecR k m ls th) (.returned (.tuple #[.slice none 0 0, .int .i64 2])) w' :=
  ⟨_, _, rfl, .inl ⟨h, rfl, rfl⟩, hB⟩
theorem there_len (ls : List (List (BitVec 8))) (th : List Bool) : (thereL ls th).length = (pick (fun i => th.getD i false) ls.length).length := by simp [thereL, pick]
theorem there_get (ls : List (List (BitVec 8))) (th : List Bool) (j : Nat) (h : j < (pick (fun i => th.getD i false) ls.length).length) : (thereL ls th).getD j [] = ls.getD ((pick (fun i => th.getD i false) ls.length).getD j 0) [] := by
  unfold thereL
  show (List.map (fun i => ls.getD i []) (pick (fun i => th.getD i false) ls.length)).getD j [] = _
  generalize pick (fun i => th.getD i false) ls.length = l at *
  simp [List.getD_eq_getElem?_getD, h]
theorem st_HI (a : Addr) (q : Option Addr) (n c : Nat) (w : World) (hcell : (w.cell? a).isSome = true) (hf : w.frozen? a = false) : (stT 64 (.pointer (some a)) (.slice q n c)).run Try.prog w = .ok .skip (w.setCell a (.slice q n c)) :=
  stT_one 64 a _ w rfl rfl (by kernel_rfl) hcell hf
attribute [local go_sem ↓] exec_store exec_make exec_slice
attribute [local go_sem] st_H st_HI st_I mkR mkB
section
variable (b k m : Nat) (ls : List (List (BitVec 8))) (th : List Bool) (p q : Option Addr) (n l cap cap' : Nat) (w : World)
set_option maxHeartbeats 4000000 in
theorem dec_a (hC : Cd w b k m) (hne : n ≠ k + m) (hn : n < 1000) : Calls Try.prog 19 #[.pointer (some ⟨b, 0, none⟩), .slice p n cap, .slice q l cap'] w (fun e w' => e = .returned (.tuple #[.slice none 0 0, .int .i64 2]) ∧ Below w.heap.size w w') := by
  have hB : Below w.heap.size w ((w.alloc (.cells #[.slice p n cap] 23)).alloc (.cells #[.slice q l cap'] 40)) := ((Below.refl _ _).alloc (Nat.le_refl _) _).alloc (by rw [World.size_alloc]; omega) _
  have HC := Lib.hid (hC.keep hB)
  have HB := Lib.hid hB
  have hx : ((w.alloc (.cells #[.slice p n cap] 23)).alloc (.cells #[.slice q l cap'] 40)).cell? ⟨w.heap.size, 0, none⟩ = some (.slice p n cap) := by
    rw [World.cell?_alloc_lt _ _ _ (by rw [World.size_alloc]; show w.heap.size < _; omega), World.cell?_alloc_new]; rfl
  have h1 : ((n : Int) != (k : Int) + (m : Int)) = true := by simp; omega
  have h2 : ((n : Int) == (k : Int) + (m : Int)) = false := by simp; omega
  clear hC hB hne
  go_enter Try.func19, Try.ntmps19
  go_wp2
  go_quiet ((go_at_call 29; exact Calls.quiet_of_same ((count_any b k m _ (HC.out.dr ((Dr.refl _).drewN _))).mono fun e w' ⟨he, hw⟩ => ⟨he, hw.symm⟩)))
  go_wp2
  go_ret2
  exact ⟨rfl, below_drewN HB.out _⟩
set_option maxHeartbeats 4000000 in
theorem dec_b (hC : Cd w b k m) (hne : n = k + m) (hne2 : l ≠ k + m) (hn : n < 1000) (hl : l < 1000) : Calls Try.prog 19 #[.pointer (some ⟨b, 0, none⟩), .slice p n cap, .slice q l cap'] w (fun e w' => e = .returned (.tuple #[.slice none 0 0, .int .i64 2]) ∧ Below w.heap.size w w') := by
  have hB : Below w.heap.size w ((w.alloc (.cells #[.slice p n cap] 23)).alloc (.cells #[.slice q l cap'] 40)) := ((Below.refl _ _).alloc (Nat.le_refl _) _).alloc (by rw [World.size_alloc]; omega) _
  have HC := Lib.hid (hC.keep hB)
  have HB := Lib.hid hB
  have hx : ((w.alloc (.cells #[.slice p n cap] 23)).alloc (.cells #[.slice q l cap'] 40)).cell? ⟨w.heap.size, 0, none⟩ = some (.slice p n cap) := by
    rw [World.cell?_alloc_lt _ _ _ (by rw [World.size_alloc]; show w.heap.size < _; omega), World.cell?_alloc_new]; rfl
  have hy : ((w.alloc (.cells #[.slice p n cap] 23)).alloc (.cells #[.slice q l cap'] 40)).cell? ⟨w.heap.size + 1, 0, none⟩ = some (.slice q l cap') := by
    rw [← World.size_alloc w (.cells #[.slice p n cap] 23), World.cell?_alloc_new]; rfl
  have h1 : ((n : Int) != (k : Int) + (m : Int)) = false := by simp; omega
  have h2 : ((n : Int) == (k : Int) + (m : Int)) = true := by simp; omega
  have h3 : ((l : Int) != (k : Int) + (m : Int)) = true := by simp; omega
  have h4 : ((l : Int) == (k : Int) + (m : Int)) = false := by simp; omega
  clear hC hB hne hne2
  go_enter Try.func19, Try.ntmps19
  go_wp2
  go_quiet ((go_at_call 29; exact Calls.quiet_of_same ((count_any b k m _ (HC.out.dr ((Dr.refl _).drewN _))).mono fun e w' ⟨he, hw⟩ => ⟨he, hw.symm⟩)))
  go_wp2
  go_ret2
  exact ⟨rfl, below_drewN HB.out _⟩
set_option maxRecDepth 100000 in
set_option maxHeartbeats 16000000 in
theorem dec_c (hC : Cd w b k m) (hs : Prt w p ls) (hb : Bl w q th) (hl : ls.length = n) (hth : th.length = n) (hn : n = k + m) (hlen : ∀ i, i < n → (ls.getD i []).length < 100000) :
    Calls Try.prog 19 #[.pointer (some ⟨b, 0, none⟩), .slice p n cap, .slice q n cap'] w (RetR w (DecR k m ls th)) := by
  have hk1 := hC.k1
  have hm1 := hC.m1
  have hkm := hC.hi
  have hB : Below w.heap.size w ((w.alloc (.cells #[.slice p n cap] 23)).alloc (.cells #[.slice q n cap'] 40)) := ((Below.refl _ _).alloc (Nat.le_refl _) _).alloc (by rw [World.size_alloc]; omega) _
  have HC0 := Lib.hid hC
  have HBL0 := Lib.hid hb
  have HC := Lib.hid (hC.keep hB)
  have HB := Lib.hid hB
  have HS := Lib.hid (hs.of_below hB)
  have HBL := Lib.hid (hb.of_below hB)
  have HL := Lib.hid hl
  have HTH := Lib.hid hth
  have HN := Lib.hid hn
  have HLEN := Lib.hid hlen
  have hx : ((w.alloc (.cells #[.slice p n cap] 23)).alloc (.cells #[.slice q n cap'] 40)).cell? ⟨w.heap.size, 0, none⟩ = some (.slice p n cap) := by
    rw [World.cell?_alloc_lt _ _ _ (by rw [World.size_alloc]; show w.heap.size < _; omega), World.cell?_alloc_new]; rfl
  have hy : ((w.alloc (.cells #[.slice p n cap] 23)).alloc (.cells #[.slice q n cap'] 40)).cell? ⟨w.heap.size + 1, 0, none⟩ = some (.slice q n cap') := by
    rw [← World.size_alloc w (.cells #[.slice p n cap] 23), World.cell?_alloc_new]; rfl
  have hsz : ((w.alloc (.cells #[.slice p n cap] 23)).alloc (.cells #[.slice q n cap'] 40)).heap.size = w.heap.size + 2 := by rw [World.size_alloc, World.size_alloc]
  have h1 : ((n : Int) != (k : Int) + (m : Int)) = false := by simp; omega
  have h2 : ((n : Int) == (k : Int) + (m : Int)) = true := by simp; omega
  have hn32 : n ≤ 32 := by omega
  clear hC hB hs hb hl hth hn hlen
  go_enter Try.func19, Try.ntmps19
  go_wp2
  go_quiet ((go_at_call 29; exact Calls.quiet_of_same ((count_any b k m _ (HC.out.dr ((Dr.refl _).drewN _))).mono fun e w' ⟨he, hw⟩ => ⟨he, hw.symm⟩)))
  have HC1 := Lib.hid (HC.out.dr ((Dr.refl _).drewN nq))
  have HS1 := Lib.hid (HS.out.dr ((Dr.refl _).drewN nq))
  have HBL1 := Lib.hid (HBL.out.dr ((Dr.refl _).drewN nq))
  have HB1 := Lib.hid (below_drewN HB.out nq)
  have hx1 : (((w.alloc (.cells #[.slice p n cap] 23)).alloc (.cells #[.slice q n cap'] 40)).drewN nq).cell? ⟨w.heap.size, 0, none⟩ = some (.slice p n cap) := hx
  have hy1 : (((w.alloc (.cells #[.slice p n cap] 23)).alloc (.cells #[.slice q n cap'] 40)).drewN nq).cell? ⟨w.heap.size + 1, 0, none⟩ = some (.slice q n cap') := hy
  have hsz1 : (((w.alloc (.cells #[.slice p n cap] 23)).alloc (.cells #[.slice q n cap'] 40)).drewN nq).heap.size = w.heap.size + 2 := hsz
  clear hx hy hsz HC HS HBL HB
  generalize ((w.alloc (.cells #[.slice p n cap] 23)).alloc (.cells #[.slice q n cap'] 40)).drewN nq = w1 at *
  generalize hE : w.heap.size = E at *
  have HE := Lib.hid hE
  clear hE
  have HX1 := Lib.hid hx1
  have HY1 := Lib.hid hy1
  have HASK : Hid (AskI 34 #[.pointer (some ⟨E + 1, 0, none⟩)] n (fun i => th.getD i false) w1) := fun i hi w' hB' =>
    d1_any (E + 1) i n cap' q th w' (by rw [hB'.cell (World.block_lt_of_cell? w1 _ HY1.out)]; exact HY1.out) (HBL1.out.of_below hB') HTH.out hi
  go_wp2_with fail
  refine (where_il _ _ enters_D1 n _ w1 HASK.out (by omega)).mono ?_
  rintro e w2 ⟨pl, cl, cnt, rfl, hcnt, hcc, hIl, hpb, hB2⟩
  have hs2 : E + 2 ≤ w2.heap.size := by have := hB2.size; omega
  have hb3 : Below w2.heap.size w2 (w2.alloc (.cells #[.slice pl cnt cl] 64)) := (Below.refl _ _).alloc (Nat.le_refl _) _
  have hB3 := bel_step hB2 hb3
  have HB3 := Lib.hid (HB1.out.trans (hB3.mono (by omega)))
  have HX3 := Lib.hid (show (w2.alloc (.cells #[.slice pl cnt cl] 64)).cell? ⟨E, 0, none⟩ = some (.slice p n cap) by rw [hB3.cell (World.block_lt_of_cell? w1 _ HX1.out)]; exact HX1.out)
  have HY3 := Lib.hid (show (w2.alloc (.cells #[.slice pl cnt cl] 64)).cell? ⟨E + 1, 0, none⟩ = some (.slice q n cap') by rw [hB3.cell (World.block_lt_of_cell? w1 _ HY1.out)]; exact HY1.out)
  have HZ3 := Lib.hid (show (w2.alloc (.cells #[.slice pl cnt cl] 64)).cell? ⟨w2.heap.size, 0, none⟩ = some (.slice pl cnt cl) from World.cell?_alloc_new _ _ _ _)
  have HS3 := Lib.hid (HS1.out.of_below hB3)
  have HC3 := Lib.hid (HC1.out.keep hB3)
  have HBL3 := Lib.hid (HBL1.out.of_below hB3)
  have hs3 : (w2.alloc (.cells #[.slice pl cnt cl] 64)).heap.size = w2.heap.size + 1 := World.size_alloc ..
  obtain ⟨il, hil⟩ : ∃ il, il = pick (fun i => th.getD i false) n := ⟨_, rfl⟩
  have hilm : ∀ j, j < cnt → il.getD j 0 < n ∧ th.getD (il.getD j 0) false = true := fun j hj => by rw [hil]; exact pick_at j (by rw [hcnt]; exact hj)
  have hili : ∀ i j, i < cnt → j < cnt → il.getD i 0 = il.getD j 0 → i = j := fun i j hi hj h => by rw [hil] at h; exact pick_inj _ _ i j (by rw [hcnt]; exact hi) (by rw [hcnt]; exact hj) h
  rw [← hil] at hIl hcnt
  have HIL3 := Lib.hid (hIl.of_below hb3)
  have HCNT := Lib.hid hcnt
  have HILD := Lib.hid hil
  have HILM := Lib.hid hilm
  have HILI := Lib.hid hili
  have hTL : Hid ((thereL ls th).length = cnt) := by show (thereL ls th).length = cnt; rw [there_len, HL.out, ← HILD.out, hcnt]
  have HTG : Hid (∀ j, j < cnt → (thereL ls th).getD j [] = ls.getD (il.getD j 0) []) := fun j hj => by
    have := there_get ls th j (by rw [HL.out, ← HILD.out, hcnt]; exact hj)
    rw [this, HL.out, ← HILD.out]
  clear hIl hcnt hil hilm hili hpb hB2 hb3 hB3 HX1 HY1 HS1 HC1 HBL1 HB1 hx1 hy1 HASK
  go_wp2_with fail
  generalize w2.alloc (.cells #[.slice pl cnt cl] 64) = w3 at *
  generalize w2.heap.size = F at *
  obtain ⟨L, hLL⟩ : ∃ L, L = (ls.getD (il.getD 0 0) []).length := ⟨_, rfl⟩
  have HASK : Hid (AsksI 36 #[.pointer (some ⟨E, 0, none⟩), .pointer (some ⟨F, 0, none⟩)] il (fun j => decide ((ls.getD (il.getD j 0) []).length ≠ L)) w3) := fun j hj w' hD => by
    have h0 : 0 < cnt := by rw [← HCNT.out]; omega
    obtain ⟨g, rfl, -, hc⟩ := (HIL3.out.dr hD) 0 (by rw [HCNT.out]; exact h0)
    have := d2_any E F (il.getD j 0) (il.getD 0 0) n cap cnt cl p g ls w' (by rw [hD.cell]; exact HX3.out) (HS3.out.dr hD) HL.out (by rw [hD.cell]; exact HZ3.out) hc (HILM.out 0 h0).1 (HILM.out j (by rw [← HCNT.out]; exact hj)).1 h0
    rw [hLL]
    exact this
  have HLL := Lib.hid hLL
  clear hLL
  rcases hit_or (fun j => decide ((ls.getD (il.getD j 0) []).length ≠ L)) cnt with ⟨t, ht⟩ | ht
  · have hne : Hid (¬ (ls.length = k + m ∧ th.length = k + m ∧ eqB (thereL ls th) = true)) := fun ⟨_, _, g⟩ => by
      have g1 := (of_decide_eq_true g) t (by rw [hTL.out]; exact ht.1)
      rw [HTG.out t ht.1, HTG.out 0 (by have := ht.1; omega)] at g1
      exact of_decide_eq_true ht.2.1 (by rw [HLL.out]; exact g1)
    have HT := Lib.hid ht
    clear ht
    refine (containsI_hit _ _ enters_D2 il _ pl cnt cl w3 HASK.out HIL3.out HCNT.out (by have := HILD.out; have := pick_len (fun i => th.getD i false) n; have := HCNT.out; simp_all; omega) t HT.out).mono ?_
    rintro e w4 ⟨rfl, hD4⟩
    have HB4 := Lib.hid (HB3.out.trans (hD4.below E))
    clear hD4
    go_wp2
    go_ret2
    exact dec_no hne.out (by rw [HE.out]; exact HB4.out)
  have hcn : cnt ≤ n := by
    have h1 := pick_len (fun i => th.getD i false) n
    rw [← HILD.out, HCNT.out] at h1
    exact h1
  have HEQ : Hid (ls.length = k + m ∧ th.length = k + m ∧ eqB (thereL ls th) = true) := ⟨HL.out.trans HN.out, HTH.out.trans HN.out, decide_eq_true fun j hj => by
    rw [hTL.out] at hj
    rw [HTG.out j hj, HTG.out 0 (by omega), ← HLL.out]
    exact Decidable.byContradiction fun e => of_decide_eq_false (ht j hj) e⟩
  have HROW : Hid (∀ j, j < cnt → (ls.getD (il.getD j 0) []).length = L) := fun j hj => Decidable.byContradiction fun e => of_decide_eq_false (ht j hj) e
  have HT := Lib.hid ht
  clear ht
  refine (containsI_miss _ _ enters_D2 il _ pl cnt cl w3 HASK.out HIL3.out HCNT.out (by omega) HT.out).mono ?_
  rintro e w4 ⟨rfl, hD4⟩
  have HB4 := Lib.hid (HB3.out.trans (hD4.below E))
  have hx4 : w4.cell? ⟨E, 0, none⟩ = some (.slice p n cap) := by rw [hD4.cell]; exact HX3.out
  have hy4 : w4.cell? ⟨E + 1, 0, none⟩ = some (.slice q n cap') := by rw [hD4.cell]; exact HY3.out
  have hz4 : w4.cell? ⟨F, 0, none⟩ = some (.slice pl cnt cl) := by rw [hD4.cell]; exact HZ3.out
  have HIL4 := Lib.hid (HIL3.out.dr hD4)
  have HS4 := Lib.hid (HS3.out.dr hD4)
  have HC4 := Lib.hid (HC3.out.dr hD4)
  have HBL4 := Lib.hid (HBL3.out.dr hD4)
  have hs4 : w4.heap.size = F + 1 := by rw [hD4.heap]; exact hs3
  have HX4 := Lib.hid hx4
  have HY4 := Lib.hid hy4
  have HZ4 := Lib.hid hz4
  clear hD4 HX3 HY3 HZ3 HIL3 HS3 HC3 HBL3 HB3 HASK HT hs3
  by_cases hck : cnt < k
  · have hd : decide ((cnt : Int) < (k : Int)) = true := decide_eq_true (by omega)
    have HCK := Lib.hid hck
    clear hck
    go_wp2
    go_quiet ((go_at_call 21; exact Calls.quiet_of_same ((data_any b k m _ (HC4.out.dr ((Dr.refl _).drewN _))).mono fun e w' ⟨he, hw⟩ => ⟨he, hw.symm⟩)))
    go_wp2
    go_ret2
    exact ⟨_, _, rfl, .inr ⟨HEQ.out, .inl ⟨by rw [hTL.out]; exact HCK.out, rfl, rfl⟩⟩, by rw [HE.out]; exact below_drewN HB4.out _⟩
  have hd : decide ((cnt : Int) < (k : Int)) = false := decide_eq_false (by omega)
  have hc0 : 0 < cnt := by omega
  have HCK := Lib.hid (show k ≤ cnt by omega)
  obtain ⟨gl, rfl, hgl, hcl0⟩ := HIL4.out 0 (by rw [HCNT.out]; exact hc0)
  go_wp2
  go_quiet ((go_at_call 21; exact Calls.quiet_of_same ((data_any b k m _ (HC4.out.dr ((Dr.refl _).drewN _))).mono fun e w' ⟨he, hw⟩ => ⟨he, hw.symm⟩)))
  have hx5 : (w4.drewN nq).cell? ⟨E, 0, none⟩ = some (.slice p n cap) := hx4
  have hn8 : n < 100000000 := by omega
  have hmat : Mp ((w4.drewN nq).alloc (.cells (tab n (fun _ => .slice none 0 0)) 38)) (F + 1) (F + 1) n 0 L (fun _ => 0) (fun _ _ => 0#8) := by
    have := Mp.zero (D := fun _ => 0) (m := L) (a := fun _ _ => 0#8) (Row.new (w4.drewN nq) 38 n (fun _ => .slice none 0 0)) (show F + 1 ≤ (w4.drewN nq).heap.size by show F + 1 ≤ w4.heap.size; omega)
    rw [show (w4.drewN nq).heap.size = F + 1 from hs4] at this
    exact this
  have hb5 : Below w4.heap.size w4 ((w4.drewN nq).alloc (.cells (tab n (fun _ => .slice none 0 0)) 38)) := (below_drewN (Below.refl _ _) nq).alloc (Nat.le_refl _) _
  have HM5 := Lib.hid hmat
  have HB5 := Lib.hid hb5
  have HL0 := Lib.hid (HILM.out 0 hc0)
  obtain ⟨c, o, q0, cp0, rfl, -, hcs0, -, -, -⟩ := HS4.out.at_ (il.getD 0 0) (by rw [HL.out]; exact HL0.out.1)
  rw [← HLL.out] at hcs0
  have hL5 : L < 100000 := by rw [HLL.out]; exact HLEN.out _ HL0.out.1
  have hL4 : L < 4294967296 := by omega
  have HCL0 := Lib.hid hcl0
  have HCS0 := Lib.hid hcs0
  clear hmat hb5 hcl0 hcs0 hck
  go_wp2
  clear hx5 hx4 hy4 hz4
  generalize (w4.drewN nq).alloc (.cells (tab n (fun _ => .slice none 0 0)) 38) = w5 at *
  go_loopw [10, 42] (fun _ i wr => ∃ i0 : Nat, i0 ≤ n ∧ i = .int .i64 i0 ∧ ∃ D, Mp wr (F + 1) (F + 1) n i0 L D (fun _ _ => 0#8) ∧ Below (F + 1) w4 wr) (fun _ i _ => n - (intOf i).toNat)
  case atStart => exact ⟨0, Nat.zero_le _, rfl, _, HM5.out, by rw [← hs4]; exact HB5.out⟩
  case round =>
    clear HM5 HB5
    obtain ⟨i0, hi0, rfl, D, hM, hB⟩ := hrel
    rename World => WO
    have HM := Lib.hid hM
    have HBr := Lib.hid hB
    have hGlt : F + 1 < WO.heap.size := hM.ltG
    have kp : ∀ (a : Addr) v, w4.cell? a = some v → WO.cell? a = some v ∧ a.block < F + 1 := fun a v h => by
      have h1 := World.block_lt_of_cell? w4 a h
      exact ⟨by rw [hB.cell (by omega)]; exact h, by omega⟩
    obtain ⟨x1, b1⟩ := kp _ _ HX4.out
    obtain ⟨x2, b2⟩ := kp _ _ HZ4.out
    obtain ⟨x3, b3⟩ := kp _ _ HCL0.out
    obtain ⟨x4, b4⟩ := kp _ _ HCS0.out
    have HKP := Lib.hid kp
    clear kp
    by_cases hlt : i0 < n
    · have hd0 : decide ((i0 : Int) < (n : Int)) = true := decide_eq_true (by omega)
      have hl0 : (i0 : Int) < (n : Int) := by omega
      have hln : il.getD 0 0 < n := HL0.out.1
      have hc0i : (0 : Int) < (cnt : Int) := by omega
      generalize il.getD 0 0 = l0 at *
      have hlni : (l0 : Int) < (n : Int) := by omega
      have hbA : Below WO.heap.size WO (WO.drew.alloc (.cells (zb L) 5)) := (Below.refl _ _).drew.alloc (Nat.le_refl _) _
      have hr : Row (WO.drew.alloc (.cells (zb L) 5)) WO.heap.size 5 L (fun j => B 0#8) := Row.new WO.drew _ L _
      have hMA := hM.of_below hbA
      have hc2 : WO.cell? ⟨F + 1, i0, none⟩ = some (hdr i0 L D i0) := hM.hds.cell i0 hlt
      have hf2 : WO.frozen? ⟨F + 1, i0, none⟩ = false := hM.free i0
      have hcm : (WO.drew.alloc (.cells (zb L) 5)).cell? ⟨F + 1, i0, none⟩ = some (hdr i0 L D i0) := hMA.hds.cell i0 hlt
      have hfm : (WO.drew.alloc (.cells (zb L) 5)).frozen? ⟨F + 1, i0, none⟩ = false := hMA.free i0
      have hMB := hMA.put i0 WO.heap.size (fun _ => 0#8) hr (i0 + 1) (.inr ⟨rfl, rfl⟩) (fun j hj _ => by have := hM.lt j hj; omega) (by omega) (by omega)
      have hcomm : (WO.drew.alloc (.cells (zb L) 5)).setCell ⟨F + 1, i0, none⟩ (.slice (some ⟨WO.heap.size, 0, none⟩) L L) = ((WO.setCell ⟨F + 1, i0, none⟩ (.slice (some ⟨WO.heap.size, 0, none⟩) L L)).alloc (.cells (zb L) 5)).drew := (World.setCell_alloc_past (w := WO.drew) _ (F + 1) i0 _ (by exact hGlt)).trans rfl
      have HCM := Lib.hid hcomm
      have HM1 := Lib.hid hMB
      have HB1 := Lib.hid (show Below (F + 1) w4 ((WO.drew.alloc (.cells (zb L) 5)).setCell ⟨F + 1, i0, none⟩ (.slice (some ⟨WO.heap.size, 0, none⟩) L L)) from ((hB.drew).alloc (Nat.le_of_lt hGlt) _).setCell (Nat.le_refl _) _)
      clear hbA hr hMA hMB hM hB hcomm
      go_wp2
      go_region
      go_wp2
      go_roundw
      case rel =>
        have hm := HM1.out
        have hb := HB1.out
        rw [HCM.out] at hm hb
        refine ⟨i0 + 1, by omega, by go_num, _, hm.congr fun x y _ _ => ?_, hb⟩
        unfold setr
        split <;> rfl
      case measure => simp [intOf]; omega
    · have hd0 : decide ((i0 : Int) < (n : Int)) = false := decide_eq_false (by omega)
      obtain rfl : i0 = n := by omega
      obtain ⟨XS, hXS⟩ : ∃ XS : Nat → Mx, XS = fun s => putX (fun _ _ => 0#8) (mx ls) (fun s => il.getD s 0) (fun s => il.getD s 0) s := ⟨_, rfl⟩
      have HXS := Lib.hid hXS
      have HM0 := Lib.hid (show Mp WO (F + 1) (F + 1) i0 i0 L D (XS 0) by rw [hXS]; exact HM.out)
      clear hM hB x1 x3 x4 HM hXS
      go_wp2
      clear x2
      go_loopw [12, 59] (fun _ i wr => ∃ s : Nat, s ≤ cnt ∧ i = .int .i64 s ∧ Mp wr (F + 1) (F + 1) i0 i0 L D (XS s) ∧ Below (F + 1) w4 wr) (fun _ i _ => cnt - (intOf i).toNat)
      case atStart => exact ⟨0, Nat.zero_le _, rfl, HM0.out, HBr.out⟩
      case round =>
        clear HM0 HBr HKP
        obtain ⟨s, hs, rfl, hM, hB⟩ := hrel
        rename World => WP
        have HM := Lib.hid hM
        have HBr := Lib.hid hB
        have hGlp : F + 1 < WP.heap.size := hM.ltG
        have kp : ∀ (a : Addr) v, w4.cell? a = some v → WP.cell? a = some v := fun a v h => by
          have h1 := World.block_lt_of_cell? w4 a h
          rw [hB.cell (by omega)]; exact h
        by_cases hlts : s < cnt
        · have hd1 : decide ((s : Int) < (cnt : Int)) = true := decide_eq_true (by omega)
          have hl1 : (s : Int) < (cnt : Int) := by omega
          obtain ⟨g', e', -, y0⟩ := HIL4.out s (by rw [HCNT.out]; exact hlts)
          injection e' with e'
          injection e' with e' _
          subst e'
          have y1 := kp _ _ y0
          have hum := (HILM.out s hlts).1
          have hrow := HROW.out s hlts
          obtain ⟨c', o', q1, cp1, ec, -, z0, z1, -, -⟩ := HS4.out.at_ (il.getD s 0) (by rw [HL.out]; exact hum)
          injection ec with ec
          injection ec with ec1 ec2
          subst ec1 ec2
          rw [hrow] at z0
          have y2 := kp _ _ z0
          have y3 := kp _ _ HX4.out
          have y4 := hM.cellH (il.getD s 0) hum hum
          have HSL := Lib.hid (show Sl WP.drew q1 (ls.getD (il.getD s 0) []) from (z1.of_below (by rw [hs4]; exact hB)).dr (Dr.refl _).drew)
          have HROWD := Lib.hid (hM.row (il.getD s 0) hum)
          have HSLN := Lib.hid hrow
          generalize hu : il.getD s 0 = u at *
          have HU := Lib.hid hu
          have hui : (u : Int) < (i0 : Int) := by omega
          have HLU := Lib.hid (show L = min L L by simp)
          clear kp hM hB z1 y0 hu hrow z0
          go_wp2
          refine wp_region_still_tail 8 (by kernel_rfl) (by kernel_rfl) ?_
          simp only [List.take_succ_cons, List.take_zero, List.drop_succ_cons, List.drop_zero, World.drew_eq]
          repeat (refine wpStill_step (fun K hK => ?_); go_simp; refine hK _ ?_; clear hK K)
          refine wpStill_nil ?_
          go_wp2_with (first | (refine wpl_copyM _ rfl (.tmp 66) (.tmp 70) rfl (D u) L L (fun j => B (XS s u j)) q1 L cp1 (ls.getD u []) rfl rfl HROWD.out.drew HSLN.out HSL.out L HLU.out ?_; rintro w6 hR6 hK6; have HR6 := Lib.hid hR6; have HK6 := Lib.hid hK6; clear hR6 hK6))
          go_roundw
          case rel =>
            have hk : Kp (D u) WP w6 := (Kp.drewN (Kp.refl (D u) WP) 1).trans HK6.out
            have hlo := HM.out.lo u hum
            have hm := HM.out.alter u hum (mx ls u) hk (HR6.out.congr fun j hj => by
              show copied1 _ _ _ j = _
              unfold copied1
              rw [if_pos hj]
              rfl)
            refine ⟨s + 1, by omega, by go_num, hm.congr fun x y _ _ => ?_, HBr.out.trans (hk.below hlo (by omega))⟩
            rw [HXS.out]
            show setr _ _ _ x y = setr _ _ _ x y
            simp only [HU.out]
          case measure => simp [intOf]; omega
        · have hd1 : decide ((s : Int) < (cnt : Int)) = false := decide_eq_false (by omega)
          obtain rfl : s = cnt := by omega
          have y1 := kp _ _ HY4.out
          have HBW := Lib.hid (show Below w4.heap.size w4 WP by rw [hs4]; exact hB)
          have HMW := Lib.hid (show Mp WP w4.heap.size (F + 1) i0 i0 L D (XS s) by rw [hs4]; exact hM)
          have HXN := Lib.hid (show ∀ i x, i < i0 → th.getD i false = false → XS s i x = 0#8 from fun i x hi hf => by
            rw [HXS.out]
            refine putX_no (fun _ _ => 0#8) _ _ _ s i x fun a ha e => ?_
            have e' : il.getD a 0 = i := e
            have := (HILM.out a ha).2
            rw [e', hf] at this
            cases this)
          have HXY := Lib.hid (show ∀ i x, i < i0 → th.getD i false = true → XS s i x = mx ls i x from fun i x hi hf => by
            rw [HXS.out]
            obtain ⟨t, ht, he⟩ := pick_find (f := fun i => th.getD i false) hi hf
            rw [← HILD.out] at he ht
            have := putX_yes (fun _ _ => 0#8) (mx ls) (fun s => il.getD s 0) (fun s => il.getD s 0) s t x (by rw [← HCNT.out]; exact ht) HILI.out
            simp only [he] at this
            exact this)
          clear kp hM hB HM HBr
          go_wp2_with fail
          refine (recD_any b k m i0 L (F + 1) cap' D (XS s) th q w4 WP HC4.out HBW.out HMW.out HN.out HBL4.out HTH.out hL5 (fun i x hi hf _ => HXN.out i x (by have := HN.out; omega) hf) (by rw [← HN.out, ← HILD.out, HCNT.out]; exact HCK.out)).mono ?_
          rintro e w7 ⟨rfl, D7, Y, hM7, hB7, hY7, rl, hr1, hr2, hr3⟩
          have HM7 := Lib.hid hM7
          have HB7 := Lib.hid hB7
          have HY7 := Lib.hid hY7
          have HR7 := Lib.hid (And.intro hr1 (And.intro hr2 hr3))
          have y7 : w7.cell? ⟨E + 1, 0, none⟩ = some (.slice q i0 cap') := by rw [hB7.cell (World.block_lt_of_cell? w4 _ HY4.out)]; exact HY4.out
          clear hM7 hB7 hY7 hr1 hr2 hr3 y1
          go_wp2_with fail
          refine (recP_any b k m i0 L (F + 1) cap' D7 Y th q w4 w7 HC4.out HB7.out HM7.out HN.out HBL4.out HTH.out hL5).mono ?_
          rintro e w8 ⟨rfl, D8, hM8, hB8⟩
          have HM8 := Lib.hid hM8
          have HB8 := Lib.hid (HB4.out.trans (hB8.mono (by omega)))
          clear hM8 hB8 y7
          go_wp2
          go_ret2
          have hN := HN.out
          refine ⟨_, _, rfl, .inr ⟨HEQ.out, .inr ⟨by rw [hTL.out]; exact HCK.out, rfl, some ⟨F + 1, 0, none⟩, i0, rowsL i0 L _, by rw [← hN]; rfl, by omega, HM8.out.prt, ?_⟩⟩, by rw [HE.out]; exact HB8.out⟩
          obtain ⟨hr1, hr2, hr3⟩ := HR7.out
          have hYS : ∀ i x, i < i0 → th.getD i false = true → Y i x = mx ls i x := fun i x hi hf => by
            rw [HY7.out i x (fun h => by rw [hf] at h; cases h.2)]
            exact HXY.out i x hi hf
          have hXR : ∀ i x, i < i0 → th.getD i false = true → XS s i x = mx ls i x := HXY.out
          refine ⟨L, by rw [rowsL_length, hN], fun i hi => rowsL_len _ _ _ _ (by omega), fun i hi hf => ?_, Y, rl, hr1, hr2, fun t ht => ⟨(hr3 t ht).1, fun x hx => ?_⟩, fun i x hi hx => ?_⟩
          · obtain ⟨t, ht, he⟩ := pick_find (f := fun i => th.getD i false) (n := i0) (i := i) (by omega) hf
            rw [← HILD.out] at he ht
            rw [← he]
            exact HROW.out t (by rw [← HCNT.out]; exact ht)
          · rw [(hr3 t ht).2 x hx]
            exact hXR _ x (by have := (hr1 t (by omega)).1; omega) (hr3 t ht).1
          · rw [rowsL_mx i0 L _ i x (by omega) hx]
            cases hf : th.getD i false with
            | true =>
              rw [if_neg (fun h => by cases h.2), if_pos rfl]
              exact hYS i x (by omega) hf
            | false =>
              by_cases hik : k ≤ i
              · rw [if_pos ⟨hik, rfl⟩, if_neg (by simp)]
                unfold mm
                refine xs_congr fun j _ => ?_
                unfold ext
                rw [if_neg (by omega)]
              · rw [if_neg (show ¬ (k ≤ i ∧ false = false) from fun h => hik h.1), if_neg (by simp)]
                have e2 : mm k (ext k) Y i x = mm k id1 Y i x := mm_congr (fun j _ => by unfold ext; rw [if_pos (by omega)]) (fun _ _ => rfl)
                rw [e2, mm_id_l k _ _ x (by omega)]
/-- What Decode returns. -/
theorem dec_any (hC : Cd w b k m) (hs : Prt w p ls) (hb : Bl w q th) (hl : ls.length = n) (hth : th.length = l) (hn : n < 1000) (hl2 : l < 1000) (hlen : ∀ i, i < n → (ls.getD i []).length < 100000) :
    Calls Try.prog 19 #[.pointer (some ⟨b, 0, none⟩), .slice p n cap, .slice q l cap'] w (RetR w (DecR k m ls th)) := by
  by_cases h1 : n = k + m
  · by_cases h2 : l = k + m
    · obtain rfl : l = n := by omega
      exact dec_c b k m ls th p q l cap cap' w hC hs hb hl hth h1 hlen
    · exact (dec_b b k m p q n l cap cap' w hC h1 h2 hn hl2).mono fun e w' ⟨he, hB⟩ => by rw [he]; exact dec_no (fun g => h2 (hth.symm.trans g.2.1)) hB
  · exact (dec_a b k m p q n l cap cap' w hC h1 hn).mono fun e w' ⟨he, hB⟩ => by rw [he]; exact dec_no (fun g => h1 (hl.symm.trans g.1)) hB
end
end Go.Proofs.Ytphpliclecmnlaa
/- The program's codes are what the statements' walks ask. -/
namespace Go.Proofs.Ytphpliclecmnlaa
open Go Go.RowKit

theorem codeP : CodeSpec Cd where
  keep := Cd.keep
  new := new_ok
  newNo := new_no
  data := data_any
  parity := parity_any
  enc := enc_any
  dec := dec_any
  chk := chk_any
  cut := cut_any
end Go.Proofs.Ytphpliclecmnlaa
