/- Merged texts: RecD, DecP, Dec12, Deo12, Cpo12, Mdi12, All12, RngM12, Str12. -/
import Derived.Test.YtnmopjefjpifoaaGreatDoorKR5
import Derived.BigRegion
import Derived.Test.YtnmopjefjpifoaaGreatDoorKR3
import Derived.Test.YtnmopjefjpifoaaGreatDoorKR4
import Derived.Test.YtnmopjefjpifoaaGreatDoorKR2
set_option linter.unusedSimpArgs false
set_option linter.unusedVariables false
/- The program's recoverData. -/
set_option maxRecDepth 100000
namespace Go.Proofs.YtnmopjefjpifoaaGreatDoor
open Go Go.RowKit
attribute [-go_sem] Sha.exec_store

theorem sizeI (w : World) : (sizeOf (Tryz.prog.elem 70)).run Tryz.prog w = .ok 1 w := by kernel_rfl
theorem sli_hi (q : Option Addr) (n cap k : Nat) (w : World) (hk : k ≤ cap) :
    (slT 70 (.slice q n cap) none (some (.int .i64 (k : Int))) none).run Tryz.prog w = .ok (.value (.slice q k cap)) w := by
  have h1 := run_sliceAt_slice (P := Tryz.prog) w 70 (.slice q n cap) none (some (.int .i64 (k : Int))) none undIV
  rw [run_slice_h (P := Tryz.prog) w 70 q n cap undIV .i64 (k : Int) (by omega) (by omega), sizeI] at h1
  simp only [slT, Sem.run_bind, h1, Result.andThen_ok, Sem.run_pure]
  simp only [sliced, Int.toNat_natCast, Nat.zero_mul, Nat.sub_zero]
  have := cutA_zero q cap
  unfold cutA at this
  rw [this]
/-- What is known of all shards when the data shards are told. -/
def RecPost (k m n L G : Nat) (X : Mx) (th : List Bool) (w0 : World) (e : Ending) (w' : World) : Prop :=
  e = .returned (.tuple #[]) ∧ ∃ D' Y, Mp w' w0.heap.size G n n L D' Y ∧ Below w0.heap.size w0 w' ∧ (∀ i x, ¬ (i < k ∧ th.getD i false = false) → Y i x = X i x) ∧
    ∃ rl : List Nat, Picks (k + m) rl ∧ rl.length = k ∧ ∀ t, t < k → th.getD (rl.getD t 0) false = true ∧ ∀ x, x < L → mm k (ext k) Y (rl.getD t 0) x = X (rl.getD t 0) x
attribute [local go_sem ↓] exec_store exec_make exec_slice
attribute [local go_sem] st_H st_I slr_hi sli_hi mkR
set_option maxRecDepth 100000 in
set_option maxHeartbeats 16000000 in
theorem recD_any (b k m n L G cap' : Nat) (D : Nat → Nat) (X : Mx) (th : List Bool) (q : Option Addr) (w0 w : World) (hC : Cd w0 b k m) (hB : Below w0.heap.size w0 w) (hM : Mp w w0.heap.size G n n L D X) (hn : n = k + m) (hb : Bl w0 q th) (hth : th.length = n) (hL : L < 100000)
    (hz : ∀ i x, i < k → th.getD i false = false → x < L → X i x = 0#8) (hen : k ≤ (pick (fun i => th.getD i false) (k + m)).length) :
    Calls Tryz.prog 238 #[.pointer (some ⟨b, 0, none⟩), .slice (some ⟨G, 0, none⟩) n n, .slice q n cap'] w (RecPost k m n L G X th w0) := by
  have hk1 := hC.k1
  have hm1 := hC.m1
  have hkm := hC.hi
  have hkn : k ≤ n := by omega
  have HC := Lib.hid hC
  have HBL := Lib.hid hb
  have HTH := Lib.hid hth
  have HN := Lib.hid hn
  have HZ := Lib.hid hz
  have HEN := Lib.hid hen
  have hNw : w0.heap.size ≤ w.heap.size := hB.size
  have hGw : G < w.heap.size := hM.ltG
  have hb1 : Below w.heap.size w (w.alloc (.cells #[.slice q n cap'] 85)) := (Below.refl _ _).alloc (Nat.le_refl _) _
  have HB1 := Lib.hid (bel_step hB hb1)
  have HM1 := Lib.hid (hM.of_below hb1)
  have HE1 := Lib.hid (show (w.alloc (.cells #[.slice q n cap'] 85)).cell? ⟨w.heap.size, 0, none⟩ = some (.slice q n cap') by rw [World.cell?_alloc_new]; rfl)
  have hs1 : (w.alloc (.cells #[.slice q n cap'] 85)).heap.size = w.heap.size + 1 := World.size_alloc ..
  clear hC hB hM hb hth hb1 hn hz hen
  go_enter Tryz.func238, Tryz.ntmps238
  go_wp2_with fail
  generalize w.alloc (.cells #[.slice q n cap'] 85) = w1 at *
  generalize w.heap.size = E at *
  refine (data_any b k m w1 (HC.out.keep HB1.out)).mono ?_
  rintro e w2 ⟨rfl, rfl⟩
  go_wp2_with fail
  have hb2 : Below w1.heap.size w1 (w1.alloc (.cells #[.int .i64 (k : Int)] 3)) := (Below.refl _ _).alloc (Nat.le_refl _) _
  have HB2 := Lib.hid (bel_step HB1.out hb2)
  have HM2 := Lib.hid (HM1.out.of_below hb2)
  have HE2 := Lib.hid (show (w1.alloc (.cells #[.int .i64 (k : Int)] 3)).cell? ⟨E, 0, none⟩ = some (.slice q n cap') by rw [hb2.cell (by show E < _; omega)]; exact HE1.out)
  have HK2 := Lib.hid (show (w1.alloc (.cells #[.int .i64 (k : Int)] 3)).cell? ⟨E + 1, 0, none⟩ = some (.int .i64 (k : Int)) by rw [← hs1, World.cell?_alloc_new]; rfl)
  have hs2 : (w1.alloc (.cells #[.int .i64 (k : Int)] 3)).heap.size = E + 2 := by rw [World.size_alloc, hs1]
  clear hb2 HM1 HE1
  generalize w1.alloc (.cells #[.int .i64 (k : Int)] 3) = w2 at *
  clear hs1 HB1
  have hask : AskI 278 #[.pointer (some ⟨E, 0, none⟩)] k (fun i => !th.getD i false) w2 := fun i hi w' hB' =>
    r1_any E i n cap' q th w' (by rw [hB'.cell (by show E < _; omega)]; exact HE2.out) ((HBL.out.of_below HB2.out).of_below hB') HTH.out (by omega)
  refine (where_il _ _ enters_R1 k _ w2 hask (by omega)).mono ?_
  rintro e w3 ⟨pm, cm, M, rfl, hlen, hlc, hIl, hpb, hb3⟩
  have HB3 := Lib.hid (bel_step HB2.out hb3)
  have HM3 := Lib.hid (HM2.out.of_below hb3)
  have HE3 := Lib.hid (show w3.cell? ⟨E, 0, none⟩ = some (.slice q n cap') by rw [hb3.cell (by show E < _; omega)]; exact HE2.out)
  have HK3 := Lib.hid (show w3.cell? ⟨E + 1, 0, none⟩ = some (.int .i64 (k : Int)) by rw [hb3.cell (by show E + 1 < _; omega)]; exact HK2.out)
  have HDL := Lib.hid (show ∀ j, j < n → D j < E + 2 from fun j hj => by have := HM2.out.lt j hj; omega)
  have HIL := Lib.hid hIl
  have HPB := Lib.hid (show ∀ b, pm = some ⟨b, 0, none⟩ → b ≠ G from fun b e => by have := hpb b e; omega)
  have hs3 : E + 2 ≤ w3.heap.size := by have := hb3.size; omega
  obtain ⟨ml, hml⟩ : ∃ ml, ml = pick (fun i => !th.getD i false) k := ⟨_, rfl⟩
  have hMk : M ≤ k := by rw [← hlen]; exact pick_len _ _
  have hMM := hlen
  rw [← hml] at hlen HIL
  have HML := Lib.hid hml
  have HLEN := Lib.hid hlen
  have HMM := Lib.hid hMM
  have hMle : M ≤ (pick (fun i => th.getD (k + i) false) m).length := by
    have h1 := pick_both (fun i => th.getD i false) k
    have h2 : (pick (fun i => th.getD i false) (k + m)).length = (pick (fun i => th.getD i false) k).length + (pick (fun i => th.getD (k + i) false) m).length := by rw [pick_split, List.length_append, List.length_map]
    have h3 := HEN.out
    have h4 : (pick (fun i => !th.getD i false) k).length = M := hMM
    have h5 : (pick (fun i => !(fun i => th.getD i false) i) k).length = M := hMM
    omega
  clear hIl hpb hb3 hml hlen hask HM2 HE2 HK2 HB2 hs2 hMM
  by_cases hM0 : M = 0
  · have hm0 : ((M : Int) == 0) = true := by simp; omega
    have HALL := Lib.hid (rec_all k m 0 L (fun i => th.getD i false) X X [] (by rw [← hM0]; exact HMM.out) (by simp) (Nat.zero_le _) (fun i x _ _ => rfl) (fun s x hs => by omega))
    clear hM0
    go_wp2
    go_end0
    exact ⟨rfl, D, X, HM3.out, HB3.out, fun i x _ => rfl, HALL.out⟩
  have hm0 : ((M : Int) == 0) = false := by simp; omega
  have hm00 : decide (M = 0) = false := decide_eq_false hM0
  have hM1 : 1 ≤ M := by omega
  clear hM0
  go_wp2_with fail
  refine (parity_any b k m w3 (HC.out.keep HB3.out)).mono ?_
  rintro e w4 ⟨rfl, rfl⟩
  have HASK2 : Hid (AskI 279 #[.pointer (some ⟨E, 0, none⟩), .pointer (some ⟨E + 1, 0, none⟩)] m (fun i => th.getD (k + i) false) w3) := fun i hi w' hB' =>
    r2_any E (E + 1) i k n cap' q th w' (by rw [hB'.cell (by show E < _; omega)]; exact HE3.out) ((HBL.out.of_below HB3.out).of_below hB') HTH.out (by rw [hB'.cell (by show E + 1 < _; omega)]; exact HK3.out) (by have := HN.out; omega) (by have := HN.out; omega)
  go_wp2_with fail
  refine (where_il _ _ enters_R2 m _ w3 HASK2.out (by omega)).mono ?_
  rintro e w4 ⟨pu, cu, lu, rfl, hlen2, hlc2, hIl2, hpb2, hb4⟩
  have hMlu : M ≤ lu := by rw [← hlen2]; exact hMle
  have hMcu : M ≤ cu := by omega
  obtain ⟨ul, hul⟩ : ∃ ul, ul = (pick (fun i => th.getD (k + i) false) m).take M := ⟨_, rfl⟩
  have hull : ul.length = M := by rw [hul, List.length_take]; omega
  have hIu := hIl2.take M
  rw [← hul] at hIu
  have HUL := Lib.hid hul
  have HULL := Lib.hid hull
  have HUP := Lib.hid (show Picks m ul by rw [hul]; exact picks_take _ _ _)
  have HB4 := Lib.hid (bel_step HB3.out hb4)
  have HM4 := Lib.hid (HM3.out.of_below hb4)
  have HK4 := Lib.hid (show w4.cell? ⟨E + 1, 0, none⟩ = some (.int .i64 (k : Int)) by rw [hb4.cell (by show E + 1 < _; omega)]; exact HK3.out)
  have HIL4 := Lib.hid (HIL.out.of_below hb4)
  have HIU4 := Lib.hid hIu
  have HPU := Lib.hid (show ∀ b, pu = some ⟨b, 0, none⟩ → b ≠ G from fun b e => by have := hpb2 b e; omega)
  have hs4 : E + 2 ≤ w4.heap.size := Nat.le_trans hs3 hb4.size
  have HMLE := Lib.hid hMle
  clear hlen2 hlc2 hIl2 hpb2 hb4 hMlu hul hull hIu hMle HASK2 HE3 HK3 HIL HM3 HB3 hs3 hlc
  have hk4 := HK4.out
  go_wp2_with fail
  clear hk4
  refine (encode_own b k m n L G _ D X w4 (HC.out.keep HB4.out) HM4.out hkn hL).mono ?_
  rintro e w5 ⟨Gp, Dp, rfl, hMp, hb5⟩
  have HB5 := Lib.hid (bel_step HB4.out hb5)
  have HM5 := Lib.hid (HM4.out.of_below hb5)
  have HK5 := Lib.hid (show w5.cell? ⟨E + 1, 0, none⟩ = some (.int .i64 (k : Int)) by rw [hb5.cell (by show E + 1 < _; omega)]; exact HK4.out)
  have HIL5 := Lib.hid (HIL4.out.of_below hb5)
  have HIU5 := Lib.hid (HIU4.out.of_below hb5)
  have HMP5 := Lib.hid hMp
  have hs5 : E + 2 ≤ w5.heap.size := Nat.le_trans hs4 hb5.size
  have hMk8 : M < 100000000 := by omega
  obtain ⟨DM, hDM⟩ : ∃ DM : Mx, DM = fun s x => mm k (cau k) X (ul.getD s 0) x ^^^ X (k + ul.getD s 0) x := ⟨_, rfl⟩
  have hmat : Mp (w5.alloc (.cells (tab M (fun _ => .slice none 0 0)) 53)) w5.heap.size w5.heap.size M 0 L (fun _ => 0) DM := Mp.zero (Row.new w5 _ M _) (Nat.le_refl _)
  have hb6 : Below w5.heap.size w5 (w5.alloc (.cells (tab M (fun _ => .slice none 0 0)) 53)) := (Below.refl _ _).alloc (Nat.le_refl _) _
  have HMD := Lib.hid hmat
  have HB6 := Lib.hid hb6
  have HDM := Lib.hid hDM
  clear hMp hb5 hmat hb6 hDM HB4 HM4 HK4 HIL4 HIU4 hs4
  obtain ⟨f, GC, DC, c1, -, hF, -⟩ := (HC.out.keep HB5.out).mem
  have HF5 := Lib.hid hF
  have HCF := Lib.hid c1
  clear hF c1
  go_wp2
  generalize w5.alloc (.cells (tab M (fun _ => .slice none 0 0)) 53) = w6 at *
  generalize hN5 : w5.heap.size = N5 at *
  have HN5 := Lib.hid hN5
  clear hN5
  go_loopw [12, 13, 48] (fun _ _ i wr => ∃ t : Nat, t ≤ M ∧ i = .int .i64 t ∧ ∃ Dd, Mp wr N5 N5 M t L Dd DM ∧ Below N5 w5 wr) (fun _ _ i _ => M - (intOf i).toNat)
  case atStart => exact ⟨0, Nat.zero_le _, rfl, _, HMD.out, HB6.out⟩
  case round =>
    clear HMD HB6
    obtain ⟨t, ht, rfl, Dd, hMd, hB⟩ := hrel
    rename World => WO
    have HMD := Lib.hid hMd
    have HBO := Lib.hid hB
    by_cases hlt : t < M
    · have hd0 : decide ((t : Int) < (M : Int)) = true := decide_eq_true (by omega)
      have hl0 : (t : Int) < (M : Int) := by omega
      have hBO : Below w5.heap.size w5 WO := by rw [HN5.out]; exact hB
      obtain ⟨gu, rfl, -, hx1⟩ := (HIU5.out.of_below hBO) t (by rw [HULL.out]; exact hlt)
      have hum : ul.getD t 0 < m := (HUP.out t (by rw [HULL.out]; exact hlt)).1
      have hnu : k + ul.getD t 0 < n := by have := HN.out; omega
      have hMPO := HMP5.out.of_below hBO
      have hMO := HM5.out.of_below hBO
      have hx2 := hMPO.cellH (ul.getD t 0) hum hum
      have hx3 : WO.cell? ⟨E + 1, 0, none⟩ = some (.int .i64 (k : Int)) := by rw [hBO.cell (World.block_lt_of_cell? w5 _ HK5.out)]; exact HK5.out
      have hx4 := hMO.cellH (k + ul.getD t 0) hnu hnu
      have hx5 : WO.cell? ⟨b, 0, none⟩ = some (.pointer (some ⟨f, 0, none⟩)) := by rw [hBO.cell (World.block_lt_of_cell? w5 _ HCF.out)]; exact HCF.out
      have HSP := Lib.hid (hMPO.sl (ul.getD t 0) hum)
      have HSA := Lib.hid (hMO.sl (k + ul.getD t 0) hnu)
      have HDMT := Lib.hid (show ∀ x, x < L → (rowL L (mm k (cau k) X) (ul.getD t 0)).getD x 0#8 ^^^ (rowL L X (k + ul.getD t 0)).getD x 0#8 = DM t x from fun x hx => by
        rw [rowL_get _ _ _ _ hx, rowL_get _ _ _ _ hx, HDM.out])
      have HLN1 := Lib.hid (rowL_length L (mm k (cau k) X) (ul.getD t 0))
      have HLN2 := Lib.hid (rowL_length L X (k + ul.getD t 0))
      have hcell : WO.cell? ⟨N5, t, none⟩ = some (hdr t L Dd t) := hMd.hds.cell t hlt
      generalize hr1 : rowL L (mm k (cau k) X) (ul.getD t 0) = r1 at *
      generalize hr2 : rowL L X (k + ul.getD t 0) = r2 at *
      clear hr1 hr2
      generalize Dp (ul.getD t 0) = e1 at *
      generalize hu : ul.getD t 0 = u at *
      generalize D (k + u) = e2 at *
      have hw : IntKind.i64.wrap ((k : Int) + (u : Int)) = (k : Int) + (u : Int) := IntWalk.i64_in _ (by omega)
      have hui : (u : Int) < (m : Int) := by omega
      have hu0 : (0 : Int) ≤ (k : Int) + (u : Int) := by omega
      have hu1 : (k : Int) + (u : Int) < (n : Int) := by omega
      have hu2 : ((k : Int) + (u : Int)).toNat = k + u := by omega
      have hL4 : L < 4294967296 := by omega
      have HGO := Lib.hid (show Gp < WO.heap.size ∧ G < WO.heap.size ∧ E + 1 < WO.heap.size ∧ b < WO.heap.size from ⟨World.block_lt_of_cell? WO _ hx2, World.block_lt_of_cell? WO _ hx4, World.block_lt_of_cell? WO _ hx3, World.block_lt_of_cell? WO _ hx5⟩)
      have HGN := Lib.hid (show Gp ≠ N5 ∧ G ≠ N5 ∧ E + 1 ≠ N5 ∧ b ≠ N5 from by
        have h1 := HMP5.out.ltG
        have h2 := HM5.out.ltG
        have h3 := World.block_lt_of_cell? w5 _ HK5.out
        have h4 := World.block_lt_of_cell? w5 _ HCF.out
        have h5 := HN5.out
        have h3' : E + 1 < w5.heap.size := h3
        have h4' : b < w5.heap.size := h4
        omega)
      clear hMd hB hBO hMPO hMO hu
      go_wp2_with fail
      go_region_held3 (fun w' : World => w'.cell? ⟨b, 0, none⟩ = some (.pointer (some ⟨f, 0, none⟩)) ∧ w'.cell? ⟨Gp, u, none⟩ = some (.slice (some ⟨e1, 0, none⟩) L L) ∧ w'.cell? ⟨E + 1, 0, none⟩ = some (.int .i64 (k : Int)) ∧ w'.cell? ⟨G, k + u, none⟩ = some (.slice (some ⟨e2, 0, none⟩) L L)) (first | exact ⟨hx5, hx2, hx3, hx4⟩ | exact hs7 | exact hs8 _) ((go_at_call 280; refine (plus_any f r1 r2 _ _ L L L _ (HSP.out.dr (Dr.refl _).drew) (HSA.out.dr (Dr.refl _).drew) HLN1.out HLN2.out hL4).mono ?_; rintro e w7 ⟨rfl, hR7, hB7⟩; have hb7 : Below WO.heap.size WO w7 := (Below.refl _ _).drew.trans (by exact hB7); have hs7 : w7.cell? ⟨b, 0, none⟩ = some (.pointer (some ⟨f, 0, none⟩)) ∧ w7.cell? ⟨Gp, u, none⟩ = some (.slice (some ⟨e1, 0, none⟩) L L) ∧ w7.cell? ⟨E + 1, 0, none⟩ = some (.int .i64 (k : Int)) ∧ w7.cell? ⟨G, k + u, none⟩ = some (.slice (some ⟨e2, 0, none⟩) L L) := ⟨by rw [hb7.cell (by exact HGO.out.2.2.2)]; exact hx5, by rw [hb7.cell (by exact HGO.out.1)]; exact hx2, by rw [hb7.cell (by exact HGO.out.2.2.1)]; exact hx3, by rw [hb7.cell (by exact HGO.out.2.1)]; exact hx4⟩; have hm7 := HMD.out.of_below hb7; have c7 : (w7.cell? ⟨N5, t, none⟩).isSome = true := (by rw [hm7.hds.cell t hlt]; rfl); have f7 : w7.frozen? ⟨N5, t, none⟩ = false := hm7.free t; have hs8 : ∀ v, (w7.setCell ⟨N5, t, none⟩ v).cell? ⟨b, 0, none⟩ = some (.pointer (some ⟨f, 0, none⟩)) ∧ (w7.setCell ⟨N5, t, none⟩ v).cell? ⟨Gp, u, none⟩ = some (.slice (some ⟨e1, 0, none⟩) L L) ∧ (w7.setCell ⟨N5, t, none⟩ v).cell? ⟨E + 1, 0, none⟩ = some (.int .i64 (k : Int)) ∧ (w7.setCell ⟨N5, t, none⟩ v).cell? ⟨G, k + u, none⟩ = some (.slice (some ⟨e2, 0, none⟩) L L) := (fun v => ⟨by rw [World.cell?_setCell_far _ _ _ _ (by exact HGN.out.2.2.2.symm)]; exact hs7.1, by rw [World.cell?_setCell_far _ _ _ _ (by exact HGN.out.1.symm)]; exact hs7.2.1, by rw [World.cell?_setCell_far _ _ _ _ (by exact HGN.out.2.2.1.symm)]; exact hs7.2.2.1, by rw [World.cell?_setCell_far _ _ _ _ (by exact HGN.out.2.1.symm)]; exact hs7.2.2.2⟩); have HR7 := Lib.hid hR7; have HB7 := Lib.hid hb7; clear hR7 hB7 hb7 hm7))
      go_wp2
      go_roundw
      case rel =>
        have hm7 := HMD.out.of_below HB7.out
        have hlt5 := hm7.ltG
        have hp := hm7.put t WO.heap.size (DM t) (HR7.out.congr fun x hx => by rw [HDMT.out x hx]) (t + 1) (.inr ⟨rfl, rfl⟩) (fun j hj _ => by have := HMD.out.lt j hj; omega) (by have := HMD.out.ltG; omega) (by have := HMD.out.ltG; omega)
        refine ⟨t + 1, by omega, by go_num, _, hp.congr fun i x hi hx => ?_, (HBO.out.trans (HB7.out.mono (Nat.le_of_lt HMD.out.ltG))).setCell (Nat.le_refl _) _⟩
        unfold setr
        by_cases h : i = t
        · rw [if_pos h, h]
        · rw [if_neg h]
      case measure => simp [intOf]; omega
    · have hd0 : decide ((t : Int) < (M : Int)) = false := decide_eq_false (by omega)
      obtain rfl : t = M := by omega
      have hBO : Below w5.heap.size w5 WO := by rw [HN5.out]; exact hB
      have HBW := Lib.hid (bel_step HB5.out hBO)
      have HMW := Lib.hid (HM5.out.of_below hBO)
      have HILW := Lib.hid (HIL5.out.of_below hBO)
      have HIUW := Lib.hid (HIU5.out.of_below hBO)
      have HCW := Lib.hid ((HC.out.keep HB5.out).keep hBO)
      have hx5 : WO.cell? ⟨b, 0, none⟩ = some (.pointer (some ⟨f, 0, none⟩)) := by rw [hBO.cell (World.block_lt_of_cell? w5 _ HCF.out)]; exact HCF.out
      have HFW := Lib.hid (HF5.out.of_below hBO)
      have hltb : b < WO.heap.size := World.block_lt_of_cell? WO _ hx5
      have hs6 : E + 2 ≤ WO.heap.size := by have := hBO.size; have := HN5.out; omega
      have HGU := Lib.hid (Good.mats (cutM k ul ml) hM1 (by omega) hM1 (by omega))
      have HNOT := Lib.hid (cut_not k m t ul ml (by omega) (by omega) HUP.out (by rw [HML.out]; exact picks_pick _ _) HULL.out HLEN.out)
      clear hMd hB hBO HM5 HB5 HIL5 HIU5 HF5 HCF HMP5 HK5 HBO
      go_wp2_with fail
      go_region_held3 (fun w' : World => w'.cell? ⟨b, 0, none⟩ = some (.pointer (some ⟨f, 0, none⟩))) (first | exact hx5 | exact hx7 | exact hx8) ((first | (go_at_call 282; refine (sub_any b k m t t _ _ ul ml _ _ _ (HCW.out.dr (Dr.refl _).drew) (HIUW.out.dr (Dr.refl _).drew) (HILW.out.dr (Dr.refl _).drew) HULL.out HLEN.out (fun i hi => (HUP.out i (by rw [HULL.out]; exact hi)).1) (fun j hj => by have := (picks_pick (fun i => !th.getD i false) k j (by rw [← HML.out, HLEN.out]; exact hj)).1; rw [← HML.out] at this; exact this) (by omega) (by omega)).mono ?_; rintro e w7 ⟨G7, rfl, hP7, hB7⟩; have hb7 : Below WO.heap.size WO w7 := (Below.refl _ _).drew.trans (by exact hB7); have hx7 : w7.cell? ⟨b, 0, none⟩ = some (.pointer (some ⟨f, 0, none⟩)) := (by rw [hb7.cell (by exact hltb)]; exact hx5); have HP7 := Lib.hid hP7; have HB7 := Lib.hid hb7; have hl7 : b < w7.heap.size := Nat.lt_of_lt_of_le hltb hb7.size; clear hP7 hB7 hb7) | (go_at_call 281; refine (inv_of (HFW.out.of_below HB7.out) HP7.out HGU.out HNOT.out).mono ?_; rintro e w8 ⟨G8, V, rfl, hIV, hP8, hB8⟩; have hx8 : w8.cell? ⟨b, 0, none⟩ = some (.pointer (some ⟨f, 0, none⟩)) := (by rw [hB8.cell (by exact hl7)]; exact hx7); have HP8 := Lib.hid hP8; have HB8 := Lib.hid (bel_step HB7.out hB8); have HIV := Lib.hid hIV; clear hIV hP8 hB8)))
      have hMDV := HMD.out.of_below HB8.out
      have HMD8 := Lib.hid hMDV
      have HF8 := Lib.hid (HFW.out.of_below HB8.out)
      have hs8' : E + 2 ≤ w8.heap.size := Nat.le_trans hs6 HB8.out.size
      have HMG := Lib.hid (HMW.out.of_below HB8.out)
      have HBG := Lib.hid (bel_step HBW.out HB8.out)
      have HILG := Lib.hid (HILW.out.of_below HB8.out)
      clear hMDV hx5 hx7 HP7 HB7 HFW HMW HBW HILW HIUW HCW HMD HNOT HGU hl7
      go_wp2_with fail
      refine (apply_ok f (rowsL t t V) (rowsL t L DM) _ _ t t L t _ w8 HF8.out HP8.out HMD8.out.prt (Good.mats V hM1 (by omega) hM1 (by omega)) (rowsL_length _ _ _) (fun i hi => rowsL_len _ _ _ _ hi) (by omega)).mono ?_
      rintro e w9 ⟨Gf, Df, rfl, hMf, hB9⟩
      have HMF := Lib.hid (hMf.congr (b := mm t V DM) fun i j hi hj => mm_congr (fun l hl => rowsL_mx t t V i l hi hl) (fun l hl => rowsL_mx t L DM l j hl hj))
      have HM9 := Lib.hid (HMG.out.of_below hB9)
      have HB9 := Lib.hid (bel_step HBG.out hB9)
      have HIL9 := Lib.hid (HILG.out.of_below hB9)
      have HD8 := Lib.hid (show ∀ j, j < n → D j < w8.heap.size from fun j hj => by have := HDL.out j hj; omega)
      have HPT := Lib.hid (show ∀ s, s < t → ml.getD s 0 < k ∧ th.getD (ml.getD s 0) false = false from fun s hs => by
        have := pick_at (f := fun i => !th.getD i false) (n := k) s (by rw [← HML.out, HLEN.out]; exact hs)
        rw [← HML.out] at this
        exact ⟨this.1, by simpa using this.2⟩)
      have HPI := Lib.hid (show ∀ a b, a < t → b < t → ml.getD a 0 = ml.getD b 0 → a = b from fun a b ha hb h => by
        rw [HML.out] at h
        exact pick_inj _ _ a b (by rw [← HML.out, HLEN.out]; exact ha) (by rw [← HML.out, HLEN.out]; exact hb) h)
      have hG8 : G < w8.heap.size := by omega
      have hN08 : w0.heap.size ≤ w8.heap.size := HBG.out.size
      clear hMf hB9 HMG HBG HILG HMD8 HP8 hx8 HF8
      go_wp2
      go_loopw [18, 19, 99] (fun _ _ i wr => ∃ s : Nat, s ≤ t ∧ i = .int .i64 s ∧ Kp G w9 wr ∧ Mp wr w0.heap.size G n n L (putD D Df (fun s => ml.getD s 0) (fun s => s) s) (putX X (mm t V DM) (fun s => ml.getD s 0) (fun s => s) s)) (fun _ _ i _ => t - (intOf i).toNat)
      case atStart => exact ⟨0, Nat.zero_le _, rfl, Kp.refl _ _, HM9.out⟩
      case round =>
        obtain ⟨s, hs, rfl, hK, hM⟩ := hrel
        rename World => WP
        have HKP := Lib.hid hK
        have HMO := Lib.hid hM
        by_cases hlt : s < t
        · have hd0 : decide ((s : Int) < (t : Int)) = true := decide_eq_true (by omega)
          have hl0 : (s : Int) < (t : Int) := by omega
          obtain ⟨gp, rfl, -, hx1⟩ := (HIL9.out.of_kp hK HPB.out) s (by rw [HLEN.out]; exact hlt)
          have huk := (HPT.out s hlt).1
          have hMFO := HMF.out.of_kp hK (by have := HMF.out.loG; omega) (fun i hi => by have := HMF.out.lo i hi; omega)
          have HMFO := Lib.hid hMFO
          have hx2 := hMFO.cellH s hlt hlt
          have hcell : WP.cell? ⟨G, ml.getD s 0, none⟩ = some (hdr n L (putD D Df (fun s => ml.getD s 0) (fun s => s) s) (ml.getD s 0)) := hM.hds.cell _ (by omega)
          have hfr : WP.frozen? ⟨G, ml.getD s 0, none⟩ = false := hM.free _
          generalize hu : ml.getD s 0 = u at *
          have HU := Lib.hid hu
          have hui : (u : Int) < (n : Int) := by omega
          clear hK hM hMFO hu
          go_wp2
          go_roundw
          case rel =>
            have hm := HMO.out.puts HMFO.out HD8.out (by omega) (by omega) (by show ml.getD s 0 < n; rw [HU.out]; omega) (fun a ha => by show a < t; omega) (fun a ha e => by have e' : a = s := e; omega)
            refine ⟨s + 1, by omega, by go_num, HKP.out.setCell _ _, ?_⟩
            simp only [HU.out] at hm
            exact hm
          case measure => simp [intOf]; omega
        · have hd0 : decide ((s : Int) < (t : Int)) = false := decide_eq_false (by omega)
          obtain rfl : s = t := by omega
          clear hK hM
          go_wp2
          go_end0
          have hno : ∀ i x, ¬ (i < k ∧ th.getD i false = false) → putX X (mm s V DM) (fun s => ml.getD s 0) (fun s => s) s i x = X i x := fun i x h => putX_no X _ _ _ s i x fun a ha e => h (by
            have e' : ml.getD a 0 = i := e
            have := HPT.out a ha
            rw [e'] at this
            exact this)
          have hyes : ∀ a x, a < s → x < L → putX X (mm s V DM) (fun s => ml.getD s 0) (fun s => s) s (ml.getD a 0) x = mm s V DM a x := fun a x ha _ => putX_yes X (mm s V DM) (fun s => ml.getD s 0) (fun s => s) s a x ha HPI.out
          refine ⟨rfl, _, _, HMO.out, HB9.out.trans (HKP.out.below HM9.out.loG (by have := HB9.out.size; omega)), hno, ?_⟩
          refine rec_all k m s L (fun i => th.getD i false) X _ ul HMM.out HUL.out HMLE.out (fun i x hi hf => hno i x (fun h => by rw [show th.getD i false = true from hf] at h; cases h.2)) fun a x ha hx => ?_
          exact rec_sum k m s L (fun i => th.getD i false) X V ul ml HML.out HLEN.out HZ.out HIV.out DM _ (fun a x _ _ => by rw [HDM.out]) (fun i x hi hf => hno i x (fun h => by rw [show th.getD i false = true from hf] at h; cases h.2)) hyes a x ha hx
end Go.Proofs.YtnmopjefjpifoaaGreatDoor
/- The program's Decode. -/
set_option maxRecDepth 100000
namespace Go.Proofs.YtnmopjefjpifoaaGreatDoor
open Go Go.RowKit
attribute [-go_sem] Sha.exec_store

theorem there_len (ls : List (List (BitVec 8))) (th : List Bool) : (thereL ls th).length = (pick (fun i => th.getD i false) ls.length).length := by simp [thereL, pick]
theorem there_get (ls : List (List (BitVec 8))) (th : List Bool) (j : Nat) (h : j < (pick (fun i => th.getD i false) ls.length).length) : (thereL ls th).getD j [] = ls.getD ((pick (fun i => th.getD i false) ls.length).getD j 0) [] := by
  unfold thereL
  show (List.map (fun i => ls.getD i []) (pick (fun i => th.getD i false) ls.length)).getD j [] = _
  generalize pick (fun i => th.getD i false) ls.length = l at *
  simp [List.getD_eq_getElem?_getD, h]
theorem st_HI (a : Addr) (q : Option Addr) (n c : Nat) (w : World) (hcell : (w.cell? a).isSome = true) (hf : w.frozen? a = false) : (stT 70 (.pointer (some a)) (.slice q n c)).run Tryz.prog w = .ok .skip (w.setCell a (.slice q n c)) :=
  stT_one 70 a _ w rfl rfl (by kernel_rfl) hcell hf
attribute [local go_sem ↓] exec_store exec_make exec_slice
attribute [local go_sem] st_H st_HI st_I mkR mkB
section
variable (b k m : Nat) (ls : List (List (BitVec 8))) (th : List Bool) (p q : Option Addr) (n l cap cap' : Nat) (w : World)
end
end Go.Proofs.YtnmopjefjpifoaaGreatDoor
/- Decode, and where its rows lie. -/
set_option maxRecDepth 100000
namespace Go.Proofs.YtnmopjefjpifoaaGreatDoor
open Go Go.RowKit
attribute [-go_sem] Sha.exec_store

/-- Decode of n shards: no rows, or a matrix of the call's own, as wide as each shard that is there. -/
def DecS (w : World) (n : Nat) (ls : List (List (BitVec 8))) (th : List Bool) (e : Ending) (w' : World) : Prop :=
  (∃ r t, e = .returned (.tuple #[r, .int .i64 t]) ∧ t ≠ 0 ∧ Below w.heap.size w w') ∨
  (∃ L D Y G N, e = .returned (.tuple #[.slice (some ⟨G, 0, none⟩) n n, .int .i64 0]) ∧ Mp w' N G n n L D Y ∧ w.heap.size ≤ N ∧ (∃ i, i < n ∧ th.getD i false = true) ∧ (∀ i, i < n → th.getD i false = true → (ls.getD i []).length = L) ∧ Below w.heap.size w w')
attribute [local go_sem ↓] exec_store exec_make exec_slice
attribute [local go_sem] st_H st_HI st_I mkR mkB
section
variable (b k m : Nat) (ls : List (List (BitVec 8))) (th : List Bool) (p q : Option Addr) (n l cap cap' : Nat) (w : World)
set_option maxRecDepth 100000 in
set_option maxHeartbeats 16000000 in
theorem decS12 (hC : Cd w b k m) (hs : Prt w p ls) (hb : Bl w q th) (hl : ls.length = n) (hth : th.length = n) (hn : n = k + m) (hlen : ∀ i, i < n → (ls.getD i []).length < 100000) :
    Calls Tryz.prog 202 #[.pointer (some ⟨b, 0, none⟩), .slice p n cap, .slice q n cap'] w (DecS w n ls th) := by
  have hk1 := hC.k1
  have hm1 := hC.m1
  have hkm := hC.hi
  have hB : Below w.heap.size w ((w.alloc (.cells #[.slice p n cap] 73)).alloc (.cells #[.slice q n cap'] 85)) := ((Below.refl _ _).alloc (Nat.le_refl _) _).alloc (by rw [World.size_alloc]; omega) _
  have HC0 := Lib.hid hC
  have HBL0 := Lib.hid hb
  have HC := Lib.hid (hC.keep hB)
  have HB := Lib.hid hB
  have HS := Lib.hid (hs.of_below hB)
  have HBL := Lib.hid (hb.of_below hB)
  have HL := Lib.hid hl
  have HTH := Lib.hid hth
  have HN := Lib.hid hn
  have HLEN := Lib.hid hlen
  have hx : ((w.alloc (.cells #[.slice p n cap] 73)).alloc (.cells #[.slice q n cap'] 85)).cell? ⟨w.heap.size, 0, none⟩ = some (.slice p n cap) := by
    rw [World.cell?_alloc_lt _ _ _ (by rw [World.size_alloc]; show w.heap.size < _; omega), World.cell?_alloc_new]; rfl
  have hy : ((w.alloc (.cells #[.slice p n cap] 73)).alloc (.cells #[.slice q n cap'] 85)).cell? ⟨w.heap.size + 1, 0, none⟩ = some (.slice q n cap') := by
    rw [← World.size_alloc w (.cells #[.slice p n cap] 73), World.cell?_alloc_new]; rfl
  have hsz : ((w.alloc (.cells #[.slice p n cap] 73)).alloc (.cells #[.slice q n cap'] 85)).heap.size = w.heap.size + 2 := by rw [World.size_alloc, World.size_alloc]
  have h1 : ((n : Int) != (k : Int) + (m : Int)) = false := by simp; omega
  have h2 : ((n : Int) == (k : Int) + (m : Int)) = true := by simp; omega
  have hn32 : n ≤ 32 := by omega
  clear hC hB hs hb hl hth hn hlen
  go_enter Tryz.func202, Tryz.ntmps202
  go_wp2
  go_quiet ((go_at_call 232; exact Calls.quiet_of_same ((countC_any b k m _ (HC.out.dr ((Dr.refl _).drewN _))).mono fun e w' ⟨he, hw⟩ => ⟨he, hw.symm⟩)))
  have HC1 := Lib.hid (HC.out.dr ((Dr.refl _).drewN nq))
  have HS1 := Lib.hid (HS.out.dr ((Dr.refl _).drewN nq))
  have HBL1 := Lib.hid (HBL.out.dr ((Dr.refl _).drewN nq))
  have HB1 := Lib.hid (below_drewN HB.out nq)
  have hx1 : (((w.alloc (.cells #[.slice p n cap] 73)).alloc (.cells #[.slice q n cap'] 85)).drewN nq).cell? ⟨w.heap.size, 0, none⟩ = some (.slice p n cap) := hx
  have hy1 : (((w.alloc (.cells #[.slice p n cap] 73)).alloc (.cells #[.slice q n cap'] 85)).drewN nq).cell? ⟨w.heap.size + 1, 0, none⟩ = some (.slice q n cap') := hy
  have hsz1 : (((w.alloc (.cells #[.slice p n cap] 73)).alloc (.cells #[.slice q n cap'] 85)).drewN nq).heap.size = w.heap.size + 2 := hsz
  clear hx hy hsz HC HS HBL HB
  generalize ((w.alloc (.cells #[.slice p n cap] 73)).alloc (.cells #[.slice q n cap'] 85)).drewN nq = w1 at *
  generalize hE : w.heap.size = E at *
  have HE := Lib.hid hE
  clear hE
  have HX1 := Lib.hid hx1
  have HY1 := Lib.hid hy1
  have HASK : Hid (AskI 234 #[.pointer (some ⟨E + 1, 0, none⟩)] n (fun i => th.getD i false) w1) := fun i hi w' hB' =>
    d1_any (E + 1) i n cap' q th w' (by rw [hB'.cell (World.block_lt_of_cell? w1 _ HY1.out)]; exact HY1.out) (HBL1.out.of_below hB') HTH.out hi
  go_wp2_with fail
  refine (where_il _ _ enters_D1 n _ w1 HASK.out (by omega)).mono ?_
  rintro e w2 ⟨pl, cl, cnt, rfl, hcnt, hcc, hIl, hpb, hB2⟩
  have hs2 : E + 2 ≤ w2.heap.size := by have := hB2.size; omega
  have hb3 : Below w2.heap.size w2 (w2.alloc (.cells #[.slice pl cnt cl] 70)) := (Below.refl _ _).alloc (Nat.le_refl _) _
  have hB3 := bel_step hB2 hb3
  have HB3 := Lib.hid (HB1.out.trans (hB3.mono (by omega)))
  have HX3 := Lib.hid (show (w2.alloc (.cells #[.slice pl cnt cl] 70)).cell? ⟨E, 0, none⟩ = some (.slice p n cap) by rw [hB3.cell (World.block_lt_of_cell? w1 _ HX1.out)]; exact HX1.out)
  have HY3 := Lib.hid (show (w2.alloc (.cells #[.slice pl cnt cl] 70)).cell? ⟨E + 1, 0, none⟩ = some (.slice q n cap') by rw [hB3.cell (World.block_lt_of_cell? w1 _ HY1.out)]; exact HY1.out)
  have HZ3 := Lib.hid (show (w2.alloc (.cells #[.slice pl cnt cl] 70)).cell? ⟨w2.heap.size, 0, none⟩ = some (.slice pl cnt cl) from World.cell?_alloc_new _ _ _ _)
  have HS3 := Lib.hid (HS1.out.of_below hB3)
  have HC3 := Lib.hid (HC1.out.keep hB3)
  have HBL3 := Lib.hid (HBL1.out.of_below hB3)
  have hs3 : (w2.alloc (.cells #[.slice pl cnt cl] 70)).heap.size = w2.heap.size + 1 := World.size_alloc ..
  obtain ⟨il, hil⟩ : ∃ il, il = pick (fun i => th.getD i false) n := ⟨_, rfl⟩
  have hilm : ∀ j, j < cnt → il.getD j 0 < n ∧ th.getD (il.getD j 0) false = true := fun j hj => by rw [hil]; exact pick_at j (by rw [hcnt]; exact hj)
  have hili : ∀ i j, i < cnt → j < cnt → il.getD i 0 = il.getD j 0 → i = j := fun i j hi hj h => by rw [hil] at h; exact pick_inj _ _ i j (by rw [hcnt]; exact hi) (by rw [hcnt]; exact hj) h
  rw [← hil] at hIl hcnt
  have HIL3 := Lib.hid (hIl.of_below hb3)
  have HCNT := Lib.hid hcnt
  have HILD := Lib.hid hil
  have HILM := Lib.hid hilm
  have HILI := Lib.hid hili
  have hTL : Hid ((thereL ls th).length = cnt) := by show (thereL ls th).length = cnt; rw [there_len, HL.out, ← HILD.out, hcnt]
  have HTG : Hid (∀ j, j < cnt → (thereL ls th).getD j [] = ls.getD (il.getD j 0) []) := fun j hj => by
    have := there_get ls th j (by rw [HL.out, ← HILD.out, hcnt]; exact hj)
    rw [this, HL.out, ← HILD.out]
  clear hIl hcnt hil hilm hili hpb hB2 hb3 hB3 HX1 HY1 HS1 HC1 HBL1 HB1 hx1 hy1 HASK
  go_wp2_with fail
  generalize w2.alloc (.cells #[.slice pl cnt cl] 70) = w3 at *
  generalize w2.heap.size = F at *
  obtain ⟨L, hLL⟩ : ∃ L, L = (ls.getD (il.getD 0 0) []).length := ⟨_, rfl⟩
  have HASK : Hid (AsksI 236 #[.pointer (some ⟨E, 0, none⟩), .pointer (some ⟨F, 0, none⟩)] il (fun j => decide ((ls.getD (il.getD j 0) []).length ≠ L)) w3) := fun j hj w' hD => by
    have h0 : 0 < cnt := by rw [← HCNT.out]; omega
    obtain ⟨g, rfl, -, hc⟩ := (HIL3.out.dr hD) 0 (by rw [HCNT.out]; exact h0)
    have := d2_any E F (il.getD j 0) (il.getD 0 0) n cap cnt cl p g ls w' (by rw [hD.cell]; exact HX3.out) (HS3.out.dr hD) HL.out (by rw [hD.cell]; exact HZ3.out) hc (HILM.out 0 h0).1 (HILM.out j (by rw [← HCNT.out]; exact hj)).1 h0
    rw [hLL]
    exact this
  have HLL := Lib.hid hLL
  clear hLL
  rcases hit_or (fun j => decide ((ls.getD (il.getD j 0) []).length ≠ L)) cnt with ⟨t, ht⟩ | ht
  · have hne : Hid (¬ (ls.length = k + m ∧ th.length = k + m ∧ eqB (thereL ls th) = true)) := fun ⟨_, _, g⟩ => by
      have g1 := (of_decide_eq_true g) t (by rw [hTL.out]; exact ht.1)
      rw [HTG.out t ht.1, HTG.out 0 (by have := ht.1; omega)] at g1
      exact of_decide_eq_true ht.2.1 (by rw [HLL.out]; exact g1)
    have HT := Lib.hid ht
    clear ht
    refine (containsI_hit _ _ enters_D2 il _ pl cnt cl w3 HASK.out HIL3.out HCNT.out (by have := HILD.out; have := pick_len (fun i => th.getD i false) n; have := HCNT.out; simp_all; omega) t HT.out).mono ?_
    rintro e w4 ⟨rfl, hD4⟩
    have HB4 := Lib.hid (HB3.out.trans (hD4.below E))
    clear hD4
    go_wp2
    go_ret2
    exact .inl ⟨_, _, rfl, by decide, by rw [HE.out]; exact HB4.out⟩
  have hcn : cnt ≤ n := by
    have h1 := pick_len (fun i => th.getD i false) n
    rw [← HILD.out, HCNT.out] at h1
    exact h1
  have HEQ : Hid (ls.length = k + m ∧ th.length = k + m ∧ eqB (thereL ls th) = true) := ⟨HL.out.trans HN.out, HTH.out.trans HN.out, decide_eq_true fun j hj => by
    rw [hTL.out] at hj
    rw [HTG.out j hj, HTG.out 0 (by omega), ← HLL.out]
    exact Decidable.byContradiction fun e => of_decide_eq_false (ht j hj) e⟩
  have HROW : Hid (∀ j, j < cnt → (ls.getD (il.getD j 0) []).length = L) := fun j hj => Decidable.byContradiction fun e => of_decide_eq_false (ht j hj) e
  have HT := Lib.hid ht
  clear ht
  refine (containsI_miss _ _ enters_D2 il _ pl cnt cl w3 HASK.out HIL3.out HCNT.out (by omega) HT.out).mono ?_
  rintro e w4 ⟨rfl, hD4⟩
  have HB4 := Lib.hid (HB3.out.trans (hD4.below E))
  have hx4 : w4.cell? ⟨E, 0, none⟩ = some (.slice p n cap) := by rw [hD4.cell]; exact HX3.out
  have hy4 : w4.cell? ⟨E + 1, 0, none⟩ = some (.slice q n cap') := by rw [hD4.cell]; exact HY3.out
  have hz4 : w4.cell? ⟨F, 0, none⟩ = some (.slice pl cnt cl) := by rw [hD4.cell]; exact HZ3.out
  have HIL4 := Lib.hid (HIL3.out.dr hD4)
  have HS4 := Lib.hid (HS3.out.dr hD4)
  have HC4 := Lib.hid (HC3.out.dr hD4)
  have HBL4 := Lib.hid (HBL3.out.dr hD4)
  have hs4 : w4.heap.size = F + 1 := by rw [hD4.heap]; exact hs3
  have HX4 := Lib.hid hx4
  have HY4 := Lib.hid hy4
  have HZ4 := Lib.hid hz4
  clear hD4 HX3 HY3 HZ3 HIL3 HS3 HC3 HBL3 HB3 HASK HT hs3
  by_cases hck : cnt < k
  · have hd : decide ((cnt : Int) < (k : Int)) = true := decide_eq_true (by omega)
    have HCK := Lib.hid hck
    clear hck
    go_wp2
    go_quiet ((go_at_call 237; exact Calls.quiet_of_same ((data_any b k m _ (HC4.out.dr ((Dr.refl _).drewN _))).mono fun e w' ⟨he, hw⟩ => ⟨he, hw.symm⟩)))
    go_wp2
    go_ret2
    exact .inl ⟨_, _, rfl, by decide, by rw [HE.out]; exact below_drewN HB4.out _⟩
  have hd : decide ((cnt : Int) < (k : Int)) = false := decide_eq_false (by omega)
  have hc0 : 0 < cnt := by omega
  have HCK := Lib.hid (show k ≤ cnt by omega)
  obtain ⟨gl, rfl, hgl, hcl0⟩ := HIL4.out 0 (by rw [HCNT.out]; exact hc0)
  go_wp2
  go_quiet ((go_at_call 237; exact Calls.quiet_of_same ((data_any b k m _ (HC4.out.dr ((Dr.refl _).drewN _))).mono fun e w' ⟨he, hw⟩ => ⟨he, hw.symm⟩)))
  have hx5 : (w4.drewN nq).cell? ⟨E, 0, none⟩ = some (.slice p n cap) := hx4
  have hn8 : n < 100000000 := by omega
  have hmat : Mp ((w4.drewN nq).alloc (.cells (tab n (fun _ => .slice none 0 0)) 53)) (F + 1) (F + 1) n 0 L (fun _ => 0) (fun _ _ => 0#8) := by
    have := Mp.zero (D := fun _ => 0) (m := L) (a := fun _ _ => 0#8) (Row.new (w4.drewN nq) 53 n (fun _ => .slice none 0 0)) (show F + 1 ≤ (w4.drewN nq).heap.size by show F + 1 ≤ w4.heap.size; omega)
    rw [show (w4.drewN nq).heap.size = F + 1 from hs4] at this
    exact this
  have hb5 : Below w4.heap.size w4 ((w4.drewN nq).alloc (.cells (tab n (fun _ => .slice none 0 0)) 53)) := (below_drewN (Below.refl _ _) nq).alloc (Nat.le_refl _) _
  have HM5 := Lib.hid hmat
  have HB5 := Lib.hid hb5
  have HL0 := Lib.hid (HILM.out 0 hc0)
  obtain ⟨c, o, q0, cp0, rfl, -, hcs0, -, -, -⟩ := HS4.out.at_ (il.getD 0 0) (by rw [HL.out]; exact HL0.out.1)
  rw [← HLL.out] at hcs0
  have hL5 : L < 100000 := by rw [HLL.out]; exact HLEN.out _ HL0.out.1
  have hL4 : L < 4294967296 := by omega
  have HCL0 := Lib.hid hcl0
  have HCS0 := Lib.hid hcs0
  clear hmat hb5 hcl0 hcs0 hck
  go_wp2
  clear hx5 hx4 hy4 hz4
  generalize (w4.drewN nq).alloc (.cells (tab n (fun _ => .slice none 0 0)) 53) = w5 at *
  go_loopw [10, 42] (fun _ i wr => ∃ i0 : Nat, i0 ≤ n ∧ i = .int .i64 i0 ∧ ∃ D, Mp wr (F + 1) (F + 1) n i0 L D (fun _ _ => 0#8) ∧ Below (F + 1) w4 wr) (fun _ i _ => n - (intOf i).toNat)
  case atStart => exact ⟨0, Nat.zero_le _, rfl, _, HM5.out, by rw [← hs4]; exact HB5.out⟩
  case round =>
    clear HM5 HB5
    obtain ⟨i0, hi0, rfl, D, hM, hB⟩ := hrel
    rename World => WO
    have HM := Lib.hid hM
    have HBr := Lib.hid hB
    have hGlt : F + 1 < WO.heap.size := hM.ltG
    have kp : ∀ (a : Addr) v, w4.cell? a = some v → WO.cell? a = some v ∧ a.block < F + 1 := fun a v h => by
      have h1 := World.block_lt_of_cell? w4 a h
      exact ⟨by rw [hB.cell (by omega)]; exact h, by omega⟩
    obtain ⟨x1, b1⟩ := kp _ _ HX4.out
    obtain ⟨x2, b2⟩ := kp _ _ HZ4.out
    obtain ⟨x3, b3⟩ := kp _ _ HCL0.out
    obtain ⟨x4, b4⟩ := kp _ _ HCS0.out
    have HKP := Lib.hid kp
    clear kp
    by_cases hlt : i0 < n
    · have hd0 : decide ((i0 : Int) < (n : Int)) = true := decide_eq_true (by omega)
      have hl0 : (i0 : Int) < (n : Int) := by omega
      have hln : il.getD 0 0 < n := HL0.out.1
      have hc0i : (0 : Int) < (cnt : Int) := by omega
      generalize il.getD 0 0 = l0 at *
      have hlni : (l0 : Int) < (n : Int) := by omega
      have hbA : Below WO.heap.size WO (WO.drew.alloc (.cells (zb L) 5)) := (Below.refl _ _).drew.alloc (Nat.le_refl _) _
      have hr : Row (WO.drew.alloc (.cells (zb L) 5)) WO.heap.size 5 L (fun j => B 0#8) := Row.new WO.drew _ L _
      have hMA := hM.of_below hbA
      have hc2 : WO.cell? ⟨F + 1, i0, none⟩ = some (hdr i0 L D i0) := hM.hds.cell i0 hlt
      have hf2 : WO.frozen? ⟨F + 1, i0, none⟩ = false := hM.free i0
      have hcm : (WO.drew.alloc (.cells (zb L) 5)).cell? ⟨F + 1, i0, none⟩ = some (hdr i0 L D i0) := hMA.hds.cell i0 hlt
      have hfm : (WO.drew.alloc (.cells (zb L) 5)).frozen? ⟨F + 1, i0, none⟩ = false := hMA.free i0
      have hMB := hMA.put i0 WO.heap.size (fun _ => 0#8) hr (i0 + 1) (.inr ⟨rfl, rfl⟩) (fun j hj _ => by have := hM.lt j hj; omega) (by omega) (by omega)
      have hcomm : (WO.drew.alloc (.cells (zb L) 5)).setCell ⟨F + 1, i0, none⟩ (.slice (some ⟨WO.heap.size, 0, none⟩) L L) = ((WO.setCell ⟨F + 1, i0, none⟩ (.slice (some ⟨WO.heap.size, 0, none⟩) L L)).alloc (.cells (zb L) 5)).drew := (World.setCell_alloc_past (w := WO.drew) _ (F + 1) i0 _ (by exact hGlt)).trans rfl
      have HCM := Lib.hid hcomm
      have HM1 := Lib.hid hMB
      have HB1 := Lib.hid (show Below (F + 1) w4 ((WO.drew.alloc (.cells (zb L) 5)).setCell ⟨F + 1, i0, none⟩ (.slice (some ⟨WO.heap.size, 0, none⟩) L L)) from ((hB.drew).alloc (Nat.le_of_lt hGlt) _).setCell (Nat.le_refl _) _)
      clear hbA hr hMA hMB hM hB hcomm
      go_wp2
      go_region
      go_wp2
      go_roundw
      case rel =>
        have hm := HM1.out
        have hb := HB1.out
        rw [HCM.out] at hm hb
        refine ⟨i0 + 1, by omega, by go_num, _, hm.congr fun x y _ _ => ?_, hb⟩
        unfold setr
        split <;> rfl
      case measure => simp [intOf]; omega
    · have hd0 : decide ((i0 : Int) < (n : Int)) = false := decide_eq_false (by omega)
      obtain rfl : i0 = n := by omega
      obtain ⟨XS, hXS⟩ : ∃ XS : Nat → Mx, XS = fun s => putX (fun _ _ => 0#8) (mx ls) (fun s => il.getD s 0) (fun s => il.getD s 0) s := ⟨_, rfl⟩
      have HXS := Lib.hid hXS
      have HM0 := Lib.hid (show Mp WO (F + 1) (F + 1) i0 i0 L D (XS 0) by rw [hXS]; exact HM.out)
      clear hM hB x1 x3 x4 HM hXS
      go_wp2
      clear x2
      go_loopw [12, 59] (fun _ i wr => ∃ s : Nat, s ≤ cnt ∧ i = .int .i64 s ∧ Mp wr (F + 1) (F + 1) i0 i0 L D (XS s) ∧ Below (F + 1) w4 wr) (fun _ i _ => cnt - (intOf i).toNat)
      case atStart => exact ⟨0, Nat.zero_le _, rfl, HM0.out, HBr.out⟩
      case round =>
        clear HM0 HBr HKP
        obtain ⟨s, hs, rfl, hM, hB⟩ := hrel
        rename World => WP
        have HM := Lib.hid hM
        have HBr := Lib.hid hB
        have hGlp : F + 1 < WP.heap.size := hM.ltG
        have kp : ∀ (a : Addr) v, w4.cell? a = some v → WP.cell? a = some v := fun a v h => by
          have h1 := World.block_lt_of_cell? w4 a h
          rw [hB.cell (by omega)]; exact h
        by_cases hlts : s < cnt
        · have hd1 : decide ((s : Int) < (cnt : Int)) = true := decide_eq_true (by omega)
          have hl1 : (s : Int) < (cnt : Int) := by omega
          obtain ⟨g', e', -, y0⟩ := HIL4.out s (by rw [HCNT.out]; exact hlts)
          injection e' with e'
          injection e' with e' _
          subst e'
          have y1 := kp _ _ y0
          have hum := (HILM.out s hlts).1
          have hrow := HROW.out s hlts
          obtain ⟨c', o', q1, cp1, ec, -, z0, z1, -, -⟩ := HS4.out.at_ (il.getD s 0) (by rw [HL.out]; exact hum)
          injection ec with ec
          injection ec with ec1 ec2
          subst ec1 ec2
          rw [hrow] at z0
          have y2 := kp _ _ z0
          have y3 := kp _ _ HX4.out
          have y4 := hM.cellH (il.getD s 0) hum hum
          have HSL := Lib.hid (show Sl WP.drew q1 (ls.getD (il.getD s 0) []) from (z1.of_below (by rw [hs4]; exact hB)).dr (Dr.refl _).drew)
          have HROWD := Lib.hid (hM.row (il.getD s 0) hum)
          have HSLN := Lib.hid hrow
          generalize hu : il.getD s 0 = u at *
          have HU := Lib.hid hu
          have hui : (u : Int) < (i0 : Int) := by omega
          have HLU := Lib.hid (show L = min L L by simp)
          clear kp hM hB z1 y0 hu hrow z0
          go_wp2
          refine wp_region_still_tail 8 (by kernel_rfl) (by kernel_rfl) ?_
          simp only [List.take_succ_cons, List.take_zero, List.drop_succ_cons, List.drop_zero, World.drew_eq]
          repeat (refine wpStill_step (fun K hK => ?_); go_simp; refine hK _ ?_; clear hK K)
          refine wpStill_nil ?_
          go_wp2_with (first | (refine wpl_copyM _ rfl (.tmp 66) (.tmp 70) rfl (D u) L L (fun j => B (XS s u j)) q1 L cp1 (ls.getD u []) rfl rfl HROWD.out.drew HSLN.out HSL.out L HLU.out ?_; rintro w6 hR6 hK6; have HR6 := Lib.hid hR6; have HK6 := Lib.hid hK6; clear hR6 hK6))
          go_roundw
          case rel =>
            have hk : Kp (D u) WP w6 := (Kp.drewN (Kp.refl (D u) WP) 1).trans HK6.out
            have hlo := HM.out.lo u hum
            have hm := HM.out.alter u hum (mx ls u) hk (HR6.out.congr fun j hj => by
              show copied1 _ _ _ j = _
              unfold copied1
              rw [if_pos hj]
              rfl)
            refine ⟨s + 1, by omega, by go_num, hm.congr fun x y _ _ => ?_, HBr.out.trans (hk.below hlo (by omega))⟩
            rw [HXS.out]
            show setr _ _ _ x y = setr _ _ _ x y
            simp only [HU.out]
          case measure => simp [intOf]; omega
        · have hd1 : decide ((s : Int) < (cnt : Int)) = false := decide_eq_false (by omega)
          obtain rfl : s = cnt := by omega
          have y1 := kp _ _ HY4.out
          have HBW := Lib.hid (show Below w4.heap.size w4 WP by rw [hs4]; exact hB)
          have HMW := Lib.hid (show Mp WP w4.heap.size (F + 1) i0 i0 L D (XS s) by rw [hs4]; exact hM)
          have HXN := Lib.hid (show ∀ i x, i < i0 → th.getD i false = false → XS s i x = 0#8 from fun i x hi hf => by
            rw [HXS.out]
            refine putX_no (fun _ _ => 0#8) _ _ _ s i x fun a ha e => ?_
            have e' : il.getD a 0 = i := e
            have := (HILM.out a ha).2
            rw [e', hf] at this
            cases this)
          have HXY := Lib.hid (show ∀ i x, i < i0 → th.getD i false = true → XS s i x = mx ls i x from fun i x hi hf => by
            rw [HXS.out]
            obtain ⟨t, ht, he⟩ := pick_find (f := fun i => th.getD i false) hi hf
            rw [← HILD.out] at he ht
            have := putX_yes (fun _ _ => 0#8) (mx ls) (fun s => il.getD s 0) (fun s => il.getD s 0) s t x (by rw [← HCNT.out]; exact ht) HILI.out
            simp only [he] at this
            exact this)
          clear kp hM hB HM HBr
          go_wp2_with fail
          refine (recD_any b k m i0 L (F + 1) cap' D (XS s) th q w4 WP HC4.out HBW.out HMW.out HN.out HBL4.out HTH.out hL5 (fun i x hi hf _ => HXN.out i x (by have := HN.out; omega) hf) (by rw [← HN.out, ← HILD.out, HCNT.out]; exact HCK.out)).mono ?_
          rintro e w7 ⟨rfl, D7, Y, hM7, hB7, hY7, rl, hr1, hr2, hr3⟩
          have HM7 := Lib.hid hM7
          have HB7 := Lib.hid hB7
          have HY7 := Lib.hid hY7
          have HR7 := Lib.hid (And.intro hr1 (And.intro hr2 hr3))
          have y7 : w7.cell? ⟨E + 1, 0, none⟩ = some (.slice q i0 cap') := by rw [hB7.cell (World.block_lt_of_cell? w4 _ HY4.out)]; exact HY4.out
          clear hM7 hB7 hY7 hr1 hr2 hr3 y1
          go_wp2_with fail
          refine (recP_any b k m i0 L (F + 1) cap' D7 Y th q w4 w7 HC4.out HB7.out HM7.out HN.out HBL4.out HTH.out hL5).mono ?_
          rintro e w8 ⟨rfl, D8, hM8, hB8⟩
          have HM8 := Lib.hid hM8
          have HB8 := Lib.hid (HB4.out.trans (hB8.mono (by omega)))
          clear hM8 hB8 y7
          go_wp2
          go_ret2
          have hN := HN.out
          obtain ⟨hr1, hr2, hr3⟩ := HR7.out
          refine .inr ⟨L, _, _, F + 1, _, rfl, HM8.out, ?_, ⟨rl.getD 0 0, ?_, ?_⟩, fun i hi hf => ?_, by rw [HE.out]; exact HB8.out⟩
          · exact HB4.out.size
          · have h0 := (hr1 0 (by omega)).1; omega
          · exact (hr3 0 (by omega)).1
          · obtain ⟨t, ht, he⟩ := pick_find (f := fun i => th.getD i false) (n := i0) (i := i) (by omega) hf
            rw [← HILD.out] at he ht
            rw [← he]
            exact HROW.out t (by rw [← HCNT.out]; exact ht)
end
end Go.Proofs.YtnmopjefjpifoaaGreatDoor
/- (*sidecar.mender).decode. -/
set_option maxRecDepth 100000
namespace Go.Proofs.YtnmopjefjpifoaaGreatDoor
open Go Go.RowKit
attribute [-go_sem] Sha.exec_store

/-- The blocks of a stripe that are not right. -/
def badL (k : Nat) (hb : Nat → Bool) : List Nat := (List.range k).filter fun i => !hb i
theorem badL_succ (k : Nat) (hb : Nat → Bool) : badL (k + 1) hb = if hb k = true then badL k hb else badL k hb ++ [k] := by
  unfold badL
  rw [List.range_succ, List.filter_append]
  cases h : hb k <;> simp [h]
theorem badL_len (k : Nat) (hb : Nat → Bool) : (badL k hb).length ≤ k := by
  have := List.length_filter_le (fun i => !hb i) (List.range k)
  simpa [badL] using this
theorem OwnIV.lower {w : World} {base b2 : Nat} {v : Value} {l : List Nat} (h : OwnIV w base v l) (hb : b2 ≤ base) : OwnIV w b2 v l := own_lower h hb
/-- What decode returns: nothing, or which blocks are bad and all shards. -/
def DeoR (w : World) (k : Nat) (hb : Nat → Bool) (e : Ending) (w' : World) : Prop :=
  ∃ dv bv bl, e = .returned (.tuple #[dv, bv]) ∧ OwnIV w' w.heap.size bv bl ∧ Below w.heap.size w w' ∧ (bl = [] ∨ (bl = badL k hb ∧ ∃ G N D Y, dv = .slice (some ⟨G, 0, none⟩) (k + 2) (k + 2) ∧ Mp w' N G (k + 2) (k + 2) 256 D Y ∧ w.heap.size ≤ N))
attribute [local go_sem ↓] exec_bs
attribute [local go_sem] bsR bs1I
set_option maxRecDepth 100000 in
set_option maxHeartbeats 8000000 in
theorem decode12_any (b : Nat) (r : Rc) (ds : List (List (BitVec 8))) (cv : Value) (q2 : Option Addr) (n2 cap2 G ni ff k cap : Nat) (sl : List (BitVec 8)) (iv : Nat → Bool) (bs : List (List (BitVec 8))) (p : Option Addr) (w : World)
    (hM : Mdr w b r cv (.slice q2 n2 cap2) (.slice (some ⟨G, 0, none⟩) ni ni)) (hD : DgAt w r ds) (hS : SideAt w q2 n2 cap2 G ni sl iv) (hd : ds.length < 1000000) (hL : Lay w p bs) (hk : bs.length = k) (hk1 : 1 ≤ k) (hk4 : k ≤ 4) (hbl : ∀ i, i < bs.length → (bs.getD i []).length ≤ 256)
    (hff : ff + k ≤ ds.length) (hni : ff / 4 * 2 + 2 ≤ ni) (hni2 : ni < 1000000) (hT : Tb w) :
    Calls Tryz.prog 152 #[.pointer (some ⟨b, 0, none⟩), .int .i64 (ff : Int), .slice p k cap] w (DeoR w k (fun i => deq (digL (bs.getD i [])) (ds.getD (ff + i) []))) := by
  have HSD := Lib.hid (shards12_any b r ds cv q2 n2 cap2 G ni ff k cap sl iv bs p w hM hD hS hd hL hk hk1 hk4 hbl hff hni hni2 hT)
  obtain ⟨hb, hhb⟩ : ∃ h : Nat → Bool, (fun i => deq (digL (bs.getD i [])) (ds.getD (ff + i) [])) = h := ⟨_, rfl⟩
  rw [hhb] at HSD ⊢
  clear hM hD hS hd hL hbl hff hni hni2 hT hhb hk
  go_enter Tryz.func152, Tryz.ntmps152
  go_wp2_with fail
  refine HSD.out.mono ?_
  rintro e w1 ⟨M, v1, v2, ls, us, rfl, hSh, hOk, hB⟩
  obtain ⟨qu, cu, rfl, hBl, hqu, hcu⟩ := hSh.flags.shape
  obtain ⟨qr, cr, rfl, hPr, hqr, hcr⟩ := hSh.rows.prt
  obtain ⟨hl1, hl2, hl3, hl4, hl5⟩ := hOk
  rw [hl1, hl2]
  have HBL := Lib.hid hBl
  have HPR := Lib.hid hPr
  have HLE := Lib.hid (And.intro hl1 hl2)
  have HL4 := Lib.hid hl4
  have HL5 := Lib.hid hl5
  have HB1 := Lib.hid hB
  obtain ⟨cu0, ou0, equ, -⟩ := hBl 0 (by omega)
  subst equ
  have HCE := Lib.hid (show ∀ i, i < k → ∀ u, Below w1.heap.size w1 u → u.cell? ⟨cu0, ou0 + i, none⟩ = some (.bool (hb i)) from fun i hi u hu => by
    obtain ⟨c, o, e, hc⟩ := hBl i (by omega)
    injection e with e
    injection e with e1 e2 e3
    subst e1 e2
    rw [hu.cell (by exact World.block_lt_of_cell? _ _ hc), hc, hl3 i hi])
  have hww := Lib.hid hB.size
  clear hSh hBl hPr hl1 hl2 hl3 hl4 hl5 hB hqu hcu hqr hcr HSD
  go_wp2
  go_loopw [23, 7] (fun fi fb wr => ∃ (i nb : Nat) (qb : Option Addr) (cb : Nat), i ≤ k ∧ fi = .int .i64 (i : Int) ∧ fb = .slice qb nb cb ∧ nb = (badL i hb).length ∧ OwnIV wr w1.heap.size (.slice qb nb cb) (badL i hb) ∧ Below w1.heap.size w1 wr) (fun fi _ _ => k - (intOf fi).toNat)
  case atStart => exact ⟨0, 0, none, 0, Nat.zero_le _, rfl, rfl, rfl, OwnIV.nil _ _, Below.refl _ _⟩
  case round =>
    obtain ⟨i, nb, qb, cb, hi, rfl, rfl, hnb, hO, hB⟩ := hrel
    have HO := Lib.hid hO
    have HB := Lib.hid hB
    have HNB := Lib.hid hnb
    by_cases hin : i < k
    · have z3 : (i : Int) < (k : Int) := by omega
      have z4 : decide ((i : Int) < (k : Int)) = true := decide_eq_true z3
      have z5 : (0 : Int) ≤ (i : Int) := by omega
      have z6 : (i : Int) < ((k + 2 : Nat) : Int) := by omega
      have hce := HCE.out i hin wr hB
      have HIN := Lib.hid hin
      clear hO hB hnb
      rcases hbi : hb i with _ | _
      · rw [hbi] at hce
        have HBI := Lib.hid hbi
        clear hbi
        have hbn := below_newR wr (.cells #[.int .i64 (i : Int)] 3)
        have hc5 : (wr.alloc (.cells #[.int .i64 (i : Int)] 3)).cell? ⟨wr.heap.size, 0, none⟩ = some (.int .i64 (i : Int)) := World.cell?_alloc_new _ _ _ _
        have HO5 := Lib.hid (HO.out.of_below hbn)
        have HB5 := Lib.hid (HB.out.trans (hbn.mono HB.out.size))
        have hlb := badL_len i hb
        have HSU := Lib.hid (badL_succ i hb)
        clear hbn
        go_wp2_with (first | (refine wpl_pushI _ rfl (.tmp 31) (.tmp 33) rfl w1.heap.size (.slice qb nb cb) (badL i hb) rfl HO5.out ⟨wr.heap.size, 0, none⟩ rfl i hc5 nb HNB.out.symm (by have := HNB.out; omega) HB5.out.size ?_; rintro g6 c6 w6 hO6 hg6 ho6; have HO6 := Lib.hid hO6; have HB6 := Lib.hid (HB5.out.grown hg6 HB5.out.size (fun g hg => (HO5.out.lt g hg).1)); clear hO6 hg6 ho6))
        go_roundw
        case rel => exact ⟨i + 1, nb + 1, _, c6, by have := HIN.out; omega, by go_num, rfl, by rw [HSU.out, HBI.out, HNB.out]; simp, by rw [HSU.out, HBI.out]; simpa using HO6.out, HB6.out⟩
        case measure => have := HIN.out; simp [intOf]; omega
      · rw [hbi] at hce
        have HBI := Lib.hid hbi
        have HSU := Lib.hid (badL_succ i hb)
        clear hbi
        go_wp2
        go_roundw
        case rel => exact ⟨i + 1, nb, qb, cb, by have := HIN.out; omega, by go_num, rfl, by rw [HSU.out, HBI.out, HNB.out]; simp, by rw [HSU.out, HBI.out]; simpa using HO.out, HB.out⟩
        case measure => have := HIN.out; simp [intOf]; omega
    · have z3 : ¬ (i : Int) < (k : Int) := by omega
      have z4 : decide ((i : Int) < (k : Int)) = false := decide_eq_false z3
      obtain rfl : i = k := by omega
      clear hO hB hnb
      by_cases hn0 : nb = 0
      · subst hn0
        go_wp2
        go_ret2
        exact ⟨_, _, [], rfl, OwnIV.nil _ _, HB1.out.trans (HB.out.mono hww.out), .inl rfl⟩
      · have e0 : ((nb : Int) == 0) = false := by simpa using hn0
        have e1 : ¬ ((nb : Int) = 0) := by omega
        have e2 : decide ((nb : Int) = 0) = false := decide_eq_false e1
        have HNW := Lib.hid (new_ok i 2 wr hk1 (by decide) (by omega))
        go_wp2_with fail
        refine HNW.out.mono ?_
        rintro e w3 ⟨cb3, rfl, hC3, hB3⟩
        have HBLW := Lib.hid (HBL.out.of_below (HB.out.trans (hB3.mono HB.out.size)))
        have HC3 := Lib.hid hC3
        have HB3 := Lib.hid (HB.out.trans (hB3.mono HB.out.size))
        have HR3 := Lib.hid hB3
        have HFO := Lib.hid (firstOf12_any us ⟨cu0, ou0, none⟩ (i + 2) cu i w3 HLE.out.2 HBLW.out (by omega) (by omega) (by omega))
        clear hC3 hB3 HNW
        go_wp2_with fail
        refine HFO.out.mono ?_
        rintro e w4 ⟨qt, ct, th, rfl, hth, hBt, htu, hB4⟩
        have HR4 := Lib.hid (HR3.out.trans (hB4.mono HR3.out.size))
        have HB4 := Lib.hid (HB3.out.trans (hB4.mono HB3.out.size))
        have HTU := Lib.hid htu
        have HDC := Lib.hid (decS12 cb3 i 2 ls th qr qt (i + 2) cr ct w4 (HC3.out.keep hB4) (HPR.out.of_below HB4.out) hBt HLE.out.1 hth rfl (fun t ht => by have := HL5.out t ht; omega))
        clear hth hBt hB4 htu HFO
        go_wp2_with fail
        refine HDC.out.mono ?_
        rintro e w5 (⟨rv, t, rfl, ht0, hB5⟩ | ⟨L, D, Y, G5, N5, rfl, hM5, hN5, ⟨t, ht1, ht2⟩, htl, hB5⟩)
        · have HB5 := Lib.hid (HB4.out.trans (hB5.mono HB4.out.size))
          have t0 : ¬ (t = 0) := ht0
          have t1 : decide (t = 0) = false := decide_eq_false t0
          have t2 : (t == 0) = false := by simpa using t0
          have t3 : (t != 0) = true := by simpa using t0
          clear hB5 ht0
          go_wp2
          go_ret2
          exact ⟨_, _, [], rfl, OwnIV.nil _ _, HB1.out.trans (HB5.out.mono hww.out), .inl rfl⟩
        · have hL6 : L = 256 := by rw [← htl t ht1 ht2]; exact HL4.out t ht1 (HTU.out t ht1 ht2)
          subst hL6
          have HR5 := Lib.hid (HR4.out.trans (hB5.mono HR4.out.size))
          have HB5 := Lib.hid (HB4.out.trans (hB5.mono HB4.out.size))
          have HM5 := Lib.hid hM5
          have HN5 := Lib.hid (Nat.le_trans HB4.out.size hN5)
          clear hB5 hM5 hN5 ht1 ht2 htl
          go_wp2
          go_ret2
          exact ⟨_, _, badL i hb, rfl, (HO.out.of_below HR5.out).lower hww.out, HB1.out.trans (HB5.out.mono hww.out), .inr ⟨rfl, G5, N5, D, Y, rfl, HM5.out, Nat.le_trans hww.out HN5.out⟩⟩
end Go.Proofs.YtnmopjefjpifoaaGreatDoor
/- copy into the middle of a row of the call's own. -/
set_option maxRecDepth 100000
namespace Go.Proofs.YtnmopjefjpifoaaGreatDoor
open Go Go.RowKit
attribute [-go_sem] Sha.exec_store

/-- What the copy leaves: the bytes l from o on. -/
def put12 (o : Nat) (l : List (BitVec 8)) (g : Nat → BitVec 8) : Nat → BitVec 8 := fun j => if o ≤ j ∧ j < o + l.length then l.getD (j - o) 0#8 else g j
theorem tab_put12 (m o : Nat) (g : Nat → BitVec 8) (l : List (BitVec 8)) (h : o + l.length ≤ m) :
    ((tab m (fun j => B (g j))).toList.take o ++ l.map B ++ (tab m (fun j => B (g j))).toList.drop (o + (l.map B).length)).toArray = tab m (fun j => B (put12 o l g j)) := by
  unfold tab
  congr 1
  apply List.ext_getElem?
  intro j
  simp only [List.length_map]
  by_cases h1 : j < o
  · rw [List.append_assoc, List.getElem?_append_left (by simp; omega), List.getElem?_take, if_pos h1]
    have hj : j < m := by omega
    simp [hj, put12, show ¬ o ≤ j by omega]
  · rw [List.append_assoc, List.getElem?_append_right (by simp; omega)]
    have e1 : j - (List.take o (List.map (fun j => B (g j)) (List.range m))).length = j - o := by simp; omega
    rw [e1]
    by_cases h2 : j < o + l.length
    · rw [List.getElem?_append_left (by simp; omega)]
      have hj : j < m := by omega
      have hj2 : j - o < l.length := by omega
      simp [hj, hj2, put12, List.getD_eq_getElem?_getD, show o ≤ j by omega, h2]
    · rw [List.getElem?_append_right (by simp; omega), List.getElem?_drop]
      have e2 : o + l.length + (j - o - (l.map B).length) = j := by simp; omega
      rw [e2]
      by_cases hj : j < m
      · simp [hj, put12, h2]
      · simp [hj]
theorem run_copyO12 (w : World) (ty : TypeId) (E m o d c : Nat) (g : Nat → BitVec 8) (q : Option Addr) (n c' : Nat) (l : List (BitVec 8)) (hR : Row w E 5 m (fun j => B (g j))) (hl : l.length = n) (hsl : Sl w q l) (h0 : 0 < n) (hn : n ≤ d) (hd : o + d ≤ m) :
    ∃ w', (Builtin.copy_ #[53, 53] ty #[.slice (some ⟨E, o, none⟩) d c, .slice q n c']).run Tryz.prog w = .ok (.int .i64 (n : Int)) w' ∧ Row w' E 5 m (fun j => B (put12 o l g j)) ∧ Kp E w w' := by
  subst hl
  obtain ⟨c0, o0, rfl, hc⟩ := hsl 0 h0
  have key := run_copy_row (P := Tryz.prog) w 53 53 ty 5 E o d c ⟨c0, o0, none⟩ l.length c' (tab m (fun j => B (g j))) 5 (l.map B) und35 (by kernel_rfl) hR (by rw [List.length_map]; exact (Nat.min_eq_left hn).symm)
    (fun j v hv => hsl.news j v hv) (by rw [tab_size, List.length_map]; omega) (one_map _)
  rw [tab_put12 m o g l (by omega), List.length_map] at key
  exact ⟨_, key, setRow_heap w E _ _ 5 _ hR, ⟨rfl, rfl, rfl, by simp [World.setRow], fun k _ hk => setRow_other w E k _ hk⟩⟩
section
variable {ops : Array Oper} {rest : List Oper} {o : Oper} {a : Act} {Q : Exit → Act → World → Prop} (w : World) (hgd : o.guard = none) (dd s : Operand)
    (ho : o.op = .call { callee := .builtin .copy, args := #[dd, s], argTypes := #[53, 53] }) (E m of d c : Nat) (g : Nat → BitVec 8) (q : Option Addr) (n c' : Nat) (l : List (BitVec 8))
    (hde : a.eval dd = .slice (some ⟨E, of, none⟩) d c) (hs : a.eval s = .slice q n c') (hR : Row w E 5 m (fun j => B (g j))) (hl : l.length = n) (hsl : Sl w q l) (h0 : 0 < n) (hn : n ≤ d) (hd : of + d ≤ m)
include hgd ho hde hs hR hl hsl h0 hn hd
theorem wpl_copyO12 (h : ∀ w', Row w' E 5 m (fun j => B (put12 of l g j)) → Kp E w w' → wpList Tryz.prog ops Q rest (a.put o.dst (.int .i64 (n : Int))) w') : wpList Tryz.prog ops Q (o :: rest) a w := by
  refine wpList_plain hgd fun K hK => ?_
  obtain ⟨w', hr, h2, h3⟩ := run_copyO12 w o.type E m of d c g q n c' l hR hl hsl h0 hn hd
  unfold Oper.wp execOp
  simp only [ho, resolve, invoke, builtin, Sem.run_bind, Sem.run_pure, Result.andThen_ok, List.map_toArray, List.map_cons, List.map_nil, hde, hs, hr]
  exact hK _ _ (h w' h2 h3)
end
end Go.Proofs.YtnmopjefjpifoaaGreatDoor
/- The mender while it mends: what it holds, and what has been repaired of a stripe. -/
set_option maxRecDepth 100000
namespace Go.Proofs.YtnmopjefjpifoaaGreatDoor
open Go Go.RowKit
attribute [-go_sem] Sha.exec_store

/-- The mender b, made in w0, whose content (block C) holds ct. -/
structure MenIn (w0 w : World) (b : Nat) (r : Rc) (ds : List (List (BitVec 8))) (C sz : Nat) (q2 : Option Addr) (n2 cap2 G ni : Nat) (sd : List (BitVec 8)) (iv : Nat → Bool) (ct : Nat → BitVec 8) : Prop where
  tb : Tb w0
  dg : DgAt w0 r ds
  sdl : Sl w0 q2 sd
  bel : Below w0.heap.size w0 w
  hC : w0.heap.size ≤ C
  hb : w0.heap.size ≤ b
  mdr : Mdr w b r (.slice (some ⟨C, 0, none⟩) sz sz) (.slice q2 n2 cap2) (.slice (some ⟨G, 0, none⟩) ni ni)
  flg : Row w G 4 ni (fun j => .bool (iv j))
  row : Row w C 5 sz (fun j => B (ct j))
  nb : b ≠ C
  nG : G ≠ C
  few : ds.length < 1000000
  ni2 : ni < 1000000
  len : sd.length = n2
  cap : n2 ≤ cap2
  few2 : n2 < 1000000
  ok : ∀ j, j < ni → iv j = true → 288 * j + 320 ≤ n2
  sz2 : sz < 1000000
section
variable {w0 w u : World} {b : Nat} {r : Rc} {ds : List (List (BitVec 8))} {C sz : Nat} {q2 : Option Addr} {n2 cap2 G ni : Nat} {sd : List (BitVec 8)} {iv : Nat → Bool} {ct : Nat → BitVec 8}
theorem MenIn.of_below (h : MenIn w0 w b r ds C sz q2 n2 cap2 G ni sd iv ct) (k : Below w.heap.size w u) : MenIn w0 u b r ds C sz q2 n2 cap2 G ni sd iv ct :=
  { h with bel := h.bel.trans (k.mono h.bel.size), mdr := h.mdr.of_below k, flg := h.flg.of_below k, row := h.row.of_below k }
theorem MenIn.of_kp (h : MenIn w0 w b r ds C sz q2 n2 cap2 G ni sd iv ct) (k : Kp C w u) {ct' : Nat → BitVec 8} (hr : Row u C 5 sz (fun j => B (ct' j))) : MenIn w0 u b r ds C sz q2 n2 cap2 G ni sd iv ct' :=
  { h with bel := h.bel.trans (k.below h.hC h.bel.size), mdr := Row.of_kp h.mdr k h.nb, flg := h.flg.of_kp k h.nG, row := hr }
theorem MenIn.dgw (h : MenIn w0 w b r ds C sz q2 n2 cap2 G ni sd iv ct) : DgAt w r ds := h.dg.of_below h.bel
theorem MenIn.tbw (h : MenIn w0 w b r ds C sz q2 n2 cap2 G ni sd iv ct) : Tb w := h.tb.on h.bel
theorem MenIn.side (h : MenIn w0 w b r ds C sz q2 n2 cap2 G ni sd iv ct) : SideAt w q2 n2 cap2 G ni sd iv := ⟨h.sdl.of_below h.bel, h.len, h.cap, h.few2, h.flg, h.ok⟩
end
/-- What has been repaired of a stripe: R, of the bad ones bl. -/
def MdOk (ff : Nat) (len : Nat → Nat) (ds : List (List (BitVec 8))) (ct0 ct : Nat → BitVec 8) (bl R : List Nat) : Prop :=
  R.Nodup ∧ (∀ x ∈ R, ∃ i ∈ bl, x = ff + i) ∧ (∀ i, ff + i ∈ R → deq (digL ((List.range (len i)).map fun u => ct (256 * (ff + i) + u))) (ds.getD (ff + i) []) = true) ∧ ∀ j, (∀ x ∈ R, ¬ (256 * x ≤ j ∧ j < 256 * x + 256)) → ct j = ct0 j
theorem MdOk.start (ff : Nat) (len : Nat → Nat) (ds : List (List (BitVec 8))) (ct0 : Nat → BitVec 8) : MdOk ff len ds ct0 ct0 [] [] :=
  ⟨List.nodup_nil, fun x hx => by simp at hx, fun i hi => by simp at hi, fun j _ => rfl⟩
theorem MdOk.skip {ff : Nat} {len : Nat → Nat} {ds : List (List (BitVec 8))} {ct0 ct : Nat → BitVec 8} {bl R : List Nat} (h : MdOk ff len ds ct0 ct bl R) (i : Nat) : MdOk ff len ds ct0 ct (bl ++ [i]) R :=
  ⟨h.1, fun x hx => by obtain ⟨a, ha, e⟩ := h.2.1 x hx; exact ⟨a, List.mem_append_left _ ha, e⟩, h.2.2.1, h.2.2.2⟩
theorem MdOk.push {ff : Nat} {len : Nat → Nat} {ds : List (List (BitVec 8))} {ct0 ct : Nat → BitVec 8} {bl R : List Nat} (h : MdOk ff len ds ct0 ct bl R) (i : Nat) (l : List (BitVec 8)) (hi : i ∉ bl) (hl : l.length = len i) (hlen : ∀ i, len i ≤ 256) (hd : deq (digL l) (ds.getD (ff + i) []) = true) :
    MdOk ff len ds ct0 (put12 (256 * (ff + i)) l ct) (bl ++ [i]) (R ++ [ff + i]) := by
  obtain ⟨h1, h2, h3, h4⟩ := h
  have hnm : ff + i ∉ R := fun hm => by
    obtain ⟨a, ha, e⟩ := h2 _ hm
    obtain rfl : a = i := by omega
    exact hi ha
  refine ⟨?_, fun x hx => ?_, fun a ha => ?_, fun j hj => ?_⟩
  · rw [List.nodup_append]
    refine ⟨h1, by simp, fun a ha b hb e => ?_⟩
    simp at hb
    subst hb e
    exact hnm ha
  · rcases List.mem_append.1 hx with hx | hx
    · obtain ⟨a, ha, e⟩ := h2 x hx
      exact ⟨a, List.mem_append_left _ ha, e⟩
    · simp at hx
      exact ⟨i, by simp, hx⟩
  · by_cases hai : a = i
    · subst hai
      have e : (List.range (len a)).map (fun u => put12 (256 * (ff + a)) l ct (256 * (ff + a) + u)) = l := by
        apply List.ext_getElem?
        intro t
        by_cases ht : t < l.length
        · simp [← hl, ht, put12, List.getD_eq_getElem?_getD]
        · simp [← hl, ht]
      rw [e]
      exact hd
    · have ha' : ff + a ∈ R := by
        rcases List.mem_append.1 ha with ha | ha
        · exact ha
        · simp at ha; exact absurd ha hai
      have e : (List.range (len a)).map (fun u => put12 (256 * (ff + i)) l ct (256 * (ff + a) + u)) = (List.range (len a)).map (fun u => ct (256 * (ff + a) + u)) := by
        apply List.map_congr_left
        intro u hu
        have hu' : u < len a := by simpa using hu
        have := hlen a
        have := hlen i
        unfold put12
        rw [if_neg (by omega)]
      rw [e]
      exact h3 a ha'
  · have hji := hj (ff + i) (by simp)
    have := hlen i
    unfold put12
    rw [if_neg (by omega)]
    exact h4 j fun x hx => hj x (List.mem_append_left _ hx)
end Go.Proofs.YtnmopjefjpifoaaGreatDoor
/- What has been repaired of all stripes so far: plain facts. -/
set_option maxRecDepth 100000
namespace Go.Proofs.YtnmopjefjpifoaaGreatDoor
open Go Go.RowKit
attribute [-go_sem] Sha.exec_store

/-- The content as bytes; its blocks. -/
def rowC (ct : Nat → BitVec 8) (n : Nat) : List (BitVec 8) := (List.range n).map ct
theorem rowC_len (ct : Nat → BitVec 8) (n : Nat) : (rowC ct n).length = n := by unfold rowC; simp
theorem blk_row (ct : Nat → BitVec 8) (n x : Nat) : blkL (rowC ct n) x = (List.range (blen n x)).map fun u => ct (256 * x + u) := by
  apply List.ext_getElem?
  intro t
  have hl : (blkL (rowC ct n) x).length = blen n x := by rw [blkL_len, rowC_len]
  by_cases ht : t < blen n x
  · have h1 : t < 256 := by unfold blen at ht; omega
    have h2 : 256 * x + t < n := by unfold blen at ht; omega
    unfold blkL rowC
    rw [List.getElem?_take, if_pos h1, List.getElem?_drop]
    simp [h2, ht]
  · rw [List.getElem?_eq_none (by omega), List.getElem?_eq_none (by simp; omega)]
theorem rowC_self (l : List (BitVec 8)) : rowC (fun j => l.getD j 0#8) l.length = l := by
  apply List.ext_getElem?
  intro t
  unfold rowC
  by_cases ht : t < l.length
  · simp [ht, List.getD_eq_getElem?_getD]
  · simp [ht]
/-- What has been repaired (R) of s stripes: each was bad and is right; all else is as it was. -/
def MdAll (s : Nat) (l : List (BitVec 8)) (ds : List (List (BitVec 8))) (ct : Nat → BitVec 8) (R : List Nat) : Prop :=
  R.Nodup ∧ (∀ x ∈ R, x < 4 * s ∧ x < nblk l.length ∧ deq (digL (blkL l x)) (ds.getD x []) = false ∧ deq (digL (blkL (rowC ct l.length) x)) (ds.getD x []) = true) ∧ ∀ j, (∀ x ∈ R, ¬ (256 * x ≤ j ∧ j < 256 * x + 256)) → ct j = l.getD j 0#8
theorem MdAll.start (l : List (BitVec 8)) (ds : List (List (BitVec 8))) : MdAll 0 l ds (fun j => l.getD j 0#8) [] :=
  ⟨List.nodup_nil, fun x hx => by simp at hx, fun j _ => rfl⟩
theorem MdAll.step {s : Nat} {l : List (BitVec 8)} {ds : List (List (BitVec 8))} {ct ct' : Nat → BitVec 8} {R bl R' : List Nat} (h : MdAll s l ds ct R)
    (hm : MdOk (4 * s) (fun i => ((strB l s).getD i []).length) ds ct ct' bl R') (hb : bl = [] ∨ bl = badL (strB l s).length (fun i => deq (digL ((strB l s).getD i [])) (ds.getD (4 * s + i) []))) : MdAll (s + 1) l ds ct' (R ++ R') := by
  obtain ⟨h1, h2, h3⟩ := h
  obtain ⟨m1, m2, m3, m4⟩ := hm
  have hbl : ∀ i ∈ bl, i < (strB l s).length ∧ deq (digL ((strB l s).getD i [])) (ds.getD (4 * s + i) []) = false := fun i hi => by
    rcases hb with e | e
    · rw [e] at hi; simp at hi
    · rw [e] at hi
      have := List.mem_filter.1 hi
      exact ⟨by simpa using this.1, by simpa using this.2⟩
  have hlen := strB_len l s
  have hR' : ∀ x ∈ R', 4 * s ≤ x ∧ x < 4 * s + 4 ∧ x < nblk l.length ∧ deq (digL (blkL l x)) (ds.getD x []) = false ∧ deq (digL (blkL (rowC ct' l.length) x)) (ds.getD x []) = true := fun x hx => by
    obtain ⟨i, hi, rfl⟩ := m2 x hx
    obtain ⟨g1, g2⟩ := hbl i hi
    have e := strB_get l s i g1
    refine ⟨by omega, by omega, by omega, by rw [← e]; exact g2, ?_⟩
    have := m3 i hx
    dsimp only at this
    rw [e, blkL_len] at this
    rw [blk_row]
    exact this
  refine ⟨?_, fun x hx => ?_, fun j hj => ?_⟩
  · rw [List.nodup_append]
    refine ⟨h1, m1, fun a ha b hb e => ?_⟩
    have := (h2 a ha).1
    have := (hR' b hb).1
    omega
  · rcases List.mem_append.1 hx with hx | hx
    · obtain ⟨a1, a2, a3, a4⟩ := h2 x hx
      refine ⟨by omega, a2, a3, ?_⟩
      have e : blkL (rowC ct' l.length) x = blkL (rowC ct l.length) x := by
        rw [blk_row, blk_row]
        apply List.map_congr_left
        intro u hu
        have hu' : u < blen l.length x := by simpa using hu
        have h256 : u < 256 := by unfold blen at hu'; omega
        refine m4 _ fun y hy => ?_
        have := (hR' y hy).1
        omega
      rw [e]
      exact a4
    · obtain ⟨a0, a1, a2, a3, a4⟩ := hR' x hx
      exact ⟨by omega, a2, a3, a4⟩
  · rw [m4 j fun x hx => hj x (List.mem_append_right _ hx)]
    exact h3 j fun x hx => hj x (List.mem_append_left _ hx)
/-- A block that was not repaired is as it was. -/
theorem MdAll.same {s : Nat} {l : List (BitVec 8)} {ds : List (List (BitVec 8))} {ct : Nat → BitVec 8} {R : List Nat} (h : MdAll s l ds ct R) (k : Nat) (hk : k ∉ R) : blkL (rowC ct l.length) k = blkL l k := by
  conv => rhs; rw [← rowC_self l]
  rw [blk_row, blk_row]
  apply List.map_congr_left
  intro u hu
  have hu' : u < blen l.length k := by simpa using hu
  have h256 : u < 256 := by unfold blen at hu'; omega
  refine h.2.2 _ fun x hx hc => ?_
  have : x = k := by omega
  exact hk (this ▸ hx)
end Go.Proofs.YtnmopjefjpifoaaGreatDoor
/- A range over an iterator that first makes memory of its own, then hands out stripes of it: sidecar.stripes. -/
set_option maxRecDepth 100000
namespace Go.Proofs.YtnmopjefjpifoaaGreatDoor
open Go Go.RowKit Go.Shelf
attribute [-go_sem] Sha.exec_store

theorem Fr12.refl (W : World) (lo : Nat) : Fr12 W W lo W.heap.size := ⟨Nat.le_refl _, fun _ _ _ => rfl⟩
theorem Fr12.trans {W u v : World} {lo hi : Nat} (h : Fr12 W u lo hi) (k : Fr12 u v lo hi) : Fr12 W v lo hi := ⟨k.1, fun g h1 h2 => (k.2 g h1 h2).trans (h.2 g h1 h2)⟩
theorem fr_put {A : World} {lo hi k : Nat} {o : Obj} (hk : k < lo) (hs : hi ≤ A.heap.size) (hlt : k < A.heap.size) : Fr12 A (A.putObj k o) lo hi :=
  ⟨Nat.le_trans hs (below_putP (N := 0) o (Nat.zero_le _) hlt).size, fun g h1 _ => World.putObj_heap_other (by omega)⟩
/-- What the iterator of a sidecar's stripes does with the loop's body. -/
def StripSeq (m bb : Nat) (l : List (BitVec 8)) (w : World) : Prop :=
  ∀ (lp : Nat) (J0 : World → Prop) (J : Nat → Nat → Nat → World → Prop) (A : World), Below w.heap.size w A →
    (∀ B B', J0 B → Below B.heap.size B B' → J0 B') → (∀ lo hi s B k, J lo hi s B → J lo hi s (B.drewN k)) →
    (∀ B, Below A.heap.size A B → J0 B → J A.heap.size B.heap.size 0 B) →
    (∀ lo hi s B q c, s < nstr l.length → J lo hi s B → hi ≤ B.heap.size → (∀ u, Fr12 B u lo hi → Lay u q (strB l s)) → (strB l s).length ≤ c →
      YieldAt Fence.wide (m - 1) Tryz.prog lp #[.int .i64 ((4 * s : Nat) : Int), .slice q (strB l s).length c] B fun e B' => e = .returned (.bool true) ∧ J lo hi (s + 1) B' ∧ Fr12 B B' lo hi) →
    J0 A → CallsIn Fence.wide m Tryz.prog 150 (#[.func (.yield lp) #[] #[]] ++ #[.pointer (some ⟨bb, 0, none⟩)]) A fun e A' => (∃ v, e = .returned v) ∧ ∃ lo hi, J lo hi (nstr l.length) A'
def bodyOutM (lo hi : Nat) (I : Nat → World → Prop) (A : World) (s : Nat) : Exit → Act → World → Prop
  | .normal, _, A' => KeepsOthers A A' ∧ Fr12 A A' lo hi ∧ I (s + 1) A'
  | _, _, _ => False
theorem range_made {l : List (BitVec 8)} {g : Operand} {ps : Array Tmp} {assign body : Code} {Q : Exit → Act → World → Prop} {a : Act} {w : World} {m : Nat} (hm : 1 ≤ m)
    {bb : Nat} (hg : a.eval g = .func (.func 150) #[] #[.pointer (some ⟨bb, 0, none⟩)]) (hps : ps.size = 2) (hseq : StripSeq (m - 1) bb l w)
    (I0 : World → Prop) (I : Nat → Nat → Nat → World → Prop) (hI0 : ∀ B B', I0 B → Below B.heap.size B B' → I0 B') (hst : ∀ A B, w.heap.size + 2 ≤ A.heap.size → Below A.heap.size A B → I0 A → I0 B → I A.heap.size B.heap.size 0 B)
    (hId : ∀ lo hi s A k, I lo hi s A → I lo hi s (A.drewN k)) (hIp : ∀ lo hi s A o, w.heap.size + 2 ≤ lo → w.heap.size + 1 < A.heap.size → I lo hi s A → I lo hi s (A.putObj (w.heap.size + 1) o)) (h0 : I0 w) (a₁ : Nat → Value → Act)
    (hassign : ∀ (L s : Nat) (v : Value) (W : World) (K : Act → World → Prop), K (a₁ s v) W →
      assign.wpIn (Fence.wide.inRound L) (m - 1 - 1) Tryz.prog (Exit.then K (fun _ _ _ => False)) { tmps := (ps.zip #[.int .i64 ((4 * s : Nat) : Int), v]).foldl (fun t (p, v) => t.setIfInBounds p v) a.tmps, defers := [] } W)
    (hbody : ∀ (L lo hi s : Nat) (q : Option Addr) (c : Nat) (A : World), s < nstr l.length → w.heap.size + 2 ≤ lo → hi ≤ A.heap.size → I lo hi s A → (∀ u, Fr12 A u lo hi → Lay u q (strB l s)) → (strB l s).length ≤ c →
      body.wpIn (Fence.wide.inRound L) (m - 1 - 1) Tryz.prog (bodyOutM lo hi (I lo hi) A s) (a₁ s (.slice q (strB l s).length c)) A)
    (hdone : ∀ (D lo hi : Nat) (A : World), D = w.heap.size → I lo hi (nstr l.length) A → A.heap[D]? = some (.deferred (some [])) → Q .normal { a with defers := { target := .collected D, args := #[] } :: a.defers } A) :
    (Code.rangeFunc g ps assign body).wpIn Fence.wide m Tryz.prog Q a w := by
  refine wpIn_rangeFunc fun fn hfn => ?_
  obtain ⟨n, hn⟩ : ∃ n, w.heap.size = n := ⟨_, rfl⟩
  obtain ⟨gf, hgf⟩ : ∃ gf, gf = 150 := ⟨_, rfl⟩
  obtain ⟨lb, hlb⟩ : ∃ lb : Array Value, lb = #[.pointer (some ⟨bb, 0, none⟩)] := ⟨_, rfl⟩
  have eg : ∀ args w, (callFunc gf args).run Tryz.prog w = .ok (.enter gf args) w := by rw [hgf]; exact enters_of Tryz.func150 (by kernel_rfl) rfl
  rw [← hgf, ← hlb] at hg
  obtain ⟨R, hR⟩ : ∃ R : LoopState → Option Code → Loop, R = fun st pe => { state := st, pending := pe, fn, tmps := a.tmps, params := ps, assign, body, defers := n } := ⟨_, rfl⟩
  obtain ⟨W, hW⟩ : ∃ W, (w.alloc (.deferred (some []))).alloc (.loop (R .ready none)) = W := ⟨_, rfl⟩
  have two : ∀ {A : World}, A.heap[n + 1]? = some (.loop (R .busy none)) ∨ A.heap[n + 1]? = some (.loop (R .ready none)) → n + 1 < A.heap.size := fun h => by
    rcases h with h | h <;> exact (Array.getElem?_eq_some_iff.1 h).1
  let At : LoopState → Option Code → World → Prop := fun st pe A => A.heap[n + 1]? = some (.loop (R st pe)) ∧ A.heap[n]? = some (.deferred (some []))
  have at0 : At .ready none W := by
    constructor
    · rw [← hW]
      have := World.alloc_heap_new (w.alloc (.deferred (some []))) (.loop (R .ready none))
      rwa [World.size_alloc, hn] at this
    · rw [← hW]
      have h1 := World.alloc_heap_new w (.deferred (some []))
      rw [hn] at h1
      exact (Below.heap_alloc _ _ _ (by simp; omega)).trans h1
  have hWs : W.heap.size = n + 2 := by rw [← hW, World.size_alloc, World.size_alloc, hn]
  have putAt : ∀ {st st' : LoopState} {pe pe' : Option Code} {A : World}, At st pe A → At st' pe' (A.putObj (n + 1) (.loop (R st' pe'))) := fun h =>
    ⟨World.putObj_heap_same (Array.getElem?_eq_some_iff.1 h.1).1, (World.putObj_heap_other (by omega)).trans h.2⟩
  have growAt : ∀ {st : LoopState} {pe : Option Code} {A A' : World}, At st pe A → Below A.heap.size A A' → At st pe A' := fun h k =>
    ⟨(k.block _ (Array.getElem?_eq_some_iff.1 h.1).1).trans h.1, (k.block _ (Array.getElem?_eq_some_iff.1 h.2).1).trans h.2⟩
  refine ⟨n + 1, [{ target := .collected n, args := #[] }], W, { target := .fn (.func gf) lb, args := #[.func (.yield (n + 1)) #[] #[]] }, W, gf, #[.func (.yield (n + 1)) #[] #[]] ++ lb, W, ?_, ?_, ?_, ?_, fun _ => hm, ?_⟩
  · rw [← hW, hR, ← hn]; exact run_enterLoop_outer _ _ _ _ _
  · simp only [resolve, hg]
    simp [go_sem]
  · intro f' hf'
    simp [Target.leads] at hf'
    subst hf'
    trivial
  · simp [invoke, go_sem, eg]
  · have hbel : Below w.heap.size w W := by rw [← hW]; exact ((Below.refl _ w).alloc (Nat.le_refl _) _).alloc (by simp) _
    rw [hgf, hlb]
    refine (hseq (n + 1) (fun A => I0 A ∧ At .ready none A) (fun lo hi s A => (I lo hi s A ∧ n + 2 ≤ lo) ∧ At .ready none A) W hbel
      (fun B B' h k => ⟨hI0 B B' h.1 k, growAt h.2 k⟩) (fun lo hi s B k h => ⟨⟨hId lo hi s B k h.1.1, h.1.2⟩, h.2⟩)
      (fun B hB h => ⟨⟨hst W B (by rw [hWs, hn]; exact Nat.le_refl _) hB (hI0 w W h0 hbel) h.1, by rw [hWs]; exact Nat.le_refl _⟩, h.2⟩) ?_ ⟨hI0 w W h0 hbel, at0⟩).mono ?_
    · rintro lo hi s A q c hs ⟨⟨hi', hlo⟩, hat⟩ hhi hlay hc
      have hlt := two (.inr hat.1)
      have hy := run_yield (P := Tryz.prog) (args := #[.int .i64 ((4 * s : Nat) : Int), .slice q (strB l s).length c]) hat.1 (by rw [hR]; exact hps.symm)
      rw [hR] at hy
      refine ⟨fn, _, assign, body, hy, roundIn_of_wpIn hfn (hassign _ s (.slice q (strB l s).length c) A _ ⟨_, run_beginRound hat.1 (by rw [hR]), ?_⟩)⟩
      have hbusy : ({ R .ready none with state := .busy } : Loop) = R .busy none := by rw [hR]
      rw [hbusy]
      have hat2 : At .busy none (A.putObj (n + 1) (.loop (R .busy none))) := putAt hat
      have hfr0 : Fr12 A (A.putObj (n + 1) (.loop (R .busy none))) lo hi := fr_put (by omega) hhi hlt
      refine wpIn_mono (hbody _ lo hi s q c _ hs (by rw [hn]; exact hlo) hfr0.1 (by have := hIp lo hi s A (.loop (R .busy none)) (by rw [hn]; exact hlo) (by rw [hn]; exact hlt) hi'; rw [hn] at this; exact this) (fun u hu => hlay u (hfr0.trans hu)) hc) ?_
      have fin : ∀ (A3 : World), KeepsOthers (A.putObj (n + 1) (.loop (R .busy none))) A3 →
          n + 1 < A3.heap.size ∧ (Instr.endRound (n + 1) none).run Tryz.prog A3 = .ok (.bool true) (A3.putObj (n + 1) (.loop (R .ready none))) ∧ At .ready none (A3.putObj (n + 1) (.loop (R .ready none))) := fun A3 hk => by
        have h3 : At .busy none A3 := ⟨hk.same _ _ hat2.1 rfl, hk.same _ _ hat2.2 rfl⟩
        have he := run_endRound (P := Tryz.prog) none h3.1
        have e : ({ R .busy none with state := (if (none : Option Code).isNone then .ready else .done), pending := none } : Loop) = R .ready none := by rw [hR]; rfl
        rw [e] at he
        exact ⟨two (.inl h3.1), he, putAt h3⟩
      rintro e a3 A3 hp
      cases e with
      | normal =>
        obtain ⟨hk, hfr, hi3⟩ := hp
        obtain ⟨hl3, he, h4⟩ := fin A3 hk
        refine ⟨_, _, he, rfl, ⟨⟨?_, hlo⟩, h4⟩, (hfr0.trans hfr).trans (fr_put (by omega) hfr.1 hl3)⟩
        have := hIp lo hi (s + 1) A3 (.loop (R .ready none)) (by rw [hn]; exact hlo) (by rw [hn]; exact hl3) hi3
        rw [hn] at this
        exact this
      | ret => exact hp.elim
      | exit id => exact hp.elim
      | goto t => exact hp.elim
      | panic ch => exact hp.elim
      | outgrown => exact hp.elim
    · rintro e A2 ⟨⟨v, rfl⟩, lo, hi, ⟨hi2, hlo⟩, hat⟩
      have hlt := two (.inr hat.1)
      have he := run_endLoop (P := Tryz.prog) hat.1 (by rw [hR]; simp)
      refine ⟨none, _, by rw [he, hR], ?_⟩
      refine hdone n lo hi _ (by omega) ?_ ((World.putObj_heap_other (by omega)).trans hat.2)
      have := fun o => hIp lo hi _ A2 o (by rw [hn]; exact hlo) (by rw [hn]; exact hlt) hi2
      rw [hn] at this
      exact this _
end Go.Proofs.YtnmopjefjpifoaaGreatDoor
/- sidecar.stripes and its iterator. -/
set_option maxRecDepth 100000
namespace Go.Proofs.YtnmopjefjpifoaaGreatDoor
open Go Go.RowKit Go.Shelf
attribute [-go_sem] Sha.exec_store

theorem sizeR12 (w : World) : (sizeOf (Tryz.prog.elem 73)).run Tryz.prog w = .ok 1 w := by kernel_rfl
theorem sl_rows12 (c o n cap a b : Nat) (w : World) (h1 : a < b) (h2 : b ≤ cap) :
    (Instr.slice 73 (.slice (some ⟨c, o, none⟩) n cap) (some (.int .i64 (a : Int))) (some (.int .i64 (b : Int))) (some (.int .i64 (b : Int)))).run Tryz.prog w = .ok (.slice (some ⟨c, o + a, none⟩) (b - a) (b - a)) w := by
  rw [run_slice_lhm (P := Tryz.prog) w 73 (some ⟨c, o, none⟩) n cap undRows .i64 .i64 .i64 (a : Int) (b : Int) (b : Int) (by omega) (by omega) (by omega) (by omega), sizeR12]
  simp only [Result.andThen_ok, sliced, Int.toNat_natCast, Nat.mul_one]
  rw [if_neg (by omega)]
  show Result.ok (Value.slice (some (Addr.add _ a)) _ _) w = _
  rw [Addr.add_mid]
theorem lay_cut {u : World} {c o : Nat} {l : List (BitVec 8)} (h : Lay u (some ⟨c, o, none⟩) (allB l)) (s : Nat) : Lay u (some ⟨c, o + 4 * s, none⟩) (strB l s) := fun i hi => by
  have h1 := strB_len l s
  obtain ⟨c', o', q, d, e, hc, hs, hq⟩ := h (4 * s + i) (by rw [allB_len]; omega)
  injection e with e
  injection e with e1 e2
  subst e1 e2
  rw [allB_get l _ (by omega)] at hc hs
  rw [strB_get l s i hi]
  exact ⟨c, o + 4 * s, q, d, rfl, by rw [Nat.add_assoc]; exact hc, hs, hq⟩
attribute [local go_sem] mkFnB
theorem stripes_any (q : Option Addr) (n cap : Nat) (u : World) : Calls Tryz.prog 85 #[.slice q n cap] u fun e w' => e = .returned (.func (.func 150) #[] #[.pointer (some ⟨u.heap.size, 0, none⟩)]) ∧ w' = u.alloc (.cells #[.slice q n cap] 53) := by
  go_enter Tryz.func85, Tryz.ntmps85
  go_wp2
  go_ret
  exact ⟨rfl, rfl⟩
attribute [local go_sem] Oper.semAt_some
set_option maxRecDepth 100000 in
set_option maxHeartbeats 4000000 in
theorem stripes_seq (m : Nat) (hm : 3 ≤ m) (bb : Nat) (l : List (BitVec 8)) (q : Option Addr) (n cap : Nat) (w : World) (hb : w.cell? ⟨bb, 0, none⟩ = some (.slice q n cap)) (hl : l.length = n) (hs : Sl w q l) (hq : q = none → cap = 0) (hn : n < 1000000) (hc : n ≤ cap) :
    StripSeq m bb l w := by
  intro lp J0 J A hA hst hJd hstart hY h0
  have hm1 : 1 ≤ m := by omega
  have hbw := World.block_lt_of_cell? w _ hb
  have hbA : A.cell? ⟨bb, 0, none⟩ = some (.slice q n cap) := by rw [hA.cell (by exact hbw)]; exact hb
  have HC := Lib.hid (cut_any10 l q n cap A hl (hs.of_below hA) hq hc hn)
  obtain ⟨lo, hlo⟩ : ∃ lo, A.heap.size = lo := ⟨_, rfl⟩
  have HLO := Lib.hid hlo
  have HST := Lib.hid (fun B hB => hstart B hB (hst A B h0 hB))
  have HLN := Lib.hid hl
  have HY := Lib.hid hY
  obtain ⟨nb, hnb⟩ : ∃ k, nblk n = k := ⟨_, rfl⟩
  have HNB := Lib.hid hnb
  have hnb2 : nb ≤ 10000 := by rw [← hnb]; unfold nblk; omega
  refine callsIn_of_wp Tryz.func150 rfl trivial ?_ rfl
  simp only [Tryz.ntmps150, List.size_toArray, List.length_cons, List.length_nil, Nat.reduceAdd, Nat.reduceSub, Array.replicate_succ, Array.replicate_zero, List.push_toArray, List.append_toArray, List.nil_append, List.cons_append]
  have hl4 : ((List.range (nblk n)).map (blkL l)) = allB l := by unfold allB; rw [HLN.out]
  have hab : (allB l).length = nb := by rw [allB_len, HLN.out, HNB.out]
  have HL4 := Lib.hid hl4
  have HAB := Lib.hid hab
  clear hb hs hl hst hJd hstart hY h0 hlo hnb hq hbw hA hl4 hab
  gi_wp2_with (refine ⟨trivial, ?_⟩; gi_at_call 151; refine (callsIn_wide.2 HC.out).mono ?_; rintro e w1 ⟨v, rfl, hH, hB⟩; rw [HL4.out] at hH; obtain ⟨pl, cl, rfl, hpl, hcl, -⟩ := hH.lay; rw [HAB.out] at hH hcl ⊢)
  rw [HLO.out] at hH hB
  obtain ⟨hi, hhi⟩ : ∃ h, w1.heap.size = h := ⟨_, rfl⟩
  have HHI := Lib.hid hhi
  have hlohi : lo ≤ hi := by rw [← hhi, ← HLO.out]; exact hB.size
  have HJ := Lib.hid (show J lo hi 0 w1 from by rw [← HLO.out, ← hhi]; exact HST.out w1 (by rw [HLO.out]; exact hB))
  have HH := Lib.hid hH
  have HLH := Lib.hid hlohi
  clear hH hB hhi hlohi hpl HST
  gi_loopw [4] (fun f wr => ∃ s ff : Nat, ff = 4 * s ∧ f = .int .i64 (ff : Int) ∧ s ≤ nstr n ∧ J lo hi s wr ∧ Fr12 w1 wr lo hi) (fun f wr => nb + 4 - (intOf f).toNat)
  case atStart => exact ⟨0, 0, rfl, rfl, Nat.zero_le _, HJ.out, ⟨Nat.le_of_eq HHI.out.symm, fun _ _ _ => rfl⟩⟩
  case round =>
    obtain ⟨s, ff, hff, rfl, hsn, hJ, hFr⟩ := hrel
    have HFF := Lib.hid hff
    have HJs := Lib.hid hJ
    have HFR := Lib.hid hFr
    have HSN := Lib.hid hsn
    clear hff hJ hFr hsn HJ
    by_cases hlt : ff < nb
    · have z1 : (ff : Int) < (nb : Int) := by omega
      have z2 : decide ((ff : Int) < (nb : Int)) = true := decide_eq_true z1
      have hsl : s < nstr n := (nstr_blk n s).2 (by rw [HNB.out, ← HFF.out]; exact hlt)
      obtain ⟨E, hE⟩ : ∃ e, min (ff + 4) nb = e := ⟨_, rfl⟩
      have w1' : IntKind.i64.wrap ((ff : Int) + 4) = (ff : Int) + 4 := by rw [IntKind.wrap_i64]; omega
      have hmin : min ((ff : Int) + 4) (nb : Int) = (E : Int) := by omega
      have hsk : E - ff = (strB l s).length := by rw [strB_len, HLN.out, HNB.out, ← HFF.out]; omega
      obtain ⟨cp, op, e0⟩ : ∃ c o, pl = some ⟨c, o, none⟩ := by
        have hH1 := HH.out
        obtain ⟨pl', cl', e1, -, -, h3⟩ := hH1.lay
        rw [allB_len, HLN.out, HNB.out] at e1
        injection e1 with e1
        obtain ⟨c, o, q', d, e, -⟩ := h3 0 (by rw [allB_len, HLN.out, HNB.out]; omega)
        exact ⟨c, o, e1.trans e⟩
      subst e0
      have hcut := fun u => sl_rows12 cp op nb cl ff E u (by omega) (by omega)
      rw [hsk] at hcut
      have hlay : ∀ u, Fr12 wr u lo hi → Lay u (some ⟨cp, op + ff, none⟩) (strB l s) := fun u hu => by
        have h2 := HFR.out.trans hu
        have hk := HH.out.keep (by rw [HHI.out]; exact h2.1) (fun c h3 h4 => h2.2 c h3 (by rw [← HHI.out]; exact h4))
        obtain ⟨pl', cl', e1, -, -, h3⟩ := hk.lay
        rw [allB_len, HLN.out, HNB.out] at e1
        injection e1 with e1
        rw [← e1] at h3
        rw [HFF.out]
        exact lay_cut h3 s
      obtain ⟨fn, tmps, assign, body, hy, hR⟩ := HY.out lo hi s wr (some ⟨cp, op + ff, none⟩) (strB l s).length (by rw [HLN.out]; exact hsl) HJs.out HFR.out.1 hlay (Nat.le_refl _)
      obtain ⟨sk, hskk⟩ : ∃ x, (strB l s).length = x := ⟨_, rfl⟩
      rw [← HFF.out, hskk] at hy
      rw [hskk] at hcut
      try dsimp only at hy
      have HNX := Lib.hid (And.intro hsl (show ff + 4 = 4 * (s + 1) from by have := HFF.out; omega))
      clear hlay hsk hsl hskk hE
      gi_wp2
      refine hR.mono ?_
      rintro e W3 ⟨rfl, hJ3, hF3⟩
      have HJ3 := Lib.hid hJ3
      have HF3 := Lib.hid (HFR.out.trans hF3)
      clear hJ3 hF3
      gi_wp2
      go_roundw
      case rel => exact ⟨s + 1, ff + 4, HNX.out.2, by go_num, HNX.out.1, HJ3.out, HF3.out⟩
      case measure => simp [intOf]; omega
    · have z1 : ¬ (ff : Int) < (nb : Int) := by omega
      have z2 : decide ((ff : Int) < (nb : Int)) = false := decide_eq_false z1
      have hse : s = nstr l.length := by
        have h1 := HFF.out
        have h2 := nstr_blk n s
        rw [HNB.out] at h2
        have h4 := HSN.out
        rw [HLN.out]
        rcases Nat.lt_or_ge s (nstr n) with h3 | h3
        · have := h2.1 h3; omega
        · omega
      have HSE := Lib.hid hse
      clear hse
      gi_wp2
      go_end0
      exact ⟨⟨_, rfl⟩, lo, hi, by rw [← HSE.out]; exact HJs.out⟩
end Go.Proofs.YtnmopjefjpifoaaGreatDoor
