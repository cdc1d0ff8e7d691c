/- DiskMoves. -/
import Derived.Test.YtbijgbjlljaolaaDoorK6
set_option linter.unusedSimpArgs false
set_option linter.unusedVariables false
namespace Go.Proofs.YtbijgbjlljaolaaDoor
open Go Go.RowKit

theorem kqm_comp {S : Nat → Prop} {u u' u'' : World} (h : Kq8 S u u') (k : Kq8 S u' u'') : Kq8 S u u'' :=
  ⟨k.os.trans h.os, k.tape.trans h.tape, k.output.trans h.output, Nat.le_trans h.size k.size, fun i hi hn => (k.block i (Nat.lt_of_lt_of_le hi h.size) hn).trans (h.block i hi hn)⟩
theorem kqm_new {S S2 : Nat → Prop} {w u u' : World} (h : Kq8 S w u) (k : Kq8 S2 u u') (hS : ∀ i, S2 i → S i ∨ w.heap.size ≤ i) : Kq8 S w u' :=
  ⟨k.os.trans h.os, k.tape.trans h.tape, k.output.trans h.output, Nat.le_trans h.size k.size, fun i hi hn => (k.block i (Nat.lt_of_lt_of_le hi h.size) (fun x => by rcases hS i x with y | y; exact hn y; omega)).trans (h.block i hi hn)⟩
theorem three_kept2 {u u' : World} {k : Nat} {a b c : Value} (h : u.cell? ⟨k, 0, none⟩ = some a ∧ u.cell? ⟨k, 1, none⟩ = some b ∧ u.cell? ⟨k, 2, none⟩ = some c) (hk : u'.heap[k]? = u.heap[k]?) : u'.cell? ⟨k, 0, none⟩ = some a ∧ u'.cell? ⟨k, 1, none⟩ = some b ∧ u'.cell? ⟨k, 2, none⟩ = some c :=
  ⟨(World.cell?_of_block hk).trans h.1, (World.cell?_of_block hk).trans h.2.1, (World.cell?_of_block hk).trans h.2.2⟩
theorem cells2 (u : World) (a b : Value) (t : TypeId) : (u.alloc (.cells #[a, b] t)).cell? ⟨u.heap.size, 0, none⟩ = some a ∧ (u.alloc (.cells #[a, b] t)).cell? ⟨u.heap.size, 1, none⟩ = some b := by
  have h := World.alloc_heap_new u (.cells #[a, b] t)
  unfold World.cell?
  rw [h]
  simp
theorem stampC (u : World) (a b c : Value) : (u.alloc (.cells #[a, b, c] 45)).cell? ⟨u.heap.size, 0, none⟩ = some a ∧ (u.alloc (.cells #[a, b, c] 45)).cell? ⟨u.heap.size, 1, none⟩ = some b ∧ (u.alloc (.cells #[a, b, c] 45)).cell? ⟨u.heap.size, 2, none⟩ = some c := by
  have h := World.alloc_heap_new u (.cells #[a, b, c] 45)
  unfold World.cell?
  rw [h]
  simp
theorem mask16 {n : Nat} {mk : UInt8} (hm : UInt8.ofNat n = mk) (u : World) : (convert 22 5 (.int .u16 (n : Int))).run Tryd.prog u = .ok (.int .u8 (mk.toNat : Int)) u := by
  have hk : Tryd.prog.intKind 5 = .u8 := by kernel_rfl
  have := run_convert_int (P := Tryd.prog) (w := u) 22 5 .u16 (n : Int) (by kernel_rfl) (by rw [hk]; kernel_rfl)
  rw [hk] at this
  rw [this, ← hm]
  have e : IntKind.u8.wrap (n : Int) = ((UInt8.ofNat n).toNat : Int) := by
    rw [IntKind.wrap_u8']
    simp
  rw [e]
theorem wide16 {n : Nat} (hn : n < 65536) (u : World) : (convert 22 3 (.int .u16 (n : Int))).run Tryd.prog u = .ok (.int .i64 (n : Int)) u := by
  have hk : Tryd.prog.intKind 3 = .i64 := by kernel_rfl
  have := run_convert_int (P := Tryd.prog) (w := u) 22 3 .u16 (n : Int) (by kernel_rfl) (by rw [hk]; kernel_rfl)
  rw [hk] at this
  rw [this, show IntKind.i64.wrap (n : Int) = (n : Int) by rw [IntKind.wrap_i64]; omega]
theorem eqStampM (a b c : Int) (w : World) : (Op.equalIn 10000 45 (.agg #[.int .i64 a, .int .i64 b, .int .i64 c]) (.agg #[.int .i64 a, .int .i64 b, .int .i64 c])).run Tryd.prog w = .ok true w := by
  have u3 := Tryd.underlying3
  have hS : Tryd.prog.underlying 45 = some (.struct (Tryd.prog.fieldsOf 45)) := by kernel_rfl
  have hp : Tryd.prog.stoodInHeld 45 = false := by kernel_rfl
  rw [show (10000 : Nat) = 9999 + 1 from rfl, run_equalIn_agg w 9999 45 _ _ hS hp]
  simp only [Program.fieldsOf, Tryd.underlying45]
  go_simp
theorem eqlStamp (a b c : Int) (w : World) : (binOp BinOp.eql 45 (.agg #[.int .i64 a, .int .i64 b, .int .i64 c]) (.agg #[.int .i64 a, .int .i64 b, .int .i64 c])).run Tryd.prog w = .ok (.bool true) w := by
  rw [run_eql_struct, eqStampM]
  rfl
set_option maxRecDepth 100000 in
set_option maxHeartbeats 8000000 in
theorem moves_any (l : S8) (q : Option Addr) (n cap : Nat) (x0 x1 : Nat) (hx0 : x0 < 65536) (hx1 : x1 < 65536) (t : Int) (w : World) (h : LsG (fun _ => True) w q n cap 1 (bytC l)) (hn : l.length = n) (hlen : n < 9223372036854775808) :
    Calls Tryd.prog 4 #[.slice q n cap, .agg #[.int .u16 (x0 : Int), .int .u16 (x1 : Int)], .int .i64 t] w fun e w' => e = .returned (.bool true) ∧ Below w.heap.size w w' := by
  have HAW := Lib.hid awake8
  have HL := Lib.hid h
  have HN := Lib.hid hn
  clear h hn
  obtain ⟨W0, hW0⟩ : ∃ W0, w.alloc (.cells #[.int .u16 (x0 : Int), .int .u16 (x1 : Int)] 43) = W0 := ⟨_, rfl⟩
  have hb0 := (Below.refl w.heap.size w).alloc (Nat.le_refl _) (.cells #[.int .u16 (x0 : Int), .int .u16 (x1 : Int)] 43)
  have hc0 := cells2 w (.int .u16 (x0 : Int)) (.int .u16 (x1 : Int)) 43
  have hz0 : w.heap.size < W0.heap.size := by rw [← hW0, World.size_alloc]; exact Nat.lt_succ_self _
  rw [hW0] at hb0 hc0
  have HB0 := Lib.hid hb0
  have HC0 := Lib.hid hc0
  have HZ0 := Lib.hid hz0
  have HE0 := Lib.hid hW0
  clear hb0 hc0 hz0 hW0
  by_cases hbig : 1000 < n
  · have z : decide ((1000 : Int) < (n : Int)) = true := decide_eq_true (by omega)
    go_enter Tryd.func4, Tryd.ntmps4
    go_wp2_with fail
    rw [HE0.out]
    refine (HAW.out _).mono ?_
    rintro e w1 ⟨rfl, hB1⟩
    have HB1 := Lib.hid (HB0.out.trans (hB1.mono HB0.out.size))
    clear hB1
    go_wp2_with fail
    refine (HAW.out _).mono ?_
    rintro e w3 ⟨rfl, hB3⟩
    have HB3 := Lib.hid (HB1.out.trans (hB3.mono HB1.out.size))
    clear hB3
    go_wp2
    go_ret
    exact ⟨rfl, HB3.out⟩
  have hsm : n ≤ 1000 := by omega
  have z : decide ((1000 : Int) < (n : Int)) = false := decide_eq_false (by omega)
  have HSM := Lib.hid hsm
  have HNW := Lib.hid (fun u => dnew_any 5000 u)
  rw [mv_clamp] at HNW
  have ha : (ByteArray.mk #[97]) = mkS pA := mkS_lit [97]
  have hbb : (ByteArray.mk #[98, 47, 99]) = mkS pB := mkS_lit [98, 47, 99]
  clear hsm hbig
  go_enter Tryd.func4, Tryd.ntmps4
  go_wp2_with fail
  rw [HE0.out]
  refine (HAW.out _).mono ?_
  rintro e w1 ⟨rfl, hB1⟩
  have HB1 := Lib.hid hB1
  clear hB1
  go_wp2_with fail
  refine (HNW.out _).mono ?_
  rintro e w2 ⟨b, rfl, hD2, hB2⟩
  have hHB2 := HB1.out.trans (hB2.mono HB1.out.size)
  have hS2 : ∀ k, (fun k => w1.heap.size ≤ k ∧ k < w2.heap.size) k → W0.heap.size ≤ k := fun k hk => Nat.le_trans HB1.out.size hk.1
  have hl2 := HL.out.of_below (HB0.out.trans (hHB2.mono HB0.out.size))
  have hl3 : LsG (fun k => ¬ (w1.heap.size ≤ k ∧ k < w2.heap.size)) w2 q n cap 1 (bytC l) := ⟨hl2.at_, hl2.len, fun c o e hl => ⟨fun x => by have h1 := (HL.out.may c o e hl).2; have h2 := HZ0.out; have h3 := HB1.out.size; omega, (hl2.may c o e hl).2⟩, hl2.nil, hl2.le⟩
  have HWR := Lib.hid (by
    have h1 := HN.out
    subst h1
    have h2 := dwrite_any hD2 ((DkOk.zero 5000).mono (by decide)) (by decide) (by decide) (by decide) pA l q cap t (by decide) (by have := HSM.out; omega) hl3
    rw [show writeL ⟨5000, 0, [], [], [], []⟩ pA l t = (mvA l l.length t, 0) from mv_write l t HSM.out] at h2
    exact h2 : Calls Tryd.prog 8 #[.pointer (some ⟨b, 0, none⟩), .string (mkS pA), .slice q n cap, .int .i64 t] w2 fun e w' => e = .returned (.int .i64 ((0 : Nat) : Int)) ∧ Nxt (fun k => w1.heap.size ≤ k ∧ k < w2.heap.size) b w2 (mvA l n t) w')
  have HB2 := Lib.hid hHB2
  have HS2 := Lib.hid hS2
  clear hD2 hB2 hHB2 hS2 hl2 hl3
  go_wp2_with fail
  refine HWR.out.mono ?_
  rintro e w3 ⟨rfl, hD3, hk3⟩
  have HB3 := Lib.hid (HB2.out.trans (hk3.below HS2.out HB2.out.size))
  have HS3 := Lib.hid (SN.from HS2.out HB2.out.size (K := w3.heap.size))
  obtain ⟨S3, hS3⟩ : ∃ S3, SN (fun k => w1.heap.size ≤ k ∧ k < w2.heap.size) w2.heap.size w3.heap.size = S3 := ⟨_, rfl⟩
  rw [hS3] at hD3 HS3
  have HD3 := Lib.hid hD3
  have HST := Lib.hid (dstat_any hD3 pA)
  rw [mv_fileA] at HST
  have HSV : Hid (stampV (some (mF pA n t)) = .tuple #[.agg #[.int .i64 (n : Int), .int .i64 t, .int .i64 1], .int .i64 0]) := Lib.hid rfl
  rw [HSV.out] at HST
  clear hD3 hk3 hS3 HWR
  go_wp2_with fail
  refine HST.out.mono ?_
  rintro e w4 ⟨rfl, hB4⟩
  have HB4 := Lib.hid (HB3.out.trans (hB4.mono HB3.out.size))
  obtain ⟨W5, hW5⟩ : ∃ W5, w4.alloc (.cells #[.int .i64 (n : Int), .int .i64 t, .int .i64 1] 45) = W5 := ⟨_, rfl⟩
  have hb5 := (Below.refl w4.heap.size w4).alloc (Nat.le_refl _) (.cells #[.int .i64 (n : Int), .int .i64 t, .int .i64 1] 45)
  have hc5 := stampC w4 (.int .i64 (n : Int)) (.int .i64 t) (.int .i64 1)
  have hz5 : w4.heap.size < W5.heap.size := by rw [← hW5, World.size_alloc]; exact Nat.lt_succ_self _
  rw [hW5] at hb5 hc5
  have HD5 := Lib.hid ((HD3.out.of_below hB4).of_below hb5)
  have HLO := Lib.hid ((HD3.out.of_below hB4).low)
  have HB5 := Lib.hid (HB4.out.trans (hb5.mono HB4.out.size))
  have HC5 := Lib.hid hc5
  have HZ5 := Lib.hid hz5
  have HE5 := Lib.hid hW5
  clear hB4 hb5 hc5 hz5 hW5 HST
  have HO1 := Lib.hid (by have h1 := HN.out; subst h1; exact mv_okA l t HSM.out : DkOk 1 (mvA l n t))
  have hs5 : W5.drew.cell? ⟨w.heap.size, 0, none⟩ = some (.int .u16 (x0 : Int)) ∧ W5.drew.cell? ⟨w.heap.size, 1, none⟩ = some (.int .u16 (x1 : Int)) := by
    have hb := HB5.out.trans ((Below.refl W5.heap.size W5).drew.mono HB5.out.size)
    exact ⟨(hb.cell (p := ⟨w.heap.size, 0, none⟩) HZ0.out).trans HC0.out.1, (hb.cell (p := ⟨w.heap.size, 1, none⟩) HZ0.out).trans HC0.out.2⟩
  have HS5 := Lib.hid hs5
  clear hs5
  by_cases hn0 : n = 0
  · subst hn0
    have HE6 : Hid (w4.alloc (.cells #[.int .i64 0, .int .i64 t, .int .i64 1] 45) = W5) := HE5
    go_wp2_with fail
    rw [HE6.out]
    go_region
    obtain ⟨u, hu⟩ : ∃ u, W5.drew = u := ⟨_, rfl⟩
    have hb5 := (Below.refl W5.heap.size W5).drew
    rw [hu] at hb5
    rw [hu]
    have HDU := Lib.hid (HD5.out.of_below hb5)
    have HBU := Lib.hid (HB5.out.trans (hb5.mono HB5.out.size))
    have HZU := Lib.hid (Nat.lt_of_lt_of_le HZ5.out hb5.size)
    have HCU := Lib.hid (three_kept2 HC5.out (k := w4.heap.size) (hb5.block _ HZ5.out))
    have HLU := HN
    have HSU := HS3
    have HNS : Hid (¬ S3 w4.heap.size) := Lib.hid (fun x => Nat.lt_irrefl _ (HLO.out _ x))
    obtain ⟨SU, hSU⟩ : ∃ SU, S3 = SU := ⟨_, rfl⟩
    rw [hSU] at HDU HSU HNS
    clear hb5 hu hSU
    have hlu := HDU.out.low
    have HRD := Lib.hid (dread_any HDU.out (HO1.out.mono (by decide)) pA)
    rw [show readN (mvA l 0 t) pA = 0 from rfl, mv_readA] at HRD
    go_wp2_with fail
    refine HRD.out.mono ?_
    rintro e w7 ⟨v, rfl, hO, hB7⟩
    replace hO : w7.ownsRow u.heap.size 5 1 v (l).length (bytC (l)) := hO
    obtain ⟨q1, c1, hv, g1, g2, g3, g4⟩ := own_shape hO
    rw [HLU.out] at hv g3
    subst hv
    have HG := Lib.hid (show LsG (fun k => u.heap.size ≤ k ∧ k < w7.heap.size) w7 q1 0 c1 1 (bytC (l)) from ⟨g1, by rw [bytC_len, HLU.out, Nat.mul_one], fun c o e _ => ⟨g4 c o e, (g4 c o e).2⟩, g2, g3⟩)
    have hD7 := HDU.out.of_below hB7
    have HB7 := Lib.hid (HBU.out.trans (hB7.mono HBU.out.size))
    have HK7 := Lib.hid (show w7.heap[w4.heap.size]? = u.heap[w4.heap.size]? from hB7.block _ HZU.out)
    have HZ7 := Lib.hid (Nat.lt_of_lt_of_le HZU.out hB7.size)
    have HUS := Lib.hid hB7.size
    have HLW := Lib.hid hlu
    have HR1 := Lib.hid (drename_any hD7 (HO1.out.mono (by decide)) pA pB (by decide) (by decide))
    rw [mv_ren1] at HR1
    clear hO g1 g2 g3 g4 hD7 hB7 HRD hlu
    go_wp2_with fail
    refine HR1.out.mono ?_
    rintro e w8 ⟨rfl, hD8, hk8⟩
    have HQ8 := Lib.hid hk8
    have HR2 := Lib.hid (drename_any hD8 ((mv_okB HO1.out).mono (by decide)) pB pA (by decide) (by decide))
    rw [mv_ren2] at HR2
    clear hD8 hk8 HR1
    go_wp2_with fail
    refine HR2.out.mono ?_
    rintro e w9 ⟨rfl, hD9, hk9⟩
    have HQ9 := Lib.hid (kqm_new HQ8.out hk9 (fun i hi => by rcases hi with h1 | h1; exact Or.inl h1; exact Or.inr h1.1))
    have HR3 := Lib.hid (drename_any hD9 ((mv_okC (mv_okB HO1.out)).mono (by decide)) pA pA (by decide) (by decide))
    rw [mv_ren3] at HR3
    have hz89 := HQ8.out.size
    clear hD9 hk9 HR2
    go_wp2_with fail
    refine HR3.out.mono ?_
    rintro e w10 ⟨rfl, hD10, hk10⟩
    have HQ10 := Lib.hid (kqm_new HQ9.out hk10 (fun i hi => by rcases hi with (h1 | h1) | h1; exact Or.inl h1; exact Or.inr h1.1; exact Or.inr (Nat.le_trans HQ8.out.size h1.1)))
    have HRA := Lib.hid (dread_any hD10 ((mv_okD (mv_okC (mv_okB HO1.out))).mono (by decide)) pA)
    rw [show readN (mvD l 0 t) pA = 0 from rfl, mv_readD] at HRA
    have HDT := Lib.hid hD10
    clear hD10 hk10 HR3 hz89
    go_wp2_with fail
    refine HRA.out.mono ?_
    rintro e w11 ⟨v2, rfl, hO, hB11⟩
    replace hO : w11.ownsRow w10.heap.size 5 1 v2 (l).length (bytC (l)) := hO
    rw [HLU.out] at hO
    obtain ⟨q2, c2, hv⟩ := own_slice hO
    subst hv
    have HO2r := Lib.hid hO
    have HB11 := Lib.hid hB11
    have HSA := Lib.hid (dstat_any (HDT.out.of_below hB11) pA)
    rw [mv_fileD, show stampV (some (mF pA 0 t)) = .tuple #[.agg #[.int .i64 (0 : Int), .int .i64 t, .int .i64 1], .int .i64 0] from rfl] at HSA
    clear hO hB11 HRA
    go_wp2_with fail
    refine HSA.out.mono ?_
    rintro e w12 ⟨rfl, hB12⟩
    obtain ⟨W13, hW13⟩ : ∃ W13, w12.alloc (.cells #[.int .i64 (0 : Int), .int .i64 t, .int .i64 1] 45) = W13 := ⟨_, rfl⟩
    have hb13 := (Below.refl w12.heap.size w12).alloc (Nat.le_refl _) (.cells #[.int .i64 (0 : Int), .int .i64 t, .int .i64 1] 45)
    have hc13 := stampC w12 (.int .i64 (0 : Int)) (.int .i64 t) (.int .i64 1)
    have hz13 : w12.heap.size < W13.heap.size := by rw [← hW13, World.size_alloc]; exact Nat.lt_succ_self _
    rw [hW13] at hb13 hc13
    have HW13 := Lib.hid hW13
    have hB13 := HB11.out.trans ((hB12.trans (hb13.mono hB12.size)).mono HB11.out.size)
    have HO3 := Lib.hid (own_below (own_below HO2r.out hB12) hb13)
    have HB13 := Lib.hid hB13
    have HC13 := Lib.hid hc13
    have HZ13 := Lib.hid hz13
    have HRB := Lib.hid (dread_any (HDT.out.of_below hB13) ((mv_okD (mv_okC (mv_okB HO1.out))).mono (by decide)) pB)
    rw [show readN (mvD l 0 t) pB = 8 from rfl, mv_readDB] at HRB
    clear hB12 hb13 hc13 hz13 hW13 hB13 HSA
    go_wp2_with fail
    rw [HW13.out]
    refine HRB.out.mono ?_
    rintro e w14 ⟨v3, rfl, hO4, hB14⟩
    clear hO4
    have hQ := kqm_new HQ10.out (Kq8.of_below (S := SU) (HB13.out.trans (hB14.mono HB13.out.size))) (fun i hi => Or.inl hi)
    have HBE := Lib.hid (HB7.out.trans ((hQ.below HSU.out HB7.out.size).mono (Nat.le_refl _)))
    have hst1 := three_kept2 HCU.out (k := w4.heap.size) ((hQ.block _ HZ7.out HNS.out).trans HK7.out)
    have hst2 := three_kept2 HC13.out (hB14.block _ HZ13.out)
    obtain ⟨s1, s2, s3⟩ := hst1
    obtain ⟨s4, s5, s6⟩ := hst2
    have hg := HG.out.keep (fun c hc _ => hQ.block c hc.2 (fun x => by have := HLW.out c x; omega)) hQ.size
    have hcv1 := conv8 w14 q1 (l) 0 c1 hg.at_ HLU.out hg.nil
    obtain ⟨q9, c9, e9, hcv2⟩ := own_conv (own_below HO3.out hB14) HLU.out.symm
    injection e9 with e1 _ e3
    subst e1 e3
    have heq := eqlStamp
    clear hQ hg hB14 HRB
    go_wp2
    go_ret
    exact ⟨rfl, HB0.out.trans (HBE.out.mono HB0.out.size)⟩
  · have zz : decide ((0 : Int) < (n : Int)) = true := decide_eq_true (by omega)
    obtain ⟨k, hk⟩ : ∃ k : Nat, x0 % n = k := ⟨_, rfl⟩
    have hkn : k < n := by rw [← hk]; exact Nat.mod_lt _ (by omega)
    have hrem : (x0 : Int).tmod (n : Int) = (k : Int) := by rw [Int.tmod_eq_emod_of_nonneg (by omega), ← hk]; rfl
    have hne : ¬ (n : Int) = 0 := by omega
    have zz2 : decide (0 < n) = true := decide_eq_true (by omega)
    have hne2 : ¬ n = 0 := hn0
    obtain ⟨mk, hmk⟩ : ∃ mk : UInt8, UInt8.ofNat x1 = mk := ⟨_, rfl⟩
    have hm16 := mask16 hmk
    have hw16 := wide16 hx0
    have HRT := Lib.hid (drot_any (HD5.out.of_below ((Below.refl W5.heap.size W5).drew)) (HO1.out.mono (by decide)) pA (k : Int) mk)
    rw [show rotL (mvA l n t) pA k mk = (mvA (flipL l k mk) n t, 0) by have h1 := HN.out; subst h1; exact mv_rot l t k mk hkn] at HRT
    have HO2 := Lib.hid (by have h1 := HN.out; subst h1; exact mv_okR l t HSM.out k mk hkn : DkOk 1 (mvA (flipL l k mk) n t))
    have HL2 : Hid ((flipL l k mk).length = n) := Lib.hid (by unfold flipL; rw [List.length_set]; exact HN.out)
    clear hn0 hk hkn hmk hx0 hx1
    go_wp2_with fail
    rw [HE5.out]
    have hs5 := HS5.out
    have hb5 := (Below.refl W5.heap.size W5).drew
    have HB5d := Lib.hid hb5
    go_region_held3 (fun u : World => u.cell? ⟨w.heap.size, 0, none⟩ = some (.int .u16 (x0 : Int)) ∧ u.cell? ⟨w.heap.size, 1, none⟩ = some (.int .u16 (x1 : Int))) (first | with_reducible exact hs5 | with_reducible exact ⟨z1, z2⟩) ((first | (go_at_call 12; refine (HRT.out).mono ?_; rintro e w6 ⟨rfl, hD6, hk6⟩; have hx6 := hk6.below HS3.out (Nat.le_trans HB5.out.size HB5d.out.size); have z1 : w6.cell? ⟨w.heap.size, 0, none⟩ = some (.int .u16 (x0 : Int)) := (hx6.cell (p := ⟨w.heap.size, 0, none⟩) HZ0.out).trans hs5.1; have z2 : w6.cell? ⟨w.heap.size, 1, none⟩ = some (.int .u16 (x1 : Int)) := (hx6.cell (p := ⟨w.heap.size, 1, none⟩) HZ0.out).trans hs5.2; have HD6 := Lib.hid hD6; have HK6 := Lib.hid hk6; clear hD6 hk6 hx6)))
    obtain ⟨u, hu⟩ : ∃ u, w6 = u := ⟨_, rfl⟩
    subst hu
    obtain ⟨SU, hSU⟩ : ∃ SU, SN S3 W5.drew.heap.size w6.heap.size = SU := ⟨_, rfl⟩
    have HSU : Hid (∀ k, SU k → W0.heap.size ≤ k) := Lib.hid (by rw [← hSU]; exact SN.from HS3.out (Nat.le_trans HB5.out.size HB5d.out.size))
    have HNS : Hid (¬ SU w4.heap.size) := Lib.hid (by
      rw [← hSU]
      intro x
      rcases x with x | x
      · exact Nat.lt_irrefl _ (HLO.out _ x)
      · have h1 := HZ5.out
        have h2 := HB5d.out.size
        omega)
    have HBU := Lib.hid ((HB5.out.trans (HB5d.out.mono HB5.out.size)).trans (HK6.out.below HS3.out (Nat.le_trans HB5.out.size HB5d.out.size)))
    have HZU := Lib.hid (Nat.lt_of_lt_of_le (Nat.lt_of_lt_of_le HZ5.out HB5d.out.size) HK6.out.size)
    have HCU := Lib.hid (three_kept2 HC5.out (k := w4.heap.size) ((HK6.out.block _ (Nat.lt_of_lt_of_le HZ5.out HB5d.out.size) (fun x => Nat.lt_irrefl _ (HLO.out _ x))).trans (HB5d.out.block _ HZ5.out)))
    have HDU := HD6
    rw [hSU] at HDU
    have HLU := HL2
    clear hb5 hSU hs5 z1 z2
    have hlu := HDU.out.low
    have HRD := Lib.hid (dread_any HDU.out (HO2.out.mono (by decide)) pA)
    rw [show readN (mvA (flipL l k mk) n t) pA = 0 from rfl, mv_readA] at HRD
    go_wp2_with fail
    refine HRD.out.mono ?_
    rintro e w7 ⟨v, rfl, hO, hB7⟩
    replace hO : w7.ownsRow w6.heap.size 5 1 v (flipL l k mk).length (bytC (flipL l k mk)) := hO
    obtain ⟨q1, c1, hv, g1, g2, g3, g4⟩ := own_shape hO
    rw [HLU.out] at hv g3
    subst hv
    have HG := Lib.hid (show LsG (fun k => w6.heap.size ≤ k ∧ k < w7.heap.size) w7 q1 n c1 1 (bytC (flipL l k mk)) from ⟨g1, by rw [bytC_len, HLU.out, Nat.mul_one], fun c o e _ => ⟨g4 c o e, (g4 c o e).2⟩, g2, g3⟩)
    have hD7 := HDU.out.of_below hB7
    have HB7 := Lib.hid (HBU.out.trans (hB7.mono HBU.out.size))
    have HK7 := Lib.hid (show w7.heap[w4.heap.size]? = w6.heap[w4.heap.size]? from hB7.block _ HZU.out)
    have HZ7 := Lib.hid (Nat.lt_of_lt_of_le HZU.out hB7.size)
    have HUS := Lib.hid hB7.size
    have HLW := Lib.hid hlu
    have HR1 := Lib.hid (drename_any hD7 (HO2.out.mono (by decide)) pA pB (by decide) (by decide))
    rw [mv_ren1] at HR1
    clear hO g1 g2 g3 g4 hD7 hB7 HRD hlu
    go_wp2_with fail
    refine HR1.out.mono ?_
    rintro e w8 ⟨rfl, hD8, hk8⟩
    have HQ8 := Lib.hid hk8
    have HR2 := Lib.hid (drename_any hD8 ((mv_okB HO2.out).mono (by decide)) pB pA (by decide) (by decide))
    rw [mv_ren2] at HR2
    clear hD8 hk8 HR1
    go_wp2_with fail
    refine HR2.out.mono ?_
    rintro e w9 ⟨rfl, hD9, hk9⟩
    have HQ9 := Lib.hid (kqm_new HQ8.out hk9 (fun i hi => by rcases hi with h1 | h1; exact Or.inl h1; exact Or.inr h1.1))
    have HR3 := Lib.hid (drename_any hD9 ((mv_okC (mv_okB HO2.out)).mono (by decide)) pA pA (by decide) (by decide))
    rw [mv_ren3] at HR3
    have hz89 := HQ8.out.size
    clear hD9 hk9 HR2
    go_wp2_with fail
    refine HR3.out.mono ?_
    rintro e w10 ⟨rfl, hD10, hk10⟩
    have HQ10 := Lib.hid (kqm_new HQ9.out hk10 (fun i hi => by rcases hi with (h1 | h1) | h1; exact Or.inl h1; exact Or.inr h1.1; exact Or.inr (Nat.le_trans HQ8.out.size h1.1)))
    have HRA := Lib.hid (dread_any hD10 ((mv_okD (mv_okC (mv_okB HO2.out))).mono (by decide)) pA)
    rw [show readN (mvD (flipL l k mk) n t) pA = 0 from rfl, mv_readD] at HRA
    have HDT := Lib.hid hD10
    clear hD10 hk10 HR3 hz89
    go_wp2_with fail
    refine HRA.out.mono ?_
    rintro e w11 ⟨v2, rfl, hO, hB11⟩
    replace hO : w11.ownsRow w10.heap.size 5 1 v2 (flipL l k mk).length (bytC (flipL l k mk)) := hO
    rw [HLU.out] at hO
    obtain ⟨q2, c2, hv⟩ := own_slice hO
    subst hv
    have HO2r := Lib.hid hO
    have HB11 := Lib.hid hB11
    have HSA := Lib.hid (dstat_any (HDT.out.of_below hB11) pA)
    rw [mv_fileD, show stampV (some (mF pA n t)) = .tuple #[.agg #[.int .i64 (n : Int), .int .i64 t, .int .i64 1], .int .i64 0] from rfl] at HSA
    clear hO hB11 HRA
    go_wp2_with fail
    refine HSA.out.mono ?_
    rintro e w12 ⟨rfl, hB12⟩
    obtain ⟨W13, hW13⟩ : ∃ W13, w12.alloc (.cells #[.int .i64 (n : Int), .int .i64 t, .int .i64 1] 45) = W13 := ⟨_, rfl⟩
    have hb13 := (Below.refl w12.heap.size w12).alloc (Nat.le_refl _) (.cells #[.int .i64 (n : Int), .int .i64 t, .int .i64 1] 45)
    have hc13 := stampC w12 (.int .i64 (n : Int)) (.int .i64 t) (.int .i64 1)
    have hz13 : w12.heap.size < W13.heap.size := by rw [← hW13, World.size_alloc]; exact Nat.lt_succ_self _
    rw [hW13] at hb13 hc13
    have HW13 := Lib.hid hW13
    have hB13 := HB11.out.trans ((hB12.trans (hb13.mono hB12.size)).mono HB11.out.size)
    have HO3 := Lib.hid (own_below (own_below HO2r.out hB12) hb13)
    have HB13 := Lib.hid hB13
    have HC13 := Lib.hid hc13
    have HZ13 := Lib.hid hz13
    have HRB := Lib.hid (dread_any (HDT.out.of_below hB13) ((mv_okD (mv_okC (mv_okB HO2.out))).mono (by decide)) pB)
    rw [show readN (mvD (flipL l k mk) n t) pB = 8 from rfl, mv_readDB] at HRB
    clear hB12 hb13 hc13 hz13 hW13 hB13 HSA
    go_wp2_with fail
    rw [HW13.out]
    refine HRB.out.mono ?_
    rintro e w14 ⟨v3, rfl, hO4, hB14⟩
    clear hO4
    have hQ := kqm_new HQ10.out (Kq8.of_below (S := SU) (HB13.out.trans (hB14.mono HB13.out.size))) (fun i hi => Or.inl hi)
    have HBE := Lib.hid (HB7.out.trans ((hQ.below HSU.out HB7.out.size).mono (Nat.le_refl _)))
    have hst1 := three_kept2 HCU.out (k := w4.heap.size) ((hQ.block _ HZ7.out HNS.out).trans HK7.out)
    have hst2 := three_kept2 HC13.out (hB14.block _ HZ13.out)
    obtain ⟨s1, s2, s3⟩ := hst1
    obtain ⟨s4, s5, s6⟩ := hst2
    have hg := HG.out.keep (fun c hc _ => hQ.block c hc.2 (fun x => by have := HLW.out c x; omega)) hQ.size
    have hcv1 := conv8 w14 q1 (flipL l k mk) n c1 hg.at_ HLU.out hg.nil
    obtain ⟨q9, c9, e9, hcv2⟩ := own_conv (own_below HO3.out hB14) HLU.out.symm
    injection e9 with e1 _ e3
    subst e1 e3
    have heq := eqlStamp
    clear hQ hg hB14 HRB
    go_wp2
    go_ret
    exact ⟨rfl, HB0.out.trans (HBE.out.mono HB0.out.size)⟩
end Go.Proofs.YtbijgbjlljaolaaDoor
