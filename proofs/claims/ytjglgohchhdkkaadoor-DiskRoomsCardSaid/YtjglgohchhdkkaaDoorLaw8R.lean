/- DiskRooms: the statement's walk. -/
import Derived.Test.YtjglgohchhdkkaaDoorAwk8
import Derived.Test.YtjglgohchhdkkaaDoorAct8
import Derived.Test.YtjglgohchhdkkaaDoorRoo8
import Derived.Test.YtjglgohchhdkkaaDoorRefH7
import Derived.Test.YtjglgohchhdkkaaDoorRefI7
set_option linter.unusedSimpArgs false
set_option linter.unusedVariables false
namespace Go.Proofs.YtjglgohchhdkkaaDoor
open Go Go.RowKit

theorem wideR {n : Nat} (hn : n < 65536) (u : World) : (convert 22 3 (.int .u16 (n : Int))).run Tryd.prog u = .ok (.int .i64 (n : Int)) u := by
  have hk : Tryd.prog.intKind 3 = .i64 := by kernel_rfl
  have := run_convert_int (P := Tryd.prog) (w := u) 22 3 .u16 (n : Int) (by kernel_rfl) (by rw [hk]; kernel_rfl)
  rw [hk] at this
  rw [this, show IntKind.i64.wrap (n : Int) = (n : Int) by rw [IntKind.wrap_i64]; omega]
theorem shortLR_facts {l : List (Ac × AcH)} (h : shortL l = true) : l.length ≤ 40 ∧ ∀ x ∈ l, x.1.path.length ≤ 200 ∧ x.1.to_.length ≤ 200 ∧ x.1.b.length ≤ 300000 ∧ x.1.ks.length ≤ 200 := by
  unfold shortL at h
  rw [Bool.and_eq_true, decide_eq_true_eq, List.all_eq_true] at h
  refine ⟨h.2, fun x hx => ?_⟩
  have := h.1 x hx
  unfold shortA at this
  simp only [Bool.not_eq_true', Bool.or_eq_false_iff, decide_eq_false_iff_not] at this
  omega
/-- What the loop carries: block b is a disk on which all is well. -/
structure RmI (N : Nat) (w : World) (S : Nat → Prop) (b k : Nat) (rm : Int) (m : Dk) : Prop where
  disk : Dsk w S b m
  ok : DkOk k m
  well : RmOk m
  room : m.room = rm
  from_ : ∀ k, S k → N ≤ k
section
variable {N : Nat} {w w' : World} {S : Nat → Prop} {b k : Nat} {rm : Int} {m m2 : Dk}
theorem RmI.next (H : RmI N w S b k rm m) (hB : Below w.heap.size w w') : RmI N w' S b k rm m := ⟨H.disk.of_below hB, H.ok, H.well, H.room, H.from_⟩
theorem RmI.more (H : RmI N w S b k rm m) : RmI N w S b (k + 1) rm m := ⟨H.disk, H.ok.more, H.well, H.room, H.from_⟩
theorem RmI.call (H : RmI N w S b k rm m) (hn : Nxt S b w m2 w') (hok : DkOk (k + 1) m2) (hw : RmOk m2) (hr : m2.room = m.room) (hN : N ≤ w.heap.size) : RmI N w' (SN S w.heap.size w'.heap.size) b (k + 1) rm m2 ∧ Below N w w' :=
  ⟨⟨hn.1, hok, hw, hr.trans H.room, SN.from H.from_ hN⟩, hn.2.below H.from_ hN⟩
end
theorem RmOk.zero (rm : Int) (h : 0 ≤ rm) : RmOk ⟨rm, 0, [], [], [], []⟩ := ⟨by show ((0 : Nat) : Int) ≤ rm; omega, fun f hf => absurd hf (by simp), fun f hf => absurd hf (by simp)⟩
/-- The act's box. -/
theorem boxA_cell (w : World) (x : Ac × AcH) : ∀ j, (w.alloc (.cells #[.int .u8 (x.1.kind : Int), .string (mkS x.1.path), .string (mkS x.1.to_), .slice x.2.bq x.1.b.length x.2.bc, .int .i64 x.1.n, .slice x.2.kp x.1.ks.length x.2.kc] 31)).cell? ⟨w.heap.size, j, none⟩ = (encA x)[j]? := by
  intro j
  have hh := World.alloc_heap_new w (.cells #[.int .u8 (x.1.kind : Int), .string (mkS x.1.path), .string (mkS x.1.to_), .slice x.2.bq x.1.b.length x.2.bc, .int .i64 x.1.n, .slice x.2.kp x.1.ks.length x.2.kc] 31)
  unfold World.cell?
  rw [hh]
  simp [encA]
set_option maxRecDepth 100000 in
set_option maxHeartbeats 8000000 in
theorem rooms_any (r : Nat) (hr16 : r < 65536) (l : List (Ac × AcH)) (p : Option Addr) (n cap : Nat) (w : World) (h : AcsL w p n cap l) (hn : n < 9223372036854775808) (hz : ∀ x ∈ l, x.1.path.length < 9223372036854775808 ∧ x.1.to_.length < 9223372036854775808 ∧ x.1.b.length < 9223372036854775808 ∧ x.1.ks.length < 9223372036854775808) (hkd : ∀ x ∈ l, x.1.kind < 256) :
    Calls Tryd.prog 3 #[.int .u16 (r : Int), .slice p n cap] w fun e w' => e = .returned (.bool true) ∧ Below w.heap.size w w' := by
  have HAW := Lib.hid awake8
  have HSH := Lib.hid (fun (u : World) (hu : Below w.heap.size w u) => short_any l p n cap hn hz u (h.of_below hu))
  have HL := Lib.hid h
  have HKD := Lib.hid hkd
  cases hsh : shortL l with
  | false =>
    rw [hsh] at HSH
    clear hsh h hz hkd hn
    go_enter Tryd.func3, Tryd.ntmps3
    go_wp2_with fail
    refine (HAW.out w).mono ?_
    rintro e w1 ⟨rfl, hB1⟩
    have HB1 := Lib.hid hB1
    clear hB1
    go_wp2_with fail
    refine (HSH.out w1 HB1.out).mono ?_
    rintro e w2 ⟨rfl, hB2⟩
    have HB2 := Lib.hid (HB1.out.trans (hB2.mono HB1.out.size))
    clear hB2
    go_wp2_with fail
    refine (HAW.out w2).mono ?_
    rintro e w3 ⟨rfl, hB3⟩
    have HB3 := Lib.hid (HB2.out.trans (hB3.mono HB2.out.size))
    clear hB3
    go_wp2
    go_ret
    exact ⟨rfl, HB3.out⟩
  | true =>
    rw [hsh] at HSH
    obtain ⟨hl40, hlx⟩ := shortLR_facts hsh
    have HLX := Lib.hid hlx
    have hn40 : n ≤ 40 := by rw [← h.len]; exact hl40
    have q60 : ((r : Int).tmod 60) = ((r % 60 : Nat) : Int) := by rw [Int.tmod_eq_emod_of_nonneg (by omega)]; omega
    obtain ⟨rm, hrm⟩ : ∃ rm, r % 60 = rm := ⟨_, rfl⟩
    have hrm60 : rm < 60 := by omega
    rw [hrm] at q60
    have HCV := Lib.hid (wideR (n := rm) (by omega))
    have hcl : clampL (rm : Int) = (rm : Int) := by unfold clampL; omega
    have HNW := Lib.hid (fun u => dnew_any (rm : Int) u)
    rw [hcl] at HNW
    have HR0 := Lib.hid (show (0 : Int) ≤ (rm : Int) ∧ (rm : Int) ≤ 1048576 by omega)
    clear hsh h hz hkd hn hl40 hlx hcl hrm hrm60
    go_enter Tryd.func3, Tryd.ntmps3
    go_wp2_with fail
    refine (HAW.out w).mono ?_
    rintro e w1 ⟨rfl, hB1⟩
    have HB1 := Lib.hid hB1
    clear hB1
    go_wp2_with fail
    refine (HSH.out w1 HB1.out).mono ?_
    rintro e w2 ⟨rfl, hB2⟩
    have HB2 := Lib.hid (HB1.out.trans (hB2.mono HB1.out.size))
    clear hB2
    have hcv := HCV.out w2
    go_wp2_with fail
    refine (HNW.out w2).mono ?_
    rintro e w3 ⟨b, rfl, hD3, hB3⟩
    have HB3 := Lib.hid (HB2.out.trans (hB3.mono HB2.out.size))
    have HST := Lib.hid (show RmI w.heap.size w3 (fun k => w2.heap.size ≤ k ∧ k < w3.heap.size) b 0 (rm : Int) ⟨(rm : Int), 0, [], [], [], []⟩ from ⟨hD3, DkOk.zero _, RmOk.zero _ HR0.out.1, rfl, fun k hk => Nat.le_trans HB2.out.size hk.1⟩)
    clear hD3 hB3 hcv q60
    go_wp2
    go_loopw [27] (fun i wr => ∃ k : Nat, k ≤ n ∧ i = .int .i64 k ∧ ∃ S m, RmI w.heap.size wr S b k (rm : Int) m ∧ Below w.heap.size w wr) (fun i _ => n - (intOf i).toNat)
    case atStart => exact ⟨0, Nat.zero_le _, rfl, _, _, HST.out, HB3.out⟩
    case round =>
      obtain ⟨k, hk, rfl, S, m, hI, hB⟩ := hrel
      have HI := Lib.hid hI
      have HB := Lib.hid hB
      clear hI hB
      by_cases hlt : k < n
      · have hkl : k < l.length := by rw [HL.out.len]; exact hlt
        obtain ⟨x, hx⟩ : ∃ x, l[k] = x := ⟨_, rfl⟩
        have hxm : x ∈ l := by rw [← hx]; exact List.getElem_mem hkl
        have HXK := Lib.hid (HKD.out x hxm)
        have HXL := Lib.hid (HLX.out x hxm)
        have hLr := HL.out.of_below HB.out
        obtain ⟨c0, o0, hpe, hc0, hx0⟩ := hLr.cell (i := k) (j := 0) hkl (u := .int .u8 (x.1.kind : Int)) (by rw [hx]; rfl)
        have hF := fun j u (hu : (encA x)[j]? = some u) => (by
          obtain ⟨c1, o1, e1, _, h1⟩ := hLr.cell (i := k) (j := j) hkl (by rw [hx]; exact hu)
          rw [hpe] at e1
          injection e1 with e1
          injection e1 with e1 e2
          subst e1 e2
          rw [← Nat.add_assoc] at h1
          exact h1 : wr.cell? ⟨c0, o0 + k * 6 + j, none⟩ = some u)
        have a0 : wr.cell? ⟨c0, o0 + k * 6, none⟩ = some (.int .u8 (x.1.kind : Int)) := hF 0 _ rfl
        have a1 := hF 1 _ rfl
        have a2 := hF 2 _ rfl
        have a3 := hF 3 _ rfl
        have a4 := hF 4 _ rfl
        have a5 := hF 5 _ rfl
        have hac := boxA_cell wr x
        have hba := (Below.refl wr.heap.size wr).alloc (Nat.le_refl _) (.cells #[.int .u8 (x.1.kind : Int), .string (mkS x.1.path), .string (mkS x.1.to_), .slice x.2.bq x.1.b.length x.2.bc, .int .i64 x.1.n, .slice x.2.kp x.1.ks.length x.2.kc] 31)
        obtain ⟨WA, hWA⟩ : ∃ WA, wr.alloc (.cells #[.int .u8 (x.1.kind : Int), .string (mkS x.1.path), .string (mkS x.1.to_), .slice x.2.bq x.1.b.length x.2.bc, .int .i64 x.1.n, .slice x.2.kp x.1.ks.length x.2.kc] 31) = WA := ⟨_, rfl⟩
        have HEA := Lib.hid hWA
        rw [hWA] at hac hba
        have HIA := Lib.hid (HI.out.next hba)
        have HBA := Lib.hid (HB.out.trans (hba.mono HB.out.size))
        have HLB := Lib.hid (((HL.out.byt x hxm).wider (G' := fun k => ¬ S k) fun c _ hc hs => by have := HI.out.from_ c hs; omega).keep (w' := WA) (fun c _ hc => HBA.out.block c hc) HBA.out.size)
        have g0 : WA.cell? ⟨wr.heap.size, 0, none⟩ = some (.int .u8 (x.1.kind : Int)) := hac 0
        have g1 : WA.cell? ⟨wr.heap.size, 1, none⟩ = some (.string (mkS x.1.path)) := hac 1
        have g2 : WA.cell? ⟨wr.heap.size, 2, none⟩ = some (.string (mkS x.1.to_)) := hac 2
        have g3 : WA.cell? ⟨wr.heap.size, 3, none⟩ = some (.slice x.2.bq x.1.b.length x.2.bc) := hac 3
        have g4 : WA.cell? ⟨wr.heap.size, 4, none⟩ = some (.int .i64 x.1.n) := hac 4
        have g5 : WA.cell? ⟨wr.heap.size, 5, none⟩ = some (.slice x.2.kp x.1.ks.length x.2.kc) := hac 5
        have z1 : (k : Int) < (n : Int) := by omega
        have z2 : decide ((k : Int) < (n : Int)) = true := decide_eq_true z1
        have hw64 : IntKind.i64.wrap ((k : Int) + 1) = (k : Int) + 1 := by rw [IntKind.wrap_i64]; omega
        obtain ⟨c7, hc7⟩ : ∃ c7, x.1.kind % 7 = c7 := ⟨_, rfl⟩
        have hc7l : c7 < 7 := by omega
        have q7 : ((x.1.kind : Int).tmod 7) = (c7 : Int) := by rw [Int.tmod_eq_emod_of_nonneg (by omega)]; omega
        rw [hpe]
        clear hLr hpe hc0 hx0 hF hx hxm hba hWA hac
        rcases (show c7 = 0 ∨ c7 = 1 ∨ c7 = 2 ∨ c7 = 3 ∨ c7 = 4 ∨ c7 = 5 ∨ c7 = 6 by omega) with e7 | e7 | e7 | e7 | e7 | e7 | e7
        · subst e7
          clear hc7 hc7l
          have HC := Lib.hid (dwrite_any HIA.out.disk (HIA.out.ok.mono (by omega)) (by have := HIA.out.ok.seen; omega) (by rw [HIA.out.room]; exact HR0.out.1) (by rw [HIA.out.room]; exact HR0.out.2) x.1.path x.1.b x.2.bq x.2.bc x.1.n (by have := HXL.out.1; omega) (by have := HXL.out.2.2.1; omega) HLB.out)
          go_wp2_with fail
          rw [HEA.out]
          refine HC.out.mono ?_
          rintro e w4 ⟨rfl, hnx⟩
          obtain ⟨hj, hb4⟩ := HIA.out.call hnx (HIA.out.ok.write _ _ _) (HIA.out.well.write HIA.out.ok _ _ _) (writeL_room _ _ _ _) HBA.out.size
          obtain ⟨m4, hm4⟩ : ∃ m4, (writeL m x.1.path x.1.b x.1.n).1 = m4 := ⟨_, rfl⟩
          rw [hm4] at hj
          obtain ⟨S4, hS4⟩ : ∃ S4, SN S WA.heap.size w4.heap.size = S4 := ⟨_, rfl⟩
          rw [hS4] at hj
          have HJ := Lib.hid hj
          have HB4 := Lib.hid (HBA.out.trans (hb4.mono (Nat.le_refl _)))
          clear hnx hj hb4 hm4 hS4 HC
          have HPT := Lib.hid (dpaths_any HJ.out.disk (HJ.out.ok.mono (by omega)))
          go_wp2_with fail
          refine HPT.out.mono ?_
          rintro e w5 ⟨v, ls, rfl, hperm, hpw, hrow, hB5⟩
          obtain ⟨pq, pc, hv⟩ := own_slice hrow
          subst hv
          obtain ⟨lq, hlq⟩ : ∃ lq, ls.length = lq := ⟨_, rfl⟩
          have hls : lq = m4.seen.length := by rw [← hlq, hperm.length_eq, List.length_map]
          have hq64 : lq ≤ 64 := by rw [hls]; have := HJ.out.ok.seen; omega
          have HPM := Lib.hid hperm
          have HPW := Lib.hid hpw
          have HRW := Lib.hid hrow
          have HLQ := Lib.hid hlq
          have HB5 := Lib.hid (HB4.out.trans (hB5.mono HB4.out.size))
          have HJ5 := Lib.hid (HJ.out.next hB5)
          have hz := Below.refl w5.heap.size w5
          obtain ⟨ul, hul⟩ : ∃ ul, usedL m4 = ul := ⟨_, rfl⟩
          have HUR := Lib.hid (show (ul : Int) ≤ (rm : Int) by rw [← hul, ← HJ.out.room]; exact HJ.out.well.used)
          have HU1 := Lib.hid (fun (u : World) (hu : Below w5.heap.size w5 u) => dused_any (HJ5.out.disk.of_below hu) (HJ.out.ok.mono (by omega)))
          have HU3 := Lib.hid (fun (u : World) (hu : Below w5.heap.size w5 u) => droom_any (HJ5.out.disk.of_below hu))
          rw [hul] at HU1
          rw [HJ.out.room] at HU3
          rw [hlq]
          have zu : decide ((rm : Int) < (ul : Int)) = false := decide_eq_false (by have := HUR.out; omega)
          have zu2 : ul ≤ rm := by have := HUR.out; omega
          have zu3 : ¬ rm < ul := by omega
          have zq : decide ((64 : Int) < (lq : Int)) = false := decide_eq_false (by omega)
          clear hperm hpw hrow hlq hls hB5 hul
          try clear g0 g1 g2 g3 g4 g5
          go_wp2_with fail
          refine (HU1.out _ hz).mono ?_
          rintro e w6 ⟨rfl, hB6⟩
          have HBF := Lib.hid hB6
          go_wp2_with fail
          refine (HU3.out _ hB6).mono ?_
          rintro e w7 ⟨rfl, rfl⟩
          clear hB6 hz
          go_wp2
          go_loopw [84] (fun i wr2 => ∃ j : Nat, j ≤ lq ∧ i = .int .i64 j ∧ Below w5.heap.size w5 wr2) (fun i _ => lq - (intOf i).toNat)
          case atStart => exact ⟨0, Nat.zero_le _, rfl, HBF.out⟩
          case round =>
            rename World => WO
            clear HBF zu zq zu2 zu3
            obtain ⟨j, hj, rfl, hBJ⟩ := hrel
            have HBJ := Lib.hid hBJ
            by_cases hjl : j < lq
            · have hjk : j < ls.length := by rw [HLQ.out]; exact hjl
              obtain ⟨g, cap2, hv, _, hgl, hnc, hcs, hfr⟩ := own_full8 (own_below HRW.out hBJ) (by omega)
              injection hv with e1 e2 e3
              subst e1 e3
              have HCE := Lib.hid (fun (u : World) (hu : Below WO.heap.size WO u) i (hi : i < ls.length) => ((hu.cell (p := ⟨g, i, none⟩) hgl).trans (by
                rw [hcs i (by rw [List.length_map]; exact hi), List.getElem?_map, List.getElem?_eq_getElem hi]
                rfl) : u.cell? ⟨g, i, none⟩ = some (.string (mkS ls[i]))))
              have hnc2 : lq ≤ pc := by rw [← HLQ.out]; exact hnc
              have x1 := HCE.out WO (Below.refl _ _) j hjk
              have hpk : ls[j] ∈ m4.seen.map Fl.p := HPM.out.mem_iff.1 (List.getElem_mem hjk)
              obtain ⟨f0, hf0, hf0p⟩ := List.mem_map.1 hpk
              obtain ⟨pj, hpj⟩ : ∃ pj, ls[j] = pj := ⟨_, rfl⟩
              rw [hpj] at x1 hf0p
              have hgood : goodL pj = true := by rw [← hf0p]; exact HJ.out.well.good f0 hf0
              have hlen : pj.length ≤ 100 := goodL_len hgood
              have HGD := Lib.hid (fun u => refGood_any pj (by omega) u)
              rw [hgood] at HGD
              have HPJ := Lib.hid hpj
              have HF0 := Lib.hid hf0
              have HFP := Lib.hid hf0p
              have y1 : (j : Int) < (lq : Int) := by omega
              have y2 : decide ((j : Int) < (lq : Int)) = true := decide_eq_true y1
              have y3 : j ≤ lq := by omega
              have y4 : j ≤ pc := by omega
              have hw65 : IntKind.i64.wrap ((j : Int) + 1) = (j : Int) + 1 := by rw [IntKind.wrap_i64]; omega
              clear hgl hnc hcs hfr hpk hf0 hf0p hpj hgood
              go_wp2_with fail
              refine (HGD.out _).mono ?_
              rintro e w7 ⟨rfl, rfl⟩
              go_wp2
              go_loopw [96] (fun i wr3 => ∃ t : Nat, t ≤ j ∧ i = .int .i64 t ∧ Below WO.heap.size WO wr3) (fun i _ => j - (intOf i).toNat)
              case atStart => exact ⟨0, Nat.zero_le _, rfl, Below.refl _ _⟩
              case round =>
                obtain ⟨t, ht, rfl, hBT⟩ := hrel
                have HBT := Lib.hid hBT
                clear x1
                by_cases htl : t < j
                · have htk : t < ls.length := by omega
                  have x2 := HCE.out wr hBT t htk
                  have hqk : ls[t] ∈ m4.seen.map Fl.p := HPM.out.mem_iff.1 (List.getElem_mem htk)
                  obtain ⟨f1, hf1, hf1p⟩ := List.mem_map.1 hqk
                  have hne : ls[t] ≠ ls[j] := fun e => by
                    have := List.pairwise_iff_getElem.1 HPW.out t j htk hjk htl
                    rw [e] at this
                    exact absurd (List.le_refl _) (of_decide_eq_false this)
                  obtain ⟨pt, hpt⟩ : ∃ pt, ls[t] = pt := ⟨_, rfl⟩
                  rw [hpt] at x2 hf1p hne
                  rw [HPJ.out] at hne
                  have hcl : clashL pj pt = false := by
                    have := HJ.out.well.apart f0 HF0.out f1 hf1 (by rw [HFP.out, hf1p]; exact fun e => hne e.symm)
                    rw [HFP.out, hf1p] at this
                    exact this
                  unfold clashL at hcl
                  rw [Bool.or_eq_false_iff] at hcl
                  have hlt2 : pt.length ≤ 100 := by rw [← hf1p]; exact goodL_len (HJ.out.well.good f1 hf1)
                  have HI1 := Lib.hid (fun u => refIn_any pj pt (by omega) (by omega) u)
                  have HI2 := Lib.hid (fun u => refIn_any pt pj (by omega) (by omega) u)
                  rw [hcl.1] at HI1
                  rw [hcl.2] at HI2
                  have v1 : (t : Int) < (j : Int) := by omega
                  have v2 : decide ((t : Int) < (j : Int)) = true := decide_eq_true v1
                  have hw66 : IntKind.i64.wrap ((t : Int) + 1) = (t : Int) + 1 := by rw [IntKind.wrap_i64]; omega
                  clear hqk hf1 hf1p hne hpt hcl
                  go_wp2_with fail
                  refine (HI1.out _).mono ?_
                  rintro e w8 ⟨rfl, rfl⟩
                  go_wp2_with fail
                  refine (HI2.out _).mono ?_
                  rintro e w8 ⟨rfl, rfl⟩
                  go_wp2
                  go_roundw
                  case rel => exact ⟨t + 1, by omega, by go_num, hBT⟩
                  case measure => simp [intOf]; omega
                · have v1 : ¬ (t : Int) < (j : Int) := by omega
                  have v2 : decide ((t : Int) < (j : Int)) = false := decide_eq_false v1
                  go_wp2
                  go_roundw
                  case rel => exact ⟨j + 1, by omega, by go_num, HBJ.out.trans (hBT.mono HBJ.out.size)⟩
                  case measure => simp [intOf]; omega
            · have y1 : ¬ (j : Int) < (lq : Int) := by omega
              have y2 : decide ((j : Int) < (lq : Int)) = false := decide_eq_false y1
              go_wp2
              go_roundw
              case rel => exact ⟨k + 1, by omega, by go_num, _, _, HJ5.out.next hBJ, HB5.out.trans (hBJ.mono HB5.out.size)⟩
              case measure => simp [intOf]; omega
        · subst e7
          clear hc7 hc7l
          have HC := Lib.hid (drename_any HIA.out.disk (HIA.out.ok.mono (by omega)) x.1.path x.1.to_ (by have := HXL.out.1; omega) (by have := HXL.out.2.1; omega))
          go_wp2_with fail
          rw [HEA.out]
          refine HC.out.mono ?_
          rintro e w4 ⟨rfl, hnx⟩
          obtain ⟨hj, hb4⟩ := HIA.out.call hnx (HIA.out.ok.rename _ _ (by have := HXL.out.1; omega)) (HIA.out.well.rename _ _) (renameL_room _ _ _) HBA.out.size
          obtain ⟨m4, hm4⟩ : ∃ m4, (renameL m x.1.path x.1.to_).1 = m4 := ⟨_, rfl⟩
          rw [hm4] at hj
          obtain ⟨S4, hS4⟩ : ∃ S4, SN S WA.heap.size w4.heap.size = S4 := ⟨_, rfl⟩
          rw [hS4] at hj
          have HJ := Lib.hid hj
          have HB4 := Lib.hid (HBA.out.trans (hb4.mono (Nat.le_refl _)))
          clear hnx hj hb4 hm4 hS4 HC
          have HPT := Lib.hid (dpaths_any HJ.out.disk (HJ.out.ok.mono (by omega)))
          go_wp2_with fail
          refine HPT.out.mono ?_
          rintro e w5 ⟨v, ls, rfl, hperm, hpw, hrow, hB5⟩
          obtain ⟨pq, pc, hv⟩ := own_slice hrow
          subst hv
          obtain ⟨lq, hlq⟩ : ∃ lq, ls.length = lq := ⟨_, rfl⟩
          have hls : lq = m4.seen.length := by rw [← hlq, hperm.length_eq, List.length_map]
          have hq64 : lq ≤ 64 := by rw [hls]; have := HJ.out.ok.seen; omega
          have HPM := Lib.hid hperm
          have HPW := Lib.hid hpw
          have HRW := Lib.hid hrow
          have HLQ := Lib.hid hlq
          have HB5 := Lib.hid (HB4.out.trans (hB5.mono HB4.out.size))
          have HJ5 := Lib.hid (HJ.out.next hB5)
          have hz := Below.refl w5.heap.size w5
          obtain ⟨ul, hul⟩ : ∃ ul, usedL m4 = ul := ⟨_, rfl⟩
          have HUR := Lib.hid (show (ul : Int) ≤ (rm : Int) by rw [← hul, ← HJ.out.room]; exact HJ.out.well.used)
          have HU1 := Lib.hid (fun (u : World) (hu : Below w5.heap.size w5 u) => dused_any (HJ5.out.disk.of_below hu) (HJ.out.ok.mono (by omega)))
          have HU3 := Lib.hid (fun (u : World) (hu : Below w5.heap.size w5 u) => droom_any (HJ5.out.disk.of_below hu))
          rw [hul] at HU1
          rw [HJ.out.room] at HU3
          rw [hlq]
          have zu : decide ((rm : Int) < (ul : Int)) = false := decide_eq_false (by have := HUR.out; omega)
          have zu2 : ul ≤ rm := by have := HUR.out; omega
          have zu3 : ¬ rm < ul := by omega
          have zq : decide ((64 : Int) < (lq : Int)) = false := decide_eq_false (by omega)
          clear hperm hpw hrow hlq hls hB5 hul
          try clear g0 g1 g2 g3 g4 g5
          go_wp2_with fail
          refine (HU1.out _ hz).mono ?_
          rintro e w6 ⟨rfl, hB6⟩
          have HBF := Lib.hid hB6
          go_wp2_with fail
          refine (HU3.out _ hB6).mono ?_
          rintro e w7 ⟨rfl, rfl⟩
          clear hB6 hz
          go_wp2
          go_loopw [84] (fun i wr2 => ∃ j : Nat, j ≤ lq ∧ i = .int .i64 j ∧ Below w5.heap.size w5 wr2) (fun i _ => lq - (intOf i).toNat)
          case atStart => exact ⟨0, Nat.zero_le _, rfl, HBF.out⟩
          case round =>
            rename World => WO
            clear HBF zu zq zu2 zu3
            obtain ⟨j, hj, rfl, hBJ⟩ := hrel
            have HBJ := Lib.hid hBJ
            by_cases hjl : j < lq
            · have hjk : j < ls.length := by rw [HLQ.out]; exact hjl
              obtain ⟨g, cap2, hv, _, hgl, hnc, hcs, hfr⟩ := own_full8 (own_below HRW.out hBJ) (by omega)
              injection hv with e1 e2 e3
              subst e1 e3
              have HCE := Lib.hid (fun (u : World) (hu : Below WO.heap.size WO u) i (hi : i < ls.length) => ((hu.cell (p := ⟨g, i, none⟩) hgl).trans (by
                rw [hcs i (by rw [List.length_map]; exact hi), List.getElem?_map, List.getElem?_eq_getElem hi]
                rfl) : u.cell? ⟨g, i, none⟩ = some (.string (mkS ls[i]))))
              have hnc2 : lq ≤ pc := by rw [← HLQ.out]; exact hnc
              have x1 := HCE.out WO (Below.refl _ _) j hjk
              have hpk : ls[j] ∈ m4.seen.map Fl.p := HPM.out.mem_iff.1 (List.getElem_mem hjk)
              obtain ⟨f0, hf0, hf0p⟩ := List.mem_map.1 hpk
              obtain ⟨pj, hpj⟩ : ∃ pj, ls[j] = pj := ⟨_, rfl⟩
              rw [hpj] at x1 hf0p
              have hgood : goodL pj = true := by rw [← hf0p]; exact HJ.out.well.good f0 hf0
              have hlen : pj.length ≤ 100 := goodL_len hgood
              have HGD := Lib.hid (fun u => refGood_any pj (by omega) u)
              rw [hgood] at HGD
              have HPJ := Lib.hid hpj
              have HF0 := Lib.hid hf0
              have HFP := Lib.hid hf0p
              have y1 : (j : Int) < (lq : Int) := by omega
              have y2 : decide ((j : Int) < (lq : Int)) = true := decide_eq_true y1
              have y3 : j ≤ lq := by omega
              have y4 : j ≤ pc := by omega
              have hw65 : IntKind.i64.wrap ((j : Int) + 1) = (j : Int) + 1 := by rw [IntKind.wrap_i64]; omega
              clear hgl hnc hcs hfr hpk hf0 hf0p hpj hgood
              go_wp2_with fail
              refine (HGD.out _).mono ?_
              rintro e w7 ⟨rfl, rfl⟩
              go_wp2
              go_loopw [96] (fun i wr3 => ∃ t : Nat, t ≤ j ∧ i = .int .i64 t ∧ Below WO.heap.size WO wr3) (fun i _ => j - (intOf i).toNat)
              case atStart => exact ⟨0, Nat.zero_le _, rfl, Below.refl _ _⟩
              case round =>
                obtain ⟨t, ht, rfl, hBT⟩ := hrel
                have HBT := Lib.hid hBT
                clear x1
                by_cases htl : t < j
                · have htk : t < ls.length := by omega
                  have x2 := HCE.out wr hBT t htk
                  have hqk : ls[t] ∈ m4.seen.map Fl.p := HPM.out.mem_iff.1 (List.getElem_mem htk)
                  obtain ⟨f1, hf1, hf1p⟩ := List.mem_map.1 hqk
                  have hne : ls[t] ≠ ls[j] := fun e => by
                    have := List.pairwise_iff_getElem.1 HPW.out t j htk hjk htl
                    rw [e] at this
                    exact absurd (List.le_refl _) (of_decide_eq_false this)
                  obtain ⟨pt, hpt⟩ : ∃ pt, ls[t] = pt := ⟨_, rfl⟩
                  rw [hpt] at x2 hf1p hne
                  rw [HPJ.out] at hne
                  have hcl : clashL pj pt = false := by
                    have := HJ.out.well.apart f0 HF0.out f1 hf1 (by rw [HFP.out, hf1p]; exact fun e => hne e.symm)
                    rw [HFP.out, hf1p] at this
                    exact this
                  unfold clashL at hcl
                  rw [Bool.or_eq_false_iff] at hcl
                  have hlt2 : pt.length ≤ 100 := by rw [← hf1p]; exact goodL_len (HJ.out.well.good f1 hf1)
                  have HI1 := Lib.hid (fun u => refIn_any pj pt (by omega) (by omega) u)
                  have HI2 := Lib.hid (fun u => refIn_any pt pj (by omega) (by omega) u)
                  rw [hcl.1] at HI1
                  rw [hcl.2] at HI2
                  have v1 : (t : Int) < (j : Int) := by omega
                  have v2 : decide ((t : Int) < (j : Int)) = true := decide_eq_true v1
                  have hw66 : IntKind.i64.wrap ((t : Int) + 1) = (t : Int) + 1 := by rw [IntKind.wrap_i64]; omega
                  clear hqk hf1 hf1p hne hpt hcl
                  go_wp2_with fail
                  refine (HI1.out _).mono ?_
                  rintro e w8 ⟨rfl, rfl⟩
                  go_wp2_with fail
                  refine (HI2.out _).mono ?_
                  rintro e w8 ⟨rfl, rfl⟩
                  go_wp2
                  go_roundw
                  case rel => exact ⟨t + 1, by omega, by go_num, hBT⟩
                  case measure => simp [intOf]; omega
                · have v1 : ¬ (t : Int) < (j : Int) := by omega
                  have v2 : decide ((t : Int) < (j : Int)) = false := decide_eq_false v1
                  go_wp2
                  go_roundw
                  case rel => exact ⟨j + 1, by omega, by go_num, HBJ.out.trans (hBT.mono HBJ.out.size)⟩
                  case measure => simp [intOf]; omega
            · have y1 : ¬ (j : Int) < (lq : Int) := by omega
              have y2 : decide ((j : Int) < (lq : Int)) = false := decide_eq_false y1
              go_wp2
              go_roundw
              case rel => exact ⟨k + 1, by omega, by go_num, _, _, HJ5.out.next hBJ, HB5.out.trans (hBJ.mono HB5.out.size)⟩
              case measure => simp [intOf]; omega
        · subst e7
          clear hc7 hc7l
          have HC := Lib.hid (dremove_any HIA.out.disk (HIA.out.ok.mono (by omega)) x.1.path (by have := HXL.out.1; omega))
          go_wp2_with fail
          rw [HEA.out]
          refine HC.out.mono ?_
          rintro e w4 ⟨rfl, hnx⟩
          obtain ⟨hj, hb4⟩ := HIA.out.call hnx (HIA.out.ok.remove _ (by have := HXL.out.1; omega)) (HIA.out.well.remove _) (removeL_room _ _) HBA.out.size
          obtain ⟨m4, hm4⟩ : ∃ m4, (removeL m x.1.path).1 = m4 := ⟨_, rfl⟩
          rw [hm4] at hj
          obtain ⟨S4, hS4⟩ : ∃ S4, SN S WA.heap.size w4.heap.size = S4 := ⟨_, rfl⟩
          rw [hS4] at hj
          have HJ := Lib.hid hj
          have HB4 := Lib.hid (HBA.out.trans (hb4.mono (Nat.le_refl _)))
          clear hnx hj hb4 hm4 hS4 HC
          have HPT := Lib.hid (dpaths_any HJ.out.disk (HJ.out.ok.mono (by omega)))
          go_wp2_with fail
          refine HPT.out.mono ?_
          rintro e w5 ⟨v, ls, rfl, hperm, hpw, hrow, hB5⟩
          obtain ⟨pq, pc, hv⟩ := own_slice hrow
          subst hv
          obtain ⟨lq, hlq⟩ : ∃ lq, ls.length = lq := ⟨_, rfl⟩
          have hls : lq = m4.seen.length := by rw [← hlq, hperm.length_eq, List.length_map]
          have hq64 : lq ≤ 64 := by rw [hls]; have := HJ.out.ok.seen; omega
          have HPM := Lib.hid hperm
          have HPW := Lib.hid hpw
          have HRW := Lib.hid hrow
          have HLQ := Lib.hid hlq
          have HB5 := Lib.hid (HB4.out.trans (hB5.mono HB4.out.size))
          have HJ5 := Lib.hid (HJ.out.next hB5)
          have hz := Below.refl w5.heap.size w5
          obtain ⟨ul, hul⟩ : ∃ ul, usedL m4 = ul := ⟨_, rfl⟩
          have HUR := Lib.hid (show (ul : Int) ≤ (rm : Int) by rw [← hul, ← HJ.out.room]; exact HJ.out.well.used)
          have HU1 := Lib.hid (fun (u : World) (hu : Below w5.heap.size w5 u) => dused_any (HJ5.out.disk.of_below hu) (HJ.out.ok.mono (by omega)))
          have HU3 := Lib.hid (fun (u : World) (hu : Below w5.heap.size w5 u) => droom_any (HJ5.out.disk.of_below hu))
          rw [hul] at HU1
          rw [HJ.out.room] at HU3
          rw [hlq]
          have zu : decide ((rm : Int) < (ul : Int)) = false := decide_eq_false (by have := HUR.out; omega)
          have zu2 : ul ≤ rm := by have := HUR.out; omega
          have zu3 : ¬ rm < ul := by omega
          have zq : decide ((64 : Int) < (lq : Int)) = false := decide_eq_false (by omega)
          clear hperm hpw hrow hlq hls hB5 hul
          try clear g0 g1 g2 g3 g4 g5
          go_wp2_with fail
          refine (HU1.out _ hz).mono ?_
          rintro e w6 ⟨rfl, hB6⟩
          have HBF := Lib.hid hB6
          go_wp2_with fail
          refine (HU3.out _ hB6).mono ?_
          rintro e w7 ⟨rfl, rfl⟩
          clear hB6 hz
          go_wp2
          go_loopw [84] (fun i wr2 => ∃ j : Nat, j ≤ lq ∧ i = .int .i64 j ∧ Below w5.heap.size w5 wr2) (fun i _ => lq - (intOf i).toNat)
          case atStart => exact ⟨0, Nat.zero_le _, rfl, HBF.out⟩
          case round =>
            rename World => WO
            clear HBF zu zq zu2 zu3
            obtain ⟨j, hj, rfl, hBJ⟩ := hrel
            have HBJ := Lib.hid hBJ
            by_cases hjl : j < lq
            · have hjk : j < ls.length := by rw [HLQ.out]; exact hjl
              obtain ⟨g, cap2, hv, _, hgl, hnc, hcs, hfr⟩ := own_full8 (own_below HRW.out hBJ) (by omega)
              injection hv with e1 e2 e3
              subst e1 e3
              have HCE := Lib.hid (fun (u : World) (hu : Below WO.heap.size WO u) i (hi : i < ls.length) => ((hu.cell (p := ⟨g, i, none⟩) hgl).trans (by
                rw [hcs i (by rw [List.length_map]; exact hi), List.getElem?_map, List.getElem?_eq_getElem hi]
                rfl) : u.cell? ⟨g, i, none⟩ = some (.string (mkS ls[i]))))
              have hnc2 : lq ≤ pc := by rw [← HLQ.out]; exact hnc
              have x1 := HCE.out WO (Below.refl _ _) j hjk
              have hpk : ls[j] ∈ m4.seen.map Fl.p := HPM.out.mem_iff.1 (List.getElem_mem hjk)
              obtain ⟨f0, hf0, hf0p⟩ := List.mem_map.1 hpk
              obtain ⟨pj, hpj⟩ : ∃ pj, ls[j] = pj := ⟨_, rfl⟩
              rw [hpj] at x1 hf0p
              have hgood : goodL pj = true := by rw [← hf0p]; exact HJ.out.well.good f0 hf0
              have hlen : pj.length ≤ 100 := goodL_len hgood
              have HGD := Lib.hid (fun u => refGood_any pj (by omega) u)
              rw [hgood] at HGD
              have HPJ := Lib.hid hpj
              have HF0 := Lib.hid hf0
              have HFP := Lib.hid hf0p
              have y1 : (j : Int) < (lq : Int) := by omega
              have y2 : decide ((j : Int) < (lq : Int)) = true := decide_eq_true y1
              have y3 : j ≤ lq := by omega
              have y4 : j ≤ pc := by omega
              have hw65 : IntKind.i64.wrap ((j : Int) + 1) = (j : Int) + 1 := by rw [IntKind.wrap_i64]; omega
              clear hgl hnc hcs hfr hpk hf0 hf0p hpj hgood
              go_wp2_with fail
              refine (HGD.out _).mono ?_
              rintro e w7 ⟨rfl, rfl⟩
              go_wp2
              go_loopw [96] (fun i wr3 => ∃ t : Nat, t ≤ j ∧ i = .int .i64 t ∧ Below WO.heap.size WO wr3) (fun i _ => j - (intOf i).toNat)
              case atStart => exact ⟨0, Nat.zero_le _, rfl, Below.refl _ _⟩
              case round =>
                obtain ⟨t, ht, rfl, hBT⟩ := hrel
                have HBT := Lib.hid hBT
                clear x1
                by_cases htl : t < j
                · have htk : t < ls.length := by omega
                  have x2 := HCE.out wr hBT t htk
                  have hqk : ls[t] ∈ m4.seen.map Fl.p := HPM.out.mem_iff.1 (List.getElem_mem htk)
                  obtain ⟨f1, hf1, hf1p⟩ := List.mem_map.1 hqk
                  have hne : ls[t] ≠ ls[j] := fun e => by
                    have := List.pairwise_iff_getElem.1 HPW.out t j htk hjk htl
                    rw [e] at this
                    exact absurd (List.le_refl _) (of_decide_eq_false this)
                  obtain ⟨pt, hpt⟩ : ∃ pt, ls[t] = pt := ⟨_, rfl⟩
                  rw [hpt] at x2 hf1p hne
                  rw [HPJ.out] at hne
                  have hcl : clashL pj pt = false := by
                    have := HJ.out.well.apart f0 HF0.out f1 hf1 (by rw [HFP.out, hf1p]; exact fun e => hne e.symm)
                    rw [HFP.out, hf1p] at this
                    exact this
                  unfold clashL at hcl
                  rw [Bool.or_eq_false_iff] at hcl
                  have hlt2 : pt.length ≤ 100 := by rw [← hf1p]; exact goodL_len (HJ.out.well.good f1 hf1)
                  have HI1 := Lib.hid (fun u => refIn_any pj pt (by omega) (by omega) u)
                  have HI2 := Lib.hid (fun u => refIn_any pt pj (by omega) (by omega) u)
                  rw [hcl.1] at HI1
                  rw [hcl.2] at HI2
                  have v1 : (t : Int) < (j : Int) := by omega
                  have v2 : decide ((t : Int) < (j : Int)) = true := decide_eq_true v1
                  have hw66 : IntKind.i64.wrap ((t : Int) + 1) = (t : Int) + 1 := by rw [IntKind.wrap_i64]; omega
                  clear hqk hf1 hf1p hne hpt hcl
                  go_wp2_with fail
                  refine (HI1.out _).mono ?_
                  rintro e w8 ⟨rfl, rfl⟩
                  go_wp2_with fail
                  refine (HI2.out _).mono ?_
                  rintro e w8 ⟨rfl, rfl⟩
                  go_wp2
                  go_roundw
                  case rel => exact ⟨t + 1, by omega, by go_num, hBT⟩
                  case measure => simp [intOf]; omega
                · have v1 : ¬ (t : Int) < (j : Int) := by omega
                  have v2 : decide ((t : Int) < (j : Int)) = false := decide_eq_false v1
                  go_wp2
                  go_roundw
                  case rel => exact ⟨j + 1, by omega, by go_num, HBJ.out.trans (hBT.mono HBJ.out.size)⟩
                  case measure => simp [intOf]; omega
            · have y1 : ¬ (j : Int) < (lq : Int) := by omega
              have y2 : decide ((j : Int) < (lq : Int)) = false := decide_eq_false y1
              go_wp2
              go_roundw
              case rel => exact ⟨k + 1, by omega, by go_num, _, _, HJ5.out.next hBJ, HB5.out.trans (hBJ.mono HB5.out.size)⟩
              case measure => simp [intOf]; omega
        · subst e7
          clear hc7 hc7l
          have HC := Lib.hid (dsync_any HIA.out.disk)
          go_wp2_with fail
          rw [HEA.out]
          refine HC.out.mono ?_
          rintro e w4 ⟨rfl, hnx⟩
          obtain ⟨hj, hb4⟩ := HIA.out.call hnx (HIA.out.ok.sync.more) (HIA.out.well.sync) (rfl) HBA.out.size
          obtain ⟨m4, hm4⟩ : ∃ m4, syncL m = m4 := ⟨_, rfl⟩
          rw [hm4] at hj
          obtain ⟨S4, hS4⟩ : ∃ S4, SN S WA.heap.size w4.heap.size = S4 := ⟨_, rfl⟩
          rw [hS4] at hj
          have HJ := Lib.hid hj
          have HB4 := Lib.hid (HBA.out.trans (hb4.mono (Nat.le_refl _)))
          clear hnx hj hb4 hm4 hS4 HC
          have HPT := Lib.hid (dpaths_any HJ.out.disk (HJ.out.ok.mono (by omega)))
          go_wp2_with fail
          refine HPT.out.mono ?_
          rintro e w5 ⟨v, ls, rfl, hperm, hpw, hrow, hB5⟩
          obtain ⟨pq, pc, hv⟩ := own_slice hrow
          subst hv
          obtain ⟨lq, hlq⟩ : ∃ lq, ls.length = lq := ⟨_, rfl⟩
          have hls : lq = m4.seen.length := by rw [← hlq, hperm.length_eq, List.length_map]
          have hq64 : lq ≤ 64 := by rw [hls]; have := HJ.out.ok.seen; omega
          have HPM := Lib.hid hperm
          have HPW := Lib.hid hpw
          have HRW := Lib.hid hrow
          have HLQ := Lib.hid hlq
          have HB5 := Lib.hid (HB4.out.trans (hB5.mono HB4.out.size))
          have HJ5 := Lib.hid (HJ.out.next hB5)
          have hz := Below.refl w5.heap.size w5
          obtain ⟨ul, hul⟩ : ∃ ul, usedL m4 = ul := ⟨_, rfl⟩
          have HUR := Lib.hid (show (ul : Int) ≤ (rm : Int) by rw [← hul, ← HJ.out.room]; exact HJ.out.well.used)
          have HU1 := Lib.hid (fun (u : World) (hu : Below w5.heap.size w5 u) => dused_any (HJ5.out.disk.of_below hu) (HJ.out.ok.mono (by omega)))
          have HU3 := Lib.hid (fun (u : World) (hu : Below w5.heap.size w5 u) => droom_any (HJ5.out.disk.of_below hu))
          rw [hul] at HU1
          rw [HJ.out.room] at HU3
          rw [hlq]
          have zu : decide ((rm : Int) < (ul : Int)) = false := decide_eq_false (by have := HUR.out; omega)
          have zu2 : ul ≤ rm := by have := HUR.out; omega
          have zu3 : ¬ rm < ul := by omega
          have zq : decide ((64 : Int) < (lq : Int)) = false := decide_eq_false (by omega)
          clear hperm hpw hrow hlq hls hB5 hul
          try clear g0 g1 g2 g3 g4 g5
          go_wp2_with fail
          refine (HU1.out _ hz).mono ?_
          rintro e w6 ⟨rfl, hB6⟩
          have HBF := Lib.hid hB6
          go_wp2_with fail
          refine (HU3.out _ hB6).mono ?_
          rintro e w7 ⟨rfl, rfl⟩
          clear hB6 hz
          go_wp2
          go_loopw [84] (fun i wr2 => ∃ j : Nat, j ≤ lq ∧ i = .int .i64 j ∧ Below w5.heap.size w5 wr2) (fun i _ => lq - (intOf i).toNat)
          case atStart => exact ⟨0, Nat.zero_le _, rfl, HBF.out⟩
          case round =>
            rename World => WO
            clear HBF zu zq zu2 zu3
            obtain ⟨j, hj, rfl, hBJ⟩ := hrel
            have HBJ := Lib.hid hBJ
            by_cases hjl : j < lq
            · have hjk : j < ls.length := by rw [HLQ.out]; exact hjl
              obtain ⟨g, cap2, hv, _, hgl, hnc, hcs, hfr⟩ := own_full8 (own_below HRW.out hBJ) (by omega)
              injection hv with e1 e2 e3
              subst e1 e3
              have HCE := Lib.hid (fun (u : World) (hu : Below WO.heap.size WO u) i (hi : i < ls.length) => ((hu.cell (p := ⟨g, i, none⟩) hgl).trans (by
                rw [hcs i (by rw [List.length_map]; exact hi), List.getElem?_map, List.getElem?_eq_getElem hi]
                rfl) : u.cell? ⟨g, i, none⟩ = some (.string (mkS ls[i]))))
              have hnc2 : lq ≤ pc := by rw [← HLQ.out]; exact hnc
              have x1 := HCE.out WO (Below.refl _ _) j hjk
              have hpk : ls[j] ∈ m4.seen.map Fl.p := HPM.out.mem_iff.1 (List.getElem_mem hjk)
              obtain ⟨f0, hf0, hf0p⟩ := List.mem_map.1 hpk
              obtain ⟨pj, hpj⟩ : ∃ pj, ls[j] = pj := ⟨_, rfl⟩
              rw [hpj] at x1 hf0p
              have hgood : goodL pj = true := by rw [← hf0p]; exact HJ.out.well.good f0 hf0
              have hlen : pj.length ≤ 100 := goodL_len hgood
              have HGD := Lib.hid (fun u => refGood_any pj (by omega) u)
              rw [hgood] at HGD
              have HPJ := Lib.hid hpj
              have HF0 := Lib.hid hf0
              have HFP := Lib.hid hf0p
              have y1 : (j : Int) < (lq : Int) := by omega
              have y2 : decide ((j : Int) < (lq : Int)) = true := decide_eq_true y1
              have y3 : j ≤ lq := by omega
              have y4 : j ≤ pc := by omega
              have hw65 : IntKind.i64.wrap ((j : Int) + 1) = (j : Int) + 1 := by rw [IntKind.wrap_i64]; omega
              clear hgl hnc hcs hfr hpk hf0 hf0p hpj hgood
              go_wp2_with fail
              refine (HGD.out _).mono ?_
              rintro e w7 ⟨rfl, rfl⟩
              go_wp2
              go_loopw [96] (fun i wr3 => ∃ t : Nat, t ≤ j ∧ i = .int .i64 t ∧ Below WO.heap.size WO wr3) (fun i _ => j - (intOf i).toNat)
              case atStart => exact ⟨0, Nat.zero_le _, rfl, Below.refl _ _⟩
              case round =>
                obtain ⟨t, ht, rfl, hBT⟩ := hrel
                have HBT := Lib.hid hBT
                clear x1
                by_cases htl : t < j
                · have htk : t < ls.length := by omega
                  have x2 := HCE.out wr hBT t htk
                  have hqk : ls[t] ∈ m4.seen.map Fl.p := HPM.out.mem_iff.1 (List.getElem_mem htk)
                  obtain ⟨f1, hf1, hf1p⟩ := List.mem_map.1 hqk
                  have hne : ls[t] ≠ ls[j] := fun e => by
                    have := List.pairwise_iff_getElem.1 HPW.out t j htk hjk htl
                    rw [e] at this
                    exact absurd (List.le_refl _) (of_decide_eq_false this)
                  obtain ⟨pt, hpt⟩ : ∃ pt, ls[t] = pt := ⟨_, rfl⟩
                  rw [hpt] at x2 hf1p hne
                  rw [HPJ.out] at hne
                  have hcl : clashL pj pt = false := by
                    have := HJ.out.well.apart f0 HF0.out f1 hf1 (by rw [HFP.out, hf1p]; exact fun e => hne e.symm)
                    rw [HFP.out, hf1p] at this
                    exact this
                  unfold clashL at hcl
                  rw [Bool.or_eq_false_iff] at hcl
                  have hlt2 : pt.length ≤ 100 := by rw [← hf1p]; exact goodL_len (HJ.out.well.good f1 hf1)
                  have HI1 := Lib.hid (fun u => refIn_any pj pt (by omega) (by omega) u)
                  have HI2 := Lib.hid (fun u => refIn_any pt pj (by omega) (by omega) u)
                  rw [hcl.1] at HI1
                  rw [hcl.2] at HI2
                  have v1 : (t : Int) < (j : Int) := by omega
                  have v2 : decide ((t : Int) < (j : Int)) = true := decide_eq_true v1
                  have hw66 : IntKind.i64.wrap ((t : Int) + 1) = (t : Int) + 1 := by rw [IntKind.wrap_i64]; omega
                  clear hqk hf1 hf1p hne hpt hcl
                  go_wp2_with fail
                  refine (HI1.out _).mono ?_
                  rintro e w8 ⟨rfl, rfl⟩
                  go_wp2_with fail
                  refine (HI2.out _).mono ?_
                  rintro e w8 ⟨rfl, rfl⟩
                  go_wp2
                  go_roundw
                  case rel => exact ⟨t + 1, by omega, by go_num, hBT⟩
                  case measure => simp [intOf]; omega
                · have v1 : ¬ (t : Int) < (j : Int) := by omega
                  have v2 : decide ((t : Int) < (j : Int)) = false := decide_eq_false v1
                  go_wp2
                  go_roundw
                  case rel => exact ⟨j + 1, by omega, by go_num, HBJ.out.trans (hBT.mono HBJ.out.size)⟩
                  case measure => simp [intOf]; omega
            · have y1 : ¬ (j : Int) < (lq : Int) := by omega
              have y2 : decide ((j : Int) < (lq : Int)) = false := decide_eq_false y1
              go_wp2
              go_roundw
              case rel => exact ⟨k + 1, by omega, by go_num, _, _, HJ5.out.next hBJ, HB5.out.trans (hBJ.mono HB5.out.size)⟩
              case measure => simp [intOf]; omega
        · subst e7
          clear hc7 hc7l
          have HJ := Lib.hid HIA.out.more
          have HB4 := HBA
          obtain ⟨m4, hm4⟩ : ∃ m4, m = m4 := ⟨_, rfl⟩
          rw [hm4] at HJ
          clear hm4
          have HPT := Lib.hid (dpaths_any HJ.out.disk (HJ.out.ok.mono (by omega)))
          go_wp2_with fail
          rw [HEA.out]
          refine HPT.out.mono ?_
          rintro e w5 ⟨v, ls, rfl, hperm, hpw, hrow, hB5⟩
          obtain ⟨pq, pc, hv⟩ := own_slice hrow
          subst hv
          obtain ⟨lq, hlq⟩ : ∃ lq, ls.length = lq := ⟨_, rfl⟩
          have hls : lq = m4.seen.length := by rw [← hlq, hperm.length_eq, List.length_map]
          have hq64 : lq ≤ 64 := by rw [hls]; have := HJ.out.ok.seen; omega
          have HPM := Lib.hid hperm
          have HPW := Lib.hid hpw
          have HRW := Lib.hid hrow
          have HLQ := Lib.hid hlq
          have HB5 := Lib.hid (HB4.out.trans (hB5.mono HB4.out.size))
          have HJ5 := Lib.hid (HJ.out.next hB5)
          have hz := Below.refl w5.heap.size w5
          obtain ⟨ul, hul⟩ : ∃ ul, usedL m4 = ul := ⟨_, rfl⟩
          have HUR := Lib.hid (show (ul : Int) ≤ (rm : Int) by rw [← hul, ← HJ.out.room]; exact HJ.out.well.used)
          have HU1 := Lib.hid (fun (u : World) (hu : Below w5.heap.size w5 u) => dused_any (HJ5.out.disk.of_below hu) (HJ.out.ok.mono (by omega)))
          have HU3 := Lib.hid (fun (u : World) (hu : Below w5.heap.size w5 u) => droom_any (HJ5.out.disk.of_below hu))
          rw [hul] at HU1
          rw [HJ.out.room] at HU3
          rw [hlq]
          have zu : decide ((rm : Int) < (ul : Int)) = false := decide_eq_false (by have := HUR.out; omega)
          have zu2 : ul ≤ rm := by have := HUR.out; omega
          have zu3 : ¬ rm < ul := by omega
          have zq : decide ((64 : Int) < (lq : Int)) = false := decide_eq_false (by omega)
          clear hperm hpw hrow hlq hls hB5 hul
          try clear g0 g1 g2 g3 g4 g5
          go_wp2_with fail
          refine (HU1.out _ hz).mono ?_
          rintro e w6 ⟨rfl, hB6⟩
          have HBF := Lib.hid hB6
          go_wp2_with fail
          refine (HU3.out _ hB6).mono ?_
          rintro e w7 ⟨rfl, rfl⟩
          clear hB6 hz
          go_wp2
          go_loopw [84] (fun i wr2 => ∃ j : Nat, j ≤ lq ∧ i = .int .i64 j ∧ Below w5.heap.size w5 wr2) (fun i _ => lq - (intOf i).toNat)
          case atStart => exact ⟨0, Nat.zero_le _, rfl, HBF.out⟩
          case round =>
            rename World => WO
            clear HBF zu zq zu2 zu3
            obtain ⟨j, hj, rfl, hBJ⟩ := hrel
            have HBJ := Lib.hid hBJ
            by_cases hjl : j < lq
            · have hjk : j < ls.length := by rw [HLQ.out]; exact hjl
              obtain ⟨g, cap2, hv, _, hgl, hnc, hcs, hfr⟩ := own_full8 (own_below HRW.out hBJ) (by omega)
              injection hv with e1 e2 e3
              subst e1 e3
              have HCE := Lib.hid (fun (u : World) (hu : Below WO.heap.size WO u) i (hi : i < ls.length) => ((hu.cell (p := ⟨g, i, none⟩) hgl).trans (by
                rw [hcs i (by rw [List.length_map]; exact hi), List.getElem?_map, List.getElem?_eq_getElem hi]
                rfl) : u.cell? ⟨g, i, none⟩ = some (.string (mkS ls[i]))))
              have hnc2 : lq ≤ pc := by rw [← HLQ.out]; exact hnc
              have x1 := HCE.out WO (Below.refl _ _) j hjk
              have hpk : ls[j] ∈ m4.seen.map Fl.p := HPM.out.mem_iff.1 (List.getElem_mem hjk)
              obtain ⟨f0, hf0, hf0p⟩ := List.mem_map.1 hpk
              obtain ⟨pj, hpj⟩ : ∃ pj, ls[j] = pj := ⟨_, rfl⟩
              rw [hpj] at x1 hf0p
              have hgood : goodL pj = true := by rw [← hf0p]; exact HJ.out.well.good f0 hf0
              have hlen : pj.length ≤ 100 := goodL_len hgood
              have HGD := Lib.hid (fun u => refGood_any pj (by omega) u)
              rw [hgood] at HGD
              have HPJ := Lib.hid hpj
              have HF0 := Lib.hid hf0
              have HFP := Lib.hid hf0p
              have y1 : (j : Int) < (lq : Int) := by omega
              have y2 : decide ((j : Int) < (lq : Int)) = true := decide_eq_true y1
              have y3 : j ≤ lq := by omega
              have y4 : j ≤ pc := by omega
              have hw65 : IntKind.i64.wrap ((j : Int) + 1) = (j : Int) + 1 := by rw [IntKind.wrap_i64]; omega
              clear hgl hnc hcs hfr hpk hf0 hf0p hpj hgood
              go_wp2_with fail
              refine (HGD.out _).mono ?_
              rintro e w7 ⟨rfl, rfl⟩
              go_wp2
              go_loopw [96] (fun i wr3 => ∃ t : Nat, t ≤ j ∧ i = .int .i64 t ∧ Below WO.heap.size WO wr3) (fun i _ => j - (intOf i).toNat)
              case atStart => exact ⟨0, Nat.zero_le _, rfl, Below.refl _ _⟩
              case round =>
                obtain ⟨t, ht, rfl, hBT⟩ := hrel
                have HBT := Lib.hid hBT
                clear x1
                by_cases htl : t < j
                · have htk : t < ls.length := by omega
                  have x2 := HCE.out wr hBT t htk
                  have hqk : ls[t] ∈ m4.seen.map Fl.p := HPM.out.mem_iff.1 (List.getElem_mem htk)
                  obtain ⟨f1, hf1, hf1p⟩ := List.mem_map.1 hqk
                  have hne : ls[t] ≠ ls[j] := fun e => by
                    have := List.pairwise_iff_getElem.1 HPW.out t j htk hjk htl
                    rw [e] at this
                    exact absurd (List.le_refl _) (of_decide_eq_false this)
                  obtain ⟨pt, hpt⟩ : ∃ pt, ls[t] = pt := ⟨_, rfl⟩
                  rw [hpt] at x2 hf1p hne
                  rw [HPJ.out] at hne
                  have hcl : clashL pj pt = false := by
                    have := HJ.out.well.apart f0 HF0.out f1 hf1 (by rw [HFP.out, hf1p]; exact fun e => hne e.symm)
                    rw [HFP.out, hf1p] at this
                    exact this
                  unfold clashL at hcl
                  rw [Bool.or_eq_false_iff] at hcl
                  have hlt2 : pt.length ≤ 100 := by rw [← hf1p]; exact goodL_len (HJ.out.well.good f1 hf1)
                  have HI1 := Lib.hid (fun u => refIn_any pj pt (by omega) (by omega) u)
                  have HI2 := Lib.hid (fun u => refIn_any pt pj (by omega) (by omega) u)
                  rw [hcl.1] at HI1
                  rw [hcl.2] at HI2
                  have v1 : (t : Int) < (j : Int) := by omega
                  have v2 : decide ((t : Int) < (j : Int)) = true := decide_eq_true v1
                  have hw66 : IntKind.i64.wrap ((t : Int) + 1) = (t : Int) + 1 := by rw [IntKind.wrap_i64]; omega
                  clear hqk hf1 hf1p hne hpt hcl
                  go_wp2_with fail
                  refine (HI1.out _).mono ?_
                  rintro e w8 ⟨rfl, rfl⟩
                  go_wp2_with fail
                  refine (HI2.out _).mono ?_
                  rintro e w8 ⟨rfl, rfl⟩
                  go_wp2
                  go_roundw
                  case rel => exact ⟨t + 1, by omega, by go_num, hBT⟩
                  case measure => simp [intOf]; omega
                · have v1 : ¬ (t : Int) < (j : Int) := by omega
                  have v2 : decide ((t : Int) < (j : Int)) = false := decide_eq_false v1
                  go_wp2
                  go_roundw
                  case rel => exact ⟨j + 1, by omega, by go_num, HBJ.out.trans (hBT.mono HBJ.out.size)⟩
                  case measure => simp [intOf]; omega
            · have y1 : ¬ (j : Int) < (lq : Int) := by omega
              have y2 : decide ((j : Int) < (lq : Int)) = false := decide_eq_false y1
              go_wp2
              go_roundw
              case rel => exact ⟨k + 1, by omega, by go_num, _, _, HJ5.out.next hBJ, HB5.out.trans (hBJ.mono HB5.out.size)⟩
              case measure => simp [intOf]; omega
        · subst e7
          clear hc7 hc7l
          have HC := Lib.hid (drot_any HIA.out.disk (HIA.out.ok.mono (by omega)) x.1.path x.1.n 1)
          go_wp2_with fail
          rw [HEA.out]
          refine HC.out.mono ?_
          rintro e w4 ⟨rfl, hnx⟩
          obtain ⟨hj, hb4⟩ := HIA.out.call hnx ((HIA.out.ok.rot _ _ _).more) (HIA.out.well.rot _ _ _) (rotL_room _ _ _ _) HBA.out.size
          obtain ⟨m4, hm4⟩ : ∃ m4, (rotL m x.1.path x.1.n 1).1 = m4 := ⟨_, rfl⟩
          rw [hm4] at hj
          obtain ⟨S4, hS4⟩ : ∃ S4, SN S WA.heap.size w4.heap.size = S4 := ⟨_, rfl⟩
          rw [hS4] at hj
          have HJ := Lib.hid hj
          have HB4 := Lib.hid (HBA.out.trans (hb4.mono (Nat.le_refl _)))
          clear hnx hj hb4 hm4 hS4 HC
          have HPT := Lib.hid (dpaths_any HJ.out.disk (HJ.out.ok.mono (by omega)))
          go_wp2_with fail
          refine HPT.out.mono ?_
          rintro e w5 ⟨v, ls, rfl, hperm, hpw, hrow, hB5⟩
          obtain ⟨pq, pc, hv⟩ := own_slice hrow
          subst hv
          obtain ⟨lq, hlq⟩ : ∃ lq, ls.length = lq := ⟨_, rfl⟩
          have hls : lq = m4.seen.length := by rw [← hlq, hperm.length_eq, List.length_map]
          have hq64 : lq ≤ 64 := by rw [hls]; have := HJ.out.ok.seen; omega
          have HPM := Lib.hid hperm
          have HPW := Lib.hid hpw
          have HRW := Lib.hid hrow
          have HLQ := Lib.hid hlq
          have HB5 := Lib.hid (HB4.out.trans (hB5.mono HB4.out.size))
          have HJ5 := Lib.hid (HJ.out.next hB5)
          have hz := Below.refl w5.heap.size w5
          obtain ⟨ul, hul⟩ : ∃ ul, usedL m4 = ul := ⟨_, rfl⟩
          have HUR := Lib.hid (show (ul : Int) ≤ (rm : Int) by rw [← hul, ← HJ.out.room]; exact HJ.out.well.used)
          have HU1 := Lib.hid (fun (u : World) (hu : Below w5.heap.size w5 u) => dused_any (HJ5.out.disk.of_below hu) (HJ.out.ok.mono (by omega)))
          have HU3 := Lib.hid (fun (u : World) (hu : Below w5.heap.size w5 u) => droom_any (HJ5.out.disk.of_below hu))
          rw [hul] at HU1
          rw [HJ.out.room] at HU3
          rw [hlq]
          have zu : decide ((rm : Int) < (ul : Int)) = false := decide_eq_false (by have := HUR.out; omega)
          have zu2 : ul ≤ rm := by have := HUR.out; omega
          have zu3 : ¬ rm < ul := by omega
          have zq : decide ((64 : Int) < (lq : Int)) = false := decide_eq_false (by omega)
          clear hperm hpw hrow hlq hls hB5 hul
          try clear g0 g1 g2 g3 g4 g5
          go_wp2_with fail
          refine (HU1.out _ hz).mono ?_
          rintro e w6 ⟨rfl, hB6⟩
          have HBF := Lib.hid hB6
          go_wp2_with fail
          refine (HU3.out _ hB6).mono ?_
          rintro e w7 ⟨rfl, rfl⟩
          clear hB6 hz
          go_wp2
          go_loopw [84] (fun i wr2 => ∃ j : Nat, j ≤ lq ∧ i = .int .i64 j ∧ Below w5.heap.size w5 wr2) (fun i _ => lq - (intOf i).toNat)
          case atStart => exact ⟨0, Nat.zero_le _, rfl, HBF.out⟩
          case round =>
            rename World => WO
            clear HBF zu zq zu2 zu3
            obtain ⟨j, hj, rfl, hBJ⟩ := hrel
            have HBJ := Lib.hid hBJ
            by_cases hjl : j < lq
            · have hjk : j < ls.length := by rw [HLQ.out]; exact hjl
              obtain ⟨g, cap2, hv, _, hgl, hnc, hcs, hfr⟩ := own_full8 (own_below HRW.out hBJ) (by omega)
              injection hv with e1 e2 e3
              subst e1 e3
              have HCE := Lib.hid (fun (u : World) (hu : Below WO.heap.size WO u) i (hi : i < ls.length) => ((hu.cell (p := ⟨g, i, none⟩) hgl).trans (by
                rw [hcs i (by rw [List.length_map]; exact hi), List.getElem?_map, List.getElem?_eq_getElem hi]
                rfl) : u.cell? ⟨g, i, none⟩ = some (.string (mkS ls[i]))))
              have hnc2 : lq ≤ pc := by rw [← HLQ.out]; exact hnc
              have x1 := HCE.out WO (Below.refl _ _) j hjk
              have hpk : ls[j] ∈ m4.seen.map Fl.p := HPM.out.mem_iff.1 (List.getElem_mem hjk)
              obtain ⟨f0, hf0, hf0p⟩ := List.mem_map.1 hpk
              obtain ⟨pj, hpj⟩ : ∃ pj, ls[j] = pj := ⟨_, rfl⟩
              rw [hpj] at x1 hf0p
              have hgood : goodL pj = true := by rw [← hf0p]; exact HJ.out.well.good f0 hf0
              have hlen : pj.length ≤ 100 := goodL_len hgood
              have HGD := Lib.hid (fun u => refGood_any pj (by omega) u)
              rw [hgood] at HGD
              have HPJ := Lib.hid hpj
              have HF0 := Lib.hid hf0
              have HFP := Lib.hid hf0p
              have y1 : (j : Int) < (lq : Int) := by omega
              have y2 : decide ((j : Int) < (lq : Int)) = true := decide_eq_true y1
              have y3 : j ≤ lq := by omega
              have y4 : j ≤ pc := by omega
              have hw65 : IntKind.i64.wrap ((j : Int) + 1) = (j : Int) + 1 := by rw [IntKind.wrap_i64]; omega
              clear hgl hnc hcs hfr hpk hf0 hf0p hpj hgood
              go_wp2_with fail
              refine (HGD.out _).mono ?_
              rintro e w7 ⟨rfl, rfl⟩
              go_wp2
              go_loopw [96] (fun i wr3 => ∃ t : Nat, t ≤ j ∧ i = .int .i64 t ∧ Below WO.heap.size WO wr3) (fun i _ => j - (intOf i).toNat)
              case atStart => exact ⟨0, Nat.zero_le _, rfl, Below.refl _ _⟩
              case round =>
                obtain ⟨t, ht, rfl, hBT⟩ := hrel
                have HBT := Lib.hid hBT
                clear x1
                by_cases htl : t < j
                · have htk : t < ls.length := by omega
                  have x2 := HCE.out wr hBT t htk
                  have hqk : ls[t] ∈ m4.seen.map Fl.p := HPM.out.mem_iff.1 (List.getElem_mem htk)
                  obtain ⟨f1, hf1, hf1p⟩ := List.mem_map.1 hqk
                  have hne : ls[t] ≠ ls[j] := fun e => by
                    have := List.pairwise_iff_getElem.1 HPW.out t j htk hjk htl
                    rw [e] at this
                    exact absurd (List.le_refl _) (of_decide_eq_false this)
                  obtain ⟨pt, hpt⟩ : ∃ pt, ls[t] = pt := ⟨_, rfl⟩
                  rw [hpt] at x2 hf1p hne
                  rw [HPJ.out] at hne
                  have hcl : clashL pj pt = false := by
                    have := HJ.out.well.apart f0 HF0.out f1 hf1 (by rw [HFP.out, hf1p]; exact fun e => hne e.symm)
                    rw [HFP.out, hf1p] at this
                    exact this
                  unfold clashL at hcl
                  rw [Bool.or_eq_false_iff] at hcl
                  have hlt2 : pt.length ≤ 100 := by rw [← hf1p]; exact goodL_len (HJ.out.well.good f1 hf1)
                  have HI1 := Lib.hid (fun u => refIn_any pj pt (by omega) (by omega) u)
                  have HI2 := Lib.hid (fun u => refIn_any pt pj (by omega) (by omega) u)
                  rw [hcl.1] at HI1
                  rw [hcl.2] at HI2
                  have v1 : (t : Int) < (j : Int) := by omega
                  have v2 : decide ((t : Int) < (j : Int)) = true := decide_eq_true v1
                  have hw66 : IntKind.i64.wrap ((t : Int) + 1) = (t : Int) + 1 := by rw [IntKind.wrap_i64]; omega
                  clear hqk hf1 hf1p hne hpt hcl
                  go_wp2_with fail
                  refine (HI1.out _).mono ?_
                  rintro e w8 ⟨rfl, rfl⟩
                  go_wp2_with fail
                  refine (HI2.out _).mono ?_
                  rintro e w8 ⟨rfl, rfl⟩
                  go_wp2
                  go_roundw
                  case rel => exact ⟨t + 1, by omega, by go_num, hBT⟩
                  case measure => simp [intOf]; omega
                · have v1 : ¬ (t : Int) < (j : Int) := by omega
                  have v2 : decide ((t : Int) < (j : Int)) = false := decide_eq_false v1
                  go_wp2
                  go_roundw
                  case rel => exact ⟨j + 1, by omega, by go_num, HBJ.out.trans (hBT.mono HBJ.out.size)⟩
                  case measure => simp [intOf]; omega
            · have y1 : ¬ (j : Int) < (lq : Int) := by omega
              have y2 : decide ((j : Int) < (lq : Int)) = false := decide_eq_false y1
              go_wp2
              go_roundw
              case rel => exact ⟨k + 1, by omega, by go_num, _, _, HJ5.out.next hBJ, HB5.out.trans (hBJ.mono HB5.out.size)⟩
              case measure => simp [intOf]; omega
        · subst e7
          clear hc7 hc7l
          have HJ := Lib.hid HIA.out.more
          have HB4 := HBA
          obtain ⟨m4, hm4⟩ : ∃ m4, m = m4 := ⟨_, rfl⟩
          rw [hm4] at HJ
          clear hm4
          have HPT := Lib.hid (dpaths_any HJ.out.disk (HJ.out.ok.mono (by omega)))
          go_wp2_with fail
          rw [HEA.out]
          refine HPT.out.mono ?_
          rintro e w5 ⟨v, ls, rfl, hperm, hpw, hrow, hB5⟩
          obtain ⟨pq, pc, hv⟩ := own_slice hrow
          subst hv
          obtain ⟨lq, hlq⟩ : ∃ lq, ls.length = lq := ⟨_, rfl⟩
          have hls : lq = m4.seen.length := by rw [← hlq, hperm.length_eq, List.length_map]
          have hq64 : lq ≤ 64 := by rw [hls]; have := HJ.out.ok.seen; omega
          have HPM := Lib.hid hperm
          have HPW := Lib.hid hpw
          have HRW := Lib.hid hrow
          have HLQ := Lib.hid hlq
          have HB5 := Lib.hid (HB4.out.trans (hB5.mono HB4.out.size))
          have HJ5 := Lib.hid (HJ.out.next hB5)
          have hz := Below.refl w5.heap.size w5
          obtain ⟨ul, hul⟩ : ∃ ul, usedL m4 = ul := ⟨_, rfl⟩
          have HUR := Lib.hid (show (ul : Int) ≤ (rm : Int) by rw [← hul, ← HJ.out.room]; exact HJ.out.well.used)
          have HU1 := Lib.hid (fun (u : World) (hu : Below w5.heap.size w5 u) => dused_any (HJ5.out.disk.of_below hu) (HJ.out.ok.mono (by omega)))
          have HU3 := Lib.hid (fun (u : World) (hu : Below w5.heap.size w5 u) => droom_any (HJ5.out.disk.of_below hu))
          rw [hul] at HU1
          rw [HJ.out.room] at HU3
          rw [hlq]
          have zu : decide ((rm : Int) < (ul : Int)) = false := decide_eq_false (by have := HUR.out; omega)
          have zu2 : ul ≤ rm := by have := HUR.out; omega
          have zu3 : ¬ rm < ul := by omega
          have zq : decide ((64 : Int) < (lq : Int)) = false := decide_eq_false (by omega)
          clear hperm hpw hrow hlq hls hB5 hul
          try clear g0 g1 g2 g3 g4 g5
          go_wp2_with fail
          refine (HU1.out _ hz).mono ?_
          rintro e w6 ⟨rfl, hB6⟩
          have HBF := Lib.hid hB6
          go_wp2_with fail
          refine (HU3.out _ hB6).mono ?_
          rintro e w7 ⟨rfl, rfl⟩
          clear hB6 hz
          go_wp2
          go_loopw [84] (fun i wr2 => ∃ j : Nat, j ≤ lq ∧ i = .int .i64 j ∧ Below w5.heap.size w5 wr2) (fun i _ => lq - (intOf i).toNat)
          case atStart => exact ⟨0, Nat.zero_le _, rfl, HBF.out⟩
          case round =>
            rename World => WO
            clear HBF zu zq zu2 zu3
            obtain ⟨j, hj, rfl, hBJ⟩ := hrel
            have HBJ := Lib.hid hBJ
            by_cases hjl : j < lq
            · have hjk : j < ls.length := by rw [HLQ.out]; exact hjl
              obtain ⟨g, cap2, hv, _, hgl, hnc, hcs, hfr⟩ := own_full8 (own_below HRW.out hBJ) (by omega)
              injection hv with e1 e2 e3
              subst e1 e3
              have HCE := Lib.hid (fun (u : World) (hu : Below WO.heap.size WO u) i (hi : i < ls.length) => ((hu.cell (p := ⟨g, i, none⟩) hgl).trans (by
                rw [hcs i (by rw [List.length_map]; exact hi), List.getElem?_map, List.getElem?_eq_getElem hi]
                rfl) : u.cell? ⟨g, i, none⟩ = some (.string (mkS ls[i]))))
              have hnc2 : lq ≤ pc := by rw [← HLQ.out]; exact hnc
              have x1 := HCE.out WO (Below.refl _ _) j hjk
              have hpk : ls[j] ∈ m4.seen.map Fl.p := HPM.out.mem_iff.1 (List.getElem_mem hjk)
              obtain ⟨f0, hf0, hf0p⟩ := List.mem_map.1 hpk
              obtain ⟨pj, hpj⟩ : ∃ pj, ls[j] = pj := ⟨_, rfl⟩
              rw [hpj] at x1 hf0p
              have hgood : goodL pj = true := by rw [← hf0p]; exact HJ.out.well.good f0 hf0
              have hlen : pj.length ≤ 100 := goodL_len hgood
              have HGD := Lib.hid (fun u => refGood_any pj (by omega) u)
              rw [hgood] at HGD
              have HPJ := Lib.hid hpj
              have HF0 := Lib.hid hf0
              have HFP := Lib.hid hf0p
              have y1 : (j : Int) < (lq : Int) := by omega
              have y2 : decide ((j : Int) < (lq : Int)) = true := decide_eq_true y1
              have y3 : j ≤ lq := by omega
              have y4 : j ≤ pc := by omega
              have hw65 : IntKind.i64.wrap ((j : Int) + 1) = (j : Int) + 1 := by rw [IntKind.wrap_i64]; omega
              clear hgl hnc hcs hfr hpk hf0 hf0p hpj hgood
              go_wp2_with fail
              refine (HGD.out _).mono ?_
              rintro e w7 ⟨rfl, rfl⟩
              go_wp2
              go_loopw [96] (fun i wr3 => ∃ t : Nat, t ≤ j ∧ i = .int .i64 t ∧ Below WO.heap.size WO wr3) (fun i _ => j - (intOf i).toNat)
              case atStart => exact ⟨0, Nat.zero_le _, rfl, Below.refl _ _⟩
              case round =>
                obtain ⟨t, ht, rfl, hBT⟩ := hrel
                have HBT := Lib.hid hBT
                clear x1
                by_cases htl : t < j
                · have htk : t < ls.length := by omega
                  have x2 := HCE.out wr hBT t htk
                  have hqk : ls[t] ∈ m4.seen.map Fl.p := HPM.out.mem_iff.1 (List.getElem_mem htk)
                  obtain ⟨f1, hf1, hf1p⟩ := List.mem_map.1 hqk
                  have hne : ls[t] ≠ ls[j] := fun e => by
                    have := List.pairwise_iff_getElem.1 HPW.out t j htk hjk htl
                    rw [e] at this
                    exact absurd (List.le_refl _) (of_decide_eq_false this)
                  obtain ⟨pt, hpt⟩ : ∃ pt, ls[t] = pt := ⟨_, rfl⟩
                  rw [hpt] at x2 hf1p hne
                  rw [HPJ.out] at hne
                  have hcl : clashL pj pt = false := by
                    have := HJ.out.well.apart f0 HF0.out f1 hf1 (by rw [HFP.out, hf1p]; exact fun e => hne e.symm)
                    rw [HFP.out, hf1p] at this
                    exact this
                  unfold clashL at hcl
                  rw [Bool.or_eq_false_iff] at hcl
                  have hlt2 : pt.length ≤ 100 := by rw [← hf1p]; exact goodL_len (HJ.out.well.good f1 hf1)
                  have HI1 := Lib.hid (fun u => refIn_any pj pt (by omega) (by omega) u)
                  have HI2 := Lib.hid (fun u => refIn_any pt pj (by omega) (by omega) u)
                  rw [hcl.1] at HI1
                  rw [hcl.2] at HI2
                  have v1 : (t : Int) < (j : Int) := by omega
                  have v2 : decide ((t : Int) < (j : Int)) = true := decide_eq_true v1
                  have hw66 : IntKind.i64.wrap ((t : Int) + 1) = (t : Int) + 1 := by rw [IntKind.wrap_i64]; omega
                  clear hqk hf1 hf1p hne hpt hcl
                  go_wp2_with fail
                  refine (HI1.out _).mono ?_
                  rintro e w8 ⟨rfl, rfl⟩
                  go_wp2_with fail
                  refine (HI2.out _).mono ?_
                  rintro e w8 ⟨rfl, rfl⟩
                  go_wp2
                  go_roundw
                  case rel => exact ⟨t + 1, by omega, by go_num, hBT⟩
                  case measure => simp [intOf]; omega
                · have v1 : ¬ (t : Int) < (j : Int) := by omega
                  have v2 : decide ((t : Int) < (j : Int)) = false := decide_eq_false v1
                  go_wp2
                  go_roundw
                  case rel => exact ⟨j + 1, by omega, by go_num, HBJ.out.trans (hBT.mono HBJ.out.size)⟩
                  case measure => simp [intOf]; omega
            · have y1 : ¬ (j : Int) < (lq : Int) := by omega
              have y2 : decide ((j : Int) < (lq : Int)) = false := decide_eq_false y1
              go_wp2
              go_roundw
              case rel => exact ⟨k + 1, by omega, by go_num, _, _, HJ5.out.next hBJ, HB5.out.trans (hBJ.mono HB5.out.size)⟩
              case measure => simp [intOf]; omega
      · have z1 : ¬ (k : Int) < (n : Int) := by omega
        have z2 : decide ((k : Int) < (n : Int)) = false := decide_eq_false z1
        go_wp2
        go_ret
        exact ⟨rfl, HB.out⟩
end Go.Proofs.YtjglgohchhdkkaaDoor
