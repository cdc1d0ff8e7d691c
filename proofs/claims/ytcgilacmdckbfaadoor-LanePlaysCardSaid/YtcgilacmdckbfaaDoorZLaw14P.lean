/- LanePlays. -/
import Derived.Test.YtcgilacmdckbfaaDoorKL3
import Derived.Test.YtcgilacmdckbfaaDoorAct14
import Derived.Test.YtcgilacmdckbfaaDoorLiftA14
set_option linter.unusedSimpArgs false
set_option maxRecDepth 100000
set_option linter.unusedVariables false
namespace Go.Proofs.YtcgilacmdckbfaaDoor
open Go Go.RowKit

theorem three14 {w : World} {b : Nat} {a0 a1 a2 : Value} {t : TypeId} (h : w.heap[b]? = some (.cells #[a0, a1, a2] t (0, 0))) : w.cell? ⟨b, 0, none⟩ = some a0 ∧ w.cell? ⟨b, 1, none⟩ = some a1 ∧ w.cell? ⟨b, 2, none⟩ = some a2 := by
  refine ⟨?_, ?_, ?_⟩ <;> simp [World.cell?, h]
abbrev TA14 : TypeId := 30
set_option maxRecDepth 100000 in
set_option maxHeartbeats 8000000 in
theorem plays14_any (l : List A14) (p : Option Addr) (n cap : Nat) (w : World) (h : Acs14 w p n cap l) (hn : n < 9223372036854775808) (hx : ∀ x ∈ l, ActOk14 x) :
    Calls Tryd.prog 3 #[.slice p n cap] w fun e w' => e = .returned (.bool true) ∧ Below w.heap.size w w' := by
  have HAW := Lib.hid (awake14 w)
  by_cases g0 : 60 < n
  · have t0 : decide ((60 : Int) < (n : Int)) = true := decide_eq_true (by omega)
    have t1 : decide (60 < n) = true := decide_eq_true g0
    clear h g0 hx
    go_enter Tryd.func3, Tryd.ntmps3
    go_wp2_with fail
    refine HAW.out.mono ?_
    rintro e w1 ⟨rfl, hB⟩
    have HB := Lib.hid hB
    have HAW2 := Lib.hid (awake14 w1)
    clear hB
    go_wp2_with fail
    refine HAW2.out.mono ?_
    rintro e w2 ⟨rfl, hB⟩
    have HB2 := Lib.hid (HB.out.trans (hB.mono HB.out.size))
    clear hB
    go_wp2
    go_ret
    exact ⟨rfl, HB2.out⟩
  have t0 : decide ((60 : Int) < (n : Int)) = false := decide_eq_false (by omega)
  have t1 : decide (60 < n) = false := decide_eq_false g0
  have HL := Lib.hid h
  have HXS := Lib.hid hx
  have HN60 := Lib.hid (show n ≤ 60 by omega)
  clear h g0 hx
  go_enter Tryd.func3, Tryd.ntmps3
  go_wp2_with fail
  refine HAW.out.mono ?_
  rintro e w1 ⟨rfl, hB⟩
  have HB1 := Lib.hid hB
  have HNW := Lib.hid (new14_any w1)
  clear hB
  go_wp2_with fail
  refine HNW.out.mono ?_
  rintro e w2 ⟨rfl, hL2, hB2⟩
  obtain ⟨b, hb⟩ : ∃ b, w1.heap.size = b := ⟨_, rfl⟩
  obtain ⟨bm, hbm⟩ : ∃ bm, w2.heap.size = bm := ⟨_, rfl⟩
  obtain ⟨w3, hw3⟩ : ∃ w3, w2.alloc (.cells #[.slice none 0 0, .int .i64 0] TL14) = w3 := ⟨_, rfl⟩
  have hS3 : LpS w w3 b bm (fun g => w1.heap.size ≤ g ∧ g < w2.heap.size) ln0 [] := by
    have hB3 : Below w2.heap.size w2 w3 := by rw [← hw3]; exact (Below.refl _ _).alloc (Nat.le_refl _) _
    have hs1 := HB1.out.size
    have hs2 := hB2.size
    have hs3 := hB3.size
    rw [← hb, ← hbm]
    refine ⟨(hL2.mono (fun g h1 h2 => ⟨h2, h1⟩)).of_new hB3, fun g hg => ⟨by omega, by omega⟩, (HB1.out.trans (hB2.mono hs1)).trans (hB3.mono (by omega)), ⟨none, 0, by rw [← hw3]; exact World.alloc_heap_new _ _, fun z _ => ⟨rfl, LsC.nil _ _, fun _ => rfl, Nat.le_refl _⟩⟩, fun hc => Nat.lt_irrefl _ hc.2, by omega⟩
  have HS3 := Lib.hid hS3
  clear hL2 hB2 hS3 HAW HNW
  rw [hb]
  clear hb
  go_wp2
  go_loopw [26] (fun v wr => ∃ k : Nat, k ≤ n ∧ v = .int .i64 (k : Int) ∧ ∃ F s M, LpS w wr b bm F s M ∧ LpI s M k) (fun v _ => n - (intOf v).toNat)
  case atStart => exact ⟨0, Nat.zero_le _, rfl, _, _, _, HS3.out, LpI.zero⟩
  case round =>
    obtain ⟨k, hk, rfl, F, s, M, hS, hI⟩ := hrel
    have HS := Lib.hid hS
    have HI := Lib.hid hI
    clear hS hI HS3 hbm hw3
    by_cases hlt : k < n
    · have z1 : (k : Int) < (n : Int) := by omega
      have z2 : decide ((k : Int) < (n : Int)) = true := decide_eq_true z1
      have z3 : decide (k < n) = true := decide_eq_true hlt
      have z4 : (0 : Int) ≤ (k : Int) := by omega
      have hw64 : IntKind.i64.wrap ((k : Int) + 1) = ((k + 1 : Nat) : Int) := by rw [IntKind.wrap_i64]; have := HN60.out; omega
      have HNK := Lib.hid (show k + 1 ≤ n by omega)
      have HNN := Lib.hid (show k ≤ 60 by have := HN60.out; omega)
      have hkl : k < l.length := by rw [HL.out.len]; exact hlt
      obtain ⟨x, hx⟩ : ∃ x, l[k] = x := ⟨_, rfl⟩
      have hxo : ActOk14 x := by rw [← hx]; exact HXS.out _ (List.getElem_mem hkl)
      obtain ⟨c0, o0, hpe, hF⟩ := (HL.out.of_below HS.out.bel).cells hkl
      rw [hx] at hF
      have f0 : wr.cell? ⟨c0, o0 + k * 3, none⟩ = some (.int .u8 (x.kind : Int)) := hF 0 _ rfl
      have f1 := hF 1 _ rfl
      have f2 := hF 2 _ rfl
      obtain ⟨wa, hwa⟩ : ∃ wa, wr.alloc (.cells #[.int .u8 (x.kind : Int), .string (mkS x.path), .int .i64 x.n] TA14) = wa := ⟨_, rfl⟩
      obtain ⟨ab, hab⟩ : ∃ ab, wr.heap.size = ab := ⟨_, rfl⟩
      have hBa : Below wr.heap.size wr wa := by rw [← hwa]; exact (Below.refl _ _).alloc (Nat.le_refl _) _
      have haa : wa.heap[ab]? = some (.cells #[.int .u8 (x.kind : Int), .string (mkS x.path), .int .i64 x.n] TA14 (0, 0)) := by rw [← hwa, ← hab]; exact World.alloc_heap_new _ _
      obtain ⟨a0, a1, a2⟩ := three14 haa
      have hSa := HS.out.next hBa
      have HSA := Lib.hid hSa
      have hbml : bm < ab := by
        obtain ⟨q, cap, h1, -⟩ := HS.out.bx
        rw [← hab]
        exact (Array.getElem?_eq_some_iff.1 h1).1
      have HAB := Lib.hid (And.intro haa (And.intro hbml hab))
      rw [hpe]
      clear hF hpe hx hBa hSa haa hkl hlt hk hbml
      by_cases hp : 200 < x.path.length
      · have p1 : decide (200 < x.path.length) = true := decide_eq_true hp
        have p2 : decide ((200 : Int) < (x.path.length : Int)) = true := decide_eq_true (by omega)
        clear hp
        go_wp2
        go_ret
        exact ⟨rfl, HSA.out.bel⟩
      have p1 : decide (200 < x.path.length) = false := decide_eq_false hp
      have p2 : decide ((200 : Int) < (x.path.length : Int)) = false := decide_eq_false (by omega)
      have HX := Lib.hid (show x.path.length ≤ 200 ∧ -9223372036854775808 ≤ x.n ∧ x.n < 9223372036854775808 from ⟨by omega, hxo.2.2⟩)
      have hkd : x.kind % 4 = 0 ∨ x.kind % 4 = 1 ∨ x.kind % 4 = 2 ∨ x.kind % 4 = 3 := by omega
      have HKB := Lib.hid hxo.1
      obtain ⟨q, cap, bxa, hold⟩ := HSA.out.bx
      obtain ⟨k0, k1, -, -⟩ := twoCells bxa
      have BXA := Lib.hid bxa
      clear hp hxo bxa
      rcases hkd with hkd | hkd | hkd | hkd
      · have r1 : (x.kind : Int) % 4 = 0 := by omega
        clear hkd
        have hr := hold _ (KpF.refl _ _)
        have hnd := HI.out.rel.nd
        have HRP := Lib.hid (refPut_any (s.clock : Int) x.path x.n HX.out.2.1 HX.out.2.2 (by have := HX.out.1; omega) hr (by have := HI.out.len; have := HNN.out; omega) hnd)
        have HOLD := Lib.hid hold
        clear hr hnd hold
        go_wp2_with fail
        refine HRP.out.mono ?_
        rintro e w5 ⟨q5, n5, cap5, rfl, hr5, hB5, hnw5⟩
        have hold5 := HSA.out.newL hB5 HOLD.out hr5 hnw5
        obtain rfl : (putR M x.path x.n).length = n5 := hr5.1
        obtain ⟨M5, hM5⟩ : ∃ M5, putR M x.path x.n = M5 := ⟨_, rfl⟩
        rw [hM5] at hold5
        have HM5 := Lib.hid hM5
        have hS6 := HSA.out.store hB5 hold5 (ck := s.clock) (s' := s) rfl (fun v hv => hv)
        rw [hM5]
        have hne : ab ≠ bm := by have := HAB.out.2; omega
        have hab5 := (hB5.block ab (Array.getElem?_eq_some_iff.1 HAB.out.1).1).trans HAB.out.1
        obtain ⟨v0, v1, v2⟩ := three14 hab5
        obtain ⟨q0', cap0', bx5, -⟩ := (HSA.out.next hB5).bx
        obtain ⟨j0, j1, j2, j3⟩ := twoCells bx5
        obtain ⟨w6, hw6⟩ : ∃ w6, (w5.setCell ⟨bm, 0, none⟩ (.slice q5 M5.length cap5)).setCell ⟨bm, 1, none⟩ (.int .i64 (s.clock : Int)) = w6 := ⟨_, rfl⟩
        rw [hw6] at hS6
        have hab6 : w6.heap[ab]? = some (.cells #[.int .u8 (x.kind : Int), .string (mkS x.path), .int .i64 x.n] TA14 (0, 0)) := by
          rw [← hw6, setOff14 hne, setOff14 hne]; exact hab5
        obtain ⟨x0, x1, x2⟩ := three14 hab6
        have HPT := Lib.hid (put_any hS6.ln HI.out.okLn (by have := HI.out.lens; have := HNN.out; omega) x.path (by have := HX.out.1; omega) x.n HX.out.2.1 HX.out.2.2)
        have HS6 := Lib.hid hS6
        obtain ⟨c5, hc5⟩ : ∃ c, putC x.path x.n = c := ⟨_, rfl⟩
        rw [hc5]
        have HC5 := Lib.hid hc5
        clear hold5 hr5 hB5 hnw5 hS6 hab5 hab6 bx5 hM5 hne hc5
        go_wp2_with fail
        refine HPT.out.mono ?_
        rintro e w7 ⟨he, hL7, hK7⟩
        rw [HC5.out] at he
        subst he
        have hck7 : (putS s x.path x.n).clock = s.clock := by unfold putS; split <;> rfl
        have HS7 := Lib.hid (HS6.out.call hL7 hK7 hck7)
        have hI7 := HI.out.put x.path x.n
        rw [HM5.out] at hI7
        have HI7 := Lib.hid hI7
        obtain ⟨s7, hs7⟩ : ∃ s7, putS s x.path x.n = s7 := ⟨_, rfl⟩
        rw [hs7] at HS7 HI7
        clear hL7 hK7 hI7 hck7 hs7 hw6 x0 x1 x2 v0 v1 v2 j0 j1 j2 j3 k0 k1
        obtain ⟨q7, cap7, bx7, hold7⟩ := HS7.out.bx
        obtain ⟨t0, t1, -, -⟩ := twoCells bx7
        have hl7 := HI7.out.len
        have HIS := Lib.hid (isTrue_any HS7.out.ln (hold7 _ (KpF.refl _ _)) HI7.out.rel (fun x hx => (HI7.out.om x hx).1) (fun x hx => (HI7.out.om x hx).2.1) (by have := HNN.out; omega))
        clear bx7 hold7 hl7
        go_wp2_with fail
        refine HIS.out.mono ?_
        rintro e w8 ⟨rfl, hB8⟩
        have HS8 := Lib.hid (HS7.out.next hB8)
        clear hB8 t0 t1
        go_wp2
        exact ⟨⟨k + 1, HNK.out, rfl, _, _, _, HS8.out, HI7.out⟩, by simp [intOf]; have := HNK.out; omega⟩
      · have r1 : (x.kind : Int) % 4 = 1 := by omega
        clear hkd
        have hr := hold _ (KpF.refl _ _)
        have hnd := HI.out.rel.nd
        have HRP := Lib.hid (refPut_any (s.clock : Int) x.path x.n HX.out.2.1 HX.out.2.2 (by have := HX.out.1; omega) hr (by have := HI.out.len; have := HNN.out; omega) hnd)
        have HOLD := Lib.hid hold
        clear hr hnd hold
        go_wp2_with fail
        refine HRP.out.mono ?_
        rintro e w5 ⟨q5, n5, cap5, rfl, hr5, hB5, hnw5⟩
        have hold5 := HSA.out.newL hB5 HOLD.out hr5 hnw5
        obtain rfl : (putR M x.path x.n).length = n5 := hr5.1
        obtain ⟨M5, hM5⟩ : ∃ M5, putR M x.path x.n = M5 := ⟨_, rfl⟩
        rw [hM5] at hold5
        have HM5 := Lib.hid hM5
        have hS6 := HSA.out.store hB5 hold5 (ck := s.clock) (s' := s) rfl (fun v hv => hv)
        rw [hM5]
        have hne : ab ≠ bm := by have := HAB.out.2; omega
        have hab5 := (hB5.block ab (Array.getElem?_eq_some_iff.1 HAB.out.1).1).trans HAB.out.1
        obtain ⟨v0, v1, v2⟩ := three14 hab5
        obtain ⟨q0', cap0', bx5, -⟩ := (HSA.out.next hB5).bx
        obtain ⟨j0, j1, j2, j3⟩ := twoCells bx5
        obtain ⟨w6, hw6⟩ : ∃ w6, (w5.setCell ⟨bm, 0, none⟩ (.slice q5 M5.length cap5)).setCell ⟨bm, 1, none⟩ (.int .i64 (s.clock : Int)) = w6 := ⟨_, rfl⟩
        rw [hw6] at hS6
        have hab6 : w6.heap[ab]? = some (.cells #[.int .u8 (x.kind : Int), .string (mkS x.path), .int .i64 x.n] TA14 (0, 0)) := by
          rw [← hw6, setOff14 hne, setOff14 hne]; exact hab5
        obtain ⟨x0, x1, x2⟩ := three14 hab6
        have HPT := Lib.hid (put_any hS6.ln HI.out.okLn (by have := HI.out.lens; have := HNN.out; omega) x.path (by have := HX.out.1; omega) x.n HX.out.2.1 HX.out.2.2)
        have HS6 := Lib.hid hS6
        obtain ⟨c5, hc5⟩ : ∃ c, putC x.path x.n = c := ⟨_, rfl⟩
        rw [hc5]
        have HC5 := Lib.hid hc5
        clear hold5 hr5 hB5 hnw5 hS6 hab5 hab6 bx5 hM5 hne hc5
        go_wp2_with fail
        refine HPT.out.mono ?_
        rintro e w7 ⟨he, hL7, hK7⟩
        rw [HC5.out] at he
        subst he
        have hck7 : (putS s x.path x.n).clock = s.clock := by unfold putS; split <;> rfl
        have HS7 := Lib.hid (HS6.out.call hL7 hK7 hck7)
        have hI7 := HI.out.put x.path x.n
        rw [HM5.out] at hI7
        have HI7 := Lib.hid hI7
        obtain ⟨s7, hs7⟩ : ∃ s7, putS s x.path x.n = s7 := ⟨_, rfl⟩
        rw [hs7] at HS7 HI7
        clear hL7 hK7 hI7 hck7 hs7 hw6 x0 x1 x2 v0 v1 v2 j0 j1 j2 j3 k0 k1
        obtain ⟨q7, cap7, bx7, hold7⟩ := HS7.out.bx
        obtain ⟨t0, t1, -, -⟩ := twoCells bx7
        have hl7 := HI7.out.len
        have HIS := Lib.hid (isTrue_any HS7.out.ln (hold7 _ (KpF.refl _ _)) HI7.out.rel (fun x hx => (HI7.out.om x hx).1) (fun x hx => (HI7.out.om x hx).2.1) (by have := HNN.out; omega))
        clear bx7 hold7 hl7
        go_wp2_with fail
        refine HIS.out.mono ?_
        rintro e w8 ⟨rfl, hB8⟩
        have HS8 := Lib.hid (HS7.out.next hB8)
        clear hB8 t0 t1
        go_wp2
        exact ⟨⟨k + 1, HNK.out, rfl, _, _, _, HS8.out, HI7.out⟩, by simp [intOf]; have := HNK.out; omega⟩
      · have r1 : (x.kind : Int) % 4 = 2 := by omega
        clear hkd
        have hr := hold _ (KpF.refl _ _)
        have hnd := HI.out.rel.nd
        have HRP := Lib.hid (refDrop_any (s.clock : Int) x.path hr (by have := HI.out.len; have := HNN.out; omega) hnd)
        have HOLD := Lib.hid hold
        clear hr hnd hold
        go_wp2_with fail
        refine HRP.out.mono ?_
        rintro e w5 ⟨q5, n5, cap5, rfl, hr5, hB5, hnw5⟩
        have hold5 := HSA.out.newL hB5 HOLD.out hr5 hnw5
        obtain rfl : (dropR M x.path).length = n5 := hr5.1
        obtain ⟨M5, hM5⟩ : ∃ M5, dropR M x.path = M5 := ⟨_, rfl⟩
        rw [hM5] at hold5
        have HM5 := Lib.hid hM5
        have hS6 := HSA.out.store hB5 hold5 (ck := s.clock) (s' := s) rfl (fun v hv => hv)
        rw [hM5]
        have hne : ab ≠ bm := by have := HAB.out.2; omega
        have hab5 := (hB5.block ab (Array.getElem?_eq_some_iff.1 HAB.out.1).1).trans HAB.out.1
        obtain ⟨v0, v1, v2⟩ := three14 hab5
        obtain ⟨q0', cap0', bx5, -⟩ := (HSA.out.next hB5).bx
        obtain ⟨j0, j1, j2, j3⟩ := twoCells bx5
        obtain ⟨w6, hw6⟩ : ∃ w6, (w5.setCell ⟨bm, 0, none⟩ (.slice q5 M5.length cap5)).setCell ⟨bm, 1, none⟩ (.int .i64 (s.clock : Int)) = w6 := ⟨_, rfl⟩
        rw [hw6] at hS6
        have hab6 : w6.heap[ab]? = some (.cells #[.int .u8 (x.kind : Int), .string (mkS x.path), .int .i64 x.n] TA14 (0, 0)) := by
          rw [← hw6, setOff14 hne, setOff14 hne]; exact hab5
        obtain ⟨x0, x1, x2⟩ := three14 hab6
        have HPT := Lib.hid (drop_any hS6.ln HI.out.okLn (by have := HI.out.lens; have := HNN.out; omega) x.path)
        have HS6 := Lib.hid hS6
        have HDC := Lib.hid (HI.out.dropC x.path)
        obtain ⟨c5, hc5⟩ : ∃ c, dropC M x.path = c := ⟨_, rfl⟩
        rw [hc5]
        have HC5 := Lib.hid hc5
        have HAB6 := Lib.hid hab6
        clear hold5 hr5 hB5 hnw5 hS6 hab5 hab6 bx5 hM5 hne hc5
        go_wp2_with fail
        refine HPT.out.mono ?_
        rintro e w7 ⟨he, hL7, hK7⟩
        rw [HDC.out, HC5.out] at he
        subst he
        have hS7 := HS6.out.call hL7 hK7 rfl
        have hI7 := (HI.out.drop x.path).more
        rw [HM5.out] at hI7
        have hab7 := (hK7.block ab (Array.getElem?_eq_some_iff.1 HAB6.out).1 (fun hf => by have := (HS.out.fl ab hf).2; have := HAB.out.2; omega)).trans HAB6.out
        obtain ⟨y0, y1, y2⟩ := three14 hab7
        have hls := last_any hS7.ln (by have := HI.out.drop x.path |>.lens; have := HNN.out; omega) x.path
        rw [(last_gone s x.path).1, (last_gone s x.path).2] at hls
        have HLS := Lib.hid hls
        have HS7' := Lib.hid hS7
        have HI7 := Lib.hid hI7
        clear hL7 hK7 hI7 hw6 x0 x1 x2 v0 v1 v2 j0 j1 j2 j3 k0 k1 hS7 hls hab7
        go_wp2_with fail
        refine HLS.out.mono ?_
        rintro e w7' ⟨rfl, hB7⟩
        have HS7 := Lib.hid (HS7'.out.next hB7)
        clear hB7 y0 y1 y2
        obtain ⟨q7, cap7, bx7, hold7⟩ := HS7.out.bx
        obtain ⟨t0, t1, -, -⟩ := twoCells bx7
        have hl7 := HI7.out.len
        have HIS := Lib.hid (isTrue_any HS7.out.ln (hold7 _ (KpF.refl _ _)) HI7.out.rel (fun x hx => (HI7.out.om x hx).1) (fun x hx => (HI7.out.om x hx).2.1) (by have := HNN.out; omega))
        clear bx7 hold7 hl7
        go_wp2_with fail
        refine HIS.out.mono ?_
        rintro e w8 ⟨rfl, hB8⟩
        have HS8 := Lib.hid (HS7.out.next hB8)
        clear hB8 t0 t1
        go_wp2
        exact ⟨⟨k + 1, HNK.out, rfl, _, _, _, HS8.out, HI7.out⟩, by simp [intOf]; have := HNK.out; omega⟩
      · have r1 : (x.kind : Int) % 4 = 3 := by omega
        clear hkd
        cases hbad : badB x.n with
        | true =>
          have HOLD := Lib.hid hold
          have HRP := Lib.hid (refTickBad_any (s.clock : Int) (hold _ (KpF.refl _ _)) x.n hbad)
          have HTB := Lib.hid (fun u => tick_bad b u x.n hbad)
          clear hold hbad
          go_wp2_with fail
          refine HRP.out.mono ?_
          rintro e w5 ⟨rfl, hB5⟩
          obtain ⟨w6, hw6⟩ : ∃ w6, w5.alloc (.cells #[.slice q M.length cap, .int .i64 (s.clock : Int)] TL14) = w6 := ⟨_, rfl⟩
          obtain ⟨nb, hnb⟩ : ∃ nb, w5.heap.size = nb := ⟨_, rfl⟩
          have hB6 : Below w5.heap.size w5 w6 := by rw [← hw6]; exact (Below.refl _ _).alloc (Nat.le_refl _) _
          have hn6 : w6.heap[nb]? = some (.cells #[.slice q M.length cap, .int .i64 (s.clock : Int)] TL14 (0, 0)) := by rw [← hw6, ← hnb]; exact World.alloc_heap_new _ _
          have hBB := hB5.trans (hB6.mono hB5.size)
          have hab6 := (hBB.block ab (Array.getElem?_eq_some_iff.1 HAB.out.1).1).trans HAB.out.1
          obtain ⟨v0, v1, v2⟩ := three14 hab6
          have hS6 := HSA.out.next hBB
          have HS6 := Lib.hid (And.intro hS6 (And.intro hn6 hBB))
          have hsm := isSame_any (w := w6) (p1 := none) (p2 := none) (n := 0) (cap1 := 0) (cap2 := 0) (ws := []) (LsC.nil _ _) (LsC.nil _ _) rfl (by omega) (Nat.le_refl _) (Nat.le_refl _)
          have HSM := Lib.hid hsm
          clear hB5 hB6 hn6 hBB hab6 hS6 hsm
          go_wp2_with fail
          refine (HTB.out w6).mono ?_
          rintro e w6' ⟨rfl, rfl⟩
          clear hw6 hnb v0 v1 v2
          go_wp2_with fail
          refine HSM.out.mono ?_
          rintro e w7 ⟨rfl, hB7⟩
          have hn7 := (hB7.block nb (Array.getElem?_eq_some_iff.1 HS6.out.2.1).1).trans HS6.out.2.1
          obtain ⟨n0, n1, -, -⟩ := twoCells hn7
          have hS7 := HS6.out.1.next hB7
          obtain ⟨q0', cap0', bx7', -⟩ := hS7.bx
          obtain ⟨j0, j1, j2, j3⟩ := twoCells bx7'
          have hst := HSA.out.store (HS6.out.2.2.trans (hB7.mono HS6.out.2.2.size)) (q' := q) (cap' := cap) (M' := M) (ck := s.clock) (s' := s) (fun z hz => HOLD.out z ((KpF.of_new (HS6.out.2.2.trans (hB7.mono HS6.out.2.2.size))).trans hz)) rfl (fun v hv => hv)
          have HS7 := Lib.hid hst
          have HI7 := Lib.hid HI.out.more
          obtain ⟨w9, hw9⟩ : ∃ w9, (w7.setCell ⟨bm, 0, none⟩ (.slice q M.length cap)).setCell ⟨bm, 1, none⟩ (.int .i64 (s.clock : Int)) = w9 := ⟨_, rfl⟩
          rw [hw9] at HS7
          clear hB7 hn7 hS7 bx7' hst k0 k1
          obtain ⟨q7, cap7, bx7, hold7⟩ := HS7.out.bx
          obtain ⟨t0, t1, -, -⟩ := twoCells bx7
          have hl7 := HI7.out.len
          have HIS := Lib.hid (isTrue_any HS7.out.ln (hold7 _ (KpF.refl _ _)) HI7.out.rel (fun x hx => (HI7.out.om x hx).1) (fun x hx => (HI7.out.om x hx).2.1) (by have := HNN.out; omega))
          clear bx7 hold7 hl7
          go_wp2_with fail
          refine HIS.out.mono ?_
          rintro e w8 ⟨rfl, hB8⟩
          have HS8 := Lib.hid (HS7.out.next hB8)
          clear hB8 t0 t1
          go_wp2
          exact ⟨⟨k + 1, HNK.out, rfl, _, _, _, HS8.out, HI7.out⟩, by simp [intOf]; have := HNK.out; omega⟩
        | false =>
          have hgood := hbad
          clear hbad
          obtain ⟨h, h1, h2, hz⟩ := good_half hgood
          have HRP := Lib.hid (refTick_any (fun g => F g ∨ g = bm) (fun g hg => by rcases hg with hg | hg; exact (HSA.out.fl g hg).2; exact hg ▸ (Array.getElem?_eq_some_iff.1 BXA.out).1) hold HI.out.rel HI.out.om (by have := HI.out.len; have := HNN.out; omega) HI.out.srt HI.out.tk (by have := HI.out.ck; have := HNN.out; omega) x.n h h1 h2 hz)
          have HTG := Lib.hid (fun (u : World) (hu : LnAt u b F s) => tick_go hu HI.out.okE HI.out.okS (by have := HI.out.lens; have := HNN.out; omega) (by have := HI.out.ck; have := HNN.out; omega) x.n h h1 h2 hz)
          clear hold hgood h1 h2 hz
          go_wp2_with fail
          refine HRP.out.mono ?_
          rintro e w5 ⟨q5, cap5, M5, v5, rfl, hold5, hq5, ho5, hO5, hB5⟩
          have hl5 := (hold5 _ (KpF.refl _ _)).1
          obtain ⟨ck, hck⟩ : ∃ c, s.clock + 1 = c := ⟨_, rfl⟩
          rw [hck]
          have HCK := Lib.hid hck
          clear hck
          obtain ⟨w6, hw6⟩ : ∃ w6, w5.alloc (.cells #[.slice q5 M.length cap5, .int .i64 (ck : Int)] TL14) = w6 := ⟨_, rfl⟩
          obtain ⟨nb, hnb⟩ : ∃ nb, w5.heap.size = nb := ⟨_, rfl⟩
          have hB6 : Below w5.heap.size w5 w6 := by rw [← hw6]; exact (Below.refl _ _).alloc (Nat.le_refl _) _
          have hn6 : w6.heap[nb]? = some (.cells #[.slice q5 M.length cap5, .int .i64 (ck : Int)] TL14 (0, 0)) := by rw [← hw6, ← hnb]; exact World.alloc_heap_new _ _
          have hBB := hB5.trans (hB6.mono hB5.size)
          have hab6 := (hBB.block ab (Array.getElem?_eq_some_iff.1 HAB.out.1).1).trans HAB.out.1
          obtain ⟨y0, y1, y2⟩ := three14 hab6
          have hS6 := HSA.out.next hBB
          have hTG := HTG.out w6 hS6.ln
          obtain ⟨p5, kk5, e5, -⟩ := own_shape hO5
          subst e5
          have HS6 := Lib.hid (And.intro hS6 (And.intro hn6 (And.intro hBB (And.intro hnb (And.intro hB6 hB5)))))
          have H5 := Lib.hid (And.intro hold5 (And.intro hq5 (And.intro ho5 (And.intro hO5 hl5))))
          have HTG6 := Lib.hid hTG
          clear hB5 hB6 hn6 hBB hab6 hS6 hTG hold5 hq5 ho5 hO5 hl5
          go_wp2_with fail
          refine HTG6.out.mono ?_
          rintro e w7 ⟨v7, ns, rfl, hO7, hpn, hby, hL7, hK7⟩
          clear hw6 hnb y0 y1 y2 HTG6 HTG HRP
          obtain ⟨p7, kk7, e7, hls7, -, hle7, -⟩ := own_shape hO7
          subst e7
          have hO57 : w7.ownsRow wa.heap.size EWr 5 (.slice p5 (tickOut s h).length kk5) (tickOut s h).length (wksC (tickOut s h)) := own_keep H5.out.2.2.2.1 fun g hg => by
            have hg1 := H5.out.2.2.2.1.lt g hg
            rw [hK7.block g (by have := HS6.out.2.2.2.2.1.size; omega) (fun hf => by have := (HSA.out.fl g hf).2; omega), HS6.out.2.2.2.2.1.block g hg1.2]
          obtain ⟨p5', kk5', e5', hls5, -, hle5, -⟩ := own_shape hO57
          injection e5' with e51 e52 e53
          subst e51 e53
          obtain ⟨m, hm⟩ : ∃ m, (tickOut s h).length = m := ⟨_, rfl⟩
          have hmb : m ≤ 10000 := by
            rw [← hm]
            unfold tickOut
            rw [List.length_append]
            have a1 := workL_out_le (s.clock + 1) true s.en h
            have a2 := workL_out_le (s.clock + 1) false s.sc ((tickA s h).left + h)
            have a3 := HI.out.lens
            have a4 := HNN.out
            unfold tickB
            unfold tickA at *
            omega
          rw [hm] at hle5 hle7
          rw [hm]
          have HSM := Lib.hid (isSame_any hls7 hls5 hm (by omega) hle7 hle5)
          have H7 := Lib.hid (And.intro hpn (And.intro hby (And.intro hL7 hK7)))
          have hn7 := (hK7.block nb (Array.getElem?_eq_some_iff.1 HS6.out.2.1).1 (fun hf => by have h1 := (HSA.out.fl nb hf).2; have h2 := HS6.out.2.2.2.2.2.size; have h3 := HS6.out.2.2.2.1; omega)).trans HS6.out.2.1
          have HN7 := Lib.hid hn7
          clear hO7 hpn hby hL7 hK7 hls7 hle7 hO57 hls5 hle5 hn7 hm hmb e52
          go_wp2_with fail
          refine HSM.out.mono ?_
          rintro e w8' ⟨rfl, hB8⟩
          have hn8 := (hB8.block nb (Array.getElem?_eq_some_iff.1 HN7.out).1).trans HN7.out
          obtain ⟨n0, n1, -, -⟩ := twoCells hn8
          have hst := LpS.tick HS6.out.1 H7.out.2.2.1 H7.out.2.2.2 hB8 (q' := q5) (cap' := cap5) (M' := M5) (ck := ck) (fun z hz => by rw [H5.out.2.2.2.2]; exact H5.out.1 z ((KpF.of_new HS6.out.2.2.2.2.1).trans (hz.mono fun _ _ hc => .inr hc))) HCK.out.symm
          rw [H5.out.2.2.2.2] at hst
          have HS7 := Lib.hid hst
          have HI7 := Lib.hid (HI.out.tick h H5.out.2.1 H5.out.2.2.1 H5.out.2.2.2.2 H7.out.1 H7.out.2.1)
          obtain ⟨q0', cap0', bx8', -⟩ := (HS6.out.1.tick0 H7.out.2.2.2 hB8)
          obtain ⟨j0, j1, j2, j3⟩ := twoCells bx8'
          obtain ⟨w9, hw9⟩ : ∃ w9, (w8'.setCell ⟨bm, 0, none⟩ (.slice q5 M.length cap5)).setCell ⟨bm, 1, none⟩ (.int .i64 (ck : Int)) = w9 := ⟨_, rfl⟩
          rw [hw9] at HS7
          clear hB8 hn8 bx8' hst k0 k1
          obtain ⟨q7, cap7, bx7, hold7⟩ := HS7.out.bx
          obtain ⟨t0, t1, -, -⟩ := twoCells bx7
          have hl7 := HI7.out.len
          have HIS := Lib.hid (isTrue_any HS7.out.ln (hold7 _ (KpF.refl _ _)) HI7.out.rel (fun x hx => (HI7.out.om x hx).1) (fun x hx => (HI7.out.om x hx).2.1) (by have := HNN.out; omega))
          clear bx7 hold7 hl7
          go_wp2_with fail
          refine HIS.out.mono ?_
          rintro e w8 ⟨rfl, hB8⟩
          have HS8 := Lib.hid (HS7.out.next hB8)
          clear hB8 t0 t1
          go_wp2
          exact ⟨⟨k + 1, HNK.out, rfl, _, _, _, HS8.out, HI7.out⟩, by simp [intOf]; have := HNK.out; omega⟩
    · obtain rfl : k = n := by omega
      have z1 : ¬ (k : Int) < (k : Int) := by omega
      have z2 : decide ((k : Int) < (k : Int)) = false := decide_eq_false z1
      have z3 : decide (k < k) = false := decide_eq_false hlt
      clear hlt hk
      go_wp2
      go_ret
      exact ⟨rfl, HS.out.bel⟩
end Go.Proofs.YtcgilacmdckbfaaDoor
