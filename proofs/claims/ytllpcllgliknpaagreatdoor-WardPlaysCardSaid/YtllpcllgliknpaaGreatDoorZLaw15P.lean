/- WardPlays. -/
import Derived.Test.YtllpcllgliknpaaGreatDoorKW4
import Derived.Test.YtllpcllgliknpaaGreatDoorKW5
set_option linter.unusedSimpArgs false
set_option maxRecDepth 100000
set_option linter.unusedVariables false
namespace Go.Proofs.YtllpcllgliknpaaGreatDoor
open Go Go.RowKit

attribute [-go_sem] Sha.exec_store
theorem do15_any {w0 u : World} {b : Nat} {s : Ws} {M : List Hr} {q : Option Addr} {n cap : Nat} (h : WpS w0 u b s M q n cap) (hn : n ≤ 900) (a : A15) (hp : a.path.length ≤ 1000) (ht : a.to_.length ≤ 1000) :
    Calls Tryz.prog 6 #[.pointer (some ⟨b, 0, none⟩), .slice q n cap, .agg #[.int .u8 (a.kind : Int), .string (mkS a.path), .string (mkS a.to_), .int .i64 a.a, .int .i64 a.b]] u (DoP w0 b n) := by
  have hk : a.kind % 6 < 6 := Nat.mod_lt _ (by decide)
  have h6 : a.kind % 6 = 0 ∨ a.kind % 6 = 1 ∨ a.kind % 6 = 2 ∨ a.kind % 6 = 3 ∨ a.kind % 6 = 4 ∨ a.kind % 6 = 5 := by omega
  rcases h6 with h6 | h6 | h6 | h6 | h6 | h6
  · exact do15_0 h hn a h6 hp ht
  · exact do15_1 h hn a h6 hp ht
  · exact do15_2 h hn a h6 hp ht
  · exact do15_3 h hn a h6 hp ht
  · exact do15_4 h hn a h6 hp ht
  · exact do15_5 h hn a h6 hp ht
theorem wps_new {w w1 w2 : World} {b mb : Nat} (hB : Below w.heap.size w w1) (h : WdAt w2 b (fun g => w1.heap.size ≤ g) [] mb (fun _ => 0)) (hB2 : Below w1.heap.size w1 w2) : WpS w w2 b [] [] none 0 0 :=
  ⟨fun g => w1.heap.size ≤ g ∧ g < w2.heap.size, mb, _, h.mono fun g h1 h2 => ⟨h2, h1⟩, fun g hg => ⟨Nat.le_trans hB.size hg.1, hg.2⟩,
    .of ⟨List.nodup_nil, fun x hx => (by cases hx)⟩ (fun x hx => (by cases hx)) List.Pairwise.nil (fun x => (by simp [ofW, findW, whyW])) (fun x hx => (by cases hx)), ⟨rfl, LsC.nil _ _, fun _ => rfl, Nat.le_refl _⟩, (fun c o e => (by cases e)), hB.trans (hB2.mono hB.size)⟩
set_option maxRecDepth 100000 in
set_option maxHeartbeats 8000000 in
theorem plays15_any (l : List A15) (p : Option Addr) (n cap : Nat) (w : World) (h : Acs15 w p n cap l) (hn : n < 9223372036854775808) (hT : Tb w) :
    Calls Tryz.prog 3 #[.slice p n cap] w fun e w' => e = .returned (.bool true) ∧ Below w.heap.size w w' := by
  have HAW := Lib.hid (awake15 w)
  by_cases g0 : 60 < n
  · have t0 : decide ((60 : Int) < (n : Int)) = true := decide_eq_true (by omega)
    have t1 : decide (60 < n) = true := decide_eq_true g0
    clear h g0
    go_enter Tryz.func3, Tryz.ntmps3
    go_wp2_with fail
    refine HAW.out.mono ?_
    rintro e w1 ⟨rfl, hB⟩
    have HB := Lib.hid hB
    have HAW2 := Lib.hid (awake15 w1)
    clear hB
    go_wp2_with fail
    refine HAW2.out.mono ?_
    rintro e w2 ⟨rfl, hB⟩
    have HB2 := Lib.hid (HB.out.trans (hB.mono HB.out.size))
    clear hB
    go_wp2
    go_ret
    exact ⟨rfl, HB2.out⟩
  have t0 : decide ((60 : Int) < (n : Int)) = false := decide_eq_false (by omega)
  have t1 : decide (60 < n) = false := decide_eq_false g0
  have HL := Lib.hid h
  have HN := Lib.hid (show n ≤ 60 by omega)
  have HT := Lib.hid hT
  clear h g0 hT
  go_enter Tryz.func3, Tryz.ntmps3
  go_wp2_with fail
  refine HAW.out.mono ?_
  rintro e w1 ⟨rfl, hB⟩
  have HB := Lib.hid hB
  have HNW := Lib.hid (new15_any w1)
  clear hB
  go_wp2_with fail
  refine HNW.out.mono ?_
  rintro e w2 ⟨rfl, hW, hB2⟩
  have HW2 := Lib.hid (wps_new HB.out hW hB2)
  obtain ⟨b, hb⟩ : ∃ b, w1.heap.size + 1 = b := ⟨_, rfl⟩
  rw [hb] at HW2
  rw [hb]
  clear hW hB2 HAW HNW hb
  go_wp2
  go_loopw [4, 20] (fun v4 v20 wr => ∃ k : Nat, k ≤ n ∧ v20 = .int .i64 (k : Int) ∧ ∃ s M q m c, v4 = .slice q m c ∧ WpS w wr b s M q m c ∧ m ≤ k) (fun _ v20 _ => n - (intOf v20).toNat)
  case atStart => exact ⟨0, Nat.zero_le _, rfl, [], [], none, 0, 0, rfl, HW2.out, Nat.le_refl _⟩
  case round =>
    clear HW2
    obtain ⟨k, hk, rfl, s, M, q, m, c, rfl, hW, hmk⟩ := hrel
    have HS := Lib.hid (And.intro hW hmk)
    have HBW := Lib.hid (show Below w.heap.size w wr from by obtain ⟨_, _, _, _, _, _, _, _, h⟩ := hW; exact h)
    clear hW hmk
    by_cases hlt : k < n
    · have z1 : (k : Int) < (n : Int) := by omega
      have z2 : decide ((k : Int) < (n : Int)) = true := decide_eq_true z1
      have z3 : decide (k < n) = true := decide_eq_true hlt
      have z4 : (0 : Int) ≤ (k : Int) := by omega
      have hw64 : IntKind.i64.wrap ((k : Int) + 1) = ((k + 1 : Nat) : Int) := by rw [IntKind.wrap_i64]; have := HN.out; omega
      have hkl : k < l.length := by rw [HL.out.len]; exact hlt
      obtain ⟨a, ha⟩ : ∃ a, l[k] = a := ⟨_, rfl⟩
      obtain ⟨c0, o0, hpe, hF⟩ := (HL.out.of_below HBW.out).cells hkl
      rw [ha] at hF
      have f0 : wr.cell? ⟨c0, o0 + k * 5, none⟩ = some (.int .u8 (a.kind : Int)) := hF 0 _ rfl
      have f1 := hF 1 _ rfl
      have f2 := hF 2 _ rfl
      have f3 := hF 3 _ rfl
      have f4 := hF 4 _ rfl
      obtain ⟨ak, ap, at_, aa, ab⟩ := a
      dsimp only at f0 f1 f2 f3 f4
      obtain ⟨bx, hbx⟩ : ∃ x, wr.heap.size = x := ⟨_, rfl⟩
      obtain ⟨wa, hwa⟩ : ∃ wa, wr.alloc (.cells #[.int .u8 (ak : Int), .string (mkS ap), .string (mkS at_), .int .i64 aa, .int .i64 ab] 28) = wa := ⟨_, rfl⟩
      have hBa : Below wr.heap.size wr wa := by rw [← hwa]; exact (Below.refl _ _).alloc (Nat.le_refl _) _
      have hhb : wa.heap[bx]? = some (.cells #[.int .u8 (ak : Int), .string (mkS ap), .string (mkS at_), .int .i64 aa, .int .i64 ab] 28 (0, 0)) := by rw [← hwa, ← hbx]; exact World.alloc_heap_new _ _
      have g0 : wa.cell? ⟨bx, 0, none⟩ = some (.int .u8 (ak : Int)) := by simp [World.cell?, hhb]
      have g1 : wa.cell? ⟨bx, 1, none⟩ = some (.string (mkS ap)) := by simp [World.cell?, hhb]
      have g2 : wa.cell? ⟨bx, 2, none⟩ = some (.string (mkS at_)) := by simp [World.cell?, hhb]
      have g3 : wa.cell? ⟨bx, 3, none⟩ = some (.int .i64 aa) := by simp [World.cell?, hhb]
      have g4 : wa.cell? ⟨bx, 4, none⟩ = some (.int .i64 ab) := by simp [World.cell?, hhb]
      have HWA := Lib.hid (HS.out.1.next hBa)
      have HBA := Lib.hid (HBW.out.trans (hBa.mono HBW.out.size))
      rw [hpe]
      have HMS := Lib.hid hlt
      have s1 : (mkS ap).size = ap.length := mkS_size ap
      have s2 : (mkS at_).size = at_.length := mkS_size at_
      clear hF hpe ha hBa hlt hkl hk hhb
      by_cases l1 : 200 < ap.length
      · have d1 : decide ((200 : Int) < (ap.length : Int)) = true := decide_eq_true (by omega)
        have d2 : decide (200 < ap.length) = true := decide_eq_true l1
        clear l1
        go_wp2
        go_ret
        exact ⟨rfl, HBA.out⟩
      · have d1 : decide ((200 : Int) < (ap.length : Int)) = false := decide_eq_false (by omega)
        have d2 : decide (200 < ap.length) = false := decide_eq_false l1
        by_cases l2 : 200 < at_.length
        · have d3 : decide ((200 : Int) < (at_.length : Int)) = true := decide_eq_true (by omega)
          have d4 : decide (200 < at_.length) = true := decide_eq_true l2
          clear l1 l2
          go_wp2
          go_ret
          exact ⟨rfl, HBA.out⟩
        · have d3 : decide ((200 : Int) < (at_.length : Int)) = false := decide_eq_false (by omega)
          have d4 : decide (200 < at_.length) = false := decide_eq_false l2
          have HDO := Lib.hid (do15_any HWA.out (by have := HS.out.2; have := HN.out; have := HMS.out; omega) ⟨ak, ap, at_, aa, ab⟩ (by dsimp only; omega) (by dsimp only; omega))
          clear l1 l2
          go_wp2_with fail
          refine HDO.out.mono ?_
          rintro e w5 ⟨q', n', cap', s', M', rfl, hS, hle⟩
          have HS5 := Lib.hid (And.intro hS hle)
          have HIS := Lib.hid (is15_any hS (by have := HS.out.2; have := HN.out; have := HMS.out; omega) (HT.out.on (by obtain ⟨_, _, _, _, _, _, _, _, h⟩ := hS; exact h)))
          clear hS hle HDO f0 f1 f2 f3 f4 g0 g1 g2 g3 g4 hwa
          go_wp2_with fail
          refine HIS.out.mono ?_
          rintro e w6 ⟨rfl, hB6⟩
          have HS6 := Lib.hid (HS5.out.1.next hB6)
          clear hB6 HIS
          go_wp2
          refine ⟨⟨k + 1, HMS.out, rfl, s', M', q', n', cap', rfl, HS6.out, Nat.le_trans HS5.out.2 (Nat.succ_le_succ HS.out.2)⟩, ?_⟩
          simp [intOf]; have := HMS.out; omega
    · obtain rfl : k = n := by omega
      have z1 : ¬ (k : Int) < (k : Int) := by omega
      have z2 : decide ((k : Int) < (k : Int)) = false := decide_eq_false z1
      have z3 : decide (k < k) = false := decide_eq_false hlt
      clear hlt hk
      go_wp2
      go_ret
      exact ⟨rfl, HBW.out⟩
end Go.Proofs.YtllpcllgliknpaaGreatDoor
