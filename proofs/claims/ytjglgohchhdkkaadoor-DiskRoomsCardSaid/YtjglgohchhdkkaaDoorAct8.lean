/- Acts as an argument; short. -/
import Derived.Test.YtjglgohchhdkkaaDoorLsg8
import Derived.Test.YtjglgohchhdkkaaDoorRef7
import Derived.Test.YtjglgohchhdkkaaDoorDsk8
set_option linter.unusedSimpArgs false
set_option linter.unusedVariables false
namespace Go.Proofs.YtjglgohchhdkkaaDoor
open Go Go.RowKit

theorem i64t (x : Nat) (h : x < 9223372036854775807) : IntKind.i64.wrap ((x : Int) + 1) = (x : Int) + 1 := by rw [IntKind.wrap_i64]; omega
structure Ac where
  kind : Nat
  path : S8
  to_ : S8
  b : S8
  n : Int
  ks : List Bool
structure AcH where
  bq : Option Addr
  bc : Nat
  kp : Option Addr
  kc : Nat
def encA (x : Ac × AcH) : List Value := [.int .u8 (x.1.kind : Int), .string (mkS x.1.path), .string (mkS x.1.to_), .slice x.2.bq x.1.b.length x.2.bc, .int .i64 x.1.n, .slice x.2.kp x.1.ks.length x.2.kc]
theorem encA_len (x : Ac × AcH) : (encA x).length = 6 := rfl
/-- A list of acts lies where a slice begins, and what its acts point to. -/
structure AcsL (w : World) (p : Option Addr) (n cap : Nat) (l : List (Ac × AcH)) : Prop where
  at_ : LsC w p (l.flatMap encA)
  len : l.length = n
  byt : ∀ x ∈ l, LsG (fun _ => True) w x.2.bq x.1.b.length x.2.bc 1 (bytC x.1.b)
  kep : ∀ x ∈ l, LsG (fun _ => True) w x.2.kp x.1.ks.length x.2.kc 1 (x.1.ks.map Value.bool)
theorem AcsL.of_below {w w' : World} {p : Option Addr} {n cap : Nat} {l : List (Ac × AcH)} (h : AcsL w p n cap l) (hB : Below w.heap.size w w') : AcsL w' p n cap l :=
  ⟨h.at_.of_below hB, h.len, fun x hx => (h.byt x hx).of_below hB, fun x hx => (h.kep x hx).of_below hB⟩
theorem AcsL.cell {w : World} {p : Option Addr} {n cap : Nat} {l : List (Ac × AcH)} (h : AcsL w p n cap l) {i j : Nat} (hi : i < l.length) {u : Value} (hu : (encA l[i])[j]? = some u) : ∃ c o, p = some ⟨c, o, none⟩ ∧ c < w.heap.size ∧ w.cell? ⟨c, o + (i * 6 + j), none⟩ = some u := by
  have hj : j < 6 := by rw [List.getElem?_eq_some_iff] at hu; exact hu.1
  have hg := flat_get encA 6 encA_len l i j hi hj
  exact h.at_.cell (hg.trans hu)
def shortA (x : Ac × AcH) : Bool := !(decide (200 < x.1.path.length) || decide (200 < x.1.to_.length) || decide (300000 < x.1.b.length) || decide (200 < x.1.ks.length))
def shortL (l : List (Ac × AcH)) : Bool := l.all shortA && decide (l.length ≤ 40)
theorem shortL_no {l : List (Ac × AcH)} {i : Nat} (hi : i < l.length) (h : shortA l[i] = false) : shortL l = false := by
  unfold shortL
  have : l.all shortA = false := by
    rw [List.all_eq_false]
    exact ⟨_, List.getElem_mem hi, by rw [h]; decide⟩
  rw [this]
  rfl
theorem shortL_yes {l : List (Ac × AcH)} (h : ∀ i (hi : i < l.length), shortA l[i] = true) : shortL l = decide (l.length ≤ 40) := by
  unfold shortL
  have : l.all shortA = true := by
    rw [List.all_eq_true]
    intro x hx
    obtain ⟨i, hi, rfl⟩ := List.getElem_of_mem hx
    exact h i hi
  rw [this]
  rfl
set_option maxHeartbeats 4000000 in
theorem short_any (l : List (Ac × AcH)) (p : Option Addr) (n cap : Nat) (hn : n < 9223372036854775808) (hz : ∀ x ∈ l, x.1.path.length < 9223372036854775808 ∧ x.1.to_.length < 9223372036854775808 ∧ x.1.b.length < 9223372036854775808 ∧ x.1.ks.length < 9223372036854775808) (w : World) (h : AcsL w p n cap l) :
    Calls Tryd.prog 6 #[.slice p n cap] w fun e w' => e = .returned (.bool (shortL l)) ∧ Below w.heap.size w w' := by
  have H := Lib.hid h
  have HZ := Lib.hid hz
  clear h hz
  obtain ⟨r, hr⟩ : ∃ r, shortL l = r := ⟨_, rfl⟩
  rw [hr]
  have HR := Lib.hid hr
  clear hr
  go_enter Tryd.func6, Tryd.ntmps6
  go_wp2
  go_loopw [4, 7] (fun v4 v7 wr => ∃ k : Nat, k ≤ n ∧ v7 = .int .i64 k ∧ (∀ i (hi : i < l.length), i < k → shortA l[i] = true) ∧ Below w.heap.size w wr) (fun v4 v7 _ => n - (intOf v7).toNat)
  case atStart => exact ⟨0, Nat.zero_le _, rfl, fun i _ hi => absurd hi (by omega), Below.refl _ _⟩
  case round =>
    obtain ⟨k, hk, rfl, hall, hB⟩ := hrel
    have HB := Lib.hid hB
    have HALL := Lib.hid hall
    by_cases hlt : k < n
    · have z1 : (k : Int) < (n : Int) := by omega
      have z2 : decide ((k : Int) < (n : Int)) = true := decide_eq_true z1
      have z3 : (0 : Int) ≤ (k : Int) := by omega
      have hw := i64t k (by omega)
      have hkl : k < l.length := by rw [H.out.len]; exact hlt
      have H2 := Lib.hid (H.out.of_below hB)
      obtain ⟨x, hx⟩ : ∃ x, l[k] = x := ⟨_, rfl⟩
      have hzx : x.1.path.length < 9223372036854775808 ∧ x.1.to_.length < 9223372036854775808 ∧ x.1.b.length < 9223372036854775808 ∧ x.1.ks.length < 9223372036854775808 := by rw [← hx]; exact HZ.out _ (List.getElem_mem hkl)
      have HNO := Lib.hid (fun (e : shortA x = false) => (HR.out.symm.trans (shortL_no hkl (by rw [hx]; exact e)) : r = false))
      have HYS := Lib.hid (fun (e : shortA x = true) => (fun i (hi : i < l.length) (hik : i < k + 1) => by
        by_cases e2 : i = k
        · subst e2
          rw [hx]
          exact e
        · exact HALL.out i hi (by omega) : ∀ i (hi : i < l.length), i < k + 1 → shortA l[i] = true))
      obtain ⟨c0, o0, hpe, hc0, hx0⟩ := H2.out.cell (i := k) (j := 0) hkl (u := .int .u8 (x.1.kind : Int)) (by rw [hx]; rfl)
      have hF := fun j u (hu : (encA x)[j]? = some u) => (by
        obtain ⟨c1, o1, e1, _, h1⟩ := H2.out.cell (i := k) (j := j) hkl (by rw [hx]; exact hu)
        rw [hpe] at e1
        injection e1 with e1
        injection e1 with e1 e2
        subst e1 e2
        rw [← Nat.add_assoc] at h1
        exact h1 : wr.cell? ⟨c0, o0 + k * 6 + j, none⟩ = some u)
      have HSX := Lib.hid (show shortA x = !(decide (200 < x.1.path.length) || decide (200 < x.1.to_.length) || decide (300000 < x.1.b.length) || decide (200 < x.1.ks.length)) from rfl)
      have HBB := Lib.hid (fun (o : Obj) => (hB.alloc hB.size o : Below w.heap.size w (wr.alloc o)))
      obtain ⟨⟨ak, ap, at2, ab, an, aks⟩, ⟨ebq, ebc, ekp, ekc⟩⟩ := x
      dsimp only at hzx HSX
      have f0 : wr.cell? ⟨c0, o0 + k * 6, none⟩ = some (.int .u8 (ak : Int)) := hF 0 _ rfl
      have f1 := hF 1 _ rfl
      have f2 := hF 2 _ rfl
      have f3 := hF 3 _ rfl
      have f4 := hF 4 _ rfl
      have f5 := hF 5 _ rfl
      dsimp only at f1 f2 f3 f4 f5
      obtain ⟨y1, y2, y3, y4⟩ := hzx
      rw [hpe]
      clear hF hx0 hpe hx hB hall
      by_cases g0 : 200 < ap.length
      · have q0a : (200 : Int) < (ap.length : Int) := by omega
        have q0b : decide ((200 : Int) < (ap.length : Int)) = true := decide_eq_true q0a
        have q0c : decide (200 < ap.length) = true := decide_eq_true g0
        have HN := Lib.hid (HNO.out (by rw [HSX.out, decide_eq_true g0]; simp))
        clear g0
        go_wp2
        go_ret
        exact ⟨by rw [HN.out]; rfl, HBB.out _⟩
      · have q0a : ¬ (200 : Int) < (ap.length : Int) := by omega
        have q0b : decide ((200 : Int) < (ap.length : Int)) = false := decide_eq_false q0a
        have q0c : decide (200 < ap.length) = false := decide_eq_false g0
        by_cases g1 : 200 < at2.length
        · have q1a : (200 : Int) < (at2.length : Int) := by omega
          have q1b : decide ((200 : Int) < (at2.length : Int)) = true := decide_eq_true q1a
          have q1c : decide (200 < at2.length) = true := decide_eq_true g1
          have HN := Lib.hid (HNO.out (by rw [HSX.out, decide_eq_false g0, decide_eq_true g1]; simp))
          clear g0 g1
          go_wp2
          go_ret
          exact ⟨by rw [HN.out]; rfl, HBB.out _⟩
        · have q1a : ¬ (200 : Int) < (at2.length : Int) := by omega
          have q1b : decide ((200 : Int) < (at2.length : Int)) = false := decide_eq_false q1a
          have q1c : decide (200 < at2.length) = false := decide_eq_false g1
          by_cases g2 : 300000 < ab.length
          · have q2a : (300000 : Int) < (ab.length : Int) := by omega
            have q2b : decide ((300000 : Int) < (ab.length : Int)) = true := decide_eq_true q2a
            have q2c : decide (300000 < ab.length) = true := decide_eq_true g2
            have HN := Lib.hid (HNO.out (by rw [HSX.out, decide_eq_false g0, decide_eq_false g1, decide_eq_true g2]; simp))
            clear g0 g1 g2
            go_wp2
            go_ret
            exact ⟨by rw [HN.out]; rfl, HBB.out _⟩
          · have q2a : ¬ (300000 : Int) < (ab.length : Int) := by omega
            have q2b : decide ((300000 : Int) < (ab.length : Int)) = false := decide_eq_false q2a
            have q2c : decide (300000 < ab.length) = false := decide_eq_false g2
            by_cases g3 : 200 < aks.length
            · have q3a : (200 : Int) < (aks.length : Int) := by omega
              have q3b : decide ((200 : Int) < (aks.length : Int)) = true := decide_eq_true q3a
              have q3c : decide (200 < aks.length) = true := decide_eq_true g3
              have HN := Lib.hid (HNO.out (by rw [HSX.out, decide_eq_false g0, decide_eq_false g1, decide_eq_false g2, decide_eq_true g3]; simp))
              clear g0 g1 g2 g3
              go_wp2
              go_ret
              exact ⟨by rw [HN.out]; rfl, HBB.out _⟩
            · have q3a : ¬ (200 : Int) < (aks.length : Int) := by omega
              have q3b : decide ((200 : Int) < (aks.length : Int)) = false := decide_eq_false q3a
              have q3c : decide (200 < aks.length) = false := decide_eq_false g3
              have HS := Lib.hid (HYS.out (by rw [HSX.out, decide_eq_false g0, decide_eq_false g1, decide_eq_false g2, decide_eq_false g3]; rfl))
              clear g0 g1 g2 g3
              go_wp2
              exact ⟨⟨k + 1, by omega, by go_num, HS.out, HBB.out _⟩, by simp [intOf]; omega⟩
    · obtain rfl : k = n := by omega
      have z1 : ¬ (k : Int) < (k : Int) := by omega
      have z2 : decide ((k : Int) < (k : Int)) = false := decide_eq_false z1
      have hy := shortL_yes (l := l) (fun i hi => HALL.out i hi (by rw [← H.out.len]; exact hi))
      rw [H.out.len, HR.out] at hy
      subst hy
      have HD := Lib.hid (show decide ((k : Int) ≤ 40) = decide (k ≤ 40) from decide_eq_decide.2 (by omega))
      clear hB hall
      go_wp2
      go_ret
      exact ⟨by first | rfl | (exact congrArg (fun x => Ending.returned (Value.bool x)) HD.out), HB.out⟩
end Go.Proofs.YtjglgohchhdkkaaDoor
