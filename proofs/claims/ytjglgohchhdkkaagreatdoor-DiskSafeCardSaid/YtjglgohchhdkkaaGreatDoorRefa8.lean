/- The reference's Find, clash, Clashes: lists of files. -/
import Derived.Test.YtjglgohchhdkkaaGreatDoorOwnK8
import Derived.Test.YtjglgohchhdkkaaGreatDoorDsk8
import Derived.Test.YtjglgohchhdkkaaGreatDoorRefI7
set_option linter.unusedSimpArgs false
set_option linter.unusedVariables false
namespace Go.Proofs.YtjglgohchhdkkaaGreatDoor
open Go Go.RowKit

theorem elF : ElK 28 71 (.agg #[.string ⟨#[]⟩, .int .i64 0, .int .i64 0, .int .i64 0, .int .i64 0]) 5 48 := ⟨by kernel_rfl, by kernel_rfl, rfl, by decide, by decide⟩
theorem elC : ElK 29 86 (.agg #[.int .i64 0, .string ⟨#[]⟩, .string ⟨#[]⟩, .int .i64 0, .int .i64 0, .int .i64 0, .int .i64 0]) 7 72 := ⟨by kernel_rfl, by kernel_rfl, rfl, by decide, by decide⟩
/-- A list of files lies where a slice begins. -/
structure LsF (w : World) (p : Option Addr) (n cap : Nat) (l : List Fl) : Prop where
  at_ : LsC w p (l.flatMap encF)
  len : l.length = n
  nil : p = none → cap = 0
  le : n ≤ cap
section
variable {w w' : World} {p : Option Addr} {n cap : Nat} {l : List Fl}
theorem LsF.of_below (h : LsF w p n cap l) (hB : Below w.heap.size w w') : LsF w' p n cap l := ⟨h.at_.of_below hB, h.len, h.nil, h.le⟩
theorem LsF.path (h : LsF w p n cap l) {i : Nat} (hi : i < n) : ∃ c o, p = some ⟨c, o, none⟩ ∧ c < w.heap.size ∧ w.cell? ⟨c, o + i * 5, none⟩ = some (.string (mkS (l.getD i fl0).p)) := by
  have hil : i < l.length := by rw [h.len]; exact hi
  have hg := flat_get encF 5 encF_len l i 0 hil (by decide)
  rw [Nat.add_zero] at hg
  have e : l.getD i fl0 = l[i] := by rw [List.getD_eq_getElem?_getD, List.getElem?_eq_getElem hil]; rfl
  rw [e]
  exact h.at_.cell (hg.trans rfl)
theorem LsF.cell (h : LsF w p n cap l) {i j : Nat} (hi : i < n) {u : Value} (hu : (encF (l.getD i fl0))[j]? = some u) : ∃ c o, p = some ⟨c, o, none⟩ ∧ c < w.heap.size ∧ w.cell? ⟨c, o + (i * 5 + j), none⟩ = some u := by
  have hil : i < l.length := by rw [h.len]; exact hi
  have hj : j < 5 := by rw [List.getElem?_eq_some_iff] at hu; exact hu.1
  have hg := flat_get encF 5 encF_len l i j hil hj
  have e : l.getD i fl0 = l[i] := by rw [List.getD_eq_getElem?_getD, List.getElem?_eq_getElem hil]; rfl
  rw [e] at hu
  exact h.at_.cell (hg.trans hu)
end
/-- The first place at or behind i. -/
def FindAt (l : List Fl) (p : S8) (r : Int) : Prop := (findL l p = none ∧ r = -1) ∨ ∃ i : Nat, findL l p = some i ∧ r = (i : Int)
def findI (l : List Fl) (p : S8) : Int := match findL l p with
  | none => -1
  | some i => (i : Int)
theorem findL_hit {l : List Fl} {p : S8} {i : Nat} (hi : i < l.length) (hp : (l.getD i fl0).p = p) (hno : ∀ j, j < i → (l.getD j fl0).p ≠ p) : findL l p = some i := by
  unfold findL
  rw [List.findIdx?_eq_some_iff_getElem]
  have g : ∀ j (hj : j < l.length), l.getD j fl0 = l[j] := fun j hj => by rw [List.getD_eq_getElem?_getD, List.getElem?_eq_getElem hj]; rfl
  refine ⟨hi, by rw [g i hi] at hp; simpa using hp, fun j hj => ?_⟩
  have := hno j hj
  rw [g j (by omega)] at this
  simpa using this
theorem findL_none {l : List Fl} {p : S8} (hno : ∀ j, j < l.length → (l.getD j fl0).p ≠ p) : findL l p = none := by
  unfold findL
  rw [List.findIdx?_eq_none_iff]
  intro x hx
  obtain ⟨j, hj, rfl⟩ := List.getElem_of_mem hx
  have := hno j hj
  rw [List.getD_eq_getElem?_getD, List.getElem?_eq_getElem hj] at this
  simpa using this
set_option maxHeartbeats 1000000 in
theorem refFind_any (l : List Fl) (q : Option Addr) (n cap : Nat) (s : S8) (hn : n < 1000000) (w : World) (h : LsF w q n cap l) : Calls Tryz.prog 24 #[.slice q n cap, .string (mkS s)] w fun e w' => e = .returned (.int .i64 (findI l s)) ∧ w = w' := by
  have H := Lib.hid h
  obtain ⟨r, hr⟩ : ∃ r, findI l s = r := ⟨_, rfl⟩
  rw [hr]
  have HR := Lib.hid hr
  clear h hr
  go_enter Tryz.func24, Tryz.ntmps24
  go_wp2
  go_loopw [5, 8] (fun v5 v8 wr => ∃ k : Nat, k ≤ n ∧ v8 = .int .i64 k ∧ (∀ j, j < k → (l.getD j fl0).p ≠ s) ∧ w = wr) (fun v5 v8 _ => n - (intOf v8).toNat)
  case atStart => exact ⟨0, Nat.zero_le _, rfl, fun j h => absurd h (by omega), rfl⟩
  case round =>
    obtain ⟨k, hk, rfl, hno, rfl⟩ := hrel
    have HNO := Lib.hid hno
    clear hno
    by_cases hlt : k < n
    · have z1 : (k : Int) < (n : Int) := by omega
      have z2 : decide ((k : Int) < (n : Int)) = true := decide_eq_true z1
      have hw := i64s k (by omega)
      obtain ⟨c0, o0, hpe, _, hx⟩ := H.out.path hlt
      subst hpe
      obtain ⟨x, hxx⟩ : ∃ x, (l.getD k fl0).p = x := ⟨_, rfl⟩
      rw [hxx] at hx
      by_cases hxs : x = s
      · subst hxs
        obtain rfl : r = (k : Int) := by
          have := HR.out
          unfold findI at this
          rw [findL_hit (by rw [H.out.len]; exact hlt) hxx HNO.out] at this
          exact this.symm
        go_wp2
        go_ret
        exact ⟨rfl, rfl⟩
      · have b1 : (x == s) = false := beq_eq_false_iff_ne.2 hxs
        have HNX := Lib.hid (show ∀ j, j < k + 1 → (l.getD j fl0).p ≠ s from fun j h => by
          rcases Nat.lt_succ_iff_lt_or_eq.1 h with h | h
          · exact HNO.out j h
          · rw [h, hxx]; exact hxs)
        clear hxs hxx
        go_wp2
        exact ⟨⟨k + 1, by omega, by go_num, HNX.out, trivial⟩, by simp [intOf]; omega⟩
    · obtain rfl : k = n := by omega
      have z1 : ¬ (k : Int) < (k : Int) := by omega
      have z2 : decide ((k : Int) < (k : Int)) = false := decide_eq_false z1
      obtain rfl : r = -1 := by
        have := HR.out
        unfold findI at this
        rw [findL_none (by rw [H.out.len]; exact HNO.out)] at this
        exact this.symm
      go_wp2
      go_ret
      exact ⟨rfl, rfl⟩
set_option maxHeartbeats 1000000 in
theorem refClash8_any (a b : S8) (ha : a.length < 100000) (hb : b.length < 100000) (w : World) : Calls Tryz.prog 50 #[.string (mkS a), .string (mkS b)] w fun e w' => e = .returned (.bool (clashL a b)) ∧ w = w' := by
  have H1 := Lib.hid (refIn_any a b (by omega) (by omega) w)
  have H2 := Lib.hid (fun u => refIn_any b a (by omega) (by omega) u)
  have HC := Lib.hid (show clashL a b = (inL a b || inL b a) from rfl)
  generalize clashL a b = v at *
  generalize inL a b = x at *
  generalize inL b a = y at *
  cases x with
  | true =>
    obtain rfl : v = true := HC.out
    go_enter Tryz.func50, Tryz.ntmps50
    go_wp2_with fail
    refine H1.out.mono ?_
    rintro e w' ⟨rfl, rfl⟩
    go_wp2
    go_ret
    exact ⟨rfl, rfl⟩
  | false =>
    obtain rfl : v = y := HC.out
    go_enter Tryz.func50, Tryz.ntmps50
    go_wp2_with fail
    refine H1.out.mono ?_
    rintro e w' ⟨rfl, rfl⟩
    go_wp2_with fail
    refine (H2.out _).mono ?_
    rintro e w' ⟨rfl, rfl⟩
    go_wp2
    go_ret
    exact ⟨rfl, rfl⟩
end Go.Proofs.YtjglgohchhdkkaaGreatDoor
