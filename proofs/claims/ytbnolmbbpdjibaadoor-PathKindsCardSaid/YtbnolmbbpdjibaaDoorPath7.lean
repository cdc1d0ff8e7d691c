/- What the statements' walks ask of the program's package path; the document's example. -/
import Derived.Test.YtbnolmbbpdjibaaDoorRefC7
set_option linter.unusedSimpArgs false
set_option linter.unusedVariables false
namespace Go.Proofs.YtbnolmbbpdjibaaDoor
open Go Go.RowKit

/-- Strings lie where a slice begins. -/
def StrSl (w : World) (p : Option Addr) (ls : List S8) : Prop := ∀ j, j < ls.length → ∃ c o, p = some ⟨c, o, none⟩ ∧ w.cell? ⟨c, o + j, none⟩ = some (.string (mkS (ls.getD j [])))
theorem StrSl.of_below {w w' : World} {p : Option Addr} {ls : List S8} (h : StrSl w p ls) (k : Below w.heap.size w w') : StrSl w' p ls := fun j hj => by
  obtain ⟨c, o, e, hc⟩ := h j hj
  exact ⟨c, o, e, by rw [k.cell (World.block_lt_of_cell? w _ hc)]; exact hc⟩
/-- T: the library's tables lie in the world w0 (where that is not known: False); the faces that read them are called further on. -/
structure PathSpec (T : Prop) (w0 : World) : Prop where
  good : ∀ (l : S8) (w : World), l.length < 100000 → Calls Tryd.prog 10 #[.string (mkS l)] w fun e w' => Gives (.bool (goodL l)) w e w'
  dir : ∀ (l : S8) (w : World), l.length < 100000 → Calls Tryd.prog 14 #[.string (mkS l)] w fun e w' => Gives (.string (mkS (dirL l))) w e w'
  base : ∀ (l : S8) (w : World), l.length < 100000 → Calls Tryd.prog 15 #[.string (mkS l)] w fun e w' => Gives (.string (mkS (baseL l))) w e w'
  lies : ∀ (s d : S8) (w : World), s.length < 100000 → d.length < 100000 → Calls Tryd.prog 23 #[.string (mkS s), .string (mkS d)] w fun e w' => Gives (.bool (inL s d)) w e w'
  clash : ∀ (a b : S8) (w : World), a.length < 100000 → b.length < 100000 → Calls Tryd.prog 25 #[.string (mkS a), .string (mkS b)] w fun e w' => Gives (.bool (inL a b || inL b a)) w e w'
  temp : ∀ (l : S8) (w : World), l.length < 100000 → Calls Tryd.prog 18 #[.string (mkS l)] w fun e w' => Gives (pairS (withL l tmpS)) w e w'
  side : ∀ (l : S8) (w : World), l.length < 100000 → Calls Tryd.prog 19 #[.string (mkS l)] w fun e w' => Gives (pairS (withL l parS)) w e w'
  home : ∀ (size : Int) (sum : S8) (w : World), T → Below w0.heap.size w0 w → sum.length < 100000 → Calls Tryd.prog 16 #[.int .i64 size, .string (mkS sum)] w fun e w' => Gives (pairS (homeL size sum)) w e w'
  copy : ∀ (l : S8) (size : Int) (sum : S8) (w : World), T → Below w0.heap.size w0 w → l.length < 100000 → sum.length < 100000 → Calls Tryd.prog 20 #[.string (mkS l), .int .i64 size, .string (mkS sum)] w fun e w' => Gives (pairS (copyL l size sum)) w e w'
  kind : ∀ (l : S8) (w : World), l.length < 100000 → Calls Tryd.prog 12 #[.string (mkS l)] w fun e w' => Gives (.int .i64 (kindL l : Int)) w e w'
  first : ∀ (ls : List S8) (p : Option Addr) (n cap : Nat) (w : World), StrSl w p ls → ls.length = n → (p = none → cap = 0) → n ≤ cap → n ≤ 30 → (∀ s ∈ ls, s.length ≤ 200) → Calls Tryd.prog 26 #[.slice p n cap] w fun e w' => ∃ a b some, FirstR ls a b some ∧ Gives (.tuple #[.string (mkS a), .string (mkS b), .bool some]) w e w'
/-- A pure answer, further on. -/
theorem onto {N : Nat} {w u : World} {f : FuncId} {args : Array Value} {v : Value} (HB : Below N w u) (hN : N ≤ u.heap.size) (h : Calls Tryd.prog f args u fun e w' => Gives v u e w') : Calls Tryd.prog f args u fun e w' => e = .returned v ∧ Below N w w' :=
  h.mono fun e w' ⟨h1, h2⟩ => ⟨h1, HB.trans (h2.mono hN)⟩
theorem in_ex : inL [97, 47, 98] [97] = true := by decide
theorem good_ex : goodL [97, 47, 98] = true := by decide
theorem good_nil : goodL [] = false := by decide
section
variable {T : Prop} {w0 : World} (S : PathSpec T w0)
include S
set_option maxHeartbeats 1000000 in
theorem awake7 (w : World) : Calls Tryd.prog 8 #[] w fun e w' => Gives (.bool true) w e w' := by
  have HI := Lib.hid (show ∀ u : World, Calls Tryd.prog 23 #[.string ⟨#[97, 47, 98]⟩, .string ⟨#[97]⟩] u fun e w' => Gives (.bool true) u e w' from fun u => by
    have := S.lies [97, 47, 98] [97] u (by decide) (by decide)
    rw [in_ex] at this
    rw [← mkS_lit, ← mkS_lit] at this
    exact this)
  have HG := Lib.hid (show ∀ u : World, Calls Tryd.prog 10 #[.string ⟨#[97, 47, 98]⟩] u fun e w' => Gives (.bool true) u e w' from fun u => by
    have := S.good [97, 47, 98] u (by decide)
    rw [good_ex] at this
    rw [← mkS_lit] at this
    exact this)
  have HN := Lib.hid (show ∀ u : World, Calls Tryd.prog 10 #[.string ⟨#[]⟩] u fun e w' => Gives (.bool false) u e w' from fun u => by
    have := S.good [] u (by decide)
    rw [good_nil] at this
    rw [← mkS_lit] at this
    exact this)
  clear S
  go_enter Tryd.func8, Tryd.ntmps8
  go_wp2_with fail
  refine (HI.out _).mono ?_
  rintro e w1 ⟨rfl, hB1⟩
  have HB1 := Lib.hid hB1
  clear hB1
  go_wp2_with fail
  refine (onto HB1.out HB1.out.size (HG.out _)).mono ?_
  rintro e w2 ⟨rfl, hB2⟩
  have HB2 := Lib.hid hB2
  clear hB2 HB1
  go_wp2_with fail
  refine (onto HB2.out HB2.out.size (HN.out _)).mono ?_
  rintro e w3 ⟨rfl, hB3⟩
  have HB3 := Lib.hid hB3
  clear hB3 HB2
  go_wp2
  go_ret
  exact ⟨rfl, HB3.out⟩
end
end Go.Proofs.YtbnolmbbpdjibaaDoor
