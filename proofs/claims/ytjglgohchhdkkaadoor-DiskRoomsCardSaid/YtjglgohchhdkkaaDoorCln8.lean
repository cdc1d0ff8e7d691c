/- bytes.Clone, maps.Clone, strings.Clone. -/
import Derived.Test.YtjglgohchhdkkaaDoorDkd8
import Derived.Test.YtjglgohchhdkkaaDoorLib8
import Derived.Shelf.SlMaps.Clone
set_option linter.unusedSimpArgs false
set_option linter.unusedVariables false
namespace Go.Proofs.YtjglgohchhdkkaaDoor
open Go Go.RowKit

theorem nil_yes8 (w : World) : (binOp BinOp.eql 28 (.slice none 0 0) (.slice none 0 0)).run Tryd.prog w = .ok (.bool true) w := by kernel_rfl
theorem nil_no8 (a : Addr) (n cap : Nat) (w : World) : (binOp BinOp.eql 28 (.slice (some a) n cap) (.slice none 0 0)).run Tryd.prog w = .ok (.bool false) w := by kernel_rfl
section
attribute [local go_sem] nil_yes8 nil_no8
set_option maxHeartbeats 1000000 in
theorem clone8_any (l : S8) (p : Option Addr) (n cap : Nat) (w : World) (hl : l.length = n) (hs : LsC w p (bytC l)) (hp : p = none → cap = 0) (hnc : n ≤ cap) (hn : n < 90000000) : Calls Tryd.prog 24 #[.slice p n cap] w fun e w' => ∃ v, e = .returned v ∧ w'.ownsRow w.heap.size 5 1 v n (bytC l) ∧ Below w.heap.size w w' := by
  cases p with
  | none =>
    obtain rfl := hp rfl
    obtain rfl : n = 0 := by omega
    have hl0 : l = [] := List.eq_nil_of_length_eq_zero hl
    subst hl0
    clear hs hp hnc hn hl
    go_enter Tryd.func24, Tryd.ntmps24
    go_wp2
    go_ret
    exact ⟨_, rfl, ⟨rfl, .inl ⟨rfl, rfl⟩⟩, Below.refl _ _⟩
  | some a =>
    have HSE := Lib.hid (hs.of_below (show Below w.heap.size w (w.alloc (.cells #[] 5)) from (Below.refl _ _).alloc (Nat.le_refl _) _))
    have HO := Lib.hid (own_empty (E := 5) (k := 1) w w.heap.size (Nat.le_refl _))
    have HB := Lib.hid (show Below w.heap.size w (w.alloc (.cells #[] 5)) from (Below.refl _ _).alloc (Nat.le_refl _) _)
    have HL := Lib.hid (show (bytC l).length = n * 1 by rw [bytC_len, hl, Nat.mul_one])
    have hsz : w.heap.size ≤ (w.alloc (.cells #[] 5)).heap.size := by rw [World.size_alloc]; omega
    clear hs hp hl
    go_enter Tryd.func24, Tryd.ntmps24
    go_wp2_with (first | (refine wpl_appendK (v := .slice (some ⟨w.heap.size, 0, none⟩) 0 0) elB _ rfl (.tmp 5) (.tmp 6) rfl w.heap.size rfl HO.out (some a) n cap (bytC l) HL.out rfl HSE.out (fun h => by cases h) (bytC_one l) (by omega) hsz ?_; rintro v3 w3 hO3 hg3 _; rw [List.nil_append, Nat.zero_add] at hO3; have HO3 := Lib.hid hO3; have HG3 := Lib.hid hg3; clear hO3 hg3))
    go_wp2
    go_ret
    exact ⟨_, rfl, HO3.out, HB.out.grown HG3.out hsz (fun k hk => by have : w.heap.size = k := (by simpa [Value.ownBlock] using hk); omega)⟩
end
theorem sclone_any (s : S8) (w : World) (h : s.length < 100000000) : Calls Tryd.prog 46 #[.string (mkS s)] w fun e w' => Gives (.string (mkS s)) w e w' :=
  Tryd.stringslite_Clone (mkS s) w (by rw [mkS_size]; omega)
set_option maxHeartbeats 1000000 in
theorem strClone_any (s : S8) (w : World) (h : s.length < 100000000) : Calls Tryd.prog 34 #[.string (mkS s)] w fun e w' => Gives (.string (mkS s)) w e w' := by
  have HC := Lib.hid (sclone_any s w h)
  go_enter Tryd.func34, Tryd.ntmps34
  go_wp2_with fail
  refine HC.out.mono ?_
  rintro e w' ⟨rfl, hB⟩
  have HB := Lib.hid hB
  clear hB
  go_wp2
  go_ret
  exact ⟨rfl, HB.out⟩
set_option maxRecDepth 100000 in
set_option maxHeartbeats 2000000 in
theorem mapClone_any (b : Nat) (es : Array MapEntry) (clock : Nat) (w : World) (hb : w.heap[b]? = some (.map es clock)) :
    Calls Tryd.prog 29 #[.map (some b)] w fun e w' => e = .returned (.map (some w.heap.size)) ∧ w' = w.alloc (.map es clock) := by
  have hq := fun w => run_eql_map_nil_sl (P := Tryd.prog) w 53 _ _ (some b) mapT
  go_enter Tryd.func29, Tryd.ntmps29
  go_wp2
  rw [run_callFunc_extern Tryd.func42 (by kernel_rfl) (by kernel_rfl) (by kernel_rfl) (e := Extern.MapsClone.clone) (by kernel_rfl), run_maps_clone_sl w 53 hb]
  simp only [Result.andThen]
  rw [Oper.upon_value]
  go_wp2
  rw [run_typeAssert_map_sl _ 53 _ _ _ _ mapT]
  simp only [Result.andThen]
  rw [Oper.upon_value]
  go_wp2
  go_ret
  exact ⟨rfl, rfl⟩
end Go.Proofs.YtjglgohchhdkkaaDoor
