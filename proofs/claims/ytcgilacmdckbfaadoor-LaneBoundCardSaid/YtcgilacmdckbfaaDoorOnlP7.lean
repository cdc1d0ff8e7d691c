/- only, isName, isSum: all characters of a string are permitted. -/
import Derived.Test.YtcgilacmdckbfaaDoorRunQ7
import Derived.Shelf.Abstract
set_option linter.unusedSimpArgs false
set_option maxRecDepth 100000
set_option linter.unusedVariables false
namespace Go.Proofs.YtcgilacmdckbfaaDoor
open Go Go.RowKit Go.Shelf

/-- A function without captured variables answers whether p holds. -/
def Says (g : Nat) (p : Nat → Bool) : Prop := ∀ (r : Nat) (u : World), Calls Tryd.prog g (#[.int .i32 (r : Int)] ++ #[]) u fun e w' => e = .returned (.bool (p r)) ∧ Below u.heap.size u w'
set_option maxHeartbeats 1000000 in
theorem onlyF_tells (g : Nat) (p : Nat → Bool) (hent : ∀ args w, (callFunc g args).run Tryd.prog w = .ok (.enter g args) w) (hS : Says g p) (N B : Nat) (w0 : World) (hc : w0.cell? ⟨B, 0, none⟩ = some (.func (.func g) #[] #[])) (hB : B < N) :
    Tells N w0 79 #[.pointer (some ⟨B, 0, none⟩)] (fun r => !p r) := by
  intro r u _ hu
  have hcu : u.cell? ⟨B, 0, none⟩ = some (.func (.func g) #[] #[]) := by rw [hu.cell (p := ⟨B, 0, none⟩) hB]; exact hc
  have HS := Lib.hid (hS r u)
  clear hS hc hu
  dsimp only
  generalize p r = b at *
  show Calls Tryd.prog 79 #[.int .i32 (r : Int), .pointer (some ⟨B, 0, none⟩)] u _
  go_enter Tryd.func79, Tryd.ntmps79
  go_wp2_with fail
  refine HS.out.mono ?_
  rintro e w2 ⟨rfl, hB2⟩
  have HB := Lib.hid hB2
  clear hB2 HS
  go_wp2
  go_ret
  exact ⟨rfl, HB.out⟩
set_option maxHeartbeats 1000000 in
theorem only_any (g : Nat) (p : Nat → Bool) (hent : ∀ args w, (callFunc g args).run Tryd.prog w = .ok (.enter g args) w) (hS : Says g p) (hp : ∀ r, 128 ≤ r → p r = false) (l : S8) (w : World) :
    Calls Tryd.prog 68 #[.string (mkS l), .func (.func g) #[] #[]] w fun e w' => e = .returned (.bool (l.all fun c => p c.toNat)) ∧ Below w.heap.size w w' := by
  have hT := onlyF_tells g p hent hS (w.heap.size + 1) w.heap.size (w.alloc (.cells #[.func (.func g) #[] #[]] 122)) (World.cell?_alloc_new _ _ _ _) (by omega)
  have HC := Lib.hid (ContainsFunc_any (w.heap.size + 1) _ 79 _ _ (enters_of Tryd.func79 (by kernel_rfl) rfl) hT (fun r hr => by rw [hp r hr]; rfl) l (w.alloc (.cells #[.func (.func g) #[] #[]] 122)) (by simp) (Below.refl _ _))
  have HA := Lib.hid (show (!(l.any fun c => !p c.toNat)) = l.all fun c => p c.toNat from by
    rw [List.not_any_eq_all_not]
    simp)
  have hmf : ∀ (fn : Fn) (first cap : Array Value) (w : World), (Instr.makeFunc fn first cap).run Tryd.prog w = .ok (.func fn first cap) w := fun _ _ _ _ => rfl
  clear hT hS hp hent
  generalize (l.any fun c => !p c.toNat) = b at *
  go_enter Tryd.func68, Tryd.ntmps68
  go_wp2_with fail
  refine HC.out.mono ?_
  rintro e w2 ⟨rfl, hB2⟩
  have HB := Lib.hid (((Below.refl w.heap.size w).alloc (Nat.le_refl _) (.cells #[.func (.func g) #[] #[]] 122)).trans (hB2.mono (by simp)))
  clear hB2 HC
  go_wp2
  go_ret
  exact ⟨by rw [← HA.out]; rfl, HB.out⟩
theorem name_high (r : Nat) (h : 128 ≤ r) : nameR r = false := by
  unfold nameR betw hasR
  simp; omega
theorem sum_high (r : Nat) (h : 128 ≤ r) : sumR r = false := by
  unfold sumR betw
  simp; omega
set_option maxRecDepth 100000 in
theorem nameF : ∀ c : Fin 256, nameR c.val = signB (UInt8.ofNat c.val) := by decide
theorem name_sign (c : UInt8) : nameR c.toNat = signB c := by
  have := nameF ⟨c.toNat, c.toNat_lt⟩
  simpa using this
theorem sum_hex (r : Nat) : sumR r = hexB r := rfl
set_option maxHeartbeats 1000000 in
theorem isName_any (x : S8) (w : World) : Calls Tryd.prog 54 #[.string (mkS x)] w fun e w' => Gives (.bool (okN x)) w e w' := by
  have HC := Lib.hid (only_any 69 nameR (enters_of Tryd.func69 (by kernel_rfl) rfl) (fun r u => inName_any r u) name_high x w)
  have ha : (x.all fun c => nameR c.toNat) = x.all signB := by congr 1; funext c; exact name_sign c
  rw [ha] at HC
  clear ha
  by_cases a : x = []
  · subst a
    clear HC
    go_enter Tryd.func54, Tryd.ntmps54
    go_wp2
    go_ret
    exact ⟨rfl, Below.refl _ _⟩
  · have a1 : (x == []) = false := beq_eq_false_iff_ne.2 a
    have a2 : x.isEmpty = false := by cases x with | nil => exact absurd rfl a | cons _ _ => rfl
    by_cases b : x = [46]
    · subst b
      clear HC
      go_enter Tryd.func54, Tryd.ntmps54
      go_wp2
      go_ret
      exact ⟨rfl, Below.refl _ _⟩
    · have b1 : (x == [46]) = false := beq_eq_false_iff_ne.2 b
      by_cases d : x = [46, 46]
      · subst d
        clear HC
        go_enter Tryd.func54, Tryd.ntmps54
        go_wp2
        go_ret
        exact ⟨rfl, Below.refl _ _⟩
      · have d1 : (x == [46, 46]) = false := beq_eq_false_iff_ne.2 d
        have HOK := Lib.hid (show okN x = x.all signB from by unfold okN; simp [a, b, d])
        clear a b d
        generalize x.all signB = g at *
        go_enter Tryd.func54, Tryd.ntmps54
        go_wp2_with fail
        refine HC.out.mono ?_
        rintro e w2 ⟨rfl, hB2⟩
        have HB := Lib.hid hB2
        clear hB2 HC
        go_wp2
        go_ret
        exact ⟨by rw [HOK.out]; rfl, HB.out⟩
end Go.Proofs.YtcgilacmdckbfaaDoor
