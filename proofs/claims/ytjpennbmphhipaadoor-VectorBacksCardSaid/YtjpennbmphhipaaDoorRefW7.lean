/- The reference of layer 7: decimals, what is put ahead of a name, homes, copies, kinds. -/
import Derived.Test.YtjpennbmphhipaaDoorRefH7
import Derived.Test.YtjpennbmphhipaaDoorRefL7
import Derived.Test.YtjpennbmphhipaaDoorBytes
import Derived.Deep.RegionLaw
import Derived.BigRegion
set_option linter.unusedSimpArgs false
set_option maxRecDepth 100000
set_option linter.unusedVariables false
namespace Go.Proofs.YtjpennbmphhipaaDoor
open Go Go.RowKit

/-- A string of one byte that was just made. -/
theorem conv1 (w : World) (b c : Nat) (h : w.cell? ⟨b, 0, none⟩ = some (.int .u8 (c : Int))) (hc : c < 256) : (convert 25 9 (.slice (some ⟨b, 0, none⟩) 1 1)).run Tryd.prog w = .ok (.string (mkS [UInt8.ofNat c])) w := by
  have hs : Sl w (some ⟨b, 0, none⟩) [BitVec.ofNat 8 c] := fun j hj => by
    have : j = 0 := by simp at hj; omega
    subst this
    refine ⟨b, 0, rfl, ?_⟩
    show w.cell? ⟨b, 0, none⟩ = some (B (BitVec.ofNat 8 c))
    rw [h, B_eq', BitVec.toNat_ofNat, Nat.mod_eq_of_lt (by simpa using hc)]
  have := conv_str w _ _ 1 1 hs rfl (fun h => by cases h)
  rw [this]
  congr 2
  unfold mkS
  rfl
attribute [local go_sem high] conv1
theorem decL_lo {n : Nat} (h : n < 10) : decL n = [UInt8.ofNat (48 + n)] := by rw [decL, dif_pos h]
theorem decL_hi {n : Nat} (h : ¬ n < 10) : decL n = cat (decL (n / 10)) [UInt8.ofNat (48 + n % 10)] := by rw [decL, dif_neg h, cat_eq]
theorem decL_len : ∀ n, (decL n).length ≤ n + 1 := by
  intro n
  induction n using Nat.strongRecOn with
  | ind n ih =>
    by_cases h : n < 10
    · rw [decL_lo h]; simp
    · rw [decL_hi h, cat_len]
      have := ih (n / 10) (by omega)
      simp; omega
set_option maxRecDepth 100000 in
set_option maxHeartbeats 2000000 in
theorem refDecimal_any : ∀ (n : Nat), n < 1000000000000000 → ∀ (w : World), Calls Tryd.prog 43 #[.int .i64 (n : Int)] w fun e w' => Gives (.string (mkS (decL n))) w e w' := by
  intro n
  induction n using Nat.strongRecOn with
  | ind n ih =>
    intro hn w
    by_cases h10 : n < 10
    · have z1 : (n : Int) < 10 := by omega
      have z2 : decide ((n : Int) < 10) = true := decide_eq_true z1
      obtain ⟨c, hc⟩ : ∃ c, 48 + n = c := ⟨_, rfl⟩
      have c1 : 48 + (n : Int) = (c : Int) := by omega
      have c2 : IntKind.u8.wrap (c : Int) = (c : Int) := by rw [IntKind.wrap_u8']; omega
      have c3 : wrap64 (c : Int) = (c : Int) := by unfold wrap64; omega
      have c4 : IntKind.i64.wrap (c : Int) = (c : Int) := by rw [IntKind.wrap_i64]; omega
      have c5 : c < 256 := by omega
      have HD := Lib.hid (decL_lo h10)
      rw [hc] at HD
      clear ih
      have hk := conv1 (w.alloc (.cells #[.int .u8 (c : Int)] 5)) w.heap.size c (World.cell?_alloc_new _ _ _ _) c5
      go_enter Tryd.func43, Tryd.ntmps43
      go_wp2
      go_ret
      exact ⟨by rw [HD.out]; rfl, (Below.refl _ _).alloc (Nat.le_refl _) _⟩
    · have z1 : ¬ (n : Int) < 10 := by omega
      have z2 : decide ((n : Int) < 10) = false := decide_eq_false z1
      obtain ⟨d, hd⟩ : ∃ d, n % 10 = d := ⟨_, rfl⟩
      obtain ⟨q, hq⟩ : ∃ q, n / 10 = q := ⟨_, rfl⟩
      obtain ⟨c, hc⟩ : ∃ c, 48 + d = c := ⟨_, rfl⟩
      have d1 : (n : Int) % 10 = (d : Int) := by omega
      have d2 : (n : Int).tmod 10 = (d : Int) := by rw [Int.tmod_eq_emod_of_nonneg (by omega)]; exact d1
      have q1 : (n : Int) / 10 = (q : Int) := by omega
      have q2 : (n : Int).tdiv 10 = (q : Int) := by rw [Int.tdiv_eq_ediv_of_nonneg (by omega)]; exact q1
      have q3 : IntKind.i64.wrap (q : Int) = (q : Int) := by rw [IntKind.wrap_i64]; clear d1 d2 q1 q2; omega
      have c1 : 48 + (d : Int) = (c : Int) := by clear d1 d2 q1 q2; omega
      have c2 : IntKind.u8.wrap (c : Int) = (c : Int) := by rw [IntKind.wrap_u8']; clear d1 d2 q1 q2; omega
      have c3 : wrap64 (c : Int) = (c : Int) := by unfold wrap64; clear d1 d2 q1 q2; omega
      have c4 : IntKind.i64.wrap (c : Int) = (c : Int) := by rw [IntKind.wrap_i64]; clear d1 d2 q1 q2; omega
      have c5 : c < 256 := by clear d1 d2 q1 q2; omega
      have HD := Lib.hid (decL_hi h10)
      rw [hq, hd, hc] at HD
      have hf : Fit (decL q) [UInt8.ofNat c] := fit (by have := decL_len q; simp; omega)
      have hqn : q < n := by omega
      have IH := Lib.hid (show ∀ u : World, Calls Tryd.prog 43 #[.int .i64 (q : Int)] u fun e w' => e = .returned (.string (mkS (decL q))) ∧ Below u.heap.size u w' from fun u => (ih q hqn (by omega) u).mono fun e w' h => h)
      clear ih hq hd hc h10 hqn
      generalize decL q = D at *
      go_enter Tryd.func43, Tryd.ntmps43
      go_wp2
      have HK1 := Lib.hid (show (w.alloc (.cells #[.int .u8 (c : Int)] 5)).drew.cell? ⟨w.heap.size, 0, none⟩ = some (.int .u8 (c : Int)) from World.cell?_alloc_new _ _ _ _)
      have hk1 := conv1 ((w.alloc (.cells #[.int .u8 (c : Int)] 5)).drew) w.heap.size c HK1.out c5
      go_region_law (first
        | (go_simp; go_at_call 43; refine Calls.mono (IH.out _) ?_; rintro e w2 ⟨rfl, hB⟩
           have hk2 := conv1 (w2.alloc (.cells #[.int .u8 (c : Int)] 5)) w2.heap.size c (World.cell?_alloc_new _ _ _ _) c5
           first
             | (have hk3 := conv1 w2 w.heap.size c (by rw [hB.cell (by simp)]; exact HK1.out) c5
                have HB := Lib.hid (show Below w.heap.size w w2 from (((Below.refl _ _).alloc (Nat.le_refl _) _).drew).trans (hB.mono (by simp)))
                clear hB)
             | (have HB := Lib.hid (show Below w.heap.size w w2 from ((Below.refl _ _).drew).trans (hB.mono (by simp)))
                clear hB)))
      all_goals
        go_wp2
        go_ret
        first
          | exact ⟨by rw [HD.out]; rfl, HB.out⟩
          | exact ⟨by rw [HD.out]; rfl, HB.out.alloc HB.out.size _⟩
/-- A string and an error's number. -/
def pairS (x : S8 × Nat) : Value := .tuple #[.string (mkS x.1), .int .i64 (x.2 : Int)]
theorem mkS_nil : mkS [] = ⟨#[]⟩ := (mkS_lit []).symm
theorem putL_cat (l ahead : S8) : putL l ahead = cat (cat (l.take (kL l)) ahead) (l.drop (kL l)) := by unfold putL; rw [cat_eq, cat_eq]
end Go.Proofs.YtjpennbmphhipaaDoor
