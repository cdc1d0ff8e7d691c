/- For every array of two bytes, every slice of rows of bytes and every slice of bools the statement ShardRaw returns true, and leaves the rows and the bools as they were.
   Conditions: none but those of the row (its arguments read as data; each slice as the row's reading takes it). -/
import Derived.Test.YtphpliclecmnlaaK9
import Derived.Test.YtphpliclecmnlaaK8
import Derived.Test.YtphpliclecmnlaaZLaw4R
set_option linter.unusedSimpArgs false
set_option linter.unusedVariables false
namespace Go.Proofs.Ytphpliclecmnlaa.shardRaw
open Go Go.ChangeShapes Go.WideShapes Go.ChangeAt Go.RowKit

set_option maxRecDepth 100000 in
theorem lifted (os : Os) (started : os.Started) (H : Type) (enc : TypeId × Value → H) :
    ReturnsInHanded {} Try.checked os 5 .any (Rows.shardRawSpec.pre6 enc Try.prog Try.f5 Rows.shardRawRow.domain false) (Rows.shardRawSpec.post enc Try.prog Try.f5 false true false false) := by
  refine returnsInHanded_of_change (C := Try.checked) own started (by kernel_rfl) Try.func5
    (ChangeSpec.witness6 (enc := enc) (C := Try.checked) false ⟨#[], #[.agg #[.int .u8 0, .int .u8 0], .slice none 0 0, .slice none 0 0], []⟩ 8 (by kernel_rfl) (by kernel_rfl) (by kernel_rfl) (by kernel_rfl)) ?_
  intro W base args ds gs before hval0 hW hcnd _
  have hval : ∀ (j : Nat) t v, Try.f5.params[j]? = some t → args[j]? = some v → Value.okWide Try.prog W .any base t v := hval0
  have hW' := hW
  have hlt := fun p hp => hW.lt p hp
  obtain ⟨p, q, hA0, hV, rfl, hfz, hnd⟩ := hW
  have hA : DataW.TrodAll enc Try.prog W 0 (fun _ => true) true Try.f5.params.toList args.toList ds p := hA0
  rw [Try.params5] at hA hval
  obtain ⟨v0, vs0, d0, ds0, p0, q0, hargs, rfl, rfl, h0, r0⟩ := trodAll_cons hA
  obtain ⟨v1, vs1, d1, ds1, p1, q1, rfl, rfl, rfl, h1, r1⟩ := trodAll_cons r0
  obtain ⟨v2, vs2, d2, ds2, p2, q2, rfl, rfl, rfl, h2, r2⟩ := trodAll_cons r1
  obtain ⟨rfl, rfl, rfl⟩ := trodAll_nil r2
  obtain rfl : args = #[v0, v1, v2] := by cases args; simp_all
  obtain ⟨rfl, rfl⟩ := trodVars_none hV
  obtain ⟨a0, b0, rfl, rfl, w0, y0⟩ := open_arrB (hval 0 22 v0 rfl rfl) h0
  obtain ⟨a1, len1, cap1, rfl⟩ := okWide_slice undRows (hval 1 23 v1 rfl rfl)
  obtain ⟨l1, s1, e1, c1, b1⟩ := open_rows h1
  obtain ⟨a2, len2, cap2, rfl⟩ := okWide_slice undBools (hval 2 40 v2 rfl rfl)
  obtain ⟨t2, s2, e2, c2⟩ := open_bls h2
  clear hA0 hval0
  have walk : Calls Try.prog 5 #[.agg #[.int .u8 a0, .int .u8 b0], .slice a1 len1 cap1, .slice a2 len2 cap2] W fun e w' => e = .returned (.bool true) ∧ Below W.heap.size W w' := by
    have ba := bounds_u8 w0
    have bb := bounds_u8 y0
    cases hf : few4B l1 with
    | false => exact rr_a codeP a0 b0 l1 a1 a2 len1 cap1 len2 cap2 W s1 e1 b1 hf
    | true =>
      by_cases h64 : 64 < len2
      · exact rr_l codeP a0 b0 l1 a1 a2 len1 cap1 len2 cap2 W s1 e1 hf h64
      · exact rr_b codeP a0 b0 l1 t2 a1 a2 len1 cap1 len2 cap2 W s1 e1 s2 e2 hf (by omega) (by omega) (by omega) (by omega) (by omega) (1 + a0 % 8).toNat (1 + b0 % 8).toNat (by omega) (by omega)
  refine walk.mono fun e W' ⟨he, hb⟩ => ?_
  subst he
  simp only [List.append_nil] at hW' hlt
  exact ⟨_, rfl, _, [], _, [], _, [], hW', trodAll_cons_mk (shut_bool (show Try.prog.underlying 4 = some .bool by kernel_rfl) _) trodAll_mk0, (trodAll_cons_mk (Below.trod laidOut (by kernel_rfl) (of_decide_eq_true (by kernel_rfl)) h0 hb (fun x hx => by cases hx)) (trodAll_cons_mk (Below.trod laidOut (by kernel_rfl) (of_decide_eq_true (by kernel_rfl)) h1 hb (fun x hx => hlt x (by simp [hx]))) (trodAll_cons_mk (Below.trod laidOut (by kernel_rfl) (of_decide_eq_true (by kernel_rfl)) h2 hb (fun x hx => hlt x (by simp [hx]))) trodAll_mk0))), rfl, hb.frame _, fun h => by cases h⟩

theorem over : Rows.shardRawRow.holds Try.pinned (OpenSpec.ofChange Rows.shardRawSpec) :=
  OpenClaim.holds_of_wide 5 Try.f5 rfl rfl rfl rfl rfl rfl rfl ⟨rfl, rfl, rfl, rfl, rfl⟩ rfl rfl rfl rfl rfl (by kernel_rfl) Try.func5 (by kernel_rfl)
    (of_decide_eq_true (by kernel_rfl)) (by unfold Func.isWrapper; first | (rw [if_pos (by decide +kernel)]; kernel_rfl) | (rw [if_neg (by decide +kernel)]; exact ⟨rfl, rfl⟩))
    (fun os started H enc _ => lifted os started H enc)
end Go.Proofs.Ytphpliclecmnlaa.shardRaw
namespace Go.Proofs.Ytphpliclecmnlaa
/-- The statement. -/
theorem shardRaw_holds : Rows.ShardRawSaid := shardRaw.over
end Go.Proofs.Ytphpliclecmnlaa
