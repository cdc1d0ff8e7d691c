/- Tables of strings, as a row lists them; an argument that is an array of nine small numbers. -/
import Derived.Test.YtkajeepbelfpiaaGreatDoorLift
import Derived.Lib.LaidTab
import Derived.ChangeArms
set_option linter.unusedSimpArgs false
set_option maxRecDepth 100000
set_option linter.unusedVariables false
namespace Go.Proofs.YtkajeepbelfpiaaGreatDoor
open Go Go.ChangeShapes Go.WideShapes Go.ChangeAt Go.RowKit

/-- An array of strings that reads as these holds them. -/
theorem cells_of_strs13 {H : Type} {enc : TypeId × Value → H} {P : Program} {w : World} {base : Nat} {sp : Nat → Bool} {held : Bool} {fuel : Nat} {t e : TypeId} {n : Nat} {cs : List Value} {zs : List (List UInt8)} {p : List MemPlace}
    (ht : P.underlying t = some (.array n e)) (he : P.underlying e = some .string) (hce : P.cellsOf e = 1) (hct : P.cellsOf t = n)
    (h : DataW.trod enc P w base sp held fuel t cs = some (.agg (zs.map fun z => .lit (.string z)), p)) : cs = zs.map fun z => Value.string ⟨z.toArray⟩ := by
  cases fuel with
  | zero => simp [DataW.trod] at h
  | succ fuel =>
    simp only [DataW.trod, ht, hce, hct, Nat.mul_one] at h
    split at h
    · rename_i hl
      obtain ⟨xs, hm, hx⟩ := Option.map_eq_some_iff.1 h
      have hxs : xs.map (·.1) = zs.map fun z => (DataW.lit (.string z) : DataW H) := by
        have := congrArg Prod.fst hx
        simpa using this
      have hxl : xs.length = n := by simpa using Lib.mapM_length hm
      have hzl : zs.length = n := by
        have := congrArg List.length hxs
        simp at this
        omega
      apply List.ext_getElem?
      intro i
      by_cases hi : i < n
      · obtain ⟨b, hb, hf⟩ := Lib.mapM_at hm i i (by simp [hi])
        obtain ⟨s, hc, hbb⟩ := DataW.trod_string he hf
        have hb1 : b.1 = .lit (.string s.data.toList) := by rw [hbb.1]
        have h1 : cs[i]? = some (.string s) := by
          have := congrArg (·[0]?) hc
          simpa [List.getElem?_take, List.getElem?_drop] using this
        have h2 : (xs.map (·.1))[i]? = some (DataW.lit (.string s.data.toList) : DataW H) := by simp [hb, hb1]
        rw [hxs] at h2
        simp only [List.getElem?_map, Option.map_eq_some_iff, DataW.lit.injEq, Lit.string.injEq] at h2
        obtain ⟨z', hz', e2⟩ := h2
        rw [h1, List.getElem?_map, hz', e2]
        rfl
      · rw [List.getElem?_eq_none (by omega), List.getElem?_eq_none (by simp; omega)]
    · cases h
/-- A table of strings that stands first on the list. -/
theorem strs_of_head13 {P : Program} {W : World} {name : String} {zs : List (List UInt8)} {rest : List (String × DataW Unit)} {g : Nat} {t e : TypeId} {n : Nat}
    (hg : P.globalNamed name = some g) (hty : (P.globals[g]?).map (·.type) = some t) (ht : P.underlying t = some (.array n e)) (he : P.underlying e = some .string) (hce : P.cellsOf e = 1) (hct : P.cellsOf t = n)
    (h : laidMet P ((name, .agg (zs.map fun z => .lit (.string z))) :: rest) W) (i : Nat) (hi : i < zs.length) : W.cell? ⟨g, i, none⟩ = some (.string ⟨(zs.getD i []).toArray⟩) := by
  obtain ⟨ps, ⟨g', t', cs, fuel, p, q, hg', ht', hvar, hd, _, _⟩, _⟩ := h
  obtain rfl := Option.some.inj (hg.symm.trans hg')
  obtain rfl := Option.some.inj (hty.symm.trans ht')
  have hc := cells_of_strs13 ht he hce hct hd
  have h2 := World.var?_cell hg hvar i
  rw [h2]
  have e3 : cs[i]? = (zs.map fun z => Value.string ⟨z.toArray⟩)[i]? := by rw [← hc]; simp
  rw [e3]
  simp [List.getD_eq_getElem?_getD, hi]
def nmL : List (List UInt8) := [[110, 111, 110, 101], [110, 101, 119], [109, 105, 115, 115, 105, 110, 103], [99, 108, 101, 97, 110], [114, 111, 116], [101, 100, 105, 116], [116, 111, 117, 99, 104, 101, 100], [103, 111, 110, 101], [114, 101, 98, 111, 114, 110]]
theorem gNm : Tryz.prog.globalNamed "darner/judge.names" = some 1 := by kernel_rfl
theorem tNm : (Tryz.prog.globals[1]?).map (·.type) = some 184 := by kernel_rfl
theorem uNm : Tryz.prog.underlying 184 = some (.array 9 9) := by kernel_rfl
theorem uNs : Tryz.prog.underlying 9 = some .string := by kernel_rfl
theorem cNs : Tryz.prog.cellsOf 9 = 1 := by kernel_rfl
theorem cNm : Tryz.prog.cellsOf 184 = 9 := by kernel_rfl
end Go.Proofs.YtkajeepbelfpiaaGreatDoor
