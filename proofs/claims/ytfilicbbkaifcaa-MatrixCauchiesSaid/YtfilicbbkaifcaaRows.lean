/-
  No cell of these rows narrows 'for every input' (looked for: loops, veiled, ifaces, maps, wideKeys, modest, calm, conditions, laid).
  DERIVED. THE GIVEN ROWS OF THIS SEAT. 5 by the template 'for every input the law returns true; each argument reads behind the call as it read before'; 0 by the template 'total and deterministic' (their statements: YtfilicbbkaifcaaTotals.lean).
  GIVEN WITH THE SEED: the statements are not yours to turn. If you find one false, say at which input.
  Laid BY PROGRAM, IN A SANDBOX (cutbox-rows.mjs): the forced cells as the released guide's own fill.sh prints them over the translation 0a2d9090e7d017b2… (all of the seat's roots in one cut). By AI agents, Wed Nov 11 2026. No macro, syntax, notation, axiom, sorry.
-/
import Derived.Test.YtfilicbbkaifcaaChecked
import GoSem.Claim
import GoSem.ClaimJoined
import GoSem.ClaimMapViews
import Derived.JoinedTies
import Derived.KernelRfl
namespace Go.Proofs.Ytfilicbbkaifcaa
/- THE CELL 'sum', in the pinned program and in every row, IS THE sha256 OF THE DUMP (.gsa) THAT YtfilicbbkaifcaaProg.lean LOADS. Nothing in Lean hashes anything: it is a label: what it is worth is what the hold of that sum in a sandbox is worth. -/
noncomputable def Try.pinned : Pinned := { name := "ytfilicbbkaifcaa", sum := "0a2d9090e7d017b2062907e0a72ff74115b84e26b7e15304db7351da9da15d7e", checked := Try.checked }
namespace Rows
def none {H : Type} : Left H := { results := [], args := [] }

/-- 'darnerlaw03.MatrixProducts': WHATEVER THE INPUT: true; the input reads as it did. -/
def matrixProductsSpec : ChangeSpec := { name := "matrixProducts", fn := fun _ => fun
  | [d1, d2] => { results := [.lit (.bool true)], args := [d1, d2] }
  | _ => none }
def matrixProductsRow : OpenClaim := { program := "ytfilicbbkaifcaa", sum := "0a2d9090e7d017b2062907e0a72ff74115b84e26b7e15304db7351da9da15d7e", func := "darner/darnerlaw03.MatrixProducts", spec := "matrixProducts", unfollowed := true, recurses := true, apart := false }
def MatrixProductsSaid : Prop := matrixProductsRow.holds Try.pinned (OpenSpec.ofChange matrixProductsSpec)

/-- ITS FALSE NEIGHBOUR: 'it returns false'. Refute it at one input. -/
def matrixProductsWrong : ChangeSpec := { name := "matrixProducts", fn := fun _ => fun
  | [d1, d2] => { results := [.lit (.bool false)], args := [d1, d2] }
  | _ => none }
def MatrixProductsWrongFalsely : Prop := matrixProductsRow.holds Try.pinned (OpenSpec.ofChange matrixProductsWrong)

/-- 'darnerlaw03.MatrixInverts': WHATEVER THE INPUT: true; the input reads as it did. -/
def matrixInvertsSpec : ChangeSpec := { name := "matrixInverts", fn := fun _ => fun
  | [d] => { results := [.lit (.bool true)], args := [d] }
  | _ => none }
def matrixInvertsRow : OpenClaim := { program := "ytfilicbbkaifcaa", sum := "0a2d9090e7d017b2062907e0a72ff74115b84e26b7e15304db7351da9da15d7e", func := "darner/darnerlaw03.MatrixInverts", spec := "matrixInverts", unfollowed := true, recurses := true, apart := false }
def MatrixInvertsSaid : Prop := matrixInvertsRow.holds Try.pinned (OpenSpec.ofChange matrixInvertsSpec)

/-- ITS FALSE NEIGHBOUR: 'it returns false'. Refute it at one input. -/
def matrixInvertsWrong : ChangeSpec := { name := "matrixInverts", fn := fun _ => fun
  | [d] => { results := [.lit (.bool false)], args := [d] }
  | _ => none }
def MatrixInvertsWrongFalsely : Prop := matrixInvertsRow.holds Try.pinned (OpenSpec.ofChange matrixInvertsWrong)

/-- 'darnerlaw03.MatrixCauchies': WHATEVER THE INPUT: true; the input reads as it did. -/
def matrixCauchiesSpec : ChangeSpec := { name := "matrixCauchies", fn := fun _ => fun
  | [d1, d2, d3] => { results := [.lit (.bool true)], args := [d1, d2, d3] }
  | _ => none }
def matrixCauchiesRow : OpenClaim := { program := "ytfilicbbkaifcaa", sum := "0a2d9090e7d017b2062907e0a72ff74115b84e26b7e15304db7351da9da15d7e", func := "darner/darnerlaw03.MatrixCauchies", spec := "matrixCauchies", unfollowed := true, recurses := true, apart := false }
def MatrixCauchiesSaid : Prop := matrixCauchiesRow.holds Try.pinned (OpenSpec.ofChange matrixCauchiesSpec)

/-- ITS FALSE NEIGHBOUR: 'it returns false'. Refute it at one input. -/
def matrixCauchiesWrong : ChangeSpec := { name := "matrixCauchies", fn := fun _ => fun
  | [d1, d2, d3] => { results := [.lit (.bool false)], args := [d1, d2, d3] }
  | _ => none }
def MatrixCauchiesWrongFalsely : Prop := matrixCauchiesRow.holds Try.pinned (OpenSpec.ofChange matrixCauchiesWrong)

/-- 'darnerlaw03.MatrixUnits': WHATEVER THE INPUT: true; the input reads as it did. -/
def matrixUnitsSpec : ChangeSpec := { name := "matrixUnits", fn := fun _ => fun
  | [d1, d2] => { results := [.lit (.bool true)], args := [d1, d2] }
  | _ => none }
def matrixUnitsRow : OpenClaim := { program := "ytfilicbbkaifcaa", sum := "0a2d9090e7d017b2062907e0a72ff74115b84e26b7e15304db7351da9da15d7e", func := "darner/darnerlaw03.MatrixUnits", spec := "matrixUnits", unfollowed := true, recurses := true, apart := false }
def MatrixUnitsSaid : Prop := matrixUnitsRow.holds Try.pinned (OpenSpec.ofChange matrixUnitsSpec)

/-- ITS FALSE NEIGHBOUR: 'it returns false'. Refute it at one input. -/
def matrixUnitsWrong : ChangeSpec := { name := "matrixUnits", fn := fun _ => fun
  | [d1, d2] => { results := [.lit (.bool false)], args := [d1, d2] }
  | _ => none }
def MatrixUnitsWrongFalsely : Prop := matrixUnitsRow.holds Try.pinned (OpenSpec.ofChange matrixUnitsWrong)

/-- 'darnerlaw03.MatrixTwice': WHATEVER THE INPUT: true; the input reads as it did. -/
def matrixTwiceSpec : ChangeSpec := { name := "matrixTwice", fn := fun _ => fun
  | [d1, d2] => { results := [.lit (.bool true)], args := [d1, d2] }
  | _ => none }
def matrixTwiceRow : OpenClaim := { program := "ytfilicbbkaifcaa", sum := "0a2d9090e7d017b2062907e0a72ff74115b84e26b7e15304db7351da9da15d7e", func := "darner/darnerlaw03.MatrixTwice", spec := "matrixTwice", unfollowed := true, recurses := true, apart := false }
def MatrixTwiceSaid : Prop := matrixTwiceRow.holds Try.pinned (OpenSpec.ofChange matrixTwiceSpec)

/-- ITS FALSE NEIGHBOUR: 'it returns false'. Refute it at one input. -/
def matrixTwiceWrong : ChangeSpec := { name := "matrixTwice", fn := fun _ => fun
  | [d1, d2] => { results := [.lit (.bool false)], args := [d1, d2] }
  | _ => none }
def MatrixTwiceWrongFalsely : Prop := matrixTwiceRow.holds Try.pinned (OpenSpec.ofChange matrixTwiceWrong)

/- THE SECOND FORM. 'bulk': how many values and letters a reading holds, each counted each time it is reached (what is shared counts as often as it is met; a slice's spare places count too). A statement '..UptoSaid' is the law's where the arguments, and the package variables that the reading takes, are together of bulk at most 1048576: NARROWER than '..Said'. Prove '..Said' where nothing that the law and all that it calls make is longer than what came in: it says more and counts as full. Else prove '..UptoSaid'. A law counts once. -/
mutual
def uptoBulk {H : Type} : DataW H → Nat
  | .lit (.string bytes) => bytes.length + 1
  | .lit _ => 1
  | .nil => 1
  | .ptr d => uptoBulk d + 1
  | .slice elems spare => uptoBulkAll elems + uptoBulkAll spare + 1
  | .agg parts => uptoBulkAll parts + 1
  | .iface _ d => uptoBulk d + 1
  | .map entries => uptoBulkEntries entries + 1
  | .held _ => 1
def uptoBulkAll {H : Type} : List (DataW H) → Nat
  | [] => 0
  | d :: r => uptoBulk d + uptoBulkAll r
def uptoBulkEntries {H : Type} : List (Lit × DataW H) → Nat
  | [] => 0
  | x :: r => uptoBulkEntry x + uptoBulkEntries r
def uptoBulkEntry {H : Type} : Lit × DataW H → Nat
  | (.string bytes, d) => bytes.length + uptoBulk d + 1
  | (_, d) => uptoBulk d + 1
 end
def uptoSmall : (H : Type) → List (DataW H) → Bool := fun _ ds => decide (uptoBulkAll ds ≤ 1048576)
def OpenSpec.upto (s : _root_.Go.ChangeSpec) : _root_.Go.OpenSpec := { _root_.Go.OpenSpec.ofChange s with cond := some uptoSmall }

/-- 'darnerlaw03.MatrixProducts', WHERE WHAT IT READS IS OF BULK AT MOST 1048576: true; the input reads as it did. -/
def matrixProductsUptoRow : OpenClaim := { program := "ytfilicbbkaifcaa", sum := "0a2d9090e7d017b2062907e0a72ff74115b84e26b7e15304db7351da9da15d7e", func := "darner/darnerlaw03.MatrixProducts", spec := "matrixProducts", unfollowed := true, recurses := true, apart := false, narrowed := true }
def MatrixProductsUptoSaid : Prop := matrixProductsUptoRow.holds Try.pinned (OpenSpec.upto matrixProductsSpec)

/-- 'darnerlaw03.MatrixInverts', WHERE WHAT IT READS IS OF BULK AT MOST 1048576: true; the input reads as it did. -/
def matrixInvertsUptoRow : OpenClaim := { program := "ytfilicbbkaifcaa", sum := "0a2d9090e7d017b2062907e0a72ff74115b84e26b7e15304db7351da9da15d7e", func := "darner/darnerlaw03.MatrixInverts", spec := "matrixInverts", unfollowed := true, recurses := true, apart := false, narrowed := true }
def MatrixInvertsUptoSaid : Prop := matrixInvertsUptoRow.holds Try.pinned (OpenSpec.upto matrixInvertsSpec)

/-- 'darnerlaw03.MatrixCauchies', WHERE WHAT IT READS IS OF BULK AT MOST 1048576: true; the input reads as it did. -/
def matrixCauchiesUptoRow : OpenClaim := { program := "ytfilicbbkaifcaa", sum := "0a2d9090e7d017b2062907e0a72ff74115b84e26b7e15304db7351da9da15d7e", func := "darner/darnerlaw03.MatrixCauchies", spec := "matrixCauchies", unfollowed := true, recurses := true, apart := false, narrowed := true }
def MatrixCauchiesUptoSaid : Prop := matrixCauchiesUptoRow.holds Try.pinned (OpenSpec.upto matrixCauchiesSpec)

/-- 'darnerlaw03.MatrixUnits', WHERE WHAT IT READS IS OF BULK AT MOST 1048576: true; the input reads as it did. -/
def matrixUnitsUptoRow : OpenClaim := { program := "ytfilicbbkaifcaa", sum := "0a2d9090e7d017b2062907e0a72ff74115b84e26b7e15304db7351da9da15d7e", func := "darner/darnerlaw03.MatrixUnits", spec := "matrixUnits", unfollowed := true, recurses := true, apart := false, narrowed := true }
def MatrixUnitsUptoSaid : Prop := matrixUnitsUptoRow.holds Try.pinned (OpenSpec.upto matrixUnitsSpec)

/-- 'darnerlaw03.MatrixTwice', WHERE WHAT IT READS IS OF BULK AT MOST 1048576: true; the input reads as it did. -/
def matrixTwiceUptoRow : OpenClaim := { program := "ytfilicbbkaifcaa", sum := "0a2d9090e7d017b2062907e0a72ff74115b84e26b7e15304db7351da9da15d7e", func := "darner/darnerlaw03.MatrixTwice", spec := "matrixTwice", unfollowed := true, recurses := true, apart := false, narrowed := true }
def MatrixTwiceUptoSaid : Prop := matrixTwiceUptoRow.holds Try.pinned (OpenSpec.upto matrixTwiceSpec)

end Rows
end Go.Proofs.Ytfilicbbkaifcaa
