/-
  No cell of these rows narrows 'for every input' (looked for: loops, veiled, ifaces, maps, wideKeys, modest, calm, conditions, laid).
  DERIVED. THE GIVEN ROWS OF THIS SEAT. 4 by the template 'for every input the law returns true; each argument reads behind the call as it read before'; 0 by the template 'total and deterministic' (their statements: YtgmogbgkokofoaaTotals.lean).
  GIVEN WITH THE SEED: the statements are not yours to turn. If you find one false, say at which input.
  Laid BY PROGRAM, IN A SANDBOX (cutbox-rows.mjs): the forced cells as the released guide's own fill.sh prints them over the translation 702426b85112f3ac… (all of the seat's roots in one cut). By AI agents, Wed Nov 11 2026. No macro, syntax, notation, axiom, sorry.
-/
import Derived.Test.YtgmogbgkokofoaaChecked
import GoSem.Claim
import GoSem.ClaimJoined
import GoSem.ClaimMapViews
import Derived.JoinedTies
import Derived.KernelRfl
namespace Go.Proofs.Ytgmogbgkokofoaa
/- THE CELL 'sum', in the pinned program and in every row, IS THE sha256 OF THE DUMP (.gsa) THAT YtgmogbgkokofoaaProg.lean LOADS. Nothing in Lean hashes anything: it is a label: what it is worth is what the hold of that sum in a sandbox is worth. -/
noncomputable def Try.pinned : Pinned := { name := "ytgmogbgkokofoaa", sum := "702426b85112f3aca90fd5bb5457996d3ee8c4bffc544d19890129a33e88107d", checked := Try.checked }
namespace Rows
def none {H : Type} : Left H := { results := [], args := [] }

/-- 'darnerlaw06.CodecBacks': WHATEVER THE INPUT: true; the input reads as it did. -/
def codecBacksSpec : ChangeSpec := { name := "codecBacks", fn := fun _ => fun
  | [d1, d2] => { results := [.lit (.bool true)], args := [d1, d2] }
  | _ => none }
def codecBacksRow : OpenClaim := { program := "ytgmogbgkokofoaa", sum := "702426b85112f3aca90fd5bb5457996d3ee8c4bffc544d19890129a33e88107d", func := "darner/darnerlaw06.CodecBacks", spec := "codecBacks", unfollowed := true, recurses := true, apart := false }
def CodecBacksSaid : Prop := codecBacksRow.holds Try.pinned (OpenSpec.ofChange codecBacksSpec)

/-- ITS FALSE NEIGHBOUR: 'it returns false'. Refute it at one input. -/
def codecBacksWrong : ChangeSpec := { name := "codecBacks", fn := fun _ => fun
  | [d1, d2] => { results := [.lit (.bool false)], args := [d1, d2] }
  | _ => none }
def CodecBacksWrongFalsely : Prop := codecBacksRow.holds Try.pinned (OpenSpec.ofChange codecBacksWrong)

/-- 'darnerlaw06.CodecAnys': WHATEVER THE INPUT: true; the input reads as it did. -/
def codecAnysSpec : ChangeSpec := { name := "codecAnys", fn := fun _ => fun
  | [d1, d2, d3] => { results := [.lit (.bool true)], args := [d1, d2, d3] }
  | _ => none }
def codecAnysRow : OpenClaim := { program := "ytgmogbgkokofoaa", sum := "702426b85112f3aca90fd5bb5457996d3ee8c4bffc544d19890129a33e88107d", func := "darner/darnerlaw06.CodecAnys", spec := "codecAnys", unfollowed := true, recurses := true, apart := false }
def CodecAnysSaid : Prop := codecAnysRow.holds Try.pinned (OpenSpec.ofChange codecAnysSpec)

/-- ITS FALSE NEIGHBOUR: 'it returns false'. Refute it at one input. -/
def codecAnysWrong : ChangeSpec := { name := "codecAnys", fn := fun _ => fun
  | [d1, d2, d3] => { results := [.lit (.bool false)], args := [d1, d2, d3] }
  | _ => none }
def CodecAnysWrongFalsely : Prop := codecAnysRow.holds Try.pinned (OpenSpec.ofChange codecAnysWrong)

/-- 'darnerlaw06.CodecFails': WHATEVER THE INPUT: true; the input reads as it did. -/
def codecFailsSpec : ChangeSpec := { name := "codecFails", fn := fun _ => fun
  | [d1, d2, d3] => { results := [.lit (.bool true)], args := [d1, d2, d3] }
  | _ => none }
def codecFailsRow : OpenClaim := { program := "ytgmogbgkokofoaa", sum := "702426b85112f3aca90fd5bb5457996d3ee8c4bffc544d19890129a33e88107d", func := "darner/darnerlaw06.CodecFails", spec := "codecFails", unfollowed := true, recurses := true, apart := false }
def CodecFailsSaid : Prop := codecFailsRow.holds Try.pinned (OpenSpec.ofChange codecFailsSpec)

/-- ITS FALSE NEIGHBOUR: 'it returns false'. Refute it at one input. -/
def codecFailsWrong : ChangeSpec := { name := "codecFails", fn := fun _ => fun
  | [d1, d2, d3] => { results := [.lit (.bool false)], args := [d1, d2, d3] }
  | _ => none }
def CodecFailsWrongFalsely : Prop := codecFailsRow.holds Try.pinned (OpenSpec.ofChange codecFailsWrong)

/-- 'darnerlaw06.CodecCuts': WHATEVER THE INPUT: true; the input reads as it did. -/
def codecCutsSpec : ChangeSpec := { name := "codecCuts", fn := fun _ => fun
  | [d1, d2] => { results := [.lit (.bool true)], args := [d1, d2] }
  | _ => none }
def codecCutsRow : OpenClaim := { program := "ytgmogbgkokofoaa", sum := "702426b85112f3aca90fd5bb5457996d3ee8c4bffc544d19890129a33e88107d", func := "darner/darnerlaw06.CodecCuts", spec := "codecCuts", unfollowed := true, recurses := true, apart := false }
def CodecCutsSaid : Prop := codecCutsRow.holds Try.pinned (OpenSpec.ofChange codecCutsSpec)

/-- ITS FALSE NEIGHBOUR: 'it returns false'. Refute it at one input. -/
def codecCutsWrong : ChangeSpec := { name := "codecCuts", fn := fun _ => fun
  | [d1, d2] => { results := [.lit (.bool false)], args := [d1, d2] }
  | _ => none }
def CodecCutsWrongFalsely : Prop := codecCutsRow.holds Try.pinned (OpenSpec.ofChange codecCutsWrong)

/- THE SECOND FORM. 'bulk': how many values and letters a reading holds, each counted each time it is reached (what is shared counts as often as it is met; a slice's spare places count too). A statement '..UptoSaid' is the law's where the arguments, and the package variables that the reading takes, are together of bulk at most 1048576: NARROWER than '..Said'. Prove '..Said' where nothing that the law and all that it calls make is longer than what came in: it says more and counts as full. Else prove '..UptoSaid'. A law counts once. -/
mutual
def uptoBulk {H : Type} : DataW H → Nat
  | .lit (.string bytes) => bytes.length + 1
  | .lit _ => 1
  | .nil => 1
  | .ptr d => uptoBulk d + 1
  | .slice elems spare => uptoBulkAll elems + uptoBulkAll spare + 1
  | .agg parts => uptoBulkAll parts + 1
  | .iface _ d => uptoBulk d + 1
  | .map entries => uptoBulkEntries entries + 1
  | .held _ => 1
def uptoBulkAll {H : Type} : List (DataW H) → Nat
  | [] => 0
  | d :: r => uptoBulk d + uptoBulkAll r
def uptoBulkEntries {H : Type} : List (Lit × DataW H) → Nat
  | [] => 0
  | x :: r => uptoBulkEntry x + uptoBulkEntries r
def uptoBulkEntry {H : Type} : Lit × DataW H → Nat
  | (.string bytes, d) => bytes.length + uptoBulk d + 1
  | (_, d) => uptoBulk d + 1
 end
def uptoSmall : (H : Type) → List (DataW H) → Bool := fun _ ds => decide (uptoBulkAll ds ≤ 1048576)
def OpenSpec.upto (s : _root_.Go.ChangeSpec) : _root_.Go.OpenSpec := { _root_.Go.OpenSpec.ofChange s with cond := some uptoSmall }

/-- 'darnerlaw06.CodecBacks', WHERE WHAT IT READS IS OF BULK AT MOST 1048576: true; the input reads as it did. -/
def codecBacksUptoRow : OpenClaim := { program := "ytgmogbgkokofoaa", sum := "702426b85112f3aca90fd5bb5457996d3ee8c4bffc544d19890129a33e88107d", func := "darner/darnerlaw06.CodecBacks", spec := "codecBacks", unfollowed := true, recurses := true, apart := false, narrowed := true }
def CodecBacksUptoSaid : Prop := codecBacksUptoRow.holds Try.pinned (OpenSpec.upto codecBacksSpec)

/-- 'darnerlaw06.CodecAnys', WHERE WHAT IT READS IS OF BULK AT MOST 1048576: true; the input reads as it did. -/
def codecAnysUptoRow : OpenClaim := { program := "ytgmogbgkokofoaa", sum := "702426b85112f3aca90fd5bb5457996d3ee8c4bffc544d19890129a33e88107d", func := "darner/darnerlaw06.CodecAnys", spec := "codecAnys", unfollowed := true, recurses := true, apart := false, narrowed := true }
def CodecAnysUptoSaid : Prop := codecAnysUptoRow.holds Try.pinned (OpenSpec.upto codecAnysSpec)

/-- 'darnerlaw06.CodecFails', WHERE WHAT IT READS IS OF BULK AT MOST 1048576: true; the input reads as it did. -/
def codecFailsUptoRow : OpenClaim := { program := "ytgmogbgkokofoaa", sum := "702426b85112f3aca90fd5bb5457996d3ee8c4bffc544d19890129a33e88107d", func := "darner/darnerlaw06.CodecFails", spec := "codecFails", unfollowed := true, recurses := true, apart := false, narrowed := true }
def CodecFailsUptoSaid : Prop := codecFailsUptoRow.holds Try.pinned (OpenSpec.upto codecFailsSpec)

/-- 'darnerlaw06.CodecCuts', WHERE WHAT IT READS IS OF BULK AT MOST 1048576: true; the input reads as it did. -/
def codecCutsUptoRow : OpenClaim := { program := "ytgmogbgkokofoaa", sum := "702426b85112f3aca90fd5bb5457996d3ee8c4bffc544d19890129a33e88107d", func := "darner/darnerlaw06.CodecCuts", spec := "codecCuts", unfollowed := true, recurses := true, apart := false, narrowed := true }
def CodecCutsUptoSaid : Prop := codecCutsUptoRow.holds Try.pinned (OpenSpec.upto codecCutsSpec)

end Rows
end Go.Proofs.Ytgmogbgkokofoaa
