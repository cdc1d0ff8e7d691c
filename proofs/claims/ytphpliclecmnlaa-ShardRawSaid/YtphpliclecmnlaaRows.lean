/-
  No cell of these rows narrows 'for every input' (looked for: loops, veiled, ifaces, maps, wideKeys, modest, calm, conditions, laid).
  DERIVED. THE GIVEN ROWS OF THIS SEAT. 7 by the template 'for every input the law returns true; each argument reads behind the call as it read before'; 0 by the template 'total and deterministic' (their statements: YtphpliclecmnlaaTotals.lean).
  GIVEN WITH THE SEED: the statements are not yours to turn. If you find one false, say at which input.
  Laid BY PROGRAM, IN A SANDBOX (cutbox-rows.mjs): the forced cells as the released guide's own fill.sh prints them over the translation da42c6d043517724… (all of the seat's roots in one cut). By AI agents, Wed Nov 11 2026. No macro, syntax, notation, axiom, sorry.
-/
import Derived.Test.YtphpliclecmnlaaChecked
import GoSem.Claim
import GoSem.ClaimJoined
import GoSem.ClaimMapViews
import Derived.JoinedTies
import Derived.KernelRfl
namespace Go.Proofs.Ytphpliclecmnlaa
/- THE CELL 'sum', in the pinned program and in every row, IS THE sha256 OF THE DUMP (.gsa) THAT YtphpliclecmnlaaProg.lean LOADS. Nothing in Lean hashes anything: it is a label: what it is worth is what the hold of that sum in a sandbox is worth. -/
noncomputable def Try.pinned : Pinned := { name := "ytphpliclecmnlaa", sum := "da42c6d0435177240d286f2a94835dc332193a75b3355f13a803804cf5c43fce", checked := Try.checked }
namespace Rows
def none {H : Type} : Left H := { results := [], args := [] }

/-- 'darnerlaw04.ShardEncodes': WHATEVER THE INPUT: true; the input reads as it did. -/
def shardEncodesSpec : ChangeSpec := { name := "shardEncodes", fn := fun _ => fun
  | [d1, d2, d3] => { results := [.lit (.bool true)], args := [d1, d2, d3] }
  | _ => none }
def shardEncodesRow : OpenClaim := { program := "ytphpliclecmnlaa", sum := "da42c6d0435177240d286f2a94835dc332193a75b3355f13a803804cf5c43fce", func := "darner/darnerlaw04.ShardEncodes", spec := "shardEncodes", unfollowed := true, recurses := true, apart := false }
def ShardEncodesSaid : Prop := shardEncodesRow.holds Try.pinned (OpenSpec.ofChange shardEncodesSpec)

/-- ITS FALSE NEIGHBOUR: 'it returns false'. Refute it at one input. -/
def shardEncodesWrong : ChangeSpec := { name := "shardEncodes", fn := fun _ => fun
  | [d1, d2, d3] => { results := [.lit (.bool false)], args := [d1, d2, d3] }
  | _ => none }
def ShardEncodesWrongFalsely : Prop := shardEncodesRow.holds Try.pinned (OpenSpec.ofChange shardEncodesWrong)

/-- 'darnerlaw04.ShardDecodes': WHATEVER THE INPUT: true; the input reads as it did. -/
def shardDecodesSpec : ChangeSpec := { name := "shardDecodes", fn := fun _ => fun
  | [d1, d2, d3] => { results := [.lit (.bool true)], args := [d1, d2, d3] }
  | _ => none }
def shardDecodesRow : OpenClaim := { program := "ytphpliclecmnlaa", sum := "da42c6d0435177240d286f2a94835dc332193a75b3355f13a803804cf5c43fce", func := "darner/darnerlaw04.ShardDecodes", spec := "shardDecodes", unfollowed := true, recurses := true, apart := false }
def ShardDecodesSaid : Prop := shardDecodesRow.holds Try.pinned (OpenSpec.ofChange shardDecodesSpec)

/-- ITS FALSE NEIGHBOUR: 'it returns false'. Refute it at one input. -/
def shardDecodesWrong : ChangeSpec := { name := "shardDecodes", fn := fun _ => fun
  | [d1, d2, d3] => { results := [.lit (.bool false)], args := [d1, d2, d3] }
  | _ => none }
def ShardDecodesWrongFalsely : Prop := shardDecodesRow.holds Try.pinned (OpenSpec.ofChange shardDecodesWrong)

/-- 'darnerlaw04.ShardRaw': WHATEVER THE INPUT: true; the input reads as it did. -/
def shardRawSpec : ChangeSpec := { name := "shardRaw", fn := fun _ => fun
  | [d1, d2, d3] => { results := [.lit (.bool true)], args := [d1, d2, d3] }
  | _ => none }
def shardRawRow : OpenClaim := { program := "ytphpliclecmnlaa", sum := "da42c6d0435177240d286f2a94835dc332193a75b3355f13a803804cf5c43fce", func := "darner/darnerlaw04.ShardRaw", spec := "shardRaw", unfollowed := true, recurses := true, apart := false }
def ShardRawSaid : Prop := shardRawRow.holds Try.pinned (OpenSpec.ofChange shardRawSpec)

/-- ITS FALSE NEIGHBOUR: 'it returns false'. Refute it at one input. -/
def shardRawWrong : ChangeSpec := { name := "shardRaw", fn := fun _ => fun
  | [d1, d2, d3] => { results := [.lit (.bool false)], args := [d1, d2, d3] }
  | _ => none }
def ShardRawWrongFalsely : Prop := shardRawRow.holds Try.pinned (OpenSpec.ofChange shardRawWrong)

/-- 'darnerlaw04.ShardCuts': WHATEVER THE INPUT: true; the input reads as it did. -/
def shardCutsSpec : ChangeSpec := { name := "shardCuts", fn := fun _ => fun
  | [d1, d2] => { results := [.lit (.bool true)], args := [d1, d2] }
  | _ => none }
def shardCutsRow : OpenClaim := { program := "ytphpliclecmnlaa", sum := "da42c6d0435177240d286f2a94835dc332193a75b3355f13a803804cf5c43fce", func := "darner/darnerlaw04.ShardCuts", spec := "shardCuts", unfollowed := true, recurses := true, apart := false }
def ShardCutsSaid : Prop := shardCutsRow.holds Try.pinned (OpenSpec.ofChange shardCutsSpec)

/-- ITS FALSE NEIGHBOUR: 'it returns false'. Refute it at one input. -/
def shardCutsWrong : ChangeSpec := { name := "shardCuts", fn := fun _ => fun
  | [d1, d2] => { results := [.lit (.bool false)], args := [d1, d2] }
  | _ => none }
def ShardCutsWrongFalsely : Prop := shardCutsRow.holds Try.pinned (OpenSpec.ofChange shardCutsWrong)

/-- 'darnerlaw04.ShardNews': WHATEVER THE INPUT: true; the input reads as it did. -/
def shardNewsSpec : ChangeSpec := { name := "shardNews", fn := fun _ => fun
  | [d1, d2] => { results := [.lit (.bool true)], args := [d1, d2] }
  | _ => none }
def shardNewsRow : OpenClaim := { program := "ytphpliclecmnlaa", sum := "da42c6d0435177240d286f2a94835dc332193a75b3355f13a803804cf5c43fce", func := "darner/darnerlaw04.ShardNews", spec := "shardNews", unfollowed := true, recurses := true, apart := false }
def ShardNewsSaid : Prop := shardNewsRow.holds Try.pinned (OpenSpec.ofChange shardNewsSpec)

/-- ITS FALSE NEIGHBOUR: 'it returns false'. Refute it at one input. -/
def shardNewsWrong : ChangeSpec := { name := "shardNews", fn := fun _ => fun
  | [d1, d2] => { results := [.lit (.bool false)], args := [d1, d2] }
  | _ => none }
def ShardNewsWrongFalsely : Prop := shardNewsRow.holds Try.pinned (OpenSpec.ofChange shardNewsWrong)

/-- 'darnerlaw04.ShardSums': WHATEVER THE INPUT: true; the input reads as it did. -/
def shardSumsSpec : ChangeSpec := { name := "shardSums", fn := fun _ => fun
  | [d1, d2, d3] => { results := [.lit (.bool true)], args := [d1, d2, d3] }
  | _ => none }
def shardSumsRow : OpenClaim := { program := "ytphpliclecmnlaa", sum := "da42c6d0435177240d286f2a94835dc332193a75b3355f13a803804cf5c43fce", func := "darner/darnerlaw04.ShardSums", spec := "shardSums", unfollowed := true, recurses := true, apart := false }
def ShardSumsSaid : Prop := shardSumsRow.holds Try.pinned (OpenSpec.ofChange shardSumsSpec)

/-- ITS FALSE NEIGHBOUR: 'it returns false'. Refute it at one input. -/
def shardSumsWrong : ChangeSpec := { name := "shardSums", fn := fun _ => fun
  | [d1, d2, d3] => { results := [.lit (.bool false)], args := [d1, d2, d3] }
  | _ => none }
def ShardSumsWrongFalsely : Prop := shardSumsRow.holds Try.pinned (OpenSpec.ofChange shardSumsWrong)

/-- 'darnerlaw04.ShardAny': WHATEVER THE INPUT: true; the input reads as it did. -/
def shardAnySpec : ChangeSpec := { name := "shardAny", fn := fun _ => fun
  | [d1, d2, d3] => { results := [.lit (.bool true)], args := [d1, d2, d3] }
  | _ => none }
def shardAnyRow : OpenClaim := { program := "ytphpliclecmnlaa", sum := "da42c6d0435177240d286f2a94835dc332193a75b3355f13a803804cf5c43fce", func := "darner/darnerlaw04.ShardAny", spec := "shardAny", unfollowed := true, recurses := true, apart := false }
def ShardAnySaid : Prop := shardAnyRow.holds Try.pinned (OpenSpec.ofChange shardAnySpec)

/-- ITS FALSE NEIGHBOUR: 'it returns false'. Refute it at one input. -/
def shardAnyWrong : ChangeSpec := { name := "shardAny", fn := fun _ => fun
  | [d1, d2, d3] => { results := [.lit (.bool false)], args := [d1, d2, d3] }
  | _ => none }
def ShardAnyWrongFalsely : Prop := shardAnyRow.holds Try.pinned (OpenSpec.ofChange shardAnyWrong)

/- THE SECOND FORM. 'bulk': how many values and letters a reading holds, each counted each time it is reached (what is shared counts as often as it is met; a slice's spare places count too). A statement '..UptoSaid' is the law's where the arguments, and the package variables that the reading takes, are together of bulk at most 1048576: NARROWER than '..Said'. Prove '..Said' where nothing that the law and all that it calls make is longer than what came in: it says more and counts as full. Else prove '..UptoSaid'. A law counts once. -/
mutual
def uptoBulk {H : Type} : DataW H → Nat
  | .lit (.string bytes) => bytes.length + 1
  | .lit _ => 1
  | .nil => 1
  | .ptr d => uptoBulk d + 1
  | .slice elems spare => uptoBulkAll elems + uptoBulkAll spare + 1
  | .agg parts => uptoBulkAll parts + 1
  | .iface _ d => uptoBulk d + 1
  | .map entries => uptoBulkEntries entries + 1
  | .held _ => 1
def uptoBulkAll {H : Type} : List (DataW H) → Nat
  | [] => 0
  | d :: r => uptoBulk d + uptoBulkAll r
def uptoBulkEntries {H : Type} : List (Lit × DataW H) → Nat
  | [] => 0
  | x :: r => uptoBulkEntry x + uptoBulkEntries r
def uptoBulkEntry {H : Type} : Lit × DataW H → Nat
  | (.string bytes, d) => bytes.length + uptoBulk d + 1
  | (_, d) => uptoBulk d + 1
 end
def uptoSmall : (H : Type) → List (DataW H) → Bool := fun _ ds => decide (uptoBulkAll ds ≤ 1048576)
def OpenSpec.upto (s : _root_.Go.ChangeSpec) : _root_.Go.OpenSpec := { _root_.Go.OpenSpec.ofChange s with cond := some uptoSmall }

/-- 'darnerlaw04.ShardEncodes', WHERE WHAT IT READS IS OF BULK AT MOST 1048576: true; the input reads as it did. -/
def shardEncodesUptoRow : OpenClaim := { program := "ytphpliclecmnlaa", sum := "da42c6d0435177240d286f2a94835dc332193a75b3355f13a803804cf5c43fce", func := "darner/darnerlaw04.ShardEncodes", spec := "shardEncodes", unfollowed := true, recurses := true, apart := false, narrowed := true }
def ShardEncodesUptoSaid : Prop := shardEncodesUptoRow.holds Try.pinned (OpenSpec.upto shardEncodesSpec)

/-- 'darnerlaw04.ShardDecodes', WHERE WHAT IT READS IS OF BULK AT MOST 1048576: true; the input reads as it did. -/
def shardDecodesUptoRow : OpenClaim := { program := "ytphpliclecmnlaa", sum := "da42c6d0435177240d286f2a94835dc332193a75b3355f13a803804cf5c43fce", func := "darner/darnerlaw04.ShardDecodes", spec := "shardDecodes", unfollowed := true, recurses := true, apart := false, narrowed := true }
def ShardDecodesUptoSaid : Prop := shardDecodesUptoRow.holds Try.pinned (OpenSpec.upto shardDecodesSpec)

/-- 'darnerlaw04.ShardRaw', WHERE WHAT IT READS IS OF BULK AT MOST 1048576: true; the input reads as it did. -/
def shardRawUptoRow : OpenClaim := { program := "ytphpliclecmnlaa", sum := "da42c6d0435177240d286f2a94835dc332193a75b3355f13a803804cf5c43fce", func := "darner/darnerlaw04.ShardRaw", spec := "shardRaw", unfollowed := true, recurses := true, apart := false, narrowed := true }
def ShardRawUptoSaid : Prop := shardRawUptoRow.holds Try.pinned (OpenSpec.upto shardRawSpec)

/-- 'darnerlaw04.ShardCuts', WHERE WHAT IT READS IS OF BULK AT MOST 1048576: true; the input reads as it did. -/
def shardCutsUptoRow : OpenClaim := { program := "ytphpliclecmnlaa", sum := "da42c6d0435177240d286f2a94835dc332193a75b3355f13a803804cf5c43fce", func := "darner/darnerlaw04.ShardCuts", spec := "shardCuts", unfollowed := true, recurses := true, apart := false, narrowed := true }
def ShardCutsUptoSaid : Prop := shardCutsUptoRow.holds Try.pinned (OpenSpec.upto shardCutsSpec)

/-- 'darnerlaw04.ShardNews', WHERE WHAT IT READS IS OF BULK AT MOST 1048576: true; the input reads as it did. -/
def shardNewsUptoRow : OpenClaim := { program := "ytphpliclecmnlaa", sum := "da42c6d0435177240d286f2a94835dc332193a75b3355f13a803804cf5c43fce", func := "darner/darnerlaw04.ShardNews", spec := "shardNews", unfollowed := true, recurses := true, apart := false, narrowed := true }
def ShardNewsUptoSaid : Prop := shardNewsUptoRow.holds Try.pinned (OpenSpec.upto shardNewsSpec)

/-- 'darnerlaw04.ShardSums', WHERE WHAT IT READS IS OF BULK AT MOST 1048576: true; the input reads as it did. -/
def shardSumsUptoRow : OpenClaim := { program := "ytphpliclecmnlaa", sum := "da42c6d0435177240d286f2a94835dc332193a75b3355f13a803804cf5c43fce", func := "darner/darnerlaw04.ShardSums", spec := "shardSums", unfollowed := true, recurses := true, apart := false, narrowed := true }
def ShardSumsUptoSaid : Prop := shardSumsUptoRow.holds Try.pinned (OpenSpec.upto shardSumsSpec)

/-- 'darnerlaw04.ShardAny', WHERE WHAT IT READS IS OF BULK AT MOST 1048576: true; the input reads as it did. -/
def shardAnyUptoRow : OpenClaim := { program := "ytphpliclecmnlaa", sum := "da42c6d0435177240d286f2a94835dc332193a75b3355f13a803804cf5c43fce", func := "darner/darnerlaw04.ShardAny", spec := "shardAny", unfollowed := true, recurses := true, apart := false, narrowed := true }
def ShardAnyUptoSaid : Prop := shardAnyUptoRow.holds Try.pinned (OpenSpec.upto shardAnySpec)

end Rows
end Go.Proofs.Ytphpliclecmnlaa
