/-
  No cell of these rows narrows 'for every input' (looked for: loops, veiled, ifaces, maps, wideKeys, modest, calm, conditions, laid).
  DERIVED. THE GIVEN ROWS OF THIS SEAT. 5 by the template 'for every input the law returns true; each argument reads behind the call as it read before'; 0 by the template 'total and deterministic' (their statements: YtdkbmidacpooiaaTotals.lean).
  GIVEN WITH THE SEED: the statements are not yours to turn. If you find one false, say at which input.
  Laid BY PROGRAM, IN A SANDBOX (cutbox-rows.mjs): the forced cells as the released guide's own fill.sh prints them over the translation 319f2e3e7aef79f6… (all of the seat's roots in one cut). By AI agents, Wed Nov 11 2026. No macro, syntax, notation, axiom, sorry.
-/
import Derived.Test.YtdkbmidacpooiaaChecked
import GoSem.Claim
import GoSem.ClaimJoined
import GoSem.ClaimMapViews
import Derived.JoinedTies
import Derived.KernelRfl
namespace Go.Proofs.Ytdkbmidacpooiaa
/- THE CELL 'sum', in the pinned program and in every row, IS THE sha256 OF THE DUMP (.gsa) THAT YtdkbmidacpooiaaProg.lean LOADS. Nothing in Lean hashes anything: it is a label: what it is worth is what the hold of that sum in a sandbox is worth. -/
noncomputable def Try.pinned : Pinned := { name := "ytdkbmidacpooiaa", sum := "319f2e3e7aef79f66328b731cf5e0e5780102efea403186cb28d878477b613bf", checked := Try.checked }
namespace Rows
def none {H : Type} : Left H := { results := [], args := [] }

/-- 'darnerlaw09.VectorOrders': WHATEVER THE INPUT: true; the input reads as it did. -/
def vectorOrdersSpec : ChangeSpec := { name := "vectorOrders", fn := fun _ => fun
  | [d1, d2, d3] => { results := [.lit (.bool true)], args := [d1, d2, d3] }
  | _ => none }
def vectorOrdersRow : OpenClaim := { program := "ytdkbmidacpooiaa", sum := "319f2e3e7aef79f66328b731cf5e0e5780102efea403186cb28d878477b613bf", func := "darner/darnerlaw09.VectorOrders", spec := "vectorOrders", apart := false }
def VectorOrdersSaid : Prop := vectorOrdersRow.holds Try.pinned (OpenSpec.ofChange vectorOrdersSpec)

/-- ITS FALSE NEIGHBOUR: 'it returns false'. Refute it at one input. -/
def vectorOrdersWrong : ChangeSpec := { name := "vectorOrders", fn := fun _ => fun
  | [d1, d2, d3] => { results := [.lit (.bool false)], args := [d1, d2, d3] }
  | _ => none }
def VectorOrdersWrongFalsely : Prop := vectorOrdersRow.holds Try.pinned (OpenSpec.ofChange vectorOrdersWrong)

/-- 'darnerlaw09.VectorBumps': WHATEVER THE INPUT: true; the input reads as it did. -/
def vectorBumpsSpec : ChangeSpec := { name := "vectorBumps", fn := fun _ => fun
  | [d1, d2] => { results := [.lit (.bool true)], args := [d1, d2] }
  | _ => none }
def vectorBumpsRow : OpenClaim := { program := "ytdkbmidacpooiaa", sum := "319f2e3e7aef79f66328b731cf5e0e5780102efea403186cb28d878477b613bf", func := "darner/darnerlaw09.VectorBumps", spec := "vectorBumps", apart := false }
def VectorBumpsSaid : Prop := vectorBumpsRow.holds Try.pinned (OpenSpec.ofChange vectorBumpsSpec)

/-- ITS FALSE NEIGHBOUR: 'it returns false'. Refute it at one input. -/
def vectorBumpsWrong : ChangeSpec := { name := "vectorBumps", fn := fun _ => fun
  | [d1, d2] => { results := [.lit (.bool false)], args := [d1, d2] }
  | _ => none }
def VectorBumpsWrongFalsely : Prop := vectorBumpsRow.holds Try.pinned (OpenSpec.ofChange vectorBumpsWrong)

/-- 'darnerlaw09.VectorLasts': WHATEVER THE INPUT: true; the input reads as it did. -/
def vectorLastsSpec : ChangeSpec := { name := "vectorLasts", fn := fun _ => fun
  | [d] => { results := [.lit (.bool true)], args := [d] }
  | _ => none }
def vectorLastsRow : OpenClaim := { program := "ytdkbmidacpooiaa", sum := "319f2e3e7aef79f66328b731cf5e0e5780102efea403186cb28d878477b613bf", func := "darner/darnerlaw09.VectorLasts", spec := "vectorLasts", apart := false }
def VectorLastsSaid : Prop := vectorLastsRow.holds Try.pinned (OpenSpec.ofChange vectorLastsSpec)

/-- ITS FALSE NEIGHBOUR: 'it returns false'. Refute it at one input. -/
def vectorLastsWrong : ChangeSpec := { name := "vectorLasts", fn := fun _ => fun
  | [d] => { results := [.lit (.bool false)], args := [d] }
  | _ => none }
def VectorLastsWrongFalsely : Prop := vectorLastsRow.holds Try.pinned (OpenSpec.ofChange vectorLastsWrong)

/-- 'darnerlaw09.VectorAnys': WHATEVER THE INPUT: true; the input reads as it did. -/
def vectorAnysSpec : ChangeSpec := { name := "vectorAnys", fn := fun _ => fun
  | [d] => { results := [.lit (.bool true)], args := [d] }
  | _ => none }
def vectorAnysRow : OpenClaim := { program := "ytdkbmidacpooiaa", sum := "319f2e3e7aef79f66328b731cf5e0e5780102efea403186cb28d878477b613bf", func := "darner/darnerlaw09.VectorAnys", spec := "vectorAnys", unfollowed := true, recurses := true, apart := false }
def VectorAnysSaid : Prop := vectorAnysRow.holds Try.pinned (OpenSpec.ofChange vectorAnysSpec)

/-- ITS FALSE NEIGHBOUR: 'it returns false'. Refute it at one input. -/
def vectorAnysWrong : ChangeSpec := { name := "vectorAnys", fn := fun _ => fun
  | [d] => { results := [.lit (.bool false)], args := [d] }
  | _ => none }
def VectorAnysWrongFalsely : Prop := vectorAnysRow.holds Try.pinned (OpenSpec.ofChange vectorAnysWrong)

/-- 'darnerlaw09.VectorChains': WHATEVER THE INPUT: true; the input reads as it did. -/
def vectorChainsSpec : ChangeSpec := { name := "vectorChains", fn := fun _ => fun
  | [d] => { results := [.lit (.bool true)], args := [d] }
  | _ => none }
def vectorChainsRow : OpenClaim := { program := "ytdkbmidacpooiaa", sum := "319f2e3e7aef79f66328b731cf5e0e5780102efea403186cb28d878477b613bf", func := "darner/darnerlaw09.VectorChains", spec := "vectorChains", apart := false }
def VectorChainsSaid : Prop := vectorChainsRow.holds Try.pinned (OpenSpec.ofChange vectorChainsSpec)

/-- ITS FALSE NEIGHBOUR: 'it returns false'. Refute it at one input. -/
def vectorChainsWrong : ChangeSpec := { name := "vectorChains", fn := fun _ => fun
  | [d] => { results := [.lit (.bool false)], args := [d] }
  | _ => none }
def VectorChainsWrongFalsely : Prop := vectorChainsRow.holds Try.pinned (OpenSpec.ofChange vectorChainsWrong)

/- THE SECOND FORM. 'bulk': how many values and letters a reading holds, each counted each time it is reached (what is shared counts as often as it is met; a slice's spare places count too). A statement '..UptoSaid' is the law's where the arguments, and the package variables that the reading takes, are together of bulk at most 1048576: NARROWER than '..Said'. Prove '..Said' where nothing that the law and all that it calls make is longer than what came in: it says more and counts as full. Else prove '..UptoSaid'. A law counts once. -/
mutual
def uptoBulk {H : Type} : DataW H → Nat
  | .lit (.string bytes) => bytes.length + 1
  | .lit _ => 1
  | .nil => 1
  | .ptr d => uptoBulk d + 1
  | .slice elems spare => uptoBulkAll elems + uptoBulkAll spare + 1
  | .agg parts => uptoBulkAll parts + 1
  | .iface _ d => uptoBulk d + 1
  | .map entries => uptoBulkEntries entries + 1
  | .held _ => 1
def uptoBulkAll {H : Type} : List (DataW H) → Nat
  | [] => 0
  | d :: r => uptoBulk d + uptoBulkAll r
def uptoBulkEntries {H : Type} : List (Lit × DataW H) → Nat
  | [] => 0
  | x :: r => uptoBulkEntry x + uptoBulkEntries r
def uptoBulkEntry {H : Type} : Lit × DataW H → Nat
  | (.string bytes, d) => bytes.length + uptoBulk d + 1
  | (_, d) => uptoBulk d + 1
 end
def uptoSmall : (H : Type) → List (DataW H) → Bool := fun _ ds => decide (uptoBulkAll ds ≤ 1048576)
def OpenSpec.upto (s : _root_.Go.ChangeSpec) : _root_.Go.OpenSpec := { _root_.Go.OpenSpec.ofChange s with cond := some uptoSmall }

/-- 'darnerlaw09.VectorOrders', WHERE WHAT IT READS IS OF BULK AT MOST 1048576: true; the input reads as it did. -/
def vectorOrdersUptoRow : OpenClaim := { program := "ytdkbmidacpooiaa", sum := "319f2e3e7aef79f66328b731cf5e0e5780102efea403186cb28d878477b613bf", func := "darner/darnerlaw09.VectorOrders", spec := "vectorOrders", apart := false, narrowed := true }
def VectorOrdersUptoSaid : Prop := vectorOrdersUptoRow.holds Try.pinned (OpenSpec.upto vectorOrdersSpec)

/-- 'darnerlaw09.VectorBumps', WHERE WHAT IT READS IS OF BULK AT MOST 1048576: true; the input reads as it did. -/
def vectorBumpsUptoRow : OpenClaim := { program := "ytdkbmidacpooiaa", sum := "319f2e3e7aef79f66328b731cf5e0e5780102efea403186cb28d878477b613bf", func := "darner/darnerlaw09.VectorBumps", spec := "vectorBumps", apart := false, narrowed := true }
def VectorBumpsUptoSaid : Prop := vectorBumpsUptoRow.holds Try.pinned (OpenSpec.upto vectorBumpsSpec)

/-- 'darnerlaw09.VectorLasts', WHERE WHAT IT READS IS OF BULK AT MOST 1048576: true; the input reads as it did. -/
def vectorLastsUptoRow : OpenClaim := { program := "ytdkbmidacpooiaa", sum := "319f2e3e7aef79f66328b731cf5e0e5780102efea403186cb28d878477b613bf", func := "darner/darnerlaw09.VectorLasts", spec := "vectorLasts", apart := false, narrowed := true }
def VectorLastsUptoSaid : Prop := vectorLastsUptoRow.holds Try.pinned (OpenSpec.upto vectorLastsSpec)

/-- 'darnerlaw09.VectorAnys', WHERE WHAT IT READS IS OF BULK AT MOST 1048576: true; the input reads as it did. -/
def vectorAnysUptoRow : OpenClaim := { program := "ytdkbmidacpooiaa", sum := "319f2e3e7aef79f66328b731cf5e0e5780102efea403186cb28d878477b613bf", func := "darner/darnerlaw09.VectorAnys", spec := "vectorAnys", unfollowed := true, recurses := true, apart := false, narrowed := true }
def VectorAnysUptoSaid : Prop := vectorAnysUptoRow.holds Try.pinned (OpenSpec.upto vectorAnysSpec)

/-- 'darnerlaw09.VectorChains', WHERE WHAT IT READS IS OF BULK AT MOST 1048576: true; the input reads as it did. -/
def vectorChainsUptoRow : OpenClaim := { program := "ytdkbmidacpooiaa", sum := "319f2e3e7aef79f66328b731cf5e0e5780102efea403186cb28d878477b613bf", func := "darner/darnerlaw09.VectorChains", spec := "vectorChains", apart := false, narrowed := true }
def VectorChainsUptoSaid : Prop := vectorChainsUptoRow.holds Try.pinned (OpenSpec.upto vectorChainsSpec)

end Rows
end Go.Proofs.Ytdkbmidacpooiaa
