/-
  NARROWER THAN 'FOR EVERY INPUT', by the rows' own cells (each row's printed sentence says how): JudgeWords: laid.
  DERIVED. THE GIVEN ROWS OF THIS SEAT. 1 by the template 'for every input the law returns true; each argument reads behind the call as it read before'; 0 by the template 'total and deterministic' (their statements: YtnmopjefjpifoaaDoorTotals.lean).
  GIVEN WITH THE SEED: the statements are not yours to turn. If you find one false, say at which input.
  Laid BY PROGRAM, IN A SANDBOX (cutbox-rows.mjs): the forced cells as the released guide's own fill.sh prints them over the translation bdf4f5e9a922b3f7… (all of the seat's roots in one cut). By AI agents, Wed Nov 11 2026. No macro, syntax, notation, axiom, sorry.
-/
import Derived.Test.YtnmopjefjpifoaaDoorChecked
import GoSem.Claim
import GoSem.ClaimJoined
import GoSem.ClaimMapViews
import Derived.JoinedTies
import Derived.KernelRfl
namespace Go.Proofs.YtnmopjefjpifoaaDoor
/- THE CELL 'sum', in the pinned program and in every row, IS THE sha256 OF THE DUMP (.gsa) THAT YtnmopjefjpifoaaDoorProg.lean LOADS. Nothing in Lean hashes anything: it is a label: what it is worth is what the hold of that sum in a sandbox is worth. -/
noncomputable def Tryd.pinned : Pinned := { name := "ytnmopjefjpifoaadoor", sum := "bdf4f5e9a922b3f759a51596c53740d85efc895e7ef78023c5afc8aa0877cc86", checked := Tryd.checked }
namespace Rows
def none {H : Type} : Left H := { results := [], args := [] }

/- WHAT THE LISTED PACKAGE-LEVEL VARIABLES READ AS WHEN THE CALL BEGINS. Each datum BY PROGRAM (the guide's laid-datum.mjs) off the statement by which the dump's own 'gosem.cut.vars' lays the variable. In a bare row this is a premise. The card (YtnmopjefjpifoaaDoorCards.lean) ties it to the program's text. -/
def laid_darner_judge_names {H : Type} : DataW H := .agg [.lit (.string [110, 111, 110, 101]), .lit (.string [110, 101, 119]), .lit (.string [109, 105, 115, 115, 105, 110, 103]), .lit (.string [99, 108, 101, 97, 110]), .lit (.string [114, 111, 116]), .lit (.string [101, 100, 105, 116]), .lit (.string [116, 111, 117, 99, 104, 101, 100]), .lit (.string [103, 111, 110, 101]), .lit (.string [114, 101, 98, 111, 114, 110])]

/-- 'darnerlaw13.JudgeWords': WHATEVER THE INPUT: true; the input reads as it did. -/
def judgeWordsSpec : ChangeSpec := { name := "judgeWords", fn := fun _ => fun
  | [d1, d2] => { results := [.lit (.bool true)], args := [d1, d2] }
  | _ => none }
def judgeWordsRow : OpenClaim := { program := "ytnmopjefjpifoaadoor", sum := "bdf4f5e9a922b3f759a51596c53740d85efc895e7ef78023c5afc8aa0877cc86", func := "darner/darnerlaw13.JudgeWords", spec := "judgeWords", inPlace := ["math.Float64bits", "math.Float64frombits"], named := ["darner/judge.names"], apart := false, laid := [("darner/judge.names", laid_darner_judge_names)] }
def JudgeWordsSaid : Prop := judgeWordsRow.holds Tryd.pinned (OpenSpec.ofChange judgeWordsSpec)

/-- ITS FALSE NEIGHBOUR: 'it returns false'. Refute it at one input. -/
def judgeWordsWrong : ChangeSpec := { name := "judgeWords", fn := fun _ => fun
  | [d1, d2] => { results := [.lit (.bool false)], args := [d1, d2] }
  | _ => none }
def JudgeWordsWrongFalsely : Prop := judgeWordsRow.holds Tryd.pinned (OpenSpec.ofChange judgeWordsWrong)

/- THE SECOND FORM. 'bulk': how many values and letters a reading holds, each counted each time it is reached (what is shared counts as often as it is met; a slice's spare places count too). A statement '..UptoSaid' is the law's where the arguments, and the package variables that the reading takes, are together of bulk at most 1048576: NARROWER than '..Said'. Prove '..Said' where nothing that the law and all that it calls make is longer than what came in: it says more and counts as full. Else prove '..UptoSaid'. A law counts once. -/
mutual
def uptoBulk {H : Type} : DataW H → Nat
  | .lit (.string bytes) => bytes.length + 1
  | .lit _ => 1
  | .nil => 1
  | .ptr d => uptoBulk d + 1
  | .slice elems spare => uptoBulkAll elems + uptoBulkAll spare + 1
  | .agg parts => uptoBulkAll parts + 1
  | .iface _ d => uptoBulk d + 1
  | .map entries => uptoBulkEntries entries + 1
  | .held _ => 1
def uptoBulkAll {H : Type} : List (DataW H) → Nat
  | [] => 0
  | d :: r => uptoBulk d + uptoBulkAll r
def uptoBulkEntries {H : Type} : List (Lit × DataW H) → Nat
  | [] => 0
  | x :: r => uptoBulkEntry x + uptoBulkEntries r
def uptoBulkEntry {H : Type} : Lit × DataW H → Nat
  | (.string bytes, d) => bytes.length + uptoBulk d + 1
  | (_, d) => uptoBulk d + 1
 end
def uptoSmall : (H : Type) → List (DataW H) → Bool := fun _ ds => decide (uptoBulkAll ds ≤ 1048576)
def OpenSpec.upto (s : _root_.Go.ChangeSpec) : _root_.Go.OpenSpec := { _root_.Go.OpenSpec.ofChange s with cond := some uptoSmall }

/-- 'darnerlaw13.JudgeWords', WHERE WHAT IT READS IS OF BULK AT MOST 1048576: true; the input reads as it did. -/
def judgeWordsUptoRow : OpenClaim := { program := "ytnmopjefjpifoaadoor", sum := "bdf4f5e9a922b3f759a51596c53740d85efc895e7ef78023c5afc8aa0877cc86", func := "darner/darnerlaw13.JudgeWords", spec := "judgeWords", inPlace := ["math.Float64bits", "math.Float64frombits"], named := ["darner/judge.names"], apart := false, laid := [("darner/judge.names", laid_darner_judge_names)], narrowed := true }
def JudgeWordsUptoSaid : Prop := judgeWordsUptoRow.holds Tryd.pinned (OpenSpec.upto judgeWordsSpec)

end Rows
end Go.Proofs.YtnmopjefjpifoaaDoor
