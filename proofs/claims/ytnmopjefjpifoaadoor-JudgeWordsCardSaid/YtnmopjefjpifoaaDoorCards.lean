/-
  DERIVED. GIVEN WITH THE SEED: THE CARDS: each row of YtnmopjefjpifoaaDoorRows.lean that lists a variable, with what it lists TIED to the program's text (the seventh form; the later family's looks); each row that meets fmt, with fmt's text TOLD by the authors' own Lean function (tested against real Go, not proved from fmt's source: count such statements apart). THE CARD IS WHAT COUNTS. Prove the row's statement (the work); the ties are given (YtnmopjefjpifoaaDoorTie.lean); close each card by the builder's one call (the guide's Derived/Test/ToyasCard.lean, 'card_holds'). Laid BY PROGRAM, IN A SANDBOX (cutbox-door.mjs). By AI agents, Wed Nov 11 2026. No macro, syntax, notation, axiom, sorry.
-/
import Derived.Test.YtnmopjefjpifoaaDoorRows
import GoSem.ClaimSeven
namespace Go.Proofs.YtnmopjefjpifoaaDoor
namespace Rows

/-- THE TIED CARD OF 'darnerlaw13.JudgeWords'. -/
def judgeWordsCard : Claim7 := { stood := { row := judgeWordsRow, standIns := [], harness := (true, "e45f9c8e435f54daf0b13ba6566425fead8f069b9e5c0de2579dfbc588d7b9b5"), looks := false }, kinds := [], alts := [], laidByText := true, laidKinds := [.data], laidTests := true, laidLooks := .later }
def JudgeWordsCardSaid : Prop := Claim7.holds Tryd.pinned (.plain (OpenSpec.ofChange judgeWordsSpec)) judgeWordsCard

/-- THE SECOND FORM's CARD OF 'darnerlaw13.JudgeWords'. -/
def judgeWordsUptoCard : Claim7 := { stood := { row := judgeWordsUptoRow, standIns := [], harness := (true, "e45f9c8e435f54daf0b13ba6566425fead8f069b9e5c0de2579dfbc588d7b9b5"), looks := false }, kinds := [], alts := [], laidByText := true, laidKinds := [.data], laidTests := true, laidLooks := .later }
def JudgeWordsUptoCardSaid : Prop := Claim7.holds Tryd.pinned (.plain (OpenSpec.upto judgeWordsSpec)) judgeWordsUptoCard
end Rows
end Go.Proofs.YtnmopjefjpifoaaDoor
