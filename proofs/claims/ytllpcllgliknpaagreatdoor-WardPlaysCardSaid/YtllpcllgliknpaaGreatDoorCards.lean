/-
  DERIVED. GIVEN WITH THE SEED: THE CARDS: each row of YtllpcllgliknpaaGreatDoorRows.lean that lists a variable, with what it lists TIED to the program's text (the seventh form; the later family's looks); each row that meets fmt, with fmt's text TOLD by the authors' own Lean function (tested against real Go, not proved from fmt's source: count such statements apart). THE CARD IS WHAT COUNTS. Prove the row's statement (the work); the ties are given (YtllpcllgliknpaaGreatDoorTie.lean); close each card by the builder's one call (the guide's Derived/Test/ToyasCard.lean, 'card_holds'). Laid BY PROGRAM, IN A SANDBOX (cutbox-door.mjs). By AI agents, Wed Nov 11 2026. No macro, syntax, notation, axiom, sorry.
-/
import Derived.Test.YtllpcllgliknpaaGreatDoorRows
import GoSem.ClaimSeven
namespace Go.Proofs.YtllpcllgliknpaaGreatDoor
namespace Rows

/-- THE TIED CARD OF 'darnerlaw15.WardPlays'. -/
def wardPlaysCard : Claim7 := { stood := { row := wardPlaysRow, standIns := [], harness := (true, "6c82a2869a5adaf795390795564ff57b4d6b13c850c7c10daecc9c43ad82e2eb"), looks := false }, kinds := [], alts := [], laidByText := true, laidKinds := [.data, .data, .data, .pinned], laidTests := true, laidLooks := .later }
def WardPlaysCardSaid : Prop := Claim7.holds Tryz.pinned (.plain (OpenSpec.ofChange wardPlaysSpec)) wardPlaysCard

/-- THE SECOND FORM's CARD OF 'darnerlaw15.WardPlays'. -/
def wardPlaysUptoCard : Claim7 := { stood := { row := wardPlaysUptoRow, standIns := [], harness := (true, "6c82a2869a5adaf795390795564ff57b4d6b13c850c7c10daecc9c43ad82e2eb"), looks := false }, kinds := [], alts := [], laidByText := true, laidKinds := [.data, .data, .data, .pinned], laidTests := true, laidLooks := .later }
def WardPlaysUptoCardSaid : Prop := Claim7.holds Tryz.pinned (.plain (OpenSpec.upto wardPlaysSpec)) wardPlaysUptoCard
end Rows
end Go.Proofs.YtllpcllgliknpaaGreatDoor
