/-
  DERIVED. GIVEN WITH THE SEED: THE CARDS: each row of YtkfceloaomlhmaaDoorRows.lean that lists a variable, with what it lists TIED to the program's text (the seventh form; the later family's looks); each row that meets fmt, with fmt's text TOLD by the authors' own Lean function (tested against real Go, not proved from fmt's source: count such statements apart). THE CARD IS WHAT COUNTS. Prove the row's statement (the work); the ties are given (YtkfceloaomlhmaaDoorTie.lean); close each card by the builder's one call (the guide's Derived/Test/ToyasCard.lean, 'card_holds'). Laid BY PROGRAM, IN A SANDBOX (cutbox-door.mjs). By AI agents, Wed Nov 11 2026. No macro, syntax, notation, axiom, sorry.
-/
import Derived.Test.YtkfceloaomlhmaaDoorRows
import GoSem.ClaimSeven
namespace Go.Proofs.YtkfceloaomlhmaaDoor
namespace Rows

/-- THE TIED CARD OF 'darnerlaw12.SidecarMakes'. -/
def sidecarMakesCard : Claim7 := { stood := { row := sidecarMakesRow, standIns := [], harness := (true, "364a5d94f87f5130b62a6bb8ae9c39c98a8e60c78f6d5000b85f5a0eb0a5c1b5"), looks := false }, kinds := [], alts := [], laidByText := true, laidKinds := [.data, .data], laidTests := true, laidLooks := .later }
def SidecarMakesCardSaid : Prop := Claim7.holds Tryd.pinned (.plain (OpenSpec.ofChange sidecarMakesSpec)) sidecarMakesCard

/-- THE TIED CARD OF 'darnerlaw12.SidecarStands'. -/
def sidecarStandsCard : Claim7 := { stood := { row := sidecarStandsRow, standIns := [], harness := (true, "364a5d94f87f5130b62a6bb8ae9c39c98a8e60c78f6d5000b85f5a0eb0a5c1b5"), looks := false }, kinds := [], alts := [], laidByText := true, laidKinds := [.data, .data], laidTests := true, laidLooks := .later }
def SidecarStandsCardSaid : Prop := Claim7.holds Tryd.pinned (.plain (OpenSpec.ofChange sidecarStandsSpec)) sidecarStandsCard

/-- THE SECOND FORM's CARD OF 'darnerlaw12.SidecarMakes'. -/
def sidecarMakesUptoCard : Claim7 := { stood := { row := sidecarMakesUptoRow, standIns := [], harness := (true, "364a5d94f87f5130b62a6bb8ae9c39c98a8e60c78f6d5000b85f5a0eb0a5c1b5"), looks := false }, kinds := [], alts := [], laidByText := true, laidKinds := [.data, .data], laidTests := true, laidLooks := .later }
def SidecarMakesUptoCardSaid : Prop := Claim7.holds Tryd.pinned (.plain (OpenSpec.upto sidecarMakesSpec)) sidecarMakesUptoCard

/-- THE SECOND FORM's CARD OF 'darnerlaw12.SidecarStands'. -/
def sidecarStandsUptoCard : Claim7 := { stood := { row := sidecarStandsUptoRow, standIns := [], harness := (true, "364a5d94f87f5130b62a6bb8ae9c39c98a8e60c78f6d5000b85f5a0eb0a5c1b5"), looks := false }, kinds := [], alts := [], laidByText := true, laidKinds := [.data, .data], laidTests := true, laidLooks := .later }
def SidecarStandsUptoCardSaid : Prop := Claim7.holds Tryd.pinned (.plain (OpenSpec.upto sidecarStandsSpec)) sidecarStandsUptoCard
end Rows
end Go.Proofs.YtkfceloaomlhmaaDoor
