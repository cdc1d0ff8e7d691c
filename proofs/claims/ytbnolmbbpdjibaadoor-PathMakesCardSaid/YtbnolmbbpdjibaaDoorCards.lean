/-
  DERIVED. GIVEN WITH THE SEED: THE CARDS: each row of YtbnolmbbpdjibaaDoorRows.lean that lists a variable, with what it lists TIED to the program's text (the seventh form; the later family's looks); each row that meets fmt, with fmt's text TOLD by the authors' own Lean function (tested against real Go, not proved from fmt's source: count such statements apart). THE CARD IS WHAT COUNTS. Prove the row's statement (the work); the ties are given (YtbnolmbbpdjibaaDoorTie.lean); close each card by the builder's one call (the guide's Derived/Test/ToyasCard.lean, 'card_holds'). Laid BY PROGRAM, IN A SANDBOX (cutbox-door.mjs). By AI agents, Wed Nov 11 2026. No macro, syntax, notation, axiom, sorry.
-/
import Derived.Test.YtbnolmbbpdjibaaDoorRows
import GoSem.ClaimSeven
namespace Go.Proofs.YtbnolmbbpdjibaaDoor
namespace Rows

/-- THE TIED CARD OF 'darnerlaw07.PathKinds'. -/
def pathKindsCard : Claim7 := { stood := { row := pathKindsRow, standIns := [], harness := (true, "0dd0ba031c7481c6e13896becd8ad9fb47fbf2352f9506e9ae2cf1323cf98a14"), looks := false }, kinds := [], alts := [], laidByText := true, laidKinds := [.data, .pinned], laidTests := true, laidLooks := .later }
def PathKindsCardSaid : Prop := Claim7.holds Tryd.pinned (.plain (OpenSpec.ofChange pathKindsSpec)) pathKindsCard

/-- THE TIED CARD OF 'darnerlaw07.PathMakes'. -/
def pathMakesCard : Claim7 := { stood := { row := pathMakesRow, standIns := [], harness := (true, "0dd0ba031c7481c6e13896becd8ad9fb47fbf2352f9506e9ae2cf1323cf98a14"), looks := false }, kinds := [], alts := [], laidByText := true, laidKinds := [.data, .data, .data, .data, .pinned], laidTests := true, laidLooks := .later }
def PathMakesCardSaid : Prop := Claim7.holds Tryd.pinned (.plain (OpenSpec.ofChange pathMakesSpec)) pathMakesCard

/-- THE TIED CARD OF 'darnerlaw07.PathClashes'. -/
def pathClashesCard : Claim7 := { stood := { row := pathClashesRow, standIns := [], harness := (true, "0dd0ba031c7481c6e13896becd8ad9fb47fbf2352f9506e9ae2cf1323cf98a14"), looks := false }, kinds := [], alts := [], laidByText := true, laidKinds := [.data, .pinned], laidTests := true, laidLooks := .later }
def PathClashesCardSaid : Prop := Claim7.holds Tryd.pinned (.plain (OpenSpec.ofChange pathClashesSpec)) pathClashesCard

/-- THE TIED CARD OF 'darnerlaw07.PathFirsts'. -/
def pathFirstsCard : Claim7 := { stood := { row := pathFirstsRow, standIns := [], harness := (true, "0dd0ba031c7481c6e13896becd8ad9fb47fbf2352f9506e9ae2cf1323cf98a14"), looks := false }, kinds := [], alts := [], laidByText := true, laidKinds := [.data, .pinned], laidTests := true, laidLooks := .later }
def PathFirstsCardSaid : Prop := Claim7.holds Tryd.pinned (.plain (OpenSpec.ofChange pathFirstsSpec)) pathFirstsCard

/-- THE TIED CARD OF 'darnerlaw07.PathSides'. -/
def pathSidesCard : Claim7 := { stood := { row := pathSidesRow, standIns := [], harness := (true, "0dd0ba031c7481c6e13896becd8ad9fb47fbf2352f9506e9ae2cf1323cf98a14"), looks := false }, kinds := [], alts := [], laidByText := true, laidKinds := [.data, .data, .data, .data, .pinned], laidTests := true, laidLooks := .later }
def PathSidesCardSaid : Prop := Claim7.holds Tryd.pinned (.plain (OpenSpec.ofChange pathSidesSpec)) pathSidesCard

/-- THE SECOND FORM's CARD OF 'darnerlaw07.PathKinds'. -/
def pathKindsUptoCard : Claim7 := { stood := { row := pathKindsUptoRow, standIns := [], harness := (true, "0dd0ba031c7481c6e13896becd8ad9fb47fbf2352f9506e9ae2cf1323cf98a14"), looks := false }, kinds := [], alts := [], laidByText := true, laidKinds := [.data, .pinned], laidTests := true, laidLooks := .later }
def PathKindsUptoCardSaid : Prop := Claim7.holds Tryd.pinned (.plain (OpenSpec.upto pathKindsSpec)) pathKindsUptoCard

/-- THE SECOND FORM's CARD OF 'darnerlaw07.PathMakes'. -/
def pathMakesUptoCard : Claim7 := { stood := { row := pathMakesUptoRow, standIns := [], harness := (true, "0dd0ba031c7481c6e13896becd8ad9fb47fbf2352f9506e9ae2cf1323cf98a14"), looks := false }, kinds := [], alts := [], laidByText := true, laidKinds := [.data, .data, .data, .data, .pinned], laidTests := true, laidLooks := .later }
def PathMakesUptoCardSaid : Prop := Claim7.holds Tryd.pinned (.plain (OpenSpec.upto pathMakesSpec)) pathMakesUptoCard

/-- THE SECOND FORM's CARD OF 'darnerlaw07.PathClashes'. -/
def pathClashesUptoCard : Claim7 := { stood := { row := pathClashesUptoRow, standIns := [], harness := (true, "0dd0ba031c7481c6e13896becd8ad9fb47fbf2352f9506e9ae2cf1323cf98a14"), looks := false }, kinds := [], alts := [], laidByText := true, laidKinds := [.data, .pinned], laidTests := true, laidLooks := .later }
def PathClashesUptoCardSaid : Prop := Claim7.holds Tryd.pinned (.plain (OpenSpec.upto pathClashesSpec)) pathClashesUptoCard

/-- THE SECOND FORM's CARD OF 'darnerlaw07.PathFirsts'. -/
def pathFirstsUptoCard : Claim7 := { stood := { row := pathFirstsUptoRow, standIns := [], harness := (true, "0dd0ba031c7481c6e13896becd8ad9fb47fbf2352f9506e9ae2cf1323cf98a14"), looks := false }, kinds := [], alts := [], laidByText := true, laidKinds := [.data, .pinned], laidTests := true, laidLooks := .later }
def PathFirstsUptoCardSaid : Prop := Claim7.holds Tryd.pinned (.plain (OpenSpec.upto pathFirstsSpec)) pathFirstsUptoCard

/-- THE SECOND FORM's CARD OF 'darnerlaw07.PathSides'. -/
def pathSidesUptoCard : Claim7 := { stood := { row := pathSidesUptoRow, standIns := [], harness := (true, "0dd0ba031c7481c6e13896becd8ad9fb47fbf2352f9506e9ae2cf1323cf98a14"), looks := false }, kinds := [], alts := [], laidByText := true, laidKinds := [.data, .data, .data, .data, .pinned], laidTests := true, laidLooks := .later }
def PathSidesUptoCardSaid : Prop := Claim7.holds Tryd.pinned (.plain (OpenSpec.upto pathSidesSpec)) pathSidesUptoCard
end Rows
end Go.Proofs.YtbnolmbbpdjibaaDoor
