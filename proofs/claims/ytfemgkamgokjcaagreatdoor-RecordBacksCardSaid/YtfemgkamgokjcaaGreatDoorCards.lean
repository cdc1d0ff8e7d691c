/-
  DERIVED. GIVEN WITH THE SEED: THE CARDS: each row of YtfemgkamgokjcaaGreatDoorRows.lean that lists a variable, with what it lists TIED to the program's text (the seventh form; the later family's looks); each row that meets fmt, with fmt's text TOLD by the authors' own Lean function (tested against real Go, not proved from fmt's source: count such statements apart). THE CARD IS WHAT COUNTS. Prove the row's statement (the work); the ties are given (YtfemgkamgokjcaaGreatDoorTie.lean); close each card by the builder's one call (the guide's Derived/Test/ToyasCard.lean, 'card_holds'). Laid BY PROGRAM, IN A SANDBOX (cutbox-door.mjs). By AI agents, Wed Nov 11 2026. No macro, syntax, notation, axiom, sorry.
-/
import Derived.Test.YtfemgkamgokjcaaGreatDoorRows
import GoSem.ClaimSeven
namespace Go.Proofs.YtfemgkamgokjcaaGreatDoor
namespace Rows

/-- THE TIED CARD OF 'darnerlaw10.RecordBacks'. -/
def recordBacksCard : Claim7 := { stood := { row := recordBacksRow, standIns := [], harness := (true, "5edf3f9998e98ee56b49a8f0bfc1fa723d412b99434aa2c5e3947165fe332059"), looks := true }, kinds := [], alts := [], laidByText := true, laidKinds := [.data, .data, .data, .pinned], laidTests := true, laidLooks := .later }
def RecordBacksCardSaid : Prop := Claim7.holds Tryz.pinned (.plain (OpenSpec.ofChange recordBacksSpec)) recordBacksCard

/-- THE TIED CARD OF 'darnerlaw11.ArchiveSets'. -/
def archiveSetsCard : Claim7 := { stood := { row := archiveSetsRow, standIns := [], harness := (true, "5edf3f9998e98ee56b49a8f0bfc1fa723d412b99434aa2c5e3947165fe332059"), looks := true }, kinds := [], alts := [], laidByText := true, laidKinds := [.data, .data, .data, .data, .pinned], laidTests := true, laidLooks := .later }
def ArchiveSetsCardSaid : Prop := Claim7.holds Tryz.pinned (.plain (OpenSpec.ofChange archiveSetsSpec)) archiveSetsCard

/-- THE TIED CARD OF 'darnerlaw11.ArchiveNone'. -/
def archiveNoneCard : Claim7 := { stood := { row := archiveNoneRow, standIns := [], harness := (true, "5edf3f9998e98ee56b49a8f0bfc1fa723d412b99434aa2c5e3947165fe332059"), looks := true }, kinds := [], alts := [], laidByText := true, laidKinds := [.data, .data, .data, .data, .pinned], laidTests := true, laidLooks := .later }
def ArchiveNoneCardSaid : Prop := Claim7.holds Tryz.pinned (.plain (OpenSpec.ofChange archiveNoneSpec)) archiveNoneCard

/-- THE TIED CARD OF 'darnerlaw11.ArchiveTurns'. -/
def archiveTurnsCard : Claim7 := { stood := { row := archiveTurnsRow, standIns := [], harness := (true, "5edf3f9998e98ee56b49a8f0bfc1fa723d412b99434aa2c5e3947165fe332059"), looks := true }, kinds := [], alts := [], laidByText := true, laidKinds := [.data, .data, .data, .data, .pinned], laidTests := true, laidLooks := .later }
def ArchiveTurnsCardSaid : Prop := Claim7.holds Tryz.pinned (.plain (OpenSpec.ofChange archiveTurnsSpec)) archiveTurnsCard

/-- THE SECOND FORM's CARD OF 'darnerlaw10.RecordBacks'. -/
def recordBacksUptoCard : Claim7 := { stood := { row := recordBacksUptoRow, standIns := [], harness := (true, "5edf3f9998e98ee56b49a8f0bfc1fa723d412b99434aa2c5e3947165fe332059"), looks := true }, kinds := [], alts := [], laidByText := true, laidKinds := [.data, .data, .data, .pinned], laidTests := true, laidLooks := .later }
def RecordBacksUptoCardSaid : Prop := Claim7.holds Tryz.pinned (.plain (OpenSpec.upto recordBacksSpec)) recordBacksUptoCard

/-- THE SECOND FORM's CARD OF 'darnerlaw11.ArchiveSets'. -/
def archiveSetsUptoCard : Claim7 := { stood := { row := archiveSetsUptoRow, standIns := [], harness := (true, "5edf3f9998e98ee56b49a8f0bfc1fa723d412b99434aa2c5e3947165fe332059"), looks := true }, kinds := [], alts := [], laidByText := true, laidKinds := [.data, .data, .data, .data, .pinned], laidTests := true, laidLooks := .later }
def ArchiveSetsUptoCardSaid : Prop := Claim7.holds Tryz.pinned (.plain (OpenSpec.upto archiveSetsSpec)) archiveSetsUptoCard

/-- THE SECOND FORM's CARD OF 'darnerlaw11.ArchiveNone'. -/
def archiveNoneUptoCard : Claim7 := { stood := { row := archiveNoneUptoRow, standIns := [], harness := (true, "5edf3f9998e98ee56b49a8f0bfc1fa723d412b99434aa2c5e3947165fe332059"), looks := true }, kinds := [], alts := [], laidByText := true, laidKinds := [.data, .data, .data, .data, .pinned], laidTests := true, laidLooks := .later }
def ArchiveNoneUptoCardSaid : Prop := Claim7.holds Tryz.pinned (.plain (OpenSpec.upto archiveNoneSpec)) archiveNoneUptoCard

/-- THE SECOND FORM's CARD OF 'darnerlaw11.ArchiveTurns'. -/
def archiveTurnsUptoCard : Claim7 := { stood := { row := archiveTurnsUptoRow, standIns := [], harness := (true, "5edf3f9998e98ee56b49a8f0bfc1fa723d412b99434aa2c5e3947165fe332059"), looks := true }, kinds := [], alts := [], laidByText := true, laidKinds := [.data, .data, .data, .data, .pinned], laidTests := true, laidLooks := .later }
def ArchiveTurnsUptoCardSaid : Prop := Claim7.holds Tryz.pinned (.plain (OpenSpec.upto archiveTurnsSpec)) archiveTurnsUptoCard
end Rows
end Go.Proofs.YtfemgkamgokjcaaGreatDoor
