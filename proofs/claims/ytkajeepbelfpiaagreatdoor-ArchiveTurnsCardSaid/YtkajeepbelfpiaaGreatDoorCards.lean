/-
  DERIVED. GIVEN WITH THE SEED: THE CARDS: each row of YtkajeepbelfpiaaGreatDoorRows.lean that lists a variable, with what it lists TIED to the program's text (the seventh form; the later family's looks); each row that meets fmt, with fmt's text TOLD by the authors' own Lean function (tested against real Go, not proved from fmt's source: count such statements apart). THE CARD IS WHAT COUNTS. Prove the row's statement (the work); the ties are given (YtkajeepbelfpiaaGreatDoorTie.lean); close each card by the builder's one call (the guide's Derived/Test/ToyasCard.lean, 'card_holds'). Laid BY PROGRAM, IN A SANDBOX (cutbox-door.mjs). By AI agents, Wed Nov 11 2026. No macro, syntax, notation, axiom, sorry.
-/
import Derived.Test.YtkajeepbelfpiaaGreatDoorRows
import GoSem.ClaimSeven
namespace Go.Proofs.YtkajeepbelfpiaaGreatDoor
namespace Rows

/-- THE TIED CARD OF 'darnerlaw11.ArchiveSets'. -/
def archiveSetsCard : Claim7 := { stood := { row := archiveSetsRow, standIns := [], harness := (true, "be20d8f5f80b2552fd4f847025a47a1bcb5a3be4698281f227acf5d2dcd77489"), looks := true }, kinds := [], alts := [], laidByText := true, laidKinds := [.data, .data, .data, .data, .pinned], laidTests := true, laidLooks := .later }
def ArchiveSetsCardSaid : Prop := Claim7.holds Tryz.pinned (.plain (OpenSpec.ofChange archiveSetsSpec)) archiveSetsCard

/-- THE TIED CARD OF 'darnerlaw11.ArchiveTurns'. -/
def archiveTurnsCard : Claim7 := { stood := { row := archiveTurnsRow, standIns := [], harness := (true, "be20d8f5f80b2552fd4f847025a47a1bcb5a3be4698281f227acf5d2dcd77489"), looks := true }, kinds := [], alts := [], laidByText := true, laidKinds := [.data, .data, .data, .data, .pinned], laidTests := true, laidLooks := .later }
def ArchiveTurnsCardSaid : Prop := Claim7.holds Tryz.pinned (.plain (OpenSpec.ofChange archiveTurnsSpec)) archiveTurnsCard

/-- THE TIED CARD OF 'darnerlaw13.JudgeSweeps'. -/
def judgeSweepsCard : Claim7 := { stood := { row := judgeSweepsRow, standIns := [], harness := (true, "be20d8f5f80b2552fd4f847025a47a1bcb5a3be4698281f227acf5d2dcd77489"), looks := true }, kinds := [], alts := [], laidByText := true, laidKinds := [.data, .data, .data, .data, .pinned], laidTests := true, laidLooks := .later }
def JudgeSweepsCardSaid : Prop := Claim7.holds Tryz.pinned (.plain (OpenSpec.ofChange judgeSweepsSpec)) judgeSweepsCard

/-- THE TIED CARD OF 'darnerlaw13.JudgeAlls'. -/
def judgeAllsCard : Claim7 := { stood := { row := judgeAllsRow, standIns := [], harness := (true, "be20d8f5f80b2552fd4f847025a47a1bcb5a3be4698281f227acf5d2dcd77489"), looks := true }, kinds := [], alts := [], laidByText := true, laidKinds := [.data, .data, .data, .data, .pinned], laidTests := true, laidLooks := .later }
def JudgeAllsCardSaid : Prop := Claim7.holds Tryz.pinned (.plain (OpenSpec.ofChange judgeAllsSpec)) judgeAllsCard

/-- THE SECOND FORM's CARD OF 'darnerlaw11.ArchiveSets'. -/
def archiveSetsUptoCard : Claim7 := { stood := { row := archiveSetsUptoRow, standIns := [], harness := (true, "be20d8f5f80b2552fd4f847025a47a1bcb5a3be4698281f227acf5d2dcd77489"), looks := true }, kinds := [], alts := [], laidByText := true, laidKinds := [.data, .data, .data, .data, .pinned], laidTests := true, laidLooks := .later }
def ArchiveSetsUptoCardSaid : Prop := Claim7.holds Tryz.pinned (.plain (OpenSpec.upto archiveSetsSpec)) archiveSetsUptoCard

/-- THE SECOND FORM's CARD OF 'darnerlaw11.ArchiveTurns'. -/
def archiveTurnsUptoCard : Claim7 := { stood := { row := archiveTurnsUptoRow, standIns := [], harness := (true, "be20d8f5f80b2552fd4f847025a47a1bcb5a3be4698281f227acf5d2dcd77489"), looks := true }, kinds := [], alts := [], laidByText := true, laidKinds := [.data, .data, .data, .data, .pinned], laidTests := true, laidLooks := .later }
def ArchiveTurnsUptoCardSaid : Prop := Claim7.holds Tryz.pinned (.plain (OpenSpec.upto archiveTurnsSpec)) archiveTurnsUptoCard

/-- THE SECOND FORM's CARD OF 'darnerlaw13.JudgeSweeps'. -/
def judgeSweepsUptoCard : Claim7 := { stood := { row := judgeSweepsUptoRow, standIns := [], harness := (true, "be20d8f5f80b2552fd4f847025a47a1bcb5a3be4698281f227acf5d2dcd77489"), looks := true }, kinds := [], alts := [], laidByText := true, laidKinds := [.data, .data, .data, .data, .pinned], laidTests := true, laidLooks := .later }
def JudgeSweepsUptoCardSaid : Prop := Claim7.holds Tryz.pinned (.plain (OpenSpec.upto judgeSweepsSpec)) judgeSweepsUptoCard

/-- THE SECOND FORM's CARD OF 'darnerlaw13.JudgeAlls'. -/
def judgeAllsUptoCard : Claim7 := { stood := { row := judgeAllsUptoRow, standIns := [], harness := (true, "be20d8f5f80b2552fd4f847025a47a1bcb5a3be4698281f227acf5d2dcd77489"), looks := true }, kinds := [], alts := [], laidByText := true, laidKinds := [.data, .data, .data, .data, .pinned], laidTests := true, laidLooks := .later }
def JudgeAllsUptoCardSaid : Prop := Claim7.holds Tryz.pinned (.plain (OpenSpec.upto judgeAllsSpec)) judgeAllsUptoCard
end Rows
end Go.Proofs.YtkajeepbelfpiaaGreatDoor
