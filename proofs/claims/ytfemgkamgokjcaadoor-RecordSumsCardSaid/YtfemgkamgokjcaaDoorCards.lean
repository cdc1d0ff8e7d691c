/-
  DERIVED. GIVEN WITH THE SEED: THE CARDS: each row of YtfemgkamgokjcaaDoorRows.lean that lists a variable, with what it lists TIED to the program's text (the seventh form; the later family's looks); each row that meets fmt, with fmt's text TOLD by the authors' own Lean function (tested against real Go, not proved from fmt's source: count such statements apart). THE CARD IS WHAT COUNTS. Prove the row's statement (the work); the ties are given (YtfemgkamgokjcaaDoorTie.lean); close each card by the builder's one call (the guide's Derived/Test/ToyasCard.lean, 'card_holds'). Laid BY PROGRAM, IN A SANDBOX (cutbox-door.mjs). By AI agents, Wed Nov 11 2026. No macro, syntax, notation, axiom, sorry.
-/
import Derived.Test.YtfemgkamgokjcaaDoorRows
import GoSem.ClaimSeven
namespace Go.Proofs.YtfemgkamgokjcaaDoor
namespace Rows

/-- THE TIED CARD OF 'darnerlaw10.RecordOfs'. -/
def recordOfsCard : Claim7 := { stood := { row := recordOfsRow, standIns := [], harness := (true, "61c31c33b7b00fc5f5f2428f731c25202f02b78064fa7f683499983bf6c8b1c2"), looks := true }, kinds := [], alts := [], laidByText := true, laidKinds := [.data, .data, .data, .pinned], laidTests := true, laidLooks := .later }
def RecordOfsCardSaid : Prop := Claim7.holds Tryd.pinned (.plain (OpenSpec.ofChange recordOfsSpec)) recordOfsCard

/-- THE TIED CARD OF 'darnerlaw10.RecordSums'. -/
def recordSumsCard : Claim7 := { stood := { row := recordSumsRow, standIns := [], harness := (true, "61c31c33b7b00fc5f5f2428f731c25202f02b78064fa7f683499983bf6c8b1c2"), looks := true }, kinds := [], alts := [], laidByText := true, laidKinds := [.data, .data, .data, .pinned], laidTests := true, laidLooks := .later }
def RecordSumsCardSaid : Prop := Claim7.holds Tryd.pinned (.plain (OpenSpec.ofChange recordSumsSpec)) recordSumsCard

/-- THE SECOND FORM's CARD OF 'darnerlaw10.RecordOfs'. -/
def recordOfsUptoCard : Claim7 := { stood := { row := recordOfsUptoRow, standIns := [], harness := (true, "61c31c33b7b00fc5f5f2428f731c25202f02b78064fa7f683499983bf6c8b1c2"), looks := true }, kinds := [], alts := [], laidByText := true, laidKinds := [.data, .data, .data, .pinned], laidTests := true, laidLooks := .later }
def RecordOfsUptoCardSaid : Prop := Claim7.holds Tryd.pinned (.plain (OpenSpec.upto recordOfsSpec)) recordOfsUptoCard

/-- THE SECOND FORM's CARD OF 'darnerlaw10.RecordSums'. -/
def recordSumsUptoCard : Claim7 := { stood := { row := recordSumsUptoRow, standIns := [], harness := (true, "61c31c33b7b00fc5f5f2428f731c25202f02b78064fa7f683499983bf6c8b1c2"), looks := true }, kinds := [], alts := [], laidByText := true, laidKinds := [.data, .data, .data, .pinned], laidTests := true, laidLooks := .later }
def RecordSumsUptoCardSaid : Prop := Claim7.holds Tryd.pinned (.plain (OpenSpec.upto recordSumsSpec)) recordSumsUptoCard
end Rows
end Go.Proofs.YtfemgkamgokjcaaDoor
