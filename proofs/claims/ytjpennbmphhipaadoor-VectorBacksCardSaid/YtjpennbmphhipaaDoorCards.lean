/-
  DERIVED. GIVEN WITH THE SEED: THE CARDS: each row of YtjpennbmphhipaaDoorRows.lean that lists a variable, with what it lists TIED to the program's text (the seventh form; the later family's looks); each row that meets fmt, with fmt's text TOLD by the authors' own Lean function (tested against real Go, not proved from fmt's source: count such statements apart). THE CARD IS WHAT COUNTS. Prove the row's statement (the work); the ties are given (YtjpennbmphhipaaDoorTie.lean); close each card by the builder's one call (the guide's Derived/Test/ToyasCard.lean, 'card_holds'). Laid BY PROGRAM, IN A SANDBOX (cutbox-door.mjs). By AI agents, Wed Nov 11 2026. No macro, syntax, notation, axiom, sorry.
-/
import Derived.Test.YtjpennbmphhipaaDoorRows
import GoSem.ClaimSeven
namespace Go.Proofs.YtjpennbmphhipaaDoor
namespace Rows

/-- THE TIED CARD OF 'darnerlaw09.VectorBacks'. -/
def vectorBacksCard : Claim7 := { stood := { row := vectorBacksRow, standIns := [], harness := (true, "5e9a12a1d5c8d98e540bce68e827f9f1a3bd47ed3a5df00954553d490e314725"), looks := true }, kinds := [], alts := [], laidByText := true, laidKinds := [.data, .data, .data], laidTests := true, laidLooks := .later }
def VectorBacksCardSaid : Prop := Claim7.holds Tryd.pinned (.plain (OpenSpec.ofChange vectorBacksSpec)) vectorBacksCard

/-- THE TIED CARD OF 'darnerlaw10.RecordOfs'. -/
def recordOfsCard : Claim7 := { stood := { row := recordOfsRow, standIns := [], harness := (true, "5e9a12a1d5c8d98e540bce68e827f9f1a3bd47ed3a5df00954553d490e314725"), looks := true }, kinds := [], alts := [], laidByText := true, laidKinds := [.data, .data, .data, .pinned], laidTests := true, laidLooks := .later }
def RecordOfsCardSaid : Prop := Claim7.holds Tryd.pinned (.plain (OpenSpec.ofChange recordOfsSpec)) recordOfsCard

/-- THE TIED CARD OF 'darnerlaw10.RecordSums'. -/
def recordSumsCard : Claim7 := { stood := { row := recordSumsRow, standIns := [], harness := (true, "5e9a12a1d5c8d98e540bce68e827f9f1a3bd47ed3a5df00954553d490e314725"), looks := true }, kinds := [], alts := [], laidByText := true, laidKinds := [.data, .data, .data, .pinned], laidTests := true, laidLooks := .later }
def RecordSumsCardSaid : Prop := Claim7.holds Tryd.pinned (.plain (OpenSpec.ofChange recordSumsSpec)) recordSumsCard

/-- THE SECOND FORM's CARD OF 'darnerlaw09.VectorBacks'. -/
def vectorBacksUptoCard : Claim7 := { stood := { row := vectorBacksUptoRow, standIns := [], harness := (true, "5e9a12a1d5c8d98e540bce68e827f9f1a3bd47ed3a5df00954553d490e314725"), looks := true }, kinds := [], alts := [], laidByText := true, laidKinds := [.data, .data, .data], laidTests := true, laidLooks := .later }
def VectorBacksUptoCardSaid : Prop := Claim7.holds Tryd.pinned (.plain (OpenSpec.upto vectorBacksSpec)) vectorBacksUptoCard

/-- THE SECOND FORM's CARD OF 'darnerlaw10.RecordOfs'. -/
def recordOfsUptoCard : Claim7 := { stood := { row := recordOfsUptoRow, standIns := [], harness := (true, "5e9a12a1d5c8d98e540bce68e827f9f1a3bd47ed3a5df00954553d490e314725"), looks := true }, kinds := [], alts := [], laidByText := true, laidKinds := [.data, .data, .data, .pinned], laidTests := true, laidLooks := .later }
def RecordOfsUptoCardSaid : Prop := Claim7.holds Tryd.pinned (.plain (OpenSpec.upto recordOfsSpec)) recordOfsUptoCard

/-- THE SECOND FORM's CARD OF 'darnerlaw10.RecordSums'. -/
def recordSumsUptoCard : Claim7 := { stood := { row := recordSumsUptoRow, standIns := [], harness := (true, "5e9a12a1d5c8d98e540bce68e827f9f1a3bd47ed3a5df00954553d490e314725"), looks := true }, kinds := [], alts := [], laidByText := true, laidKinds := [.data, .data, .data, .pinned], laidTests := true, laidLooks := .later }
def RecordSumsUptoCardSaid : Prop := Claim7.holds Tryd.pinned (.plain (OpenSpec.upto recordSumsSpec)) recordSumsUptoCard
end Rows
end Go.Proofs.YtjpennbmphhipaaDoor
