/-
  DERIVED. GIVEN WITH THE SEED: THE CARDS: each row of YtkajeepbelfpiaaDoorRows.lean that lists a variable, with what it lists TIED to the program's text (the seventh form; the later family's looks); each row that meets fmt, with fmt's text TOLD by the authors' own Lean function (tested against real Go, not proved from fmt's source: count such statements apart). THE CARD IS WHAT COUNTS. Prove the row's statement (the work); the ties are given (YtkajeepbelfpiaaDoorTie.lean); close each card by the builder's one call (the guide's Derived/Test/ToyasCard.lean, 'card_holds'). Laid BY PROGRAM, IN A SANDBOX (cutbox-door.mjs). By AI agents, Wed Nov 11 2026. No macro, syntax, notation, axiom, sorry.
-/
import Derived.Test.YtkajeepbelfpiaaDoorRows
import GoSem.ClaimSeven
namespace Go.Proofs.YtkajeepbelfpiaaDoor
namespace Rows

/-- THE TIED CARD OF 'darnerlaw14.LanePlays'. -/
def lanePlaysCard : Claim7 := { stood := { row := lanePlaysRow, standIns := [], harness := (true, "dcf71410a0a332caca4c25faa0e25fa83aa07f85b178dbaf2524b714c09dc898"), looks := false }, kinds := [], alts := [], laidByText := true, laidKinds := [.data, .pinned], laidTests := true, laidLooks := .later }
def LanePlaysCardSaid : Prop := Claim7.holds Tryd.pinned (.plain (OpenSpec.ofChange lanePlaysSpec)) lanePlaysCard

/-- THE TIED CARD OF 'darnerlaw14.LaneBound'. -/
def laneBoundCard : Claim7 := { stood := { row := laneBoundRow, standIns := [], harness := (true, "dcf71410a0a332caca4c25faa0e25fa83aa07f85b178dbaf2524b714c09dc898"), looks := false }, kinds := [], alts := [], laidByText := true, laidKinds := [.data, .pinned], laidTests := true, laidLooks := .later }
def LaneBoundCardSaid : Prop := Claim7.holds Tryd.pinned (.plain (OpenSpec.ofChange laneBoundSpec)) laneBoundCard

/-- THE TIED CARD OF 'darnerlaw14.LaneOrders'. -/
def laneOrdersCard : Claim7 := { stood := { row := laneOrdersRow, standIns := [], harness := (true, "dcf71410a0a332caca4c25faa0e25fa83aa07f85b178dbaf2524b714c09dc898"), looks := false }, kinds := [], alts := [], laidByText := true, laidKinds := [.data, .pinned], laidTests := true, laidLooks := .later }
def LaneOrdersCardSaid : Prop := Claim7.holds Tryd.pinned (.plain (OpenSpec.ofChange laneOrdersSpec)) laneOrdersCard

/-- THE SECOND FORM's CARD OF 'darnerlaw14.LanePlays'. -/
def lanePlaysUptoCard : Claim7 := { stood := { row := lanePlaysUptoRow, standIns := [], harness := (true, "dcf71410a0a332caca4c25faa0e25fa83aa07f85b178dbaf2524b714c09dc898"), looks := false }, kinds := [], alts := [], laidByText := true, laidKinds := [.data, .pinned], laidTests := true, laidLooks := .later }
def LanePlaysUptoCardSaid : Prop := Claim7.holds Tryd.pinned (.plain (OpenSpec.upto lanePlaysSpec)) lanePlaysUptoCard

/-- THE SECOND FORM's CARD OF 'darnerlaw14.LaneBound'. -/
def laneBoundUptoCard : Claim7 := { stood := { row := laneBoundUptoRow, standIns := [], harness := (true, "dcf71410a0a332caca4c25faa0e25fa83aa07f85b178dbaf2524b714c09dc898"), looks := false }, kinds := [], alts := [], laidByText := true, laidKinds := [.data, .pinned], laidTests := true, laidLooks := .later }
def LaneBoundUptoCardSaid : Prop := Claim7.holds Tryd.pinned (.plain (OpenSpec.upto laneBoundSpec)) laneBoundUptoCard

/-- THE SECOND FORM's CARD OF 'darnerlaw14.LaneOrders'. -/
def laneOrdersUptoCard : Claim7 := { stood := { row := laneOrdersUptoRow, standIns := [], harness := (true, "dcf71410a0a332caca4c25faa0e25fa83aa07f85b178dbaf2524b714c09dc898"), looks := false }, kinds := [], alts := [], laidByText := true, laidKinds := [.data, .pinned], laidTests := true, laidLooks := .later }
def LaneOrdersUptoCardSaid : Prop := Claim7.holds Tryd.pinned (.plain (OpenSpec.upto laneOrdersSpec)) laneOrdersUptoCard
end Rows
end Go.Proofs.YtkajeepbelfpiaaDoor
