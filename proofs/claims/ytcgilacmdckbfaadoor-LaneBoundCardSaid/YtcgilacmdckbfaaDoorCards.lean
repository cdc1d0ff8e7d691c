/-
  DERIVED. GIVEN WITH THE SEED: THE CARDS: each row of YtcgilacmdckbfaaDoorRows.lean that lists a variable, with what it lists TIED to the program's text (the seventh form; the later family's looks); each row that meets fmt, with fmt's text TOLD by the authors' own Lean function (tested against real Go, not proved from fmt's source: count such statements apart). THE CARD IS WHAT COUNTS. Prove the row's statement (the work); the ties are given (YtcgilacmdckbfaaDoorTie.lean); close each card by the builder's one call (the guide's Derived/Test/ToyasCard.lean, 'card_holds'). Laid BY PROGRAM, IN A SANDBOX (cutbox-door.mjs). By AI agents, Wed Nov 11 2026. No macro, syntax, notation, axiom, sorry.
-/
import Derived.Test.YtcgilacmdckbfaaDoorRows
import GoSem.ClaimSeven
namespace Go.Proofs.YtcgilacmdckbfaaDoor
namespace Rows

/-- THE TIED CARD OF 'darnerlaw14.LanePlays'. -/
def lanePlaysCard : Claim7 := { stood := { row := lanePlaysRow, standIns := [], harness := (true, "52cef950a133ea1bf9e0c377e0361eb982363bdc252eacb7dbeedcaf6b897b59"), looks := false }, kinds := [], alts := [], laidByText := true, laidKinds := [.data, .pinned], laidTests := true, laidLooks := .later }
def LanePlaysCardSaid : Prop := Claim7.holds Tryd.pinned (.plain (OpenSpec.ofChange lanePlaysSpec)) lanePlaysCard

/-- THE TIED CARD OF 'darnerlaw14.LaneBound'. -/
def laneBoundCard : Claim7 := { stood := { row := laneBoundRow, standIns := [], harness := (true, "52cef950a133ea1bf9e0c377e0361eb982363bdc252eacb7dbeedcaf6b897b59"), looks := false }, kinds := [], alts := [], laidByText := true, laidKinds := [.data, .pinned], laidTests := true, laidLooks := .later }
def LaneBoundCardSaid : Prop := Claim7.holds Tryd.pinned (.plain (OpenSpec.ofChange laneBoundSpec)) laneBoundCard

/-- THE TIED CARD OF 'darnerlaw15.WardFull'. -/
def wardFullCard : Claim7 := { stood := { row := wardFullRow, standIns := [], harness := (true, "52cef950a133ea1bf9e0c377e0361eb982363bdc252eacb7dbeedcaf6b897b59"), looks := false }, kinds := [], alts := [], laidByText := true, laidKinds := [.data, .pinned], laidTests := true, laidLooks := .later }
def WardFullCardSaid : Prop := Claim7.holds Tryd.pinned (.plain (OpenSpec.ofChange wardFullSpec)) wardFullCard

/-- THE TIED CARD OF 'darnerlaw15.WardServes'. -/
def wardServesCard : Claim7 := { stood := { row := wardServesRow, standIns := [], harness := (true, "52cef950a133ea1bf9e0c377e0361eb982363bdc252eacb7dbeedcaf6b897b59"), looks := false }, kinds := [], alts := [], laidByText := true, laidKinds := [.data, .pinned], laidTests := true, laidLooks := .later }
def WardServesCardSaid : Prop := Claim7.holds Tryd.pinned (.plain (OpenSpec.ofChange wardServesSpec)) wardServesCard

/-- THE SECOND FORM's CARD OF 'darnerlaw14.LanePlays'. -/
def lanePlaysUptoCard : Claim7 := { stood := { row := lanePlaysUptoRow, standIns := [], harness := (true, "52cef950a133ea1bf9e0c377e0361eb982363bdc252eacb7dbeedcaf6b897b59"), looks := false }, kinds := [], alts := [], laidByText := true, laidKinds := [.data, .pinned], laidTests := true, laidLooks := .later }
def LanePlaysUptoCardSaid : Prop := Claim7.holds Tryd.pinned (.plain (OpenSpec.upto lanePlaysSpec)) lanePlaysUptoCard

/-- THE SECOND FORM's CARD OF 'darnerlaw14.LaneBound'. -/
def laneBoundUptoCard : Claim7 := { stood := { row := laneBoundUptoRow, standIns := [], harness := (true, "52cef950a133ea1bf9e0c377e0361eb982363bdc252eacb7dbeedcaf6b897b59"), looks := false }, kinds := [], alts := [], laidByText := true, laidKinds := [.data, .pinned], laidTests := true, laidLooks := .later }
def LaneBoundUptoCardSaid : Prop := Claim7.holds Tryd.pinned (.plain (OpenSpec.upto laneBoundSpec)) laneBoundUptoCard

/-- THE SECOND FORM's CARD OF 'darnerlaw15.WardFull'. -/
def wardFullUptoCard : Claim7 := { stood := { row := wardFullUptoRow, standIns := [], harness := (true, "52cef950a133ea1bf9e0c377e0361eb982363bdc252eacb7dbeedcaf6b897b59"), looks := false }, kinds := [], alts := [], laidByText := true, laidKinds := [.data, .pinned], laidTests := true, laidLooks := .later }
def WardFullUptoCardSaid : Prop := Claim7.holds Tryd.pinned (.plain (OpenSpec.upto wardFullSpec)) wardFullUptoCard

/-- THE SECOND FORM's CARD OF 'darnerlaw15.WardServes'. -/
def wardServesUptoCard : Claim7 := { stood := { row := wardServesUptoRow, standIns := [], harness := (true, "52cef950a133ea1bf9e0c377e0361eb982363bdc252eacb7dbeedcaf6b897b59"), looks := false }, kinds := [], alts := [], laidByText := true, laidKinds := [.data, .pinned], laidTests := true, laidLooks := .later }
def WardServesUptoCardSaid : Prop := Claim7.holds Tryd.pinned (.plain (OpenSpec.upto wardServesSpec)) wardServesUptoCard
end Rows
end Go.Proofs.YtcgilacmdckbfaaDoor
