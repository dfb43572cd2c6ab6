/-
  DERIVED. GIVEN WITH THE SEED: THE CARDS: each row of YthmkllpdkcmccaaGreatDoorRows.lean that lists a variable, with what it lists TIED to the program's text (the seventh form; the later family's looks); each row that meets fmt, with fmt's text TOLD by the authors' own Lean function (tested against real Go, not proved from fmt's source: count such statements apart). THE CARD IS WHAT COUNTS. Prove the row's statement (the work); the ties are given (YthmkllpdkcmccaaGreatDoorTie.lean); close each card by the builder's one call (the guide's Derived/Test/ToyasCard.lean, 'card_holds'). Laid BY PROGRAM, IN A SANDBOX (cutbox-door.mjs). By AI agents, Wed Nov 11 2026. No macro, syntax, notation, axiom, sorry.
-/
import Derived.Test.YthmkllpdkcmccaaGreatDoorRows
import GoSem.ClaimSeven
namespace Go.Proofs.YthmkllpdkcmccaaGreatDoor
namespace Rows

/-- THE TIED CARD OF 'geofencelaw19.EngineConvex'. -/
def engineConvexCard : Claim7 := { stood := { row := engineConvexRow, standIns := [], harness := (true, "a7aac37708472fa245f275d61463879f9f79c7d0981232af370e3125b05b88ac"), looks := false }, kinds := [], alts := [], laidByText := true, laidKinds := [.data, .data], laidTests := true, laidLooks := .later }
def EngineConvexCardSaid : Prop := Claim7.holds Tryz.pinned (.plain (OpenSpec.ofChange engineConvexSpec)) engineConvexCard

/-- THE TIED CARD OF 'geofencelaw19.EngineEvents'. -/
def engineEventsCard : Claim7 := { stood := { row := engineEventsRow, standIns := [], harness := (true, "a7aac37708472fa245f275d61463879f9f79c7d0981232af370e3125b05b88ac"), looks := false }, kinds := [], alts := [], laidByText := true, laidKinds := [.data, .data], laidTests := true, laidLooks := .later }
def EngineEventsCardSaid : Prop := Claim7.holds Tryz.pinned (.plain (OpenSpec.ofChange engineEventsSpec)) engineEventsCard

/-- THE TIED CARD OF 'geofencelaw19.EngineIsOblivious'. -/
def engineIsObliviousCard : Claim7 := { stood := { row := engineIsObliviousRow, standIns := [], harness := (true, "a7aac37708472fa245f275d61463879f9f79c7d0981232af370e3125b05b88ac"), looks := false }, kinds := [], alts := [], laidByText := true, laidKinds := [.data, .data], laidTests := true, laidLooks := .later }
def EngineIsObliviousCardSaid : Prop := Claim7.holds Tryz.pinned (.plain (OpenSpec.ofChange engineIsObliviousSpec)) engineIsObliviousCard

/-- THE TIED CARD OF 'geofencelaw19.EngineRanges'. -/
def engineRangesCard : Claim7 := { stood := { row := engineRangesRow, standIns := [], harness := (true, "a7aac37708472fa245f275d61463879f9f79c7d0981232af370e3125b05b88ac"), looks := false }, kinds := [], alts := [], laidByText := true, laidKinds := [.data, .data], laidTests := true, laidLooks := .later }
def EngineRangesCardSaid : Prop := Claim7.holds Tryz.pinned (.plain (OpenSpec.ofChange engineRangesSpec)) engineRangesCard

/-- THE SECOND FORM's CARD OF 'geofencelaw19.EngineConvex'. -/
def engineConvexUptoCard : Claim7 := { stood := { row := engineConvexUptoRow, standIns := [], harness := (true, "a7aac37708472fa245f275d61463879f9f79c7d0981232af370e3125b05b88ac"), looks := false }, kinds := [], alts := [], laidByText := true, laidKinds := [.data, .data], laidTests := true, laidLooks := .later }
def EngineConvexUptoCardSaid : Prop := Claim7.holds Tryz.pinned (.plain (OpenSpec.upto engineConvexSpec)) engineConvexUptoCard

/-- THE SECOND FORM's CARD OF 'geofencelaw19.EngineEvents'. -/
def engineEventsUptoCard : Claim7 := { stood := { row := engineEventsUptoRow, standIns := [], harness := (true, "a7aac37708472fa245f275d61463879f9f79c7d0981232af370e3125b05b88ac"), looks := false }, kinds := [], alts := [], laidByText := true, laidKinds := [.data, .data], laidTests := true, laidLooks := .later }
def EngineEventsUptoCardSaid : Prop := Claim7.holds Tryz.pinned (.plain (OpenSpec.upto engineEventsSpec)) engineEventsUptoCard

/-- THE SECOND FORM's CARD OF 'geofencelaw19.EngineIsOblivious'. -/
def engineIsObliviousUptoCard : Claim7 := { stood := { row := engineIsObliviousUptoRow, standIns := [], harness := (true, "a7aac37708472fa245f275d61463879f9f79c7d0981232af370e3125b05b88ac"), looks := false }, kinds := [], alts := [], laidByText := true, laidKinds := [.data, .data], laidTests := true, laidLooks := .later }
def EngineIsObliviousUptoCardSaid : Prop := Claim7.holds Tryz.pinned (.plain (OpenSpec.upto engineIsObliviousSpec)) engineIsObliviousUptoCard

/-- THE SECOND FORM's CARD OF 'geofencelaw19.EngineRanges'. -/
def engineRangesUptoCard : Claim7 := { stood := { row := engineRangesUptoRow, standIns := [], harness := (true, "a7aac37708472fa245f275d61463879f9f79c7d0981232af370e3125b05b88ac"), looks := false }, kinds := [], alts := [], laidByText := true, laidKinds := [.data, .data], laidTests := true, laidLooks := .later }
def EngineRangesUptoCardSaid : Prop := Claim7.holds Tryz.pinned (.plain (OpenSpec.upto engineRangesSpec)) engineRangesUptoCard
end Rows
end Go.Proofs.YthmkllpdkcmccaaGreatDoor
