/-
  DERIVED. GIVEN WITH THE SEED: THE CARDS: each row of YthcckgehlfikcaaDoorRows.lean that lists a variable, with what it lists TIED to the program's text (the seventh form; the later family's looks); each row that meets fmt, with fmt's text TOLD by the authors' own Lean function (tested against real Go, not proved from fmt's source: count such statements apart). THE CARD IS WHAT COUNTS. Prove the row's statement (the work); the ties are given (YthcckgehlfikcaaDoorTie.lean); close each card by the builder's one call (the guide's Derived/Test/ToyasCard.lean, 'card_holds'). Laid BY PROGRAM, IN A SANDBOX (cutbox-door.mjs). By AI agents, Wed Nov 11 2026. No macro, syntax, notation, axiom, sorry.
-/
import Derived.Test.YthcckgehlfikcaaDoorRows
import GoSem.ClaimSeven
namespace Go.Proofs.YthcckgehlfikcaaDoor
namespace Rows

/-- THE TIED CARD OF 'geofencelaw12.NetworkSizes'. -/
def networkSizesCard : Claim7 := { stood := { row := networkSizesRow, standIns := [], harness := (true, "95db1f91e747e09e5d8104a88022f025b4b1f94b95f3587023380612ee380746"), looks := false }, kinds := [], alts := [], laidByText := true, laidKinds := [.data, .data, .data], laidTests := true, laidLooks := .later }
def NetworkSizesCardSaid : Prop := Claim7.holds Tryd.pinned (.plain (OpenSpec.ofChange networkSizesSpec)) networkSizesCard

/-- THE TIED CARD OF 'geofencelaw12.NetworkComparators'. -/
def networkComparatorsCard : Claim7 := { stood := { row := networkComparatorsRow, standIns := [], harness := (true, "95db1f91e747e09e5d8104a88022f025b4b1f94b95f3587023380612ee380746"), looks := false }, kinds := [], alts := [], laidByText := true, laidKinds := [.data, .data, .data], laidTests := true, laidLooks := .later }
def NetworkComparatorsCardSaid : Prop := Claim7.holds Tryd.pinned (.plain (OpenSpec.ofChange networkComparatorsSpec)) networkComparatorsCard

/-- THE TIED CARD OF 'geofencelaw12.NetworkSorts'. -/
def networkSortsCard : Claim7 := { stood := { row := networkSortsRow, standIns := [], harness := (true, "95db1f91e747e09e5d8104a88022f025b4b1f94b95f3587023380612ee380746"), looks := false }, kinds := [], alts := [], laidByText := true, laidKinds := [.data, .data, .data], laidTests := true, laidLooks := .later }
def NetworkSortsCardSaid : Prop := Claim7.holds Tryd.pinned (.plain (OpenSpec.ofChange networkSortsSpec)) networkSortsCard

/-- THE TIED CARD OF 'geofencelaw12.NetworkZeroOne'. -/
def networkZeroOneCard : Claim7 := { stood := { row := networkZeroOneRow, standIns := [], harness := (true, "95db1f91e747e09e5d8104a88022f025b4b1f94b95f3587023380612ee380746"), looks := false }, kinds := [], alts := [], laidByText := true, laidKinds := [.data, .data, .data], laidTests := true, laidLooks := .later }
def NetworkZeroOneCardSaid : Prop := Claim7.holds Tryd.pinned (.plain (OpenSpec.ofChange networkZeroOneSpec)) networkZeroOneCard

/-- THE TIED CARD OF 'geofencelaw12.NetworkRounds'. -/
def networkRoundsCard : Claim7 := { stood := { row := networkRoundsRow, standIns := [], harness := (true, "95db1f91e747e09e5d8104a88022f025b4b1f94b95f3587023380612ee380746"), looks := false }, kinds := [], alts := [], laidByText := true, laidKinds := [.data, .data, .data], laidTests := true, laidLooks := .later }
def NetworkRoundsCardSaid : Prop := Claim7.holds Tryd.pinned (.plain (OpenSpec.ofChange networkRoundsSpec)) networkRoundsCard

/-- THE TIED CARD OF 'geofencelaw12.NetworkStops'. -/
def networkStopsCard : Claim7 := { stood := { row := networkStopsRow, standIns := [], harness := (true, "95db1f91e747e09e5d8104a88022f025b4b1f94b95f3587023380612ee380746"), looks := false }, kinds := [], alts := [], laidByText := true, laidKinds := [.data, .data, .data], laidTests := true, laidLooks := .later }
def NetworkStopsCardSaid : Prop := Claim7.holds Tryd.pinned (.plain (OpenSpec.ofChange networkStopsSpec)) networkStopsCard

/-- THE SECOND FORM's CARD OF 'geofencelaw12.NetworkSizes'. -/
def networkSizesUptoCard : Claim7 := { stood := { row := networkSizesUptoRow, standIns := [], harness := (true, "95db1f91e747e09e5d8104a88022f025b4b1f94b95f3587023380612ee380746"), looks := false }, kinds := [], alts := [], laidByText := true, laidKinds := [.data, .data, .data], laidTests := true, laidLooks := .later }
def NetworkSizesUptoCardSaid : Prop := Claim7.holds Tryd.pinned (.plain (OpenSpec.upto networkSizesSpec)) networkSizesUptoCard

/-- THE SECOND FORM's CARD OF 'geofencelaw12.NetworkComparators'. -/
def networkComparatorsUptoCard : Claim7 := { stood := { row := networkComparatorsUptoRow, standIns := [], harness := (true, "95db1f91e747e09e5d8104a88022f025b4b1f94b95f3587023380612ee380746"), looks := false }, kinds := [], alts := [], laidByText := true, laidKinds := [.data, .data, .data], laidTests := true, laidLooks := .later }
def NetworkComparatorsUptoCardSaid : Prop := Claim7.holds Tryd.pinned (.plain (OpenSpec.upto networkComparatorsSpec)) networkComparatorsUptoCard

/-- THE SECOND FORM's CARD OF 'geofencelaw12.NetworkSorts'. -/
def networkSortsUptoCard : Claim7 := { stood := { row := networkSortsUptoRow, standIns := [], harness := (true, "95db1f91e747e09e5d8104a88022f025b4b1f94b95f3587023380612ee380746"), looks := false }, kinds := [], alts := [], laidByText := true, laidKinds := [.data, .data, .data], laidTests := true, laidLooks := .later }
def NetworkSortsUptoCardSaid : Prop := Claim7.holds Tryd.pinned (.plain (OpenSpec.upto networkSortsSpec)) networkSortsUptoCard

/-- THE SECOND FORM's CARD OF 'geofencelaw12.NetworkZeroOne'. -/
def networkZeroOneUptoCard : Claim7 := { stood := { row := networkZeroOneUptoRow, standIns := [], harness := (true, "95db1f91e747e09e5d8104a88022f025b4b1f94b95f3587023380612ee380746"), looks := false }, kinds := [], alts := [], laidByText := true, laidKinds := [.data, .data, .data], laidTests := true, laidLooks := .later }
def NetworkZeroOneUptoCardSaid : Prop := Claim7.holds Tryd.pinned (.plain (OpenSpec.upto networkZeroOneSpec)) networkZeroOneUptoCard

/-- THE SECOND FORM's CARD OF 'geofencelaw12.NetworkRounds'. -/
def networkRoundsUptoCard : Claim7 := { stood := { row := networkRoundsUptoRow, standIns := [], harness := (true, "95db1f91e747e09e5d8104a88022f025b4b1f94b95f3587023380612ee380746"), looks := false }, kinds := [], alts := [], laidByText := true, laidKinds := [.data, .data, .data], laidTests := true, laidLooks := .later }
def NetworkRoundsUptoCardSaid : Prop := Claim7.holds Tryd.pinned (.plain (OpenSpec.upto networkRoundsSpec)) networkRoundsUptoCard

/-- THE SECOND FORM's CARD OF 'geofencelaw12.NetworkStops'. -/
def networkStopsUptoCard : Claim7 := { stood := { row := networkStopsUptoRow, standIns := [], harness := (true, "95db1f91e747e09e5d8104a88022f025b4b1f94b95f3587023380612ee380746"), looks := false }, kinds := [], alts := [], laidByText := true, laidKinds := [.data, .data, .data], laidTests := true, laidLooks := .later }
def NetworkStopsUptoCardSaid : Prop := Claim7.holds Tryd.pinned (.plain (OpenSpec.upto networkStopsSpec)) networkStopsUptoCard
end Rows
end Go.Proofs.YthcckgehlfikcaaDoor
