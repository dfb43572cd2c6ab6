/-
  DERIVED. GIVEN WITH THE SEED: THE CARDS: each row of YtknldcogmbbgjaaDoorRows.lean that lists a variable, with what it lists TIED to the program's text (the seventh form; the later family's looks); each row that meets fmt, with fmt's text TOLD by the authors' own Lean function (tested against real Go, not proved from fmt's source: count such statements apart). THE CARD IS WHAT COUNTS. Prove the row's statement (the work); the ties are given (YtknldcogmbbgjaaDoorTie.lean); close each card by the builder's one call (the guide's Derived/Test/ToyasCard.lean, 'card_holds'). Laid BY PROGRAM, IN A SANDBOX (cutbox-door.mjs). By AI agents, Wed Nov 11 2026. No macro, syntax, notation, axiom, sorry.
-/
import Derived.Test.YtknldcogmbbgjaaDoorRows
import GoSem.ClaimSeven
namespace Go.Proofs.YtknldcogmbbgjaaDoor
namespace Rows

/-- THE TIED CARD OF 'geofencelaw11.ArrayReads'. -/
def arrayReadsCard : Claim7 := { stood := { row := arrayReadsRow, standIns := [], harness := (true, "e59c6b3d144731af4c85418850a88e50f5bfae437b862c0b442f2385dfd3b9f1"), looks := false }, kinds := [], alts := [], laidByText := true, laidKinds := [.data], laidTests := true, laidLooks := .later }
def ArrayReadsCardSaid : Prop := Claim7.holds Tryd.pinned (.plain (OpenSpec.ofChange arrayReadsSpec)) arrayReadsCard

/-- THE TIED CARD OF 'geofencelaw11.ArrayWrites'. -/
def arrayWritesCard : Claim7 := { stood := { row := arrayWritesRow, standIns := [], harness := (true, "e59c6b3d144731af4c85418850a88e50f5bfae437b862c0b442f2385dfd3b9f1"), looks := false }, kinds := [], alts := [], laidByText := true, laidKinds := [.data], laidTests := true, laidLooks := .later }
def ArrayWritesCardSaid : Prop := Claim7.holds Tryd.pinned (.plain (OpenSpec.ofChange arrayWritesSpec)) arrayWritesCard

/-- THE TIED CARD OF 'geofencelaw11.ArrayCounts'. -/
def arrayCountsCard : Claim7 := { stood := { row := arrayCountsRow, standIns := [], harness := (true, "e59c6b3d144731af4c85418850a88e50f5bfae437b862c0b442f2385dfd3b9f1"), looks := false }, kinds := [], alts := [], laidByText := true, laidKinds := [.data], laidTests := true, laidLooks := .later }
def ArrayCountsCardSaid : Prop := Claim7.holds Tryd.pinned (.plain (OpenSpec.ofChange arrayCountsSpec)) arrayCountsCard

/-- THE TIED CARD OF 'geofencelaw11.ArrayCombines'. -/
def arrayCombinesCard : Claim7 := { stood := { row := arrayCombinesRow, standIns := [], harness := (true, "e59c6b3d144731af4c85418850a88e50f5bfae437b862c0b442f2385dfd3b9f1"), looks := false }, kinds := [], alts := [], laidByText := true, laidKinds := [.data], laidTests := true, laidLooks := .later }
def ArrayCombinesCardSaid : Prop := Claim7.holds Tryd.pinned (.plain (OpenSpec.ofChange arrayCombinesSpec)) arrayCombinesCard

/-- THE TIED CARD OF 'geofencelaw11.ArrayEvents'. -/
def arrayEventsCard : Claim7 := { stood := { row := arrayEventsRow, standIns := [], harness := (true, "e59c6b3d144731af4c85418850a88e50f5bfae437b862c0b442f2385dfd3b9f1"), looks := false }, kinds := [], alts := [], laidByText := true, laidKinds := [.data], laidTests := true, laidLooks := .later }
def ArrayEventsCardSaid : Prop := Claim7.holds Tryd.pinned (.plain (OpenSpec.ofChange arrayEventsSpec)) arrayEventsCard

/-- THE TIED CARD OF 'geofencelaw11.ArrayIsOblivious'. -/
def arrayIsObliviousCard : Claim7 := { stood := { row := arrayIsObliviousRow, standIns := [], harness := (true, "e59c6b3d144731af4c85418850a88e50f5bfae437b862c0b442f2385dfd3b9f1"), looks := false }, kinds := [], alts := [], laidByText := true, laidKinds := [.data], laidTests := true, laidLooks := .later }
def ArrayIsObliviousCardSaid : Prop := Claim7.holds Tryd.pinned (.plain (OpenSpec.ofChange arrayIsObliviousSpec)) arrayIsObliviousCard

/-- THE SECOND FORM's CARD OF 'geofencelaw11.ArrayReads'. -/
def arrayReadsUptoCard : Claim7 := { stood := { row := arrayReadsUptoRow, standIns := [], harness := (true, "e59c6b3d144731af4c85418850a88e50f5bfae437b862c0b442f2385dfd3b9f1"), looks := false }, kinds := [], alts := [], laidByText := true, laidKinds := [.data], laidTests := true, laidLooks := .later }
def ArrayReadsUptoCardSaid : Prop := Claim7.holds Tryd.pinned (.plain (OpenSpec.upto arrayReadsSpec)) arrayReadsUptoCard

/-- THE SECOND FORM's CARD OF 'geofencelaw11.ArrayWrites'. -/
def arrayWritesUptoCard : Claim7 := { stood := { row := arrayWritesUptoRow, standIns := [], harness := (true, "e59c6b3d144731af4c85418850a88e50f5bfae437b862c0b442f2385dfd3b9f1"), looks := false }, kinds := [], alts := [], laidByText := true, laidKinds := [.data], laidTests := true, laidLooks := .later }
def ArrayWritesUptoCardSaid : Prop := Claim7.holds Tryd.pinned (.plain (OpenSpec.upto arrayWritesSpec)) arrayWritesUptoCard

/-- THE SECOND FORM's CARD OF 'geofencelaw11.ArrayCounts'. -/
def arrayCountsUptoCard : Claim7 := { stood := { row := arrayCountsUptoRow, standIns := [], harness := (true, "e59c6b3d144731af4c85418850a88e50f5bfae437b862c0b442f2385dfd3b9f1"), looks := false }, kinds := [], alts := [], laidByText := true, laidKinds := [.data], laidTests := true, laidLooks := .later }
def ArrayCountsUptoCardSaid : Prop := Claim7.holds Tryd.pinned (.plain (OpenSpec.upto arrayCountsSpec)) arrayCountsUptoCard

/-- THE SECOND FORM's CARD OF 'geofencelaw11.ArrayCombines'. -/
def arrayCombinesUptoCard : Claim7 := { stood := { row := arrayCombinesUptoRow, standIns := [], harness := (true, "e59c6b3d144731af4c85418850a88e50f5bfae437b862c0b442f2385dfd3b9f1"), looks := false }, kinds := [], alts := [], laidByText := true, laidKinds := [.data], laidTests := true, laidLooks := .later }
def ArrayCombinesUptoCardSaid : Prop := Claim7.holds Tryd.pinned (.plain (OpenSpec.upto arrayCombinesSpec)) arrayCombinesUptoCard

/-- THE SECOND FORM's CARD OF 'geofencelaw11.ArrayEvents'. -/
def arrayEventsUptoCard : Claim7 := { stood := { row := arrayEventsUptoRow, standIns := [], harness := (true, "e59c6b3d144731af4c85418850a88e50f5bfae437b862c0b442f2385dfd3b9f1"), looks := false }, kinds := [], alts := [], laidByText := true, laidKinds := [.data], laidTests := true, laidLooks := .later }
def ArrayEventsUptoCardSaid : Prop := Claim7.holds Tryd.pinned (.plain (OpenSpec.upto arrayEventsSpec)) arrayEventsUptoCard

/-- THE SECOND FORM's CARD OF 'geofencelaw11.ArrayIsOblivious'. -/
def arrayIsObliviousUptoCard : Claim7 := { stood := { row := arrayIsObliviousUptoRow, standIns := [], harness := (true, "e59c6b3d144731af4c85418850a88e50f5bfae437b862c0b442f2385dfd3b9f1"), looks := false }, kinds := [], alts := [], laidByText := true, laidKinds := [.data], laidTests := true, laidLooks := .later }
def ArrayIsObliviousUptoCardSaid : Prop := Claim7.holds Tryd.pinned (.plain (OpenSpec.upto arrayIsObliviousSpec)) arrayIsObliviousUptoCard
end Rows
end Go.Proofs.YtknldcogmbbgjaaDoor
