/-
  DERIVED. GIVEN WITH THE SEED: THE CARDS: each row of YtdcckjpeibnkbaaDoorRows.lean that lists a variable, with what it lists TIED to the program's text (the seventh form; the later family's looks); each row that meets fmt, with fmt's text TOLD by the authors' own Lean function (tested against real Go, not proved from fmt's source: count such statements apart). THE CARD IS WHAT COUNTS. Prove the row's statement (the work); the ties are given (YtdcckjpeibnkbaaDoorTie.lean); close each card by the builder's one call (the guide's Derived/Test/ToyasCard.lean, 'card_holds'). Laid BY PROGRAM, IN A SANDBOX (cutbox-door.mjs). By AI agents, Wed Nov 11 2026. No macro, syntax, notation, axiom, sorry.
-/
import Derived.Test.YtdcckjpeibnkbaaDoorRows
import GoSem.ClaimSeven
namespace Go.Proofs.YtdcckjpeibnkbaaDoor
namespace Rows

/-- THE TIED CARD OF 'geofencelaw05.DiffCoordinates'. -/
def diffCoordinatesCard : Claim7 := { stood := { row := diffCoordinatesRow, standIns := [], harness := (true, "bc61bb568244a431cb5404fde88558af9ad3047b70e856a06796f924c12822c4"), looks := false }, kinds := [], alts := [], laidByText := true, laidKinds := [.data], laidTests := true, laidLooks := .later }
def DiffCoordinatesCardSaid : Prop := Claim7.holds Tryd.pinned (.plain (OpenSpec.ofChange diffCoordinatesSpec)) diffCoordinatesCard

/-- THE TIED CARD OF 'geofencelaw05.DiffProducts'. -/
def diffProductsCard : Claim7 := { stood := { row := diffProductsRow, standIns := [], harness := (true, "bc61bb568244a431cb5404fde88558af9ad3047b70e856a06796f924c12822c4"), looks := false }, kinds := [], alts := [], laidByText := true, laidKinds := [.data], laidTests := true, laidLooks := .later }
def DiffProductsCardSaid : Prop := Claim7.holds Tryd.pinned (.plain (OpenSpec.ofChange diffProductsSpec)) diffProductsCard

/-- THE TIED CARD OF 'geofencelaw05.DiffVectors'. -/
def diffVectorsCard : Claim7 := { stood := { row := diffVectorsRow, standIns := [], harness := (true, "bc61bb568244a431cb5404fde88558af9ad3047b70e856a06796f924c12822c4"), looks := false }, kinds := [], alts := [], laidByText := true, laidKinds := [.data], laidTests := true, laidLooks := .later }
def DiffVectorsCardSaid : Prop := Claim7.holds Tryd.pinned (.plain (OpenSpec.ofChange diffVectorsSpec)) diffVectorsCard

/-- THE TIED CARD OF 'geofencelaw05.DiffSymmetries'. -/
def diffSymmetriesCard : Claim7 := { stood := { row := diffSymmetriesRow, standIns := [], harness := (true, "bc61bb568244a431cb5404fde88558af9ad3047b70e856a06796f924c12822c4"), looks := false }, kinds := [], alts := [], laidByText := true, laidKinds := [.data], laidTests := true, laidLooks := .later }
def DiffSymmetriesCardSaid : Prop := Claim7.holds Tryd.pinned (.plain (OpenSpec.ofChange diffSymmetriesSpec)) diffSymmetriesCard

/-- THE TIED CARD OF 'geofencelaw05.DiffLagrange'. -/
def diffLagrangeCard : Claim7 := { stood := { row := diffLagrangeRow, standIns := [], harness := (true, "bc61bb568244a431cb5404fde88558af9ad3047b70e856a06796f924c12822c4"), looks := false }, kinds := [], alts := [], laidByText := true, laidKinds := [.data], laidTests := true, laidLooks := .later }
def DiffLagrangeCardSaid : Prop := Claim7.holds Tryd.pinned (.plain (OpenSpec.ofChange diffLagrangeSpec)) diffLagrangeCard

/-- THE TIED CARD OF 'geofencelaw05.DiffTriangle'. -/
def diffTriangleCard : Claim7 := { stood := { row := diffTriangleRow, standIns := [], harness := (true, "bc61bb568244a431cb5404fde88558af9ad3047b70e856a06796f924c12822c4"), looks := false }, kinds := [], alts := [], laidByText := true, laidKinds := [.data], laidTests := true, laidLooks := .later }
def DiffTriangleCardSaid : Prop := Claim7.holds Tryd.pinned (.plain (OpenSpec.ofChange diffTriangleSpec)) diffTriangleCard

/-- THE SECOND FORM's CARD OF 'geofencelaw05.DiffCoordinates'. -/
def diffCoordinatesUptoCard : Claim7 := { stood := { row := diffCoordinatesUptoRow, standIns := [], harness := (true, "bc61bb568244a431cb5404fde88558af9ad3047b70e856a06796f924c12822c4"), looks := false }, kinds := [], alts := [], laidByText := true, laidKinds := [.data], laidTests := true, laidLooks := .later }
def DiffCoordinatesUptoCardSaid : Prop := Claim7.holds Tryd.pinned (.plain (OpenSpec.upto diffCoordinatesSpec)) diffCoordinatesUptoCard

/-- THE SECOND FORM's CARD OF 'geofencelaw05.DiffProducts'. -/
def diffProductsUptoCard : Claim7 := { stood := { row := diffProductsUptoRow, standIns := [], harness := (true, "bc61bb568244a431cb5404fde88558af9ad3047b70e856a06796f924c12822c4"), looks := false }, kinds := [], alts := [], laidByText := true, laidKinds := [.data], laidTests := true, laidLooks := .later }
def DiffProductsUptoCardSaid : Prop := Claim7.holds Tryd.pinned (.plain (OpenSpec.upto diffProductsSpec)) diffProductsUptoCard

/-- THE SECOND FORM's CARD OF 'geofencelaw05.DiffVectors'. -/
def diffVectorsUptoCard : Claim7 := { stood := { row := diffVectorsUptoRow, standIns := [], harness := (true, "bc61bb568244a431cb5404fde88558af9ad3047b70e856a06796f924c12822c4"), looks := false }, kinds := [], alts := [], laidByText := true, laidKinds := [.data], laidTests := true, laidLooks := .later }
def DiffVectorsUptoCardSaid : Prop := Claim7.holds Tryd.pinned (.plain (OpenSpec.upto diffVectorsSpec)) diffVectorsUptoCard

/-- THE SECOND FORM's CARD OF 'geofencelaw05.DiffSymmetries'. -/
def diffSymmetriesUptoCard : Claim7 := { stood := { row := diffSymmetriesUptoRow, standIns := [], harness := (true, "bc61bb568244a431cb5404fde88558af9ad3047b70e856a06796f924c12822c4"), looks := false }, kinds := [], alts := [], laidByText := true, laidKinds := [.data], laidTests := true, laidLooks := .later }
def DiffSymmetriesUptoCardSaid : Prop := Claim7.holds Tryd.pinned (.plain (OpenSpec.upto diffSymmetriesSpec)) diffSymmetriesUptoCard

/-- THE SECOND FORM's CARD OF 'geofencelaw05.DiffLagrange'. -/
def diffLagrangeUptoCard : Claim7 := { stood := { row := diffLagrangeUptoRow, standIns := [], harness := (true, "bc61bb568244a431cb5404fde88558af9ad3047b70e856a06796f924c12822c4"), looks := false }, kinds := [], alts := [], laidByText := true, laidKinds := [.data], laidTests := true, laidLooks := .later }
def DiffLagrangeUptoCardSaid : Prop := Claim7.holds Tryd.pinned (.plain (OpenSpec.upto diffLagrangeSpec)) diffLagrangeUptoCard

/-- THE SECOND FORM's CARD OF 'geofencelaw05.DiffTriangle'. -/
def diffTriangleUptoCard : Claim7 := { stood := { row := diffTriangleUptoRow, standIns := [], harness := (true, "bc61bb568244a431cb5404fde88558af9ad3047b70e856a06796f924c12822c4"), looks := false }, kinds := [], alts := [], laidByText := true, laidKinds := [.data], laidTests := true, laidLooks := .later }
def DiffTriangleUptoCardSaid : Prop := Claim7.holds Tryd.pinned (.plain (OpenSpec.upto diffTriangleSpec)) diffTriangleUptoCard
end Rows
end Go.Proofs.YtdcckjpeibnkbaaDoor
