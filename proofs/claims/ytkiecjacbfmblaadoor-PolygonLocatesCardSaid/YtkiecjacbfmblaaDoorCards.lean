/-
  DERIVED. GIVEN WITH THE SEED: THE CARDS: each row of YtkiecjacbfmblaaDoorRows.lean that lists a variable, with what it lists TIED to the program's text (the seventh form; the later family's looks); each row that meets fmt, with fmt's text TOLD by the authors' own Lean function (tested against real Go, not proved from fmt's source: count such statements apart). THE CARD IS WHAT COUNTS. Prove the row's statement (the work); the ties are given (YtkiecjacbfmblaaDoorTie.lean); close each card by the builder's one call (the guide's Derived/Test/ToyasCard.lean, 'card_holds'). Laid BY PROGRAM, IN A SANDBOX (cutbox-door.mjs). By AI agents, Wed Nov 11 2026. No macro, syntax, notation, axiom, sorry.
-/
import Derived.Test.YtkiecjacbfmblaaDoorRows
import GoSem.ClaimSeven
namespace Go.Proofs.YtkiecjacbfmblaaDoor
namespace Rows

/-- THE TIED CARD OF 'geofencelaw14.PolygonValid'. -/
def polygonValidCard : Claim7 := { stood := { row := polygonValidRow, standIns := [], harness := (true, "348b0923a65f97d503ffbb076c42b17b99af04c1e768b8163ea2a522447ad6a0"), looks := false }, kinds := [], alts := [], laidByText := true, laidKinds := [.data], laidTests := true, laidLooks := .later }
def PolygonValidCardSaid : Prop := Claim7.holds Tryd.pinned (.plain (OpenSpec.ofChange polygonValidSpec)) polygonValidCard

/-- THE TIED CARD OF 'geofencelaw14.PolygonLocates'. -/
def polygonLocatesCard : Claim7 := { stood := { row := polygonLocatesRow, standIns := [], harness := (true, "348b0923a65f97d503ffbb076c42b17b99af04c1e768b8163ea2a522447ad6a0"), looks := false }, kinds := [], alts := [], laidByText := true, laidKinds := [.data], laidTests := true, laidLooks := .later }
def PolygonLocatesCardSaid : Prop := Claim7.holds Tryd.pinned (.plain (OpenSpec.ofChange polygonLocatesSpec)) polygonLocatesCard

/-- THE TIED CARD OF 'geofencelaw14.PolygonEvents'. -/
def polygonEventsCard : Claim7 := { stood := { row := polygonEventsRow, standIns := [], harness := (true, "348b0923a65f97d503ffbb076c42b17b99af04c1e768b8163ea2a522447ad6a0"), looks := false }, kinds := [], alts := [], laidByText := true, laidKinds := [.data], laidTests := true, laidLooks := .later }
def PolygonEventsCardSaid : Prop := Claim7.holds Tryd.pinned (.plain (OpenSpec.ofChange polygonEventsSpec)) polygonEventsCard

/-- THE TIED CARD OF 'geofencelaw14.PolygonRotates'. -/
def polygonRotatesCard : Claim7 := { stood := { row := polygonRotatesRow, standIns := [], harness := (true, "348b0923a65f97d503ffbb076c42b17b99af04c1e768b8163ea2a522447ad6a0"), looks := false }, kinds := [], alts := [], laidByText := true, laidKinds := [.data], laidTests := true, laidLooks := .later }
def PolygonRotatesCardSaid : Prop := Claim7.holds Tryd.pinned (.plain (OpenSpec.ofChange polygonRotatesSpec)) polygonRotatesCard

/-- THE TIED CARD OF 'geofencelaw14.PolygonVertices'. -/
def polygonVerticesCard : Claim7 := { stood := { row := polygonVerticesRow, standIns := [], harness := (true, "348b0923a65f97d503ffbb076c42b17b99af04c1e768b8163ea2a522447ad6a0"), looks := false }, kinds := [], alts := [], laidByText := true, laidKinds := [.data], laidTests := true, laidLooks := .later }
def PolygonVerticesCardSaid : Prop := Claim7.holds Tryd.pinned (.plain (OpenSpec.ofChange polygonVerticesSpec)) polygonVerticesCard

/-- THE TIED CARD OF 'geofencelaw14.PolygonMiddles'. -/
def polygonMiddlesCard : Claim7 := { stood := { row := polygonMiddlesRow, standIns := [], harness := (true, "348b0923a65f97d503ffbb076c42b17b99af04c1e768b8163ea2a522447ad6a0"), looks := false }, kinds := [], alts := [], laidByText := true, laidKinds := [.data], laidTests := true, laidLooks := .later }
def PolygonMiddlesCardSaid : Prop := Claim7.holds Tryd.pinned (.plain (OpenSpec.ofChange polygonMiddlesSpec)) polygonMiddlesCard

/-- THE SECOND FORM's CARD OF 'geofencelaw14.PolygonValid'. -/
def polygonValidUptoCard : Claim7 := { stood := { row := polygonValidUptoRow, standIns := [], harness := (true, "348b0923a65f97d503ffbb076c42b17b99af04c1e768b8163ea2a522447ad6a0"), looks := false }, kinds := [], alts := [], laidByText := true, laidKinds := [.data], laidTests := true, laidLooks := .later }
def PolygonValidUptoCardSaid : Prop := Claim7.holds Tryd.pinned (.plain (OpenSpec.upto polygonValidSpec)) polygonValidUptoCard

/-- THE SECOND FORM's CARD OF 'geofencelaw14.PolygonLocates'. -/
def polygonLocatesUptoCard : Claim7 := { stood := { row := polygonLocatesUptoRow, standIns := [], harness := (true, "348b0923a65f97d503ffbb076c42b17b99af04c1e768b8163ea2a522447ad6a0"), looks := false }, kinds := [], alts := [], laidByText := true, laidKinds := [.data], laidTests := true, laidLooks := .later }
def PolygonLocatesUptoCardSaid : Prop := Claim7.holds Tryd.pinned (.plain (OpenSpec.upto polygonLocatesSpec)) polygonLocatesUptoCard

/-- THE SECOND FORM's CARD OF 'geofencelaw14.PolygonEvents'. -/
def polygonEventsUptoCard : Claim7 := { stood := { row := polygonEventsUptoRow, standIns := [], harness := (true, "348b0923a65f97d503ffbb076c42b17b99af04c1e768b8163ea2a522447ad6a0"), looks := false }, kinds := [], alts := [], laidByText := true, laidKinds := [.data], laidTests := true, laidLooks := .later }
def PolygonEventsUptoCardSaid : Prop := Claim7.holds Tryd.pinned (.plain (OpenSpec.upto polygonEventsSpec)) polygonEventsUptoCard

/-- THE SECOND FORM's CARD OF 'geofencelaw14.PolygonRotates'. -/
def polygonRotatesUptoCard : Claim7 := { stood := { row := polygonRotatesUptoRow, standIns := [], harness := (true, "348b0923a65f97d503ffbb076c42b17b99af04c1e768b8163ea2a522447ad6a0"), looks := false }, kinds := [], alts := [], laidByText := true, laidKinds := [.data], laidTests := true, laidLooks := .later }
def PolygonRotatesUptoCardSaid : Prop := Claim7.holds Tryd.pinned (.plain (OpenSpec.upto polygonRotatesSpec)) polygonRotatesUptoCard

/-- THE SECOND FORM's CARD OF 'geofencelaw14.PolygonVertices'. -/
def polygonVerticesUptoCard : Claim7 := { stood := { row := polygonVerticesUptoRow, standIns := [], harness := (true, "348b0923a65f97d503ffbb076c42b17b99af04c1e768b8163ea2a522447ad6a0"), looks := false }, kinds := [], alts := [], laidByText := true, laidKinds := [.data], laidTests := true, laidLooks := .later }
def PolygonVerticesUptoCardSaid : Prop := Claim7.holds Tryd.pinned (.plain (OpenSpec.upto polygonVerticesSpec)) polygonVerticesUptoCard

/-- THE SECOND FORM's CARD OF 'geofencelaw14.PolygonMiddles'. -/
def polygonMiddlesUptoCard : Claim7 := { stood := { row := polygonMiddlesUptoRow, standIns := [], harness := (true, "348b0923a65f97d503ffbb076c42b17b99af04c1e768b8163ea2a522447ad6a0"), looks := false }, kinds := [], alts := [], laidByText := true, laidKinds := [.data], laidTests := true, laidLooks := .later }
def PolygonMiddlesUptoCardSaid : Prop := Claim7.holds Tryd.pinned (.plain (OpenSpec.upto polygonMiddlesSpec)) polygonMiddlesUptoCard
end Rows
end Go.Proofs.YtkiecjacbfmblaaDoor
