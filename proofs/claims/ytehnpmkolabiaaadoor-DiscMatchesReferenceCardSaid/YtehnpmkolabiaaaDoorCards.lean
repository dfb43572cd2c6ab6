/-
  DERIVED. GIVEN WITH THE SEED: THE CARDS: each row of YtehnpmkolabiaaaDoorRows.lean that lists a variable, with what it lists TIED to the program's text (the seventh form; the later family's looks); each row that meets fmt, with fmt's text TOLD by the authors' own Lean function (tested against real Go, not proved from fmt's source: count such statements apart). THE CARD IS WHAT COUNTS. Prove the row's statement (the work); the ties are given (YtehnpmkolabiaaaDoorTie.lean); close each card by the builder's one call (the guide's Derived/Test/ToyasCard.lean, 'card_holds'). Laid BY PROGRAM, IN A SANDBOX (cutbox-door.mjs). By AI agents, Wed Nov 11 2026. No macro, syntax, notation, axiom, sorry.
-/
import Derived.Test.YtehnpmkolabiaaaDoorRows
import GoSem.ClaimSeven
namespace Go.Proofs.YtehnpmkolabiaaaDoor
namespace Rows

/-- THE TIED CARD OF 'geofencelaw15.DiscMatchesReference'. -/
def discMatchesReferenceCard : Claim7 := { stood := { row := discMatchesReferenceRow, standIns := [], harness := (true, "deb3f12f7d9880f21d72d2c1bcb93cbc4767f78925ec560f345c43c33331031f"), looks := false }, kinds := [], alts := [], laidByText := true, laidKinds := [.data, .data], laidTests := true, laidLooks := .later }
def DiscMatchesReferenceCardSaid : Prop := Claim7.holds Tryd.pinned (.plain (OpenSpec.ofChange discMatchesReferenceSpec)) discMatchesReferenceCard

/-- THE TIED CARD OF 'geofencelaw15.DiscEvents'. -/
def discEventsCard : Claim7 := { stood := { row := discEventsRow, standIns := [], harness := (true, "deb3f12f7d9880f21d72d2c1bcb93cbc4767f78925ec560f345c43c33331031f"), looks := false }, kinds := [], alts := [], laidByText := true, laidKinds := [.data, .data], laidTests := true, laidLooks := .later }
def DiscEventsCardSaid : Prop := Claim7.holds Tryd.pinned (.plain (OpenSpec.ofChange discEventsSpec)) discEventsCard

/-- THE TIED CARD OF 'geofencelaw15.DiscOrder'. -/
def discOrderCard : Claim7 := { stood := { row := discOrderRow, standIns := [], harness := (true, "deb3f12f7d9880f21d72d2c1bcb93cbc4767f78925ec560f345c43c33331031f"), looks := false }, kinds := [], alts := [], laidByText := true, laidKinds := [.data, .data], laidTests := true, laidLooks := .later }
def DiscOrderCardSaid : Prop := Claim7.holds Tryd.pinned (.plain (OpenSpec.ofChange discOrderSpec)) discOrderCard

/-- THE TIED CARD OF 'geofencelaw15.DiscBoundary'. -/
def discBoundaryCard : Claim7 := { stood := { row := discBoundaryRow, standIns := [], harness := (true, "deb3f12f7d9880f21d72d2c1bcb93cbc4767f78925ec560f345c43c33331031f"), looks := false }, kinds := [], alts := [], laidByText := true, laidKinds := [.data, .data], laidTests := true, laidLooks := .later }
def DiscBoundaryCardSaid : Prop := Claim7.holds Tryd.pinned (.plain (OpenSpec.ofChange discBoundarySpec)) discBoundaryCard

/-- THE TIED CARD OF 'geofencelaw15.DiscMiddles'. -/
def discMiddlesCard : Claim7 := { stood := { row := discMiddlesRow, standIns := [], harness := (true, "deb3f12f7d9880f21d72d2c1bcb93cbc4767f78925ec560f345c43c33331031f"), looks := false }, kinds := [], alts := [], laidByText := true, laidKinds := [.data, .data], laidTests := true, laidLooks := .later }
def DiscMiddlesCardSaid : Prop := Claim7.holds Tryd.pinned (.plain (OpenSpec.ofChange discMiddlesSpec)) discMiddlesCard

/-- THE TIED CARD OF 'geofencelaw15.DiscRadius'. -/
def discRadiusCard : Claim7 := { stood := { row := discRadiusRow, standIns := [], harness := (true, "deb3f12f7d9880f21d72d2c1bcb93cbc4767f78925ec560f345c43c33331031f"), looks := false }, kinds := [], alts := [], laidByText := true, laidKinds := [.data, .data], laidTests := true, laidLooks := .later }
def DiscRadiusCardSaid : Prop := Claim7.holds Tryd.pinned (.plain (OpenSpec.ofChange discRadiusSpec)) discRadiusCard

/-- THE SECOND FORM's CARD OF 'geofencelaw15.DiscMatchesReference'. -/
def discMatchesReferenceUptoCard : Claim7 := { stood := { row := discMatchesReferenceUptoRow, standIns := [], harness := (true, "deb3f12f7d9880f21d72d2c1bcb93cbc4767f78925ec560f345c43c33331031f"), looks := false }, kinds := [], alts := [], laidByText := true, laidKinds := [.data, .data], laidTests := true, laidLooks := .later }
def DiscMatchesReferenceUptoCardSaid : Prop := Claim7.holds Tryd.pinned (.plain (OpenSpec.upto discMatchesReferenceSpec)) discMatchesReferenceUptoCard

/-- THE SECOND FORM's CARD OF 'geofencelaw15.DiscEvents'. -/
def discEventsUptoCard : Claim7 := { stood := { row := discEventsUptoRow, standIns := [], harness := (true, "deb3f12f7d9880f21d72d2c1bcb93cbc4767f78925ec560f345c43c33331031f"), looks := false }, kinds := [], alts := [], laidByText := true, laidKinds := [.data, .data], laidTests := true, laidLooks := .later }
def DiscEventsUptoCardSaid : Prop := Claim7.holds Tryd.pinned (.plain (OpenSpec.upto discEventsSpec)) discEventsUptoCard

/-- THE SECOND FORM's CARD OF 'geofencelaw15.DiscOrder'. -/
def discOrderUptoCard : Claim7 := { stood := { row := discOrderUptoRow, standIns := [], harness := (true, "deb3f12f7d9880f21d72d2c1bcb93cbc4767f78925ec560f345c43c33331031f"), looks := false }, kinds := [], alts := [], laidByText := true, laidKinds := [.data, .data], laidTests := true, laidLooks := .later }
def DiscOrderUptoCardSaid : Prop := Claim7.holds Tryd.pinned (.plain (OpenSpec.upto discOrderSpec)) discOrderUptoCard

/-- THE SECOND FORM's CARD OF 'geofencelaw15.DiscBoundary'. -/
def discBoundaryUptoCard : Claim7 := { stood := { row := discBoundaryUptoRow, standIns := [], harness := (true, "deb3f12f7d9880f21d72d2c1bcb93cbc4767f78925ec560f345c43c33331031f"), looks := false }, kinds := [], alts := [], laidByText := true, laidKinds := [.data, .data], laidTests := true, laidLooks := .later }
def DiscBoundaryUptoCardSaid : Prop := Claim7.holds Tryd.pinned (.plain (OpenSpec.upto discBoundarySpec)) discBoundaryUptoCard

/-- THE SECOND FORM's CARD OF 'geofencelaw15.DiscMiddles'. -/
def discMiddlesUptoCard : Claim7 := { stood := { row := discMiddlesUptoRow, standIns := [], harness := (true, "deb3f12f7d9880f21d72d2c1bcb93cbc4767f78925ec560f345c43c33331031f"), looks := false }, kinds := [], alts := [], laidByText := true, laidKinds := [.data, .data], laidTests := true, laidLooks := .later }
def DiscMiddlesUptoCardSaid : Prop := Claim7.holds Tryd.pinned (.plain (OpenSpec.upto discMiddlesSpec)) discMiddlesUptoCard

/-- THE SECOND FORM's CARD OF 'geofencelaw15.DiscRadius'. -/
def discRadiusUptoCard : Claim7 := { stood := { row := discRadiusUptoRow, standIns := [], harness := (true, "deb3f12f7d9880f21d72d2c1bcb93cbc4767f78925ec560f345c43c33331031f"), looks := false }, kinds := [], alts := [], laidByText := true, laidKinds := [.data, .data], laidTests := true, laidLooks := .later }
def DiscRadiusUptoCardSaid : Prop := Claim7.holds Tryd.pinned (.plain (OpenSpec.upto discRadiusSpec)) discRadiusUptoCard
end Rows
end Go.Proofs.YtehnpmkolabiaaaDoor
