/-
  DERIVED. GIVEN WITH THE SEED: THE CARDS: each row of YthdghhfdbckilaaDoorRows.lean that lists a variable, with what it lists TIED to the program's text (the seventh form; the later family's looks); each row that meets fmt, with fmt's text TOLD by the authors' own Lean function (tested against real Go, not proved from fmt's source: count such statements apart). THE CARD IS WHAT COUNTS. Prove the row's statement (the work); the ties are given (YthdghhfdbckilaaDoorTie.lean); close each card by the builder's one call (the guide's Derived/Test/ToyasCard.lean, 'card_holds'). Laid BY PROGRAM, IN A SANDBOX (cutbox-door.mjs). By AI agents, Wed Nov 11 2026. No macro, syntax, notation, axiom, sorry.
-/
import Derived.Test.YthdghhfdbckilaaDoorRows
import GoSem.ClaimSeven
namespace Go.Proofs.YthdghhfdbckilaaDoor
namespace Rows

/-- THE TIED CARD OF 'geofencelaw13.SortingCompares'. -/
def sortingComparesCard : Claim7 := { stood := { row := sortingComparesRow, standIns := [], harness := (true, "7fe6147166431d466ae7032f38bb5bc6372b4c588039ff0ead2ef086fa6bedb7"), looks := false }, kinds := [], alts := [], laidByText := true, laidKinds := [.data], laidTests := true, laidLooks := .later }
def SortingComparesCardSaid : Prop := Claim7.holds Tryd.pinned (.plain (OpenSpec.ofChange sortingComparesSpec)) sortingComparesCard

/-- THE TIED CARD OF 'geofencelaw13.SortingSorts'. -/
def sortingSortsCard : Claim7 := { stood := { row := sortingSortsRow, standIns := [], harness := (true, "7fe6147166431d466ae7032f38bb5bc6372b4c588039ff0ead2ef086fa6bedb7"), looks := false }, kinds := [], alts := [], laidByText := true, laidKinds := [.data], laidTests := true, laidLooks := .later }
def SortingSortsCardSaid : Prop := Claim7.holds Tryd.pinned (.plain (OpenSpec.ofChange sortingSortsSpec)) sortingSortsCard

/-- THE TIED CARD OF 'geofencelaw13.SortingEvents'. -/
def sortingEventsCard : Claim7 := { stood := { row := sortingEventsRow, standIns := [], harness := (true, "7fe6147166431d466ae7032f38bb5bc6372b4c588039ff0ead2ef086fa6bedb7"), looks := false }, kinds := [], alts := [], laidByText := true, laidKinds := [.data], laidTests := true, laidLooks := .later }
def SortingEventsCardSaid : Prop := Claim7.holds Tryd.pinned (.plain (OpenSpec.ofChange sortingEventsSpec)) sortingEventsCard

/-- THE TIED CARD OF 'geofencelaw13.SortingIsOblivious'. -/
def sortingIsObliviousCard : Claim7 := { stood := { row := sortingIsObliviousRow, standIns := [], harness := (true, "7fe6147166431d466ae7032f38bb5bc6372b4c588039ff0ead2ef086fa6bedb7"), looks := false }, kinds := [], alts := [], laidByText := true, laidKinds := [.data], laidTests := true, laidLooks := .later }
def SortingIsObliviousCardSaid : Prop := Claim7.holds Tryd.pinned (.plain (OpenSpec.ofChange sortingIsObliviousSpec)) sortingIsObliviousCard

/-- THE TIED CARD OF 'geofencelaw13.SortingForgetsOrder'. -/
def sortingForgetsOrderCard : Claim7 := { stood := { row := sortingForgetsOrderRow, standIns := [], harness := (true, "7fe6147166431d466ae7032f38bb5bc6372b4c588039ff0ead2ef086fa6bedb7"), looks := false }, kinds := [], alts := [], laidByText := true, laidKinds := [.data], laidTests := true, laidLooks := .later }
def SortingForgetsOrderCardSaid : Prop := Claim7.holds Tryd.pinned (.plain (OpenSpec.ofChange sortingForgetsOrderSpec)) sortingForgetsOrderCard

/-- THE TIED CARD OF 'geofencelaw13.SortingLive'. -/
def sortingLiveCard : Claim7 := { stood := { row := sortingLiveRow, standIns := [], harness := (true, "7fe6147166431d466ae7032f38bb5bc6372b4c588039ff0ead2ef086fa6bedb7"), looks := false }, kinds := [], alts := [], laidByText := true, laidKinds := [.data], laidTests := true, laidLooks := .later }
def SortingLiveCardSaid : Prop := Claim7.holds Tryd.pinned (.plain (OpenSpec.ofChange sortingLiveSpec)) sortingLiveCard

/-- THE SECOND FORM's CARD OF 'geofencelaw13.SortingCompares'. -/
def sortingComparesUptoCard : Claim7 := { stood := { row := sortingComparesUptoRow, standIns := [], harness := (true, "7fe6147166431d466ae7032f38bb5bc6372b4c588039ff0ead2ef086fa6bedb7"), looks := false }, kinds := [], alts := [], laidByText := true, laidKinds := [.data], laidTests := true, laidLooks := .later }
def SortingComparesUptoCardSaid : Prop := Claim7.holds Tryd.pinned (.plain (OpenSpec.upto sortingComparesSpec)) sortingComparesUptoCard

/-- THE SECOND FORM's CARD OF 'geofencelaw13.SortingSorts'. -/
def sortingSortsUptoCard : Claim7 := { stood := { row := sortingSortsUptoRow, standIns := [], harness := (true, "7fe6147166431d466ae7032f38bb5bc6372b4c588039ff0ead2ef086fa6bedb7"), looks := false }, kinds := [], alts := [], laidByText := true, laidKinds := [.data], laidTests := true, laidLooks := .later }
def SortingSortsUptoCardSaid : Prop := Claim7.holds Tryd.pinned (.plain (OpenSpec.upto sortingSortsSpec)) sortingSortsUptoCard

/-- THE SECOND FORM's CARD OF 'geofencelaw13.SortingEvents'. -/
def sortingEventsUptoCard : Claim7 := { stood := { row := sortingEventsUptoRow, standIns := [], harness := (true, "7fe6147166431d466ae7032f38bb5bc6372b4c588039ff0ead2ef086fa6bedb7"), looks := false }, kinds := [], alts := [], laidByText := true, laidKinds := [.data], laidTests := true, laidLooks := .later }
def SortingEventsUptoCardSaid : Prop := Claim7.holds Tryd.pinned (.plain (OpenSpec.upto sortingEventsSpec)) sortingEventsUptoCard

/-- THE SECOND FORM's CARD OF 'geofencelaw13.SortingIsOblivious'. -/
def sortingIsObliviousUptoCard : Claim7 := { stood := { row := sortingIsObliviousUptoRow, standIns := [], harness := (true, "7fe6147166431d466ae7032f38bb5bc6372b4c588039ff0ead2ef086fa6bedb7"), looks := false }, kinds := [], alts := [], laidByText := true, laidKinds := [.data], laidTests := true, laidLooks := .later }
def SortingIsObliviousUptoCardSaid : Prop := Claim7.holds Tryd.pinned (.plain (OpenSpec.upto sortingIsObliviousSpec)) sortingIsObliviousUptoCard

/-- THE SECOND FORM's CARD OF 'geofencelaw13.SortingForgetsOrder'. -/
def sortingForgetsOrderUptoCard : Claim7 := { stood := { row := sortingForgetsOrderUptoRow, standIns := [], harness := (true, "7fe6147166431d466ae7032f38bb5bc6372b4c588039ff0ead2ef086fa6bedb7"), looks := false }, kinds := [], alts := [], laidByText := true, laidKinds := [.data], laidTests := true, laidLooks := .later }
def SortingForgetsOrderUptoCardSaid : Prop := Claim7.holds Tryd.pinned (.plain (OpenSpec.upto sortingForgetsOrderSpec)) sortingForgetsOrderUptoCard

/-- THE SECOND FORM's CARD OF 'geofencelaw13.SortingLive'. -/
def sortingLiveUptoCard : Claim7 := { stood := { row := sortingLiveUptoRow, standIns := [], harness := (true, "7fe6147166431d466ae7032f38bb5bc6372b4c588039ff0ead2ef086fa6bedb7"), looks := false }, kinds := [], alts := [], laidByText := true, laidKinds := [.data], laidTests := true, laidLooks := .later }
def SortingLiveUptoCardSaid : Prop := Claim7.holds Tryd.pinned (.plain (OpenSpec.upto sortingLiveSpec)) sortingLiveUptoCard
end Rows
end Go.Proofs.YthdghhfdbckilaaDoor
