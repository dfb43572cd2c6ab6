/-
  DERIVED. GIVEN WITH THE SEED: THE CARDS: each row of YtcfdpimpleniaaaDoorRows.lean that lists a variable, with what it lists TIED to the program's text (the seventh form; the later family's looks); each row that meets fmt, with fmt's text TOLD by the authors' own Lean function (tested against real Go, not proved from fmt's source: count such statements apart). THE CARD IS WHAT COUNTS. Prove the row's statement (the work); the ties are given (YtcfdpimpleniaaaDoorTie.lean); close each card by the builder's one call (the guide's Derived/Test/ToyasCard.lean, 'card_holds'). Laid BY PROGRAM, IN A SANDBOX (cutbox-door.mjs). By AI agents, Wed Nov 11 2026. No macro, syntax, notation, axiom, sorry.
-/
import Derived.Test.YtcfdpimpleniaaaDoorRows
import GoSem.ClaimSeven
namespace Go.Proofs.YtcfdpimpleniaaaDoor
namespace Rows

/-- THE TIED CARD OF 'geofencelaw18.CodecEncodes'. -/
def codecEncodesCard : Claim7 := { stood := { row := codecEncodesRow, standIns := [], harness := (true, "1924c9978aba8822ec6d417d2ac5dae07934050922dfb13afaf2558a8d9f3859"), looks := false }, kinds := [], alts := [], laidByText := true, laidKinds := [.data, .data], laidTests := true, laidLooks := .later }
def CodecEncodesCardSaid : Prop := Claim7.holds Tryd.pinned (.plain (OpenSpec.ofChange codecEncodesSpec)) codecEncodesCard

/-- THE TIED CARD OF 'geofencelaw18.CodecDecodes'. -/
def codecDecodesCard : Claim7 := { stood := { row := codecDecodesRow, standIns := [], harness := (true, "1924c9978aba8822ec6d417d2ac5dae07934050922dfb13afaf2558a8d9f3859"), looks := false }, kinds := [], alts := [], laidByText := true, laidKinds := [.data, .data], laidTests := true, laidLooks := .later }
def CodecDecodesCardSaid : Prop := Claim7.holds Tryd.pinned (.plain (OpenSpec.ofChange codecDecodesSpec)) codecDecodesCard

/-- THE TIED CARD OF 'geofencelaw18.CodecRoundTrip'. -/
def codecRoundTripCard : Claim7 := { stood := { row := codecRoundTripRow, standIns := [], harness := (true, "1924c9978aba8822ec6d417d2ac5dae07934050922dfb13afaf2558a8d9f3859"), looks := false }, kinds := [], alts := [], laidByText := true, laidKinds := [.data, .data], laidTests := true, laidLooks := .later }
def CodecRoundTripCardSaid : Prop := Claim7.holds Tryd.pinned (.plain (OpenSpec.ofChange codecRoundTripSpec)) codecRoundTripCard

/-- THE TIED CARD OF 'geofencelaw18.CodecIsCanonical'. -/
def codecIsCanonicalCard : Claim7 := { stood := { row := codecIsCanonicalRow, standIns := [], harness := (true, "1924c9978aba8822ec6d417d2ac5dae07934050922dfb13afaf2558a8d9f3859"), looks := false }, kinds := [], alts := [], laidByText := true, laidKinds := [.data, .data], laidTests := true, laidLooks := .later }
def CodecIsCanonicalCardSaid : Prop := Claim7.holds Tryd.pinned (.plain (OpenSpec.ofChange codecIsCanonicalSpec)) codecIsCanonicalCard

/-- THE TIED CARD OF 'geofencelaw18.CodecResponds'. -/
def codecRespondsCard : Claim7 := { stood := { row := codecRespondsRow, standIns := [], harness := (true, "1924c9978aba8822ec6d417d2ac5dae07934050922dfb13afaf2558a8d9f3859"), looks := false }, kinds := [], alts := [], laidByText := true, laidKinds := [.data, .data], laidTests := true, laidLooks := .later }
def CodecRespondsCardSaid : Prop := Claim7.holds Tryd.pinned (.plain (OpenSpec.ofChange codecRespondsSpec)) codecRespondsCard

/-- THE TIED CARD OF 'geofencelaw18.CodecReads'. -/
def codecReadsCard : Claim7 := { stood := { row := codecReadsRow, standIns := [], harness := (true, "1924c9978aba8822ec6d417d2ac5dae07934050922dfb13afaf2558a8d9f3859"), looks := false }, kinds := [], alts := [], laidByText := true, laidKinds := [.data, .data], laidTests := true, laidLooks := .later }
def CodecReadsCardSaid : Prop := Claim7.holds Tryd.pinned (.plain (OpenSpec.ofChange codecReadsSpec)) codecReadsCard

/-- THE SECOND FORM's CARD OF 'geofencelaw18.CodecEncodes'. -/
def codecEncodesUptoCard : Claim7 := { stood := { row := codecEncodesUptoRow, standIns := [], harness := (true, "1924c9978aba8822ec6d417d2ac5dae07934050922dfb13afaf2558a8d9f3859"), looks := false }, kinds := [], alts := [], laidByText := true, laidKinds := [.data, .data], laidTests := true, laidLooks := .later }
def CodecEncodesUptoCardSaid : Prop := Claim7.holds Tryd.pinned (.plain (OpenSpec.upto codecEncodesSpec)) codecEncodesUptoCard

/-- THE SECOND FORM's CARD OF 'geofencelaw18.CodecDecodes'. -/
def codecDecodesUptoCard : Claim7 := { stood := { row := codecDecodesUptoRow, standIns := [], harness := (true, "1924c9978aba8822ec6d417d2ac5dae07934050922dfb13afaf2558a8d9f3859"), looks := false }, kinds := [], alts := [], laidByText := true, laidKinds := [.data, .data], laidTests := true, laidLooks := .later }
def CodecDecodesUptoCardSaid : Prop := Claim7.holds Tryd.pinned (.plain (OpenSpec.upto codecDecodesSpec)) codecDecodesUptoCard

/-- THE SECOND FORM's CARD OF 'geofencelaw18.CodecRoundTrip'. -/
def codecRoundTripUptoCard : Claim7 := { stood := { row := codecRoundTripUptoRow, standIns := [], harness := (true, "1924c9978aba8822ec6d417d2ac5dae07934050922dfb13afaf2558a8d9f3859"), looks := false }, kinds := [], alts := [], laidByText := true, laidKinds := [.data, .data], laidTests := true, laidLooks := .later }
def CodecRoundTripUptoCardSaid : Prop := Claim7.holds Tryd.pinned (.plain (OpenSpec.upto codecRoundTripSpec)) codecRoundTripUptoCard

/-- THE SECOND FORM's CARD OF 'geofencelaw18.CodecIsCanonical'. -/
def codecIsCanonicalUptoCard : Claim7 := { stood := { row := codecIsCanonicalUptoRow, standIns := [], harness := (true, "1924c9978aba8822ec6d417d2ac5dae07934050922dfb13afaf2558a8d9f3859"), looks := false }, kinds := [], alts := [], laidByText := true, laidKinds := [.data, .data], laidTests := true, laidLooks := .later }
def CodecIsCanonicalUptoCardSaid : Prop := Claim7.holds Tryd.pinned (.plain (OpenSpec.upto codecIsCanonicalSpec)) codecIsCanonicalUptoCard

/-- THE SECOND FORM's CARD OF 'geofencelaw18.CodecResponds'. -/
def codecRespondsUptoCard : Claim7 := { stood := { row := codecRespondsUptoRow, standIns := [], harness := (true, "1924c9978aba8822ec6d417d2ac5dae07934050922dfb13afaf2558a8d9f3859"), looks := false }, kinds := [], alts := [], laidByText := true, laidKinds := [.data, .data], laidTests := true, laidLooks := .later }
def CodecRespondsUptoCardSaid : Prop := Claim7.holds Tryd.pinned (.plain (OpenSpec.upto codecRespondsSpec)) codecRespondsUptoCard

/-- THE SECOND FORM's CARD OF 'geofencelaw18.CodecReads'. -/
def codecReadsUptoCard : Claim7 := { stood := { row := codecReadsUptoRow, standIns := [], harness := (true, "1924c9978aba8822ec6d417d2ac5dae07934050922dfb13afaf2558a8d9f3859"), looks := false }, kinds := [], alts := [], laidByText := true, laidKinds := [.data, .data], laidTests := true, laidLooks := .later }
def CodecReadsUptoCardSaid : Prop := Claim7.holds Tryd.pinned (.plain (OpenSpec.upto codecReadsSpec)) codecReadsUptoCard
end Rows
end Go.Proofs.YtcfdpimpleniaaaDoor
