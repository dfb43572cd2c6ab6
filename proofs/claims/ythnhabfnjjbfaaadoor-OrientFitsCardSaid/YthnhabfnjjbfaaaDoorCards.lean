/-
  DERIVED. GIVEN WITH THE SEED: THE CARDS: each row of YthnhabfnjjbfaaaDoorRows.lean that lists a variable, with what it lists TIED to the program's text (the seventh form; the later family's looks); each row that meets fmt, with fmt's text TOLD by the authors' own Lean function (tested against real Go, not proved from fmt's source: count such statements apart). THE CARD IS WHAT COUNTS. Prove the row's statement (the work); the ties are given (YthnhabfnjjbfaaaDoorTie.lean); close each card by the builder's one call (the guide's Derived/Test/ToyasCard.lean, 'card_holds'). Laid BY PROGRAM, IN A SANDBOX (cutbox-door.mjs). By AI agents, Wed Nov 11 2026. No macro, syntax, notation, axiom, sorry.
-/
import Derived.Test.YthnhabfnjjbfaaaDoorRows
import GoSem.ClaimSeven
namespace Go.Proofs.YthnhabfnjjbfaaaDoor
namespace Rows

/-- THE TIED CARD OF 'geofencelaw06.OrientIsExact'. -/
def orientIsExactCard : Claim7 := { stood := { row := orientIsExactRow, standIns := [], harness := (true, "2d1fd8181a7248b452065142f443a35dbd11b02651a73d8a84c1cfbe4be3cc60"), looks := false }, kinds := [], alts := [], laidByText := true, laidKinds := [.data, .data], laidTests := true, laidLooks := .later }
def OrientIsExactCardSaid : Prop := Claim7.holds Tryd.pinned (.plain (OpenSpec.ofChange orientIsExactSpec)) orientIsExactCard

/-- THE TIED CARD OF 'geofencelaw06.OrientMasks'. -/
def orientMasksCard : Claim7 := { stood := { row := orientMasksRow, standIns := [], harness := (true, "2d1fd8181a7248b452065142f443a35dbd11b02651a73d8a84c1cfbe4be3cc60"), looks := false }, kinds := [], alts := [], laidByText := true, laidKinds := [.data, .data], laidTests := true, laidLooks := .later }
def OrientMasksCardSaid : Prop := Claim7.holds Tryd.pinned (.plain (OpenSpec.ofChange orientMasksSpec)) orientMasksCard

/-- THE TIED CARD OF 'geofencelaw06.OrientAlternates'. -/
def orientAlternatesCard : Claim7 := { stood := { row := orientAlternatesRow, standIns := [], harness := (true, "2d1fd8181a7248b452065142f443a35dbd11b02651a73d8a84c1cfbe4be3cc60"), looks := false }, kinds := [], alts := [], laidByText := true, laidKinds := [.data, .data], laidTests := true, laidLooks := .later }
def OrientAlternatesCardSaid : Prop := Claim7.holds Tryd.pinned (.plain (OpenSpec.ofChange orientAlternatesSpec)) orientAlternatesCard

/-- THE TIED CARD OF 'geofencelaw06.OrientTranslates'. -/
def orientTranslatesCard : Claim7 := { stood := { row := orientTranslatesRow, standIns := [], harness := (true, "2d1fd8181a7248b452065142f443a35dbd11b02651a73d8a84c1cfbe4be3cc60"), looks := false }, kinds := [], alts := [], laidByText := true, laidKinds := [.data, .data], laidTests := true, laidLooks := .later }
def OrientTranslatesCardSaid : Prop := Claim7.holds Tryd.pinned (.plain (OpenSpec.ofChange orientTranslatesSpec)) orientTranslatesCard

/-- THE TIED CARD OF 'geofencelaw06.OrientAddsUp'. -/
def orientAddsUpCard : Claim7 := { stood := { row := orientAddsUpRow, standIns := [], harness := (true, "2d1fd8181a7248b452065142f443a35dbd11b02651a73d8a84c1cfbe4be3cc60"), looks := false }, kinds := [], alts := [], laidByText := true, laidKinds := [.data, .data], laidTests := true, laidLooks := .later }
def OrientAddsUpCardSaid : Prop := Claim7.holds Tryd.pinned (.plain (OpenSpec.ofChange orientAddsUpSpec)) orientAddsUpCard

/-- THE TIED CARD OF 'geofencelaw06.OrientFits'. -/
def orientFitsCard : Claim7 := { stood := { row := orientFitsRow, standIns := [], harness := (true, "2d1fd8181a7248b452065142f443a35dbd11b02651a73d8a84c1cfbe4be3cc60"), looks := false }, kinds := [], alts := [], laidByText := true, laidKinds := [.data, .data], laidTests := true, laidLooks := .later }
def OrientFitsCardSaid : Prop := Claim7.holds Tryd.pinned (.plain (OpenSpec.ofChange orientFitsSpec)) orientFitsCard

/-- THE SECOND FORM's CARD OF 'geofencelaw06.OrientIsExact'. -/
def orientIsExactUptoCard : Claim7 := { stood := { row := orientIsExactUptoRow, standIns := [], harness := (true, "2d1fd8181a7248b452065142f443a35dbd11b02651a73d8a84c1cfbe4be3cc60"), looks := false }, kinds := [], alts := [], laidByText := true, laidKinds := [.data, .data], laidTests := true, laidLooks := .later }
def OrientIsExactUptoCardSaid : Prop := Claim7.holds Tryd.pinned (.plain (OpenSpec.upto orientIsExactSpec)) orientIsExactUptoCard

/-- THE SECOND FORM's CARD OF 'geofencelaw06.OrientMasks'. -/
def orientMasksUptoCard : Claim7 := { stood := { row := orientMasksUptoRow, standIns := [], harness := (true, "2d1fd8181a7248b452065142f443a35dbd11b02651a73d8a84c1cfbe4be3cc60"), looks := false }, kinds := [], alts := [], laidByText := true, laidKinds := [.data, .data], laidTests := true, laidLooks := .later }
def OrientMasksUptoCardSaid : Prop := Claim7.holds Tryd.pinned (.plain (OpenSpec.upto orientMasksSpec)) orientMasksUptoCard

/-- THE SECOND FORM's CARD OF 'geofencelaw06.OrientAlternates'. -/
def orientAlternatesUptoCard : Claim7 := { stood := { row := orientAlternatesUptoRow, standIns := [], harness := (true, "2d1fd8181a7248b452065142f443a35dbd11b02651a73d8a84c1cfbe4be3cc60"), looks := false }, kinds := [], alts := [], laidByText := true, laidKinds := [.data, .data], laidTests := true, laidLooks := .later }
def OrientAlternatesUptoCardSaid : Prop := Claim7.holds Tryd.pinned (.plain (OpenSpec.upto orientAlternatesSpec)) orientAlternatesUptoCard

/-- THE SECOND FORM's CARD OF 'geofencelaw06.OrientTranslates'. -/
def orientTranslatesUptoCard : Claim7 := { stood := { row := orientTranslatesUptoRow, standIns := [], harness := (true, "2d1fd8181a7248b452065142f443a35dbd11b02651a73d8a84c1cfbe4be3cc60"), looks := false }, kinds := [], alts := [], laidByText := true, laidKinds := [.data, .data], laidTests := true, laidLooks := .later }
def OrientTranslatesUptoCardSaid : Prop := Claim7.holds Tryd.pinned (.plain (OpenSpec.upto orientTranslatesSpec)) orientTranslatesUptoCard

/-- THE SECOND FORM's CARD OF 'geofencelaw06.OrientAddsUp'. -/
def orientAddsUpUptoCard : Claim7 := { stood := { row := orientAddsUpUptoRow, standIns := [], harness := (true, "2d1fd8181a7248b452065142f443a35dbd11b02651a73d8a84c1cfbe4be3cc60"), looks := false }, kinds := [], alts := [], laidByText := true, laidKinds := [.data, .data], laidTests := true, laidLooks := .later }
def OrientAddsUpUptoCardSaid : Prop := Claim7.holds Tryd.pinned (.plain (OpenSpec.upto orientAddsUpSpec)) orientAddsUpUptoCard

/-- THE SECOND FORM's CARD OF 'geofencelaw06.OrientFits'. -/
def orientFitsUptoCard : Claim7 := { stood := { row := orientFitsUptoRow, standIns := [], harness := (true, "2d1fd8181a7248b452065142f443a35dbd11b02651a73d8a84c1cfbe4be3cc60"), looks := false }, kinds := [], alts := [], laidByText := true, laidKinds := [.data, .data], laidTests := true, laidLooks := .later }
def OrientFitsUptoCardSaid : Prop := Claim7.holds Tryd.pinned (.plain (OpenSpec.upto orientFitsSpec)) orientFitsUptoCard
end Rows
end Go.Proofs.YthnhabfnjjbfaaaDoor
