/-
  DERIVED. GIVEN WITH THE SEED: THE CARDS: each row of YtgekbdlomkdeeaaDoorRows.lean that lists a variable, with what it lists TIED to the program's text (the seventh form; the later family's looks); each row that meets fmt, with fmt's text TOLD by the authors' own Lean function (tested against real Go, not proved from fmt's source: count such statements apart). THE CARD IS WHAT COUNTS. Prove the row's statement (the work); the ties are given (YtgekbdlomkdeeaaDoorTie.lean); close each card by the builder's one call (the guide's Derived/Test/ToyasCard.lean, 'card_holds'). Laid BY PROGRAM, IN A SANDBOX (cutbox-door.mjs). By AI agents, Wed Nov 11 2026. No macro, syntax, notation, axiom, sorry.
-/
import Derived.Test.YtgekbdlomkdeeaaDoorRows
import GoSem.ClaimSeven
namespace Go.Proofs.YtgekbdlomkdeeaaDoor
namespace Rows

/-- THE TIED CARD OF 'geofencelaw02.WordAdds'. -/
def wordAddsCard : Claim7 := { stood := { row := wordAddsRow, standIns := [], harness := (true, "11dcd4a3f3efb4ca44e6d16ba7140821408145955286a701b6321e671d444ee9"), looks := false }, kinds := [], alts := [], laidByText := true, laidKinds := [.data], laidTests := true, laidLooks := .later }
def WordAddsCardSaid : Prop := Claim7.holds Tryd.pinned (.plain (OpenSpec.ofChange wordAddsSpec)) wordAddsCard

/-- THE TIED CARD OF 'geofencelaw02.WordMultiplies'. -/
def wordMultipliesCard : Claim7 := { stood := { row := wordMultipliesRow, standIns := [], harness := (true, "11dcd4a3f3efb4ca44e6d16ba7140821408145955286a701b6321e671d444ee9"), looks := false }, kinds := [], alts := [], laidByText := true, laidKinds := [.data], laidTests := true, laidLooks := .later }
def WordMultipliesCardSaid : Prop := Claim7.holds Tryd.pinned (.plain (OpenSpec.ofChange wordMultipliesSpec)) wordMultipliesCard

/-- THE TIED CARD OF 'geofencelaw02.WordMultipliesSigned'. -/
def wordMultipliesSignedCard : Claim7 := { stood := { row := wordMultipliesSignedRow, standIns := [], harness := (true, "11dcd4a3f3efb4ca44e6d16ba7140821408145955286a701b6321e671d444ee9"), looks := false }, kinds := [], alts := [], laidByText := true, laidKinds := [.data], laidTests := true, laidLooks := .later }
def WordMultipliesSignedCardSaid : Prop := Claim7.holds Tryd.pinned (.plain (OpenSpec.ofChange wordMultipliesSignedSpec)) wordMultipliesSignedCard

/-- THE TIED CARD OF 'geofencelaw02.WordInverts'. -/
def wordInvertsCard : Claim7 := { stood := { row := wordInvertsRow, standIns := [], harness := (true, "11dcd4a3f3efb4ca44e6d16ba7140821408145955286a701b6321e671d444ee9"), looks := false }, kinds := [], alts := [], laidByText := true, laidKinds := [.data], laidTests := true, laidLooks := .later }
def WordInvertsCardSaid : Prop := Claim7.holds Tryd.pinned (.plain (OpenSpec.ofChange wordInvertsSpec)) wordInvertsCard

/-- THE TIED CARD OF 'geofencelaw02.WordCommutes'. -/
def wordCommutesCard : Claim7 := { stood := { row := wordCommutesRow, standIns := [], harness := (true, "11dcd4a3f3efb4ca44e6d16ba7140821408145955286a701b6321e671d444ee9"), looks := false }, kinds := [], alts := [], laidByText := true, laidKinds := [.data], laidTests := true, laidLooks := .later }
def WordCommutesCardSaid : Prop := Claim7.holds Tryd.pinned (.plain (OpenSpec.ofChange wordCommutesSpec)) wordCommutesCard

/-- THE TIED CARD OF 'geofencelaw02.WordSquares'. -/
def wordSquaresCard : Claim7 := { stood := { row := wordSquaresRow, standIns := [], harness := (true, "11dcd4a3f3efb4ca44e6d16ba7140821408145955286a701b6321e671d444ee9"), looks := false }, kinds := [], alts := [], laidByText := true, laidKinds := [.data], laidTests := true, laidLooks := .later }
def WordSquaresCardSaid : Prop := Claim7.holds Tryd.pinned (.plain (OpenSpec.ofChange wordSquaresSpec)) wordSquaresCard

/-- THE SECOND FORM's CARD OF 'geofencelaw02.WordAdds'. -/
def wordAddsUptoCard : Claim7 := { stood := { row := wordAddsUptoRow, standIns := [], harness := (true, "11dcd4a3f3efb4ca44e6d16ba7140821408145955286a701b6321e671d444ee9"), looks := false }, kinds := [], alts := [], laidByText := true, laidKinds := [.data], laidTests := true, laidLooks := .later }
def WordAddsUptoCardSaid : Prop := Claim7.holds Tryd.pinned (.plain (OpenSpec.upto wordAddsSpec)) wordAddsUptoCard

/-- THE SECOND FORM's CARD OF 'geofencelaw02.WordMultiplies'. -/
def wordMultipliesUptoCard : Claim7 := { stood := { row := wordMultipliesUptoRow, standIns := [], harness := (true, "11dcd4a3f3efb4ca44e6d16ba7140821408145955286a701b6321e671d444ee9"), looks := false }, kinds := [], alts := [], laidByText := true, laidKinds := [.data], laidTests := true, laidLooks := .later }
def WordMultipliesUptoCardSaid : Prop := Claim7.holds Tryd.pinned (.plain (OpenSpec.upto wordMultipliesSpec)) wordMultipliesUptoCard

/-- THE SECOND FORM's CARD OF 'geofencelaw02.WordMultipliesSigned'. -/
def wordMultipliesSignedUptoCard : Claim7 := { stood := { row := wordMultipliesSignedUptoRow, standIns := [], harness := (true, "11dcd4a3f3efb4ca44e6d16ba7140821408145955286a701b6321e671d444ee9"), looks := false }, kinds := [], alts := [], laidByText := true, laidKinds := [.data], laidTests := true, laidLooks := .later }
def WordMultipliesSignedUptoCardSaid : Prop := Claim7.holds Tryd.pinned (.plain (OpenSpec.upto wordMultipliesSignedSpec)) wordMultipliesSignedUptoCard

/-- THE SECOND FORM's CARD OF 'geofencelaw02.WordInverts'. -/
def wordInvertsUptoCard : Claim7 := { stood := { row := wordInvertsUptoRow, standIns := [], harness := (true, "11dcd4a3f3efb4ca44e6d16ba7140821408145955286a701b6321e671d444ee9"), looks := false }, kinds := [], alts := [], laidByText := true, laidKinds := [.data], laidTests := true, laidLooks := .later }
def WordInvertsUptoCardSaid : Prop := Claim7.holds Tryd.pinned (.plain (OpenSpec.upto wordInvertsSpec)) wordInvertsUptoCard

/-- THE SECOND FORM's CARD OF 'geofencelaw02.WordCommutes'. -/
def wordCommutesUptoCard : Claim7 := { stood := { row := wordCommutesUptoRow, standIns := [], harness := (true, "11dcd4a3f3efb4ca44e6d16ba7140821408145955286a701b6321e671d444ee9"), looks := false }, kinds := [], alts := [], laidByText := true, laidKinds := [.data], laidTests := true, laidLooks := .later }
def WordCommutesUptoCardSaid : Prop := Claim7.holds Tryd.pinned (.plain (OpenSpec.upto wordCommutesSpec)) wordCommutesUptoCard

/-- THE SECOND FORM's CARD OF 'geofencelaw02.WordSquares'. -/
def wordSquaresUptoCard : Claim7 := { stood := { row := wordSquaresUptoRow, standIns := [], harness := (true, "11dcd4a3f3efb4ca44e6d16ba7140821408145955286a701b6321e671d444ee9"), looks := false }, kinds := [], alts := [], laidByText := true, laidKinds := [.data], laidTests := true, laidLooks := .later }
def WordSquaresUptoCardSaid : Prop := Claim7.holds Tryd.pinned (.plain (OpenSpec.upto wordSquaresSpec)) wordSquaresUptoCard
end Rows
end Go.Proofs.YtgekbdlomkdeeaaDoor
