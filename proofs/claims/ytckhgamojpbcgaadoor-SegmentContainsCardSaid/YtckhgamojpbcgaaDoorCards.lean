/-
  DERIVED. GIVEN WITH THE SEED: THE CARDS: each row of YtckhgamojpbcgaaDoorRows.lean that lists a variable, with what it lists TIED to the program's text (the seventh form; the later family's looks); each row that meets fmt, with fmt's text TOLD by the authors' own Lean function (tested against real Go, not proved from fmt's source: count such statements apart). THE CARD IS WHAT COUNTS. Prove the row's statement (the work); the ties are given (YtckhgamojpbcgaaDoorTie.lean); close each card by the builder's one call (the guide's Derived/Test/ToyasCard.lean, 'card_holds'). Laid BY PROGRAM, IN A SANDBOX (cutbox-door.mjs). By AI agents, Wed Nov 11 2026. No macro, syntax, notation, axiom, sorry.
-/
import Derived.Test.YtckhgamojpbcgaaDoorRows
import GoSem.ClaimSeven
namespace Go.Proofs.YtckhgamojpbcgaaDoor
namespace Rows

/-- THE TIED CARD OF 'geofencelaw08.SegmentWithin'. -/
def segmentWithinCard : Claim7 := { stood := { row := segmentWithinRow, standIns := [], harness := (true, "7baaad7ed5943ec684d86d969f23b69b8c819f2d68bd67496d08b90d424fea90"), looks := false }, kinds := [], alts := [], laidByText := true, laidKinds := [.data, .data], laidTests := true, laidLooks := .later }
def SegmentWithinCardSaid : Prop := Claim7.holds Tryd.pinned (.plain (OpenSpec.ofChange segmentWithinSpec)) segmentWithinCard

/-- THE TIED CARD OF 'geofencelaw08.SegmentContains'. -/
def segmentContainsCard : Claim7 := { stood := { row := segmentContainsRow, standIns := [], harness := (true, "7baaad7ed5943ec684d86d969f23b69b8c819f2d68bd67496d08b90d424fea90"), looks := false }, kinds := [], alts := [], laidByText := true, laidKinds := [.data, .data], laidTests := true, laidLooks := .later }
def SegmentContainsCardSaid : Prop := Claim7.holds Tryd.pinned (.plain (OpenSpec.ofChange segmentContainsSpec)) segmentContainsCard

/-- THE TIED CARD OF 'geofencelaw08.SegmentMeets'. -/
def segmentMeetsCard : Claim7 := { stood := { row := segmentMeetsRow, standIns := [], harness := (true, "7baaad7ed5943ec684d86d969f23b69b8c819f2d68bd67496d08b90d424fea90"), looks := false }, kinds := [], alts := [], laidByText := true, laidKinds := [.data, .data], laidTests := true, laidLooks := .later }
def SegmentMeetsCardSaid : Prop := Claim7.holds Tryd.pinned (.plain (OpenSpec.ofChange segmentMeetsSpec)) segmentMeetsCard

/-- THE TIED CARD OF 'geofencelaw08.SegmentSymmetries'. -/
def segmentSymmetriesCard : Claim7 := { stood := { row := segmentSymmetriesRow, standIns := [], harness := (true, "7baaad7ed5943ec684d86d969f23b69b8c819f2d68bd67496d08b90d424fea90"), looks := false }, kinds := [], alts := [], laidByText := true, laidKinds := [.data, .data], laidTests := true, laidLooks := .later }
def SegmentSymmetriesCardSaid : Prop := Claim7.holds Tryd.pinned (.plain (OpenSpec.ofChange segmentSymmetriesSpec)) segmentSymmetriesCard

/-- THE TIED CARD OF 'geofencelaw08.SegmentItself'. -/
def segmentItselfCard : Claim7 := { stood := { row := segmentItselfRow, standIns := [], harness := (true, "7baaad7ed5943ec684d86d969f23b69b8c819f2d68bd67496d08b90d424fea90"), looks := false }, kinds := [], alts := [], laidByText := true, laidKinds := [.data, .data], laidTests := true, laidLooks := .later }
def SegmentItselfCardSaid : Prop := Claim7.holds Tryd.pinned (.plain (OpenSpec.ofChange segmentItselfSpec)) segmentItselfCard

/-- THE TIED CARD OF 'geofencelaw08.SegmentImplications'. -/
def segmentImplicationsCard : Claim7 := { stood := { row := segmentImplicationsRow, standIns := [], harness := (true, "7baaad7ed5943ec684d86d969f23b69b8c819f2d68bd67496d08b90d424fea90"), looks := false }, kinds := [], alts := [], laidByText := true, laidKinds := [.data, .data], laidTests := true, laidLooks := .later }
def SegmentImplicationsCardSaid : Prop := Claim7.holds Tryd.pinned (.plain (OpenSpec.ofChange segmentImplicationsSpec)) segmentImplicationsCard

/-- THE SECOND FORM's CARD OF 'geofencelaw08.SegmentWithin'. -/
def segmentWithinUptoCard : Claim7 := { stood := { row := segmentWithinUptoRow, standIns := [], harness := (true, "7baaad7ed5943ec684d86d969f23b69b8c819f2d68bd67496d08b90d424fea90"), looks := false }, kinds := [], alts := [], laidByText := true, laidKinds := [.data, .data], laidTests := true, laidLooks := .later }
def SegmentWithinUptoCardSaid : Prop := Claim7.holds Tryd.pinned (.plain (OpenSpec.upto segmentWithinSpec)) segmentWithinUptoCard

/-- THE SECOND FORM's CARD OF 'geofencelaw08.SegmentContains'. -/
def segmentContainsUptoCard : Claim7 := { stood := { row := segmentContainsUptoRow, standIns := [], harness := (true, "7baaad7ed5943ec684d86d969f23b69b8c819f2d68bd67496d08b90d424fea90"), looks := false }, kinds := [], alts := [], laidByText := true, laidKinds := [.data, .data], laidTests := true, laidLooks := .later }
def SegmentContainsUptoCardSaid : Prop := Claim7.holds Tryd.pinned (.plain (OpenSpec.upto segmentContainsSpec)) segmentContainsUptoCard

/-- THE SECOND FORM's CARD OF 'geofencelaw08.SegmentMeets'. -/
def segmentMeetsUptoCard : Claim7 := { stood := { row := segmentMeetsUptoRow, standIns := [], harness := (true, "7baaad7ed5943ec684d86d969f23b69b8c819f2d68bd67496d08b90d424fea90"), looks := false }, kinds := [], alts := [], laidByText := true, laidKinds := [.data, .data], laidTests := true, laidLooks := .later }
def SegmentMeetsUptoCardSaid : Prop := Claim7.holds Tryd.pinned (.plain (OpenSpec.upto segmentMeetsSpec)) segmentMeetsUptoCard

/-- THE SECOND FORM's CARD OF 'geofencelaw08.SegmentSymmetries'. -/
def segmentSymmetriesUptoCard : Claim7 := { stood := { row := segmentSymmetriesUptoRow, standIns := [], harness := (true, "7baaad7ed5943ec684d86d969f23b69b8c819f2d68bd67496d08b90d424fea90"), looks := false }, kinds := [], alts := [], laidByText := true, laidKinds := [.data, .data], laidTests := true, laidLooks := .later }
def SegmentSymmetriesUptoCardSaid : Prop := Claim7.holds Tryd.pinned (.plain (OpenSpec.upto segmentSymmetriesSpec)) segmentSymmetriesUptoCard

/-- THE SECOND FORM's CARD OF 'geofencelaw08.SegmentItself'. -/
def segmentItselfUptoCard : Claim7 := { stood := { row := segmentItselfUptoRow, standIns := [], harness := (true, "7baaad7ed5943ec684d86d969f23b69b8c819f2d68bd67496d08b90d424fea90"), looks := false }, kinds := [], alts := [], laidByText := true, laidKinds := [.data, .data], laidTests := true, laidLooks := .later }
def SegmentItselfUptoCardSaid : Prop := Claim7.holds Tryd.pinned (.plain (OpenSpec.upto segmentItselfSpec)) segmentItselfUptoCard

/-- THE SECOND FORM's CARD OF 'geofencelaw08.SegmentImplications'. -/
def segmentImplicationsUptoCard : Claim7 := { stood := { row := segmentImplicationsUptoRow, standIns := [], harness := (true, "7baaad7ed5943ec684d86d969f23b69b8c819f2d68bd67496d08b90d424fea90"), looks := false }, kinds := [], alts := [], laidByText := true, laidKinds := [.data, .data], laidTests := true, laidLooks := .later }
def SegmentImplicationsUptoCardSaid : Prop := Claim7.holds Tryd.pinned (.plain (OpenSpec.upto segmentImplicationsSpec)) segmentImplicationsUptoCard
end Rows
end Go.Proofs.YtckhgamojpbcgaaDoor
