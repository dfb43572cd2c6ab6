/-
  DERIVED. GIVEN WITH THE SEED: THE CARDS: each row of YtckeognbfdladaaDoorRows.lean that lists a variable, with what it lists TIED to the program's text (the seventh form; the later family's looks); each row that meets fmt, with fmt's text TOLD by the authors' own Lean function (tested against real Go, not proved from fmt's source: count such statements apart). THE CARD IS WHAT COUNTS. Prove the row's statement (the work); the ties are given (YtckeognbfdladaaDoorTie.lean); close each card by the builder's one call (the guide's Derived/Test/ToyasCard.lean, 'card_holds'). Laid BY PROGRAM, IN A SANDBOX (cutbox-door.mjs). By AI agents, Wed Nov 11 2026. No macro, syntax, notation, axiom, sorry.
-/
import Derived.Test.YtckeognbfdladaaDoorRows
import GoSem.ClaimSeven
namespace Go.Proofs.YtckeognbfdladaaDoor
namespace Rows

/-- THE TIED CARD OF 'geofencelaw07.CircleIsExact'. -/
def circleIsExactCard : Claim7 := { stood := { row := circleIsExactRow, standIns := [], harness := (true, "2f7f2f65268c8d42bc7286f877e9aab26a9b2816ab41aa085f07bb3f4b62a9bc"), looks := false }, kinds := [], alts := [], laidByText := true, laidKinds := [.data], laidTests := true, laidLooks := .later }
def CircleIsExactCardSaid : Prop := Claim7.holds Tryd.pinned (.plain (OpenSpec.ofChange circleIsExactSpec)) circleIsExactCard

/-- THE TIED CARD OF 'geofencelaw07.CircleSides'. -/
def circleSidesCard : Claim7 := { stood := { row := circleSidesRow, standIns := [], harness := (true, "2f7f2f65268c8d42bc7286f877e9aab26a9b2816ab41aa085f07bb3f4b62a9bc"), looks := false }, kinds := [], alts := [], laidByText := true, laidKinds := [.data], laidTests := true, laidLooks := .later }
def CircleSidesCardSaid : Prop := Claim7.holds Tryd.pinned (.plain (OpenSpec.ofChange circleSidesSpec)) circleSidesCard

/-- THE TIED CARD OF 'geofencelaw07.CircleAlternates'. -/
def circleAlternatesCard : Claim7 := { stood := { row := circleAlternatesRow, standIns := [], harness := (true, "2f7f2f65268c8d42bc7286f877e9aab26a9b2816ab41aa085f07bb3f4b62a9bc"), looks := false }, kinds := [], alts := [], laidByText := true, laidKinds := [.data], laidTests := true, laidLooks := .later }
def CircleAlternatesCardSaid : Prop := Claim7.holds Tryd.pinned (.plain (OpenSpec.ofChange circleAlternatesSpec)) circleAlternatesCard

/-- THE TIED CARD OF 'geofencelaw07.CircleTranslates'. -/
def circleTranslatesCard : Claim7 := { stood := { row := circleTranslatesRow, standIns := [], harness := (true, "2f7f2f65268c8d42bc7286f877e9aab26a9b2816ab41aa085f07bb3f4b62a9bc"), looks := false }, kinds := [], alts := [], laidByText := true, laidKinds := [.data], laidTests := true, laidLooks := .later }
def CircleTranslatesCardSaid : Prop := Claim7.holds Tryd.pinned (.plain (OpenSpec.ofChange circleTranslatesSpec)) circleTranslatesCard

/-- THE TIED CARD OF 'geofencelaw07.CircleCorners'. -/
def circleCornersCard : Claim7 := { stood := { row := circleCornersRow, standIns := [], harness := (true, "2f7f2f65268c8d42bc7286f877e9aab26a9b2816ab41aa085f07bb3f4b62a9bc"), looks := false }, kinds := [], alts := [], laidByText := true, laidKinds := [.data], laidTests := true, laidLooks := .later }
def CircleCornersCardSaid : Prop := Claim7.holds Tryd.pinned (.plain (OpenSpec.ofChange circleCornersSpec)) circleCornersCard

/-- THE TIED CARD OF 'geofencelaw07.CircleOnItself'. -/
def circleOnItselfCard : Claim7 := { stood := { row := circleOnItselfRow, standIns := [], harness := (true, "2f7f2f65268c8d42bc7286f877e9aab26a9b2816ab41aa085f07bb3f4b62a9bc"), looks := false }, kinds := [], alts := [], laidByText := true, laidKinds := [.data], laidTests := true, laidLooks := .later }
def CircleOnItselfCardSaid : Prop := Claim7.holds Tryd.pinned (.plain (OpenSpec.ofChange circleOnItselfSpec)) circleOnItselfCard

/-- THE SECOND FORM's CARD OF 'geofencelaw07.CircleIsExact'. -/
def circleIsExactUptoCard : Claim7 := { stood := { row := circleIsExactUptoRow, standIns := [], harness := (true, "2f7f2f65268c8d42bc7286f877e9aab26a9b2816ab41aa085f07bb3f4b62a9bc"), looks := false }, kinds := [], alts := [], laidByText := true, laidKinds := [.data], laidTests := true, laidLooks := .later }
def CircleIsExactUptoCardSaid : Prop := Claim7.holds Tryd.pinned (.plain (OpenSpec.upto circleIsExactSpec)) circleIsExactUptoCard

/-- THE SECOND FORM's CARD OF 'geofencelaw07.CircleSides'. -/
def circleSidesUptoCard : Claim7 := { stood := { row := circleSidesUptoRow, standIns := [], harness := (true, "2f7f2f65268c8d42bc7286f877e9aab26a9b2816ab41aa085f07bb3f4b62a9bc"), looks := false }, kinds := [], alts := [], laidByText := true, laidKinds := [.data], laidTests := true, laidLooks := .later }
def CircleSidesUptoCardSaid : Prop := Claim7.holds Tryd.pinned (.plain (OpenSpec.upto circleSidesSpec)) circleSidesUptoCard

/-- THE SECOND FORM's CARD OF 'geofencelaw07.CircleAlternates'. -/
def circleAlternatesUptoCard : Claim7 := { stood := { row := circleAlternatesUptoRow, standIns := [], harness := (true, "2f7f2f65268c8d42bc7286f877e9aab26a9b2816ab41aa085f07bb3f4b62a9bc"), looks := false }, kinds := [], alts := [], laidByText := true, laidKinds := [.data], laidTests := true, laidLooks := .later }
def CircleAlternatesUptoCardSaid : Prop := Claim7.holds Tryd.pinned (.plain (OpenSpec.upto circleAlternatesSpec)) circleAlternatesUptoCard

/-- THE SECOND FORM's CARD OF 'geofencelaw07.CircleTranslates'. -/
def circleTranslatesUptoCard : Claim7 := { stood := { row := circleTranslatesUptoRow, standIns := [], harness := (true, "2f7f2f65268c8d42bc7286f877e9aab26a9b2816ab41aa085f07bb3f4b62a9bc"), looks := false }, kinds := [], alts := [], laidByText := true, laidKinds := [.data], laidTests := true, laidLooks := .later }
def CircleTranslatesUptoCardSaid : Prop := Claim7.holds Tryd.pinned (.plain (OpenSpec.upto circleTranslatesSpec)) circleTranslatesUptoCard

/-- THE SECOND FORM's CARD OF 'geofencelaw07.CircleCorners'. -/
def circleCornersUptoCard : Claim7 := { stood := { row := circleCornersUptoRow, standIns := [], harness := (true, "2f7f2f65268c8d42bc7286f877e9aab26a9b2816ab41aa085f07bb3f4b62a9bc"), looks := false }, kinds := [], alts := [], laidByText := true, laidKinds := [.data], laidTests := true, laidLooks := .later }
def CircleCornersUptoCardSaid : Prop := Claim7.holds Tryd.pinned (.plain (OpenSpec.upto circleCornersSpec)) circleCornersUptoCard

/-- THE SECOND FORM's CARD OF 'geofencelaw07.CircleOnItself'. -/
def circleOnItselfUptoCard : Claim7 := { stood := { row := circleOnItselfUptoRow, standIns := [], harness := (true, "2f7f2f65268c8d42bc7286f877e9aab26a9b2816ab41aa085f07bb3f4b62a9bc"), looks := false }, kinds := [], alts := [], laidByText := true, laidKinds := [.data], laidTests := true, laidLooks := .later }
def CircleOnItselfUptoCardSaid : Prop := Claim7.holds Tryd.pinned (.plain (OpenSpec.upto circleOnItselfSpec)) circleOnItselfUptoCard
end Rows
end Go.Proofs.YtckeognbfdladaaDoor
