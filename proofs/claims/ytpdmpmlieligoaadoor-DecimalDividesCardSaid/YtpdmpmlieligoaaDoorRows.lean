/-
  NARROWER THAN 'FOR EVERY INPUT', by the rows' own cells (each row's printed sentence says how): DecimalFormats: laid · DecimalParses: laid · DecimalRoundTrip: laid · DecimalIsCanonical: laid · DecimalDivides: laid · DecimalDigits: laid.
  DERIVED. THE GIVEN ROWS OF THIS SEAT. 6 by the template 'for every input the law returns true; each argument reads behind the call as it read before'; 0 by the template 'total and deterministic' (their statements: YtpdmpmlieligoaaDoorTotals.lean).
  GIVEN WITH THE SEED: the statements are not yours to turn. If you find one false, say at which input.
  Laid BY PROGRAM, IN A SANDBOX (cutbox-rows.mjs): the forced cells as the released guide's own fill.sh prints them over the translation 0707d1a80e102082… (all of the seat's roots in one cut). By AI agents, Wed Nov 11 2026. No macro, syntax, notation, axiom, sorry.
-/
import Derived.Test.YtpdmpmlieligoaaDoorChecked
import GoSem.Claim
import GoSem.ClaimJoined
import GoSem.ClaimMapViews
import Derived.JoinedTies
import Derived.KernelRfl
namespace Go.Proofs.YtpdmpmlieligoaaDoor
/- THE CELL 'sum', in the pinned program and in every row, IS THE sha256 OF THE DUMP (.gsa) THAT YtpdmpmlieligoaaDoorProg.lean LOADS. Nothing in Lean hashes anything: it is a label: what it is worth is what the hold of that sum in a sandbox is worth. -/
noncomputable def Tryd.pinned : Pinned := { name := "ytpdmpmlieligoaadoor", sum := "0707d1a80e1020827b3472f2d25825ae388d997469d4f1a279afd0d5c899dfb6", checked := Tryd.checked }
namespace Rows
def none {H : Type} : Left H := { results := [], args := [] }

/- WHAT THE LISTED PACKAGE-LEVEL VARIABLES READ AS WHEN THE CALL BEGINS. Each datum BY PROGRAM (the guide's laid-datum.mjs) off the statement by which the dump's own 'gosem.cut.vars' lays the variable. In a bare row this is a premise. The card (YtpdmpmlieligoaaDoorCards.lean) ties it to the program's text. -/
def laid_geofence_mask_weights {H : Type} : DataW H := .agg [.lit (.int .u64 9223372036854775808), .lit (.int .u64 18446744073709551615)]

/-- 'geofencelaw04.DecimalFormats': WHATEVER THE INPUT: true; the input reads as it did. -/
def decimalFormatsSpec : ChangeSpec := { name := "decimalFormats", fn := fun _ => fun
  | [d] => { results := [.lit (.bool true)], args := [d] }
  | _ => none }
def decimalFormatsRow : OpenClaim := { program := "ytpdmpmlieligoaadoor", sum := "0707d1a80e1020827b3472f2d25825ae388d997469d4f1a279afd0d5c899dfb6", func := "geofence/geofencelaw04.DecimalFormats", spec := "decimalFormats", inPlace := ["math/bits.Add64", "math/bits.Sub64"], unfollowed := true, recurses := true, named := ["geofence/mask.weights", "math/bits.divideError", "math/bits.overflowError"], apart := false, laid := [("geofence/mask.weights", laid_geofence_mask_weights)] }
def DecimalFormatsSaid : Prop := decimalFormatsRow.holds Tryd.pinned (OpenSpec.ofChange decimalFormatsSpec)

/-- ITS FALSE NEIGHBOUR: 'it returns false'. Refute it at one input. -/
def decimalFormatsWrong : ChangeSpec := { name := "decimalFormats", fn := fun _ => fun
  | [d] => { results := [.lit (.bool false)], args := [d] }
  | _ => none }
def DecimalFormatsWrongFalsely : Prop := decimalFormatsRow.holds Tryd.pinned (OpenSpec.ofChange decimalFormatsWrong)

/-- 'geofencelaw04.DecimalParses': WHATEVER THE INPUT: true; the input reads as it did. -/
def decimalParsesSpec : ChangeSpec := { name := "decimalParses", fn := fun _ => fun
  | [d1, d2] => { results := [.lit (.bool true)], args := [d1, d2] }
  | _ => none }
def decimalParsesRow : OpenClaim := { program := "ytpdmpmlieligoaadoor", sum := "0707d1a80e1020827b3472f2d25825ae388d997469d4f1a279afd0d5c899dfb6", func := "geofence/geofencelaw04.DecimalParses", spec := "decimalParses", inPlace := ["math/bits.Add64", "math/bits.Sub64"], unfollowed := true, recurses := true, named := ["geofence/mask.weights", "math/bits.divideError", "math/bits.overflowError"], apart := false, laid := [("geofence/mask.weights", laid_geofence_mask_weights)] }
def DecimalParsesSaid : Prop := decimalParsesRow.holds Tryd.pinned (OpenSpec.ofChange decimalParsesSpec)

/-- ITS FALSE NEIGHBOUR: 'it returns false'. Refute it at one input. -/
def decimalParsesWrong : ChangeSpec := { name := "decimalParses", fn := fun _ => fun
  | [d1, d2] => { results := [.lit (.bool false)], args := [d1, d2] }
  | _ => none }
def DecimalParsesWrongFalsely : Prop := decimalParsesRow.holds Tryd.pinned (OpenSpec.ofChange decimalParsesWrong)

/-- 'geofencelaw04.DecimalRoundTrip': WHATEVER THE INPUT: true; the input reads as it did. -/
def decimalRoundTripSpec : ChangeSpec := { name := "decimalRoundTrip", fn := fun _ => fun
  | [d] => { results := [.lit (.bool true)], args := [d] }
  | _ => none }
def decimalRoundTripRow : OpenClaim := { program := "ytpdmpmlieligoaadoor", sum := "0707d1a80e1020827b3472f2d25825ae388d997469d4f1a279afd0d5c899dfb6", func := "geofence/geofencelaw04.DecimalRoundTrip", spec := "decimalRoundTrip", inPlace := ["math/bits.Add64", "math/bits.Sub64"], unfollowed := true, recurses := true, named := ["geofence/mask.weights", "math/bits.divideError", "math/bits.overflowError"], apart := false, laid := [("geofence/mask.weights", laid_geofence_mask_weights)] }
def DecimalRoundTripSaid : Prop := decimalRoundTripRow.holds Tryd.pinned (OpenSpec.ofChange decimalRoundTripSpec)

/-- ITS FALSE NEIGHBOUR: 'it returns false'. Refute it at one input. -/
def decimalRoundTripWrong : ChangeSpec := { name := "decimalRoundTrip", fn := fun _ => fun
  | [d] => { results := [.lit (.bool false)], args := [d] }
  | _ => none }
def DecimalRoundTripWrongFalsely : Prop := decimalRoundTripRow.holds Tryd.pinned (OpenSpec.ofChange decimalRoundTripWrong)

/-- 'geofencelaw04.DecimalIsCanonical': WHATEVER THE INPUT: true; the input reads as it did. -/
def decimalIsCanonicalSpec : ChangeSpec := { name := "decimalIsCanonical", fn := fun _ => fun
  | [d1, d2] => { results := [.lit (.bool true)], args := [d1, d2] }
  | _ => none }
def decimalIsCanonicalRow : OpenClaim := { program := "ytpdmpmlieligoaadoor", sum := "0707d1a80e1020827b3472f2d25825ae388d997469d4f1a279afd0d5c899dfb6", func := "geofence/geofencelaw04.DecimalIsCanonical", spec := "decimalIsCanonical", inPlace := ["math/bits.Add64", "math/bits.Sub64"], unfollowed := true, recurses := true, named := ["geofence/mask.weights", "math/bits.divideError", "math/bits.overflowError"], apart := false, laid := [("geofence/mask.weights", laid_geofence_mask_weights)] }
def DecimalIsCanonicalSaid : Prop := decimalIsCanonicalRow.holds Tryd.pinned (OpenSpec.ofChange decimalIsCanonicalSpec)

/-- ITS FALSE NEIGHBOUR: 'it returns false'. Refute it at one input. -/
def decimalIsCanonicalWrong : ChangeSpec := { name := "decimalIsCanonical", fn := fun _ => fun
  | [d1, d2] => { results := [.lit (.bool false)], args := [d1, d2] }
  | _ => none }
def DecimalIsCanonicalWrongFalsely : Prop := decimalIsCanonicalRow.holds Tryd.pinned (OpenSpec.ofChange decimalIsCanonicalWrong)

/-- 'geofencelaw04.DecimalDivides': WHATEVER THE INPUT: true; the input reads as it did. -/
def decimalDividesSpec : ChangeSpec := { name := "decimalDivides", fn := fun _ => fun
  | [d1, d2] => { results := [.lit (.bool true)], args := [d1, d2] }
  | _ => none }
def decimalDividesRow : OpenClaim := { program := "ytpdmpmlieligoaadoor", sum := "0707d1a80e1020827b3472f2d25825ae388d997469d4f1a279afd0d5c899dfb6", func := "geofence/geofencelaw04.DecimalDivides", spec := "decimalDivides", inPlace := ["math/bits.Add64", "math/bits.Sub64"], unfollowed := true, recurses := true, named := ["geofence/mask.weights", "math/bits.divideError", "math/bits.overflowError"], apart := false, laid := [("geofence/mask.weights", laid_geofence_mask_weights)] }
def DecimalDividesSaid : Prop := decimalDividesRow.holds Tryd.pinned (OpenSpec.ofChange decimalDividesSpec)

/-- ITS FALSE NEIGHBOUR: 'it returns false'. Refute it at one input. -/
def decimalDividesWrong : ChangeSpec := { name := "decimalDivides", fn := fun _ => fun
  | [d1, d2] => { results := [.lit (.bool false)], args := [d1, d2] }
  | _ => none }
def DecimalDividesWrongFalsely : Prop := decimalDividesRow.holds Tryd.pinned (OpenSpec.ofChange decimalDividesWrong)

/-- 'geofencelaw04.DecimalDigits': WHATEVER THE INPUT: true; the input reads as it did. -/
def decimalDigitsSpec : ChangeSpec := { name := "decimalDigits", fn := fun _ => fun
  | [d] => { results := [.lit (.bool true)], args := [d] }
  | _ => none }
def decimalDigitsRow : OpenClaim := { program := "ytpdmpmlieligoaadoor", sum := "0707d1a80e1020827b3472f2d25825ae388d997469d4f1a279afd0d5c899dfb6", func := "geofence/geofencelaw04.DecimalDigits", spec := "decimalDigits", inPlace := ["math/bits.Add64", "math/bits.Sub64"], unfollowed := true, recurses := true, named := ["geofence/mask.weights", "math/bits.divideError", "math/bits.overflowError"], apart := false, laid := [("geofence/mask.weights", laid_geofence_mask_weights)] }
def DecimalDigitsSaid : Prop := decimalDigitsRow.holds Tryd.pinned (OpenSpec.ofChange decimalDigitsSpec)

/-- ITS FALSE NEIGHBOUR: 'it returns false'. Refute it at one input. -/
def decimalDigitsWrong : ChangeSpec := { name := "decimalDigits", fn := fun _ => fun
  | [d] => { results := [.lit (.bool false)], args := [d] }
  | _ => none }
def DecimalDigitsWrongFalsely : Prop := decimalDigitsRow.holds Tryd.pinned (OpenSpec.ofChange decimalDigitsWrong)

/- THE SECOND FORM. 'bulk': how many values and letters a reading holds, each counted each time it is reached (what is shared counts as often as it is met; a slice's spare places count too). A statement '..UptoSaid' is the law's where the arguments, and the package variables that the reading takes, are together of bulk at most 1048576: NARROWER than '..Said'. Prove '..Said' where nothing that the law and all that it calls make is longer than what came in: it says more and counts as full. Else prove '..UptoSaid'. A law counts once. -/
mutual
def uptoBulk {H : Type} : DataW H → Nat
  | .lit (.string bytes) => bytes.length + 1
  | .lit _ => 1
  | .nil => 1
  | .ptr d => uptoBulk d + 1
  | .slice elems spare => uptoBulkAll elems + uptoBulkAll spare + 1
  | .agg parts => uptoBulkAll parts + 1
  | .iface _ d => uptoBulk d + 1
  | .map entries => uptoBulkEntries entries + 1
  | .held _ => 1
def uptoBulkAll {H : Type} : List (DataW H) → Nat
  | [] => 0
  | d :: r => uptoBulk d + uptoBulkAll r
def uptoBulkEntries {H : Type} : List (Lit × DataW H) → Nat
  | [] => 0
  | x :: r => uptoBulkEntry x + uptoBulkEntries r
def uptoBulkEntry {H : Type} : Lit × DataW H → Nat
  | (.string bytes, d) => bytes.length + uptoBulk d + 1
  | (_, d) => uptoBulk d + 1
 end
def uptoSmall : (H : Type) → List (DataW H) → Bool := fun _ ds => decide (uptoBulkAll ds ≤ 1048576)
def OpenSpec.upto (s : _root_.Go.ChangeSpec) : _root_.Go.OpenSpec := { _root_.Go.OpenSpec.ofChange s with cond := some uptoSmall }

/-- 'geofencelaw04.DecimalFormats', WHERE WHAT IT READS IS OF BULK AT MOST 1048576: true; the input reads as it did. -/
def decimalFormatsUptoRow : OpenClaim := { program := "ytpdmpmlieligoaadoor", sum := "0707d1a80e1020827b3472f2d25825ae388d997469d4f1a279afd0d5c899dfb6", func := "geofence/geofencelaw04.DecimalFormats", spec := "decimalFormats", inPlace := ["math/bits.Add64", "math/bits.Sub64"], unfollowed := true, recurses := true, named := ["geofence/mask.weights", "math/bits.divideError", "math/bits.overflowError"], apart := false, laid := [("geofence/mask.weights", laid_geofence_mask_weights)], narrowed := true }
def DecimalFormatsUptoSaid : Prop := decimalFormatsUptoRow.holds Tryd.pinned (OpenSpec.upto decimalFormatsSpec)

/-- 'geofencelaw04.DecimalParses', WHERE WHAT IT READS IS OF BULK AT MOST 1048576: true; the input reads as it did. -/
def decimalParsesUptoRow : OpenClaim := { program := "ytpdmpmlieligoaadoor", sum := "0707d1a80e1020827b3472f2d25825ae388d997469d4f1a279afd0d5c899dfb6", func := "geofence/geofencelaw04.DecimalParses", spec := "decimalParses", inPlace := ["math/bits.Add64", "math/bits.Sub64"], unfollowed := true, recurses := true, named := ["geofence/mask.weights", "math/bits.divideError", "math/bits.overflowError"], apart := false, laid := [("geofence/mask.weights", laid_geofence_mask_weights)], narrowed := true }
def DecimalParsesUptoSaid : Prop := decimalParsesUptoRow.holds Tryd.pinned (OpenSpec.upto decimalParsesSpec)

/-- 'geofencelaw04.DecimalRoundTrip', WHERE WHAT IT READS IS OF BULK AT MOST 1048576: true; the input reads as it did. -/
def decimalRoundTripUptoRow : OpenClaim := { program := "ytpdmpmlieligoaadoor", sum := "0707d1a80e1020827b3472f2d25825ae388d997469d4f1a279afd0d5c899dfb6", func := "geofence/geofencelaw04.DecimalRoundTrip", spec := "decimalRoundTrip", inPlace := ["math/bits.Add64", "math/bits.Sub64"], unfollowed := true, recurses := true, named := ["geofence/mask.weights", "math/bits.divideError", "math/bits.overflowError"], apart := false, laid := [("geofence/mask.weights", laid_geofence_mask_weights)], narrowed := true }
def DecimalRoundTripUptoSaid : Prop := decimalRoundTripUptoRow.holds Tryd.pinned (OpenSpec.upto decimalRoundTripSpec)

/-- 'geofencelaw04.DecimalIsCanonical', WHERE WHAT IT READS IS OF BULK AT MOST 1048576: true; the input reads as it did. -/
def decimalIsCanonicalUptoRow : OpenClaim := { program := "ytpdmpmlieligoaadoor", sum := "0707d1a80e1020827b3472f2d25825ae388d997469d4f1a279afd0d5c899dfb6", func := "geofence/geofencelaw04.DecimalIsCanonical", spec := "decimalIsCanonical", inPlace := ["math/bits.Add64", "math/bits.Sub64"], unfollowed := true, recurses := true, named := ["geofence/mask.weights", "math/bits.divideError", "math/bits.overflowError"], apart := false, laid := [("geofence/mask.weights", laid_geofence_mask_weights)], narrowed := true }
def DecimalIsCanonicalUptoSaid : Prop := decimalIsCanonicalUptoRow.holds Tryd.pinned (OpenSpec.upto decimalIsCanonicalSpec)

/-- 'geofencelaw04.DecimalDivides', WHERE WHAT IT READS IS OF BULK AT MOST 1048576: true; the input reads as it did. -/
def decimalDividesUptoRow : OpenClaim := { program := "ytpdmpmlieligoaadoor", sum := "0707d1a80e1020827b3472f2d25825ae388d997469d4f1a279afd0d5c899dfb6", func := "geofence/geofencelaw04.DecimalDivides", spec := "decimalDivides", inPlace := ["math/bits.Add64", "math/bits.Sub64"], unfollowed := true, recurses := true, named := ["geofence/mask.weights", "math/bits.divideError", "math/bits.overflowError"], apart := false, laid := [("geofence/mask.weights", laid_geofence_mask_weights)], narrowed := true }
def DecimalDividesUptoSaid : Prop := decimalDividesUptoRow.holds Tryd.pinned (OpenSpec.upto decimalDividesSpec)

/-- 'geofencelaw04.DecimalDigits', WHERE WHAT IT READS IS OF BULK AT MOST 1048576: true; the input reads as it did. -/
def decimalDigitsUptoRow : OpenClaim := { program := "ytpdmpmlieligoaadoor", sum := "0707d1a80e1020827b3472f2d25825ae388d997469d4f1a279afd0d5c899dfb6", func := "geofence/geofencelaw04.DecimalDigits", spec := "decimalDigits", inPlace := ["math/bits.Add64", "math/bits.Sub64"], unfollowed := true, recurses := true, named := ["geofence/mask.weights", "math/bits.divideError", "math/bits.overflowError"], apart := false, laid := [("geofence/mask.weights", laid_geofence_mask_weights)], narrowed := true }
def DecimalDigitsUptoSaid : Prop := decimalDigitsUptoRow.holds Tryd.pinned (OpenSpec.upto decimalDigitsSpec)

end Rows
end Go.Proofs.YtpdmpmlieligoaaDoor
