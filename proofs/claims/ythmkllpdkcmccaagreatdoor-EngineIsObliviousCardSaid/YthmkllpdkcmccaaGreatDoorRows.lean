/-
  NARROWER THAN 'FOR EVERY INPUT', by the rows' own cells (each row's printed sentence says how): EngineConvex: laid · EngineEvents: laid · EngineIsOblivious: laid · EngineRanges: laid.
  DERIVED. THE GIVEN ROWS OF THIS SEAT. 4 by the template 'for every input the law returns true; each argument reads behind the call as it read before'; 0 by the template 'total and deterministic' (their statements: YthmkllpdkcmccaaGreatDoorTotals.lean).
  GIVEN WITH THE SEED: the statements are not yours to turn. If you find one false, say at which input.
  Laid BY PROGRAM, IN A SANDBOX (cutbox-rows.mjs): the forced cells as the released guide's own fill.sh prints them over the translation 284f03ab15922372… (all of the seat's roots in one cut). By AI agents, Wed Nov 11 2026. No macro, syntax, notation, axiom, sorry.
-/
import Derived.Test.YthmkllpdkcmccaaGreatDoorChecked
import GoSem.Claim
import GoSem.ClaimJoined
import GoSem.ClaimMapViews
import Derived.JoinedTies
import Derived.KernelRfl
namespace Go.Proofs.YthmkllpdkcmccaaGreatDoor
/- THE CELL 'sum', in the pinned program and in every row, IS THE sha256 OF THE DUMP (.gsa) THAT YthmkllpdkcmccaaGreatDoorProg.lean LOADS. Nothing in Lean hashes anything: it is a label: what it is worth is what the hold of that sum in a sandbox is worth. -/
noncomputable def Tryz.pinned : Pinned := { name := "ythmkllpdkcmccaagreatdoor", sum := "284f03ab15922372f901cfad530cfe9ef119dfb0a6207cd9fd6819b7a435c216", checked := Tryz.checked }
namespace Rows
def none {H : Type} : Left H := { results := [], args := [] }

/- WHAT THE LISTED PACKAGE-LEVEL VARIABLES READ AS WHEN THE CALL BEGINS. Each datum BY PROGRAM (the guide's laid-datum.mjs) off the statement by which the dump's own 'gosem.cut.vars' lays the variable. In a bare row this is a premise. The card (YthmkllpdkcmccaaGreatDoorCards.lean) ties it to the program's text. -/
def laid_geofence_mask_weights {H : Type} : DataW H := .agg [.lit (.int .u64 9223372036854775808), .lit (.int .u64 18446744073709551615)]
def laid_geofence_codec_prescriptions {H : Type} : DataW H := .agg [.agg [.lit (.int .i64 0), .lit (.int .i64 0)], .agg [.lit (.int .i64 3), .lit (.int .i64 2)], .agg [.lit (.int .i64 4), .lit (.int .i64 2)], .agg [.lit (.int .i64 1), .lit (.int .i64 3)], .agg [.lit (.int .i64 1), .lit (.int .i64 2)], .agg [.lit (.int .i64 0), .lit (.int .i64 1)]]

/-- 'geofencelaw19.EngineConvex': WHATEVER THE INPUT: true; the input reads as it did. -/
def engineConvexSpec : ChangeSpec := { name := "engineConvex", fn := fun _ => fun
  | [d1, d2] => { results := [.lit (.bool true)], args := [d1, d2] }
  | _ => none }
def engineConvexRow : OpenClaim := { program := "ythmkllpdkcmccaagreatdoor", sum := "284f03ab15922372f901cfad530cfe9ef119dfb0a6207cd9fd6819b7a435c216", func := "geofence/geofencelaw19.EngineConvex", spec := "engineConvex", inPlace := ["math/bits.Sub64", "math/bits.Add64"], unfollowed := true, recurses := true, named := ["geofence/codec.prescriptions", "geofence/mask.weights"], apart := false, laid := [("geofence/mask.weights", laid_geofence_mask_weights), ("geofence/codec.prescriptions", laid_geofence_codec_prescriptions)] }
def EngineConvexSaid : Prop := engineConvexRow.holds Tryz.pinned (OpenSpec.ofChange engineConvexSpec)

/-- ITS FALSE NEIGHBOUR: 'it returns false'. Refute it at one input. -/
def engineConvexWrong : ChangeSpec := { name := "engineConvex", fn := fun _ => fun
  | [d1, d2] => { results := [.lit (.bool false)], args := [d1, d2] }
  | _ => none }
def EngineConvexWrongFalsely : Prop := engineConvexRow.holds Tryz.pinned (OpenSpec.ofChange engineConvexWrong)

/-- 'geofencelaw19.EngineEvents': WHATEVER THE INPUT: true; the input reads as it did. -/
def engineEventsSpec : ChangeSpec := { name := "engineEvents", fn := fun _ => fun
  | [d] => { results := [.lit (.bool true)], args := [d] }
  | _ => none }
def engineEventsRow : OpenClaim := { program := "ythmkllpdkcmccaagreatdoor", sum := "284f03ab15922372f901cfad530cfe9ef119dfb0a6207cd9fd6819b7a435c216", func := "geofence/geofencelaw19.EngineEvents", spec := "engineEvents", inPlace := ["math/bits.Sub64", "math/bits.Add64"], unfollowed := true, recurses := true, named := ["geofence/codec.prescriptions", "geofence/mask.weights"], apart := false, laid := [("geofence/mask.weights", laid_geofence_mask_weights), ("geofence/codec.prescriptions", laid_geofence_codec_prescriptions)] }
def EngineEventsSaid : Prop := engineEventsRow.holds Tryz.pinned (OpenSpec.ofChange engineEventsSpec)

/-- ITS FALSE NEIGHBOUR: 'it returns false'. Refute it at one input. -/
def engineEventsWrong : ChangeSpec := { name := "engineEvents", fn := fun _ => fun
  | [d] => { results := [.lit (.bool false)], args := [d] }
  | _ => none }
def EngineEventsWrongFalsely : Prop := engineEventsRow.holds Tryz.pinned (OpenSpec.ofChange engineEventsWrong)

/-- 'geofencelaw19.EngineIsOblivious': WHATEVER THE INPUT: true; the input reads as it did. -/
def engineIsObliviousSpec : ChangeSpec := { name := "engineIsOblivious", fn := fun _ => fun
  | [d1, d2] => { results := [.lit (.bool true)], args := [d1, d2] }
  | _ => none }
def engineIsObliviousRow : OpenClaim := { program := "ythmkllpdkcmccaagreatdoor", sum := "284f03ab15922372f901cfad530cfe9ef119dfb0a6207cd9fd6819b7a435c216", func := "geofence/geofencelaw19.EngineIsOblivious", spec := "engineIsOblivious", inPlace := ["math/bits.Sub64", "math/bits.Add64"], unfollowed := true, recurses := true, named := ["geofence/codec.prescriptions", "geofence/mask.weights"], apart := false, laid := [("geofence/mask.weights", laid_geofence_mask_weights), ("geofence/codec.prescriptions", laid_geofence_codec_prescriptions)] }
def EngineIsObliviousSaid : Prop := engineIsObliviousRow.holds Tryz.pinned (OpenSpec.ofChange engineIsObliviousSpec)

/-- ITS FALSE NEIGHBOUR: 'it returns false'. Refute it at one input. -/
def engineIsObliviousWrong : ChangeSpec := { name := "engineIsOblivious", fn := fun _ => fun
  | [d1, d2] => { results := [.lit (.bool false)], args := [d1, d2] }
  | _ => none }
def EngineIsObliviousWrongFalsely : Prop := engineIsObliviousRow.holds Tryz.pinned (OpenSpec.ofChange engineIsObliviousWrong)

/-- 'geofencelaw19.EngineRanges': WHATEVER THE INPUT: true; the input reads as it did. -/
def engineRangesSpec : ChangeSpec := { name := "engineRanges", fn := fun _ => fun
  | [d] => { results := [.lit (.bool true)], args := [d] }
  | _ => none }
def engineRangesRow : OpenClaim := { program := "ythmkllpdkcmccaagreatdoor", sum := "284f03ab15922372f901cfad530cfe9ef119dfb0a6207cd9fd6819b7a435c216", func := "geofence/geofencelaw19.EngineRanges", spec := "engineRanges", inPlace := ["math/bits.Sub64", "math/bits.Add64"], unfollowed := true, recurses := true, named := ["geofence/codec.prescriptions", "geofence/mask.weights"], apart := false, laid := [("geofence/mask.weights", laid_geofence_mask_weights), ("geofence/codec.prescriptions", laid_geofence_codec_prescriptions)] }
def EngineRangesSaid : Prop := engineRangesRow.holds Tryz.pinned (OpenSpec.ofChange engineRangesSpec)

/-- ITS FALSE NEIGHBOUR: 'it returns false'. Refute it at one input. -/
def engineRangesWrong : ChangeSpec := { name := "engineRanges", fn := fun _ => fun
  | [d] => { results := [.lit (.bool false)], args := [d] }
  | _ => none }
def EngineRangesWrongFalsely : Prop := engineRangesRow.holds Tryz.pinned (OpenSpec.ofChange engineRangesWrong)

/- THE SECOND FORM. 'bulk': how many values and letters a reading holds, each counted each time it is reached (what is shared counts as often as it is met; a slice's spare places count too). A statement '..UptoSaid' is the law's where the arguments, and the package variables that the reading takes, are together of bulk at most 1048576: NARROWER than '..Said'. Prove '..Said' where nothing that the law and all that it calls make is longer than what came in: it says more and counts as full. Else prove '..UptoSaid'. A law counts once. -/
mutual
def uptoBulk {H : Type} : DataW H → Nat
  | .lit (.string bytes) => bytes.length + 1
  | .lit _ => 1
  | .nil => 1
  | .ptr d => uptoBulk d + 1
  | .slice elems spare => uptoBulkAll elems + uptoBulkAll spare + 1
  | .agg parts => uptoBulkAll parts + 1
  | .iface _ d => uptoBulk d + 1
  | .map entries => uptoBulkEntries entries + 1
  | .held _ => 1
def uptoBulkAll {H : Type} : List (DataW H) → Nat
  | [] => 0
  | d :: r => uptoBulk d + uptoBulkAll r
def uptoBulkEntries {H : Type} : List (Lit × DataW H) → Nat
  | [] => 0
  | x :: r => uptoBulkEntry x + uptoBulkEntries r
def uptoBulkEntry {H : Type} : Lit × DataW H → Nat
  | (.string bytes, d) => bytes.length + uptoBulk d + 1
  | (_, d) => uptoBulk d + 1
 end
def uptoSmall : (H : Type) → List (DataW H) → Bool := fun _ ds => decide (uptoBulkAll ds ≤ 1048576)
def OpenSpec.upto (s : _root_.Go.ChangeSpec) : _root_.Go.OpenSpec := { _root_.Go.OpenSpec.ofChange s with cond := some uptoSmall }

/-- 'geofencelaw19.EngineConvex', WHERE WHAT IT READS IS OF BULK AT MOST 1048576: true; the input reads as it did. -/
def engineConvexUptoRow : OpenClaim := { program := "ythmkllpdkcmccaagreatdoor", sum := "284f03ab15922372f901cfad530cfe9ef119dfb0a6207cd9fd6819b7a435c216", func := "geofence/geofencelaw19.EngineConvex", spec := "engineConvex", inPlace := ["math/bits.Sub64", "math/bits.Add64"], unfollowed := true, recurses := true, named := ["geofence/codec.prescriptions", "geofence/mask.weights"], apart := false, laid := [("geofence/mask.weights", laid_geofence_mask_weights), ("geofence/codec.prescriptions", laid_geofence_codec_prescriptions)], narrowed := true }
def EngineConvexUptoSaid : Prop := engineConvexUptoRow.holds Tryz.pinned (OpenSpec.upto engineConvexSpec)

/-- 'geofencelaw19.EngineEvents', WHERE WHAT IT READS IS OF BULK AT MOST 1048576: true; the input reads as it did. -/
def engineEventsUptoRow : OpenClaim := { program := "ythmkllpdkcmccaagreatdoor", sum := "284f03ab15922372f901cfad530cfe9ef119dfb0a6207cd9fd6819b7a435c216", func := "geofence/geofencelaw19.EngineEvents", spec := "engineEvents", inPlace := ["math/bits.Sub64", "math/bits.Add64"], unfollowed := true, recurses := true, named := ["geofence/codec.prescriptions", "geofence/mask.weights"], apart := false, laid := [("geofence/mask.weights", laid_geofence_mask_weights), ("geofence/codec.prescriptions", laid_geofence_codec_prescriptions)], narrowed := true }
def EngineEventsUptoSaid : Prop := engineEventsUptoRow.holds Tryz.pinned (OpenSpec.upto engineEventsSpec)

/-- 'geofencelaw19.EngineIsOblivious', WHERE WHAT IT READS IS OF BULK AT MOST 1048576: true; the input reads as it did. -/
def engineIsObliviousUptoRow : OpenClaim := { program := "ythmkllpdkcmccaagreatdoor", sum := "284f03ab15922372f901cfad530cfe9ef119dfb0a6207cd9fd6819b7a435c216", func := "geofence/geofencelaw19.EngineIsOblivious", spec := "engineIsOblivious", inPlace := ["math/bits.Sub64", "math/bits.Add64"], unfollowed := true, recurses := true, named := ["geofence/codec.prescriptions", "geofence/mask.weights"], apart := false, laid := [("geofence/mask.weights", laid_geofence_mask_weights), ("geofence/codec.prescriptions", laid_geofence_codec_prescriptions)], narrowed := true }
def EngineIsObliviousUptoSaid : Prop := engineIsObliviousUptoRow.holds Tryz.pinned (OpenSpec.upto engineIsObliviousSpec)

/-- 'geofencelaw19.EngineRanges', WHERE WHAT IT READS IS OF BULK AT MOST 1048576: true; the input reads as it did. -/
def engineRangesUptoRow : OpenClaim := { program := "ythmkllpdkcmccaagreatdoor", sum := "284f03ab15922372f901cfad530cfe9ef119dfb0a6207cd9fd6819b7a435c216", func := "geofence/geofencelaw19.EngineRanges", spec := "engineRanges", inPlace := ["math/bits.Sub64", "math/bits.Add64"], unfollowed := true, recurses := true, named := ["geofence/codec.prescriptions", "geofence/mask.weights"], apart := false, laid := [("geofence/mask.weights", laid_geofence_mask_weights), ("geofence/codec.prescriptions", laid_geofence_codec_prescriptions)], narrowed := true }
def EngineRangesUptoSaid : Prop := engineRangesUptoRow.holds Tryz.pinned (OpenSpec.upto engineRangesSpec)

end Rows
end Go.Proofs.YthmkllpdkcmccaaGreatDoor
