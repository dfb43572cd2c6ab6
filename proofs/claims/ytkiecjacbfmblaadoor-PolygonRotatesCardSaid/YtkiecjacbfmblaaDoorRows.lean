/-
  NARROWER THAN 'FOR EVERY INPUT', by the rows' own cells (each row's printed sentence says how): PolygonValid: laid · PolygonLocates: laid · PolygonEvents: laid · PolygonRotates: laid · PolygonVertices: laid · PolygonMiddles: laid.
  DERIVED. THE GIVEN ROWS OF THIS SEAT. 6 by the template 'for every input the law returns true; each argument reads behind the call as it read before'; 0 by the template 'total and deterministic' (their statements: YtkiecjacbfmblaaDoorTotals.lean).
  GIVEN WITH THE SEED: the statements are not yours to turn. If you find one false, say at which input.
  Laid BY PROGRAM, IN A SANDBOX (cutbox-rows.mjs): the forced cells as the released guide's own fill.sh prints them over the translation 303b0454b41250e8… (all of the seat's roots in one cut). By AI agents, Wed Nov 11 2026. No macro, syntax, notation, axiom, sorry.
-/
import Derived.Test.YtkiecjacbfmblaaDoorChecked
import GoSem.Claim
import GoSem.ClaimJoined
import GoSem.ClaimMapViews
import Derived.JoinedTies
import Derived.KernelRfl
namespace Go.Proofs.YtkiecjacbfmblaaDoor
/- THE CELL 'sum', in the pinned program and in every row, IS THE sha256 OF THE DUMP (.gsa) THAT YtkiecjacbfmblaaDoorProg.lean LOADS. Nothing in Lean hashes anything: it is a label: what it is worth is what the hold of that sum in a sandbox is worth. -/
noncomputable def Tryd.pinned : Pinned := { name := "ytkiecjacbfmblaadoor", sum := "303b0454b41250e84dcc0984ada1f27ab7c113118119e277ec14fec107254495", checked := Tryd.checked }
namespace Rows
def none {H : Type} : Left H := { results := [], args := [] }

/- WHAT THE LISTED PACKAGE-LEVEL VARIABLES READ AS WHEN THE CALL BEGINS. Each datum BY PROGRAM (the guide's laid-datum.mjs) off the statement by which the dump's own 'gosem.cut.vars' lays the variable. In a bare row this is a premise. The card (YtkiecjacbfmblaaDoorCards.lean) ties it to the program's text. -/
def laid_geofence_mask_weights {H : Type} : DataW H := .agg [.lit (.int .u64 9223372036854775808), .lit (.int .u64 18446744073709551615)]

/-- 'geofencelaw14.PolygonValid': WHATEVER THE INPUT: true; the input reads as it did. -/
def polygonValidSpec : ChangeSpec := { name := "polygonValid", fn := fun _ => fun
  | [d] => { results := [.lit (.bool true)], args := [d] }
  | _ => none }
def polygonValidRow : OpenClaim := { program := "ytkiecjacbfmblaadoor", sum := "303b0454b41250e84dcc0984ada1f27ab7c113118119e277ec14fec107254495", func := "geofence/geofencelaw14.PolygonValid", spec := "polygonValid", inPlace := ["slices.overlaps[geofence/api.Point]", "math/bits.Sub64", "math/bits.Add64"], unfollowed := true, recurses := true, named := ["geofence/mask.weights"], apart := false, laid := [("geofence/mask.weights", laid_geofence_mask_weights)] }
def PolygonValidSaid : Prop := polygonValidRow.holds Tryd.pinned (OpenSpec.ofChange polygonValidSpec)

/-- ITS FALSE NEIGHBOUR: 'it returns false'. Refute it at one input. -/
def polygonValidWrong : ChangeSpec := { name := "polygonValid", fn := fun _ => fun
  | [d] => { results := [.lit (.bool false)], args := [d] }
  | _ => none }
def PolygonValidWrongFalsely : Prop := polygonValidRow.holds Tryd.pinned (OpenSpec.ofChange polygonValidWrong)

/-- 'geofencelaw14.PolygonLocates': WHATEVER THE INPUT: true; the input reads as it did. -/
def polygonLocatesSpec : ChangeSpec := { name := "polygonLocates", fn := fun _ => fun
  | [d1, d2] => { results := [.lit (.bool true)], args := [d1, d2] }
  | _ => none }
def polygonLocatesRow : OpenClaim := { program := "ytkiecjacbfmblaadoor", sum := "303b0454b41250e84dcc0984ada1f27ab7c113118119e277ec14fec107254495", func := "geofence/geofencelaw14.PolygonLocates", spec := "polygonLocates", inPlace := ["slices.overlaps[geofence/api.Point]", "math/bits.Sub64", "math/bits.Add64"], unfollowed := true, recurses := true, named := ["geofence/mask.weights"], apart := false, laid := [("geofence/mask.weights", laid_geofence_mask_weights)] }
def PolygonLocatesSaid : Prop := polygonLocatesRow.holds Tryd.pinned (OpenSpec.ofChange polygonLocatesSpec)

/-- ITS FALSE NEIGHBOUR: 'it returns false'. Refute it at one input. -/
def polygonLocatesWrong : ChangeSpec := { name := "polygonLocates", fn := fun _ => fun
  | [d1, d2] => { results := [.lit (.bool false)], args := [d1, d2] }
  | _ => none }
def PolygonLocatesWrongFalsely : Prop := polygonLocatesRow.holds Tryd.pinned (OpenSpec.ofChange polygonLocatesWrong)

/-- 'geofencelaw14.PolygonEvents': WHATEVER THE INPUT: true; the input reads as it did. -/
def polygonEventsSpec : ChangeSpec := { name := "polygonEvents", fn := fun _ => fun
  | [d1, d2] => { results := [.lit (.bool true)], args := [d1, d2] }
  | _ => none }
def polygonEventsRow : OpenClaim := { program := "ytkiecjacbfmblaadoor", sum := "303b0454b41250e84dcc0984ada1f27ab7c113118119e277ec14fec107254495", func := "geofence/geofencelaw14.PolygonEvents", spec := "polygonEvents", inPlace := ["slices.overlaps[geofence/api.Point]", "math/bits.Sub64", "math/bits.Add64"], unfollowed := true, recurses := true, named := ["geofence/mask.weights"], apart := false, laid := [("geofence/mask.weights", laid_geofence_mask_weights)] }
def PolygonEventsSaid : Prop := polygonEventsRow.holds Tryd.pinned (OpenSpec.ofChange polygonEventsSpec)

/-- ITS FALSE NEIGHBOUR: 'it returns false'. Refute it at one input. -/
def polygonEventsWrong : ChangeSpec := { name := "polygonEvents", fn := fun _ => fun
  | [d1, d2] => { results := [.lit (.bool false)], args := [d1, d2] }
  | _ => none }
def PolygonEventsWrongFalsely : Prop := polygonEventsRow.holds Tryd.pinned (OpenSpec.ofChange polygonEventsWrong)

/-- 'geofencelaw14.PolygonRotates': WHATEVER THE INPUT: true; the input reads as it did. -/
def polygonRotatesSpec : ChangeSpec := { name := "polygonRotates", fn := fun _ => fun
  | [d1, d2, d3] => { results := [.lit (.bool true)], args := [d1, d2, d3] }
  | _ => none }
def polygonRotatesRow : OpenClaim := { program := "ytkiecjacbfmblaadoor", sum := "303b0454b41250e84dcc0984ada1f27ab7c113118119e277ec14fec107254495", func := "geofence/geofencelaw14.PolygonRotates", spec := "polygonRotates", inPlace := ["slices.overlaps[geofence/api.Point]", "math/bits.Sub64", "math/bits.Add64"], unfollowed := true, recurses := true, named := ["geofence/mask.weights"], apart := false, laid := [("geofence/mask.weights", laid_geofence_mask_weights)] }
def PolygonRotatesSaid : Prop := polygonRotatesRow.holds Tryd.pinned (OpenSpec.ofChange polygonRotatesSpec)

/-- ITS FALSE NEIGHBOUR: 'it returns false'. Refute it at one input. -/
def polygonRotatesWrong : ChangeSpec := { name := "polygonRotates", fn := fun _ => fun
  | [d1, d2, d3] => { results := [.lit (.bool false)], args := [d1, d2, d3] }
  | _ => none }
def PolygonRotatesWrongFalsely : Prop := polygonRotatesRow.holds Tryd.pinned (OpenSpec.ofChange polygonRotatesWrong)

/-- 'geofencelaw14.PolygonVertices': WHATEVER THE INPUT: true; the input reads as it did. -/
def polygonVerticesSpec : ChangeSpec := { name := "polygonVertices", fn := fun _ => fun
  | [d] => { results := [.lit (.bool true)], args := [d] }
  | _ => none }
def polygonVerticesRow : OpenClaim := { program := "ytkiecjacbfmblaadoor", sum := "303b0454b41250e84dcc0984ada1f27ab7c113118119e277ec14fec107254495", func := "geofence/geofencelaw14.PolygonVertices", spec := "polygonVertices", inPlace := ["slices.overlaps[geofence/api.Point]", "math/bits.Sub64", "math/bits.Add64"], unfollowed := true, recurses := true, named := ["geofence/mask.weights"], apart := false, laid := [("geofence/mask.weights", laid_geofence_mask_weights)] }
def PolygonVerticesSaid : Prop := polygonVerticesRow.holds Tryd.pinned (OpenSpec.ofChange polygonVerticesSpec)

/-- ITS FALSE NEIGHBOUR: 'it returns false'. Refute it at one input. -/
def polygonVerticesWrong : ChangeSpec := { name := "polygonVertices", fn := fun _ => fun
  | [d] => { results := [.lit (.bool false)], args := [d] }
  | _ => none }
def PolygonVerticesWrongFalsely : Prop := polygonVerticesRow.holds Tryd.pinned (OpenSpec.ofChange polygonVerticesWrong)

/-- 'geofencelaw14.PolygonMiddles': WHATEVER THE INPUT: true; the input reads as it did. -/
def polygonMiddlesSpec : ChangeSpec := { name := "polygonMiddles", fn := fun _ => fun
  | [d] => { results := [.lit (.bool true)], args := [d] }
  | _ => none }
def polygonMiddlesRow : OpenClaim := { program := "ytkiecjacbfmblaadoor", sum := "303b0454b41250e84dcc0984ada1f27ab7c113118119e277ec14fec107254495", func := "geofence/geofencelaw14.PolygonMiddles", spec := "polygonMiddles", inPlace := ["slices.overlaps[geofence/api.Point]", "math/bits.Sub64", "math/bits.Add64"], unfollowed := true, recurses := true, named := ["geofence/mask.weights"], apart := false, laid := [("geofence/mask.weights", laid_geofence_mask_weights)] }
def PolygonMiddlesSaid : Prop := polygonMiddlesRow.holds Tryd.pinned (OpenSpec.ofChange polygonMiddlesSpec)

/-- ITS FALSE NEIGHBOUR: 'it returns false'. Refute it at one input. -/
def polygonMiddlesWrong : ChangeSpec := { name := "polygonMiddles", fn := fun _ => fun
  | [d] => { results := [.lit (.bool false)], args := [d] }
  | _ => none }
def PolygonMiddlesWrongFalsely : Prop := polygonMiddlesRow.holds Tryd.pinned (OpenSpec.ofChange polygonMiddlesWrong)

/- THE SECOND FORM. 'bulk': how many values and letters a reading holds, each counted each time it is reached (what is shared counts as often as it is met; a slice's spare places count too). A statement '..UptoSaid' is the law's where the arguments, and the package variables that the reading takes, are together of bulk at most 1048576: NARROWER than '..Said'. Prove '..Said' where nothing that the law and all that it calls make is longer than what came in: it says more and counts as full. Else prove '..UptoSaid'. A law counts once. -/
mutual
def uptoBulk {H : Type} : DataW H → Nat
  | .lit (.string bytes) => bytes.length + 1
  | .lit _ => 1
  | .nil => 1
  | .ptr d => uptoBulk d + 1
  | .slice elems spare => uptoBulkAll elems + uptoBulkAll spare + 1
  | .agg parts => uptoBulkAll parts + 1
  | .iface _ d => uptoBulk d + 1
  | .map entries => uptoBulkEntries entries + 1
  | .held _ => 1
def uptoBulkAll {H : Type} : List (DataW H) → Nat
  | [] => 0
  | d :: r => uptoBulk d + uptoBulkAll r
def uptoBulkEntries {H : Type} : List (Lit × DataW H) → Nat
  | [] => 0
  | x :: r => uptoBulkEntry x + uptoBulkEntries r
def uptoBulkEntry {H : Type} : Lit × DataW H → Nat
  | (.string bytes, d) => bytes.length + uptoBulk d + 1
  | (_, d) => uptoBulk d + 1
 end
def uptoSmall : (H : Type) → List (DataW H) → Bool := fun _ ds => decide (uptoBulkAll ds ≤ 1048576)
def OpenSpec.upto (s : _root_.Go.ChangeSpec) : _root_.Go.OpenSpec := { _root_.Go.OpenSpec.ofChange s with cond := some uptoSmall }

/-- 'geofencelaw14.PolygonValid', WHERE WHAT IT READS IS OF BULK AT MOST 1048576: true; the input reads as it did. -/
def polygonValidUptoRow : OpenClaim := { program := "ytkiecjacbfmblaadoor", sum := "303b0454b41250e84dcc0984ada1f27ab7c113118119e277ec14fec107254495", func := "geofence/geofencelaw14.PolygonValid", spec := "polygonValid", inPlace := ["slices.overlaps[geofence/api.Point]", "math/bits.Sub64", "math/bits.Add64"], unfollowed := true, recurses := true, named := ["geofence/mask.weights"], apart := false, laid := [("geofence/mask.weights", laid_geofence_mask_weights)], narrowed := true }
def PolygonValidUptoSaid : Prop := polygonValidUptoRow.holds Tryd.pinned (OpenSpec.upto polygonValidSpec)

/-- 'geofencelaw14.PolygonLocates', WHERE WHAT IT READS IS OF BULK AT MOST 1048576: true; the input reads as it did. -/
def polygonLocatesUptoRow : OpenClaim := { program := "ytkiecjacbfmblaadoor", sum := "303b0454b41250e84dcc0984ada1f27ab7c113118119e277ec14fec107254495", func := "geofence/geofencelaw14.PolygonLocates", spec := "polygonLocates", inPlace := ["slices.overlaps[geofence/api.Point]", "math/bits.Sub64", "math/bits.Add64"], unfollowed := true, recurses := true, named := ["geofence/mask.weights"], apart := false, laid := [("geofence/mask.weights", laid_geofence_mask_weights)], narrowed := true }
def PolygonLocatesUptoSaid : Prop := polygonLocatesUptoRow.holds Tryd.pinned (OpenSpec.upto polygonLocatesSpec)

/-- 'geofencelaw14.PolygonEvents', WHERE WHAT IT READS IS OF BULK AT MOST 1048576: true; the input reads as it did. -/
def polygonEventsUptoRow : OpenClaim := { program := "ytkiecjacbfmblaadoor", sum := "303b0454b41250e84dcc0984ada1f27ab7c113118119e277ec14fec107254495", func := "geofence/geofencelaw14.PolygonEvents", spec := "polygonEvents", inPlace := ["slices.overlaps[geofence/api.Point]", "math/bits.Sub64", "math/bits.Add64"], unfollowed := true, recurses := true, named := ["geofence/mask.weights"], apart := false, laid := [("geofence/mask.weights", laid_geofence_mask_weights)], narrowed := true }
def PolygonEventsUptoSaid : Prop := polygonEventsUptoRow.holds Tryd.pinned (OpenSpec.upto polygonEventsSpec)

/-- 'geofencelaw14.PolygonRotates', WHERE WHAT IT READS IS OF BULK AT MOST 1048576: true; the input reads as it did. -/
def polygonRotatesUptoRow : OpenClaim := { program := "ytkiecjacbfmblaadoor", sum := "303b0454b41250e84dcc0984ada1f27ab7c113118119e277ec14fec107254495", func := "geofence/geofencelaw14.PolygonRotates", spec := "polygonRotates", inPlace := ["slices.overlaps[geofence/api.Point]", "math/bits.Sub64", "math/bits.Add64"], unfollowed := true, recurses := true, named := ["geofence/mask.weights"], apart := false, laid := [("geofence/mask.weights", laid_geofence_mask_weights)], narrowed := true }
def PolygonRotatesUptoSaid : Prop := polygonRotatesUptoRow.holds Tryd.pinned (OpenSpec.upto polygonRotatesSpec)

/-- 'geofencelaw14.PolygonVertices', WHERE WHAT IT READS IS OF BULK AT MOST 1048576: true; the input reads as it did. -/
def polygonVerticesUptoRow : OpenClaim := { program := "ytkiecjacbfmblaadoor", sum := "303b0454b41250e84dcc0984ada1f27ab7c113118119e277ec14fec107254495", func := "geofence/geofencelaw14.PolygonVertices", spec := "polygonVertices", inPlace := ["slices.overlaps[geofence/api.Point]", "math/bits.Sub64", "math/bits.Add64"], unfollowed := true, recurses := true, named := ["geofence/mask.weights"], apart := false, laid := [("geofence/mask.weights", laid_geofence_mask_weights)], narrowed := true }
def PolygonVerticesUptoSaid : Prop := polygonVerticesUptoRow.holds Tryd.pinned (OpenSpec.upto polygonVerticesSpec)

/-- 'geofencelaw14.PolygonMiddles', WHERE WHAT IT READS IS OF BULK AT MOST 1048576: true; the input reads as it did. -/
def polygonMiddlesUptoRow : OpenClaim := { program := "ytkiecjacbfmblaadoor", sum := "303b0454b41250e84dcc0984ada1f27ab7c113118119e277ec14fec107254495", func := "geofence/geofencelaw14.PolygonMiddles", spec := "polygonMiddles", inPlace := ["slices.overlaps[geofence/api.Point]", "math/bits.Sub64", "math/bits.Add64"], unfollowed := true, recurses := true, named := ["geofence/mask.weights"], apart := false, laid := [("geofence/mask.weights", laid_geofence_mask_weights)], narrowed := true }
def PolygonMiddlesUptoSaid : Prop := polygonMiddlesUptoRow.holds Tryd.pinned (OpenSpec.upto polygonMiddlesSpec)

end Rows
end Go.Proofs.YtkiecjacbfmblaaDoor
