/-
  NARROWER THAN 'FOR EVERY INPUT', by the rows' own cells (each row's printed sentence says how): DiscMatchesReference: laid · DiscEvents: laid · DiscOrder: laid · DiscBoundary: laid · DiscMiddles: laid · DiscRadius: laid.
  DERIVED. THE GIVEN ROWS OF THIS SEAT. 6 by the template 'for every input the law returns true; each argument reads behind the call as it read before'; 0 by the template 'total and deterministic' (their statements: YtehnpmkolabiaaaDoorTotals.lean).
  GIVEN WITH THE SEED: the statements are not yours to turn. If you find one false, say at which input.
  Laid BY PROGRAM, IN A SANDBOX (cutbox-rows.mjs): the forced cells as the released guide's own fill.sh prints them over the translation 7cdf0db91659e5ff… (all of the seat's roots in one cut). By AI agents, Wed Nov 11 2026. No macro, syntax, notation, axiom, sorry.
-/
import Derived.Test.YtehnpmkolabiaaaDoorChecked
import GoSem.Claim
import GoSem.ClaimJoined
import GoSem.ClaimMapViews
import Derived.JoinedTies
import Derived.KernelRfl
namespace Go.Proofs.YtehnpmkolabiaaaDoor
/- THE CELL 'sum', in the pinned program and in every row, IS THE sha256 OF THE DUMP (.gsa) THAT YtehnpmkolabiaaaDoorProg.lean LOADS. Nothing in Lean hashes anything: it is a label: what it is worth is what the hold of that sum in a sandbox is worth. -/
noncomputable def Tryd.pinned : Pinned := { name := "ytehnpmkolabiaaadoor", sum := "7cdf0db91659e5ff1958348be7a329a8922f3729f7c26ad0cada9a12e7a8f566", checked := Tryd.checked }
namespace Rows
def none {H : Type} : Left H := { results := [], args := [] }

/- WHAT THE LISTED PACKAGE-LEVEL VARIABLES READ AS WHEN THE CALL BEGINS. Each datum BY PROGRAM (the guide's laid-datum.mjs) off the statement by which the dump's own 'gosem.cut.vars' lays the variable. In a bare row this is a premise. The card (YtehnpmkolabiaaaDoorCards.lean) ties it to the program's text. -/
def laid_geofence_mask_weights {H : Type} : DataW H := .agg [.lit (.int .u64 9223372036854775808), .lit (.int .u64 18446744073709551615)]
def laid_geofence_orient_wanted {H : Type} : DataW H := .agg [.lit (.int .i64 1), .lit (.int .i64 0)]

/-- 'geofencelaw15.DiscMatchesReference': WHATEVER THE INPUT: true; the input reads as it did. -/
def discMatchesReferenceSpec : ChangeSpec := { name := "discMatchesReference", fn := fun _ => fun
  | [d1, d2] => { results := [.lit (.bool true)], args := [d1, d2] }
  | _ => none }
def discMatchesReferenceRow : OpenClaim := { program := "ytehnpmkolabiaaadoor", sum := "7cdf0db91659e5ff1958348be7a329a8922f3729f7c26ad0cada9a12e7a8f566", func := "geofence/geofencelaw15.DiscMatchesReference", spec := "discMatchesReference", inPlace := ["math/bits.Sub64", "math/bits.Add64"], unfollowed := true, recurses := true, named := ["geofence/orient.wanted", "geofence/mask.weights"], apart := false, laid := [("geofence/mask.weights", laid_geofence_mask_weights), ("geofence/orient.wanted", laid_geofence_orient_wanted)] }
def DiscMatchesReferenceSaid : Prop := discMatchesReferenceRow.holds Tryd.pinned (OpenSpec.ofChange discMatchesReferenceSpec)

/-- ITS FALSE NEIGHBOUR: 'it returns false'. Refute it at one input. -/
def discMatchesReferenceWrong : ChangeSpec := { name := "discMatchesReference", fn := fun _ => fun
  | [d1, d2] => { results := [.lit (.bool false)], args := [d1, d2] }
  | _ => none }
def DiscMatchesReferenceWrongFalsely : Prop := discMatchesReferenceRow.holds Tryd.pinned (OpenSpec.ofChange discMatchesReferenceWrong)

/-- 'geofencelaw15.DiscEvents': WHATEVER THE INPUT: true; the input reads as it did. -/
def discEventsSpec : ChangeSpec := { name := "discEvents", fn := fun _ => fun
  | [d1, d2] => { results := [.lit (.bool true)], args := [d1, d2] }
  | _ => none }
def discEventsRow : OpenClaim := { program := "ytehnpmkolabiaaadoor", sum := "7cdf0db91659e5ff1958348be7a329a8922f3729f7c26ad0cada9a12e7a8f566", func := "geofence/geofencelaw15.DiscEvents", spec := "discEvents", inPlace := ["math/bits.Sub64", "math/bits.Add64"], unfollowed := true, recurses := true, named := ["geofence/orient.wanted", "geofence/mask.weights"], apart := false, laid := [("geofence/mask.weights", laid_geofence_mask_weights), ("geofence/orient.wanted", laid_geofence_orient_wanted)] }
def DiscEventsSaid : Prop := discEventsRow.holds Tryd.pinned (OpenSpec.ofChange discEventsSpec)

/-- ITS FALSE NEIGHBOUR: 'it returns false'. Refute it at one input. -/
def discEventsWrong : ChangeSpec := { name := "discEvents", fn := fun _ => fun
  | [d1, d2] => { results := [.lit (.bool false)], args := [d1, d2] }
  | _ => none }
def DiscEventsWrongFalsely : Prop := discEventsRow.holds Tryd.pinned (OpenSpec.ofChange discEventsWrong)

/-- 'geofencelaw15.DiscOrder': WHATEVER THE INPUT: true; the input reads as it did. -/
def discOrderSpec : ChangeSpec := { name := "discOrder", fn := fun _ => fun
  | [d1, d2] => { results := [.lit (.bool true)], args := [d1, d2] }
  | _ => none }
def discOrderRow : OpenClaim := { program := "ytehnpmkolabiaaadoor", sum := "7cdf0db91659e5ff1958348be7a329a8922f3729f7c26ad0cada9a12e7a8f566", func := "geofence/geofencelaw15.DiscOrder", spec := "discOrder", inPlace := ["math/bits.Sub64", "math/bits.Add64"], unfollowed := true, recurses := true, named := ["geofence/orient.wanted", "geofence/mask.weights"], apart := false, laid := [("geofence/mask.weights", laid_geofence_mask_weights), ("geofence/orient.wanted", laid_geofence_orient_wanted)] }
def DiscOrderSaid : Prop := discOrderRow.holds Tryd.pinned (OpenSpec.ofChange discOrderSpec)

/-- ITS FALSE NEIGHBOUR: 'it returns false'. Refute it at one input. -/
def discOrderWrong : ChangeSpec := { name := "discOrder", fn := fun _ => fun
  | [d1, d2] => { results := [.lit (.bool false)], args := [d1, d2] }
  | _ => none }
def DiscOrderWrongFalsely : Prop := discOrderRow.holds Tryd.pinned (OpenSpec.ofChange discOrderWrong)

/-- 'geofencelaw15.DiscBoundary': WHATEVER THE INPUT: true; the input reads as it did. -/
def discBoundarySpec : ChangeSpec := { name := "discBoundary", fn := fun _ => fun
  | [d1, d2] => { results := [.lit (.bool true)], args := [d1, d2] }
  | _ => none }
def discBoundaryRow : OpenClaim := { program := "ytehnpmkolabiaaadoor", sum := "7cdf0db91659e5ff1958348be7a329a8922f3729f7c26ad0cada9a12e7a8f566", func := "geofence/geofencelaw15.DiscBoundary", spec := "discBoundary", inPlace := ["math/bits.Sub64", "math/bits.Add64"], unfollowed := true, recurses := true, named := ["geofence/mask.weights", "geofence/orient.wanted"], apart := false, laid := [("geofence/mask.weights", laid_geofence_mask_weights), ("geofence/orient.wanted", laid_geofence_orient_wanted)] }
def DiscBoundarySaid : Prop := discBoundaryRow.holds Tryd.pinned (OpenSpec.ofChange discBoundarySpec)

/-- ITS FALSE NEIGHBOUR: 'it returns false'. Refute it at one input. -/
def discBoundaryWrong : ChangeSpec := { name := "discBoundary", fn := fun _ => fun
  | [d1, d2] => { results := [.lit (.bool false)], args := [d1, d2] }
  | _ => none }
def DiscBoundaryWrongFalsely : Prop := discBoundaryRow.holds Tryd.pinned (OpenSpec.ofChange discBoundaryWrong)

/-- 'geofencelaw15.DiscMiddles': WHATEVER THE INPUT: true; the input reads as it did. -/
def discMiddlesSpec : ChangeSpec := { name := "discMiddles", fn := fun _ => fun
  | [d] => { results := [.lit (.bool true)], args := [d] }
  | _ => none }
def discMiddlesRow : OpenClaim := { program := "ytehnpmkolabiaaadoor", sum := "7cdf0db91659e5ff1958348be7a329a8922f3729f7c26ad0cada9a12e7a8f566", func := "geofence/geofencelaw15.DiscMiddles", spec := "discMiddles", inPlace := ["math/bits.Sub64", "math/bits.Add64"], unfollowed := true, recurses := true, named := ["geofence/orient.wanted", "geofence/mask.weights"], apart := false, laid := [("geofence/mask.weights", laid_geofence_mask_weights), ("geofence/orient.wanted", laid_geofence_orient_wanted)] }
def DiscMiddlesSaid : Prop := discMiddlesRow.holds Tryd.pinned (OpenSpec.ofChange discMiddlesSpec)

/-- ITS FALSE NEIGHBOUR: 'it returns false'. Refute it at one input. -/
def discMiddlesWrong : ChangeSpec := { name := "discMiddles", fn := fun _ => fun
  | [d] => { results := [.lit (.bool false)], args := [d] }
  | _ => none }
def DiscMiddlesWrongFalsely : Prop := discMiddlesRow.holds Tryd.pinned (OpenSpec.ofChange discMiddlesWrong)

/-- 'geofencelaw15.DiscRadius': WHATEVER THE INPUT: true; the input reads as it did. -/
def discRadiusSpec : ChangeSpec := { name := "discRadius", fn := fun _ => fun
  | [d1, d2, d3] => { results := [.lit (.bool true)], args := [d1, d2, d3] }
  | _ => none }
def discRadiusRow : OpenClaim := { program := "ytehnpmkolabiaaadoor", sum := "7cdf0db91659e5ff1958348be7a329a8922f3729f7c26ad0cada9a12e7a8f566", func := "geofence/geofencelaw15.DiscRadius", spec := "discRadius", inPlace := ["math/bits.Sub64", "math/bits.Add64"], unfollowed := true, recurses := true, named := ["geofence/orient.wanted", "geofence/mask.weights"], apart := false, laid := [("geofence/mask.weights", laid_geofence_mask_weights), ("geofence/orient.wanted", laid_geofence_orient_wanted)] }
def DiscRadiusSaid : Prop := discRadiusRow.holds Tryd.pinned (OpenSpec.ofChange discRadiusSpec)

/-- ITS FALSE NEIGHBOUR: 'it returns false'. Refute it at one input. -/
def discRadiusWrong : ChangeSpec := { name := "discRadius", fn := fun _ => fun
  | [d1, d2, d3] => { results := [.lit (.bool false)], args := [d1, d2, d3] }
  | _ => none }
def DiscRadiusWrongFalsely : Prop := discRadiusRow.holds Tryd.pinned (OpenSpec.ofChange discRadiusWrong)

/- THE SECOND FORM. 'bulk': how many values and letters a reading holds, each counted each time it is reached (what is shared counts as often as it is met; a slice's spare places count too). A statement '..UptoSaid' is the law's where the arguments, and the package variables that the reading takes, are together of bulk at most 1048576: NARROWER than '..Said'. Prove '..Said' where nothing that the law and all that it calls make is longer than what came in: it says more and counts as full. Else prove '..UptoSaid'. A law counts once. -/
mutual
def uptoBulk {H : Type} : DataW H → Nat
  | .lit (.string bytes) => bytes.length + 1
  | .lit _ => 1
  | .nil => 1
  | .ptr d => uptoBulk d + 1
  | .slice elems spare => uptoBulkAll elems + uptoBulkAll spare + 1
  | .agg parts => uptoBulkAll parts + 1
  | .iface _ d => uptoBulk d + 1
  | .map entries => uptoBulkEntries entries + 1
  | .held _ => 1
def uptoBulkAll {H : Type} : List (DataW H) → Nat
  | [] => 0
  | d :: r => uptoBulk d + uptoBulkAll r
def uptoBulkEntries {H : Type} : List (Lit × DataW H) → Nat
  | [] => 0
  | x :: r => uptoBulkEntry x + uptoBulkEntries r
def uptoBulkEntry {H : Type} : Lit × DataW H → Nat
  | (.string bytes, d) => bytes.length + uptoBulk d + 1
  | (_, d) => uptoBulk d + 1
 end
def uptoSmall : (H : Type) → List (DataW H) → Bool := fun _ ds => decide (uptoBulkAll ds ≤ 1048576)
def OpenSpec.upto (s : _root_.Go.ChangeSpec) : _root_.Go.OpenSpec := { _root_.Go.OpenSpec.ofChange s with cond := some uptoSmall }

/-- 'geofencelaw15.DiscMatchesReference', WHERE WHAT IT READS IS OF BULK AT MOST 1048576: true; the input reads as it did. -/
def discMatchesReferenceUptoRow : OpenClaim := { program := "ytehnpmkolabiaaadoor", sum := "7cdf0db91659e5ff1958348be7a329a8922f3729f7c26ad0cada9a12e7a8f566", func := "geofence/geofencelaw15.DiscMatchesReference", spec := "discMatchesReference", inPlace := ["math/bits.Sub64", "math/bits.Add64"], unfollowed := true, recurses := true, named := ["geofence/orient.wanted", "geofence/mask.weights"], apart := false, laid := [("geofence/mask.weights", laid_geofence_mask_weights), ("geofence/orient.wanted", laid_geofence_orient_wanted)], narrowed := true }
def DiscMatchesReferenceUptoSaid : Prop := discMatchesReferenceUptoRow.holds Tryd.pinned (OpenSpec.upto discMatchesReferenceSpec)

/-- 'geofencelaw15.DiscEvents', WHERE WHAT IT READS IS OF BULK AT MOST 1048576: true; the input reads as it did. -/
def discEventsUptoRow : OpenClaim := { program := "ytehnpmkolabiaaadoor", sum := "7cdf0db91659e5ff1958348be7a329a8922f3729f7c26ad0cada9a12e7a8f566", func := "geofence/geofencelaw15.DiscEvents", spec := "discEvents", inPlace := ["math/bits.Sub64", "math/bits.Add64"], unfollowed := true, recurses := true, named := ["geofence/orient.wanted", "geofence/mask.weights"], apart := false, laid := [("geofence/mask.weights", laid_geofence_mask_weights), ("geofence/orient.wanted", laid_geofence_orient_wanted)], narrowed := true }
def DiscEventsUptoSaid : Prop := discEventsUptoRow.holds Tryd.pinned (OpenSpec.upto discEventsSpec)

/-- 'geofencelaw15.DiscOrder', WHERE WHAT IT READS IS OF BULK AT MOST 1048576: true; the input reads as it did. -/
def discOrderUptoRow : OpenClaim := { program := "ytehnpmkolabiaaadoor", sum := "7cdf0db91659e5ff1958348be7a329a8922f3729f7c26ad0cada9a12e7a8f566", func := "geofence/geofencelaw15.DiscOrder", spec := "discOrder", inPlace := ["math/bits.Sub64", "math/bits.Add64"], unfollowed := true, recurses := true, named := ["geofence/orient.wanted", "geofence/mask.weights"], apart := false, laid := [("geofence/mask.weights", laid_geofence_mask_weights), ("geofence/orient.wanted", laid_geofence_orient_wanted)], narrowed := true }
def DiscOrderUptoSaid : Prop := discOrderUptoRow.holds Tryd.pinned (OpenSpec.upto discOrderSpec)

/-- 'geofencelaw15.DiscBoundary', WHERE WHAT IT READS IS OF BULK AT MOST 1048576: true; the input reads as it did. -/
def discBoundaryUptoRow : OpenClaim := { program := "ytehnpmkolabiaaadoor", sum := "7cdf0db91659e5ff1958348be7a329a8922f3729f7c26ad0cada9a12e7a8f566", func := "geofence/geofencelaw15.DiscBoundary", spec := "discBoundary", inPlace := ["math/bits.Sub64", "math/bits.Add64"], unfollowed := true, recurses := true, named := ["geofence/mask.weights", "geofence/orient.wanted"], apart := false, laid := [("geofence/mask.weights", laid_geofence_mask_weights), ("geofence/orient.wanted", laid_geofence_orient_wanted)], narrowed := true }
def DiscBoundaryUptoSaid : Prop := discBoundaryUptoRow.holds Tryd.pinned (OpenSpec.upto discBoundarySpec)

/-- 'geofencelaw15.DiscMiddles', WHERE WHAT IT READS IS OF BULK AT MOST 1048576: true; the input reads as it did. -/
def discMiddlesUptoRow : OpenClaim := { program := "ytehnpmkolabiaaadoor", sum := "7cdf0db91659e5ff1958348be7a329a8922f3729f7c26ad0cada9a12e7a8f566", func := "geofence/geofencelaw15.DiscMiddles", spec := "discMiddles", inPlace := ["math/bits.Sub64", "math/bits.Add64"], unfollowed := true, recurses := true, named := ["geofence/orient.wanted", "geofence/mask.weights"], apart := false, laid := [("geofence/mask.weights", laid_geofence_mask_weights), ("geofence/orient.wanted", laid_geofence_orient_wanted)], narrowed := true }
def DiscMiddlesUptoSaid : Prop := discMiddlesUptoRow.holds Tryd.pinned (OpenSpec.upto discMiddlesSpec)

/-- 'geofencelaw15.DiscRadius', WHERE WHAT IT READS IS OF BULK AT MOST 1048576: true; the input reads as it did. -/
def discRadiusUptoRow : OpenClaim := { program := "ytehnpmkolabiaaadoor", sum := "7cdf0db91659e5ff1958348be7a329a8922f3729f7c26ad0cada9a12e7a8f566", func := "geofence/geofencelaw15.DiscRadius", spec := "discRadius", inPlace := ["math/bits.Sub64", "math/bits.Add64"], unfollowed := true, recurses := true, named := ["geofence/orient.wanted", "geofence/mask.weights"], apart := false, laid := [("geofence/mask.weights", laid_geofence_mask_weights), ("geofence/orient.wanted", laid_geofence_orient_wanted)], narrowed := true }
def DiscRadiusUptoSaid : Prop := discRadiusUptoRow.holds Tryd.pinned (OpenSpec.upto discRadiusSpec)

end Rows
end Go.Proofs.YtehnpmkolabiaaaDoor
