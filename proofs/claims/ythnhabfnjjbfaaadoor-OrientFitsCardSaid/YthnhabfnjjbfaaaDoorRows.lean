/-
  NARROWER THAN 'FOR EVERY INPUT', by the rows' own cells (each row's printed sentence says how): OrientIsExact: laid · OrientMasks: laid · OrientAlternates: laid · OrientTranslates: laid · OrientAddsUp: laid · OrientFits: laid.
  DERIVED. THE GIVEN ROWS OF THIS SEAT. 6 by the template 'for every input the law returns true; each argument reads behind the call as it read before'; 0 by the template 'total and deterministic' (their statements: YthnhabfnjjbfaaaDoorTotals.lean).
  GIVEN WITH THE SEED: the statements are not yours to turn. If you find one false, say at which input.
  Laid BY PROGRAM, IN A SANDBOX (cutbox-rows.mjs): the forced cells as the released guide's own fill.sh prints them over the translation 95192eb5be044c23… (all of the seat's roots in one cut). By AI agents, Wed Nov 11 2026. No macro, syntax, notation, axiom, sorry.
-/
import Derived.Test.YthnhabfnjjbfaaaDoorChecked
import GoSem.Claim
import GoSem.ClaimJoined
import GoSem.ClaimMapViews
import Derived.JoinedTies
import Derived.KernelRfl
namespace Go.Proofs.YthnhabfnjjbfaaaDoor
/- THE CELL 'sum', in the pinned program and in every row, IS THE sha256 OF THE DUMP (.gsa) THAT YthnhabfnjjbfaaaDoorProg.lean LOADS. Nothing in Lean hashes anything: it is a label: what it is worth is what the hold of that sum in a sandbox is worth. -/
noncomputable def Tryd.pinned : Pinned := { name := "ythnhabfnjjbfaaadoor", sum := "95192eb5be044c238ac290b595b66daf41d0d8bab96659ab369235bc7854a924", checked := Tryd.checked }
namespace Rows
def none {H : Type} : Left H := { results := [], args := [] }

/- WHAT THE LISTED PACKAGE-LEVEL VARIABLES READ AS WHEN THE CALL BEGINS. Each datum BY PROGRAM (the guide's laid-datum.mjs) off the statement by which the dump's own 'gosem.cut.vars' lays the variable. In a bare row this is a premise. The card (YthnhabfnjjbfaaaDoorCards.lean) ties it to the program's text. -/
def laid_geofence_mask_weights {H : Type} : DataW H := .agg [.lit (.int .u64 9223372036854775808), .lit (.int .u64 18446744073709551615)]
def laid_geofence_orient_wanted {H : Type} : DataW H := .agg [.lit (.int .i64 1), .lit (.int .i64 0)]

/-- 'geofencelaw06.OrientIsExact': WHATEVER THE INPUT: true; the input reads as it did. -/
def orientIsExactSpec : ChangeSpec := { name := "orientIsExact", fn := fun _ => fun
  | [d1, d2, d3] => { results := [.lit (.bool true)], args := [d1, d2, d3] }
  | _ => none }
def orientIsExactRow : OpenClaim := { program := "ythnhabfnjjbfaaadoor", sum := "95192eb5be044c238ac290b595b66daf41d0d8bab96659ab369235bc7854a924", func := "geofence/geofencelaw06.OrientIsExact", spec := "orientIsExact", inPlace := ["math/bits.Sub64", "math/bits.Add64"], unfollowed := true, recurses := true, named := ["geofence/mask.weights", "geofence/orient.wanted"], apart := false, laid := [("geofence/mask.weights", laid_geofence_mask_weights), ("geofence/orient.wanted", laid_geofence_orient_wanted)] }
def OrientIsExactSaid : Prop := orientIsExactRow.holds Tryd.pinned (OpenSpec.ofChange orientIsExactSpec)

/-- ITS FALSE NEIGHBOUR: 'it returns false'. Refute it at one input. -/
def orientIsExactWrong : ChangeSpec := { name := "orientIsExact", fn := fun _ => fun
  | [d1, d2, d3] => { results := [.lit (.bool false)], args := [d1, d2, d3] }
  | _ => none }
def OrientIsExactWrongFalsely : Prop := orientIsExactRow.holds Tryd.pinned (OpenSpec.ofChange orientIsExactWrong)

/-- 'geofencelaw06.OrientMasks': WHATEVER THE INPUT: true; the input reads as it did. -/
def orientMasksSpec : ChangeSpec := { name := "orientMasks", fn := fun _ => fun
  | [d1, d2, d3] => { results := [.lit (.bool true)], args := [d1, d2, d3] }
  | _ => none }
def orientMasksRow : OpenClaim := { program := "ythnhabfnjjbfaaadoor", sum := "95192eb5be044c238ac290b595b66daf41d0d8bab96659ab369235bc7854a924", func := "geofence/geofencelaw06.OrientMasks", spec := "orientMasks", inPlace := ["math/bits.Sub64", "math/bits.Add64"], unfollowed := true, recurses := true, named := ["geofence/mask.weights", "geofence/orient.wanted"], apart := false, laid := [("geofence/mask.weights", laid_geofence_mask_weights), ("geofence/orient.wanted", laid_geofence_orient_wanted)] }
def OrientMasksSaid : Prop := orientMasksRow.holds Tryd.pinned (OpenSpec.ofChange orientMasksSpec)

/-- ITS FALSE NEIGHBOUR: 'it returns false'. Refute it at one input. -/
def orientMasksWrong : ChangeSpec := { name := "orientMasks", fn := fun _ => fun
  | [d1, d2, d3] => { results := [.lit (.bool false)], args := [d1, d2, d3] }
  | _ => none }
def OrientMasksWrongFalsely : Prop := orientMasksRow.holds Tryd.pinned (OpenSpec.ofChange orientMasksWrong)

/-- 'geofencelaw06.OrientAlternates': WHATEVER THE INPUT: true; the input reads as it did. -/
def orientAlternatesSpec : ChangeSpec := { name := "orientAlternates", fn := fun _ => fun
  | [d1, d2, d3] => { results := [.lit (.bool true)], args := [d1, d2, d3] }
  | _ => none }
def orientAlternatesRow : OpenClaim := { program := "ythnhabfnjjbfaaadoor", sum := "95192eb5be044c238ac290b595b66daf41d0d8bab96659ab369235bc7854a924", func := "geofence/geofencelaw06.OrientAlternates", spec := "orientAlternates", inPlace := ["math/bits.Sub64", "math/bits.Add64"], unfollowed := true, recurses := true, named := ["geofence/mask.weights", "geofence/orient.wanted"], apart := false, laid := [("geofence/mask.weights", laid_geofence_mask_weights), ("geofence/orient.wanted", laid_geofence_orient_wanted)] }
def OrientAlternatesSaid : Prop := orientAlternatesRow.holds Tryd.pinned (OpenSpec.ofChange orientAlternatesSpec)

/-- ITS FALSE NEIGHBOUR: 'it returns false'. Refute it at one input. -/
def orientAlternatesWrong : ChangeSpec := { name := "orientAlternates", fn := fun _ => fun
  | [d1, d2, d3] => { results := [.lit (.bool false)], args := [d1, d2, d3] }
  | _ => none }
def OrientAlternatesWrongFalsely : Prop := orientAlternatesRow.holds Tryd.pinned (OpenSpec.ofChange orientAlternatesWrong)

/-- 'geofencelaw06.OrientTranslates': WHATEVER THE INPUT: true; the input reads as it did. -/
def orientTranslatesSpec : ChangeSpec := { name := "orientTranslates", fn := fun _ => fun
  | [d1, d2] => { results := [.lit (.bool true)], args := [d1, d2] }
  | _ => none }
def orientTranslatesRow : OpenClaim := { program := "ythnhabfnjjbfaaadoor", sum := "95192eb5be044c238ac290b595b66daf41d0d8bab96659ab369235bc7854a924", func := "geofence/geofencelaw06.OrientTranslates", spec := "orientTranslates", inPlace := ["math/bits.Sub64", "math/bits.Add64"], unfollowed := true, recurses := true, named := ["geofence/mask.weights", "geofence/orient.wanted"], apart := false, laid := [("geofence/mask.weights", laid_geofence_mask_weights), ("geofence/orient.wanted", laid_geofence_orient_wanted)] }
def OrientTranslatesSaid : Prop := orientTranslatesRow.holds Tryd.pinned (OpenSpec.ofChange orientTranslatesSpec)

/-- ITS FALSE NEIGHBOUR: 'it returns false'. Refute it at one input. -/
def orientTranslatesWrong : ChangeSpec := { name := "orientTranslates", fn := fun _ => fun
  | [d1, d2] => { results := [.lit (.bool false)], args := [d1, d2] }
  | _ => none }
def OrientTranslatesWrongFalsely : Prop := orientTranslatesRow.holds Tryd.pinned (OpenSpec.ofChange orientTranslatesWrong)

/-- 'geofencelaw06.OrientAddsUp': WHATEVER THE INPUT: true; the input reads as it did. -/
def orientAddsUpSpec : ChangeSpec := { name := "orientAddsUp", fn := fun _ => fun
  | [d1, d2] => { results := [.lit (.bool true)], args := [d1, d2] }
  | _ => none }
def orientAddsUpRow : OpenClaim := { program := "ythnhabfnjjbfaaadoor", sum := "95192eb5be044c238ac290b595b66daf41d0d8bab96659ab369235bc7854a924", func := "geofence/geofencelaw06.OrientAddsUp", spec := "orientAddsUp", inPlace := ["math/bits.Sub64", "math/bits.Add64"], unfollowed := true, recurses := true, named := ["geofence/mask.weights", "geofence/orient.wanted"], apart := false, laid := [("geofence/mask.weights", laid_geofence_mask_weights), ("geofence/orient.wanted", laid_geofence_orient_wanted)] }
def OrientAddsUpSaid : Prop := orientAddsUpRow.holds Tryd.pinned (OpenSpec.ofChange orientAddsUpSpec)

/-- ITS FALSE NEIGHBOUR: 'it returns false'. Refute it at one input. -/
def orientAddsUpWrong : ChangeSpec := { name := "orientAddsUp", fn := fun _ => fun
  | [d1, d2] => { results := [.lit (.bool false)], args := [d1, d2] }
  | _ => none }
def OrientAddsUpWrongFalsely : Prop := orientAddsUpRow.holds Tryd.pinned (OpenSpec.ofChange orientAddsUpWrong)

/-- 'geofencelaw06.OrientFits': WHATEVER THE INPUT: true; the input reads as it did. -/
def orientFitsSpec : ChangeSpec := { name := "orientFits", fn := fun _ => fun
  | [d1, d2, d3] => { results := [.lit (.bool true)], args := [d1, d2, d3] }
  | _ => none }
def orientFitsRow : OpenClaim := { program := "ythnhabfnjjbfaaadoor", sum := "95192eb5be044c238ac290b595b66daf41d0d8bab96659ab369235bc7854a924", func := "geofence/geofencelaw06.OrientFits", spec := "orientFits", inPlace := ["math/bits.Sub64", "math/bits.Add64"], unfollowed := true, recurses := true, named := ["geofence/mask.weights", "geofence/orient.wanted"], apart := false, laid := [("geofence/mask.weights", laid_geofence_mask_weights), ("geofence/orient.wanted", laid_geofence_orient_wanted)] }
def OrientFitsSaid : Prop := orientFitsRow.holds Tryd.pinned (OpenSpec.ofChange orientFitsSpec)

/-- ITS FALSE NEIGHBOUR: 'it returns false'. Refute it at one input. -/
def orientFitsWrong : ChangeSpec := { name := "orientFits", fn := fun _ => fun
  | [d1, d2, d3] => { results := [.lit (.bool false)], args := [d1, d2, d3] }
  | _ => none }
def OrientFitsWrongFalsely : Prop := orientFitsRow.holds Tryd.pinned (OpenSpec.ofChange orientFitsWrong)

/- THE SECOND FORM. 'bulk': how many values and letters a reading holds, each counted each time it is reached (what is shared counts as often as it is met; a slice's spare places count too). A statement '..UptoSaid' is the law's where the arguments, and the package variables that the reading takes, are together of bulk at most 1048576: NARROWER than '..Said'. Prove '..Said' where nothing that the law and all that it calls make is longer than what came in: it says more and counts as full. Else prove '..UptoSaid'. A law counts once. -/
mutual
def uptoBulk {H : Type} : DataW H → Nat
  | .lit (.string bytes) => bytes.length + 1
  | .lit _ => 1
  | .nil => 1
  | .ptr d => uptoBulk d + 1
  | .slice elems spare => uptoBulkAll elems + uptoBulkAll spare + 1
  | .agg parts => uptoBulkAll parts + 1
  | .iface _ d => uptoBulk d + 1
  | .map entries => uptoBulkEntries entries + 1
  | .held _ => 1
def uptoBulkAll {H : Type} : List (DataW H) → Nat
  | [] => 0
  | d :: r => uptoBulk d + uptoBulkAll r
def uptoBulkEntries {H : Type} : List (Lit × DataW H) → Nat
  | [] => 0
  | x :: r => uptoBulkEntry x + uptoBulkEntries r
def uptoBulkEntry {H : Type} : Lit × DataW H → Nat
  | (.string bytes, d) => bytes.length + uptoBulk d + 1
  | (_, d) => uptoBulk d + 1
 end
def uptoSmall : (H : Type) → List (DataW H) → Bool := fun _ ds => decide (uptoBulkAll ds ≤ 1048576)
def OpenSpec.upto (s : _root_.Go.ChangeSpec) : _root_.Go.OpenSpec := { _root_.Go.OpenSpec.ofChange s with cond := some uptoSmall }

/-- 'geofencelaw06.OrientIsExact', WHERE WHAT IT READS IS OF BULK AT MOST 1048576: true; the input reads as it did. -/
def orientIsExactUptoRow : OpenClaim := { program := "ythnhabfnjjbfaaadoor", sum := "95192eb5be044c238ac290b595b66daf41d0d8bab96659ab369235bc7854a924", func := "geofence/geofencelaw06.OrientIsExact", spec := "orientIsExact", inPlace := ["math/bits.Sub64", "math/bits.Add64"], unfollowed := true, recurses := true, named := ["geofence/mask.weights", "geofence/orient.wanted"], apart := false, laid := [("geofence/mask.weights", laid_geofence_mask_weights), ("geofence/orient.wanted", laid_geofence_orient_wanted)], narrowed := true }
def OrientIsExactUptoSaid : Prop := orientIsExactUptoRow.holds Tryd.pinned (OpenSpec.upto orientIsExactSpec)

/-- 'geofencelaw06.OrientMasks', WHERE WHAT IT READS IS OF BULK AT MOST 1048576: true; the input reads as it did. -/
def orientMasksUptoRow : OpenClaim := { program := "ythnhabfnjjbfaaadoor", sum := "95192eb5be044c238ac290b595b66daf41d0d8bab96659ab369235bc7854a924", func := "geofence/geofencelaw06.OrientMasks", spec := "orientMasks", inPlace := ["math/bits.Sub64", "math/bits.Add64"], unfollowed := true, recurses := true, named := ["geofence/mask.weights", "geofence/orient.wanted"], apart := false, laid := [("geofence/mask.weights", laid_geofence_mask_weights), ("geofence/orient.wanted", laid_geofence_orient_wanted)], narrowed := true }
def OrientMasksUptoSaid : Prop := orientMasksUptoRow.holds Tryd.pinned (OpenSpec.upto orientMasksSpec)

/-- 'geofencelaw06.OrientAlternates', WHERE WHAT IT READS IS OF BULK AT MOST 1048576: true; the input reads as it did. -/
def orientAlternatesUptoRow : OpenClaim := { program := "ythnhabfnjjbfaaadoor", sum := "95192eb5be044c238ac290b595b66daf41d0d8bab96659ab369235bc7854a924", func := "geofence/geofencelaw06.OrientAlternates", spec := "orientAlternates", inPlace := ["math/bits.Sub64", "math/bits.Add64"], unfollowed := true, recurses := true, named := ["geofence/mask.weights", "geofence/orient.wanted"], apart := false, laid := [("geofence/mask.weights", laid_geofence_mask_weights), ("geofence/orient.wanted", laid_geofence_orient_wanted)], narrowed := true }
def OrientAlternatesUptoSaid : Prop := orientAlternatesUptoRow.holds Tryd.pinned (OpenSpec.upto orientAlternatesSpec)

/-- 'geofencelaw06.OrientTranslates', WHERE WHAT IT READS IS OF BULK AT MOST 1048576: true; the input reads as it did. -/
def orientTranslatesUptoRow : OpenClaim := { program := "ythnhabfnjjbfaaadoor", sum := "95192eb5be044c238ac290b595b66daf41d0d8bab96659ab369235bc7854a924", func := "geofence/geofencelaw06.OrientTranslates", spec := "orientTranslates", inPlace := ["math/bits.Sub64", "math/bits.Add64"], unfollowed := true, recurses := true, named := ["geofence/mask.weights", "geofence/orient.wanted"], apart := false, laid := [("geofence/mask.weights", laid_geofence_mask_weights), ("geofence/orient.wanted", laid_geofence_orient_wanted)], narrowed := true }
def OrientTranslatesUptoSaid : Prop := orientTranslatesUptoRow.holds Tryd.pinned (OpenSpec.upto orientTranslatesSpec)

/-- 'geofencelaw06.OrientAddsUp', WHERE WHAT IT READS IS OF BULK AT MOST 1048576: true; the input reads as it did. -/
def orientAddsUpUptoRow : OpenClaim := { program := "ythnhabfnjjbfaaadoor", sum := "95192eb5be044c238ac290b595b66daf41d0d8bab96659ab369235bc7854a924", func := "geofence/geofencelaw06.OrientAddsUp", spec := "orientAddsUp", inPlace := ["math/bits.Sub64", "math/bits.Add64"], unfollowed := true, recurses := true, named := ["geofence/mask.weights", "geofence/orient.wanted"], apart := false, laid := [("geofence/mask.weights", laid_geofence_mask_weights), ("geofence/orient.wanted", laid_geofence_orient_wanted)], narrowed := true }
def OrientAddsUpUptoSaid : Prop := orientAddsUpUptoRow.holds Tryd.pinned (OpenSpec.upto orientAddsUpSpec)

/-- 'geofencelaw06.OrientFits', WHERE WHAT IT READS IS OF BULK AT MOST 1048576: true; the input reads as it did. -/
def orientFitsUptoRow : OpenClaim := { program := "ythnhabfnjjbfaaadoor", sum := "95192eb5be044c238ac290b595b66daf41d0d8bab96659ab369235bc7854a924", func := "geofence/geofencelaw06.OrientFits", spec := "orientFits", inPlace := ["math/bits.Sub64", "math/bits.Add64"], unfollowed := true, recurses := true, named := ["geofence/mask.weights", "geofence/orient.wanted"], apart := false, laid := [("geofence/mask.weights", laid_geofence_mask_weights), ("geofence/orient.wanted", laid_geofence_orient_wanted)], narrowed := true }
def OrientFitsUptoSaid : Prop := orientFitsUptoRow.holds Tryd.pinned (OpenSpec.upto orientFitsSpec)

end Rows
end Go.Proofs.YthnhabfnjjbfaaaDoor
