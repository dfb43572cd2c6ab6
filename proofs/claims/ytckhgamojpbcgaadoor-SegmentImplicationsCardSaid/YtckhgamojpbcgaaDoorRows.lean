/-
  NARROWER THAN 'FOR EVERY INPUT', by the rows' own cells (each row's printed sentence says how): SegmentWithin: laid · SegmentContains: laid · SegmentMeets: laid · SegmentSymmetries: laid · SegmentItself: laid · SegmentImplications: laid.
  DERIVED. THE GIVEN ROWS OF THIS SEAT. 6 by the template 'for every input the law returns true; each argument reads behind the call as it read before'; 0 by the template 'total and deterministic' (their statements: YtckhgamojpbcgaaDoorTotals.lean).
  GIVEN WITH THE SEED: the statements are not yours to turn. If you find one false, say at which input.
  Laid BY PROGRAM, IN A SANDBOX (cutbox-rows.mjs): the forced cells as the released guide's own fill.sh prints them over the translation ee35ab34f232b2b2… (all of the seat's roots in one cut). By AI agents, Wed Nov 11 2026. No macro, syntax, notation, axiom, sorry.
-/
import Derived.Test.YtckhgamojpbcgaaDoorChecked
import GoSem.Claim
import GoSem.ClaimJoined
import GoSem.ClaimMapViews
import Derived.JoinedTies
import Derived.KernelRfl
namespace Go.Proofs.YtckhgamojpbcgaaDoor
/- THE CELL 'sum', in the pinned program and in every row, IS THE sha256 OF THE DUMP (.gsa) THAT YtckhgamojpbcgaaDoorProg.lean LOADS. Nothing in Lean hashes anything: it is a label: what it is worth is what the hold of that sum in a sandbox is worth. -/
noncomputable def Tryd.pinned : Pinned := { name := "ytckhgamojpbcgaadoor", sum := "ee35ab34f232b2b29e761b7179955bf359ba4b96782a36a3ffb598aff8560458", checked := Tryd.checked }
namespace Rows
def none {H : Type} : Left H := { results := [], args := [] }

/- WHAT THE LISTED PACKAGE-LEVEL VARIABLES READ AS WHEN THE CALL BEGINS. Each datum BY PROGRAM (the guide's laid-datum.mjs) off the statement by which the dump's own 'gosem.cut.vars' lays the variable. In a bare row this is a premise. The card (YtckhgamojpbcgaaDoorCards.lean) ties it to the program's text. -/
def laid_geofence_mask_weights {H : Type} : DataW H := .agg [.lit (.int .u64 9223372036854775808), .lit (.int .u64 18446744073709551615)]
def laid_geofence_orient_wanted {H : Type} : DataW H := .agg [.lit (.int .i64 1), .lit (.int .i64 0)]

/-- 'geofencelaw08.SegmentWithin': WHATEVER THE INPUT: true; the input reads as it did. -/
def segmentWithinSpec : ChangeSpec := { name := "segmentWithin", fn := fun _ => fun
  | [d1, d2, d3] => { results := [.lit (.bool true)], args := [d1, d2, d3] }
  | _ => none }
def segmentWithinRow : OpenClaim := { program := "ytckhgamojpbcgaadoor", sum := "ee35ab34f232b2b29e761b7179955bf359ba4b96782a36a3ffb598aff8560458", func := "geofence/geofencelaw08.SegmentWithin", spec := "segmentWithin", inPlace := ["math/bits.Sub64", "math/bits.Add64"], unfollowed := true, recurses := true, named := ["geofence/orient.wanted", "geofence/mask.weights"], apart := false, laid := [("geofence/mask.weights", laid_geofence_mask_weights), ("geofence/orient.wanted", laid_geofence_orient_wanted)] }
def SegmentWithinSaid : Prop := segmentWithinRow.holds Tryd.pinned (OpenSpec.ofChange segmentWithinSpec)

/-- ITS FALSE NEIGHBOUR: 'it returns false'. Refute it at one input. -/
def segmentWithinWrong : ChangeSpec := { name := "segmentWithin", fn := fun _ => fun
  | [d1, d2, d3] => { results := [.lit (.bool false)], args := [d1, d2, d3] }
  | _ => none }
def SegmentWithinWrongFalsely : Prop := segmentWithinRow.holds Tryd.pinned (OpenSpec.ofChange segmentWithinWrong)

/-- 'geofencelaw08.SegmentContains': WHATEVER THE INPUT: true; the input reads as it did. -/
def segmentContainsSpec : ChangeSpec := { name := "segmentContains", fn := fun _ => fun
  | [d1, d2, d3] => { results := [.lit (.bool true)], args := [d1, d2, d3] }
  | _ => none }
def segmentContainsRow : OpenClaim := { program := "ytckhgamojpbcgaadoor", sum := "ee35ab34f232b2b29e761b7179955bf359ba4b96782a36a3ffb598aff8560458", func := "geofence/geofencelaw08.SegmentContains", spec := "segmentContains", inPlace := ["math/bits.Sub64", "math/bits.Add64"], unfollowed := true, recurses := true, named := ["geofence/orient.wanted", "geofence/mask.weights"], apart := false, laid := [("geofence/mask.weights", laid_geofence_mask_weights), ("geofence/orient.wanted", laid_geofence_orient_wanted)] }
def SegmentContainsSaid : Prop := segmentContainsRow.holds Tryd.pinned (OpenSpec.ofChange segmentContainsSpec)

/-- ITS FALSE NEIGHBOUR: 'it returns false'. Refute it at one input. -/
def segmentContainsWrong : ChangeSpec := { name := "segmentContains", fn := fun _ => fun
  | [d1, d2, d3] => { results := [.lit (.bool false)], args := [d1, d2, d3] }
  | _ => none }
def SegmentContainsWrongFalsely : Prop := segmentContainsRow.holds Tryd.pinned (OpenSpec.ofChange segmentContainsWrong)

/-- 'geofencelaw08.SegmentMeets': WHATEVER THE INPUT: true; the input reads as it did. -/
def segmentMeetsSpec : ChangeSpec := { name := "segmentMeets", fn := fun _ => fun
  | [d] => { results := [.lit (.bool true)], args := [d] }
  | _ => none }
def segmentMeetsRow : OpenClaim := { program := "ytckhgamojpbcgaadoor", sum := "ee35ab34f232b2b29e761b7179955bf359ba4b96782a36a3ffb598aff8560458", func := "geofence/geofencelaw08.SegmentMeets", spec := "segmentMeets", inPlace := ["math/bits.Sub64", "math/bits.Add64"], unfollowed := true, recurses := true, named := ["geofence/orient.wanted", "geofence/mask.weights"], apart := false, laid := [("geofence/mask.weights", laid_geofence_mask_weights), ("geofence/orient.wanted", laid_geofence_orient_wanted)] }
def SegmentMeetsSaid : Prop := segmentMeetsRow.holds Tryd.pinned (OpenSpec.ofChange segmentMeetsSpec)

/-- ITS FALSE NEIGHBOUR: 'it returns false'. Refute it at one input. -/
def segmentMeetsWrong : ChangeSpec := { name := "segmentMeets", fn := fun _ => fun
  | [d] => { results := [.lit (.bool false)], args := [d] }
  | _ => none }
def SegmentMeetsWrongFalsely : Prop := segmentMeetsRow.holds Tryd.pinned (OpenSpec.ofChange segmentMeetsWrong)

/-- 'geofencelaw08.SegmentSymmetries': WHATEVER THE INPUT: true; the input reads as it did. -/
def segmentSymmetriesSpec : ChangeSpec := { name := "segmentSymmetries", fn := fun _ => fun
  | [d] => { results := [.lit (.bool true)], args := [d] }
  | _ => none }
def segmentSymmetriesRow : OpenClaim := { program := "ytckhgamojpbcgaadoor", sum := "ee35ab34f232b2b29e761b7179955bf359ba4b96782a36a3ffb598aff8560458", func := "geofence/geofencelaw08.SegmentSymmetries", spec := "segmentSymmetries", inPlace := ["math/bits.Sub64", "math/bits.Add64"], unfollowed := true, recurses := true, named := ["geofence/mask.weights", "geofence/orient.wanted"], apart := false, laid := [("geofence/mask.weights", laid_geofence_mask_weights), ("geofence/orient.wanted", laid_geofence_orient_wanted)] }
def SegmentSymmetriesSaid : Prop := segmentSymmetriesRow.holds Tryd.pinned (OpenSpec.ofChange segmentSymmetriesSpec)

/-- ITS FALSE NEIGHBOUR: 'it returns false'. Refute it at one input. -/
def segmentSymmetriesWrong : ChangeSpec := { name := "segmentSymmetries", fn := fun _ => fun
  | [d] => { results := [.lit (.bool false)], args := [d] }
  | _ => none }
def SegmentSymmetriesWrongFalsely : Prop := segmentSymmetriesRow.holds Tryd.pinned (OpenSpec.ofChange segmentSymmetriesWrong)

/-- 'geofencelaw08.SegmentItself': WHATEVER THE INPUT: true; the input reads as it did. -/
def segmentItselfSpec : ChangeSpec := { name := "segmentItself", fn := fun _ => fun
  | [d1, d2, d3] => { results := [.lit (.bool true)], args := [d1, d2, d3] }
  | _ => none }
def segmentItselfRow : OpenClaim := { program := "ytckhgamojpbcgaadoor", sum := "ee35ab34f232b2b29e761b7179955bf359ba4b96782a36a3ffb598aff8560458", func := "geofence/geofencelaw08.SegmentItself", spec := "segmentItself", inPlace := ["math/bits.Sub64", "math/bits.Add64"], unfollowed := true, recurses := true, named := ["geofence/orient.wanted", "geofence/mask.weights"], apart := false, laid := [("geofence/mask.weights", laid_geofence_mask_weights), ("geofence/orient.wanted", laid_geofence_orient_wanted)] }
def SegmentItselfSaid : Prop := segmentItselfRow.holds Tryd.pinned (OpenSpec.ofChange segmentItselfSpec)

/-- ITS FALSE NEIGHBOUR: 'it returns false'. Refute it at one input. -/
def segmentItselfWrong : ChangeSpec := { name := "segmentItself", fn := fun _ => fun
  | [d1, d2, d3] => { results := [.lit (.bool false)], args := [d1, d2, d3] }
  | _ => none }
def SegmentItselfWrongFalsely : Prop := segmentItselfRow.holds Tryd.pinned (OpenSpec.ofChange segmentItselfWrong)

/-- 'geofencelaw08.SegmentImplications': WHATEVER THE INPUT: true; the input reads as it did. -/
def segmentImplicationsSpec : ChangeSpec := { name := "segmentImplications", fn := fun _ => fun
  | [d] => { results := [.lit (.bool true)], args := [d] }
  | _ => none }
def segmentImplicationsRow : OpenClaim := { program := "ytckhgamojpbcgaadoor", sum := "ee35ab34f232b2b29e761b7179955bf359ba4b96782a36a3ffb598aff8560458", func := "geofence/geofencelaw08.SegmentImplications", spec := "segmentImplications", inPlace := ["math/bits.Sub64", "math/bits.Add64"], unfollowed := true, recurses := true, named := ["geofence/mask.weights", "geofence/orient.wanted"], apart := false, laid := [("geofence/mask.weights", laid_geofence_mask_weights), ("geofence/orient.wanted", laid_geofence_orient_wanted)] }
def SegmentImplicationsSaid : Prop := segmentImplicationsRow.holds Tryd.pinned (OpenSpec.ofChange segmentImplicationsSpec)

/-- ITS FALSE NEIGHBOUR: 'it returns false'. Refute it at one input. -/
def segmentImplicationsWrong : ChangeSpec := { name := "segmentImplications", fn := fun _ => fun
  | [d] => { results := [.lit (.bool false)], args := [d] }
  | _ => none }
def SegmentImplicationsWrongFalsely : Prop := segmentImplicationsRow.holds Tryd.pinned (OpenSpec.ofChange segmentImplicationsWrong)

/- THE SECOND FORM. 'bulk': how many values and letters a reading holds, each counted each time it is reached (what is shared counts as often as it is met; a slice's spare places count too). A statement '..UptoSaid' is the law's where the arguments, and the package variables that the reading takes, are together of bulk at most 1048576: NARROWER than '..Said'. Prove '..Said' where nothing that the law and all that it calls make is longer than what came in: it says more and counts as full. Else prove '..UptoSaid'. A law counts once. -/
mutual
def uptoBulk {H : Type} : DataW H → Nat
  | .lit (.string bytes) => bytes.length + 1
  | .lit _ => 1
  | .nil => 1
  | .ptr d => uptoBulk d + 1
  | .slice elems spare => uptoBulkAll elems + uptoBulkAll spare + 1
  | .agg parts => uptoBulkAll parts + 1
  | .iface _ d => uptoBulk d + 1
  | .map entries => uptoBulkEntries entries + 1
  | .held _ => 1
def uptoBulkAll {H : Type} : List (DataW H) → Nat
  | [] => 0
  | d :: r => uptoBulk d + uptoBulkAll r
def uptoBulkEntries {H : Type} : List (Lit × DataW H) → Nat
  | [] => 0
  | x :: r => uptoBulkEntry x + uptoBulkEntries r
def uptoBulkEntry {H : Type} : Lit × DataW H → Nat
  | (.string bytes, d) => bytes.length + uptoBulk d + 1
  | (_, d) => uptoBulk d + 1
 end
def uptoSmall : (H : Type) → List (DataW H) → Bool := fun _ ds => decide (uptoBulkAll ds ≤ 1048576)
def OpenSpec.upto (s : _root_.Go.ChangeSpec) : _root_.Go.OpenSpec := { _root_.Go.OpenSpec.ofChange s with cond := some uptoSmall }

/-- 'geofencelaw08.SegmentWithin', WHERE WHAT IT READS IS OF BULK AT MOST 1048576: true; the input reads as it did. -/
def segmentWithinUptoRow : OpenClaim := { program := "ytckhgamojpbcgaadoor", sum := "ee35ab34f232b2b29e761b7179955bf359ba4b96782a36a3ffb598aff8560458", func := "geofence/geofencelaw08.SegmentWithin", spec := "segmentWithin", inPlace := ["math/bits.Sub64", "math/bits.Add64"], unfollowed := true, recurses := true, named := ["geofence/orient.wanted", "geofence/mask.weights"], apart := false, laid := [("geofence/mask.weights", laid_geofence_mask_weights), ("geofence/orient.wanted", laid_geofence_orient_wanted)], narrowed := true }
def SegmentWithinUptoSaid : Prop := segmentWithinUptoRow.holds Tryd.pinned (OpenSpec.upto segmentWithinSpec)

/-- 'geofencelaw08.SegmentContains', WHERE WHAT IT READS IS OF BULK AT MOST 1048576: true; the input reads as it did. -/
def segmentContainsUptoRow : OpenClaim := { program := "ytckhgamojpbcgaadoor", sum := "ee35ab34f232b2b29e761b7179955bf359ba4b96782a36a3ffb598aff8560458", func := "geofence/geofencelaw08.SegmentContains", spec := "segmentContains", inPlace := ["math/bits.Sub64", "math/bits.Add64"], unfollowed := true, recurses := true, named := ["geofence/orient.wanted", "geofence/mask.weights"], apart := false, laid := [("geofence/mask.weights", laid_geofence_mask_weights), ("geofence/orient.wanted", laid_geofence_orient_wanted)], narrowed := true }
def SegmentContainsUptoSaid : Prop := segmentContainsUptoRow.holds Tryd.pinned (OpenSpec.upto segmentContainsSpec)

/-- 'geofencelaw08.SegmentMeets', WHERE WHAT IT READS IS OF BULK AT MOST 1048576: true; the input reads as it did. -/
def segmentMeetsUptoRow : OpenClaim := { program := "ytckhgamojpbcgaadoor", sum := "ee35ab34f232b2b29e761b7179955bf359ba4b96782a36a3ffb598aff8560458", func := "geofence/geofencelaw08.SegmentMeets", spec := "segmentMeets", inPlace := ["math/bits.Sub64", "math/bits.Add64"], unfollowed := true, recurses := true, named := ["geofence/orient.wanted", "geofence/mask.weights"], apart := false, laid := [("geofence/mask.weights", laid_geofence_mask_weights), ("geofence/orient.wanted", laid_geofence_orient_wanted)], narrowed := true }
def SegmentMeetsUptoSaid : Prop := segmentMeetsUptoRow.holds Tryd.pinned (OpenSpec.upto segmentMeetsSpec)

/-- 'geofencelaw08.SegmentSymmetries', WHERE WHAT IT READS IS OF BULK AT MOST 1048576: true; the input reads as it did. -/
def segmentSymmetriesUptoRow : OpenClaim := { program := "ytckhgamojpbcgaadoor", sum := "ee35ab34f232b2b29e761b7179955bf359ba4b96782a36a3ffb598aff8560458", func := "geofence/geofencelaw08.SegmentSymmetries", spec := "segmentSymmetries", inPlace := ["math/bits.Sub64", "math/bits.Add64"], unfollowed := true, recurses := true, named := ["geofence/mask.weights", "geofence/orient.wanted"], apart := false, laid := [("geofence/mask.weights", laid_geofence_mask_weights), ("geofence/orient.wanted", laid_geofence_orient_wanted)], narrowed := true }
def SegmentSymmetriesUptoSaid : Prop := segmentSymmetriesUptoRow.holds Tryd.pinned (OpenSpec.upto segmentSymmetriesSpec)

/-- 'geofencelaw08.SegmentItself', WHERE WHAT IT READS IS OF BULK AT MOST 1048576: true; the input reads as it did. -/
def segmentItselfUptoRow : OpenClaim := { program := "ytckhgamojpbcgaadoor", sum := "ee35ab34f232b2b29e761b7179955bf359ba4b96782a36a3ffb598aff8560458", func := "geofence/geofencelaw08.SegmentItself", spec := "segmentItself", inPlace := ["math/bits.Sub64", "math/bits.Add64"], unfollowed := true, recurses := true, named := ["geofence/orient.wanted", "geofence/mask.weights"], apart := false, laid := [("geofence/mask.weights", laid_geofence_mask_weights), ("geofence/orient.wanted", laid_geofence_orient_wanted)], narrowed := true }
def SegmentItselfUptoSaid : Prop := segmentItselfUptoRow.holds Tryd.pinned (OpenSpec.upto segmentItselfSpec)

/-- 'geofencelaw08.SegmentImplications', WHERE WHAT IT READS IS OF BULK AT MOST 1048576: true; the input reads as it did. -/
def segmentImplicationsUptoRow : OpenClaim := { program := "ytckhgamojpbcgaadoor", sum := "ee35ab34f232b2b29e761b7179955bf359ba4b96782a36a3ffb598aff8560458", func := "geofence/geofencelaw08.SegmentImplications", spec := "segmentImplications", inPlace := ["math/bits.Sub64", "math/bits.Add64"], unfollowed := true, recurses := true, named := ["geofence/mask.weights", "geofence/orient.wanted"], apart := false, laid := [("geofence/mask.weights", laid_geofence_mask_weights), ("geofence/orient.wanted", laid_geofence_orient_wanted)], narrowed := true }
def SegmentImplicationsUptoSaid : Prop := segmentImplicationsUptoRow.holds Tryd.pinned (OpenSpec.upto segmentImplicationsSpec)

end Rows
end Go.Proofs.YtckhgamojpbcgaaDoor
