/-
  NARROWER THAN 'FOR EVERY INPUT', by the rows' own cells (each row's printed sentence says how): NetworkSizes: laid · NetworkComparators: laid · NetworkSorts: laid · NetworkZeroOne: laid · NetworkRounds: laid · NetworkStops: laid.
  DERIVED. THE GIVEN ROWS OF THIS SEAT. 6 by the template 'for every input the law returns true; each argument reads behind the call as it read before'; 0 by the template 'total and deterministic' (their statements: YthcckgehlfikcaaDoorTotals.lean).
  GIVEN WITH THE SEED: the statements are not yours to turn. If you find one false, say at which input.
  Laid BY PROGRAM, IN A SANDBOX (cutbox-rows.mjs): the forced cells as the released guide's own fill.sh prints them over the translation 16afa04888ed5eef… (all of the seat's roots in one cut). By AI agents, Wed Nov 11 2026. No macro, syntax, notation, axiom, sorry.
-/
import Derived.Test.YthcckgehlfikcaaDoorChecked
import GoSem.Claim
import GoSem.ClaimJoined
import GoSem.ClaimMapViews
import Derived.JoinedTies
import Derived.KernelRfl
namespace Go.Proofs.YthcckgehlfikcaaDoor
/- THE CELL 'sum', in the pinned program and in every row, IS THE sha256 OF THE DUMP (.gsa) THAT YthcckgehlfikcaaDoorProg.lean LOADS. Nothing in Lean hashes anything: it is a label: what it is worth is what the hold of that sum in a sandbox is worth. -/
noncomputable def Tryd.pinned : Pinned := { name := "ythcckgehlfikcaadoor", sum := "16afa04888ed5eefed5eb21e858dde078b91b8f330745a23ce4f49265a896251", checked := Tryd.checked }
namespace Rows
def none {H : Type} : Left H := { results := [], args := [] }

/- WHAT THE LISTED PACKAGE-LEVEL VARIABLES READ AS WHEN THE CALL BEGINS. Each datum BY PROGRAM (the guide's laid-datum.mjs) off the statement by which the dump's own 'gosem.cut.vars' lays the variable. In a bare row this is a premise. The card (YthcckgehlfikcaaDoorCards.lean) ties it to the program's text. -/
def laid_geofence_mask_weights {H : Type} : DataW H := .agg [.lit (.int .u64 9223372036854775808), .lit (.int .u64 18446744073709551615)]
def laid_math_bits_deBruijn32tab {H : Type} : DataW H := .agg [.lit (.int .u8 0), .lit (.int .u8 1), .lit (.int .u8 28), .lit (.int .u8 2), .lit (.int .u8 29), .lit (.int .u8 14), .lit (.int .u8 24), .lit (.int .u8 3), .lit (.int .u8 30), .lit (.int .u8 22), .lit (.int .u8 20), .lit (.int .u8 15), .lit (.int .u8 25), .lit (.int .u8 17), .lit (.int .u8 4), .lit (.int .u8 8), .lit (.int .u8 31), .lit (.int .u8 27), .lit (.int .u8 13), .lit (.int .u8 23), .lit (.int .u8 21), .lit (.int .u8 19), .lit (.int .u8 16), .lit (.int .u8 7), .lit (.int .u8 26), .lit (.int .u8 12), .lit (.int .u8 18), .lit (.int .u8 6), .lit (.int .u8 11), .lit (.int .u8 5), .lit (.int .u8 10), .lit (.int .u8 9)]
def laid_math_bits_deBruijn64tab {H : Type} : DataW H := .agg [.lit (.int .u8 0), .lit (.int .u8 1), .lit (.int .u8 56), .lit (.int .u8 2), .lit (.int .u8 57), .lit (.int .u8 49), .lit (.int .u8 28), .lit (.int .u8 3), .lit (.int .u8 61), .lit (.int .u8 58), .lit (.int .u8 42), .lit (.int .u8 50), .lit (.int .u8 38), .lit (.int .u8 29), .lit (.int .u8 17), .lit (.int .u8 4), .lit (.int .u8 62), .lit (.int .u8 47), .lit (.int .u8 59), .lit (.int .u8 36), .lit (.int .u8 45), .lit (.int .u8 43), .lit (.int .u8 51), .lit (.int .u8 22), .lit (.int .u8 53), .lit (.int .u8 39), .lit (.int .u8 33), .lit (.int .u8 30), .lit (.int .u8 24), .lit (.int .u8 18), .lit (.int .u8 12), .lit (.int .u8 5), .lit (.int .u8 63), .lit (.int .u8 55), .lit (.int .u8 48), .lit (.int .u8 27), .lit (.int .u8 60), .lit (.int .u8 41), .lit (.int .u8 37), .lit (.int .u8 16), .lit (.int .u8 46), .lit (.int .u8 35), .lit (.int .u8 44), .lit (.int .u8 21), .lit (.int .u8 52), .lit (.int .u8 32), .lit (.int .u8 23), .lit (.int .u8 11), .lit (.int .u8 54), .lit (.int .u8 26), .lit (.int .u8 40), .lit (.int .u8 15), .lit (.int .u8 34), .lit (.int .u8 20), .lit (.int .u8 31), .lit (.int .u8 10), .lit (.int .u8 25), .lit (.int .u8 14), .lit (.int .u8 19), .lit (.int .u8 9), .lit (.int .u8 13), .lit (.int .u8 8), .lit (.int .u8 7), .lit (.int .u8 6)]

/-- 'geofencelaw12.NetworkSizes': WHATEVER THE INPUT: true; the input reads as it did. -/
def networkSizesSpec : ChangeSpec := { name := "networkSizes", fn := fun _ => fun
  | [d] => { results := [.lit (.bool true)], args := [d] }
  | _ => none }
def networkSizesRow : OpenClaim := { program := "ythcckgehlfikcaadoor", sum := "16afa04888ed5eefed5eb21e858dde078b91b8f330745a23ce4f49265a896251", func := "geofence/geofencelaw12.NetworkSizes", spec := "networkSizes", unfollowed := true, recurses := true, named := ["math/bits.deBruijn32tab", "math/bits.deBruijn64tab", "geofence/mask.weights"], apart := false, laid := [("geofence/mask.weights", laid_geofence_mask_weights), ("math/bits.deBruijn32tab", laid_math_bits_deBruijn32tab), ("math/bits.deBruijn64tab", laid_math_bits_deBruijn64tab)] }
def NetworkSizesSaid : Prop := networkSizesRow.holds Tryd.pinned (OpenSpec.ofChange networkSizesSpec)

/-- ITS FALSE NEIGHBOUR: 'it returns false'. Refute it at one input. -/
def networkSizesWrong : ChangeSpec := { name := "networkSizes", fn := fun _ => fun
  | [d] => { results := [.lit (.bool false)], args := [d] }
  | _ => none }
def NetworkSizesWrongFalsely : Prop := networkSizesRow.holds Tryd.pinned (OpenSpec.ofChange networkSizesWrong)

/-- 'geofencelaw12.NetworkComparators': WHATEVER THE INPUT: true; the input reads as it did. -/
def networkComparatorsSpec : ChangeSpec := { name := "networkComparators", fn := fun _ => fun
  | [d] => { results := [.lit (.bool true)], args := [d] }
  | _ => none }
def networkComparatorsRow : OpenClaim := { program := "ythcckgehlfikcaadoor", sum := "16afa04888ed5eefed5eb21e858dde078b91b8f330745a23ce4f49265a896251", func := "geofence/geofencelaw12.NetworkComparators", spec := "networkComparators", unfollowed := true, recurses := true, named := ["math/bits.deBruijn32tab", "math/bits.deBruijn64tab", "geofence/mask.weights"], apart := false, laid := [("geofence/mask.weights", laid_geofence_mask_weights), ("math/bits.deBruijn32tab", laid_math_bits_deBruijn32tab), ("math/bits.deBruijn64tab", laid_math_bits_deBruijn64tab)] }
def NetworkComparatorsSaid : Prop := networkComparatorsRow.holds Tryd.pinned (OpenSpec.ofChange networkComparatorsSpec)

/-- ITS FALSE NEIGHBOUR: 'it returns false'. Refute it at one input. -/
def networkComparatorsWrong : ChangeSpec := { name := "networkComparators", fn := fun _ => fun
  | [d] => { results := [.lit (.bool false)], args := [d] }
  | _ => none }
def NetworkComparatorsWrongFalsely : Prop := networkComparatorsRow.holds Tryd.pinned (OpenSpec.ofChange networkComparatorsWrong)

/-- 'geofencelaw12.NetworkSorts': WHATEVER THE INPUT: true; the input reads as it did. -/
def networkSortsSpec : ChangeSpec := { name := "networkSorts", fn := fun _ => fun
  | [d] => { results := [.lit (.bool true)], args := [d] }
  | _ => none }
def networkSortsRow : OpenClaim := { program := "ythcckgehlfikcaadoor", sum := "16afa04888ed5eefed5eb21e858dde078b91b8f330745a23ce4f49265a896251", func := "geofence/geofencelaw12.NetworkSorts", spec := "networkSorts", unfollowed := true, recurses := true, named := ["math/bits.deBruijn32tab", "math/bits.deBruijn64tab", "geofence/mask.weights"], apart := false, laid := [("geofence/mask.weights", laid_geofence_mask_weights), ("math/bits.deBruijn32tab", laid_math_bits_deBruijn32tab), ("math/bits.deBruijn64tab", laid_math_bits_deBruijn64tab)] }
def NetworkSortsSaid : Prop := networkSortsRow.holds Tryd.pinned (OpenSpec.ofChange networkSortsSpec)

/-- ITS FALSE NEIGHBOUR: 'it returns false'. Refute it at one input. -/
def networkSortsWrong : ChangeSpec := { name := "networkSorts", fn := fun _ => fun
  | [d] => { results := [.lit (.bool false)], args := [d] }
  | _ => none }
def NetworkSortsWrongFalsely : Prop := networkSortsRow.holds Tryd.pinned (OpenSpec.ofChange networkSortsWrong)

/-- 'geofencelaw12.NetworkZeroOne': WHATEVER THE INPUT: true; the input reads as it did. -/
def networkZeroOneSpec : ChangeSpec := { name := "networkZeroOne", fn := fun _ => fun
  | [d1, d2] => { results := [.lit (.bool true)], args := [d1, d2] }
  | _ => none }
def networkZeroOneRow : OpenClaim := { program := "ythcckgehlfikcaadoor", sum := "16afa04888ed5eefed5eb21e858dde078b91b8f330745a23ce4f49265a896251", func := "geofence/geofencelaw12.NetworkZeroOne", spec := "networkZeroOne", unfollowed := true, recurses := true, named := ["geofence/mask.weights", "math/bits.deBruijn32tab", "math/bits.deBruijn64tab"], apart := false, laid := [("geofence/mask.weights", laid_geofence_mask_weights), ("math/bits.deBruijn32tab", laid_math_bits_deBruijn32tab), ("math/bits.deBruijn64tab", laid_math_bits_deBruijn64tab)] }
def NetworkZeroOneSaid : Prop := networkZeroOneRow.holds Tryd.pinned (OpenSpec.ofChange networkZeroOneSpec)

/-- ITS FALSE NEIGHBOUR: 'it returns false'. Refute it at one input. -/
def networkZeroOneWrong : ChangeSpec := { name := "networkZeroOne", fn := fun _ => fun
  | [d1, d2] => { results := [.lit (.bool false)], args := [d1, d2] }
  | _ => none }
def NetworkZeroOneWrongFalsely : Prop := networkZeroOneRow.holds Tryd.pinned (OpenSpec.ofChange networkZeroOneWrong)

/-- 'geofencelaw12.NetworkRounds': WHATEVER THE INPUT: true; the input reads as it did. -/
def networkRoundsSpec : ChangeSpec := { name := "networkRounds", fn := fun _ => fun
  | [d] => { results := [.lit (.bool true)], args := [d] }
  | _ => none }
def networkRoundsRow : OpenClaim := { program := "ythcckgehlfikcaadoor", sum := "16afa04888ed5eefed5eb21e858dde078b91b8f330745a23ce4f49265a896251", func := "geofence/geofencelaw12.NetworkRounds", spec := "networkRounds", unfollowed := true, recurses := true, named := ["math/bits.deBruijn32tab", "math/bits.deBruijn64tab", "geofence/mask.weights"], apart := false, laid := [("geofence/mask.weights", laid_geofence_mask_weights), ("math/bits.deBruijn32tab", laid_math_bits_deBruijn32tab), ("math/bits.deBruijn64tab", laid_math_bits_deBruijn64tab)] }
def NetworkRoundsSaid : Prop := networkRoundsRow.holds Tryd.pinned (OpenSpec.ofChange networkRoundsSpec)

/-- ITS FALSE NEIGHBOUR: 'it returns false'. Refute it at one input. -/
def networkRoundsWrong : ChangeSpec := { name := "networkRounds", fn := fun _ => fun
  | [d] => { results := [.lit (.bool false)], args := [d] }
  | _ => none }
def NetworkRoundsWrongFalsely : Prop := networkRoundsRow.holds Tryd.pinned (OpenSpec.ofChange networkRoundsWrong)

/-- 'geofencelaw12.NetworkStops': WHATEVER THE INPUT: true; the input reads as it did. -/
def networkStopsSpec : ChangeSpec := { name := "networkStops", fn := fun _ => fun
  | [d1, d2] => { results := [.lit (.bool true)], args := [d1, d2] }
  | _ => none }
def networkStopsRow : OpenClaim := { program := "ythcckgehlfikcaadoor", sum := "16afa04888ed5eefed5eb21e858dde078b91b8f330745a23ce4f49265a896251", func := "geofence/geofencelaw12.NetworkStops", spec := "networkStops", unfollowed := true, recurses := true, named := ["math/bits.deBruijn32tab", "math/bits.deBruijn64tab", "geofence/mask.weights"], apart := false, laid := [("geofence/mask.weights", laid_geofence_mask_weights), ("math/bits.deBruijn32tab", laid_math_bits_deBruijn32tab), ("math/bits.deBruijn64tab", laid_math_bits_deBruijn64tab)] }
def NetworkStopsSaid : Prop := networkStopsRow.holds Tryd.pinned (OpenSpec.ofChange networkStopsSpec)

/-- ITS FALSE NEIGHBOUR: 'it returns false'. Refute it at one input. -/
def networkStopsWrong : ChangeSpec := { name := "networkStops", fn := fun _ => fun
  | [d1, d2] => { results := [.lit (.bool false)], args := [d1, d2] }
  | _ => none }
def NetworkStopsWrongFalsely : Prop := networkStopsRow.holds Tryd.pinned (OpenSpec.ofChange networkStopsWrong)

/- THE SECOND FORM. 'bulk': how many values and letters a reading holds, each counted each time it is reached (what is shared counts as often as it is met; a slice's spare places count too). A statement '..UptoSaid' is the law's where the arguments, and the package variables that the reading takes, are together of bulk at most 1048576: NARROWER than '..Said'. Prove '..Said' where nothing that the law and all that it calls make is longer than what came in: it says more and counts as full. Else prove '..UptoSaid'. A law counts once. -/
mutual
def uptoBulk {H : Type} : DataW H → Nat
  | .lit (.string bytes) => bytes.length + 1
  | .lit _ => 1
  | .nil => 1
  | .ptr d => uptoBulk d + 1
  | .slice elems spare => uptoBulkAll elems + uptoBulkAll spare + 1
  | .agg parts => uptoBulkAll parts + 1
  | .iface _ d => uptoBulk d + 1
  | .map entries => uptoBulkEntries entries + 1
  | .held _ => 1
def uptoBulkAll {H : Type} : List (DataW H) → Nat
  | [] => 0
  | d :: r => uptoBulk d + uptoBulkAll r
def uptoBulkEntries {H : Type} : List (Lit × DataW H) → Nat
  | [] => 0
  | x :: r => uptoBulkEntry x + uptoBulkEntries r
def uptoBulkEntry {H : Type} : Lit × DataW H → Nat
  | (.string bytes, d) => bytes.length + uptoBulk d + 1
  | (_, d) => uptoBulk d + 1
 end
def uptoSmall : (H : Type) → List (DataW H) → Bool := fun _ ds => decide (uptoBulkAll ds ≤ 1048576)
def OpenSpec.upto (s : _root_.Go.ChangeSpec) : _root_.Go.OpenSpec := { _root_.Go.OpenSpec.ofChange s with cond := some uptoSmall }

/-- 'geofencelaw12.NetworkSizes', WHERE WHAT IT READS IS OF BULK AT MOST 1048576: true; the input reads as it did. -/
def networkSizesUptoRow : OpenClaim := { program := "ythcckgehlfikcaadoor", sum := "16afa04888ed5eefed5eb21e858dde078b91b8f330745a23ce4f49265a896251", func := "geofence/geofencelaw12.NetworkSizes", spec := "networkSizes", unfollowed := true, recurses := true, named := ["math/bits.deBruijn32tab", "math/bits.deBruijn64tab", "geofence/mask.weights"], apart := false, laid := [("geofence/mask.weights", laid_geofence_mask_weights), ("math/bits.deBruijn32tab", laid_math_bits_deBruijn32tab), ("math/bits.deBruijn64tab", laid_math_bits_deBruijn64tab)], narrowed := true }
def NetworkSizesUptoSaid : Prop := networkSizesUptoRow.holds Tryd.pinned (OpenSpec.upto networkSizesSpec)

/-- 'geofencelaw12.NetworkComparators', WHERE WHAT IT READS IS OF BULK AT MOST 1048576: true; the input reads as it did. -/
def networkComparatorsUptoRow : OpenClaim := { program := "ythcckgehlfikcaadoor", sum := "16afa04888ed5eefed5eb21e858dde078b91b8f330745a23ce4f49265a896251", func := "geofence/geofencelaw12.NetworkComparators", spec := "networkComparators", unfollowed := true, recurses := true, named := ["math/bits.deBruijn32tab", "math/bits.deBruijn64tab", "geofence/mask.weights"], apart := false, laid := [("geofence/mask.weights", laid_geofence_mask_weights), ("math/bits.deBruijn32tab", laid_math_bits_deBruijn32tab), ("math/bits.deBruijn64tab", laid_math_bits_deBruijn64tab)], narrowed := true }
def NetworkComparatorsUptoSaid : Prop := networkComparatorsUptoRow.holds Tryd.pinned (OpenSpec.upto networkComparatorsSpec)

/-- 'geofencelaw12.NetworkSorts', WHERE WHAT IT READS IS OF BULK AT MOST 1048576: true; the input reads as it did. -/
def networkSortsUptoRow : OpenClaim := { program := "ythcckgehlfikcaadoor", sum := "16afa04888ed5eefed5eb21e858dde078b91b8f330745a23ce4f49265a896251", func := "geofence/geofencelaw12.NetworkSorts", spec := "networkSorts", unfollowed := true, recurses := true, named := ["math/bits.deBruijn32tab", "math/bits.deBruijn64tab", "geofence/mask.weights"], apart := false, laid := [("geofence/mask.weights", laid_geofence_mask_weights), ("math/bits.deBruijn32tab", laid_math_bits_deBruijn32tab), ("math/bits.deBruijn64tab", laid_math_bits_deBruijn64tab)], narrowed := true }
def NetworkSortsUptoSaid : Prop := networkSortsUptoRow.holds Tryd.pinned (OpenSpec.upto networkSortsSpec)

/-- 'geofencelaw12.NetworkZeroOne', WHERE WHAT IT READS IS OF BULK AT MOST 1048576: true; the input reads as it did. -/
def networkZeroOneUptoRow : OpenClaim := { program := "ythcckgehlfikcaadoor", sum := "16afa04888ed5eefed5eb21e858dde078b91b8f330745a23ce4f49265a896251", func := "geofence/geofencelaw12.NetworkZeroOne", spec := "networkZeroOne", unfollowed := true, recurses := true, named := ["geofence/mask.weights", "math/bits.deBruijn32tab", "math/bits.deBruijn64tab"], apart := false, laid := [("geofence/mask.weights", laid_geofence_mask_weights), ("math/bits.deBruijn32tab", laid_math_bits_deBruijn32tab), ("math/bits.deBruijn64tab", laid_math_bits_deBruijn64tab)], narrowed := true }
def NetworkZeroOneUptoSaid : Prop := networkZeroOneUptoRow.holds Tryd.pinned (OpenSpec.upto networkZeroOneSpec)

/-- 'geofencelaw12.NetworkRounds', WHERE WHAT IT READS IS OF BULK AT MOST 1048576: true; the input reads as it did. -/
def networkRoundsUptoRow : OpenClaim := { program := "ythcckgehlfikcaadoor", sum := "16afa04888ed5eefed5eb21e858dde078b91b8f330745a23ce4f49265a896251", func := "geofence/geofencelaw12.NetworkRounds", spec := "networkRounds", unfollowed := true, recurses := true, named := ["math/bits.deBruijn32tab", "math/bits.deBruijn64tab", "geofence/mask.weights"], apart := false, laid := [("geofence/mask.weights", laid_geofence_mask_weights), ("math/bits.deBruijn32tab", laid_math_bits_deBruijn32tab), ("math/bits.deBruijn64tab", laid_math_bits_deBruijn64tab)], narrowed := true }
def NetworkRoundsUptoSaid : Prop := networkRoundsUptoRow.holds Tryd.pinned (OpenSpec.upto networkRoundsSpec)

/-- 'geofencelaw12.NetworkStops', WHERE WHAT IT READS IS OF BULK AT MOST 1048576: true; the input reads as it did. -/
def networkStopsUptoRow : OpenClaim := { program := "ythcckgehlfikcaadoor", sum := "16afa04888ed5eefed5eb21e858dde078b91b8f330745a23ce4f49265a896251", func := "geofence/geofencelaw12.NetworkStops", spec := "networkStops", unfollowed := true, recurses := true, named := ["math/bits.deBruijn32tab", "math/bits.deBruijn64tab", "geofence/mask.weights"], apart := false, laid := [("geofence/mask.weights", laid_geofence_mask_weights), ("math/bits.deBruijn32tab", laid_math_bits_deBruijn32tab), ("math/bits.deBruijn64tab", laid_math_bits_deBruijn64tab)], narrowed := true }
def NetworkStopsUptoSaid : Prop := networkStopsUptoRow.holds Tryd.pinned (OpenSpec.upto networkStopsSpec)

end Rows
end Go.Proofs.YthcckgehlfikcaaDoor
