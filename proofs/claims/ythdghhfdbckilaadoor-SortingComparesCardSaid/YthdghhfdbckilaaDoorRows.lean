/-
  NARROWER THAN 'FOR EVERY INPUT', by the rows' own cells (each row's printed sentence says how): SortingCompares: laid · SortingSorts: laid · SortingEvents: laid · SortingIsOblivious: laid · SortingForgetsOrder: laid · SortingLive: laid.
  DERIVED. THE GIVEN ROWS OF THIS SEAT. 6 by the template 'for every input the law returns true; each argument reads behind the call as it read before'; 0 by the template 'total and deterministic' (their statements: YthdghhfdbckilaaDoorTotals.lean).
  GIVEN WITH THE SEED: the statements are not yours to turn. If you find one false, say at which input.
  Laid BY PROGRAM, IN A SANDBOX (cutbox-rows.mjs): the forced cells as the released guide's own fill.sh prints them over the translation 530b3ab391626707… (all of the seat's roots in one cut). By AI agents, Wed Nov 11 2026. No macro, syntax, notation, axiom, sorry.
-/
import Derived.Test.YthdghhfdbckilaaDoorChecked
import GoSem.Claim
import GoSem.ClaimJoined
import GoSem.ClaimMapViews
import Derived.JoinedTies
import Derived.KernelRfl
namespace Go.Proofs.YthdghhfdbckilaaDoor
/- THE CELL 'sum', in the pinned program and in every row, IS THE sha256 OF THE DUMP (.gsa) THAT YthdghhfdbckilaaDoorProg.lean LOADS. Nothing in Lean hashes anything: it is a label: what it is worth is what the hold of that sum in a sandbox is worth. -/
noncomputable def Tryd.pinned : Pinned := { name := "ythdghhfdbckilaadoor", sum := "530b3ab39162670766f6d8a46c265031b7058ac59fec76696492768117d86986", checked := Tryd.checked }
namespace Rows
def none {H : Type} : Left H := { results := [], args := [] }

/- WHAT THE LISTED PACKAGE-LEVEL VARIABLES READ AS WHEN THE CALL BEGINS. Each datum BY PROGRAM (the guide's laid-datum.mjs) off the statement by which the dump's own 'gosem.cut.vars' lays the variable. In a bare row this is a premise. The card (YthdghhfdbckilaaDoorCards.lean) ties it to the program's text. -/
def laid_geofence_mask_weights {H : Type} : DataW H := .agg [.lit (.int .u64 9223372036854775808), .lit (.int .u64 18446744073709551615)]

/-- 'geofencelaw13.SortingCompares': WHATEVER THE INPUT: true; the input reads as it did. -/
def sortingComparesSpec : ChangeSpec := { name := "sortingCompares", fn := fun _ => fun
  | [d1, d2] => { results := [.lit (.bool true)], args := [d1, d2] }
  | _ => none }
def sortingComparesRow : OpenClaim := { program := "ythdghhfdbckilaadoor", sum := "530b3ab39162670766f6d8a46c265031b7058ac59fec76696492768117d86986", func := "geofence/geofencelaw13.SortingCompares", spec := "sortingCompares", unfollowed := true, recurses := true, named := ["geofence/mask.weights"], apart := false, laid := [("geofence/mask.weights", laid_geofence_mask_weights)] }
def SortingComparesSaid : Prop := sortingComparesRow.holds Tryd.pinned (OpenSpec.ofChange sortingComparesSpec)

/-- ITS FALSE NEIGHBOUR: 'it returns false'. Refute it at one input. -/
def sortingComparesWrong : ChangeSpec := { name := "sortingCompares", fn := fun _ => fun
  | [d1, d2] => { results := [.lit (.bool false)], args := [d1, d2] }
  | _ => none }
def SortingComparesWrongFalsely : Prop := sortingComparesRow.holds Tryd.pinned (OpenSpec.ofChange sortingComparesWrong)

/-- 'geofencelaw13.SortingSorts': WHATEVER THE INPUT: true; the input reads as it did. -/
def sortingSortsSpec : ChangeSpec := { name := "sortingSorts", fn := fun _ => fun
  | [d] => { results := [.lit (.bool true)], args := [d] }
  | _ => none }
def sortingSortsRow : OpenClaim := { program := "ythdghhfdbckilaadoor", sum := "530b3ab39162670766f6d8a46c265031b7058ac59fec76696492768117d86986", func := "geofence/geofencelaw13.SortingSorts", spec := "sortingSorts", unfollowed := true, recurses := true, named := ["geofence/mask.weights"], apart := false, laid := [("geofence/mask.weights", laid_geofence_mask_weights)] }
def SortingSortsSaid : Prop := sortingSortsRow.holds Tryd.pinned (OpenSpec.ofChange sortingSortsSpec)

/-- ITS FALSE NEIGHBOUR: 'it returns false'. Refute it at one input. -/
def sortingSortsWrong : ChangeSpec := { name := "sortingSorts", fn := fun _ => fun
  | [d] => { results := [.lit (.bool false)], args := [d] }
  | _ => none }
def SortingSortsWrongFalsely : Prop := sortingSortsRow.holds Tryd.pinned (OpenSpec.ofChange sortingSortsWrong)

/-- 'geofencelaw13.SortingEvents': WHATEVER THE INPUT: true; the input reads as it did. -/
def sortingEventsSpec : ChangeSpec := { name := "sortingEvents", fn := fun _ => fun
  | [d] => { results := [.lit (.bool true)], args := [d] }
  | _ => none }
def sortingEventsRow : OpenClaim := { program := "ythdghhfdbckilaadoor", sum := "530b3ab39162670766f6d8a46c265031b7058ac59fec76696492768117d86986", func := "geofence/geofencelaw13.SortingEvents", spec := "sortingEvents", unfollowed := true, recurses := true, named := ["geofence/mask.weights"], apart := false, laid := [("geofence/mask.weights", laid_geofence_mask_weights)] }
def SortingEventsSaid : Prop := sortingEventsRow.holds Tryd.pinned (OpenSpec.ofChange sortingEventsSpec)

/-- ITS FALSE NEIGHBOUR: 'it returns false'. Refute it at one input. -/
def sortingEventsWrong : ChangeSpec := { name := "sortingEvents", fn := fun _ => fun
  | [d] => { results := [.lit (.bool false)], args := [d] }
  | _ => none }
def SortingEventsWrongFalsely : Prop := sortingEventsRow.holds Tryd.pinned (OpenSpec.ofChange sortingEventsWrong)

/-- 'geofencelaw13.SortingIsOblivious': WHATEVER THE INPUT: true; the input reads as it did. -/
def sortingIsObliviousSpec : ChangeSpec := { name := "sortingIsOblivious", fn := fun _ => fun
  | [d1, d2, d3] => { results := [.lit (.bool true)], args := [d1, d2, d3] }
  | _ => none }
def sortingIsObliviousRow : OpenClaim := { program := "ythdghhfdbckilaadoor", sum := "530b3ab39162670766f6d8a46c265031b7058ac59fec76696492768117d86986", func := "geofence/geofencelaw13.SortingIsOblivious", spec := "sortingIsOblivious", unfollowed := true, recurses := true, named := ["geofence/mask.weights"], apart := false, laid := [("geofence/mask.weights", laid_geofence_mask_weights)] }
def SortingIsObliviousSaid : Prop := sortingIsObliviousRow.holds Tryd.pinned (OpenSpec.ofChange sortingIsObliviousSpec)

/-- ITS FALSE NEIGHBOUR: 'it returns false'. Refute it at one input. -/
def sortingIsObliviousWrong : ChangeSpec := { name := "sortingIsOblivious", fn := fun _ => fun
  | [d1, d2, d3] => { results := [.lit (.bool false)], args := [d1, d2, d3] }
  | _ => none }
def SortingIsObliviousWrongFalsely : Prop := sortingIsObliviousRow.holds Tryd.pinned (OpenSpec.ofChange sortingIsObliviousWrong)

/-- 'geofencelaw13.SortingForgetsOrder': WHATEVER THE INPUT: true; the input reads as it did. -/
def sortingForgetsOrderSpec : ChangeSpec := { name := "sortingForgetsOrder", fn := fun _ => fun
  | [d1, d2] => { results := [.lit (.bool true)], args := [d1, d2] }
  | _ => none }
def sortingForgetsOrderRow : OpenClaim := { program := "ythdghhfdbckilaadoor", sum := "530b3ab39162670766f6d8a46c265031b7058ac59fec76696492768117d86986", func := "geofence/geofencelaw13.SortingForgetsOrder", spec := "sortingForgetsOrder", unfollowed := true, recurses := true, named := ["geofence/mask.weights"], apart := false, laid := [("geofence/mask.weights", laid_geofence_mask_weights)] }
def SortingForgetsOrderSaid : Prop := sortingForgetsOrderRow.holds Tryd.pinned (OpenSpec.ofChange sortingForgetsOrderSpec)

/-- ITS FALSE NEIGHBOUR: 'it returns false'. Refute it at one input. -/
def sortingForgetsOrderWrong : ChangeSpec := { name := "sortingForgetsOrder", fn := fun _ => fun
  | [d1, d2] => { results := [.lit (.bool false)], args := [d1, d2] }
  | _ => none }
def SortingForgetsOrderWrongFalsely : Prop := sortingForgetsOrderRow.holds Tryd.pinned (OpenSpec.ofChange sortingForgetsOrderWrong)

/-- 'geofencelaw13.SortingLive': WHATEVER THE INPUT: true; the input reads as it did. -/
def sortingLiveSpec : ChangeSpec := { name := "sortingLive", fn := fun _ => fun
  | [d] => { results := [.lit (.bool true)], args := [d] }
  | _ => none }
def sortingLiveRow : OpenClaim := { program := "ythdghhfdbckilaadoor", sum := "530b3ab39162670766f6d8a46c265031b7058ac59fec76696492768117d86986", func := "geofence/geofencelaw13.SortingLive", spec := "sortingLive", unfollowed := true, recurses := true, named := ["geofence/mask.weights"], apart := false, laid := [("geofence/mask.weights", laid_geofence_mask_weights)] }
def SortingLiveSaid : Prop := sortingLiveRow.holds Tryd.pinned (OpenSpec.ofChange sortingLiveSpec)

/-- ITS FALSE NEIGHBOUR: 'it returns false'. Refute it at one input. -/
def sortingLiveWrong : ChangeSpec := { name := "sortingLive", fn := fun _ => fun
  | [d] => { results := [.lit (.bool false)], args := [d] }
  | _ => none }
def SortingLiveWrongFalsely : Prop := sortingLiveRow.holds Tryd.pinned (OpenSpec.ofChange sortingLiveWrong)

/- THE SECOND FORM. 'bulk': how many values and letters a reading holds, each counted each time it is reached (what is shared counts as often as it is met; a slice's spare places count too). A statement '..UptoSaid' is the law's where the arguments, and the package variables that the reading takes, are together of bulk at most 1048576: NARROWER than '..Said'. Prove '..Said' where nothing that the law and all that it calls make is longer than what came in: it says more and counts as full. Else prove '..UptoSaid'. A law counts once. -/
mutual
def uptoBulk {H : Type} : DataW H → Nat
  | .lit (.string bytes) => bytes.length + 1
  | .lit _ => 1
  | .nil => 1
  | .ptr d => uptoBulk d + 1
  | .slice elems spare => uptoBulkAll elems + uptoBulkAll spare + 1
  | .agg parts => uptoBulkAll parts + 1
  | .iface _ d => uptoBulk d + 1
  | .map entries => uptoBulkEntries entries + 1
  | .held _ => 1
def uptoBulkAll {H : Type} : List (DataW H) → Nat
  | [] => 0
  | d :: r => uptoBulk d + uptoBulkAll r
def uptoBulkEntries {H : Type} : List (Lit × DataW H) → Nat
  | [] => 0
  | x :: r => uptoBulkEntry x + uptoBulkEntries r
def uptoBulkEntry {H : Type} : Lit × DataW H → Nat
  | (.string bytes, d) => bytes.length + uptoBulk d + 1
  | (_, d) => uptoBulk d + 1
 end
def uptoSmall : (H : Type) → List (DataW H) → Bool := fun _ ds => decide (uptoBulkAll ds ≤ 1048576)
def OpenSpec.upto (s : _root_.Go.ChangeSpec) : _root_.Go.OpenSpec := { _root_.Go.OpenSpec.ofChange s with cond := some uptoSmall }

/-- 'geofencelaw13.SortingCompares', WHERE WHAT IT READS IS OF BULK AT MOST 1048576: true; the input reads as it did. -/
def sortingComparesUptoRow : OpenClaim := { program := "ythdghhfdbckilaadoor", sum := "530b3ab39162670766f6d8a46c265031b7058ac59fec76696492768117d86986", func := "geofence/geofencelaw13.SortingCompares", spec := "sortingCompares", unfollowed := true, recurses := true, named := ["geofence/mask.weights"], apart := false, laid := [("geofence/mask.weights", laid_geofence_mask_weights)], narrowed := true }
def SortingComparesUptoSaid : Prop := sortingComparesUptoRow.holds Tryd.pinned (OpenSpec.upto sortingComparesSpec)

/-- 'geofencelaw13.SortingSorts', WHERE WHAT IT READS IS OF BULK AT MOST 1048576: true; the input reads as it did. -/
def sortingSortsUptoRow : OpenClaim := { program := "ythdghhfdbckilaadoor", sum := "530b3ab39162670766f6d8a46c265031b7058ac59fec76696492768117d86986", func := "geofence/geofencelaw13.SortingSorts", spec := "sortingSorts", unfollowed := true, recurses := true, named := ["geofence/mask.weights"], apart := false, laid := [("geofence/mask.weights", laid_geofence_mask_weights)], narrowed := true }
def SortingSortsUptoSaid : Prop := sortingSortsUptoRow.holds Tryd.pinned (OpenSpec.upto sortingSortsSpec)

/-- 'geofencelaw13.SortingEvents', WHERE WHAT IT READS IS OF BULK AT MOST 1048576: true; the input reads as it did. -/
def sortingEventsUptoRow : OpenClaim := { program := "ythdghhfdbckilaadoor", sum := "530b3ab39162670766f6d8a46c265031b7058ac59fec76696492768117d86986", func := "geofence/geofencelaw13.SortingEvents", spec := "sortingEvents", unfollowed := true, recurses := true, named := ["geofence/mask.weights"], apart := false, laid := [("geofence/mask.weights", laid_geofence_mask_weights)], narrowed := true }
def SortingEventsUptoSaid : Prop := sortingEventsUptoRow.holds Tryd.pinned (OpenSpec.upto sortingEventsSpec)

/-- 'geofencelaw13.SortingIsOblivious', WHERE WHAT IT READS IS OF BULK AT MOST 1048576: true; the input reads as it did. -/
def sortingIsObliviousUptoRow : OpenClaim := { program := "ythdghhfdbckilaadoor", sum := "530b3ab39162670766f6d8a46c265031b7058ac59fec76696492768117d86986", func := "geofence/geofencelaw13.SortingIsOblivious", spec := "sortingIsOblivious", unfollowed := true, recurses := true, named := ["geofence/mask.weights"], apart := false, laid := [("geofence/mask.weights", laid_geofence_mask_weights)], narrowed := true }
def SortingIsObliviousUptoSaid : Prop := sortingIsObliviousUptoRow.holds Tryd.pinned (OpenSpec.upto sortingIsObliviousSpec)

/-- 'geofencelaw13.SortingForgetsOrder', WHERE WHAT IT READS IS OF BULK AT MOST 1048576: true; the input reads as it did. -/
def sortingForgetsOrderUptoRow : OpenClaim := { program := "ythdghhfdbckilaadoor", sum := "530b3ab39162670766f6d8a46c265031b7058ac59fec76696492768117d86986", func := "geofence/geofencelaw13.SortingForgetsOrder", spec := "sortingForgetsOrder", unfollowed := true, recurses := true, named := ["geofence/mask.weights"], apart := false, laid := [("geofence/mask.weights", laid_geofence_mask_weights)], narrowed := true }
def SortingForgetsOrderUptoSaid : Prop := sortingForgetsOrderUptoRow.holds Tryd.pinned (OpenSpec.upto sortingForgetsOrderSpec)

/-- 'geofencelaw13.SortingLive', WHERE WHAT IT READS IS OF BULK AT MOST 1048576: true; the input reads as it did. -/
def sortingLiveUptoRow : OpenClaim := { program := "ythdghhfdbckilaadoor", sum := "530b3ab39162670766f6d8a46c265031b7058ac59fec76696492768117d86986", func := "geofence/geofencelaw13.SortingLive", spec := "sortingLive", unfollowed := true, recurses := true, named := ["geofence/mask.weights"], apart := false, laid := [("geofence/mask.weights", laid_geofence_mask_weights)], narrowed := true }
def SortingLiveUptoSaid : Prop := sortingLiveUptoRow.holds Tryd.pinned (OpenSpec.upto sortingLiveSpec)

end Rows
end Go.Proofs.YthdghhfdbckilaaDoor
