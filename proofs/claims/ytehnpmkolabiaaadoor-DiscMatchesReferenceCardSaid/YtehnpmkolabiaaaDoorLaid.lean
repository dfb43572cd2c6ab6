/-
  What the conditions on the listed tables give a walk, and that the door's own heap meets them. (Written by gen_laid.py.)
-/
import Derived.Test.YtehnpmkolabiaaaDoorWords
import Derived.Test.YtehnpmkolabiaaaDoorRows
import Derived.Test.YtehnpmkolabiaaaDoorWf
import Derived.LaidMore
import Derived.OpenShut
import Derived.Stop.Joined
import Derived.Lib.LaidTab
import Derived.Stop.LaidErr
namespace Go.Proofs.YtehnpmkolabiaaaDoor
open Go.ChangeShapes Go.WideShapes Go.ChangeAt Go.RowKit

theorem own : ownKnob Tryd.prog.godebug = none := by kernel_rfl
theorem laidOut : laidOutB Tryd.prog = true := by kernel_rfl
theorem cU : Tryd.prog.cellsOf 26 = 1 := by kernel_rfl
def laidW : List (String × DataW Unit) := [("geofence/mask.weights", Rows.laid_geofence_mask_weights), ("geofence/orient.wanted", Rows.laid_geofence_orient_wanted)]
theorem door_met (os : Os) (args : Array Value) : laidMetH Tryd.prog laidW ((World.doorLaid Tryd.prog 19 os).forCall (fun _ _ => 0) ⟨#[], args, []⟩).memory :=
  laidMetH_of_parts3 (fuel := 8) (laidMet_of_run' 8 (by kernel_rfl) (by kernel_rfl)) (by kernel_rfl) (by kernel_rfl)
theorem wts_of_laid {W : World} (h : laidMetH Tryd.prog laidW W) : Wts W := by
  rw [MakeChecks.laidMetH_plain _ _ _ (by kernel_rfl)] at h
  have h0 : laidMet Tryd.prog [("geofence/mask.weights", Lib.tabData .u64 [9223372036854775808, 18446744073709551615]), ("geofence/orient.wanted", Lib.tabData .i64 [1, 0])] W := h
  have g0 : Tryd.prog.globalNamed "geofence/mask.weights" = some 1 := by kernel_rfl
  have T0 := Lib.tabIs_of_head g0 (t := 108) (by kernel_rfl) Tryd.underlying108 Tryd.underlying26 (by kernel_rfl) (by kernel_rfl) h0
  have h1 := laidMet.tail h0
  have g1 : Tryd.prog.globalNamed "geofence/orient.wanted" = some 0 := by kernel_rfl
  have T1 := Lib.tabIs_of_head g1 (t := 59) (by kernel_rfl) Tryd.underlying59 Tryd.underlying2 (by kernel_rfl) (by kernel_rfl) h1
  refine ⟨⟨T0.cell g0 0 (by decide), T0.cell g0 1 (by decide)⟩, ?_⟩
  intro p hp
  simp only [seatTabs, List.mem_cons, List.not_mem_nil, or_false] at hp
  rcases hp with rfl
  · intro i v hv
    match i, hv with
    | 0, hv => obtain rfl := Option.some.inj hv; exact T1.cell g1 0 (by decide)
    | 1, hv => obtain rfl := Option.some.inj hv; exact T1.cell g1 1 (by decide)
    | n + 2, hv => exact absurd hv (by simp)
theorem grown_of_drawn {w w' : World} (h : ∃ n, w' = w.drewN n) : Grown w w' := by
  obtain ⟨n, rfl⟩ := h
  exact (Grown.refl w : Grown w (w.drewN n))
end Go.Proofs.YtehnpmkolabiaaaDoor
