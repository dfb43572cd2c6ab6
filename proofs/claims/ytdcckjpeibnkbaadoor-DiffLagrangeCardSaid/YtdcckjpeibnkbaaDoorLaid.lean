/-
  What the condition on the listed table gives a walk, and that the door's own heap meets it.
-/
import Derived.Test.YtdcckjpeibnkbaaDoorMask
import Derived.LaidMore
import Derived.OpenShut
import Derived.Stop.Joined
import Derived.Lib.LaidTab
namespace Go.Proofs.YtdcckjpeibnkbaaDoor
open Go.ChangeShapes Go.WideShapes Go.ChangeAt Go.RowKit

theorem own : ownKnob Tryd.prog.godebug = none := by kernel_rfl
theorem laidOut : laidOutB Tryd.prog = true := by kernel_rfl
theorem gW : Tryd.prog.globalNamed "geofence/mask.weights" = some 0 := by kernel_rfl
theorem tW : (Tryd.prog.globals[0]?).map (·.type) = some 85 := by kernel_rfl
theorem cU : Tryd.prog.cellsOf 54 = 1 := by kernel_rfl
theorem cW : Tryd.prog.cellsOf 85 = 2 := by kernel_rfl
def laidW : List (String × DataW Unit) := [("geofence/mask.weights", Rows.laid_geofence_mask_weights)]
theorem door_met (os : Os) (args : Array Value) : laidMetH Tryd.prog laidW ((World.doorLaid Tryd.prog 14 os).forCall (fun _ _ => 0) ⟨#[], args, []⟩).memory :=
  laidMetH_of_parts3 (fuel := 8) (laidMet_of_run' 8 (by kernel_rfl) (by kernel_rfl)) (by kernel_rfl) (by kernel_rfl)
theorem wts_of_laid {W : World} (h : laidMetH Tryd.prog laidW W) : Wts W := by
  rw [MakeChecks.laidMetH_plain _ _ _ (by kernel_rfl)] at h
  have h' : laidMet Tryd.prog [("geofence/mask.weights", Lib.tabData .u64 [9223372036854775808, 18446744073709551615])] W := h
  have hT := Lib.tabIs_of_head gW tW Tryd.underlying85 Tryd.underlying54 cU cW h'
  exact ⟨hT.cell gW 0 (by decide), hT.cell gW 1 (by decide)⟩
theorem U_of_wf {a : Int} (h : (Lit.int .u64 a).wf = true) : U a := by
  have := bounds_u64 h; unfold U; omega
theorem S_of_wf {a : Int} (h : (Lit.int .i64 a).wf = true) : S a := by
  have := bounds_i64 h; unfold S; omega
theorem grown_of_drawn {w w' : World} (h : ∃ n, w' = w.drewN n) : Grown w w' := by
  obtain ⟨n, rfl⟩ := h
  exact (Grown.refl w : Grown w (w.drewN n))
end Go.Proofs.YtdcckjpeibnkbaaDoor
