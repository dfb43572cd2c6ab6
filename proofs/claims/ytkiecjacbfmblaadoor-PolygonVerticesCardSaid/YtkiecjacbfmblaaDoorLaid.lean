/-
  What the conditions on the listed tables give a walk, and that the door's own heap meets them. (Written by gen_laid.py.)
-/
import Derived.Test.YtkiecjacbfmblaaDoorWords
import Derived.Test.YtkiecjacbfmblaaDoorRows
import Derived.LaidMore
import Derived.OpenShut
import Derived.Stop.Joined
import Derived.Lib.LaidTab
import Derived.Stop.LaidErr
namespace Go.Proofs.YtkiecjacbfmblaaDoor
open Go.ChangeShapes Go.WideShapes Go.ChangeAt Go.RowKit

theorem own : ownKnob Tryd.prog.godebug = none := by kernel_rfl
theorem laidOut : laidOutB Tryd.prog = true := by kernel_rfl
theorem cU : Tryd.prog.cellsOf 24 = 1 := by kernel_rfl
def laidW : List (String × DataW Unit) := [("geofence/mask.weights", Rows.laid_geofence_mask_weights)]
theorem door_met (os : Os) (args : Array Value) : laidMetH Tryd.prog laidW ((World.doorLaid Tryd.prog 14 os).forCall (fun _ _ => 0) ⟨#[], args, []⟩).memory :=
  laidMetH_of_parts3 (fuel := 8) (laidMet_of_run' 8 (by kernel_rfl) (by kernel_rfl)) (by kernel_rfl) (by kernel_rfl)
theorem wts_of_laid {W : World} (h : laidMetH Tryd.prog laidW W) : Wts W := by
  rw [MakeChecks.laidMetH_plain _ _ _ (by kernel_rfl)] at h
  have h0 : laidMet Tryd.prog [("geofence/mask.weights", Lib.tabData .u64 [9223372036854775808, 18446744073709551615])] W := h
  have g0 : Tryd.prog.globalNamed "geofence/mask.weights" = some 0 := by kernel_rfl
  have T0 := Lib.tabIs_of_head g0 (t := 89) (by kernel_rfl) Tryd.underlying89 Tryd.underlying24 (by kernel_rfl) (by kernel_rfl) h0
  refine ⟨⟨T0.cell g0 0 (by decide), T0.cell g0 1 (by decide)⟩, ?_⟩
  intro p hp
  exact absurd hp (by simp [seatTabs])
theorem U_of_wf {a : Int} (h : (Lit.int .u64 a).wf = true) : U a := by
  have := bounds_u64 h; unfold U; omega
theorem S_of_wf {a : Int} (h : (Lit.int .i64 a).wf = true) : S a := by
  have := bounds_i64 h; unfold S; omega
theorem u8_of_wf {a : Int} (h : (Lit.int .u8 a).wf = true) : 0 ≤ a ∧ a < 256 := by
  simp [Lit.wf, IntKind.min, IntKind.max, IntKind.signed, IntKind.bits] at h
  omega
theorem u32_of_wf {a : Int} (h : (Lit.int .u32 a).wf = true) : 0 ≤ a ∧ a < 4294967296 := by
  simp [Lit.wf, IntKind.min, IntKind.max, IntKind.signed, IntKind.bits] at h
  omega
theorem grown_of_drawn {w w' : World} (h : ∃ n, w' = w.drewN n) : Grown w w' := by
  obtain ⟨n, rfl⟩ := h
  exact (Grown.refl w : Grown w (w.drewN n))
end Go.Proofs.YtkiecjacbfmblaaDoor
