/-
  What the conditions on the listed tables give a walk, and that the door's own heap meets them. (Written by gen_laid.py.)
-/
import Derived.Test.YtokabljeekokmaaDoorWords
import Derived.Test.YtokabljeekokmaaDoorRows
import Derived.Test.YtokabljeekokmaaDoorWf
import Derived.Test.YtokabljeekokmaaDoorTabs
import Derived.LaidMore
import Derived.OpenShut
import Derived.Stop.Joined
import Derived.Lib.LaidTab
import Derived.Stop.LaidErr
namespace Go.Proofs.YtokabljeekokmaaDoor
open Go.ChangeShapes Go.WideShapes Go.ChangeAt Go.RowKit

theorem own : ownKnob Tryd.prog.godebug = none := by kernel_rfl
theorem laidOut : laidOutB Tryd.prog = true := by kernel_rfl
def laidW : List (String × DataW Unit) := [("geofence/header.lengths", Rows.laid_geofence_header_lengths)]
theorem door_met (os : Os) (args : Array Value) : laidMetH Tryd.prog laidW ((World.doorLaid Tryd.prog 19 os).forCall (fun _ _ => 0) ⟨#[], args, []⟩).memory :=
  laidMetH_of_parts3 (fuel := 8) (laidMet_of_run' 8 (by kernel_rfl) (by kernel_rfl)) (by kernel_rfl) (by kernel_rfl)
theorem wts_of_laid {W : World} (h : laidMetH Tryd.prog laidW W) : Wts W := by
  rw [MakeChecks.laidMetH_plain _ _ _ (by kernel_rfl)] at h
  have h0 : laidMet Tryd.prog [("geofence/header.lengths", .agg [.agg [.lit (.int .i64 0), .lit (.int .i64 0)], .agg [.lit (.int .i64 3), .lit (.int .i64 2)], .agg [.lit (.int .i64 4), .lit (.int .i64 2)], .agg [.lit (.int .i64 1), .lit (.int .i64 2)], .agg [.lit (.int .i64 1), .lit (.int .i64 2)], .agg [.lit (.int .i64 0), .lit (.int .i64 4)]])] W := h
  have g0 : Tryd.prog.globalNamed "geofence/header.lengths" = some 0 := by kernel_rfl
  have T0 := flat_of_head (n := 6) (fuel := 6) (t := 58) (p0 := []) (cs0 := [.int .i64 0, .int .i64 0, .int .i64 3, .int .i64 2, .int .i64 4, .int .i64 2, .int .i64 1, .int .i64 2, .int .i64 1, .int .i64 2, .int .i64 0, .int .i64 4]) g0 (by kernel_rfl) (by kernel_rfl) (by kernel_rfl) h0
  refine ⟨trivial, ?_⟩
  intro p hp
  simp only [seatTabs, List.mem_cons, List.not_mem_nil, or_false] at hp
  rcases hp with rfl
  · intro i v hv
    have hh := World.var?_cell g0 T0 i
    rw [hh]
    exact (List.getElem?_toArray ..).trans hv
theorem grown_of_drawn {w w' : World} (h : ∃ n, w' = w.drewN n) : Grown w w' := by
  obtain ⟨n, rfl⟩ := h
  exact (Grown.refl w : Grown w (w.drewN n))
end Go.Proofs.YtokabljeekokmaaDoor
