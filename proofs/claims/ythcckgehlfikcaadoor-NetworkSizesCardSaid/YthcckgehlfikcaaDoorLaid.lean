/-
  What the conditions on the listed tables give a walk, and that the door's own heap meets them. (Written by gen_laid.py.)
-/
import Derived.Test.YthcckgehlfikcaaDoorWords
import Derived.Test.YthcckgehlfikcaaDoorRows
import Derived.LaidMore
import Derived.OpenShut
import Derived.Stop.Joined
import Derived.Lib.LaidTab
import Derived.Stop.LaidErr
namespace Go.Proofs.YthcckgehlfikcaaDoor
open Go.ChangeShapes Go.WideShapes Go.ChangeAt Go.RowKit

theorem own : ownKnob Tryd.prog.godebug = none := by kernel_rfl
theorem laidOut : laidOutB Tryd.prog = true := by kernel_rfl
theorem cU : Tryd.prog.cellsOf 38 = 1 := by kernel_rfl
def laidW : List (String × DataW Unit) := [("geofence/mask.weights", Rows.laid_geofence_mask_weights), ("math/bits.deBruijn32tab", Rows.laid_math_bits_deBruijn32tab), ("math/bits.deBruijn64tab", Rows.laid_math_bits_deBruijn64tab)]
theorem door_met (os : Os) (args : Array Value) : laidMetH Tryd.prog laidW ((World.doorLaid Tryd.prog 24 os).forCall (fun _ _ => 0) ⟨#[], args, []⟩).memory :=
  laidMetH_of_parts3 (fuel := 8) (laidMet_of_run' 8 (by kernel_rfl) (by kernel_rfl)) (by kernel_rfl) (by kernel_rfl)
theorem wts_of_laid {W : World} (h : laidMetH Tryd.prog laidW W) : Wts W := by
  rw [MakeChecks.laidMetH_plain _ _ _ (by kernel_rfl)] at h
  have h0 : laidMet Tryd.prog [("geofence/mask.weights", Lib.tabData .u64 [9223372036854775808, 18446744073709551615]), ("math/bits.deBruijn32tab", Lib.tabData .u8 [0, 1, 28, 2, 29, 14, 24, 3, 30, 22, 20, 15, 25, 17, 4, 8, 31, 27, 13, 23, 21, 19, 16, 7, 26, 12, 18, 6, 11, 5, 10, 9]), ("math/bits.deBruijn64tab", Lib.tabData .u8 [0, 1, 56, 2, 57, 49, 28, 3, 61, 58, 42, 50, 38, 29, 17, 4, 62, 47, 59, 36, 45, 43, 51, 22, 53, 39, 33, 30, 24, 18, 12, 5, 63, 55, 48, 27, 60, 41, 37, 16, 46, 35, 44, 21, 52, 32, 23, 11, 54, 26, 40, 15, 34, 20, 31, 10, 25, 14, 19, 9, 13, 8, 7, 6])] W := h
  have g0 : Tryd.prog.globalNamed "geofence/mask.weights" = some 0 := by kernel_rfl
  have T0 := Lib.tabIs_of_head g0 (t := 60) (by kernel_rfl) Tryd.underlying60 Tryd.underlying38 (by kernel_rfl) (by kernel_rfl) h0
  have h1 := laidMet.tail h0
  have g1 : Tryd.prog.globalNamed "math/bits.deBruijn32tab" = some 1 := by kernel_rfl
  have T1 := Lib.tabIs_of_head g1 (t := 61) (by kernel_rfl) Tryd.underlying61 Tryd.underlying5 (by kernel_rfl) (by kernel_rfl) h1
  have h2 := laidMet.tail h1
  have g2 : Tryd.prog.globalNamed "math/bits.deBruijn64tab" = some 2 := by kernel_rfl
  have T2 := Lib.tabIs_of_head g2 (t := 62) (by kernel_rfl) Tryd.underlying62 Tryd.underlying5 (by kernel_rfl) (by kernel_rfl) h2
  refine ⟨⟨T0.cell g0 0 (by decide), T0.cell g0 1 (by decide)⟩, ?_⟩
  intro p hp
  simp only [seatTabs, List.mem_cons, List.not_mem_nil, or_false] at hp
  rcases hp with rfl | rfl
  · intro i v hv
    match i, hv with
    | 0, hv => obtain rfl := Option.some.inj hv; exact T1.cell g1 0 (by decide)
    | 1, hv => obtain rfl := Option.some.inj hv; exact T1.cell g1 1 (by decide)
    | 2, hv => obtain rfl := Option.some.inj hv; exact T1.cell g1 2 (by decide)
    | 3, hv => obtain rfl := Option.some.inj hv; exact T1.cell g1 3 (by decide)
    | 4, hv => obtain rfl := Option.some.inj hv; exact T1.cell g1 4 (by decide)
    | 5, hv => obtain rfl := Option.some.inj hv; exact T1.cell g1 5 (by decide)
    | 6, hv => obtain rfl := Option.some.inj hv; exact T1.cell g1 6 (by decide)
    | 7, hv => obtain rfl := Option.some.inj hv; exact T1.cell g1 7 (by decide)
    | 8, hv => obtain rfl := Option.some.inj hv; exact T1.cell g1 8 (by decide)
    | 9, hv => obtain rfl := Option.some.inj hv; exact T1.cell g1 9 (by decide)
    | 10, hv => obtain rfl := Option.some.inj hv; exact T1.cell g1 10 (by decide)
    | 11, hv => obtain rfl := Option.some.inj hv; exact T1.cell g1 11 (by decide)
    | 12, hv => obtain rfl := Option.some.inj hv; exact T1.cell g1 12 (by decide)
    | 13, hv => obtain rfl := Option.some.inj hv; exact T1.cell g1 13 (by decide)
    | 14, hv => obtain rfl := Option.some.inj hv; exact T1.cell g1 14 (by decide)
    | 15, hv => obtain rfl := Option.some.inj hv; exact T1.cell g1 15 (by decide)
    | 16, hv => obtain rfl := Option.some.inj hv; exact T1.cell g1 16 (by decide)
    | 17, hv => obtain rfl := Option.some.inj hv; exact T1.cell g1 17 (by decide)
    | 18, hv => obtain rfl := Option.some.inj hv; exact T1.cell g1 18 (by decide)
    | 19, hv => obtain rfl := Option.some.inj hv; exact T1.cell g1 19 (by decide)
    | 20, hv => obtain rfl := Option.some.inj hv; exact T1.cell g1 20 (by decide)
    | 21, hv => obtain rfl := Option.some.inj hv; exact T1.cell g1 21 (by decide)
    | 22, hv => obtain rfl := Option.some.inj hv; exact T1.cell g1 22 (by decide)
    | 23, hv => obtain rfl := Option.some.inj hv; exact T1.cell g1 23 (by decide)
    | 24, hv => obtain rfl := Option.some.inj hv; exact T1.cell g1 24 (by decide)
    | 25, hv => obtain rfl := Option.some.inj hv; exact T1.cell g1 25 (by decide)
    | 26, hv => obtain rfl := Option.some.inj hv; exact T1.cell g1 26 (by decide)
    | 27, hv => obtain rfl := Option.some.inj hv; exact T1.cell g1 27 (by decide)
    | 28, hv => obtain rfl := Option.some.inj hv; exact T1.cell g1 28 (by decide)
    | 29, hv => obtain rfl := Option.some.inj hv; exact T1.cell g1 29 (by decide)
    | 30, hv => obtain rfl := Option.some.inj hv; exact T1.cell g1 30 (by decide)
    | 31, hv => obtain rfl := Option.some.inj hv; exact T1.cell g1 31 (by decide)
    | n + 32, hv => exact absurd hv (by simp)
  · intro i v hv
    match i, hv with
    | 0, hv => obtain rfl := Option.some.inj hv; exact T2.cell g2 0 (by decide)
    | 1, hv => obtain rfl := Option.some.inj hv; exact T2.cell g2 1 (by decide)
    | 2, hv => obtain rfl := Option.some.inj hv; exact T2.cell g2 2 (by decide)
    | 3, hv => obtain rfl := Option.some.inj hv; exact T2.cell g2 3 (by decide)
    | 4, hv => obtain rfl := Option.some.inj hv; exact T2.cell g2 4 (by decide)
    | 5, hv => obtain rfl := Option.some.inj hv; exact T2.cell g2 5 (by decide)
    | 6, hv => obtain rfl := Option.some.inj hv; exact T2.cell g2 6 (by decide)
    | 7, hv => obtain rfl := Option.some.inj hv; exact T2.cell g2 7 (by decide)
    | 8, hv => obtain rfl := Option.some.inj hv; exact T2.cell g2 8 (by decide)
    | 9, hv => obtain rfl := Option.some.inj hv; exact T2.cell g2 9 (by decide)
    | 10, hv => obtain rfl := Option.some.inj hv; exact T2.cell g2 10 (by decide)
    | 11, hv => obtain rfl := Option.some.inj hv; exact T2.cell g2 11 (by decide)
    | 12, hv => obtain rfl := Option.some.inj hv; exact T2.cell g2 12 (by decide)
    | 13, hv => obtain rfl := Option.some.inj hv; exact T2.cell g2 13 (by decide)
    | 14, hv => obtain rfl := Option.some.inj hv; exact T2.cell g2 14 (by decide)
    | 15, hv => obtain rfl := Option.some.inj hv; exact T2.cell g2 15 (by decide)
    | 16, hv => obtain rfl := Option.some.inj hv; exact T2.cell g2 16 (by decide)
    | 17, hv => obtain rfl := Option.some.inj hv; exact T2.cell g2 17 (by decide)
    | 18, hv => obtain rfl := Option.some.inj hv; exact T2.cell g2 18 (by decide)
    | 19, hv => obtain rfl := Option.some.inj hv; exact T2.cell g2 19 (by decide)
    | 20, hv => obtain rfl := Option.some.inj hv; exact T2.cell g2 20 (by decide)
    | 21, hv => obtain rfl := Option.some.inj hv; exact T2.cell g2 21 (by decide)
    | 22, hv => obtain rfl := Option.some.inj hv; exact T2.cell g2 22 (by decide)
    | 23, hv => obtain rfl := Option.some.inj hv; exact T2.cell g2 23 (by decide)
    | 24, hv => obtain rfl := Option.some.inj hv; exact T2.cell g2 24 (by decide)
    | 25, hv => obtain rfl := Option.some.inj hv; exact T2.cell g2 25 (by decide)
    | 26, hv => obtain rfl := Option.some.inj hv; exact T2.cell g2 26 (by decide)
    | 27, hv => obtain rfl := Option.some.inj hv; exact T2.cell g2 27 (by decide)
    | 28, hv => obtain rfl := Option.some.inj hv; exact T2.cell g2 28 (by decide)
    | 29, hv => obtain rfl := Option.some.inj hv; exact T2.cell g2 29 (by decide)
    | 30, hv => obtain rfl := Option.some.inj hv; exact T2.cell g2 30 (by decide)
    | 31, hv => obtain rfl := Option.some.inj hv; exact T2.cell g2 31 (by decide)
    | 32, hv => obtain rfl := Option.some.inj hv; exact T2.cell g2 32 (by decide)
    | 33, hv => obtain rfl := Option.some.inj hv; exact T2.cell g2 33 (by decide)
    | 34, hv => obtain rfl := Option.some.inj hv; exact T2.cell g2 34 (by decide)
    | 35, hv => obtain rfl := Option.some.inj hv; exact T2.cell g2 35 (by decide)
    | 36, hv => obtain rfl := Option.some.inj hv; exact T2.cell g2 36 (by decide)
    | 37, hv => obtain rfl := Option.some.inj hv; exact T2.cell g2 37 (by decide)
    | 38, hv => obtain rfl := Option.some.inj hv; exact T2.cell g2 38 (by decide)
    | 39, hv => obtain rfl := Option.some.inj hv; exact T2.cell g2 39 (by decide)
    | 40, hv => obtain rfl := Option.some.inj hv; exact T2.cell g2 40 (by decide)
    | 41, hv => obtain rfl := Option.some.inj hv; exact T2.cell g2 41 (by decide)
    | 42, hv => obtain rfl := Option.some.inj hv; exact T2.cell g2 42 (by decide)
    | 43, hv => obtain rfl := Option.some.inj hv; exact T2.cell g2 43 (by decide)
    | 44, hv => obtain rfl := Option.some.inj hv; exact T2.cell g2 44 (by decide)
    | 45, hv => obtain rfl := Option.some.inj hv; exact T2.cell g2 45 (by decide)
    | 46, hv => obtain rfl := Option.some.inj hv; exact T2.cell g2 46 (by decide)
    | 47, hv => obtain rfl := Option.some.inj hv; exact T2.cell g2 47 (by decide)
    | 48, hv => obtain rfl := Option.some.inj hv; exact T2.cell g2 48 (by decide)
    | 49, hv => obtain rfl := Option.some.inj hv; exact T2.cell g2 49 (by decide)
    | 50, hv => obtain rfl := Option.some.inj hv; exact T2.cell g2 50 (by decide)
    | 51, hv => obtain rfl := Option.some.inj hv; exact T2.cell g2 51 (by decide)
    | 52, hv => obtain rfl := Option.some.inj hv; exact T2.cell g2 52 (by decide)
    | 53, hv => obtain rfl := Option.some.inj hv; exact T2.cell g2 53 (by decide)
    | 54, hv => obtain rfl := Option.some.inj hv; exact T2.cell g2 54 (by decide)
    | 55, hv => obtain rfl := Option.some.inj hv; exact T2.cell g2 55 (by decide)
    | 56, hv => obtain rfl := Option.some.inj hv; exact T2.cell g2 56 (by decide)
    | 57, hv => obtain rfl := Option.some.inj hv; exact T2.cell g2 57 (by decide)
    | 58, hv => obtain rfl := Option.some.inj hv; exact T2.cell g2 58 (by decide)
    | 59, hv => obtain rfl := Option.some.inj hv; exact T2.cell g2 59 (by decide)
    | 60, hv => obtain rfl := Option.some.inj hv; exact T2.cell g2 60 (by decide)
    | 61, hv => obtain rfl := Option.some.inj hv; exact T2.cell g2 61 (by decide)
    | 62, hv => obtain rfl := Option.some.inj hv; exact T2.cell g2 62 (by decide)
    | 63, hv => obtain rfl := Option.some.inj hv; exact T2.cell g2 63 (by decide)
    | n + 64, hv => exact absurd hv (by simp)
theorem U_of_wf {a : Int} (h : (Lit.int .u64 a).wf = true) : U a := by
  have := bounds_u64 h; unfold U; omega
theorem S_of_wf {a : Int} (h : (Lit.int .i64 a).wf = true) : S a := by
  have := bounds_i64 h; unfold S; omega
theorem u8_of_wf {a : Int} (h : (Lit.int .u8 a).wf = true) : 0 ≤ a ∧ a < 256 := by
  simp [Lit.wf, IntKind.min, IntKind.max, IntKind.signed, IntKind.bits] at h
  omega
theorem u32_of_wf {a : Int} (h : (Lit.int .u32 a).wf = true) : 0 ≤ a ∧ a < 4294967296 := by
  simp [Lit.wf, IntKind.min, IntKind.max, IntKind.signed, IntKind.bits] at h
  omega
theorem grown_of_drawn {w w' : World} (h : ∃ n, w' = w.drewN n) : Grown w w' := by
  obtain ⟨n, rfl⟩ := h
  exact (Grown.refl w : Grown w (w.drewN n))
end Go.Proofs.YthcckgehlfikcaaDoor
