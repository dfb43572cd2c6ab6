/-
  The examples' contract of layer 6 in the words of the laws.
-/
import Derived.Test.YtckhgamojpbcgaaDoorLaw6a
namespace Go.Proofs.YtckhgamojpbcgaaDoor
open Go.RowKit
set_option maxRecDepth 100000
set_option linter.unusedVariables false
set_option linter.unusedSimpArgs false

theorem mask_gt {x s : Int} {g : Gh} {w : World} (h : SignR x (.int .i64 s) g w) : (mk (decide (0 < x)) == mk (decide (0 < s))) = true := by
  obtain ⟨s', e, rfl⟩ := h
  injection e with _ e
  subst e
  rw [beq_iff_eq]
  congr 1
  rw [decide_eq_decide]
  exact Int.sign_pos_iff.symm
theorem mask_zero {x s : Int} {g : Gh} {w : World} (h : SignR x (.int .i64 s) g w) : (mk (decide (x = 0)) == mk (s == 0)) = true := by
  obtain ⟨s', e, rfl⟩ := h
  injection e with _ e
  subst e
  rw [beq_iff_eq]
  congr 1
  rw [Bool.eq_iff_iff, decide_eq_true_eq, beq_iff_eq, Int.sign_eq_zero_iff_zero]
theorem gRefMask {c : Ctx} {g : Gh} {w : World} (_hI : RInv c g w) (b : Bool) : Calls Tryd.prog 11 #[.bool b] w (Gives (fun v _ _ => v = .int .u64 (mk b)) g w) := by
  refine (refMask_any b w).mono ?_
  rintro e w' ⟨rfl, rfl⟩
  exact ⟨_, rfl, rfl, Below.refl _ _⟩
end Go.Proofs.YtckhgamojpbcgaaDoor
