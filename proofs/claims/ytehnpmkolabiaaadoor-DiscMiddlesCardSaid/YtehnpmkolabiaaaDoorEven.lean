/-
  Even coordinates: x &^ 1 and x / 2. No program is named here.
-/
import Derived.Test.YtehnpmkolabiaaaDoorBase
namespace Go.Proofs.YtehnpmkolabiaaaDoor
open Go.RowKit
set_option maxRecDepth 100000
set_option linter.unusedVariables false
set_option linter.unusedSimpArgs false

theorem clear1_w (b : BitVec 64) : b &&& ~~~(1#64) = (b >>> 1) <<< 1 := by
  apply BitVec.eq_of_getLsbD_eq
  intro i hi
  rw [BitVec.getLsbD_and, BitVec.getLsbD_not, BitVec.getLsbD_shiftLeft, BitVec.getLsbD_ushiftRight]
  by_cases h0 : i = 0
  · subst h0; simp
  · have h1 : (1#64).getLsbD i = false := by rw [BitVec.getLsbD_one]; simp; omega
    rw [h1, show 1 + (i - 1) = i by omega]
    simp [hi]; omega
theorem clear1_nat (b : BitVec 64) : (b &&& ~~~(1#64)).toNat = b.toNat / 2 * 2 := by
  rw [clear1_w, BitVec.toNat_shiftLeft, BitVec.toNat_ushiftRight, Nat.shiftRight_eq_div_pow, Nat.shiftLeft_eq]
  have := b.isLt
  rw [Nat.mod_eq_of_lt (by omega)]
theorem andNot1 {x : Int} (h : S x) : bits .andNot .i64 x 1 = x - x % 2 := by
  show IntKind.i64.wrap (((BitVec.ofInt 64 x) &&& ~~~(BitVec.ofInt 64 1)).toNat : Int) = _
  rw [show BitVec.ofInt 64 1 = 1#64 from rfl, clear1_nat, wrap_s]
  have h1 : ((BitVec.ofInt 64 x).toNat : Int) = x % 18446744073709551616 := by
    rw [BitVec.toNat_ofInt, Int.toNat_of_nonneg (Int.emod_nonneg _ (by decide))]
    rfl
  unfold S at h
  push_cast
  rw [h1]
  omega
theorem half_even {x h : Int} (e : x = 2 * h) : x.tdiv 2 = h := by rw [e, Int.mul_tdiv_cancel_left _ (by decide)]
theorem even_sub (x : Int) : ∃ h, x - x % 2 = 2 * h := ⟨x / 2, by omega⟩
theorem even_S {x : Int} (h : S x) : S (x - x % 2) := by unfold S at *; omega
end Go.Proofs.YtehnpmkolabiaaaDoor
