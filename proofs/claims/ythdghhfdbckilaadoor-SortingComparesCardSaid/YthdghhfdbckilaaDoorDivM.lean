/-
  Plain mathematics: a number of two words divided by one word, half word by half word. No program is named here.
-/
import Derived.Test.YthdghhfdbckilaaDoorBase
namespace Go.Proofs.YthdghhfdbckilaaDoor
open Go

/-- How many bits a number has. -/
def bl (n : Nat) : Nat := if n = 0 then 0 else Nat.log2 n + 1
theorem bl_zero : bl 0 = 0 := rfl
theorem bl_bd {n : Nat} (h : 0 < n) : 2 ^ (bl n - 1) ≤ n ∧ n < 2 ^ bl n := by
  unfold bl
  rw [if_neg (by omega)]
  exact ⟨Nat.log2_self_le (by omega), Nat.lt_log2_self⟩
theorem bl_uniq {n k : Nat} (h0 : 2 ^ k ≤ n) (h1 : n < 2 ^ (k + 1)) : bl n = k + 1 := by
  have hp : 0 < n := Nat.lt_of_lt_of_le (Nat.two_pow_pos k) h0
  unfold bl
  rw [if_neg (by omega)]
  congr 1
  exact (Nat.log2_eq_iff (by omega)).2 ⟨h0, h1⟩
theorem bl_shift {n s : Nat} (h : 2 ^ s ≤ n) : bl n = bl (n / 2 ^ s) + s := by
  have hq : 0 < n / 2 ^ s := Nat.div_pos h (Nat.two_pow_pos s)
  have hb := bl_bd hq
  have hb0 : 0 < bl (n / 2 ^ s) := by unfold bl; rw [if_neg (by omega)]; omega
  have e : bl (n / 2 ^ s) + s = (bl (n / 2 ^ s) - 1 + s) + 1 := by omega
  rw [e]
  refine bl_uniq ?_ ?_
  · rw [Nat.pow_add]
    exact (Nat.le_div_iff_mul_le (Nat.two_pow_pos s)).1 hb.1
  · rw [show bl (n / 2 ^ s) - 1 + s + 1 = bl (n / 2 ^ s) + s by omega, Nat.pow_add]
    exact (Nat.div_lt_iff_lt_mul (Nat.two_pow_pos s)).1 hb.2
/-- The step of the quotient: whether the digit is too great. -/
theorem qd_iff {v w1 y y1 y0 q rh : Int} (hy : y = y1 * 4294967296 + y0) (hv : v < y) (hw : w1 < 4294967296) (hy0 : 0 ≤ y) (hr : rh = v - q * y1) :
    (4294967296 ≤ q ∨ 4294967296 * rh + w1 < q * y0) ↔ v * 4294967296 + w1 < q * y := by
  have e : q * y = q * y1 * 4294967296 + q * y0 := by rw [hy, Int.mul_add, Int.mul_assoc]
  constructor
  · rintro (h | h)
    · have := Int.mul_le_mul_of_nonneg_right h hy0
      omega
    · rw [e]; omega
  · intro h
    rw [e] at h
    right
    omega
theorem qd_break {v w1 y y1 y0 q rh : Int} (hy : y = y1 * 4294967296 + y0) (hy0 : 0 ≤ y0) (hy1 : y0 < 4294967296) (hw : 0 ≤ w1) (hr : rh = v - q * y1) (hq : q ≤ 4294967296) (_hq0 : 0 ≤ q) (hb : 4294967296 ≤ rh) : q * y ≤ v * 4294967296 + w1 := by
  have e : q * y = q * y1 * 4294967296 + q * y0 := by rw [hy, Int.mul_add, Int.mul_assoc]
  have h1 : q * y0 ≤ 4294967296 * 4294967295 := Int.mul_le_mul hq (by omega) hy0 (by decide)
  rw [e]; omega
theorem qd_top {v y y1 y0 : Int} (hy : y = y1 * 4294967296 + y0) (hy1 : 2147483648 ≤ y1) (hy0 : y0 < 4294967296) (hv : v < y) : v / y1 ≤ 4294967297 := by
  have := Int.ediv_lt_of_lt_mul (a := v) (b := 4294967298) (c := y1) (by omega) (by omega)
  omega
theorem qd_low {v w1 y y1 y0 : Int} (hy : y = y1 * 4294967296 + y0) (hy0 : 0 ≤ y0) (hy1 : 0 < y1) (hw0 : 0 ≤ w1) (hw : w1 < 4294967296) (hv : 0 ≤ v) : (v * 4294967296 + w1) / y ≤ v / y1 := by
  have hyp : 0 < y := by omega
  have h1 := Int.ediv_mul_le (v * 4294967296 + w1) (show y ≠ 0 by omega)
  have h0 : 0 ≤ (v * 4294967296 + w1) / y := Int.ediv_nonneg (by omega) (by omega)
  refine (Int.le_ediv_iff_mul_le hy1).2 ?_
  generalize (v * 4294967296 + w1) / y = q at h1 h0
  have e : q * y = q * y1 * 4294967296 + q * y0 := by rw [hy, Int.mul_add, Int.mul_assoc]
  have h2 : 0 ≤ q * y0 := Int.mul_nonneg h0 hy0
  omega
theorem qd_less {U q y : Int} (hy : 0 < y) (h : U < q * y) : U / y ≤ q - 1 := by
  have := Int.ediv_lt_of_lt_mul hy h
  omega
theorem qd_done {U q y : Int} (hy : 0 < y) (h1 : U / y ≤ q) (h2 : q * y ≤ U) : q = U / y := by
  have := (Int.le_ediv_iff_mul_le hy).2 h2
  omega
theorem mod_word {U y q : Int} (hU : q = U / y) (hy : 0 < y) (hy1 : y ≤ 18446744073709551616) : (U - q * y) % 18446744073709551616 = U % y := by
  have h := Int.emod_add_mul_ediv U y
  have h1 := Int.emod_nonneg U (show y ≠ 0 by omega)
  have h2 := Int.emod_lt_of_pos U hy
  rw [hU]
  have e : U - U / y * y = U % y := by rw [Int.mul_comm]; omega
  rw [e]
  exact Int.emod_eq_of_lt h1 (by omega)
/-- The whole: quotient and remainder. -/
theorem div_whole {V Y p v w1 w0 q1 r1 q0 r0 y : Int} (hV : V * p = v * 18446744073709551616 + (w1 * 4294967296 + w0)) (hY : Y = y * p) (hy : 0 < y) (hp : 0 < p)
    (h1 : q1 = (v * 4294967296 + w1) / Y) (h2 : r1 = (v * 4294967296 + w1) % Y) (h3 : q0 = (r1 * 4294967296 + w0) / Y) (h4 : r0 = (r1 * 4294967296 + w0) % Y) :
    q1 * 4294967296 + q0 = V / y ∧ r0 / p = V % y := by
  have hYp : 0 < Y := by rw [hY]; exact Int.mul_pos hy hp
  have e1 := Int.emod_add_mul_ediv (v * 4294967296 + w1) Y
  have e2 := Int.emod_add_mul_ediv (r1 * 4294967296 + w0) Y
  rw [← h1, ← h2] at e1
  rw [← h3, ← h4] at e2
  have r0n : 0 ≤ r0 := by rw [h4]; exact Int.emod_nonneg _ (by omega)
  have r0l : r0 < Y := by rw [h4]; exact Int.emod_lt_of_pos _ hYp
  have e3 : V * p = r0 + Y * (q1 * 4294967296 + q0) := by
    rw [hV, Int.mul_add, ← Int.mul_assoc]
    omega
  have q : q1 * 4294967296 + q0 = V / y := by
    have h5 : (V * p) / (y * p) = V / y := Int.mul_ediv_mul_of_pos_left _ _ hp
    rw [← h5, ← hY, e3, Int.add_mul_ediv_left _ _ (by omega), Int.ediv_eq_zero_of_lt r0n r0l]; omega
  refine ⟨q, ?_⟩
  have h6 : (V * p) % (y * p) = (V % y) * p := by rw [Int.mul_comm V, Int.mul_comm y, Int.mul_emod_mul_of_pos _ _ hp, Int.mul_comm]
  have h7 : r0 = (V % y) * p := by
    rw [← h6, ← hY, e3, Int.add_mul_emod_self_left]
    exact (Int.emod_eq_of_lt r0n r0l).symm
  rw [h7, Int.mul_ediv_cancel _ (by omega)]
end Go.Proofs.YthdghhfdbckilaaDoor
