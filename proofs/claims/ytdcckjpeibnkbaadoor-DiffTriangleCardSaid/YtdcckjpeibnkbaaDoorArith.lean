/-
  Plain mathematics: sums, differences and products of 64-bit words as two words. No program is named here.
-/
import Derived.Test.YtdcckjpeibnkbaaDoorBits
import Derived.Lib.Mul64
import Derived.Laws.MathBits
namespace Go.Proofs.YtdcckjpeibnkbaaDoor
open Go

/-- The lower word of a number. -/
def lo (n : Int) : Int := n % 18446744073709551616
/-- What is above the lower word. -/
def hi (n : Int) : Int := n / 18446744073709551616
/-- The borrow of a difference. -/
def bo (n : Int) : Int := 0 - n / 18446744073709551616
theorem U_lo (n : Int) : U (lo n) := by unfold U lo; omega
theorem lo_lt (n : Int) : lo n < 18446744073709551616 := by unfold lo; omega
theorem lo_nonneg (n : Int) : 0 ≤ lo n := by unfold lo; omega
theorem lo_le (n : Int) : lo n ≤ 18446744073709551615 := by unfold lo; omega
theorem lo_U {n : Int} (h : U n) : lo n = n := by unfold U at h; unfold lo; omega
theorem wrap_lo (n : Int) : IntKind.u64.wrap n = lo n := wrap_u n
theorem lo_hi (n : Int) : lo n + hi n * 18446744073709551616 = n := by unfold lo hi; omega
theorem mod2 (c : Int) : 0 ≤ c % 2 ∧ c % 2 ≤ 1 := by omega
theorem hi_sum {a b c : Int} (ha : U a) (hb : U b) (h0 : 0 ≤ c) (h1 : c ≤ 1) : 0 ≤ hi (a + b + c) ∧ hi (a + b + c) ≤ 1 := by unfold U at *; unfold hi; omega
theorem bo_diff {a b c : Int} (ha : U a) (hb : U b) (h0 : 0 ≤ c) (h1 : c ≤ 1) : 0 ≤ bo (a - b - c) ∧ bo (a - b - c) ≤ 1 := by unfold U at *; unfold bo; omega
theorem bo_iff {a b c : Int} (ha : U a) (hb : U b) (h0 : 0 ≤ c) (h1 : c ≤ 1) : bo (a - b - c) = if a < b + c then 1 else 0 := by unfold U at *; unfold bo; split <;> omega
theorem prod_le {a b : Int} (ha : U a) (hb : U b) : 0 ≤ a * b ∧ a * b ≤ 340282366920938463426481119284349108225 := by
  unfold U at *
  refine ⟨Int.mul_nonneg ha.1 hb.1, ?_⟩
  have h1 : a * b ≤ 18446744073709551615 * b := Int.mul_le_mul_of_nonneg_right ha.2 hb.1
  omega
theorem U_hi_prod {a b : Int} (ha : U a) (hb : U b) : U (hi (a * b)) := by
  have := prod_le ha hb; unfold U hi; omega
theorem U_hi_mulAdd {a b c d : Int} (ha : U a) (hb : U b) (hc : U c) (hd : U d) : U (hi (a * b + c + d)) := by
  have := prod_le ha hb; unfold U at *; unfold hi; omega
/-- MulAdd's steps. -/
theorem mulAdd_lo (p c d : Int) : lo (lo (lo p + c) + d) = lo (p + c + d) := by unfold lo; omega
theorem mulAdd_hi {p c d : Int} (h0 : 0 ≤ p) (h1 : p ≤ 340282366920938463426481119284349108225) (hc : U c) (hd : U d) :
    lo (lo (hi p + hi (lo p + c)) + hi (lo (lo p + c) + d)) = hi (p + c + d) := by unfold U at *; unfold lo hi; omega
/-- What the deferred function takes off the higher word. -/
def msub (x a b : Int) : Int := IntKind.u64.wrap (x - bits .and .u64 (mk (decide (9223372036854775808 ≤ IntKind.u64.wrap a))) (IntKind.u64.wrap b))
theorem and_mk {v : Int} (h : U v) (c : Bool) : bits .and .u64 (mk c) v = if c then v else 0 := by
  obtain ⟨x, rfl⟩ := U_word h
  cases c
  · rw [mk_false_w, and_w, BitVec.zero_and]; rfl
  · rw [mk_true_w, and_w, BitVec.allOnes_and]; rfl
theorem mul_add_left (a b k : Int) : (a + k) * b = a * b + k * b := Int.add_mul a k b
theorem neg_wrap {a : Int} (h : S a) (h0 : a < 0) : IntKind.u64.wrap a = a + 18446744073709551616 := by rw [wrap_u]; unfold S at h; omega
theorem nonneg_wrap {a : Int} (h : S a) (h0 : 0 ≤ a) : IntKind.u64.wrap a = a := by rw [wrap_u]; unfold S at h; omega
theorem msub_val {a b : Int} (ha : S a) (hb : S b) : msub (msub (hi (IntKind.u64.wrap a * IntKind.u64.wrap b)) a b) b a = lo (hi (a * b)) := by
  unfold msub
  rw [and_mk (U_wrap b), and_mk (U_wrap a)]
  rcases Int.lt_or_le a 0 with h | h <;> rcases Int.lt_or_le b 0 with h' | h'
  · rw [neg_wrap ha h, neg_wrap hb h', decide_eq_true (by unfold S at ha; omega), decide_eq_true (by unfold S at hb; omega), if_pos rfl, if_pos rfl, wrap_lo, wrap_lo, Int.add_mul, Int.mul_add, Int.mul_add]
    generalize a * b = p
    unfold lo hi; omega
  · rw [neg_wrap ha h, nonneg_wrap hb h', decide_eq_true (by unfold S at ha; omega), decide_eq_false (by unfold S at hb; omega), if_pos rfl, if_neg (by decide), wrap_lo, wrap_lo, Int.add_mul]
    generalize a * b = p
    unfold lo hi; omega
  · rw [nonneg_wrap ha h, neg_wrap hb h', decide_eq_false (by unfold S at ha; omega), decide_eq_true (by unfold S at hb; omega), if_pos rfl, if_neg (by decide), wrap_lo, wrap_lo, Int.mul_add]
    generalize a * b = p
    unfold lo hi; omega
  · rw [nonneg_wrap ha h, nonneg_wrap hb h', decide_eq_false (by unfold S at ha; omega), decide_eq_false (by unfold S at hb; omega), if_neg (by decide), if_neg (by decide), wrap_lo, wrap_lo]
    generalize a * b = p
    unfold lo hi; omega
theorem mlo_val (a b : Int) : lo (IntKind.u64.wrap a * IntKind.u64.wrap b) = lo (a * b) := by
  rw [wrap_u, wrap_u]; unfold lo; exact (Int.mul_emod a b _).symm
/-- Halves of words. -/
theorem tdiv_half {a : Int} (h : 0 ≤ a) (h1 : a ≤ 18446744073709551615) : IntKind.u64.wrap (a.tdiv 4294967296) = a / 4294967296 := by
  rw [Int.tdiv_eq_ediv_of_nonneg h, wrap_u]; omega
theorem tmod_half {a : Int} (h : 0 ≤ a) : a.tmod 4294967296 = a % 4294967296 := Int.tmod_eq_emod_of_nonneg h
theorem half_lo (a : Int) : 0 ≤ a % 4294967296 ∧ a % 4294967296 ≤ 4294967295 := by omega
theorem half_hi {a : Int} (h : U a) : 0 ≤ a / 4294967296 ∧ a / 4294967296 ≤ 4294967295 := by unfold U at h; omega
theorem half_prod {a b : Int} (ha : 0 ≤ a ∧ a ≤ 4294967295) (hb : 0 ≤ b ∧ b ≤ 4294967295) : 0 ≤ a * b ∧ a * b ≤ 18446744065119617025 := Go.prod_bound a b ha.1 ha.2 hb.1 hb.2
theorem halves (a b : Int) : a * b = a / 4294967296 * (b / 4294967296) * 18446744073709551616 + (a / 4294967296 * (b % 4294967296) + a % 4294967296 * (b / 4294967296)) * 4294967296 + a % 4294967296 * (b % 4294967296) := by
  have h := Go.split_mul (a / 4294967296) (a % 4294967296) (b / 4294967296) (b % 4294967296)
  have ea : a / 4294967296 * 4294967296 + a % 4294967296 = a := by omega
  have eb : b / 4294967296 * 4294967296 + b % 4294967296 = b := by omega
  rw [ea, eb] at h
  exact h
theorem wrap_small {a : Int} (h : 0 ≤ a ∧ a ≤ 18446744065119617025) : IntKind.u64.wrap a = a := by rw [wrap_u]; omega
theorem U_half4 (n : Int) : U (IntKind.u64.wrap (n.tmod 4294967296 * 4294967296)) := U_wrap _
/-- The reference's product by halves: its lower word. -/
theorem ref_lo {p q r s c d P : Int}
    (hP : P = s * 18446744073709551616 + (r + q) * 4294967296 + p) :
    lo (lo (lo (lo (p + lo (q % 4294967296 * 4294967296)) + lo (r % 4294967296 * 4294967296)) + c) + d) = lo (P + c + d) := by
  unfold lo; omega
theorem ref_hi {p q r s c d P : Int}
    (hP : P = s * 18446744073709551616 + (r + q) * 4294967296 + p) :
    lo (lo (lo (lo (lo (lo (s + q / 4294967296) + r / 4294967296) + hi (p + lo (q % 4294967296 * 4294967296))) + hi (lo (p + lo (q % 4294967296 * 4294967296)) + lo (r % 4294967296 * 4294967296))) + hi (lo (lo (p + lo (q % 4294967296 * 4294967296)) + lo (r % 4294967296 * 4294967296)) + c)) + hi (lo (lo (lo (p + lo (q % 4294967296 * 4294967296)) + lo (r % 4294967296 * 4294967296)) + c) + d)) = lo (hi (P + c + d)) := by
  unfold lo hi; omega
theorem not_val {v : Int} (h : U v) : bits .xor .u64 IntKind.u64.max v = 18446744073709551615 - v := by
  obtain ⟨x, rfl⟩ := U_word h
  rw [not_w, BitVec.toNat_not]
  have := x.isLt
  omega
theorem neg_lo (p : Int) : lo (bits .xor .u64 IntKind.u64.max (lo p) + 1) = lo (-p) := by
  rw [not_val (U_lo p)]; unfold lo; omega
theorem neg_hi {p : Int} (h : U (hi p)) : lo (bits .xor .u64 IntKind.u64.max (hi p) + hi (bits .xor .u64 IntKind.u64.max (lo p) + 1)) = lo (hi (-p)) := by
  rw [not_val (U_lo p), not_val h]; unfold lo hi; omega
theorem abs_wrap {a : Int} (h : S a) (h0 : a < 0) : IntKind.u64.wrap (-IntKind.u64.wrap a) = -a := by rw [neg_wrap h h0, wrap_u]; unfold S at h; omega
theorem U_neg {a : Int} (h : S a) (h0 : a < 0) : U (-a) := by unfold S at h; unfold U; omega
theorem U_pos {a : Int} (h : S a) (h0 : 0 ≤ a) : U a := by unfold S at h; unfold U; omega
theorem hi_small {p : Int} (h : U (hi p)) : hi p = lo (hi p) := (lo_U h).symm
end Go.Proofs.YtdcckjpeibnkbaaDoor
