/-
  Contracts of the functions of the reference of layer 2: what each returns, for every argument; the world is as it was.
-/
import Derived.Test.YtgekbdlomkdeeaaDoorMask
import Derived.Test.YtgekbdlomkdeeaaDoorArith
namespace Go.Proofs.YtgekbdlomkdeeaaDoor
open Go.RowKit

attribute [local go_sem] sgn_u64
theorem rpair {k l : IntKind} {a b c d : Int} (h : a = c) (h' : b = d) : Ending.returned (.tuple #[.int k a, .int l b]) = .returned (.tuple #[.int k c, .int l d]) := by rw [h, h']
theorem r2add_any (a b c : Int) (ha : U a) (hb : U b) (hc : U c) (w : World) :
    Calls Tryd.prog 10 #[.int .u64 a, .int .u64 b, .int .u64 c] w fun e w' => e = .returned (.tuple #[.int .u64 (lo (a + b + c % 2)), .int .u64 (hi (a + b + c % 2))]) ∧ w' = w := by
  have hc0 := hc.1
  go_enter Tryd.func10, Tryd.ntmps10
  go_wp2
  all_goals go_ret2
  all_goals refine ⟨rpair ?_ ?_, rfl⟩
  all_goals (simp only [wrap_u] at *; unfold U at ha hb hc; first | (unfold lo; omega) | (unfold hi; omega))
theorem r2sub_any (a b c : Int) (ha : U a) (hb : U b) (hc : U c) (w : World) :
    Calls Tryd.prog 12 #[.int .u64 a, .int .u64 b, .int .u64 c] w fun e w' => e = .returned (.tuple #[.int .u64 (lo (a - b - c % 2)), .int .u64 (bo (a - b - c % 2))]) ∧ w' = w := by
  have hc0 := hc.1
  go_enter Tryd.func12, Tryd.ntmps12
  go_wp2
  all_goals go_ret2
  all_goals refine ⟨rpair ?_ ?_, rfl⟩
  all_goals (try simp only [wrap_u, beq_iff_eq, beq_eq_false_iff_ne, ne_eq] at *)
  all_goals (unfold U at ha hb hc; first | (unfold lo; omega) | (unfold bo; omega))
theorem r2fill_any (a : Int) (w : World) :
    Calls Tryd.prog 20 #[.int .u64 a] w fun e w' => e = .returned (.int .u64 (mk (decide (9223372036854775808 ≤ a)))) ∧ w' = w := by
  go_enter Tryd.func20, Tryd.ntmps20
  go_wp2
  all_goals go_ret
  · exact ⟨ret_int (by rw [decide_eq_true ‹_›]; rfl), rfl⟩
  · exact ⟨ret_int (by rw [decide_eq_false (by omega)]; rfl), rfl⟩
theorem r2add0_any (a b : Int) (ha : U a) (hb : U b) (w : World) :
    Calls Tryd.prog 10 #[.int .u64 a, .int .u64 b, .int .u64 0] w fun e w' => e = .returned (.tuple #[.int .u64 (lo (a + b)), .int .u64 (hi (a + b))]) ∧ w' = w := by
  have h := r2add_any a b 0 ha hb U_zero w
  have e : a + b + 0 % 2 = a + b := by omega
  rw [e] at h
  exact h
theorem r2mulAdd_any (a b c d : Int) (ha : U a) (hb : U b) (hc : U c) (hd : U d) (w : World) :
    Calls Tryd.prog 15 #[.int .u64 a, .int .u64 b, .int .u64 c, .int .u64 d] w fun e w' => e = .returned (.tuple #[.int .u64 (hi (a * b + c + d)), .int .u64 (lo (a * b + c + d))]) ∧ w' = w := by
  have ha0 := ha.1
  have hb0 := hb.1
  go_enter Tryd.func15, Tryd.ntmps15
  go_wp2_with (fail)
  refine (r2add0_any _ _ (U_wrap _) (U_wrap _) _).mono ?_
  rintro e w' ⟨rfl, hw1⟩
  obtain rfl := hw1.symm
  go_wp2_with (fail)
  refine (r2add0_any _ _ (U_lo _) (U_wrap _) _).mono ?_
  rintro e w' ⟨rfl, hw1⟩
  obtain rfl := hw1.symm
  go_wp2_with (fail)
  refine (r2add0_any _ _ (U_lo _) hc _).mono ?_
  rintro e w' ⟨rfl, hw1⟩
  obtain rfl := hw1.symm
  go_wp2_with (fail)
  refine (r2add0_any _ _ (U_lo _) hd _).mono ?_
  rintro e w' ⟨rfl, hw1⟩
  obtain rfl := hw1.symm
  go_wp2
  go_ret2
  have hxl := half_lo a
  have hyl := half_lo b
  have hxh := half_hi ha
  have hyh := half_hi hb
  have h1 := half_prod hxl hyl
  have h2 := half_prod hxl hyh
  have h3 := half_prod hxh hyl
  have h4 := half_prod hxh hyh
  have hP := halves a b
  refine ⟨rpair ?_ ?_, rfl⟩
  · simp only [tdiv_half ha.1 ha.2, tdiv_half hb.1 hb.2, wrap_small h1, wrap_small h2, wrap_small h3, wrap_small h4, tmod_half h2.1, tmod_half h3.1, tdiv_half h2.1 (Int.le_trans h2.2 (by decide)), tdiv_half h3.1 (Int.le_trans h3.2 (by decide)), wrap_lo]
    rw [ref_hi hP]
    exact lo_U (U_hi_mulAdd ha hb hc hd)
  · simp only [tdiv_half ha.1 ha.2, tdiv_half hb.1 hb.2, wrap_small h1, wrap_small h2, wrap_small h3, tmod_half h2.1, tmod_half h3.1, wrap_lo]
    exact ref_lo hP
theorem r2mul_any (a b : Int) (ha : U a) (hb : U b) (w : World) :
    Calls Tryd.prog 15 #[.int .u64 a, .int .u64 b, .int .u64 0, .int .u64 0] w fun e w' => e = .returned (.tuple #[.int .u64 (hi (a * b)), .int .u64 (lo (a * b))]) ∧ w' = w := by
  have h := r2mulAdd_any a b 0 0 ha hb U_zero U_zero w
  have e : a * b + 0 + 0 = a * b := by omega
  rw [e] at h
  exact h
theorem r2addc_any (a k : Int) (ha : U a) (hk : 0 ≤ k ∧ k ≤ 1) (w : World) :
    Calls Tryd.prog 10 #[.int .u64 a, .int .u64 0, .int .u64 k] w fun e w' => e = .returned (.tuple #[.int .u64 (lo (a + k)), .int .u64 (hi (a + k))]) ∧ w' = w := by
  have h := r2add_any a 0 k ha U_zero (by unfold U; omega) w
  have e : a + 0 + k % 2 = a + k := by omega
  rw [e] at h
  exact h
theorem U_max : U IntKind.u64.max := by unfold U; decide
set_option maxHeartbeats 800000 in
theorem r2mulSigned_any (a b : Int) (ha : S a) (hb : S b) (w : World) :
    Calls Tryd.prog 18 #[.int .i64 a, .int .i64 b] w fun e w' => e = .returned (.tuple #[.int .u64 (lo (hi (a * b))), .int .u64 (lo (a * b))]) ∧ w' = w := by
  by_cases h1 : a < 0 <;> by_cases h2 : b < 0
  · have h5 : decide (a < 0) = true := decide_eq_true h1
    have h6 : decide (b < 0) = true := decide_eq_true h2
    have hp : -a * -b = a * b := by rw [Int.neg_mul_neg]
    have HH := Lib.hid (show hi (IntKind.u64.wrap (-IntKind.u64.wrap a) * IntKind.u64.wrap (-IntKind.u64.wrap b)) = lo (hi (a * b)) by rw [abs_wrap ha h1, abs_wrap hb h2, hi_small (U_hi_prod (U_neg ha h1) (U_neg hb h2)), hp])
    have HL := Lib.hid (show lo (IntKind.u64.wrap (-IntKind.u64.wrap a) * IntKind.u64.wrap (-IntKind.u64.wrap b)) = lo (a * b) by rw [abs_wrap ha h1, abs_wrap hb h2, hp])
    have HA := Lib.hid (show U (IntKind.u64.wrap (-IntKind.u64.wrap a)) from U_wrap _)
    have HC := Lib.hid (show U (IntKind.u64.wrap (-IntKind.u64.wrap b)) from U_wrap _)
    clear hp
    go_enter Tryd.func18, Tryd.ntmps18
    go_wp2_with (fail)
    refine (r2mul_any _ _ HA.out HC.out _).mono ?_
    rintro e w' ⟨rfl, hw1⟩
    obtain rfl := hw1.symm
    go_wp2
    go_ret2
    exact ⟨rpair HH.out HL.out, rfl⟩
  · have h5 : decide (a < 0) = true := decide_eq_true h1
    have h4 : 0 ≤ b := by omega
    have h6 : decide (b < 0) = false := decide_eq_false h2
    clear h2
    have hp : -a * b = -(a * b) := by rw [Int.neg_mul]
    have HU := Lib.hid (show U (hi (IntKind.u64.wrap (-IntKind.u64.wrap a) * IntKind.u64.wrap b)) by rw [abs_wrap ha h1, nonneg_wrap hb h4]; exact U_hi_prod (U_neg ha h1) (U_pos hb h4))
    have HH := Lib.hid (show lo (bits .xor .u64 IntKind.u64.max (hi (IntKind.u64.wrap (-IntKind.u64.wrap a) * IntKind.u64.wrap b)) + hi (bits .xor .u64 IntKind.u64.max (lo (IntKind.u64.wrap (-IntKind.u64.wrap a) * IntKind.u64.wrap b)) + 1)) = lo (hi (a * b)) by rw [neg_hi HU.out, abs_wrap ha h1, nonneg_wrap hb h4, hp, Int.neg_neg])
    have HL := Lib.hid (show lo (bits .xor .u64 IntKind.u64.max (lo (IntKind.u64.wrap (-IntKind.u64.wrap a) * IntKind.u64.wrap b)) + 1) = lo (a * b) by rw [neg_lo, abs_wrap ha h1, nonneg_wrap hb h4, hp, Int.neg_neg])
    have HB := Lib.hid (show 0 ≤ hi (bits .xor .u64 IntKind.u64.max (lo (IntKind.u64.wrap (-IntKind.u64.wrap a) * IntKind.u64.wrap b)) + 1) ∧ hi (bits .xor .u64 IntKind.u64.max (lo (IntKind.u64.wrap (-IntKind.u64.wrap a) * IntKind.u64.wrap b)) + 1) ≤ 1 by rw [not_val (U_lo _)]; have h := U_lo (IntKind.u64.wrap (-IntKind.u64.wrap a) * IntKind.u64.wrap b); unfold U at h; unfold hi; omega)
    have HA := Lib.hid (show U (IntKind.u64.wrap (-IntKind.u64.wrap a)) from U_wrap _)
    have HC := Lib.hid (show U (IntKind.u64.wrap b) from U_wrap _)
    clear hp
    go_enter Tryd.func18, Tryd.ntmps18
    go_wp2_with (fail)
    refine (r2mul_any _ _ HA.out HC.out _).mono ?_
    rintro e w' ⟨rfl, hw1⟩
    obtain rfl := hw1.symm
    go_wp2_with (fail)
    refine (r2add0_any _ _ (U_xor U_max (U_lo _)) U_one _).mono ?_
    rintro e w' ⟨rfl, hw1⟩
    obtain rfl := hw1.symm
    go_wp2_with (fail)
    refine (r2addc_any _ _ (U_xor U_max HU.out) HB.out _).mono ?_
    rintro e w' ⟨rfl, hw1⟩
    obtain rfl := hw1.symm
    go_wp2
    go_ret2
    exact ⟨rpair HH.out HL.out, rfl⟩
  · have h3 : 0 ≤ a := by omega
    have h5 : decide (a < 0) = false := decide_eq_false h1
    clear h1
    have h6 : decide (b < 0) = true := decide_eq_true h2
    have hp : a * -b = -(a * b) := by rw [Int.mul_neg]
    have HU := Lib.hid (show U (hi (IntKind.u64.wrap a * IntKind.u64.wrap (-IntKind.u64.wrap b))) by rw [nonneg_wrap ha h3, abs_wrap hb h2]; exact U_hi_prod (U_pos ha h3) (U_neg hb h2))
    have HH := Lib.hid (show lo (bits .xor .u64 IntKind.u64.max (hi (IntKind.u64.wrap a * IntKind.u64.wrap (-IntKind.u64.wrap b))) + hi (bits .xor .u64 IntKind.u64.max (lo (IntKind.u64.wrap a * IntKind.u64.wrap (-IntKind.u64.wrap b))) + 1)) = lo (hi (a * b)) by rw [neg_hi HU.out, nonneg_wrap ha h3, abs_wrap hb h2, hp, Int.neg_neg])
    have HL := Lib.hid (show lo (bits .xor .u64 IntKind.u64.max (lo (IntKind.u64.wrap a * IntKind.u64.wrap (-IntKind.u64.wrap b))) + 1) = lo (a * b) by rw [neg_lo, nonneg_wrap ha h3, abs_wrap hb h2, hp, Int.neg_neg])
    have HB := Lib.hid (show 0 ≤ hi (bits .xor .u64 IntKind.u64.max (lo (IntKind.u64.wrap a * IntKind.u64.wrap (-IntKind.u64.wrap b))) + 1) ∧ hi (bits .xor .u64 IntKind.u64.max (lo (IntKind.u64.wrap a * IntKind.u64.wrap (-IntKind.u64.wrap b))) + 1) ≤ 1 by rw [not_val (U_lo _)]; have h := U_lo (IntKind.u64.wrap a * IntKind.u64.wrap (-IntKind.u64.wrap b)); unfold U at h; unfold hi; omega)
    have HA := Lib.hid (show U (IntKind.u64.wrap a) from U_wrap _)
    have HC := Lib.hid (show U (IntKind.u64.wrap (-IntKind.u64.wrap b)) from U_wrap _)
    clear hp
    go_enter Tryd.func18, Tryd.ntmps18
    go_wp2_with (fail)
    refine (r2mul_any _ _ HA.out HC.out _).mono ?_
    rintro e w' ⟨rfl, hw1⟩
    obtain rfl := hw1.symm
    go_wp2_with (fail)
    refine (r2add0_any _ _ (U_xor U_max (U_lo _)) U_one _).mono ?_
    rintro e w' ⟨rfl, hw1⟩
    obtain rfl := hw1.symm
    go_wp2_with (fail)
    refine (r2addc_any _ _ (U_xor U_max HU.out) HB.out _).mono ?_
    rintro e w' ⟨rfl, hw1⟩
    obtain rfl := hw1.symm
    go_wp2
    go_ret2
    exact ⟨rpair HH.out HL.out, rfl⟩
  · have h3 : 0 ≤ a := by omega
    have h5 : decide (a < 0) = false := decide_eq_false h1
    clear h1
    have h4 : 0 ≤ b := by omega
    have h6 : decide (b < 0) = false := decide_eq_false h2
    clear h2
    have HH := Lib.hid (show hi (IntKind.u64.wrap a * IntKind.u64.wrap b) = lo (hi (a * b)) by rw [nonneg_wrap ha h3, nonneg_wrap hb h4]; exact hi_small (U_hi_prod (U_pos ha h3) (U_pos hb h4)))
    have HL := Lib.hid (show lo (IntKind.u64.wrap a * IntKind.u64.wrap b) = lo (a * b) by rw [nonneg_wrap ha h3, nonneg_wrap hb h4])
    have HA := Lib.hid (show U (IntKind.u64.wrap a) from U_wrap _)
    have HC := Lib.hid (show U (IntKind.u64.wrap b) from U_wrap _)
    go_enter Tryd.func18, Tryd.ntmps18
    go_wp2_with (fail)
    refine (r2mul_any _ _ HA.out HC.out _).mono ?_
    rintro e w' ⟨rfl, hw1⟩
    obtain rfl := hw1.symm
    go_wp2
    go_ret2
    exact ⟨rpair HH.out HL.out, rfl⟩
end Go.Proofs.YtgekbdlomkdeeaaDoor
