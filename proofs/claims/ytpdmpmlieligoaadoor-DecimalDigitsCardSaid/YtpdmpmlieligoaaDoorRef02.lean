/-
  Contracts of the functions of the reference of layer 2: what each returns, for every argument; the world is as it was.
-/
import Derived.Test.YtpdmpmlieligoaaDoorMask
import Derived.Test.YtpdmpmlieligoaaDoorArith
namespace Go.Proofs.YtpdmpmlieligoaaDoor
open Go.RowKit

attribute [local go_sem] sgn_u64
theorem rpair {k l : IntKind} {a b c d : Int} (h : a = c) (h' : b = d) : Ending.returned (.tuple #[.int k a, .int l b]) = .returned (.tuple #[.int k c, .int l d]) := by rw [h, h']
theorem r2add_any (a b c : Int) (ha : U a) (hb : U b) (hc : U c) (w : World) :
    Calls Tryd.prog 35 #[.int .u64 a, .int .u64 b, .int .u64 c] w fun e w' => e = .returned (.tuple #[.int .u64 (lo (a + b + c % 2)), .int .u64 (hi (a + b + c % 2))]) ∧ w' = w := by
  have hc0 := hc.1
  go_enter Tryd.func35, Tryd.ntmps35
  go_wp2
  all_goals go_ret2
  all_goals refine ⟨rpair ?_ ?_, rfl⟩
  all_goals (simp only [wrap_u] at *; unfold U at ha hb hc; first | (unfold lo; omega) | (unfold hi; omega))
theorem r2add0_any (a b : Int) (ha : U a) (hb : U b) (w : World) :
    Calls Tryd.prog 35 #[.int .u64 a, .int .u64 b, .int .u64 0] w fun e w' => e = .returned (.tuple #[.int .u64 (lo (a + b)), .int .u64 (hi (a + b))]) ∧ w' = w := by
  have h := r2add_any a b 0 ha hb U_zero w
  have e : a + b + 0 % 2 = a + b := by omega
  rw [e] at h
  exact h
theorem r2mulAdd_any (a b c d : Int) (ha : U a) (hb : U b) (hc : U c) (hd : U d) (w : World) :
    Calls Tryd.prog 17 #[.int .u64 a, .int .u64 b, .int .u64 c, .int .u64 d] w fun e w' => e = .returned (.tuple #[.int .u64 (hi (a * b + c + d)), .int .u64 (lo (a * b + c + d))]) ∧ w' = w := by
  have ha0 := ha.1
  have hb0 := hb.1
  go_enter Tryd.func17, Tryd.ntmps17
  go_wp2_with (fail)
  refine (r2add0_any _ _ (U_wrap _) (U_wrap _) _).mono ?_
  rintro e w' ⟨rfl, hw1⟩
  obtain rfl := hw1.symm
  go_wp2_with (fail)
  refine (r2add0_any _ _ (U_lo _) (U_wrap _) _).mono ?_
  rintro e w' ⟨rfl, hw1⟩
  obtain rfl := hw1.symm
  go_wp2_with (fail)
  refine (r2add0_any _ _ (U_lo _) hc _).mono ?_
  rintro e w' ⟨rfl, hw1⟩
  obtain rfl := hw1.symm
  go_wp2_with (fail)
  refine (r2add0_any _ _ (U_lo _) hd _).mono ?_
  rintro e w' ⟨rfl, hw1⟩
  obtain rfl := hw1.symm
  go_wp2
  go_ret2
  have hxl := half_lo a
  have hyl := half_lo b
  have hxh := half_hi ha
  have hyh := half_hi hb
  have h1 := half_prod hxl hyl
  have h2 := half_prod hxl hyh
  have h3 := half_prod hxh hyl
  have h4 := half_prod hxh hyh
  have hP := halves a b
  refine ⟨rpair ?_ ?_, rfl⟩
  · simp only [tdiv_half ha.1 ha.2, tdiv_half hb.1 hb.2, wrap_small h1, wrap_small h2, wrap_small h3, wrap_small h4, tmod_half h2.1, tmod_half h3.1, tdiv_half h2.1 (Int.le_trans h2.2 (by decide)), tdiv_half h3.1 (Int.le_trans h3.2 (by decide)), wrap_lo]
    rw [ref_hi hP]
    exact lo_U (U_hi_mulAdd ha hb hc hd)
  · simp only [tdiv_half ha.1 ha.2, tdiv_half hb.1 hb.2, wrap_small h1, wrap_small h2, wrap_small h3, tmod_half h2.1, tmod_half h3.1, wrap_lo]
    exact ref_lo hP
theorem r2mul_any (a b : Int) (ha : U a) (hb : U b) (w : World) :
    Calls Tryd.prog 17 #[.int .u64 a, .int .u64 b, .int .u64 0, .int .u64 0] w fun e w' => e = .returned (.tuple #[.int .u64 (hi (a * b)), .int .u64 (lo (a * b))]) ∧ w' = w := by
  have h := r2mulAdd_any a b 0 0 ha hb U_zero U_zero w
  have e : a * b + 0 + 0 = a * b := by omega
  rw [e] at h
  exact h
theorem r2addc_any (a k : Int) (ha : U a) (hk : 0 ≤ k ∧ k ≤ 1) (w : World) :
    Calls Tryd.prog 35 #[.int .u64 a, .int .u64 0, .int .u64 k] w fun e w' => e = .returned (.tuple #[.int .u64 (lo (a + k)), .int .u64 (hi (a + k))]) ∧ w' = w := by
  have h := r2add_any a 0 k ha U_zero (by unfold U; omega) w
  have e : a + 0 + k % 2 = a + k := by omega
  rw [e] at h
  exact h
theorem U_max : U IntKind.u64.max := by unfold U; decide
end Go.Proofs.YtpdmpmlieligoaaDoor
