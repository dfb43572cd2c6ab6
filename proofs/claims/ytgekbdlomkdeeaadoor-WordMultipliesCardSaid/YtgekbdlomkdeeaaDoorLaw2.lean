/-
  The walks of the laws of layer 2: each returns true, out of the contracts of package word and of the reference; of the memory that was there nothing turns.
-/
import Derived.Test.YtgekbdlomkdeeaaDoorWordS
import Derived.Test.YtgekbdlomkdeeaaDoorRef02
namespace Go.Proofs.YtgekbdlomkdeeaaDoor
open Go.RowKit

theorem cAdd (a b c x y : Int) (ha : U a) (hb : U b) (hc : U c) (hx : lo (a + b + c % 2) = x) (hy : hi (a + b + c % 2) = y) (w : World) :
    Calls Tryd.prog 9 #[.int .u64 a, .int .u64 b, .int .u64 c] w fun e w' => e = .returned (.tuple #[.int .u64 x, .int .u64 y]) ∧ w' = w := by
  subst hx; subst hy; exact wordAdd_any a b c ha hb hc w
theorem cSub (a b c x y : Int) (ha : U a) (hb : U b) (hc : U c) (hx : lo (a - b - c % 2) = x) (hy : bo (a - b - c % 2) = y) (w : World) :
    Calls Tryd.prog 11 #[.int .u64 a, .int .u64 b, .int .u64 c] w fun e w' => e = .returned (.tuple #[.int .u64 x, .int .u64 y]) ∧ w' = w := by
  subst hx; subst hy; exact wordSub_any a b c ha hb hc w
theorem cMul (a b x y : Int) (ha : U a) (hb : U b) (hx : hi (a * b) = x) (hy : lo (a * b) = y) (w : World) :
    Calls Tryd.prog 16 #[.int .u64 a, .int .u64 b] w fun e w' => e = .returned (.tuple #[.int .u64 x, .int .u64 y]) ∧ w' = w := by
  subst hx; subst hy; exact wordMul_any a b ha hb w
theorem cMulSigned (a b x y : Int) (ha : S a) (hb : S b) (hx : lo (hi (a * b)) = x) (hy : lo (a * b) = y) (w : World) (hw : Wts w) :
    Calls Tryd.prog 17 #[.int .i64 a, .int .i64 b] w fun e w' => e = .returned (.tuple #[.int .u64 x, .int .u64 y]) ∧ Below w.heap.size w w' := by
  subst hx; subst hy; exact mulSigned_any a b ha hb w hw
theorem cFill (a x : Int) (ha : U a) (hx : mk (decide (9223372036854775808 ≤ a)) = x) (w : World) (hw : Wts w) :
    Calls Tryd.prog 19 #[.int .u64 a] w fun e w' => e = .returned (.int .u64 x) ∧ ∃ n, w' = w.drewN n := by
  subst hx; exact wordFill_any a ha w hw
theorem alive2 (w : World) (hw : Wts w) : Calls Tryd.prog 13 #[] w fun e w' => e = .returned (.bool true) ∧ Below w.heap.size w w' := by
  go_enter Tryd.func13, Tryd.ntmps13
  go_wp2_with (fail)
  refine (cAdd 18446744073709551615 1 0 0 1 (by unfold U; omega) U_one U_zero (by decide) (by decide) _).mono ?_
  rintro e w' ⟨rfl, hw1⟩
  obtain rfl := hw1.symm
  go_wp2_with (fail)
  refine (cMul 9223372036854775808 4 2 0 (by unfold U; omega) (by unfold U; omega) (by decide) (by decide) _).mono ?_
  rintro e w' ⟨rfl, hw1⟩
  obtain rfl := hw1.symm
  go_wp2_with (fail)
  refine (cMulSigned (-1) 1 18446744073709551615 18446744073709551615 (by unfold S; omega) (by unfold S; omega) (by decide) (by decide) _ hw).mono ?_
  rintro e w1 ⟨rfl, hb⟩
  go_wp2_with (fail)
  refine (cFill 9223372036854775808 18446744073709551615 (by unfold U; omega) (by decide) _ (hw.below hb)).mono ?_
  rintro e w' ⟨rfl, n, rfl⟩
  go_wp2
  go_ret
  exact ⟨rfl, below_drewN' hb n⟩
theorem law_wordAdds (a b c : Int) (ha : U a) (hb : U b) (hc : U c) (w : World) (hw : Wts w) :
    Calls Tryd.prog 3 #[.int .u64 a, .int .u64 b, .int .u64 c] w fun e w' => e = .returned (.bool true) ∧ Below w.heap.size w w' := by
  go_enter Tryd.func3, Tryd.ntmps3
  go_wp2_with (fail)
  refine (wordAdd_any a b c ha hb hc _).mono ?_
  rintro e w' ⟨rfl, hw1⟩
  obtain rfl := hw1.symm
  go_wp2_with (fail)
  refine (r2add_any a b c ha hb hc _).mono ?_
  rintro e w' ⟨rfl, hw1⟩
  obtain rfl := hw1.symm
  go_wp2_with (fail)
  refine (wordSub_any a b c ha hb hc _).mono ?_
  rintro e w' ⟨rfl, hw1⟩
  obtain rfl := hw1.symm
  go_wp2_with (fail)
  refine (r2sub_any a b c ha hb hc _).mono ?_
  rintro e w' ⟨rfl, hw1⟩
  obtain rfl := hw1.symm
  go_wp2_with (fail)
  refine (alive2 _ hw).mono ?_
  rintro e w1 ⟨rfl, hbl⟩
  go_wp2
  go_ret
  exact ⟨rfl, hbl⟩
theorem law_wordMultiplies (a0 a1 b0 b1 c d : Int) (ha0 : U a0) (ha1 : U a1) (hb0 : U b0) (hb1 : U b1) (hc : U c) (hd : U d) (w : World) (hw : Wts w) :
    Calls Tryd.prog 4 #[.agg #[.int .u64 a0, .int .u64 a1], .agg #[.int .u64 b0, .int .u64 b1], .agg #[.int .u64 c, .int .u64 d]] w fun e w' => e = .returned (.bool true) ∧ Below w.heap.size w w' := by
  have hb3 : Below w.heap.size w (((w.alloc (.cells #[.int .u64 a0, .int .u64 a1] 27)).alloc (.cells #[.int .u64 b0, .int .u64 b1] 27)).alloc (.cells #[.int .u64 c, .int .u64 d] 27)) :=
    (((Below.refl _ _).alloc (Nat.le_refl _) _).alloc (by simp) _).alloc (by simp; omega) _
  go_enter Tryd.func4, Tryd.ntmps4
  go_wp2_with (fail)
  refine (wordMulAdd_any a0 b0 c d ha0 hb0 hc hd _).mono ?_
  rintro e w' ⟨rfl, rfl⟩
  go_wp2_with (fail)
  refine (r2mulAdd_any a0 b0 c d ha0 hb0 hc hd _).mono ?_
  rintro e w' ⟨rfl, rfl⟩
  go_wp2_with (fail)
  refine (wordMul_any a1 b1 ha1 hb1 _).mono ?_
  rintro e w' ⟨rfl, rfl⟩
  go_wp2_with (fail)
  refine (r2mul_any a1 b1 ha1 hb1 _).mono ?_
  rintro e w' ⟨rfl, rfl⟩
  go_wp2_with (fail)
  refine (alive2 _ (hw.below hb3)).mono ?_
  rintro e w1 ⟨rfl, h1⟩
  go_wp2
  go_ret
  exact ⟨rfl, hb3.trans (h1.mono hb3.size)⟩
theorem law_wordMultipliesSigned (a b : Int) (ha : S a) (hb : S b) (w : World) (hw : Wts w) :
    Calls Tryd.prog 5 #[.int .i64 a, .int .i64 b] w fun e w' => e = .returned (.bool true) ∧ Below w.heap.size w w' := by
  go_enter Tryd.func5, Tryd.ntmps5
  go_wp2_with (fail)
  refine (mulSigned_any a b ha hb _ hw).mono ?_
  rintro e w1 ⟨rfl, h1⟩
  have hw1 := hw.below h1
  go_wp2_with (fail)
  refine (r2mulSigned_any a b ha hb _).mono ?_
  rintro e w' ⟨rfl, hw'⟩
  obtain rfl := hw'.symm
  go_wp2_with (fail)
  refine (alive2 _ hw1).mono ?_
  rintro e w2 ⟨rfl, h2⟩
  have hw2 := hw1.below h2
  go_wp2_with (fail)
  refine (wordFill_any _ (U_wrap _) _ hw2).mono ?_
  rintro e w' ⟨rfl, n, rfl⟩
  go_wp2_with (fail)
  refine (r2fill_any _ _).mono ?_
  rintro e w' ⟨rfl, hw'⟩
  obtain rfl := hw'.symm
  go_wp2_with (fail)
  refine (wordFill_any _ (U_lo _) _ (by exact hw2)).mono ?_
  rintro e w' ⟨rfl, m, rfl⟩
  go_wp2_with (fail)
  refine (r2fill_any _ _).mono ?_
  rintro e w' ⟨rfl, hw'⟩
  obtain rfl := hw'.symm
  go_wp2
  go_ret
  exact ⟨rfl, below_drewN' (h1.trans (h2.mono h1.size)) _⟩
theorem law_wordInverts (a b : Int) (c : Bool) (ha : U a) (hb : U b) (w : World) (hw : Wts w) :
    Calls Tryd.prog 6 #[.int .u64 a, .int .u64 b, .bool c] w fun e w' => e = .returned (.bool true) ∧ Below w.heap.size w w' := by
  have E1 := Lib.hid (show lo (lo (a + b) - b - 0 % 2) = a by unfold U at ha; unfold lo; omega)
  have E2 := Lib.hid (show bo (lo (a + b) - b - 0 % 2) = hi (a + b) by unfold U at ha; unfold lo bo hi; omega)
  have F1 := Lib.hid (show lo (lo (a + b + 1) - b - 1 % 2) = a by unfold U at ha; unfold lo; omega)
  have F2 := Lib.hid (show bo (lo (a + b + 1) - b - 1 % 2) = hi (a + b + 1) by unfold U at ha; unfold lo bo hi; omega)
  cases c
  · go_enter Tryd.func6, Tryd.ntmps6
    go_wp2_with (fail)
    refine (wordAdd0_any a b ha hb _).mono ?_
    rintro e w' ⟨rfl, hw1⟩
    obtain rfl := hw1.symm
    go_wp2_with (fail)
    refine (cSub _ b 0 a (hi (a + b)) (U_lo _) hb U_zero E1.out E2.out _).mono ?_
    rintro e w' ⟨rfl, hw1⟩
    obtain rfl := hw1.symm
    go_wp2_with (fail)
    refine (alive2 _ hw).mono ?_
    rintro e w1 ⟨rfl, hbl⟩
    go_wp2
    go_ret
    exact ⟨rfl, hbl⟩
  · go_enter Tryd.func6, Tryd.ntmps6
    go_wp2_with (fail)
    refine (cAdd a b 1 (lo (a + b + 1)) (hi (a + b + 1)) ha hb U_one rfl rfl _).mono ?_
    rintro e w' ⟨rfl, hw1⟩
    obtain rfl := hw1.symm
    go_wp2_with (fail)
    refine (cSub _ b 1 a (hi (a + b + 1)) (U_lo _) hb U_one F1.out F2.out _).mono ?_
    rintro e w' ⟨rfl, hw1⟩
    obtain rfl := hw1.symm
    go_wp2_with (fail)
    refine (alive2 _ hw).mono ?_
    rintro e w1 ⟨rfl, hbl⟩
    go_wp2
    go_ret
    exact ⟨rfl, hbl⟩
theorem wordMulAdd0_any (a b c : Int) (ha : U a) (hb : U b) (hc : U c) (w : World) :
    Calls Tryd.prog 14 #[.int .u64 a, .int .u64 b, .int .u64 c, .int .u64 0] w fun e w' => e = .returned (.tuple #[.int .u64 (hi (a * b + c)), .int .u64 (lo (a * b + c))]) ∧ w' = w := by
  have h := wordMulAdd_any a b c 0 ha hb hc U_zero w
  have e : a * b + c + 0 = a * b + c := by omega
  rw [e] at h
  exact h
theorem lo_add (p c : Int) : lo (lo p + c) = lo (p + c) := by unfold lo; omega
theorem hi_add {a b c : Int} (ha : U a) (hb : U b) (hc : U c) : lo (hi (a * b) + 0 + hi (lo (a * b) + c) % 2) = hi (a * b + c) := by
  have hM := prod_le ha hb
  generalize a * b = p at *
  unfold U at hc; unfold lo hi; omega
theorem hi_carry {p c : Int} (hc : U c) : U (hi (lo p + c)) := by have := U_lo p; unfold U at *; unfold hi; omega
theorem law_wordCommutes (a b c : Int) (ha : U a) (hb : U b) (hc : U c) (w : World) (hw : Wts w) :
    Calls Tryd.prog 7 #[.int .u64 a, .int .u64 b, .int .u64 c] w fun e w' => e = .returned (.bool true) ∧ Below w.heap.size w w' := by
  have E1 := Lib.hid (show lo (b + a + c % 2) = lo (a + b + c % 2) by rw [Int.add_comm b a])
  have E2 := Lib.hid (show hi (b + a + c % 2) = hi (a + b + c % 2) by rw [Int.add_comm b a])
  have E3 := Lib.hid (show hi (b * a) = hi (a * b) by rw [Int.mul_comm b a])
  have E4 := Lib.hid (show lo (b * a) = lo (a * b) by rw [Int.mul_comm b a])
  have E5 := Lib.hid (lo_add (a * b) c)
  have E6 := Lib.hid (hi_add ha hb hc)
  have E7 := Lib.hid (show U (hi (lo (a * b) + c)) from hi_carry hc)
  go_enter Tryd.func7, Tryd.ntmps7
  go_wp2_with (fail)
  refine (wordAdd_any a b c ha hb hc _).mono ?_
  rintro e w' ⟨rfl, hw1⟩
  obtain rfl := hw1.symm
  go_wp2_with (fail)
  refine (cAdd b a c _ _ hb ha hc E1.out E2.out _).mono ?_
  rintro e w' ⟨rfl, hw1⟩
  obtain rfl := hw1.symm
  go_wp2_with (fail)
  refine (wordMul_any a b ha hb _).mono ?_
  rintro e w' ⟨rfl, hw1⟩
  obtain rfl := hw1.symm
  go_wp2_with (fail)
  refine (cMul b a _ _ hb ha E3.out E4.out _).mono ?_
  rintro e w' ⟨rfl, hw1⟩
  obtain rfl := hw1.symm
  go_wp2_with (fail)
  refine (wordMulAdd0_any a b c ha hb hc _).mono ?_
  rintro e w' ⟨rfl, hw1⟩
  obtain rfl := hw1.symm
  go_wp2_with (fail)
  refine (cAdd _ c 0 (lo (a * b + c)) (hi (lo (a * b) + c)) (U_lo _) hc U_zero (by simpa using E5.out) (by simp) _).mono ?_
  rintro e w' ⟨rfl, hw1⟩
  obtain rfl := hw1.symm
  go_wp2_with (fail)
  refine (cAdd _ 0 _ (hi (a * b + c)) _ (U_hi_prod ha hb) U_zero E7.out E6.out rfl _).mono ?_
  rintro e w' ⟨rfl, hw1⟩
  obtain rfl := hw1.symm
  go_wp2_with (fail)
  refine (alive2 _ hw).mono ?_
  rintro e w1 ⟨rfl, hbl⟩
  go_wp2
  go_ret
  exact ⟨rfl, hbl⟩
theorem sq_le {a : Int} (h : S a) : 0 ≤ a * a ∧ a * a ≤ 85070591730234615865843651857942052864 := by
  unfold S at h
  rcases Int.lt_or_le a 0 with h0 | h0
  · have h1 : (-a) * (-a) ≤ 9223372036854775808 * 9223372036854775808 := Int.mul_le_mul (by omega) (by omega) (by omega) (by decide)
    have h2 : 0 ≤ (-a) * (-a) := Int.mul_nonneg (by omega) (by omega)
    rw [Int.neg_mul_neg] at h1 h2
    omega
  · have h1 : a * a ≤ 9223372036854775808 * 9223372036854775808 := Int.mul_le_mul (by omega) (by omega) (by omega) (by decide)
    have h2 : 0 ≤ a * a := Int.mul_nonneg (by omega) (by omega)
    omega
theorem wordAddc_any (a k : Int) (ha : U a) (hk : 0 ≤ k ∧ k ≤ 1) (w : World) :
    Calls Tryd.prog 9 #[.int .u64 a, .int .u64 0, .int .u64 k] w fun e w' => e = .returned (.tuple #[.int .u64 (lo (a + k)), .int .u64 (hi (a + k))]) ∧ w' = w := by
  have h := wordAdd_any a 0 k ha U_zero (by unfold U; omega) w
  have e : a + 0 + k % 2 = a + k := by omega
  rw [e] at h
  exact h
theorem cAddc (a k x y : Int) (ha : U a) (hk : 0 ≤ k ∧ k ≤ 1) (hx : lo (a + k) = x) (hy : hi (a + k) = y) (w : World) :
    Calls Tryd.prog 9 #[.int .u64 a, .int .u64 0, .int .u64 k] w fun e w' => e = .returned (.tuple #[.int .u64 x, .int .u64 y]) ∧ w' = w := by
  subst hx; subst hy; exact wordAddc_any a k ha hk w
theorem wrap_min : wrap64 9223372036854775808 = -9223372036854775808 := by unfold wrap64; decide
attribute [local go_sem] sgn_u64
theorem law_wordSquares (a : Int) (ha : S a) (w : World) (hw : Wts w) :
    Calls Tryd.prog 8 #[.int .i64 a] w fun e w' => e = .returned (.bool true) ∧ Below w.heap.size w w' := by
  by_cases hm : a = -9223372036854775808
  · subst hm
    go_enter Tryd.func8, Tryd.ntmps8
    go_wp2_with (fail)
    refine (cMulSigned (-9223372036854775808) (-9223372036854775808) 4611686018427387904 0 ha ha (by decide) (by decide) _ hw).mono ?_
    rintro e w1 ⟨rfl, h1⟩
    have hw1 := hw.below h1
    go_wp2_with (fail)
    refine (cMulSigned (wrap64 9223372036854775808) (-9223372036854775808) 4611686018427387904 0 (by rw [wrap_min]; exact ha) ha (by rw [wrap_min]; decide) (by rw [wrap_min]; decide) _ hw1).mono ?_
    rintro e w2 ⟨rfl, h2⟩
    have hw2 := hw1.below h2
    go_wp2_with (fail)
    refine (wordAdd0_any _ 1 (by unfold U; decide) U_one _).mono ?_
    rintro e w' ⟨rfl, hw'⟩
    obtain rfl := hw'.symm
    go_wp2_with (fail)
    refine (wordAddc_any _ _ (by unfold U; decide) (by decide) _).mono ?_
    rintro e w' ⟨rfl, hw'⟩
    obtain rfl := hw'.symm
    go_wp2_with (fail)
    refine (alive2 _ hw2).mono ?_
    rintro e w3 ⟨rfl, h3⟩
    go_wp2
    go_ret
    exact ⟨rfl, (h1.trans (h2.mono h1.size)).trans (h3.mono (Nat.le_trans h1.size h2.size))⟩
  · have b1 := ha.1
    have b2 := ha.2
    have b3 : -9223372036854775807 ≤ a := by omega
    have hsa : S (-a) := by unfold S; omega
    have hq := sq_le ha
    have hU : U (hi (a * a)) := by unfold U hi; omega
    have E1 := Lib.hid (show lo (hi (a * a)) = hi (a * a) from lo_U hU)
    have E2 := Lib.hid (show lo (hi (-a * a)) = lo (hi (-(a * a))) by rw [Int.neg_mul])
    have E3 := Lib.hid (show lo (-a * a) = lo (-(a * a)) by rw [Int.neg_mul])
    have E4 := Lib.hid (neg_lo (a * a))
    have E5 := Lib.hid (neg_hi hU)
    have E6 := Lib.hid (show 0 ≤ hi (bits .xor .u64 IntKind.u64.max (lo (a * a)) + 1) ∧ hi (bits .xor .u64 IntKind.u64.max (lo (a * a)) + 1) ≤ 1 by rw [not_val (U_lo _)]; have h := U_lo (a * a); unfold U at h; unfold hi; omega)
    have E7 := Lib.hid (show mk (decide (9223372036854775808 ≤ hi (a * a))) = 0 by rw [decide_eq_false (by unfold hi; omega)]; rfl)
    clear hq
    go_enter Tryd.func8, Tryd.ntmps8
    go_wp2_with (fail)
    refine (cMulSigned a a (hi (a * a)) (lo (a * a)) ha ha E1.out rfl _ hw).mono ?_
    rintro e w1 ⟨rfl, h1⟩
    have hw1 := hw.below h1
    go_wp2_with (fail)
    refine (cMulSigned (-a) a (lo (hi (-(a * a)))) (lo (-(a * a))) hsa ha E2.out E3.out _ hw1).mono ?_
    rintro e w2 ⟨rfl, h2⟩
    have hw2 := hw1.below h2
    go_wp2_with (fail)
    refine (cAdd _ 1 0 (lo (-(a * a))) (hi (bits .xor .u64 IntKind.u64.max (lo (a * a)) + 1)) (U_xor U_max (U_lo _)) U_one U_zero (by simpa using E4.out) (by simp) _).mono ?_
    rintro e w' ⟨rfl, hw'⟩
    obtain rfl := hw'.symm
    go_wp2_with (fail)
    refine (cAddc _ _ (lo (hi (-(a * a)))) _ (U_xor U_max hU) E6.out E5.out rfl _).mono ?_
    rintro e w' ⟨rfl, hw'⟩
    obtain rfl := hw'.symm
    go_wp2_with (fail)
    refine (alive2 _ hw2).mono ?_
    rintro e w3 ⟨rfl, h3⟩
    have hw3 := hw2.below h3
    go_wp2_with (fail)
    refine (cFill _ 0 hU E7.out _ hw3).mono ?_
    rintro e w' ⟨rfl, n, rfl⟩
    go_wp2
    go_ret
    exact ⟨rfl, below_drewN' ((h1.trans (h2.mono h1.size)).trans (h3.mono (Nat.le_trans h1.size h2.size))) n⟩
end Go.Proofs.YtgekbdlomkdeeaaDoor
