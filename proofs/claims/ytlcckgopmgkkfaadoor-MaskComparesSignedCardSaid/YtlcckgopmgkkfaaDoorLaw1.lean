/-
  The walks of the laws of layer 1: each returns true, out of the contracts of package mask; the world is left but for draws.
-/
import Derived.Test.YtlcckgopmgkkfaaDoorMask
import Derived.Lib.MinMax
namespace Go.Proofs.YtlcckgopmgkkfaaDoor
open Go.RowKit

theorem less12 (w : World) (hw : Wts w) : Calls Tryd.prog 18 #[.int .u64 1, .int .u64 2] w fun e w' => e = .returned (.int .u64 18446744073709551615) ∧ ∃ n, w' = w.drewN n :=
  (less_any 1 2 (by unfold U; omega) (by unfold U; omega) w hw).mono fun _ _ ⟨he, hn⟩ => ⟨by rw [he]; rfl, hn⟩
theorem less21 (w : World) (hw : Wts w) : Calls Tryd.prog 18 #[.int .u64 2, .int .u64 1] w fun e w' => e = .returned (.int .u64 0) ∧ ∃ n, w' = w.drewN n :=
  (less_any 2 1 (by unfold U; omega) (by unfold U; omega) w hw).mono fun _ _ ⟨he, hn⟩ => ⟨by rw [he]; rfl, hn⟩
theorem lessS10 (w : World) (hw : Wts w) : Calls Tryd.prog 19 #[.int .i64 (-1), .int .i64 0] w fun e w' => e = .returned (.int .u64 18446744073709551615) ∧ ∃ n, w' = w.drewN n :=
  (lessSigned_any (-1) 0 (by unfold S; omega) (by unfold S; omega) w hw).mono fun _ _ ⟨he, hn⟩ => ⟨by rw [he]; rfl, hn⟩
theorem selFF (w : World) : Calls Tryd.prog 14 #[.int .u64 255, .int .u64 4660, .int .u64 22136] w fun e w' => e = .returned (.int .u64 22068) ∧ w' = w :=
  (select_any 255 4660 22136 w).mono fun _ _ ⟨he, hn⟩ => ⟨by rw [he]; exact ret_int (by decide), hn⟩
theorem sign00 (w : World) (hw : Wts w) : Calls Tryd.prog 21 #[.int .u64 0, .int .u64 0] w fun e w' => e = .returned (.int .i64 1) ∧ ∃ n, w' = w.drewN n :=
  (sign_any 0 0 U_zero U_zero w hw).mono fun _ _ ⟨he, hn⟩ => ⟨by rw [he]; rfl, hn⟩
theorem alive1 (w : World) (hw : Wts w) : Calls Tryd.prog 9 #[] w fun e w' => e = .returned (.bool true) ∧ ∃ n, w' = w.drewN n := by
  go_enter Tryd.func9, Tryd.ntmps9
  go_wp2_with (fail)
  refine (less12 _ (by exact hw)).mono ?_
  rintro e w' ⟨rfl, n1, rfl⟩
  go_wp2_with (fail)
  refine (less21 _ (by exact hw)).mono ?_
  rintro e w' ⟨rfl, n2, rfl⟩
  go_wp2_with (fail)
  refine (lessS10 _ (by exact hw)).mono ?_
  rintro e w' ⟨rfl, n3, rfl⟩
  go_wp2_with (fail)
  refine (selFF _).mono ?_
  rintro e w' ⟨rfl, rfl⟩
  go_wp2_with (fail)
  refine (sign00 _ (by exact hw)).mono ?_
  rintro e w' ⟨rfl, n4, rfl⟩
  go_wp2
  go_ret
  exact ⟨rfl, _, rfl⟩

theorem of_b (a : Int) (ha : U a) (w : World) (hw : Wts w) : Calls Tryd.prog 10 #[.int .u64 a] w fun e w' => e = .returned (.int .u64 (mk (a % 2 == 1))) ∧ ∃ n, w' = w.drewN n := of_any a ha w hw
theorem zero_b (a : Int) (ha : U a) (w : World) (hw : Wts w) : Calls Tryd.prog 16 #[.int .u64 a] w fun e w' => e = .returned (.int .u64 (mk (a == 0))) ∧ ∃ n, w' = w.drewN n := zero_any a ha w hw
theorem equal_b (a b : Int) (ha : U a) (hb : U b) (w : World) (hw : Wts w) : Calls Tryd.prog 17 #[.int .u64 a, .int .u64 b] w fun e w' => e = .returned (.int .u64 (mk (a == b))) ∧ ∃ n, w' = w.drewN n := equal_any a b ha hb w hw
theorem mk_bit (c : Bool) : mk c % 2 = if c then 1 else 0 := by cases c <;> decide
theorem bit_mk (a : Int) (w : World) : Calls Tryd.prog 12 #[.int .u64 (mk (a % 2 == 1))] w fun e w' => e = .returned (.int .u64 (a % 2)) ∧ w' = w :=
  (bit_any _ (U_mk _) w).mono fun _ _ ⟨he, hn⟩ => ⟨by
    rw [he]; apply ret_int; rw [mk_bit]
    have h : a % 2 = 0 ∨ a % 2 = 1 := by omega
    rcases h with h | h <;> rw [h] <;> rfl, hn⟩

theorem law_bits (a : Int) (ha : U a) (w : World) (hw : Wts w) : Calls Tryd.prog 3 #[.int .u64 a] w fun e w' => e = .returned (.bool true) ∧ ∃ n, w' = w.drewN n := by
  have ha0 := ha.1
  go_enter Tryd.func3, Tryd.ntmps3
  go_wp2_with (fail)
  refine (alive1 _ (by exact hw)).mono ?_
  rintro e w' ⟨rfl, n1, rfl⟩
  go_wp2_with (fail)
  refine (of_b _ ha _ (by exact hw)).mono ?_
  rintro e w' ⟨rfl, n2, rfl⟩
  go_wp2_with (fail)
  refine (refMask_any _ _).mono ?_
  rintro e w' ⟨rfl, rfl⟩
  go_wp2_with (fail)
  refine (bit_any _ ha _).mono ?_
  rintro e w' ⟨rfl, rfl⟩
  go_wp2_with (fail)
  refine (of_b _ ha _ (by exact hw)).mono ?_
  rintro e w' ⟨rfl, n3, rfl⟩
  go_wp2_with (fail)
  refine (bit_mk _ _).mono ?_
  rintro e w' ⟨rfl, rfl⟩
  go_wp2
  go_ret
  exact ⟨rfl, _, rfl⟩

theorem law_selects (m a b : Int) (hm : U m) (ha : U a) (hb : U b) (w : World) (hw : Wts w) : Calls Tryd.prog 4 #[.int .u64 m, .int .u64 a, .int .u64 b] w fun e w' => e = .returned (.bool true) ∧ ∃ n, w' = w.drewN n := by
  go_enter Tryd.func4, Tryd.ntmps4
  go_wp2_with (fail)
  refine (swap_any _ _ _ _).mono ?_
  rintro e w' ⟨rfl, rfl⟩
  go_wp2_with (fail)
  refine (alive1 _ (by exact hw)).mono ?_
  rintro e w' ⟨rfl, n1, rfl⟩
  go_wp2_with (fail)
  refine (select_any _ _ _ _).mono ?_
  rintro e w' ⟨rfl, rfl⟩
  go_wp2_with (fail)
  refine (refSelect_any _ _ _ hm ha hb _).mono ?_
  rintro e w' ⟨rfl, rfl⟩
  go_wp2_with (fail)
  refine (refSelect_any _ _ _ hm hb ha _).mono ?_
  rintro e w' ⟨rfl, rfl⟩
  go_wp2_with (fail)
  refine (refSelect_any _ _ _ hm ha hb _).mono ?_
  rintro e w' ⟨rfl, rfl⟩
  go_wp2
  go_ret
  exact ⟨rfl, _, rfl⟩

theorem law_compares (a b : Int) (ha : U a) (hb : U b) (w : World) (hw : Wts w) : Calls Tryd.prog 5 #[.int .u64 a, .int .u64 b] w fun e w' => e = .returned (.bool true) ∧ ∃ n, w' = w.drewN n := by
  go_enter Tryd.func5, Tryd.ntmps5
  go_wp2_with (fail)
  refine (alive1 _ (by exact hw)).mono ?_
  rintro e w' ⟨rfl, n1, rfl⟩
  go_wp2_with (fail)
  refine (zero_b _ ha _ (by exact hw)).mono ?_
  rintro e w' ⟨rfl, n2, rfl⟩
  go_wp2_with (fail)
  refine (refMask_any _ _).mono ?_
  rintro e w' ⟨rfl, rfl⟩
  go_wp2_with (fail)
  refine (equal_b _ _ ha hb _ (by exact hw)).mono ?_
  rintro e w' ⟨rfl, n3, rfl⟩
  go_wp2_with (fail)
  refine (refMask_any _ _).mono ?_
  rintro e w' ⟨rfl, rfl⟩
  go_wp2_with (fail)
  refine (less_any _ _ ha hb _ (by exact hw)).mono ?_
  rintro e w' ⟨rfl, n4, rfl⟩
  go_wp2_with (fail)
  refine (refMask_any _ _).mono ?_
  rintro e w' ⟨rfl, rfl⟩
  go_wp2
  go_ret
  exact ⟨rfl, _, rfl⟩

theorem law_comparesSigned (a b : Int) (ha : S a) (hb : S b) (w : World) (hw : Wts w) : Calls Tryd.prog 6 #[.int .i64 a, .int .i64 b] w fun e w' => e = .returned (.bool true) ∧ ∃ n, w' = w.drewN n := by
  go_enter Tryd.func6, Tryd.ntmps6
  go_wp2_with (fail)
  refine (alive1 _ (by exact hw)).mono ?_
  rintro e w' ⟨rfl, n1, rfl⟩
  go_wp2_with (fail)
  refine (lessSigned_any _ _ ha hb _ (by exact hw)).mono ?_
  rintro e w' ⟨rfl, n2, rfl⟩
  go_wp2_with (fail)
  refine (refMask_any _ _).mono ?_
  rintro e w' ⟨rfl, rfl⟩
  go_wp2_with (fail)
  refine (negative_any _ ha _ (by exact hw)).mono ?_
  rintro e w' ⟨rfl, n3, rfl⟩
  go_wp2_with (fail)
  refine (refMask_any _ _).mono ?_
  rintro e w' ⟨rfl, rfl⟩
  go_wp2
  go_ret
  exact ⟨rfl, _, rfl⟩
theorem sign_c (n z v : Int) (hn : U n) (hz : U z) (h : sgn3 n z = v) (w : World) (hw : Wts w) : Calls Tryd.prog 21 #[.int .u64 n, .int .u64 z] w fun e w' => e = .returned (.int .i64 v) ∧ ∃ k, w' = w.drewN k := by
  subst h; exact sign_any n z hn hz w hw
/-- The sign of a number. -/
def sgi (n : Int) : Int := if n < 0 then -1 else if n = 0 then 0 else 1
theorem sgn3_masks {n : Int} (hn : S n) : sgn3 (mk (decide (n < 0))) (mk (IntKind.u64.wrap n == 0)) = sgi n := by
  unfold sgi
  have h0 : (IntKind.u64.wrap n == 0) = decide (n = 0) := by
    rw [wrap_u]; unfold S at hn
    rw [Bool.eq_iff_iff, beq_iff_eq, decide_eq_true_eq]
    omega
  rw [h0]
  by_cases h1 : n < 0
  · rw [if_pos h1, decide_eq_true h1]
    cases decide (n = 0) <;> decide
  · rw [if_neg h1, decide_eq_false h1]
    by_cases h2 : n = 0
    · rw [if_pos h2, decide_eq_true h2]; decide
    · rw [if_neg h2, decide_eq_false h2]; decide
theorem U_of_S {n : Int} (h : S n) (h0 : 0 ≤ n) : U n := by unfold S at h; unfold U; omega
theorem law_signs (x z n : Int) (hx : U x) (hz : U z) (hn : S n) (w : World) (hw : Wts w) : Calls Tryd.prog 7 #[.int .u64 x, .int .u64 z, .int .i64 n] w fun e w' => e = .returned (.bool true) ∧ ∃ n, w' = w.drewN n := by
  have hx0 := hx.1
  have hz0 := hz.1
  rcases Int.lt_trichotomy n 0 with h | h | h
  · have t1 : (n != 0) = true := by rw [bne_iff_ne]; omega
    have H : Hid (sgn3 (mk true) (mk (IntKind.u64.wrap n == 0)) = -1) := by
      have := sgn3_masks hn
      rw [decide_eq_true h] at this; rw [this]; unfold sgi; rw [if_pos h]; rfl
    go_enter Tryd.func7, Tryd.ntmps7
    go_wp2_with (fail)
    refine (alive1 _ (by exact hw)).mono ?_
    rintro e w' ⟨rfl, n1, rfl⟩
    go_wp2_with (fail)
    refine (sign_any _ _ hx hz _ (by exact hw)).mono ?_
    rintro e w' ⟨rfl, n2, rfl⟩
    go_wp2_with (fail)
    refine (refSign_any _ _ hx0 hz0 _).mono ?_
    rintro e w' ⟨rfl, rfl⟩
    go_wp2_with (fail)
    refine (negative_any _ hn _ (by exact hw)).mono ?_
    rintro e w' ⟨rfl, n3, rfl⟩
    go_wp2_with (fail)
    refine (zero_b _ (U_wrap _) _ (by exact hw)).mono ?_
    rintro e w' ⟨rfl, n4, rfl⟩
    go_wp2_with (fail)
    refine (sign_c _ _ _ (U_mk _) (U_mk _) H.out _ (by exact hw)).mono ?_
    rintro e w' ⟨rfl, n5, rfl⟩
    go_wp2
    go_ret
    exact ⟨rfl, _, rfl⟩
  · have h1 : 0 ≤ n := by omega
    have h2 : n ≤ 0 := by omega
    have t1 : (n != 0) = false := by rw [h]; rfl
    have tz : (n == 0) = true := by rw [h]; rfl
    have dn : decide (n < 0) = false := decide_eq_false (by omega)
    have H : Hid (sgn3 (mk false) (mk true) = 0) := by rfl
    clear h
    go_enter Tryd.func7, Tryd.ntmps7
    go_wp2_with (fail)
    refine (alive1 _ (by exact hw)).mono ?_
    rintro e w' ⟨rfl, n1, rfl⟩
    go_wp2_with (fail)
    refine (sign_any _ _ hx hz _ (by exact hw)).mono ?_
    rintro e w' ⟨rfl, n2, rfl⟩
    go_wp2_with (fail)
    refine (refSign_any _ _ hx0 hz0 _).mono ?_
    rintro e w' ⟨rfl, rfl⟩
    go_wp2_with (fail)
    refine (negative_any _ hn _ (by exact hw)).mono ?_
    rintro e w' ⟨rfl, n3, rfl⟩
    go_wp2_with (fail)
    refine (zero_b _ (U_of_S hn h1) _ (by exact hw)).mono ?_
    rintro e w' ⟨rfl, n4, rfl⟩
    go_wp2_with (fail)
    refine (sign_c _ _ _ (U_mk _) (U_mk _) H.out _ (by exact hw)).mono ?_
    rintro e w' ⟨rfl, n5, rfl⟩
    go_wp2
    go_ret
    exact ⟨rfl, _, rfl⟩
  · have t1 : (n != 0) = true := by rw [bne_iff_ne]; omega
    have tz : (IntKind.u64.wrap n == 0) = false := by rw [beq_eq_false_iff_ne, wrap_u]; unfold S at hn; omega
    have H : Hid (sgn3 (mk false) (mk false) = 1) := by rfl
    have dn : decide (n < 0) = false := decide_eq_false (by omega)
    go_enter Tryd.func7, Tryd.ntmps7
    go_wp2_with (fail)
    refine (alive1 _ (by exact hw)).mono ?_
    rintro e w' ⟨rfl, n1, rfl⟩
    go_wp2_with (fail)
    refine (sign_any _ _ hx hz _ (by exact hw)).mono ?_
    rintro e w' ⟨rfl, n2, rfl⟩
    go_wp2_with (fail)
    refine (refSign_any _ _ hx0 hz0 _).mono ?_
    rintro e w' ⟨rfl, rfl⟩
    go_wp2_with (fail)
    refine (negative_any _ hn _ (by exact hw)).mono ?_
    rintro e w' ⟨rfl, n3, rfl⟩
    go_wp2_with (fail)
    refine (zero_b _ (U_wrap _) _ (by exact hw)).mono ?_
    rintro e w' ⟨rfl, n4, rfl⟩
    go_wp2_with (fail)
    refine (sign_c _ _ _ (U_mk _) (U_mk _) H.out _ (by exact hw)).mono ?_
    rintro e w' ⟨rfl, n5, rfl⟩
    go_wp2
    go_ret
    exact ⟨rfl, _, rfl⟩

theorem swap_c (m a b x y : Int) (h1 : sel m b a = x) (h2 : sel m a b = y) (w : World) : Calls Tryd.prog 13 #[.int .u64 m, .int .u64 a, .int .u64 b] w fun e w' => e = .returned (.tuple #[.int .u64 x, .int .u64 y]) ∧ w' = w := by
  subst h1; subst h2; exact swap_any m a b w
theorem law_swap (m a b : Int) (hm : U m) (ha : U a) (hb : U b) (w : World) (hw : Wts w) : Calls Tryd.prog 8 #[.int .u64 m, .int .u64 a, .int .u64 b] w fun e w' => e = .returned (.bool true) ∧ ∃ n, w' = w.drewN n := by
  have H1 := Lib.hid (sel_swap1 hm ha hb)
  have H2 := Lib.hid (sel_swap2 hm ha hb)
  have hx : (bits BinOp.xor IntKind.u64 (sel m b a) (sel m a b) == bits BinOp.xor IntKind.u64 a b) = true := by rw [sel_xor hm ha hb]; exact beq_self_eq_true _
  by_cases hab : a < b
  · have HS1 : Hid (sel (mk true) b a = b) := sel_true hb ha
    have HS2 : Hid (sel (mk true) a b = a) := sel_true ha hb
    have m1 : (b == max a b) = true := by rw [beq_iff_eq]; omega
    have m2 : (a == min a b) = true := by rw [beq_iff_eq]; omega
    go_enter Tryd.func8, Tryd.ntmps8
    go_wp2_with (fail)
    refine (swap_any _ _ _ _).mono ?_
    rintro e w' ⟨rfl, hw1⟩
    obtain rfl := hw1.symm
    go_wp2_with (fail)
    refine (swap_c _ _ _ _ _ H1.out H2.out _).mono ?_
    rintro e w' ⟨rfl, hw1⟩
    obtain rfl := hw1.symm
    go_wp2_with (fail)
    refine (less_any _ _ ha hb _ (by exact hw)).mono ?_
    rintro e w' ⟨rfl, n1, rfl⟩
    go_wp2_with (fail)
    refine (swap_c _ _ _ _ _ HS1.out HS2.out _).mono ?_
    rintro e w' ⟨rfl, rfl⟩
    go_wp2_with (fail)
    refine (alive1 _ (by exact hw)).mono ?_
    rintro e w' ⟨rfl, n2, rfl⟩
    go_wp2
    go_ret
    exact ⟨rfl, _, rfl⟩
  · have HS1 : Hid (sel (mk false) b a = a) := sel_false hb ha
    have HS2 : Hid (sel (mk false) a b = b) := sel_false ha hb
    have m1 : (a == max a b) = true := by rw [beq_iff_eq]; omega
    have m2 : (b == min a b) = true := by rw [beq_iff_eq]; omega
    have hab' : b ≤ a := by omega
    have dn : decide (a < b) = false := decide_eq_false hab
    clear hab
    go_enter Tryd.func8, Tryd.ntmps8
    go_wp2_with (fail)
    refine (swap_any _ _ _ _).mono ?_
    rintro e w' ⟨rfl, hw1⟩
    obtain rfl := hw1.symm
    go_wp2_with (fail)
    refine (swap_c _ _ _ _ _ H1.out H2.out _).mono ?_
    rintro e w' ⟨rfl, hw1⟩
    obtain rfl := hw1.symm
    go_wp2_with (fail)
    refine (less_any _ _ ha hb _ (by exact hw)).mono ?_
    rintro e w' ⟨rfl, n1, rfl⟩
    go_wp2_with (fail)
    refine (swap_c _ _ _ _ _ HS1.out HS2.out _).mono ?_
    rintro e w' ⟨rfl, rfl⟩
    go_wp2_with (fail)
    refine (alive1 _ (by exact hw)).mono ?_
    rintro e w' ⟨rfl, n2, rfl⟩
    go_wp2
    go_ret
    exact ⟨rfl, _, rfl⟩
end Go.Proofs.YtlcckgopmgkkfaaDoor
