/-
  Contracts of the functions of package word: what each returns, for every argument.
-/
import Derived.Test.YtdcckjpeibnkbaaDoorMask
import Derived.Test.YtdcckjpeibnkbaaDoorArith
import Derived.Shelf.Spec.BitsCarry
import Derived.Laws.MathBits
import Derived.Defers
import Derived.Recover
namespace Go.Proofs.YtdcckjpeibnkbaaDoor
open Go.RowKit

theorem add64_run (x y c : Int) (hx : U x) (hy : U y) (h0 : 0 ≤ c) (h1 : c ≤ 1) (w : World) :
    (callFunc 60 #[.int .u64 x, .int .u64 y, .int .u64 c]).run Tryd.prog w = .ok (.value (.tuple #[.int .u64 (lo (x + y + c)), .int .u64 (hi (x + y + c))])) w := by
  rw [run_callFunc_extern Tryd.func60 (by kernel_rfl) (by kernel_rfl) (by kernel_rfl) (e := add64Entry) (by kernel_rfl), run_add64 x y c hx.1 hy.1 h0 h1]
  rfl
theorem sub64_run (x y c : Int) (hx : U x) (hy : U y) (h0 : 0 ≤ c) (h1 : c ≤ 1) (w : World) :
    (callFunc 54 #[.int .u64 x, .int .u64 y, .int .u64 c]).run Tryd.prog w = .ok (.value (.tuple #[.int .u64 (lo (x - y - c)), .int .u64 (bo (x - y - c))])) w := by
  rw [run_callFunc_extern Tryd.func54 (by kernel_rfl) (by kernel_rfl) (by kernel_rfl) (e := sub64Entry) (by kernel_rfl)]
  rw [bo_iff hx hy h0 h1]
  obtain ⟨hx0, hx1⟩ := hx
  obtain ⟨hy0, hy1⟩ := hy
  obtain ⟨x, rfl⟩ := Int.eq_ofNat_of_zero_le hx0
  obtain ⟨y, rfl⟩ := Int.eq_ofNat_of_zero_le hy0
  obtain ⟨c, rfl⟩ := Int.eq_ofNat_of_zero_le h0
  rw [run_sub64 x y c (by omega)]
  simp only [Result.andThen]
  have e1 : (((x + 18446744073709551616 - y - c) % 18446744073709551616 : Nat) : Int) = lo ((x : Int) - y - c) := by unfold lo; omega
  have e2 : ((if x < y + c then 1 else 0 : Nat) : Int) = if (x : Int) < y + c then 1 else 0 := by split <;> split <;> omega
  rw [e1, e2]

theorem wordAdd_any (a b c : Int) (ha : U a) (hb : U b) (hc : U c) (w : World) :
    Calls Tryd.prog 51 #[.int .u64 a, .int .u64 b, .int .u64 c] w fun e w' => e = .returned (.tuple #[.int .u64 (lo (a + b + c % 2)), .int .u64 (hi (a + b + c % 2))]) ∧ w' = w := by
  have h0 := (mod2 c).1
  have h1 := (mod2 c).2
  go_enter Tryd.func51, Tryd.ntmps51
  go_wp2_with (fail)
  refine (bit_any _ hc _).mono ?_
  rintro e w' ⟨rfl, hw1⟩
  obtain rfl := hw1.symm
  go_wp2_with (simp only [add64_run a b _ ha hb h0 h1])
  go_ret2
  exact ⟨rfl, rfl⟩
theorem wordSub_any (a b c : Int) (ha : U a) (hb : U b) (hc : U c) (w : World) :
    Calls Tryd.prog 46 #[.int .u64 a, .int .u64 b, .int .u64 c] w fun e w' => e = .returned (.tuple #[.int .u64 (lo (a - b - c % 2)), .int .u64 (bo (a - b - c % 2))]) ∧ w' = w := by
  have h0 := (mod2 c).1
  have h1 := (mod2 c).2
  go_enter Tryd.func46, Tryd.ntmps46
  go_wp2_with (fail)
  refine (bit_any _ hc _).mono ?_
  rintro e w' ⟨rfl, hw1⟩
  obtain rfl := hw1.symm
  go_wp2_with (simp only [sub64_run a b _ ha hb h0 h1])
  go_ret2
  exact ⟨rfl, rfl⟩

theorem ret_pair {k l : IntKind} {a b c d : Int} (h : a = c) (h' : b = d) : Ending.returned (.tuple #[.int k a, .int l b]) = .returned (.tuple #[.int k c, .int l d]) := by rw [h, h']
theorem mul64_any (a b : Int) (ha : U a) (hb : U b) (w : World) :
    Calls Tryd.prog 64 #[.int .u64 a, .int .u64 b] w fun e w' => e = .returned (.tuple #[.int .u64 (hi (a * b)), .int .u64 (lo (a * b))]) ∧ w' = w := by
  obtain ⟨ha0, ha1⟩ := ha
  obtain ⟨hb0, hb1⟩ := hb
  have HA := Lib.hid (mul64_arith a b ha0 (by omega) hb0 (by omega))
  have ea := and_low32 a ha0 (by omega)
  have eb := and_low32 b hb0 (by omega)
  go_enter Tryd.func64, Tryd.ntmps64
  go_wp2
  go_ret2
  refine ⟨ret_pair ?_ (wrap_lo _), rfl⟩
  simp only [wrap_u]
  rw [and_low32 _ (by omega) (by omega)]
  exact HA.out
theorem wordMul_any (a b : Int) (ha : U a) (hb : U b) (w : World) :
    Calls Tryd.prog 62 #[.int .u64 a, .int .u64 b] w fun e w' => e = .returned (.tuple #[.int .u64 (hi (a * b)), .int .u64 (lo (a * b))]) ∧ w' = w := by
  go_enter Tryd.func62, Tryd.ntmps62
  go_wp2_with (fail)
  refine (mul64_any _ _ ha hb _).mono ?_
  rintro e w' ⟨rfl, hw1⟩
  obtain rfl := hw1.symm
  go_wp2
  go_ret2
  exact ⟨rfl, rfl⟩
theorem wordAdd0_any (a b : Int) (ha : U a) (hb : U b) (w : World) :
    Calls Tryd.prog 51 #[.int .u64 a, .int .u64 b, .int .u64 0] w fun e w' => e = .returned (.tuple #[.int .u64 (lo (a + b)), .int .u64 (hi (a + b))]) ∧ w' = w := by
  have h := wordAdd_any a b 0 ha hb U_zero w
  have e : a + b + 0 % 2 = a + b := by omega
  rw [e] at h
  exact h
theorem wordMulAdd_any (a b c d : Int) (ha : U a) (hb : U b) (hc : U c) (hd : U d) (w : World) :
    Calls Tryd.prog 58 #[.int .u64 a, .int .u64 b, .int .u64 c, .int .u64 d] w fun e w' => e = .returned (.tuple #[.int .u64 (hi (a * b + c + d)), .int .u64 (lo (a * b + c + d))]) ∧ w' = w := by
  go_enter Tryd.func58, Tryd.ntmps58
  go_wp2_with (fail)
  refine (wordMul_any _ _ ha hb _).mono ?_
  rintro e w' ⟨rfl, hw1⟩
  obtain rfl := hw1.symm
  go_wp2_with (fail)
  refine (wordAdd0_any _ _ (U_lo _) hc _).mono ?_
  rintro e w' ⟨rfl, hw1⟩
  obtain rfl := hw1.symm
  go_wp2_with (fail)
  refine (wordAdd0_any _ _ (U_lo _) hd _).mono ?_
  rintro e w' ⟨rfl, hw1⟩
  obtain rfl := hw1.symm
  go_wp2
  go_ret2
  have hp := prod_le ha hb
  exact ⟨ret_pair (by rw [wrap_lo, wrap_lo]; exact mulAdd_hi hp.1 hp.2 hc hd) (mulAdd_lo _ _ _), rfl⟩
theorem wordFill_any (a : Int) (ha : U a) (w : World) (hw : Wts w) :
    Calls Tryd.prog 61 #[.int .u64 a] w fun e w' => e = .returned (.int .u64 (mk (decide (9223372036854775808 ≤ a)))) ∧ ∃ n, w' = w.drewN n := by
  go_enter Tryd.func61, Tryd.ntmps61
  go_wp2_with (fail)
  refine (of_any _ (U_shr63 ha) _ (by exact hw)).mono ?_
  rintro e w' ⟨rfl, n1, rfl⟩
  go_wp2
  go_ret
  exact ⟨ret_int (by congr 1; rw [decide_eq_decide]; unfold U at ha; omega), _, rfl⟩
end Go.Proofs.YtdcckjpeibnkbaaDoor
