/-
  Contracts of package network over the landed code: Size, exists, Rounds, comparator.
-/
import Derived.Test.YthdghhfdbckilaaDoorNetD
namespace Go.Proofs.YthdghhfdbckilaaDoor
open Go.RowKit
set_option maxRecDepth 100000
set_option linter.unusedVariables false
set_option linter.unusedSimpArgs false

theorem bitsLen_any (x : Int) (hx : U x) (w : World) : Calls Tryd.prog 51 #[.int .u64 x] w fun e w' => e = .returned (.int .i64 (bl x.toNat)) ∧ w' = w := by
  go_enter Tryd.func51, Tryd.ntmps51
  go_wp2_with (fail)
  refine (len64_any x hx w).mono ?_
  rintro e w' ⟨rfl, hw'⟩
  obtain rfl := hw'.symm
  go_wp2
  go_ret
  exact ⟨rfl, rfl⟩
theorem netSize_p (n r : Int) (w : World) (hr : sizeN n = r) : Calls Tryd.prog 46 #[.int .i64 n] w fun e w' => e = .returned (.int .i64 r) ∧ w' = w := by
  have HR := Lib.hid hr
  clear hr
  by_cases h1 : 1 ≤ n
  · by_cases h2 : n ≤ 4096
    · have hd1 : decide (n < 1) = false := decide_eq_false (by omega)
      have hd2 : decide (4096 < n) = false := decide_eq_false (by omega)
      have hu : U (n - 1) := by unfold U; omega
      have hle : bl (n - 1).toNat ≤ 12 := by
        by_cases e : bl (n - 1).toNat ≤ 12
        · exact e
        · have h0 : 0 < (n - 1).toNat := by
            by_cases e0 : (n - 1).toNat = 0
            · rw [e0] at e; simp [bl] at e
            · omega
          have := (bl_bd h0).1
          have := Nat.pow_le_pow_right (n := 2) (by omega) (show 12 ≤ bl (n - 1).toNat - 1 by omega)
          omega
      have HS := Lib.hid (show sizeN n = (2 ^ bl (n - 1).toNat : Nat) by unfold sizeN; rw [if_pos ⟨h1, h2⟩, bl_lgN h1 h2])
      go_enter Tryd.func46, Tryd.ntmps46
      go_wp2_with (fail)
      refine (bitsLen_any (n - 1) hu w).mono ?_
      rintro e w' ⟨rfl, hw'⟩
      obtain rfl := hw'.symm
      generalize bl (n - 1).toNat = s at hle HS
      have hp := pow_le_4096 hle
      go_wp2
      go_ret
      have hp2 : (2 : Int) ^ s ≤ 4096 := by exact_mod_cast hp
      have hp3 : (0 : Int) ≤ 2 ^ s := Int.pow_nonneg (by decide)
      exact ⟨by rw [← HR.out, HS.out]; refine ret_int ?_; push_cast; generalize (2 : Int) ^ s = z at *; simp only [wrap64]; omega, rfl⟩
    · have hd1 : decide (n < 1) = false := decide_eq_false (by omega)
      have hd2 : decide (4096 < n) = true := decide_eq_true (by omega)
      have HS := Lib.hid (show sizeN n = 0 by unfold sizeN; rw [if_neg (by omega)])
      go_enter Tryd.func46, Tryd.ntmps46
      go_wp2
      go_ret
      exact ⟨by rw [← HR.out, HS.out]; rfl, rfl⟩
  · have hd1 : decide (n < 1) = true := decide_eq_true (by omega)
    have HS := Lib.hid (show sizeN n = 0 by unfold sizeN; rw [if_neg (by omega)])
    go_enter Tryd.func46, Tryd.ntmps46
    go_wp2
    go_ret
    exact ⟨by rw [← HR.out, HS.out]; rfl, rfl⟩
theorem netSize_c (n r : Int) (w : World) (hr : sizeN n = r) : Calls Tryd.prog 46 #[.int .i64 n] w fun e w' => e = .returned (.int .i64 r) ∧ Below w.heap.size w w' :=
  (netSize_p n r w hr).mono fun e w' h => ⟨h.1, by rw [h.2]; exact Below.refl _ _⟩
theorem isN_size {n : Int} (h : 0 < n) : isN n = (n == sizeN n) := by
  rw [Bool.eq_iff_iff, isN_iff, beq_iff_eq]
  constructor
  · rintro ⟨r, hr, rfl⟩
    have := pow_le_4096 hr
    unfold sizeN
    rw [if_pos ⟨by omega, by omega⟩, lgN_pow hr]
  · intro e
    unfold sizeN at e
    split at e
    · rename_i h2
      refine ⟨lgN n, ?_, e⟩
      by_cases hl : lgN n ≤ 12
      · exact hl
      · have := Nat.pow_lt_pow_right (a := 2) (by omega) (show 12 < lgN n by omega); omega
    · omega
theorem isN_neg {n : Int} (h : n ≤ 0) : isN n = false := by
  cases e : isN n with
  | false => rfl
  | true => obtain ⟨r, _, hr⟩ := (isN_iff n).1 e; have : 0 < 2 ^ r := Nat.pos_of_neZero _; omega
theorem exists_any (n : Int) (w : World) (r : Bool) (hr : isN n = r) : Calls Tryd.prog 48 #[.int .i64 n] w fun e w' => e = .returned (.bool r) ∧ w' = w := by
  by_cases h : 0 < n
  · have hd : decide (0 < n) = true := decide_eq_true h
    rw [isN_size h] at hr
    have HR := Lib.hid hr
    clear hr
    go_enter Tryd.func48, Tryd.ntmps48
    go_wp2_with (fail)
    refine (netSize_p n _ w rfl).mono ?_
    rintro e w' ⟨rfl, hw'⟩
    obtain rfl := hw'.symm
    generalize sizeN n = s at HR
    go_wp2
    go_ret
    exact ⟨by rw [← HR.out]; rfl, rfl⟩
  · have hd : decide (0 < n) = false := decide_eq_false h
    rw [isN_neg (by omega)] at hr
    subst hr
    go_enter Tryd.func48, Tryd.ntmps48
    go_wp2
    go_ret
    exact ⟨rfl, rfl⟩
set_option maxHeartbeats 1000000 in
theorem comparator_any (i p k a : Nat) (hk : k = 2 ^ a) (ha : a ≤ 12) (hi : i < 4096) (c : Nat × Nat) (hc : cmpP i p k = c) (w : World) :
    Calls Tryd.prog 49 #[.int .i64 i, .int .i64 p, .int .i64 k] w fun e w' => e = .returned (.agg #[.int .i64 (c.1 : Nat), .int .i64 (c.2 : Nat)]) ∧ Below w.heap.size w w' := by
  have hk2 : k ≤ 4096 := by rw [hk]; exact pow_le_4096 ha
  have e : bits .and .i64 (i : Int) (k : Int) = ((i &&& k : Nat) : Int) := and_i hi hk2
  have e2 : (i &&& k = 0) = (i / k % 2 = 0) := by rw [hk]; exact and_pow a i
  have HC := Lib.hid hc
  clear hc hk
  by_cases h : i / k % 2 = 0
  · have hd : ((((i &&& k : Nat) : Int)) == 0) = true := by rw [beq_iff_eq]; have := e2.mpr h; omega
    have HP := Lib.hid (show cmpP i p k = (i, p) by unfold cmpP; rw [if_pos h])
    clear h e2
    generalize i &&& k = m at e hd
    go_enter Tryd.func49, Tryd.ntmps49
    go_wp2
    exact bodyPost_ret (v := .agg #[.int .i64 (i : Int), .int .i64 (p : Int)]) (by simp [results, Tryd.results49, go_sem]) rfl ⟨by rw [← HC.out, HP.out], (Below.refl _ _).alloc (Nat.le_refl _) _⟩
  · have hd : ((((i &&& k : Nat) : Int)) == 0) = false := by rw [beq_eq_false_iff_ne]; intro h2; exact h (e2.mp (by omega))
    have HP := Lib.hid (show cmpP i p k = (p, i) by unfold cmpP; rw [if_neg h])
    clear h e2
    generalize i &&& k = m at e hd
    go_enter Tryd.func49, Tryd.ntmps49
    go_wp2
    exact bodyPost_ret (v := .agg #[.int .i64 (p : Int), .int .i64 (i : Int)]) (by simp [results, Tryd.results49, go_sem]) rfl ⟨by rw [← HC.out, HP.out], (Below.refl _ _).alloc (Nat.le_refl _) _⟩
/-! ### Rounds -/
/-- Where the table holds the exponents. -/
def tzI : List Nat := [0, 1, 3, 7, 15, 31, 63, 62, 61, 59, 55, 47, 30]
theorem tz_and : ∀ q : Fin 13, bits .and .u64 ((2 ^ q.val : Nat) : Int) (IntKind.u64.wrap (-((2 ^ q.val : Nat) : Int))) = ((2 ^ q.val : Nat) : Int) := by decide +kernel
theorem tz_mul : ∀ q : Fin 13, IntKind.u64.wrap (((2 ^ q.val : Nat) : Int) * 285870213051353865) / 288230376151711744 = (tzI.getD q.val 0 : Nat) := by decide +kernel
theorem tz_lt : ∀ q : Fin 13, tzI.getD q.val 0 < 64 := by decide +kernel
def isU8 (o : Option Value) (q : Nat) : Bool := match o with | some (.int .u8 z) => z == q | _ => false
theorem isU8_eq {o : Option Value} {q : Nat} (h : isU8 o q = true) : o = some (.int .u8 q) := by
  unfold isU8 at h
  split at h
  · rw [beq_iff_eq] at h; rw [h]
  · cases h
end Go.Proofs.YthdghhfdbckilaaDoor
