/-
  Contracts of package network over the landed code: Size, exists, Rounds, comparator.
-/
import Derived.Test.YthcckgehlfikcaaDoorNetD
namespace Go.Proofs.YthcckgehlfikcaaDoor
open Go.RowKit
set_option maxRecDepth 100000
set_option linter.unusedVariables false
set_option linter.unusedSimpArgs false

theorem bitsLen_any (x : Int) (hx : U x) (w : World) : Calls Tryd.prog 22 #[.int .u64 x] w fun e w' => e = .returned (.int .i64 (bl x.toNat)) ∧ w' = w := by
  go_enter Tryd.func22, Tryd.ntmps22
  go_wp2_with (fail)
  refine (len64_any x hx w).mono ?_
  rintro e w' ⟨rfl, hw'⟩
  obtain rfl := hw'.symm
  go_wp2
  go_ret
  exact ⟨rfl, rfl⟩
theorem netSize_p (n r : Int) (w : World) (hr : sizeN n = r) : Calls Tryd.prog 10 #[.int .i64 n] w fun e w' => e = .returned (.int .i64 r) ∧ w' = w := by
  have HR := Lib.hid hr
  clear hr
  by_cases h1 : 1 ≤ n
  · by_cases h2 : n ≤ 4096
    · have hd1 : decide (n < 1) = false := decide_eq_false (by omega)
      have hd2 : decide (4096 < n) = false := decide_eq_false (by omega)
      have hu : U (n - 1) := by unfold U; omega
      have hle : bl (n - 1).toNat ≤ 12 := by
        by_cases e : bl (n - 1).toNat ≤ 12
        · exact e
        · have h0 : 0 < (n - 1).toNat := by
            by_cases e0 : (n - 1).toNat = 0
            · rw [e0] at e; simp [bl] at e
            · omega
          have := (bl_bd h0).1
          have := Nat.pow_le_pow_right (n := 2) (by omega) (show 12 ≤ bl (n - 1).toNat - 1 by omega)
          omega
      have HS := Lib.hid (show sizeN n = (2 ^ bl (n - 1).toNat : Nat) by unfold sizeN; rw [if_pos ⟨h1, h2⟩, bl_lgN h1 h2])
      go_enter Tryd.func10, Tryd.ntmps10
      go_wp2_with (fail)
      refine (bitsLen_any (n - 1) hu w).mono ?_
      rintro e w' ⟨rfl, hw'⟩
      obtain rfl := hw'.symm
      generalize bl (n - 1).toNat = s at hle HS
      have hp := pow_le_4096 hle
      go_wp2
      go_ret
      have hp2 : (2 : Int) ^ s ≤ 4096 := by exact_mod_cast hp
      have hp3 : (0 : Int) ≤ 2 ^ s := Int.pow_nonneg (by decide)
      exact ⟨by rw [← HR.out, HS.out]; refine ret_int ?_; push_cast; generalize (2 : Int) ^ s = z at *; simp only [wrap64]; omega, rfl⟩
    · have hd1 : decide (n < 1) = false := decide_eq_false (by omega)
      have hd2 : decide (4096 < n) = true := decide_eq_true (by omega)
      have HS := Lib.hid (show sizeN n = 0 by unfold sizeN; rw [if_neg (by omega)])
      go_enter Tryd.func10, Tryd.ntmps10
      go_wp2
      go_ret
      exact ⟨by rw [← HR.out, HS.out]; rfl, rfl⟩
  · have hd1 : decide (n < 1) = true := decide_eq_true (by omega)
    have HS := Lib.hid (show sizeN n = 0 by unfold sizeN; rw [if_neg (by omega)])
    go_enter Tryd.func10, Tryd.ntmps10
    go_wp2
    go_ret
    exact ⟨by rw [← HR.out, HS.out]; rfl, rfl⟩
theorem netSize_c (n r : Int) (w : World) (hr : sizeN n = r) : Calls Tryd.prog 10 #[.int .i64 n] w fun e w' => e = .returned (.int .i64 r) ∧ Below w.heap.size w w' :=
  (netSize_p n r w hr).mono fun e w' h => ⟨h.1, by rw [h.2]; exact Below.refl _ _⟩
theorem isN_size {n : Int} (h : 0 < n) : isN n = (n == sizeN n) := by
  rw [Bool.eq_iff_iff, isN_iff, beq_iff_eq]
  constructor
  · rintro ⟨r, hr, rfl⟩
    have := pow_le_4096 hr
    unfold sizeN
    rw [if_pos ⟨by omega, by omega⟩, lgN_pow hr]
  · intro e
    unfold sizeN at e
    split at e
    · rename_i h2
      refine ⟨lgN n, ?_, e⟩
      by_cases hl : lgN n ≤ 12
      · exact hl
      · have := Nat.pow_lt_pow_right (a := 2) (by omega) (show 12 < lgN n by omega); omega
    · omega
theorem isN_neg {n : Int} (h : n ≤ 0) : isN n = false := by
  cases e : isN n with
  | false => rfl
  | true => obtain ⟨r, _, hr⟩ := (isN_iff n).1 e; have : 0 < 2 ^ r := Nat.pos_of_neZero _; omega
theorem exists_any (n : Int) (w : World) (r : Bool) (hr : isN n = r) : Calls Tryd.prog 25 #[.int .i64 n] w fun e w' => e = .returned (.bool r) ∧ w' = w := by
  by_cases h : 0 < n
  · have hd : decide (0 < n) = true := decide_eq_true h
    rw [isN_size h] at hr
    have HR := Lib.hid hr
    clear hr
    go_enter Tryd.func25, Tryd.ntmps25
    go_wp2_with (fail)
    refine (netSize_p n _ w rfl).mono ?_
    rintro e w' ⟨rfl, hw'⟩
    obtain rfl := hw'.symm
    generalize sizeN n = s at HR
    go_wp2
    go_ret
    exact ⟨by rw [← HR.out]; rfl, rfl⟩
  · have hd : decide (0 < n) = false := decide_eq_false h
    rw [isN_neg (by omega)] at hr
    subst hr
    go_enter Tryd.func25, Tryd.ntmps25
    go_wp2
    go_ret
    exact ⟨rfl, rfl⟩
set_option maxHeartbeats 1000000 in
theorem comparator_any (i p k a : Nat) (hk : k = 2 ^ a) (ha : a ≤ 12) (hi : i < 4096) (c : Nat × Nat) (hc : cmpP i p k = c) (w : World) :
    Calls Tryd.prog 26 #[.int .i64 i, .int .i64 p, .int .i64 k] w fun e w' => e = .returned (.agg #[.int .i64 (c.1 : Nat), .int .i64 (c.2 : Nat)]) ∧ Below w.heap.size w w' := by
  have hk2 : k ≤ 4096 := by rw [hk]; exact pow_le_4096 ha
  have e : bits .and .i64 (i : Int) (k : Int) = ((i &&& k : Nat) : Int) := and_i hi hk2
  have e2 : (i &&& k = 0) = (i / k % 2 = 0) := by rw [hk]; exact and_pow a i
  have HC := Lib.hid hc
  clear hc hk
  by_cases h : i / k % 2 = 0
  · have hd : ((((i &&& k : Nat) : Int)) == 0) = true := by rw [beq_iff_eq]; have := e2.mpr h; omega
    have HP := Lib.hid (show cmpP i p k = (i, p) by unfold cmpP; rw [if_pos h])
    clear h e2
    generalize i &&& k = m at e hd
    go_enter Tryd.func26, Tryd.ntmps26
    go_wp2
    exact bodyPost_ret (v := .agg #[.int .i64 (i : Int), .int .i64 (p : Int)]) (by simp [results, Tryd.results26, go_sem]) rfl ⟨by rw [← HC.out, HP.out], (Below.refl _ _).alloc (Nat.le_refl _) _⟩
  · have hd : ((((i &&& k : Nat) : Int)) == 0) = false := by rw [beq_eq_false_iff_ne]; intro h2; exact h (e2.mp (by omega))
    have HP := Lib.hid (show cmpP i p k = (p, i) by unfold cmpP; rw [if_neg h])
    clear h e2
    generalize i &&& k = m at e hd
    go_enter Tryd.func26, Tryd.ntmps26
    go_wp2
    exact bodyPost_ret (v := .agg #[.int .i64 (p : Int), .int .i64 (i : Int)]) (by simp [results, Tryd.results26, go_sem]) rfl ⟨by rw [← HC.out, HP.out], (Below.refl _ _).alloc (Nat.le_refl _) _⟩
/-! ### Rounds -/
/-- Where the table holds the exponents. -/
def tzI : List Nat := [0, 1, 3, 7, 15, 31, 63, 62, 61, 59, 55, 47, 30]
theorem tz_and : ∀ q : Fin 13, bits .and .u64 ((2 ^ q.val : Nat) : Int) (IntKind.u64.wrap (-((2 ^ q.val : Nat) : Int))) = ((2 ^ q.val : Nat) : Int) := by decide +kernel
theorem tz_mul : ∀ q : Fin 13, IntKind.u64.wrap (((2 ^ q.val : Nat) : Int) * 285870213051353865) / 288230376151711744 = (tzI.getD q.val 0 : Nat) := by decide +kernel
theorem tz_lt : ∀ q : Fin 13, tzI.getD q.val 0 < 64 := by decide +kernel
def isU8 (o : Option Value) (q : Nat) : Bool := match o with | some (.int .u8 z) => z == q | _ => false
theorem isU8_eq {o : Option Value} {q : Nat} (h : isU8 o q = true) : o = some (.int .u8 q) := by
  unfold isU8 at h
  split at h
  · rw [beq_iff_eq] at h; rw [h]
  · cases h
theorem tz_tab : ∀ q : Fin 13, (seatTabs.any fun p => p.1 == 2 && isU8 (p.2[tzI.getD q.val 0]?) q.val) = true := by decide +kernel
theorem tz_cell {w : World} (hw : Wts w) (q : Fin 13) : w.cell? ⟨2, tzI.getD q.val 0, none⟩ = some (.int .u8 q.val) := by
  obtain ⟨p, hp, h⟩ := List.any_eq_true.1 (tz_tab q)
  rw [Bool.and_eq_true, beq_iff_eq] at h
  have := hw.2 p hp _ _ (isU8_eq h.2)
  rwa [h.1] at this
set_option maxHeartbeats 1000000 in
theorem tz64_any (q : Fin 13) (w : World) (hw : Wts w) : Calls Tryd.prog 37 #[.int .u64 (2 ^ q.val : Nat)] w fun e w' => e = .returned (.int .i64 q.val) ∧ w' = w := by
  have e1 := tz_and q
  have e2 := tz_mul q
  have hlt := tz_lt q
  have hc := tz_cell hw q
  have hq := q.isLt
  have hx : 0 < 2 ^ q.val := Nat.pos_of_neZero _
  generalize 2 ^ q.val = x at e1 e2 hx
  generalize tzI.getD q.val 0 = i at e2 hlt hc
  generalize q.val = r at hc hq
  have hd : ((x : Int) == 0) = false := by rw [beq_eq_false_iff_ne]; omega
  go_enter Tryd.func37, Tryd.ntmps37
  go_wp2
  go_ret
  exact ⟨rfl, rfl⟩
theorem tz_any (q : Fin 13) (w : World) (hw : Wts w) : Calls Tryd.prog 30 #[.int .u64 (2 ^ q.val : Nat)] w fun e w' => e = .returned (.int .i64 q.val) ∧ w' = w := by
  have h := tz64_any q w hw
  generalize ((2 ^ q.val : Nat) : Int) = x at h ⊢
  go_enter Tryd.func30, Tryd.ntmps30
  go_wp2_with (fail)
  refine h.mono ?_
  rintro e w' ⟨rfl, hw'⟩
  obtain rfl := hw'.symm
  go_wp2
  go_ret
  exact ⟨rfl, rfl⟩
theorem netRounds_c (n r : Int) (w : World) (hw : Wts w) (hr : roundsN n = r) : Calls Tryd.prog 21 #[.int .i64 n] w fun e w' => e = .returned (.int .i64 r) ∧ Below w.heap.size w w' := by
  have HR := Lib.hid hr
  clear hr
  obtain ⟨b, hb⟩ : ∃ b, isN n = b := ⟨_, rfl⟩
  cases b with
  | false =>
    have HV := Lib.hid (show roundsN n = 0 by unfold roundsN; rw [hb]; rfl)
    go_enter Tryd.func21, Tryd.ntmps21
    go_wp2_with (fail)
    refine (exists_any n w false hb).mono ?_
    rintro e w' ⟨rfl, hw'⟩
    obtain rfl := hw'.symm
    go_wp2
    go_ret
    exact ⟨by rw [← HR.out, HV.out]; rfl, Below.refl _ _⟩
  | true =>
    obtain ⟨q, hq, hn⟩ := (isN_iff n).1 hb
    have HV := Lib.hid (show roundsN n = (q * (q + 1) / 2 : Nat) by unfold roundsN; rw [hb, hn, lgN_pow hq]; rfl)
    have hz := tz_any ⟨q, by omega⟩ w hw
    have hp := pow_le_4096 hq
    have hp0 : 0 < 2 ^ q := Nat.pos_of_neZero _
    have hn1 : 0 ≤ n := by rw [hn]; exact Int.natCast_nonneg _
    have hn2 : n ≤ 4096 := by rw [hn]; exact_mod_cast hp
    rw [← hn] at hz
    have HB := Lib.hid hb
    clear hb hn hp
    go_enter Tryd.func21, Tryd.ntmps21
    go_wp2_with (fail)
    refine (exists_any n w true HB.out).mono ?_
    rintro e w' ⟨rfl, hw'⟩
    obtain rfl := hw'.symm
    go_wp2_with (fail)
    refine hz.mono ?_
    rintro e w' ⟨rfl, hw'⟩
    obtain rfl := hw'.symm
    have hm1 : (q : Int) * ((q : Int) + 1) ≤ 156 := by have := Nat.mul_le_mul hq (show q + 1 ≤ 13 by omega); exact_mod_cast this
    have hm0 : (0 : Int) ≤ (q : Int) * ((q : Int) + 1) := by exact_mod_cast Nat.zero_le (q * (q + 1))
    go_wp2
    go_ret
    exact ⟨by rw [← HR.out, HV.out]; refine ret_int ?_; push_cast; rfl, Below.refl _ _⟩
end Go.Proofs.YthcckgehlfikcaaDoor
