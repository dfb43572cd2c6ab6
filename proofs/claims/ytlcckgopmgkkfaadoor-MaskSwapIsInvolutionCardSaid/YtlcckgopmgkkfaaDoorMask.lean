/-
  Contracts of the functions of package mask, and of the references' Mask and Sign: what each returns, for every argument; the world is left but for draws.
-/
import Derived.Test.YtlcckgopmgkkfaaDoorRows
import Derived.Test.YtlcckgopmgkkfaaDoorBits
import Derived.WalkKit
import Derived.ProofKit
import Derived.Deep.QuietTactic
import Derived.BigQuiet
import Derived.Lib.Hide
namespace Go.Proofs.YtlcckgopmgkkfaaDoor
open Go.RowKit

/-- What the table of weights holds. -/
def Wts (w : World) : Prop := w.cell? ⟨0, 0, none⟩ = some (.int .u64 top) ∧ w.cell? ⟨0, 1, none⟩ = some (.int .u64 ones)
theorem Wts.drewN {w : World} (h : Wts w) (n : Nat) : Wts (w.drewN n) := h
theorem Wts.drew {w : World} (h : Wts w) : Wts w.drew := h
theorem sgn_u64 : IntKind.u64.signed = false := rfl
attribute [local go_sem] sgn_u64
theorem ret_int {k : IntKind} {a b : Int} (h : a = b) : Ending.returned (.int k a) = .returned (.int k b) := by rw [h]
theorem quiet_add {P : Program} {f : FuncId} {args : Array Value} {w : World} {a n : Nat} {v : Value}
    (h : Calls P f args (w.drewN (a + n)) fun e w' => e = .returned v ∧ ∃ m, w' = (w.drewN (a + n)).drewN m) :
    Calls P f args (w.drewN (a + n)) fun e w'' => e = .returned v ∧ ∃ m, w'' = w.drewN (a + m) :=
  h.mono fun _ _ ⟨he, m, hm⟩ => ⟨he, n + m, by rw [hm, World.drewN_drewN, Nat.add_assoc]⟩

theorem bit_any (a : Int) (ha : U a) (w : World) : Calls Tryd.prog 12 #[.int .u64 a] w fun e w' => e = .returned (.int .u64 (a % 2)) ∧ w' = w := by
  go_enter Tryd.func12, Tryd.ntmps12
  go_wp2
  go_ret
  exact ⟨ret_int (bit_raw ha), rfl⟩
theorem of_any (a : Int) (ha : U a) (w : World) (hw : Wts w) : Calls Tryd.prog 10 #[.int .u64 a] w fun e w' => e = .returned (.int .u64 (mk (decide (a % 2 = 1)))) ∧ ∃ n, w' = w.drewN n := by
  obtain ⟨c0, c1⟩ := hw
  go_enter Tryd.func10, Tryd.ntmps10
  go_wp2
  go_quiet ((go_at_call 12; exact Calls.quiet_of_same (bit_any _ ha _)))
  go_wp2
  go_ret
  exact ⟨ret_int (of_raw a), nq, rfl⟩
theorem U_shr63 {a : Int} (h : U a) : U (a / 9223372036854775808) := by unfold U at *; omega
theorem less_any (a b : Int) (ha : U a) (hb : U b) (w : World) (hw : Wts w) : Calls Tryd.prog 18 #[.int .u64 a, .int .u64 b] w fun e w' => e = .returned (.int .u64 (mk (decide (a < b)))) ∧ ∃ n, w' = w.drewN n := by
  go_enter Tryd.func18, Tryd.ntmps18
  go_wp2_with (fail)
  refine (of_any _ ?_ _ hw).mono ?_
  · apply U_shr63
    apply U_or (U_and (U_xor _ ha) hb) (U_and (U_xor _ (U_xor ha hb)) (U_wrap _)) <;> (unfold U; decide)
  rintro e w' ⟨rfl, n, rfl⟩
  go_wp2
  go_ret
  exact ⟨ret_int (by rw [less_raw ha hb]), n, rfl⟩
theorem U_one : U 1 := by unfold U; omega
theorem U_zero : U 0 := by unfold U; omega
theorem zero_any (a : Int) (ha : U a) (w : World) (hw : Wts w) : Calls Tryd.prog 16 #[.int .u64 a] w fun e w' => e = .returned (.int .u64 (mk (decide (a = 0)))) ∧ ∃ n, w' = w.drewN n := by
  go_enter Tryd.func16, Tryd.ntmps16
  go_wp2_with (fail)
  refine (less_any _ _ ha U_one _ hw).mono ?_
  rintro e w' ⟨rfl, n, rfl⟩
  go_wp2
  go_ret
  exact ⟨ret_int (by congr 1; rw [decide_eq_decide]; unfold U at ha; omega), n, rfl⟩
theorem equal_any (a b : Int) (ha : U a) (hb : U b) (w : World) (hw : Wts w) : Calls Tryd.prog 17 #[.int .u64 a, .int .u64 b] w fun e w' => e = .returned (.int .u64 (mk (decide (a = b)))) ∧ ∃ n, w' = w.drewN n := by
  go_enter Tryd.func17, Tryd.ntmps17
  go_wp2_with (fail)
  refine (zero_any _ (U_xor ha hb) _ hw).mono ?_
  rintro e w' ⟨rfl, n, rfl⟩
  go_wp2
  go_ret
  exact ⟨ret_int (by rw [xor_zero ha hb]), n, rfl⟩
theorem lessSigned_any (a b : Int) (ha : S a) (hb : S b) (w : World) (hw : Wts w) : Calls Tryd.prog 19 #[.int .i64 a, .int .i64 b] w fun e w' => e = .returned (.int .u64 (mk (decide (a < b)))) ∧ ∃ n, w' = w.drewN n := by
  obtain ⟨c0, c1⟩ := id hw
  go_enter Tryd.func19, Tryd.ntmps19
  go_wp2_with (fail)
  refine (less_any _ _ (U_xor (U_wrap _) U_top) (U_xor (U_wrap _) U_top) _ hw).mono ?_
  rintro e w' ⟨rfl, n, rfl⟩
  go_wp2
  go_ret
  exact ⟨ret_int (by rw [lessSigned_raw ha hb]), n, rfl⟩
theorem negative_any (a : Int) (ha : S a) (w : World) (hw : Wts w) : Calls Tryd.prog 20 #[.int .i64 a] w fun e w' => e = .returned (.int .u64 (mk (decide (a < 0)))) ∧ ∃ n, w' = w.drewN n := by
  go_enter Tryd.func20, Tryd.ntmps20
  go_wp2_with (fail)
  refine (lessSigned_any _ _ ha (by unfold S; omega) _ hw).mono ?_
  rintro e w' ⟨rfl, n, rfl⟩
  go_wp2
  go_ret
  exact ⟨rfl, n, rfl⟩
theorem select_any (m a b : Int) (w : World) : Calls Tryd.prog 14 #[.int .u64 m, .int .u64 a, .int .u64 b] w fun e w' => e = .returned (.int .u64 (sel m a b)) ∧ w' = w := by
  go_enter Tryd.func14, Tryd.ntmps14
  go_wp2
  go_ret
  exact ⟨rfl, rfl⟩
theorem swap_any (m a b : Int) (w : World) : Calls Tryd.prog 13 #[.int .u64 m, .int .u64 a, .int .u64 b] w fun e w' => e = .returned (.tuple #[.int .u64 (sel m b a), .int .u64 (sel m a b)]) ∧ w' = w := by
  go_enter Tryd.func13, Tryd.ntmps13
  go_wp2_with (fail)
  refine (select_any _ _ _ _).mono ?_
  rintro e w' ⟨rfl, rfl⟩
  go_wp2_with (fail)
  refine (select_any _ _ _ _).mono ?_
  rintro e w' ⟨rfl, rfl⟩
  go_wp2
  go_ret2
  exact ⟨rfl, rfl⟩
theorem U_bit (a : Int) : U (a % 2) := by unfold U; omega
theorem sign_any (n z : Int) (hn : U n) (hz : U z) (w : World) (hw : Wts w) : Calls Tryd.prog 21 #[.int .u64 n, .int .u64 z] w fun e w' => e = .returned (.int .i64 (sgn3 n z)) ∧ ∃ k, w' = w.drewN k := by
  go_enter Tryd.func21, Tryd.ntmps21
  go_wp2_with (fail)
  refine (of_any _ hn _ hw).mono ?_
  rintro e w' ⟨rfl, k, rfl⟩
  go_wp2_with (fail)
  refine (bit_any _ (U_xor (by unfold U; decide) hz) _).mono ?_
  rintro e w' ⟨rfl, rfl⟩
  go_wp2
  go_ret
  exact ⟨ret_int (by rw [← IntWalk.i64_left]; exact sign_raw n hz), k, rfl⟩
theorem refMask_any (c : Bool) (w : World) : Calls Tryd.prog 11 #[.bool c] w fun e w' => e = .returned (.int .u64 (mk c)) ∧ w' = w := by
  cases c
  · go_enter Tryd.func11, Tryd.ntmps11
    go_wp2
    go_ret
    exact ⟨rfl, rfl⟩
  · go_enter Tryd.func11, Tryd.ntmps11
    go_wp2
    go_ret
    exact ⟨rfl, rfl⟩
theorem sgn3_neg {n z : Int} (h : (n % 2 == 1) = true) : -1 = sgn3 n z := by unfold sgn3; rw [if_pos (by simpa using h)]
theorem sgn3_zero {n z : Int} (h : (n % 2 == 1) = false) (h' : (z % 2 == 1) = true) : 0 = sgn3 n z := by unfold sgn3; rw [if_neg (by simpa using h), if_pos (by simpa using h')]
theorem sgn3_pos {n z : Int} (h : (n % 2 == 1) = false) (h' : (z % 2 == 1) = false) : 1 = sgn3 n z := by unfold sgn3; rw [if_neg (by simpa using h), if_neg (by simpa using h')]
theorem refSign_any (n z : Int) (hn : 0 ≤ n) (hz : 0 ≤ z) (w : World) : Calls Tryd.prog 22 #[.int .u64 n, .int .u64 z] w fun e w' => e = .returned (.int .i64 (sgn3 n z)) ∧ w' = w := by
  go_enter Tryd.func22, Tryd.ntmps22
  go_wp2
  all_goals
    go_ret
    first
      | exact ⟨ret_int (sgn3_neg ‹_›), rfl⟩
      | exact ⟨ret_int (sgn3_zero ‹_› ‹_›), rfl⟩
      | exact ⟨ret_int (sgn3_pos ‹_› ‹_›), rfl⟩
theorem refSelect_any (m a b : Int) (hm : U m) (ha : U a) (hb : U b) (w : World) : Calls Tryd.prog 15 #[.int .u64 m, .int .u64 a, .int .u64 b] w fun e w' => e = .returned (.int .u64 (sel m a b)) ∧ w' = w := by
  have hm0 := hm.1
  have ha0 := ha.1
  have hb0 := hb.1
  have H0 := Lib.hid (low_zero (sel m a b))
  go_enter Tryd.func15, Tryd.ntmps15
  go_wp2
  go_loop [7, 8, 9] (fun o u i => ∃ k : Nat, k ≤ 64 ∧ i = .int .i64 k ∧ u = .int .u64 (un k) ∧ o = .int .u64 (low (sel m a b) k)) (fun _ _ i => 64 - (intOf i).toNat)
  case atStart => exact ⟨0, by omega, rfl, rfl, by rw [H0.out]⟩
  case round =>
    obtain ⟨k, hk, rfl, rfl, rfl⟩ := hrel
    by_cases hlt : k < 64
    · have u1 := un_pos hlt
      have u2 := un_le hlt
      have l1 := low_nonneg (sel m a b) k
      have l2 := low_lt (n := sel m a b) hlt
      have HS := Lib.hid (low_succ (sel m a b) hlt)
      have HB := Lib.hid (bt_sel hm ha hb hlt)
      have HU := Lib.hid (un_succ k)
      rcases em : bt m k <;> rcases ea : bt a k <;> rcases eb : bt b k
      all_goals
        have km := bt_test hm hlt em
        have ka := bt_test ha hlt ea
        have kb := bt_test hb hlt eb
        have HM := Lib.hid em
        have HA := Lib.hid ea
        have HBB := Lib.hid eb
        clear em ea eb
        go_wp2
        go_round
        case rel => exact ⟨k + 1, by omega, by go_num, by rw [HU.out], by rw [HS.out, HB.out, HM.out]; simp [HA.out, HBB.out]⟩
        case measure => simp [intOf]; omega
    · have : k = 64 := by omega
      subst this
      have HL := Lib.hid (low_all (U_sel hm ha hb))
      go_wp2
      go_ret
      exact ⟨ret_int HL.out, rfl⟩
end Go.Proofs.YtlcckgopmgkkfaaDoor
