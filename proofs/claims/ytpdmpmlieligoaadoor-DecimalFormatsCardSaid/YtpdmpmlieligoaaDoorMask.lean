/-
  Contracts of the functions of package mask, and of the references' Mask and Sign: what each returns, for every argument; the world is left but for draws.
-/
import Derived.Test.YtpdmpmlieligoaaDoorRows
import Derived.Test.YtpdmpmlieligoaaDoorBits
import Derived.WalkKit
import Derived.ProofKit
import Derived.Deep.QuietTactic
import Derived.BigQuiet
import Derived.Lib.Hide
namespace Go.Proofs.YtpdmpmlieligoaaDoor
open Go.RowKit

/-- What the table of weights holds. -/
def Wts (w : World) : Prop := w.cell? ⟨2, 0, none⟩ = some (.int .u64 top) ∧ w.cell? ⟨2, 1, none⟩ = some (.int .u64 ones)
theorem Wts.drewN {w : World} (h : Wts w) (n : Nat) : Wts (w.drewN n) := h
theorem Wts.drew {w : World} (h : Wts w) : Wts w.drew := h
theorem sgn_u64 : IntKind.u64.signed = false := rfl
attribute [local go_sem] sgn_u64
theorem ret_int {k : IntKind} {a b : Int} (h : a = b) : Ending.returned (.int k a) = .returned (.int k b) := by rw [h]
theorem quiet_add {P : Program} {f : FuncId} {args : Array Value} {w : World} {a n : Nat} {v : Value}
    (h : Calls P f args (w.drewN (a + n)) fun e w' => e = .returned v ∧ ∃ m, w' = (w.drewN (a + n)).drewN m) :
    Calls P f args (w.drewN (a + n)) fun e w'' => e = .returned v ∧ ∃ m, w'' = w.drewN (a + m) :=
  h.mono fun _ _ ⟨he, m, hm⟩ => ⟨he, n + m, by rw [hm, World.drewN_drewN, Nat.add_assoc]⟩

theorem bit_any (a : Int) (ha : U a) (w : World) : Calls Tryd.prog 57 #[.int .u64 a] w fun e w' => e = .returned (.int .u64 (a % 2)) ∧ w' = w := by
  go_enter Tryd.func57, Tryd.ntmps57
  go_wp2
  go_ret
  exact ⟨ret_int (bit_raw ha), rfl⟩
theorem of_any (a : Int) (ha : U a) (w : World) (hw : Wts w) : Calls Tryd.prog 56 #[.int .u64 a] w fun e w' => e = .returned (.int .u64 (mk (decide (a % 2 = 1)))) ∧ ∃ n, w' = w.drewN n := by
  obtain ⟨c0, c1⟩ := hw
  go_enter Tryd.func56, Tryd.ntmps56
  go_wp2
  go_quiet ((go_at_call 57; exact Calls.quiet_of_same (bit_any _ ha _)))
  go_wp2
  go_ret
  exact ⟨ret_int (of_raw a), nq, rfl⟩
theorem U_shr63 {a : Int} (h : U a) : U (a / 9223372036854775808) := by unfold U at *; omega
theorem less_any (a b : Int) (ha : U a) (hb : U b) (w : World) (hw : Wts w) : Calls Tryd.prog 59 #[.int .u64 a, .int .u64 b] w fun e w' => e = .returned (.int .u64 (mk (decide (a < b)))) ∧ ∃ n, w' = w.drewN n := by
  go_enter Tryd.func59, Tryd.ntmps59
  go_wp2_with (fail)
  refine (of_any _ ?_ _ hw).mono ?_
  · apply U_shr63
    apply U_or (U_and (U_xor _ ha) hb) (U_and (U_xor _ (U_xor ha hb)) (U_wrap _)) <;> (unfold U; decide)
  rintro e w' ⟨rfl, n, rfl⟩
  go_wp2
  go_ret
  exact ⟨ret_int (by rw [less_raw ha hb]), n, rfl⟩
theorem U_one : U 1 := by unfold U; omega
theorem U_zero : U 0 := by unfold U; omega
theorem zero_any (a : Int) (ha : U a) (w : World) (hw : Wts w) : Calls Tryd.prog 40 #[.int .u64 a] w fun e w' => e = .returned (.int .u64 (mk (decide (a = 0)))) ∧ ∃ n, w' = w.drewN n := by
  go_enter Tryd.func40, Tryd.ntmps40
  go_wp2_with (fail)
  refine (less_any _ _ ha U_one _ hw).mono ?_
  rintro e w' ⟨rfl, n, rfl⟩
  go_wp2
  go_ret
  exact ⟨ret_int (by congr 1; rw [decide_eq_decide]; unfold U at ha; omega), n, rfl⟩
theorem U_bit (a : Int) : U (a % 2) := by unfold U; omega
theorem sign_any (n z : Int) (hn : U n) (hz : U z) (w : World) (hw : Wts w) : Calls Tryd.prog 38 #[.int .u64 n, .int .u64 z] w fun e w' => e = .returned (.int .i64 (sgn3 n z)) ∧ ∃ k, w' = w.drewN k := by
  go_enter Tryd.func38, Tryd.ntmps38
  go_wp2_with (fail)
  refine (of_any _ hn _ hw).mono ?_
  rintro e w' ⟨rfl, k, rfl⟩
  go_wp2_with (fail)
  refine (bit_any _ (U_xor (by unfold U; decide) hz) _).mono ?_
  rintro e w' ⟨rfl, rfl⟩
  go_wp2
  go_ret
  exact ⟨ret_int (by rw [← IntWalk.i64_left]; exact sign_raw n hz), k, rfl⟩
theorem sgn3_neg {n z : Int} (h : (n % 2 == 1) = true) : -1 = sgn3 n z := by unfold sgn3; rw [if_pos (by simpa using h)]
theorem sgn3_zero {n z : Int} (h : (n % 2 == 1) = false) (h' : (z % 2 == 1) = true) : 0 = sgn3 n z := by unfold sgn3; rw [if_neg (by simpa using h), if_pos (by simpa using h')]
theorem sgn3_pos {n z : Int} (h : (n % 2 == 1) = false) (h' : (z % 2 == 1) = false) : 1 = sgn3 n z := by unfold sgn3; rw [if_neg (by simpa using h), if_neg (by simpa using h')]
end Go.Proofs.YtpdmpmlieligoaaDoor
