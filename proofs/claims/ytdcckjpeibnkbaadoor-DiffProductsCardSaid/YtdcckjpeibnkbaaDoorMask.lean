/-
  Contracts of the functions of package mask, and of the references' Mask and Sign: what each returns, for every argument; the world is left but for draws.
-/
import Derived.Test.YtdcckjpeibnkbaaDoorRows
import Derived.Test.YtdcckjpeibnkbaaDoorBits
import Derived.WalkKit
import Derived.ProofKit
import Derived.Deep.QuietTactic
import Derived.BigQuiet
import Derived.Lib.Hide
namespace Go.Proofs.YtdcckjpeibnkbaaDoor
open Go.RowKit

/-- What the table of weights holds. -/
def Wts (w : World) : Prop := w.cell? ⟨0, 0, none⟩ = some (.int .u64 top) ∧ w.cell? ⟨0, 1, none⟩ = some (.int .u64 ones)
theorem Wts.drewN {w : World} (h : Wts w) (n : Nat) : Wts (w.drewN n) := h
theorem Wts.drew {w : World} (h : Wts w) : Wts w.drew := h
theorem sgn_u64 : IntKind.u64.signed = false := rfl
attribute [local go_sem] sgn_u64
theorem ret_int {k : IntKind} {a b : Int} (h : a = b) : Ending.returned (.int k a) = .returned (.int k b) := by rw [h]
theorem quiet_add {P : Program} {f : FuncId} {args : Array Value} {w : World} {a n : Nat} {v : Value}
    (h : Calls P f args (w.drewN (a + n)) fun e w' => e = .returned v ∧ ∃ m, w' = (w.drewN (a + n)).drewN m) :
    Calls P f args (w.drewN (a + n)) fun e w'' => e = .returned v ∧ ∃ m, w'' = w.drewN (a + m) :=
  h.mono fun _ _ ⟨he, m, hm⟩ => ⟨he, n + m, by rw [hm, World.drewN_drewN, Nat.add_assoc]⟩

theorem bit_any (a : Int) (ha : U a) (w : World) : Calls Tryd.prog 55 #[.int .u64 a] w fun e w' => e = .returned (.int .u64 (a % 2)) ∧ w' = w := by
  go_enter Tryd.func55, Tryd.ntmps55
  go_wp2
  go_ret
  exact ⟨ret_int (bit_raw ha), rfl⟩
theorem of_any (a : Int) (ha : U a) (w : World) (hw : Wts w) : Calls Tryd.prog 63 #[.int .u64 a] w fun e w' => e = .returned (.int .u64 (mk (decide (a % 2 = 1)))) ∧ ∃ n, w' = w.drewN n := by
  obtain ⟨c0, c1⟩ := hw
  go_enter Tryd.func63, Tryd.ntmps63
  go_wp2
  go_quiet ((go_at_call 55; exact Calls.quiet_of_same (bit_any _ ha _)))
  go_wp2
  go_ret
  exact ⟨ret_int (of_raw a), nq, rfl⟩
theorem U_shr63 {a : Int} (h : U a) : U (a / 9223372036854775808) := by unfold U at *; omega
theorem U_one : U 1 := by unfold U; omega
theorem U_zero : U 0 := by unfold U; omega
theorem U_bit (a : Int) : U (a % 2) := by unfold U; omega
theorem sgn3_neg {n z : Int} (h : (n % 2 == 1) = true) : -1 = sgn3 n z := by unfold sgn3; rw [if_pos (by simpa using h)]
theorem sgn3_zero {n z : Int} (h : (n % 2 == 1) = false) (h' : (z % 2 == 1) = true) : 0 = sgn3 n z := by unfold sgn3; rw [if_neg (by simpa using h), if_pos (by simpa using h')]
theorem sgn3_pos {n z : Int} (h : (n % 2 == 1) = false) (h' : (z % 2 == 1) = false) : 1 = sgn3 n z := by unfold sgn3; rw [if_neg (by simpa using h), if_neg (by simpa using h')]
end Go.Proofs.YtdcckjpeibnkbaaDoor
