/-
  Contracts of packages mask and word, and the reference of layer 2.
-/
import Derived.Test.YthdghhfdbckilaaDoorRows
import Derived.Test.YthdghhfdbckilaaDoorBase
import Derived.WalkKit
import Derived.ProofKit
import Derived.Deep.QuietTactic
import Derived.BigQuiet
import Derived.Lib.Hide
import Derived.Shelf.Spec.BitsCarry
import Derived.Laws.MathBits
import Derived.Defers
import Derived.Recover
import Derived.RegionTactic
import Derived.Deep.RegionWith
import Derived.Deep.RegionHeld3
import Derived.StillTactics
import Derived.Deep.DeepCutAuto
import Derived.Deep.CutRange
import Derived.Deep.RegionLaw
import Derived.Laws.Pointers
import Derived.WalkSpells
/- Contracts of the functions of package mask, and of the references' Mask and Sign: what each returns, for every argument; the world is left but for draws. -/
namespace Go.Proofs.YthdghhfdbckilaaDoor
open Go.RowKit
set_option maxRecDepth 100000
set_option linter.unusedVariables false
set_option linter.unusedSimpArgs false

/-- What the table of weights holds. -/
def WtsM (w : World) : Prop := w.cell? ⟨0, 0, none⟩ = some (.int .u64 top) ∧ w.cell? ⟨0, 1, none⟩ = some (.int .u64 ones)
/-- The program's other constant tables, with what they hold. -/
def seatTabs : List (Nat × List Value) := []
def TabsAt (w : World) : Prop := ∀ p ∈ seatTabs, ∀ (i : Nat) (v : Value), p.2[i]? = some v → w.cell? ⟨p.1, i, none⟩ = some v
/-- The constant tables lie as the text says. -/
def Wts (w : World) : Prop := WtsM w ∧ TabsAt w
theorem Wts.drewN {w : World} (h : Wts w) (n : Nat) : Wts (w.drewN n) := h
theorem Wts.drew {w : World} (h : Wts w) : Wts w.drew := h
theorem sgn_u64 : IntKind.u64.signed = false := rfl
attribute [local go_sem] sgn_u64
theorem ret_int {k : IntKind} {a b : Int} (h : a = b) : Ending.returned (.int k a) = .returned (.int k b) := by rw [h]
theorem quiet_add {P : Program} {f : FuncId} {args : Array Value} {w : World} {a n : Nat} {v : Value}
    (h : Calls P f args (w.drewN (a + n)) fun e w' => e = .returned v ∧ ∃ m, w' = (w.drewN (a + n)).drewN m) :
    Calls P f args (w.drewN (a + n)) fun e w'' => e = .returned v ∧ ∃ m, w'' = w.drewN (a + m) :=
  h.mono fun _ _ ⟨he, m, hm⟩ => ⟨he, n + m, by rw [hm, World.drewN_drewN, Nat.add_assoc]⟩

theorem bit_any (a : Int) (ha : U a) (w : World) : Calls Tryd.prog 31 #[.int .u64 a] w fun e w' => e = .returned (.int .u64 (a % 2)) ∧ w' = w := by
  go_enter Tryd.func31, Tryd.ntmps31
  go_wp2
  go_ret
  exact ⟨ret_int (bit_raw ha), rfl⟩
theorem of_any (a : Int) (ha : U a) (w : World) (hw : Wts w) : Calls Tryd.prog 33 #[.int .u64 a] w fun e w' => e = .returned (.int .u64 (mk (decide (a % 2 = 1)))) ∧ ∃ n, w' = w.drewN n := by
  obtain ⟨⟨c0, c1⟩, -⟩ := hw
  go_enter Tryd.func33, Tryd.ntmps33
  go_wp2
  go_quiet ((go_at_call 31; exact Calls.quiet_of_same (bit_any _ ha _)))
  go_wp2
  go_ret
  exact ⟨ret_int (of_raw a), nq, rfl⟩
theorem U_shr63 {a : Int} (h : U a) : U (a / 9223372036854775808) := by unfold U at *; omega
theorem less_any (a b : Int) (ha : U a) (hb : U b) (w : World) (hw : Wts w) : Calls Tryd.prog 34 #[.int .u64 a, .int .u64 b] w fun e w' => e = .returned (.int .u64 (mk (decide (a < b)))) ∧ ∃ n, w' = w.drewN n := by
  go_enter Tryd.func34, Tryd.ntmps34
  go_wp2_with (fail)
  refine (of_any _ ?_ _ hw).mono ?_
  · apply U_shr63
    apply U_or (U_and (U_xor _ ha) hb) (U_and (U_xor _ (U_xor ha hb)) (U_wrap _)) <;> (unfold U; decide)
  rintro e w' ⟨rfl, n, rfl⟩
  go_wp2
  go_ret
  exact ⟨ret_int (by rw [less_raw ha hb]), n, rfl⟩
theorem U_one : U 1 := by unfold U; omega
theorem U_zero : U 0 := by unfold U; omega
theorem select_any (m a b : Int) (w : World) : Calls Tryd.prog 32 #[.int .u64 m, .int .u64 a, .int .u64 b] w fun e w' => e = .returned (.int .u64 (sel m a b)) ∧ w' = w := by
  go_enter Tryd.func32, Tryd.ntmps32
  go_wp2
  go_ret
  exact ⟨rfl, rfl⟩
theorem swap_any (m a b : Int) (w : World) : Calls Tryd.prog 50 #[.int .u64 m, .int .u64 a, .int .u64 b] w fun e w' => e = .returned (.tuple #[.int .u64 (sel m b a), .int .u64 (sel m a b)]) ∧ w' = w := by
  go_enter Tryd.func50, Tryd.ntmps50
  go_wp2_with (fail)
  refine (select_any _ _ _ _).mono ?_
  rintro e w' ⟨rfl, rfl⟩
  go_wp2_with (fail)
  refine (select_any _ _ _ _).mono ?_
  rintro e w' ⟨rfl, rfl⟩
  go_wp2
  go_ret2
  exact ⟨rfl, rfl⟩
theorem U_bit (a : Int) : U (a % 2) := by unfold U; omega
theorem refMask_any (c : Bool) (w : World) : Calls Tryd.prog 13 #[.bool c] w fun e w' => e = .returned (.int .u64 (mk c)) ∧ w' = w := by
  cases c
  · go_enter Tryd.func13, Tryd.ntmps13
    go_wp2
    go_ret
    exact ⟨rfl, rfl⟩
  · go_enter Tryd.func13, Tryd.ntmps13
    go_wp2
    go_ret
    exact ⟨rfl, rfl⟩
theorem sgn3_neg {n z : Int} (h : (n % 2 == 1) = true) : -1 = sgn3 n z := by unfold sgn3; rw [if_pos (by simpa using h)]
theorem sgn3_zero {n z : Int} (h : (n % 2 == 1) = false) (h' : (z % 2 == 1) = true) : 0 = sgn3 n z := by unfold sgn3; rw [if_neg (by simpa using h), if_pos (by simpa using h')]
theorem sgn3_pos {n z : Int} (h : (n % 2 == 1) = false) (h' : (z % 2 == 1) = false) : 1 = sgn3 n z := by unfold sgn3; rw [if_neg (by simpa using h), if_neg (by simpa using h')]
end Go.Proofs.YthdghhfdbckilaaDoor
/- Contracts of the functions of package word: what each returns, for every argument. -/
namespace Go.Proofs.YthdghhfdbckilaaDoor
open Go.RowKit
set_option maxRecDepth 100000
set_option linter.unusedVariables false
set_option linter.unusedSimpArgs false

theorem ret_pair {k l : IntKind} {a b c d : Int} (h : a = c) (h' : b = d) : Ending.returned (.tuple #[.int k a, .int l b]) = .returned (.tuple #[.int k c, .int l d]) := by rw [h, h']
end Go.Proofs.YthdghhfdbckilaaDoor
/- Contracts of MulSigned of package word, and of the function that it defers. -/
namespace Go.Proofs.YthdghhfdbckilaaDoor
open Go.RowKit
set_option maxRecDepth 100000
set_option linter.unusedVariables false
set_option linter.unusedSimpArgs false

theorem cell_set_same {w : World} {p : Addr} {u v : Value} (h : w.cell? p = some u) (n : Nat) : ((w.setCell p v).drewN n).cell? p = some v := by
  show (w.setCell p v).cell? p = some v
  exact World.cell?_setCell_same _ _ _ h
theorem cell_set_other {w : World} {p q : Addr} {v : Value} {u : Option Value} (h : w.cell? q = u) (hne : q.block ≠ p.block) (n : Nat) : ((w.setCell p v).drewN n).cell? q = u := by
  show (w.setCell p v).cell? q = u
  rw [World.cell?_of_block (Below.heap_setCell w p v q.block hne)]; exact h
theorem cell_lt {w : World} {g i : Nat} {v : Value} (h1 : w.cell? ⟨g, i, none⟩ = some v) : g < w.heap.size := by
  rcases Nat.lt_or_ge g w.heap.size with h' | h'
  · exact h'
  · rw [World.cell?] at h1
    simp [Array.getElem?_eq_none h'] at h1
theorem Wts.size {w : World} (h : Wts w) : 0 < w.heap.size := cell_lt h.1.1
theorem Wts.sizes {w : World} (h : Wts w) : ∀ p ∈ seatTabs, ∀ (i : Nat) (v : Value), p.2[i]? = some v → p.1 < w.heap.size := fun p hp i v hv => cell_lt (h.2 p hp i v hv)
theorem Wts.below {w w' : World} (h : Wts w) (hb : Below w.heap.size w w') : Wts w' :=
  ⟨⟨(hb.cell (p := ⟨0, 0, none⟩) h.size).trans h.1.1, (hb.cell (p := ⟨0, 1, none⟩) h.size).trans h.1.2⟩,
    fun p hp i v hv => (hb.cell (p := ⟨p.1, i, none⟩) (h.sizes p hp i v hv)).trans (h.2 p hp i v hv)⟩
end Go.Proofs.YthdghhfdbckilaaDoor
/- Contracts of the functions of the reference of layer 2: what each returns, for every argument; the world is as it was. -/
namespace Go.Proofs.YthdghhfdbckilaaDoor
open Go.RowKit
set_option maxRecDepth 100000
set_option linter.unusedVariables false
set_option linter.unusedSimpArgs false

attribute [local go_sem] sgn_u64
theorem rpair {k l : IntKind} {a b c d : Int} (h : a = c) (h' : b = d) : Ending.returned (.tuple #[.int k a, .int l b]) = .returned (.tuple #[.int k c, .int l d]) := by rw [h, h']
theorem U_max : U IntKind.u64.max := by unfold U; decide
end Go.Proofs.YthdghhfdbckilaaDoor
