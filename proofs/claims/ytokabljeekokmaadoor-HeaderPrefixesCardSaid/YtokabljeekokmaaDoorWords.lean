/-
  Contracts of packages mask and word, and the reference of layer 2.
-/
import Derived.Test.YtokabljeekokmaaDoorRows
import Derived.Test.YtokabljeekokmaaDoorBase
import Derived.WalkKit
import Derived.ProofKit
import Derived.Deep.QuietTactic
import Derived.BigQuiet
import Derived.Lib.Hide
import Derived.Shelf.Spec.BitsCarry
import Derived.Laws.MathBits
import Derived.Defers
import Derived.Recover
import Derived.RegionTactic
import Derived.Deep.RegionWith
import Derived.Deep.RegionHeld3
import Derived.StillTactics
import Derived.Deep.DeepCutAuto
import Derived.Deep.CutRange
import Derived.Deep.RegionLaw
import Derived.Laws.Pointers
import Derived.WalkSpells
/- Contracts of the functions of package mask, and of the references' Mask and Sign: what each returns, for every argument; the world is left but for draws. -/
namespace Go.Proofs.YtokabljeekokmaaDoor
open Go.RowKit
set_option maxRecDepth 100000
set_option linter.unusedVariables false
set_option linter.unusedSimpArgs false

/-- What the table of weights holds. -/
def WtsM (_ : World) : Prop := True
/-- The program's other constant tables, with what they hold. -/
def seatTabs : List (Nat × List Value) := [(0, [.int .i64 0, .int .i64 0, .int .i64 3, .int .i64 2, .int .i64 4, .int .i64 2, .int .i64 1, .int .i64 2, .int .i64 1, .int .i64 2, .int .i64 0, .int .i64 4])]
def TabsAt (w : World) : Prop := ∀ p ∈ seatTabs, ∀ (i : Nat) (v : Value), p.2[i]? = some v → w.cell? ⟨p.1, i, none⟩ = some v
/-- The constant tables lie as the text says. -/
def Wts (w : World) : Prop := WtsM w ∧ TabsAt w
theorem Wts.drewN {w : World} (h : Wts w) (n : Nat) : Wts (w.drewN n) := h
theorem Wts.drew {w : World} (h : Wts w) : Wts w.drew := h
theorem sgn_u64 : IntKind.u64.signed = false := rfl
attribute [local go_sem] sgn_u64
theorem ret_int {k : IntKind} {a b : Int} (h : a = b) : Ending.returned (.int k a) = .returned (.int k b) := by rw [h]
theorem quiet_add {P : Program} {f : FuncId} {args : Array Value} {w : World} {a n : Nat} {v : Value}
    (h : Calls P f args (w.drewN (a + n)) fun e w' => e = .returned v ∧ ∃ m, w' = (w.drewN (a + n)).drewN m) :
    Calls P f args (w.drewN (a + n)) fun e w'' => e = .returned v ∧ ∃ m, w'' = w.drewN (a + m) :=
  h.mono fun _ _ ⟨he, m, hm⟩ => ⟨he, n + m, by rw [hm, World.drewN_drewN, Nat.add_assoc]⟩

theorem U_shr63 {a : Int} (h : U a) : U (a / 9223372036854775808) := by unfold U at *; omega
theorem U_one : U 1 := by unfold U; omega
theorem U_zero : U 0 := by unfold U; omega
theorem U_bit (a : Int) : U (a % 2) := by unfold U; omega
theorem sgn3_neg {n z : Int} (h : (n % 2 == 1) = true) : -1 = sgn3 n z := by unfold sgn3; rw [if_pos (by simpa using h)]
theorem sgn3_zero {n z : Int} (h : (n % 2 == 1) = false) (h' : (z % 2 == 1) = true) : 0 = sgn3 n z := by unfold sgn3; rw [if_neg (by simpa using h), if_pos (by simpa using h')]
theorem sgn3_pos {n z : Int} (h : (n % 2 == 1) = false) (h' : (z % 2 == 1) = false) : 1 = sgn3 n z := by unfold sgn3; rw [if_neg (by simpa using h), if_neg (by simpa using h')]
end Go.Proofs.YtokabljeekokmaaDoor
/- Contracts of the functions of package word: what each returns, for every argument. -/
namespace Go.Proofs.YtokabljeekokmaaDoor
open Go.RowKit
set_option maxRecDepth 100000
set_option linter.unusedVariables false
set_option linter.unusedSimpArgs false

theorem ret_pair {k l : IntKind} {a b c d : Int} (h : a = c) (h' : b = d) : Ending.returned (.tuple #[.int k a, .int l b]) = .returned (.tuple #[.int k c, .int l d]) := by rw [h, h']
end Go.Proofs.YtokabljeekokmaaDoor
/- Contracts of MulSigned of package word, and of the function that it defers. -/
namespace Go.Proofs.YtokabljeekokmaaDoor
open Go.RowKit
set_option maxRecDepth 100000
set_option linter.unusedVariables false
set_option linter.unusedSimpArgs false

theorem cell_set_same {w : World} {p : Addr} {u v : Value} (h : w.cell? p = some u) (n : Nat) : ((w.setCell p v).drewN n).cell? p = some v := by
  show (w.setCell p v).cell? p = some v
  exact World.cell?_setCell_same _ _ _ h
theorem cell_set_other {w : World} {p q : Addr} {v : Value} {u : Option Value} (h : w.cell? q = u) (hne : q.block ≠ p.block) (n : Nat) : ((w.setCell p v).drewN n).cell? q = u := by
  show (w.setCell p v).cell? q = u
  rw [World.cell?_of_block (Below.heap_setCell w p v q.block hne)]; exact h
theorem cell_lt {w : World} {g i : Nat} {v : Value} (h1 : w.cell? ⟨g, i, none⟩ = some v) : g < w.heap.size := by
  rcases Nat.lt_or_ge g w.heap.size with h' | h'
  · exact h'
  · rw [World.cell?] at h1
    simp [Array.getElem?_eq_none h'] at h1
theorem Wts.sizes {w : World} (h : Wts w) : ∀ p ∈ seatTabs, ∀ (i : Nat) (v : Value), p.2[i]? = some v → p.1 < w.heap.size := fun p hp i v hv => cell_lt (h.2 p hp i v hv)
theorem Wts.below {w w' : World} (h : Wts w) (hb : Below w.heap.size w w') : Wts w' :=
  ⟨trivial,
    fun p hp i v hv => (hb.cell (p := ⟨p.1, i, none⟩) (h.sizes p hp i v hv)).trans (h.2 p hp i v hv)⟩
end Go.Proofs.YtokabljeekokmaaDoor
/- Contracts of the functions of the reference of layer 2: what each returns, for every argument; the world is as it was. -/
namespace Go.Proofs.YtokabljeekokmaaDoor
open Go.RowKit
set_option maxRecDepth 100000
set_option linter.unusedVariables false
set_option linter.unusedSimpArgs false

attribute [local go_sem] sgn_u64
theorem rpair {k l : IntKind} {a b c d : Int} (h : a = c) (h' : b = d) : Ending.returned (.tuple #[.int k a, .int l b]) = .returned (.tuple #[.int k c, .int l d]) := by rw [h, h']
theorem U_max : U IntKind.u64.max := by unfold U; decide
end Go.Proofs.YtokabljeekokmaaDoor
