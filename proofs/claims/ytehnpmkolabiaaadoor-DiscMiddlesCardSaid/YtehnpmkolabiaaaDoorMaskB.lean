/-
  Contracts of package mask in the words of regions.
-/
import Derived.Test.YtehnpmkolabiaaaDoorWords
namespace Go.Proofs.YtehnpmkolabiaaaDoor
open Go.RowKit
set_option maxRecDepth 100000
set_option linter.unusedVariables false
set_option linter.unusedSimpArgs false

theorem equal_b (a b : Int) (ha : U a) (hb : U b) (w : World) (hw : Wts w) : Calls Tryd.prog 32 #[.int .u64 a, .int .u64 b] w fun e w' => e = .returned (.int .u64 (mk (decide (a = b)))) ∧ Below w.heap.size w w' :=
  (equal_any a b ha hb w hw).mono fun e w' ⟨h1, n, h2⟩ => ⟨h1, h2 ▸ below_drewN' (Below.refl _ _) n⟩
theorem zero_b (a : Int) (ha : U a) (w : World) (hw : Wts w) : Calls Tryd.prog 41 #[.int .u64 a] w fun e w' => e = .returned (.int .u64 (mk (decide (a = 0)))) ∧ Below w.heap.size w w' :=
  (zero_any a ha w hw).mono fun e w' ⟨h1, n, h2⟩ => ⟨h1, h2 ▸ below_drewN' (Below.refl _ _) n⟩
theorem bit_b (a : Int) (ha : U a) (w : World) : Calls Tryd.prog 64 #[.int .u64 a] w fun e w' => e = .returned (.int .u64 (a % 2)) ∧ Below w.heap.size w w' :=
  (bit_any a ha w).mono fun e w' ⟨h1, h2⟩ => ⟨h1, h2 ▸ Below.refl _ _⟩
theorem xor_mk (b : Bool) : bits .xor .u64 18446744073709551615 (mk b) = mk (!b) := by cases b <;> decide +kernel
theorem mk_and (a b : Bool) : bits .and .u64 (mk a) (mk b) = mk (a && b) := by cases a <;> cases b <;> decide +kernel
theorem mk_or (a b : Bool) : bits .or .u64 (mk a) (mk b) = mk (a || b) := by cases a <;> cases b <;> decide +kernel
/-- A sign as a word. -/
theorem wrap_sgn {x : Int} (h : x = -1 ∨ x = 0 ∨ x = 1) : U (IntKind.u64.wrap x) ∧ (IntKind.u64.wrap x = 0 ↔ x = 0) := by
  rcases h with rfl | rfl | rfl <;> exact ⟨⟨by decide, by decide⟩, by decide⟩
theorem wrap_inj {x y : Int} (h : x = -1 ∨ x = 0 ∨ x = 1) (k : y = -1 ∨ y = 0 ∨ y = 1) : IntKind.u64.wrap x = IntKind.u64.wrap y ↔ x = y := by
  rcases h with rfl | rfl | rfl <;> rcases k with rfl | rfl | rfl <;> decide
end Go.Proofs.YtehnpmkolabiaaaDoor
