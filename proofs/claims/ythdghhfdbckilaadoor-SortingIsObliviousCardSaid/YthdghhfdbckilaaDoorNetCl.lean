/-
  Contracts of package network over the landed code: slices.Collect over its iterator, Comparators.
-/
import Derived.Test.YthdghhfdbckilaaDoorNetB
import Derived.RangeFuncBox
namespace Go.Proofs.YthdghhfdbckilaaDoor
open Go.RowKit Go.Shelf
set_option maxRecDepth 100000
set_option linter.unusedVariables false
set_option linter.unusedSimpArgs false
attribute [local go_sem] Oper.semAt_some

theorem infoT : (Tryd.prog.info? 62).map (fun i => (i.zero, i.size, i.bytes)) = some (some (.agg #[.int .i64 0, .int .i64 0]), 2, 16) := by kernel_rfl
theorem netComps_len (n : Int) : (compsN n).length ≤ 1000000 := by
  unfold compsN
  split
  · rename_i h
    obtain ⟨q, hq, rfl⟩ := (isN_iff n).1 h
    rw [lgN_pow hq]
    have h1 := kl_len (2 ^ q) q
    have h2 := pow_le_4096 hq
    have h4 : q * q * 2 ^ q ≤ 12 * 12 * 4096 := Nat.mul_le_mul (Nat.mul_le_mul hq hq) h2
    exact Nat.le_trans h1 (by omega)
  · simp
theorem cells_pair {w : World} {b : Nat} {u v : Value} {t : TypeId} (h : w.heap[b]? = some (.cells #[u, v] t (0, 0))) : w.cell? ⟨b, 0, none⟩ = some u ∧ w.cell? ⟨b, 1, none⟩ = some v := by
  constructor <;> simp [World.cell?, h]
theorem row_lower {w : World} {b b' : Nat} {e : TypeId} {s : Nat} {v : Value} {n : Nat} {xs : List Value} (h : w.ownsRow b e s v n xs) (hb : b' ≤ b) : w.ownsRow b' e s v n xs := by
  obtain ⟨hl, h⟩ := h
  refine ⟨hl, ?_⟩
  rcases h with h | ⟨g, cap, cur, rfl, hb2, rest⟩
  · exact .inl h
  · exact .inr ⟨g, cap, cur, rfl, Nat.le_trans hb hb2, rest⟩
end Go.Proofs.YthdghhfdbckilaaDoor
