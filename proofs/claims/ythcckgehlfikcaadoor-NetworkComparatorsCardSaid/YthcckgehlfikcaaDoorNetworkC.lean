/-
  What the laws need of lists of comparators.
-/
import Derived.Test.YthcckgehlfikcaaDoorNetAp
namespace Go.Proofs.YthcckgehlfikcaaDoor
open Go.RowKit
set_option maxRecDepth 100000
set_option linter.unusedVariables false
set_option linter.unusedSimpArgs false

theorem pair_at : ∀ (cs : List (Nat × Nat)) (k : Nat) (c : Nat × Nat), cs[k]? = some c → (cs.flatMap pairC)[k * 2]? = some (.int .i64 c.1) ∧ (cs.flatMap pairC)[k * 2 + 1]? = some (.int .i64 c.2)
  | [], k, c, h => by simp at h
  | d :: cs, 0, c, h => by simp at h; subst h; simp [pairC]
  | d :: cs, k + 1, c, h => by
    have := pair_at cs k c (by simpa using h)
    rw [List.flatMap_cons]
    constructor
    · rw [List.getElem?_append_right (by simp [pairC]; omega)]; simp [pairC]; rw [show (k + 1) * 2 - 2 = k * 2 by omega]; exact this.1
    · rw [List.getElem?_append_right (by simp [pairC]; omega)]; simp [pairC]; rw [show (k + 1) * 2 - 1 = k * 2 + 1 by omega]; exact this.2
/-- The cells of a row of pairs. -/
theorem row_pair {w : World} {base : Nat} {e : TypeId} {v : Value} {cs : List (Nat × Nat)} (h : w.ownsRow base e 2 v cs.length (cs.flatMap pairC)) {k : Nat} (hk : k < cs.length) :
    ∃ g c, v = .slice (some ⟨g, 0, none⟩) cs.length c ∧ w.cell? ⟨g, k * 2, none⟩ = some (.int .i64 (cs[k]'hk).1) ∧ w.cell? ⟨g, k * 2 + 1, none⟩ = some (.int .i64 (cs[k]'hk).2) := by
  have h0 := h
  rcases h.2 with ⟨_, h⟩ | ⟨g, cap, cur, rfl, _⟩
  · omega
  · obtain ⟨h1, h2⟩ := pair_at cs k _ (List.getElem?_eq_getElem hk)
    have hlen := pairs_len cs
    exact ⟨g, cap, rfl, (World.ownsRow.cellAt h0 _ (by omega)).trans h1, (World.ownsRow.cellAt h0 _ (by omega)).trans h2⟩
set_option maxHeartbeats 2000000 in
/-- same, of the same comparators. -/
theorem same12_yes (b1 b2 : Nat) (u v : Value) (cs : List (Nat × Nat)) (w : World) (hu : w.ownsRow b1 31 2 u cs.length (cs.flatMap pairC)) (hv : w.ownsRow b2 32 2 v cs.length (cs.flatMap pairC)) (hl : cs.length ≤ 1000000) :
    Calls Tryd.prog 15 #[u, v] w fun e w' => e = .returned (.bool true) ∧ Below w.heap.size w w' := by
  obtain ⟨A, c, rfl⟩ := row_form hu
  obtain ⟨B, d, rfl⟩ := row_form hv
  go_enter Tryd.func15, Tryd.ntmps15
  go_wp2
  go_loopw [13] (fun i wr => ∃ k n : Nat, i = .int .i64 k ∧ k ≤ cs.length ∧ wr = w.drewN n) (fun i _ => cs.length - (intOf i).toNat)
  case atStart => exact ⟨0, 0, rfl, Nat.zero_le _, rfl⟩
  case round =>
    obtain ⟨k, n, rfl, hk, rfl⟩ := hrel
    by_cases hgo : k < cs.length
    · obtain ⟨g, c', e, h1, h2⟩ := row_pair hu hgo
      injection e with e1 _ e2
      subst e1 e2
      obtain ⟨g', d', e, k1, k2⟩ := row_pair hv hgo
      injection e with e1 _ e2
      subst e1 e2
      clear hu hv
      generalize cs[k]'hgo = p at h1 h2 k1 k2
      have d1 : ((p.1 : Int) != (p.1 : Int)) = false := by simp
      have d2 : ((p.2 : Int) != (p.2 : Int)) = false := by simp
      go_wp2
      go_quiet (fail)
      go_wp2
      go_roundw
      case rel => exact ⟨k + 1, n + nq, by go_num, hgo, by simp [go_sem]⟩
      case measure => simp [intOf]; omega
    · clear hu hv
      go_wp2
      go_ret
      exact ⟨rfl, below_drewN' (Below.refl _ _) n⟩
end Go.Proofs.YthcckgehlfikcaaDoor
