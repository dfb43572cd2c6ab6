/-
  slices.Insert of one point at index 1 of four; copy between rows of elements of k cells.
-/
import Derived.Test.YtehnpmkolabiaaaDoorPtL
import Derived.Test.YtehnpmkolabiaaaDoorCopy
import Derived.Lib.Overlaps
import Derived.Lib.AppendZerosOnto
import Derived.Laws.IdiomCopy
import Derived.Laws.NewBlocks
import Derived.Laws.Externs
import Derived.Shelf.RegionOpenPlain
import Derived.Shelf.Spec.SlicesInsert
namespace Go.Proofs.YtehnpmkolabiaaaDoor
open Go.RowKit Go.Lib
set_option maxRecDepth 100000
set_option linter.unusedVariables false
set_option linter.unusedSimpArgs false

/-- A row with room, seen as a longer one. -/
theorem own_more {w : World} {base g n c k : Nat} {t : TypeId} {xs : List Value} (h : w.ownsRow base t k (.slice (some ⟨g, 0, none⟩) n c) n xs) (m : Nat) (h1 : n ≤ m) (h2 : m ≤ c) :
    ∃ ys, ys.length = m * k ∧ ys.take (n * k) = xs ∧ w.ownsRow base t k (.slice (some ⟨g, 0, none⟩) m c) m ys := by
  obtain ⟨hl, h⟩ := h
  rcases h with ⟨h0, _⟩ | ⟨g', cap, cur, h0, hb, hg, hn, hc, hs, ht⟩
  · cases h0
  · injection h0 with e1 _ e2
    injection e1 with e1
    injection e1 with e1
    subst e1 e2
    have hle : m * k ≤ c * k := Nat.mul_le_mul_right _ h2
    refine ⟨cur.toList.take (m * k), by simp; omega, ?_, by simp; omega, .inr ⟨g, c, cur, rfl, hb, hg, h2, hc, hs, rfl⟩⟩
    rw [List.take_take, Nat.min_eq_left (Nat.mul_le_mul_right _ h1), ht]
theorem own_shape {w : World} {base g n c k : Nat} {t : TypeId} {xs : List Value} (h : w.ownsRow base t k (.slice (some ⟨g, 0, none⟩) n c) n xs) : w.shape? g = some (t, c * k) := by
  obtain ⟨hl, h⟩ := h
  rcases h with ⟨h0, _⟩ | ⟨g', cap, cur, h0, hb, hg, hn, hc, hs, ht⟩
  · cases h0
  · injection h0 with e1 _ e2
    injection e1 with e1
    injection e1 with e1
    subst e1 e2
    simp [World.shape?, hg, hs]
theorem sizePt : (Tryd.prog.info? 24).map (·.size) = some 2 := by
  obtain ⟨i0, hi, hz0, hz1, hz2⟩ := info_parts infoPt
  rw [hi]; simp [hz1]
def insL (a b c d x : Pt) : List Pt := [a, x, b, c, d]
theorem one_cellsP (l : List Pt) : ∀ v ∈ l.flatMap ptC, v.oneCell' = true := elemPt.flat1 l
end Go.Proofs.YtehnpmkolabiaaaDoor
