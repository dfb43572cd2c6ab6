/-
  Boxes that may be written. No program is named here.
-/
import Derived.Test.YtdcckjpeibnkbaaDoorMem
namespace Go.Proofs.YtdcckjpeibnkbaaDoor
open Go.RowKit

/-- A box of n cells that may be written. -/
def HasBox (w : World) (B n : Nat) : Prop := ∀ i, i < n → (∃ v, w.cell? ⟨B, i, none⟩ = some v) ∧ w.frozen? ⟨B, i, none⟩ = false
theorem HasBox.next {w w1 : World} {B n : Nat} (h : HasBox w B n) (hb : Below w.heap.size w w1) : HasBox w1 B n := fun i hi => by
  obtain ⟨⟨v, hv⟩, hf⟩ := h i hi
  have hl := lt_of_cell hv
  exact ⟨⟨v, (hb.cell (p := ⟨B, i, none⟩) hl).trans hv⟩, (hb.frozen (p := ⟨B, i, none⟩) hl).trans hf⟩
theorem HasBox.set_ {w : World} {B n : Nat} (h : HasBox w B n) (p : Addr) (x : Value) : HasBox (w.setCell p x) B n := fun i hi => by
  obtain ⟨⟨v, hv⟩, hf⟩ := h i hi
  refine ⟨?_, (World.frozen?_setCell _ _ _ _).trans hf⟩
  obtain ⟨v', hv'⟩ := cell?_setCell_some (w := w) (p := p) (x := x) (q := ⟨B, i, none⟩) (v := v) hv
  exact ⟨v', hv'⟩
end Go.Proofs.YtdcckjpeibnkbaaDoor
