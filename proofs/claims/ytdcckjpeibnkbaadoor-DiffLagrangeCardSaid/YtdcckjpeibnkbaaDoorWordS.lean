/-
  Contracts of MulSigned of package word, and of the function that it defers.
-/
import Derived.Test.YtdcckjpeibnkbaaDoorWord
import Derived.Test.YtdcckjpeibnkbaaDoorMem
import Derived.RegionTactic
import Derived.Deep.RegionWith
import Derived.Deep.RegionHeld3
import Derived.StillTactics
import Derived.Deep.DeepCutAuto
import Derived.Deep.CutRange
import Derived.Deep.RegionLaw
import Derived.Laws.Pointers
import Derived.WalkSpells
namespace Go.Proofs.YtdcckjpeibnkbaaDoor
open Go.RowKit

theorem cell_set_same {w : World} {p : Addr} {u v : Value} (h : w.cell? p = some u) (n : Nat) : ((w.setCell p v).drewN n).cell? p = some v := by
  show (w.setCell p v).cell? p = some v
  exact World.cell?_setCell_same _ _ _ h
theorem cell_set_other {w : World} {p q : Addr} {v : Value} {u : Option Value} (h : w.cell? q = u) (hne : q.block ≠ p.block) (n : Nat) : ((w.setCell p v).drewN n).cell? q = u := by
  show (w.setCell p v).cell? q = u
  rw [World.cell?_of_block (Below.heap_setCell w p v q.block hne)]; exact h
theorem Wts.size {w : World} (h : Wts w) : 0 < w.heap.size := by
  rcases Nat.lt_or_ge 0 w.heap.size with h' | h'
  · exact h'
  · have h1 := h.1
    rw [World.cell?] at h1
    simp [Array.getElem?_eq_none h'] at h1
theorem Wts.below {w w' : World} (h : Wts w) (hb : Below w.heap.size w w') : Wts w' :=
  ⟨(hb.cell (p := ⟨0, 0, none⟩) h.size).trans h.1, (hb.cell (p := ⟨0, 1, none⟩) h.size).trans h.2⟩
end Go.Proofs.YtdcckjpeibnkbaaDoor
