/-
  Opening a text that came in. No program is named here.
-/
import Derived.Test.YtpdmpmlieligoaaDoorCardKit2
import Derived.Test.YtpdmpmlieligoaaDoorBs
import Derived.ChangeMaps5
namespace Go.Proofs.YtpdmpmlieligoaaDoor
open Go.RowKit Go.ChangeShapes Go.WideShapes

theorem open_text {H : Type} {enc : TypeId × Value → H} {P : Program} {W : World} {base : Nat} {sp : Nat → Bool} {held : Bool} {t : TypeId} {r : Reach} {b0 : Nat} {v : Value} {d : DataW H} {p : List MemPlace}
    (ht : P.underlying t = some .string) (hv : Value.okWide P W r b0 t v) (h : DataW.Trod enc P W base sp held t v d p) : ∃ l : List UInt8, v = .string (bs l) := by
  obtain ⟨s, rfl, _⟩ := ChangeMaps.open_string ht hv h
  exact ⟨s.data.toList, by congr 1⟩
end Go.Proofs.YtpdmpmlieligoaaDoor
