/-
  Opening events that came in.
-/
import Derived.Test.YtmgdonkfkpppcaaOpen
import Derived.Test.YtmgdonkfkpppcaaTapeC
namespace Go.Proofs.Ytmgdonkfkpppcaa
open Go.RowKit Go.ChangeShapes Go.WideShapes
set_option maxRecDepth 100000
set_option linter.unusedVariables false
set_option linter.unusedSimpArgs false

theorem evsR_of {w : World} {T : Nat → Prop} {A : Option Addr} {l : List Ev} (h : RowR w T 3 evC A l) : EvsR w T A l := fun h0 => by
  obtain ⟨b, o, rfl, hT, hc⟩ := h h0
  exact ⟨b, o, rfl, hT, fun j e he => ⟨hc j e he 0 _ rfl, hc j e he 1 _ rfl, hc j e he 2 _ rfl⟩⟩
end Go.Proofs.Ytmgdonkfkpppcaa
