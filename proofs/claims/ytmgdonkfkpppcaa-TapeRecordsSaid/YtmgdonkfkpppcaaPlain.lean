/-
  What a seat without listed tables asks at its rows.
-/
import Derived.Test.YtmgdonkfkpppcaaBase
import Derived.Test.YtmgdonkfkpppcaaRows
import Derived.OpenShut
import Derived.Laws.Cover2
namespace Go.Proofs.Ytmgdonkfkpppcaa
open Go.ChangeShapes Go.WideShapes Go.ChangeAt Go.RowKit

theorem own : ownKnob Try.prog.godebug = none := by kernel_rfl
theorem laidOut : laidOutB Try.prog = true := by kernel_rfl
theorem S_of_wf {a : Int} (h : (Lit.int .i64 a).wf = true) : S a := by
  have := bounds_i64 h; unfold S; omega
end Go.Proofs.Ytmgdonkfkpppcaa
