/-
  Law OrientTranslates, whole.
-/
import Derived.Test.YthnhabfnjjbfaaaDoorLaw6TY
import Derived.Test.YthnhabfnjjbfaaaDoorLaw6TN
namespace Go.Proofs.YthnhabfnjjbfaaaDoor
open Go.RowKit
set_option maxRecDepth 100000
set_option linter.unusedVariables false
set_option linter.unusedSimpArgs false

theorem law_orientTranslates (xa ya xb yb xc yc xd yd : Int) (w : World) (hw : Wts w) (sxa : S xa) (sya : S ya) (sxb : S xb) (syb : S yb) (sxc : S xc) (syc : S yc) (sxd : S xd) (syd : S yd) :
    Calls Tryd.prog 6 #[.agg #[.int .i64 xa, .int .i64 ya, .int .i64 xb, .int .i64 yb, .int .i64 xc, .int .i64 yc], .agg #[.int .i64 xd, .int .i64 yd]] w fun e w' => e = .returned (.bool true) ∧ Below w.heap.size w w' := by
  have b1 := shI_bd xa ya xd yd
  have b2 := shI_bd xb yb xd yd
  have b3 := shI_bd xc yc xd yd
  by_cases h : shI xa ya xd yd + shI xb yb xd yd + shI xc yc xd yd < 3
  · exact law6T_N xa ya xb yb xc yc xd yd w hw sxa sya sxb syb sxc syc sxd syd h
  · exact law6T_Y xa ya xb yb xc yc xd yd w hw sxa sya sxb syb sxc syc sxd syd (by omega) (by omega) (by omega)
end Go.Proofs.YthnhabfnjjbfaaaDoor
