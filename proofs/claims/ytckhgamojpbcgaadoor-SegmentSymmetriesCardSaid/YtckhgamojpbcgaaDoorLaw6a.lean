/-
  The examples of layer 6. (Written by law5.py.)
-/
import Derived.Test.YtckhgamojpbcgaaDoorOrientC
namespace Go.Proofs.YtckhgamojpbcgaaDoor
open Go.RowKit
set_option maxRecDepth 100000
set_option linter.unusedVariables false
set_option linter.unusedSimpArgs false

end Go.Proofs.YtckhgamojpbcgaaDoor
