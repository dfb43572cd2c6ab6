/-
  Contracts of package limb, all together: the last one.
-/
import Derived.Test.YtpdmpmlieligoaaDoorLimbH
import Derived.Test.YtpdmpmlieligoaaDoorLimbI
namespace Go.Proofs.YtpdmpmlieligoaaDoor
open Go.RowKit

end Go.Proofs.YtpdmpmlieligoaaDoor
