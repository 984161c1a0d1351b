/-
  CouBack, part 52 of what it rests on: CouAnyTake.
-/
import Derived.Test.YtplipjijaaejlaaGreatS51
import Derived.Test.YtplipjijaaejlaaGreatS38
set_option linter.unusedVariables false
set_option linter.unusedSimpArgs false
set_option maxHeartbeats 64000000
namespace Go.Proofs.YtplipjijaaejlaaGreat
open Go.RowKit
open Go.Lib (hid)
section
end
end Go.Proofs.YtplipjijaaejlaaGreat
