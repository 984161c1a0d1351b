/-
  CouBack, part 54 of what it rests on: CouBackArg.
-/
import Derived.Test.YtplipjijaaejlaaGreatS39
import Derived.Test.YtplipjijaaejlaaGreatS53
set_option linter.unusedVariables false
set_option linter.unusedSimpArgs false
set_option maxHeartbeats 64000000
namespace Go.Proofs.YtplipjijaaejlaaGreat
open Go.RowKit
open Go.Lib (hid)
section

end
end Go.Proofs.YtplipjijaaejlaaGreat
