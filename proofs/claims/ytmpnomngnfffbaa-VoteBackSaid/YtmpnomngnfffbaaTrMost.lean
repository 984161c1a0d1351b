/-
  Package troupe: Most, All: drawn regions around the count.
-/
import Derived.Test.YtmpnomngnfffbaaTrView
import Derived.Test.YtmpnomngnfffbaaRegion
namespace Go.Proofs.Ytmpnomngnfffbaa
open Go.RowKit
set_option maxRecDepth 100000

end Go.Proofs.Ytmpnomngnfffbaa
