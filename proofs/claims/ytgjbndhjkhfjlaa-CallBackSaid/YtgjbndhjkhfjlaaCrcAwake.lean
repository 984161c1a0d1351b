/-
  What Awake of layer 2's law gives.
-/
import Derived.Test.YtgjbndhjkhfjlaaCrcSum
import Derived.Lib.SlBytesConst
namespace Go.Proofs.Ytgjbndhjkhfjlaa
open Go.RowKit

theorem Crc.sum_awake : Crc.sum [49, 50, 51, 52, 53, 54, 55, 56, 57] = 4236843288 := by decide +kernel

end Go.Proofs.Ytgjbndhjkhfjlaa
