/-
  What the document's answers for a word and a long give.
-/
import Derived.Test.YtcjijafmfomohaaMade
namespace Go.Proofs.Ytcjijafmfomohaa
open Go.RowKit

end Go.Proofs.Ytcjijafmfomohaa
