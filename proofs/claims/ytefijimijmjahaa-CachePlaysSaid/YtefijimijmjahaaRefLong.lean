/-
  What the document's answers for a word and a long give.
-/
import Derived.Test.YtefijimijmjahaaMade
namespace Go.Proofs.Ytefijimijmjahaa
open Go.RowKit

end Go.Proofs.Ytefijimijmjahaa
