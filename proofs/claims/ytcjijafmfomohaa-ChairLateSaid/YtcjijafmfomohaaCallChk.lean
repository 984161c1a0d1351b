/-
  The checks of calls and answers.
-/
import Derived.Test.YtcjijafmfomohaaCall
namespace Go.Proofs.Ytcjijafmfomohaa
open Go.RowKit

theorem new_two (w : World) (A B : Obj) : ((w.alloc A).alloc B).heap[w.heap.size + 1]? = some B := by
  have := heap_alloc_new (w.alloc A) B
  rw [World.size_alloc] at this
  exact this

end Go.Proofs.Ytcjijafmfomohaa
