/-
  Package troupe: how many members are in a list; Has, Most, All, Check, Same.
-/
import Derived.Test.YtmpnomngnfffbaaTrBase
import Derived.Deep.QuietTactic
import Derived.BigQuiet
namespace Go.Proofs.Ytmpnomngnfffbaa
open Go.RowKit
set_option maxRecDepth 100000

/-- How many of l are in m. -/
def inC (l m : List Int) : Nat := l.countP (fun x => decide (x ∈ m))

theorem inC_le (l m : List Int) : inC l m ≤ l.length := List.countP_le_length
theorem inC_step (l m : List Int) (k : Nat) (hk : k < l.length) : inC (l.take (k + 1)) m = inC (l.take k) m + (if l[k] ∈ m then 1 else 0) := by
  unfold inC
  rw [List.take_succ_eq_append_getElem hk, List.countP_append, List.countP_singleton]
  simp

theorem lblock_kept {S : Nat → Prop} {w0 w1 : World} {b : Nat} {o : Obj} (h : w0.heap[b]? = some o) (f : Fr S w0 w1) (hb : ¬ S b) : w1.heap[b]? = some o := by
  rw [f.block b (Array.getElem?_eq_some_iff.1 h).1 hb]; exact h

end Go.Proofs.Ytmpnomngnfffbaa
