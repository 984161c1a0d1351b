/-
  Entries: which may be.
-/
import Derived.Test.YtcjijafmfomohaaVotEntry
namespace Go.Proofs.Ytcjijafmfomohaa
open Go.RowKit
set_option maxRecDepth 100000

/-- The first error of an entry. -/
def En.chk (x : En) : Int :=
  if 3 ≤ x.k then 5
  else if (x.k ≠ 1 ∧ ¬ (x.t = 0 ∧ x.n = 0 ∧ x.p = 0 ∧ x.l = [])) ∨ (x.k ≠ 2 ∧ x.m ≠ []) then 4
  else if x.k = 1 then cchk x.p x.l.length
  else if x.k = 2 then chkM x.m else 0
