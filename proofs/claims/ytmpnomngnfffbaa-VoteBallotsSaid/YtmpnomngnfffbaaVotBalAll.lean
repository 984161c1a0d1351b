/-
  VoteBallots: the law at its arguments.
-/
import Derived.Test.YtmpnomngnfffbaaVotBaEq
import Derived.Test.YtmpnomngnfffbaaVotArg
namespace Go.Proofs.Ytmpnomngnfffbaa
open Go.RowKit

theorem ballots_all (x : BaN) (v : Value) {w : World} (h : BaV w x v) (y : BaN) (u : Value) (h' : BaV w y u) (z : BaN) (t : Value) (h'' : BaV w z t) :
    Calls Try.prog 6 #[v, u, t] w fun e w' => e = .returned (.bool true) ∧ Fr (fun _ => False) w w' := by
  unfold BaV at h h' h''
  subst h h' h''
  exact ballots_law x.r x.n y.r y.n z.r z.n w

end Go.Proofs.Ytmpnomngnfffbaa
