/-
  Ballots compared; the law VoteBallots, walked.
-/
import Derived.Test.YtcjijafmfomohaaVotAwake
import Derived.Deep.Cut
import Derived.Deep.CutRange
import Derived.Deep.CutBlock
namespace Go.Proofs.Ytcjijafmfomohaa
open Go.RowKit
set_option maxRecDepth 100000

def beq2 (r n r' n' : Int) : Bool := r == r' && n == n'

theorem ba_equal (d : Nat) (r n r' n' : Int) (w : World) : (Op.equalIn (d + 2) 40 (ball r n) (ball r' n')).run Try.prog w = .ok (beq2 r n r' n') w := by
  rw [Op.equalIn]
  simp only [Sem.run_bind, run_underlying Try.underlying40, Result.andThen_ok]
  have pe : ∀ a b : Int, (Op.equalIn (d + 1) 3 (.int .i64 a) (.int .i64 b)).run Try.prog w = .ok (a == b) w := fun a b => run_equalIn_int w d _ .i64 .i64 _ _ Try.underlying3
  simp [part, isAgg, run_underlying Try.underlying3, pe, Sem.run_bind, Result.andThen_ok, List.forIn_cons, beq2]
  by_cases h : r = r' <;> by_cases h' : n = n' <;> simp [h, h']

theorem blt_trans {a b c d e f : Int} (h1 : blt a b c d = true) (h2 : blt c d e f = true) : blt a b e f = true := by
  rw [blt_iff] at *
  omega
theorem blt_total {a b c d : Int} (h : beq2 a b c d = false) : blt c d a b = !blt a b c d := by
  unfold beq2 at h
  unfold blt
  by_cases e : a = c
  · subst e
    rw [if_pos rfl, if_pos rfl]
    simp at h
    by_cases h2 : b < d
    · simp [h2]; omega
    · simp [h2]; omega
  · rw [if_neg e, if_neg (fun h => e h.symm)]
    by_cases h2 : a < c
    · simp [h2]; omega
    · simp [h2]; omega
theorem beq2_eq {a b c d : Int} (h : beq2 a b c d = true) : a = c ∧ b = d := by unfold beq2 at h; simpa using h
