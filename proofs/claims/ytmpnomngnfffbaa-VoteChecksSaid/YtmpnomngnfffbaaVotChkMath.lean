/-
  Members, looked through one by one: the first error so far (as at the troupe's law).
-/
import Derived.Test.YtmpnomngnfffbaaTrBits
namespace Go.Proofs.Ytmpnomngnfffbaa
open Go.RowKit

theorem asc_snoc (x : Int) : ∀ (p : Int) (l : List Int), asc p (l ++ [x]) = (asc p l && (decide ((l.getLast?.getD p) < x) && decide (x < 16)))
  | p, [] => by
    show (decide (p < x) && decide (x < 16) && true) = (true && (decide (p < x) && decide (x < 16)))
    rw [Bool.and_true, Bool.true_and]
  | p, y :: l => by
    rw [List.cons_append, asc, asc, asc_snoc x y l, List.getLast?_cons]
    simp [Bool.and_assoc]

/-- The error that is wanted behind k of them. -/
def wantC (l : List Int) (k : Nat) : Int := if 1 ≤ l.length ∧ l.length ≤ 16 then (if asc (-1) (l.take k) then 0 else 2) else 7

theorem wantC_end (l : List Int) : wantC l l.length = chkM l := by
  unfold wantC chkM
  rw [List.take_length]

theorem wantC_cases (l : List Int) (k : Nat) : wantC l k = 0 ∨ wantC l k ≠ 0 := by omega

/-- The one ahead. -/
def prevC (l : List Int) (k : Nat) : Int := (l.take k).getLast?.getD (-1)
theorem prevC_zero (l : List Int) : prevC l 0 = -1 := by simp [prevC]
theorem prevC_succ (l : List Int) (k : Nat) (hk : k < l.length) : prevC l (k + 1) = l[k] := by
  unfold prevC
  rw [List.take_succ_eq_append_getElem hk, List.getLast?_concat]
  rfl

theorem wantC_step (l : List Int) (k : Nat) (hk : k < l.length) : wantC l (k + 1) = if wantC l k = 0 then (if prevC l k < l[k] ∧ l[k] < 16 then 0 else 2) else wantC l k := by
  unfold wantC
  rw [List.take_succ_eq_append_getElem hk, asc_snoc]
  by_cases h : 1 ≤ l.length ∧ l.length ≤ 16
  · simp only [if_pos h]
    cases ha : asc (-1) (l.take k)
    · simp
    · by_cases h2 : prevC l k < l[k] ∧ l[k] < 16
      · rw [if_pos h2]
        have h3 := h2.1
        unfold prevC at h3
        simp [h3, h2.2]
      · rw [if_neg h2]
        unfold prevC at h2
        simp
        intro h3
        exact Int.not_lt.1 (fun h4 => h2 ⟨h3, h4⟩)
  · simp only [if_neg h]
    simp


end Go.Proofs.Ytmpnomngnfffbaa
