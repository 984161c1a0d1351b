/-
  CouBack, part 52 of what it rests on: CouAnyTake.
-/
import Derived.Test.YtplipjijaaejlaaGreatS51
import Derived.Test.YtplipjijaaejlaaGreatS38
set_option linter.unusedVariables false
set_option linter.unusedSimpArgs false
set_option maxHeartbeats 64000000
namespace Go.Proofs.YtplipjijaaejlaaGreat
open Go.RowKit
open Go.Lib (hid)
section
attribute [local go_sem] run_store_float
set_option maxRecDepth 100000

/-- The error of Take, of any bytes; what it takes. -/
def tkErr (t : KT) (l : List UInt8) : Int := if 4000 < l.length then 6 else takeErr t l
def tkV (t : KT) (l : List UInt8) : VT := (takeE t 20 ((l, 0), 0)).1

theorem tkErr_ok (t : KT) (hg : goodE t) (l : List UInt8) (h : tkErr t l = 0) : encE t (tkV t l) = l ∧ isVal t (tkV t l) = true ∧ szV (tkV t l) ≤ 100000 ∧ l.length ≤ 4000 := by
  unfold tkErr at h
  by_cases hl : 4000 < l.length
  · rw [if_pos hl] at h; omega
  rw [if_neg hl] at h
  unfold takeErr at h
  have he := take_enc t hg 20 ((l, 0), 0) rfl
  have hs := take_small t hg l (by omega)
  unfold tkV
  by_cases h1 : (if (takeE t 20 ((l, 0), 0)).2.1.1 = [] then (takeE t 20 ((l, 0), 0)).2.1.2 else 12) ≠ 0
  · rw [if_pos h1] at h; exact absurd h h1
  rw [if_neg h1] at h
  by_cases h2 : (takeE t 20 ((l, 0), 0)).2.1.1 = []
  · rw [if_pos h2] at h1
    have h3 : (takeE t 20 ((l, 0), 0)).2.1.2 = 0 := by simpa using h1
    have h4 := (he.ok h3).1
    rw [h2, List.append_nil] at h4
    refine ⟨h4.symm, ?_, hs, by omega⟩
    unfold valE at h
    by_cases hv : isVal t (takeE t 20 ((l, 0), 0)).1 = true
    · exact hv
    · rw [if_neg hv] at h
      omega
  · rw [if_neg h2] at h1
    omega

theorem takeC (R : Nat → Prop) (t : KT) (hg : goodE t) (v bv : Value) (l : List UInt8) (w : World) (hsh : Shows R w t v) (hb : Sees w bv l) :
    Calls Tryz.prog 15 #[v, bv] w fun e w' => ∃ v', e = .returned (.tuple #[v', .int .i64 (tkErr t l)]) ∧ VShows (fun k => w.heap.size ≤ k) w' (if tkErr t l = 0 then tkV t l else zeroV) v' ∧ Fr (fun _ => False) w w' := by
  unfold tkErr tkV
  by_cases hl : 4000 < l.length
  · rw [if_pos hl]
    obtain ⟨a, c, rfl, _⟩ := hb.shape
    cases t with
    | nil => exact hg.elim
    | mk k m ns n of =>
      refine (Take_long v a l.length c w hl k m ns n of R hsh).mono ?_
      rintro e w' ⟨rfl, f⟩
      exact ⟨_, rfl, by rw [if_neg (by decide)]; exact zeroV_shows _ _, f⟩
  · rw [if_neg hl]
    exact Take_any t R v bv l w hsh hb (by omega) (take_small t hg l (by omega))
end
end Go.Proofs.YtplipjijaaejlaaGreat
