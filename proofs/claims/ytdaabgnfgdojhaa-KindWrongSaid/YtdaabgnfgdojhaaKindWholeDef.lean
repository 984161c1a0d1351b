/-
  What Whole answers, as a plain function; facts on it. No program is spoken of.
-/
import Derived.Test.YtdaabgnfgdojhaaKindType
namespace Go.Proofs.Ytdaabgnfgdojhaa
open Go.RowKit

/-- What Whole finds: an error (0: none), the type, and how many more types there may be. -/
structure WR where
  e : Nat
  t : KT
  left : Nat

structure WP where
  e : Nat
  ts : List KT
  left : Nat

def zeroT : KT := .mk 0 0 [] 0 (fun _ => .nil)

/-- The parts of a type, made whole one by one. -/
def wholeAll (f : Nat → Nat → WR) : Nat → Nat → WP
  | 0, l => ⟨0, [], l⟩
  | n + 1, l =>
    let r := wholeAll f n l
    if r.e = 0 then (let q := f n r.left; if q.e = 0 then ⟨0, r.ts ++ [q.t], q.left⟩ else ⟨q.e, [], q.left⟩) else r

def wholeE : Nat → List (Txt × KT) → KT → Nat → WR
  | 0, _, _, l => ⟨5, zeroT, l⟩
  | lv + 1, al, t, l => match t with
    | .nil => ⟨0, .nil, l⟩
    | .mk k m ns n of =>
      if k = 9 then
        if standsN al ns < 0 then ⟨10, zeroT, l⟩
        else wholeE lv (al.take (standsN al ns).toNat) (al.getD (standsN al ns).toNat ([], .nil)).2 l
      else if l = 0 then ⟨6, zeroT, l⟩
      else
        let r := wholeAll (fun i l => wholeE lv al (of i) l) n (l - 1)
        if r.e = 0 then ⟨0, .mk k m ns n (fun i => r.ts.getD i .nil), r.left⟩ else ⟨r.e, zeroT, r.left⟩

theorem wholeAll_stop (f : Nat → Nat → WR) (n k l : Nat) (hk : k < n) (h0 : (wholeAll f k l).e = 0) (h : (f k (wholeAll f k l).left).e ≠ 0) : wholeAll f n l = ⟨(f k (wholeAll f k l).left).e, [], (f k (wholeAll f k l).left).left⟩ := by
  induction n with
  | zero => omega
  | succ n ih =>
    by_cases e : k = n
    · subst e
      simp only [wholeAll, h0, if_true, if_neg h]
    · have := ih (by omega)
      simp only [wholeAll]
      rw [this]
      exact if_neg h

theorem wholeAll_step (f : Nat → Nat → WR) (k l : Nat) (h0 : (wholeAll f k l).e = 0) (h : (f k (wholeAll f k l).left).e = 0) : wholeAll f (k + 1) l = ⟨0, (wholeAll f k l).ts ++ [(f k (wholeAll f k l).left).t], (f k (wholeAll f k l).left).left⟩ := by
  simp only [wholeAll, h0, if_true, h]

theorem standsN_lt {al : List (Txt × KT)} {ns : List Txt} (h : ¬ standsN al ns < 0) : (standsN al ns).toNat < al.length ∧ ((standsN al ns).toNat : Int) = standsN al ns := by
  refine ⟨?_, by omega⟩
  unfold standsN firstAt at *
  split at h
  · split at h
    · rename_i s h1
      rw [if_pos h1]
      have := List.findIdx_lt_length_of_exists (p := fun x : Txt × KT => decide (x.1 = s)) (xs := al) (by
        obtain ⟨x, hx, hp⟩ := List.any_eq_true.1 h1
        exact ⟨x, hx, hp⟩)
      simpa using this
    · omega
  · omega

end Go.Proofs.Ytdaabgnfgdojhaa
