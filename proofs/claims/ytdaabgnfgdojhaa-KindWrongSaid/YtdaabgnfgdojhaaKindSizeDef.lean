/-
  How many types there are in one, references being what they stand for, as a plain function; what Whole answers by it. Pure.
-/
import Derived.Test.YtdaabgnfgdojhaaKindWholeDef
namespace Go.Proofs.Ytdaabgnfgdojhaa
open Go.RowKit
set_option linter.unusedVariables false
set_option linter.unusedSimpArgs false

/-- So many levels are enough, and each reference is known. -/
def fitsF : Nat → List (Txt × KT) → KT → Prop
  | 0, _, _ => False
  | lv + 1, al, t => match t with
    | .nil => False
    | .mk k _ ns n of => if k = 9 then ns.length = 1 ∧ ¬ standsN al ns < 0 ∧ fitsF lv (al.take (standsN al ns).toNat) (al.getD (standsN al ns).toNat ([], .nil)).2 else ∀ i, i < n → fitsF lv al (of i)

/-- How many types there are. -/
def sizeF : Nat → List (Txt × KT) → KT → Nat
  | 0, _, _ => 0
  | lv + 1, al, t => match t with
    | .nil => 0
    | .mk k _ ns n of => if k = 9 then sizeF lv (al.take (standsN al ns).toNat) (al.getD (standsN al ns).toNat ([], .nil)).2 else 1 + ((List.range n).map (fun i => sizeF lv al (of i))).sum

theorem sum_succ (f : Nat → Nat) (n : Nat) : ((List.range (n + 1)).map f).sum = ((List.range n).map f).sum + f n := by
  rw [List.range_succ, List.map_append, List.sum_append]; simp

theorem sum_mono (f : Nat → Nat) {k n : Nat} (h : k ≤ n) : ((List.range k).map f).sum ≤ ((List.range n).map f).sum := by
  induction n with
  | zero => simp at h; subst h; simp
  | succ n ih =>
    by_cases e : k = n + 1
    · subst e; exact Nat.le_refl _
    · rw [sum_succ]; have := ih (by omega); omega

theorem wholeAll_size (f : Nat → Nat → WR) (g : Nat → Nat) (n : Nat) (h : ∀ i, i < n → ∀ l, (g i ≤ l → (f i l).e = 0 ∧ (f i l).left = l - g i) ∧ (l < g i → (f i l).e = 6)) (l : Nat) :
    (((List.range n).map g).sum ≤ l → (wholeAll f n l).e = 0 ∧ (wholeAll f n l).left = l - ((List.range n).map g).sum) ∧ (l < ((List.range n).map g).sum → (wholeAll f n l).e = 6) := by
  induction n with
  | zero => exact ⟨fun _ => ⟨rfl, by simp [wholeAll]⟩, fun h => by simp at h⟩
  | succ n ih =>
    obtain ⟨i1, i2⟩ := ih (fun i hi => h i (by omega))
    obtain ⟨h1, h2⟩ := h n (by omega) (wholeAll f n l).left
    rw [sum_succ]
    simp only [wholeAll]
    constructor
    · intro hl
      obtain ⟨e1, e2⟩ := i1 (by omega)
      rw [e2] at h1
      obtain ⟨e3, e4⟩ := h1 (by omega)
      rw [if_pos e1, e2, if_pos e3]
      exact ⟨rfl, by show (f n _).left = _; rw [e4]; omega⟩
    · intro hl
      by_cases hc : l < ((List.range n).map g).sum
      · have e1 := i2 hc
        rw [if_neg (by rw [e1]; decide)]
        exact e1
      · obtain ⟨e1, e2⟩ := i1 (by omega)
        rw [e2] at h2
        have e3 := h2 (by omega)
        rw [if_pos e1, e2, if_neg (by rw [e3]; decide)]
        exact e3

theorem whole_size (lv : Nat) : ∀ (al : List (Txt × KT)) (t : KT), fitsF lv al t → ∀ l, (sizeF lv al t ≤ l → (wholeE lv al t l).e = 0 ∧ (wholeE lv al t l).left = l - sizeF lv al t) ∧ (l < sizeF lv al t → (wholeE lv al t l).e = 6) := by
  induction lv with
  | zero => exact fun al t h => h.elim
  | succ lv ih =>
    intro al t h l
    cases t with
    | nil => exact h.elim
    | mk k m ns n of =>
      by_cases hk : k = 9
      · subst hk
        simp only [fitsF, if_true] at h
        simp only [wholeE, sizeF, if_true, if_neg h.2.1]
        exact ih _ _ h.2.2 l
      · simp only [fitsF, if_neg hk] at h
        simp only [wholeE, sizeF, if_neg hk]
        by_cases h0 : l = 0
        · subst h0
          exact ⟨fun h => by omega, fun _ => rfl⟩
        · rw [if_neg h0]
          obtain ⟨a1, a2⟩ := wholeAll_size (fun i l => wholeE lv al (of i) l) (fun i => sizeF lv al (of i)) n (fun i hi l => ih al (of i) (h i hi) l) (l - 1)
          constructor
          · intro hl
            obtain ⟨e1, e2⟩ := a1 (by omega)
            rw [if_pos e1]
            exact ⟨rfl, by show (wholeAll _ _ _).left = _; rw [e2]; omega⟩
          · intro hl
            have e1 := a2 (by omega)
            rw [if_neg (by rw [e1]; decide)]
            exact e1

theorem whole_ok {lv : Nat} {al : List (Txt × KT)} {t : KT} (h : fitsF lv al t) (l : Nat) : (wholeE lv al t l).e = if sizeF lv al t ≤ l then 0 else 6 := by
  obtain ⟨h1, h2⟩ := whole_size lv al t h l
  split
  · rename_i c; exact (h1 c).1
  · exact h2 (by omega)

end Go.Proofs.Ytdaabgnfgdojhaa
