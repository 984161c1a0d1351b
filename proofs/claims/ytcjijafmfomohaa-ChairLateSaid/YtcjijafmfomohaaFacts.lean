/-
  What a Reader takes, told of the bytes alone: either there is no error, and what was taken stood ahead of what is left, just as a Writer lays it; or there is one, that stays, and nothing was taken.
-/
import Derived.Test.YtcjijafmfomohaaRef
namespace Go.Proofs.Ytcjijafmfomohaa
open Go.RowKit

theorem nextS_two (l : List UInt8) (e : Int) (k : Nat) (hc : e ≠ 0 → l = []) :
    ((nextS (l, e) k).2.2 = 0 ∧ e = 0 ∧ k ≤ l.length ∧ (nextS (l, e) k).1 = l.take k ∧ (nextS (l, e) k).2.1 = l.drop k) ∨
    ((nextS (l, e) k).2.2 ≠ 0 ∧ (nextS (l, e) k).2.1 = [] ∧ (nextS (l, e) k).1 = [] ∧ (e ≠ 0 → (nextS (l, e) k).2.2 = e)) := by
  unfold nextS failS
  by_cases he : e = 0
  · subst he
    by_cases hk : l.length < k
    · right; simp [hk]
    · left; simp [hk]; omega
  · have hl := hc he
    subst hl
    right
    by_cases hk : (0 : Nat) < k
    · simp [hk, he]
    · simp [hk, he]

theorem numS_two (l : List UInt8) (e : Int) (k : Nat) (hc : e ≠ 0 → l = []) :
    ((numS (l, e) k).2.2 = 0 ∧ e = 0 ∧ k ≤ l.length ∧ (numS (l, e) k).1 = beNum (l.take k) ∧ (numS (l, e) k).2.1 = l.drop k) ∨
    ((numS (l, e) k).2.2 ≠ 0 ∧ (numS (l, e) k).2.1 = [] ∧ (numS (l, e) k).1 = 0 ∧ (e ≠ 0 → (numS (l, e) k).2.2 = e)) := by
  unfold numS
  rcases nextS_two l e k hc with ⟨h1, h2, h3, h4, h5⟩ | ⟨h1, h2, h3, h4⟩
  · left; exact ⟨h1, h2, h3, by rw [h4], h5⟩
  · right; exact ⟨h1, h2, by rw [h3]; rfl, h4⟩

theorem withinS_two (l : List UInt8) (e : Int) (most : Int) (hc : e ≠ 0 → l = []) :
    ((withinS (l, e) most).2.2 = 0 ∧ e = 0 ∧ 2 ≤ l.length ∧ (withinS (l, e) most).1 = beNum (l.take 2) ∧ ((withinS (l, e) most).1 : Int) ≤ most ∧ (withinS (l, e) most).2.1 = l.drop 2) ∨
    ((withinS (l, e) most).2.2 ≠ 0 ∧ (withinS (l, e) most).2.1 = [] ∧ (withinS (l, e) most).1 = 0 ∧ (e ≠ 0 → (withinS (l, e) most).2.2 = e)) := by
  unfold withinS
  rcases numS_two l e 2 hc with ⟨h1, h2, h3, h4, h5⟩ | ⟨h1, h2, h3, h4⟩
  · by_cases hm : most < ((numS (l, e) 2).1 : Int)
    · right
      rw [if_pos hm]
      subst h2
      unfold failS
      simp [h1]
    · left
      rw [if_neg hm]
      exact ⟨h1, h2, h3, h4, by omega, h5⟩
  · right
    by_cases hm : most < ((numS (l, e) 2).1 : Int)
    · rw [if_pos hm]
      unfold failS
      simp [h1, h2]
      exact h4
    · rw [if_neg hm]
      exact ⟨h1, h2, h3, h4⟩

theorem textS_two (l : List UInt8) (e : Int) (most : Int) (hc : e ≠ 0 → l = []) :
    ((textS (l, e) most).2.2 = 0 ∧ e = 0 ∧ l = txt (textS (l, e) most).1 ++ (textS (l, e) most).2.1 ∧ ((textS (l, e) most).1.length : Int) ≤ most ∧ (textS (l, e) most).1.length < 65536) ∨
    ((textS (l, e) most).2.2 ≠ 0 ∧ (textS (l, e) most).2.1 = [] ∧ (textS (l, e) most).1 = [] ∧ (e ≠ 0 → (textS (l, e) most).2.2 = e)) := by
  have hsm := withinS_small (l, e) most
  have ht : textS (l, e) most = (if (nextS ((withinS (l, e) most).2.1, (withinS (l, e) most).2.2) ((withinS (l, e) most).1 + (withinS (l, e) most).1 % 2)).2.2 ≠ 0 then ([], (nextS ((withinS (l, e) most).2.1, (withinS (l, e) most).2.2) ((withinS (l, e) most).1 + (withinS (l, e) most).1 % 2)).2) else if (withinS (l, e) most).1 % 2 = 1 ∧ (nextS ((withinS (l, e) most).2.1, (withinS (l, e) most).2.2) ((withinS (l, e) most).1 + (withinS (l, e) most).1 % 2)).1.getD (withinS (l, e) most).1 0 ≠ 0 then ([], failS (nextS ((withinS (l, e) most).2.1, (withinS (l, e) most).2.2) ((withinS (l, e) most).1 + (withinS (l, e) most).1 % 2)).2 4) else ((nextS ((withinS (l, e) most).2.1, (withinS (l, e) most).2.2) ((withinS (l, e) most).1 + (withinS (l, e) most).1 % 2)).1.take (withinS (l, e) most).1, (nextS ((withinS (l, e) most).2.1, (withinS (l, e) most).2.2) ((withinS (l, e) most).1 + (withinS (l, e) most).1 % 2)).2)) := rfl
  have hw := withinS_two l e most hc
  rw [ht]
  clear ht
  generalize withinS (l, e) most = p at *
  have hn := nextS_two p.2.1 p.2.2 (p.1 + p.1 % 2) (by
    intro h
    rcases hw with ⟨h1, _⟩ | ⟨_, h2, _⟩
    · exact absurd h1 h
    · exact h2)
  generalize nextS (p.2.1, p.2.2) (p.1 + p.1 % 2) = r at *
  rcases hn with ⟨n1, n2, n3, n4, n5⟩ | ⟨n1, n2, n3, n4⟩
  · rcases hw with ⟨w1, w2, w3, w4, w5, w6⟩ | ⟨w1, _⟩
    · by_cases hpad : p.1 % 2 = 1 ∧ r.1.getD p.1 0 ≠ 0
      · right
        rw [if_neg (by simpa using n1), if_pos hpad]
        unfold failS
        simp [n1, w2]
      · left
        rw [if_neg (by simpa using n1), if_neg hpad]
        have hlen : (r.1.take p.1).length = p.1 := by rw [n4]; simp; omega
        refine ⟨n1, w2, ?_, by rw [hlen]; exact w5, by rw [hlen]; exact hsm⟩
        show l = txt (r.1.take p.1) ++ r.2.1
        have e1 : l = l.take 2 ++ p.2.1 := by rw [w6, List.take_append_drop]
        have e2 : p.2.1 = r.1 ++ r.2.1 := by rw [n4, n5, List.take_append_drop]
        have e3 : be2 p.1 = l.take 2 := by rw [w4]; exact be2_beNum _ (by simp; omega)
        have e4 : r.1 = r.1.take p.1 ++ (if p.1 % 2 = 1 then [0] else []) := by
          have hr : r.1.length = p.1 + p.1 % 2 := by rw [n4]; simp; omega
          by_cases ho : p.1 % 2 = 1
          · rw [if_pos ho]
            have hz : r.1.getD p.1 0 = 0 := by
              by_cases hz : r.1.getD p.1 0 = 0
              · exact hz
              · exact absurd ⟨ho, hz⟩ hpad
            have hlt : p.1 < r.1.length := by omega
            have e5 : r.1.drop p.1 = [0] := by
              rw [List.drop_eq_getElem_cons hlt, List.drop_eq_nil_of_le (by omega)]
              simp [List.getD, hlt] at hz
              rw [hz]
            conv => lhs; rw [← List.take_append_drop p.1 r.1, e5]
          · rw [if_neg ho, List.append_nil, List.take_of_length_le (by omega)]
        unfold txt
        rw [hlen, e3, List.append_assoc, List.append_assoc]
        conv => lhs; rw [e1, e2]
        conv => lhs; rw [e4]
        rw [List.append_assoc]
    · exact absurd n2 w1
  · right
    rw [if_pos n1]
    refine ⟨n1, n2, rfl, ?_⟩
    intro he
    rcases hw with ⟨_, w2, _⟩ | ⟨w1, _, _, w4⟩
    · exact absurd w2 he
    · show r.2.2 = e
      rw [n4 w1, w4 he]

end Go.Proofs.Ytcjijafmfomohaa
