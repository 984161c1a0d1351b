/-
  What Put of a call and of an answer writes, and a call's mark.
-/
import Derived.Test.YtcjijafmfomohaaCallChk
import Derived.Test.YtcjijafmfomohaaCrcSum
namespace Go.Proofs.Ytcjijafmfomohaa
open Go.RowKit

theorem Sees.none {w w' : World} {v : Value} {l : List UInt8} (h : Sees w v l) (hl : l = []) : Sees w' v l := by
  subst hl
  rcases h with ⟨_, a, c, rfl⟩ | ⟨g, off, cap, rfl, _, _⟩
  · exact .inl ⟨rfl, _, _, rfl⟩
  · exact .inl ⟨rfl, _, _, rfl⟩

theorem ok_bounds {p : Int} (h : okN p = true) : 0 ≤ p ∧ p ≤ 65535 := by unfold okN at h; simpa using h
theorem cchk_ok {p : Int} {n : Nat} (h : okN p = true) (hn : n ≤ 4000) : cchk p n = 0 := by unfold cchk sizeN; rw [if_pos h, if_pos hn]
theorem achk_ok {e r : Int} {n : Nat} (h : okN e = true) (h' : okN r = true) (hn : n ≤ 4000) : achk e r n = 0 := by unfold achk; rw [if_pos h]; exact cchk_ok h' hn

theorem crow_kept {S : Nat → Prop} {w0 w1 : World} {b : Nat} {o : Obj} (h : w0.heap[b]? = some o) (f : Fr S w0 w1) (hb : ¬ S b) : w1.heap[b]? = some o := by
  rw [f.block b (Array.getElem?_eq_some_iff.1 h).1 hb]; exact h
theorem cell4 {w : World} {b : Nat} {x0 x1 x2 x3 : Value} {t : TypeId} (h : w.heap[b]? = some (.cells #[x0, x1, x2, x3] t (0, 0))) :
    w.cell? ⟨b, 0, none⟩ = some x0 ∧ w.cell? ⟨b, 1, none⟩ = some x1 ∧ w.cell? ⟨b, 2, none⟩ = some x2 ∧ w.cell? ⟨b, 3, none⟩ = some x3 := by
  simp [World.cell?, h]
theorem cell3 {w : World} {b : Nat} {x0 x1 x2 : Value} {t : TypeId} (h : w.heap[b]? = some (.cells #[x0, x1, x2] t (0, 0))) :
    w.cell? ⟨b, 0, none⟩ = some x0 ∧ w.cell? ⟨b, 1, none⟩ = some x1 ∧ w.cell? ⟨b, 2, none⟩ = some x2 := by
  simp [World.cell?, h]

theorem callB_length (t n p : Int) (l : List UInt8) : (callB t n p l).length = 8 + l.length + l.length % 2 := by
  unfold callB
  rw [List.length_append, List.length_append, List.length_append, be2_length, be2_length, be2_length, txt_length]
  omega
theorem ansB_length (n p : Int) (l : List UInt8) : (ansB n p l).length = 6 + l.length + l.length % 2 := by
  unfold ansB
  rw [List.length_append, List.length_append, be2_length, be2_length, txt_length]
  omega

end Go.Proofs.Ytcjijafmfomohaa
