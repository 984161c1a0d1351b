/-
  A voter and an entry that lies beside it.
-/
import Derived.Test.YtmpnomngnfffbaaVotVoter
namespace Go.Proofs.Ytmpnomngnfffbaa
open Go.RowKit
set_option maxRecDepth 100000

/-- The voter in block b; none of its slices is in block g. -/
def VtG (w : World) (b g : Nat) (st : VtN) : Prop :=
  ∃ v u, w.heap[b]? = some (oVr st.pr st.pn st.ar st.an st.x.k st.x.t st.x.n st.x.p v u st.s) ∧ ES w st.x v u ∧ Away b st.x v u ∧ Away g st.x v u ∧ EnSmall st.x
/-- The entry in block g; none of its slices is in block b. -/
def EnG (w : World) (b g : Nat) (x : En) : Prop := ∃ v u, w.heap[g]? = some (x.obj v u) ∧ ES w x v u ∧ Away b x v u ∧ Away g x v u

theorem VtG.vts {w : World} {b g : Nat} {st : VtN} (h : VtG w b g st) : VtS w b st := by
  obtain ⟨v, u, h1, h2, h3, _, h4⟩ := h
  exact ⟨v, u, h1, h2, h3, h4⟩
theorem VtG.lt {w : World} {b g : Nat} {st : VtN} (h : VtG w b g st) : b < w.heap.size := h.vts.lt
theorem VtG.fr {w w' : World} {b g : Nat} {st : VtN} (h : VtG w b g st) (f : Fr (fun _ => False) w w') : VtG w' b g st := by
  obtain ⟨v, u, h1, h2, h3, h5, h4⟩ := h
  exact ⟨v, u, crow_kept h1 f (fun h => h), h2.fr f, h3, h5, h4⟩
theorem VtG.keep {w w' : World} {b g : Nat} {st : VtN} (h : VtG w b g st) (f : Fr (fun k => k = g) w w') (hne : b ≠ g) : VtG w' b g st := by
  obtain ⟨v, u, h1, h2, h3, h5, h4⟩ := h
  exact ⟨v, u, crow_kept h1 f hne, h2.keep h5 f, h3, h5, h4⟩
theorem EnG.fr {w w' : World} {b g : Nat} {x : En} (h : EnG w b g x) (f : Fr (fun _ => False) w w') : EnG w' b g x := by
  obtain ⟨v, u, h1, h2, h3, h4⟩ := h
  exact ⟨v, u, crow_kept h1 f (fun h => h), h2.fr f, h3, h4⟩
theorem EnG.keep {w w' : World} {b g : Nat} {x : En} (h : EnG w b g x) (f : Fr (fun k => k = b) w w') (hne : g ≠ b) : EnG w' b g x := by
  obtain ⟨v, u, h1, h2, h3, h4⟩ := h
  exact ⟨v, u, crow_kept h1 f hne, h2.keep h3 f, h3, h4⟩
theorem EnG.lt {w : World} {b g : Nat} {x : En} (h : EnG w b g x) : g < w.heap.size := by
  obtain ⟨v, u, h1, _⟩ := h
  exact lt_of h1

theorem away_nil (b : Nat) : Away b En.zero nilS nilS := ⟨.inl rfl, .inl rfl⟩

theorem acceptG (b g : Nat) (st : VtN) (r n : Int) (y : En) (v' u' : Value) (w : World) (h : VtG w b g st) (hy : ES w y v' u') (ha : Away b y v' u') (hg : Away g y v' u') (hsm : EnSmall y) :
    Calls Try.prog 20 #[.pointer (some ⟨b, 0, none⟩), ball r n, y.val v' u'] w fun e w' =>
      e = .returned (.bool (!blt r n st.pr st.pn)) ∧ Fr (fun k => k = b) w w' ∧ VtG w' b g (st.accept r n y) := by
  obtain ⟨v, u, h1, h2, h3, h5, h4⟩ := h
  refine (accept_any b st.pr st.pn st.ar st.an st.x v u st.s r n y v' u' w h1 hy).mono ?_
  rintro e w' ⟨rfl, f, hv⟩
  refine ⟨rfl, f, ?_⟩
  unfold VotAfter at hv
  unfold VtN.accept
  by_cases hb : blt r n st.pr st.pn = true
  · rw [if_pos hb] at hv ⊢
    exact ⟨v, u, hv, h2.keep h3 f, h3, h5, h4⟩
  · rw [if_neg hb] at hv ⊢
    exact ⟨v', u', hv, hy.keep ha f, ha, hg, hsm⟩

theorem promiseG (b g : Nat) (st : VtN) (r n : Int) (w : World) (h : VtG w b g st) :
    Calls Try.prog 21 #[.pointer (some ⟨b, 0, none⟩), ball r n] w fun e w' =>
      PromRet b st r n e w' ∧ Fr (fun k => k = b) w w' ∧ VtG w' b g (st.promise r n) := by
  obtain ⟨v, u, h1, h2, h3, h5, h4⟩ := h
  refine (promise_any b st.pr st.pn st.ar st.an st.x v u st.s r n w h1 h2 h3 h4.1 h4.2).mono ?_
  rintro e w' ⟨f, hno, hyes⟩
  cases hb : blt st.pr st.pn r n with
  | false =>
    obtain ⟨rfl, hv⟩ := hno hb
    refine ⟨⟨fun _ => rfl, fun h => (by rw [hb] at h; cases h)⟩, f, ?_⟩
    unfold VtN.promise
    rw [if_neg (by rw [hb]; decide)]
    exact ⟨v, u, hv, h2.keep h3 f, h3, h5, h4⟩
  | true =>
    obtain ⟨⟨v', u', rfl, he⟩, hv⟩ := hyes hb
    refine ⟨⟨fun h => (by rw [hb] at h; cases h), fun _ => ⟨v', u', rfl, he⟩⟩, f, ?_⟩
    unfold VtN.promise
    rw [if_pos hb]
    exact ⟨v, u, hv, h2.keep h3 f, h3, h5, h4⟩

/-- The region 'v.Accept(b, s.Entry())': what has been done. -/
def AcG (b g : Nat) (st : VtN) (r n : Int) (s : Sm) (w4 : World) : List Value → World → Prop
  | [], wx => Fr (fun _ => False) w4 wx
  | [y], wx => ∃ v' u', y = s.en.val v' u' ∧ ES wx s.en v' u' ∧ Away b s.en v' u' ∧ Away g s.en v' u' ∧ EnSmall s.en ∧ Fr (fun _ => False) w4 wx
  | [_, z], wx => z = .bool (!blt r n st.pr st.pn) ∧ Fr (fun k => k = b) w4 wx ∧ VtG wx b g (st.accept r n s.en)
  | _, _ => False

theorem AcG.fr {b g : Nat} {st : VtN} {r n : Int} {s : Sm} {w4 wx : World} : ∀ {c : List Value}, AcG b g st r n s w4 c wx → Fr (fun k => k = b) w4 wx
  | [], h => Fr.mono h (fun _ _ h => h.elim)
  | [_], ⟨_, _, _, _, _, _, _, h⟩ => h.mono (fun _ _ h => h.elim)
  | [_, _], ⟨_, h, _⟩ => h
  | _ :: _ :: _ :: _, h => h.elim

/-- Ballots of small numbers, as one number. -/
structure VtOk (st : VtN) : Prop where
  p0 : 0 ≤ st.pr
  p1 : st.pr ≤ 5
  n0 : 0 ≤ st.pn
  n1 : st.pn ≤ 3
  a0 : 0 ≤ st.ar
  a1 : st.ar ≤ 5
  m0 : 0 ≤ st.an
  m1 : st.an ≤ 3

theorem blt_num {r n r' n' : Int} (h0 : 0 ≤ n) (h1 : n ≤ 3) (h2 : 0 ≤ n') (h3 : n' ≤ 3) : blt r n r' n' = decide (10 * r + n < 10 * r' + n') := by
  unfold blt
  by_cases h : r = r'
  · subst h
    rw [if_pos rfl]
    by_cases h' : n < n'
    · rw [decide_eq_true h', decide_eq_true (by omega)]
    · rw [decide_eq_false h', decide_eq_false (by omega)]
  · rw [if_neg h]
    by_cases h' : r < r'
    · rw [decide_eq_true h', decide_eq_true (by omega)]
    · rw [decide_eq_false h', decide_eq_false (by omega)]

end Go.Proofs.Ytmpnomngnfffbaa
