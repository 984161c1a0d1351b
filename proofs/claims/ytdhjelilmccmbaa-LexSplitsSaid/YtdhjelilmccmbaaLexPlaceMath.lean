/-
  Where tokens stand: facts on the plain function.
-/
import Derived.Test.YtdhjelilmccmbaaLexStep
namespace Go.Proofs.Ytdhjelilmccmbaa

/-- Where the token ahead of the j-th ends (or a, ahead of the first). -/
def endOf (a : Nat) (ts : List Tok) : Nat → Nat
  | 0 => a
  | j + 1 => match ts[j]? with
    | some t => t.pos + t.text.length
    | none => 0

structure Stands (L : List UInt8) (a : Nat) (ts : List Tok) (i : Nat) (t : Tok) : Prop where
  lo : endOf a ts i ≤ t.pos
  hi : t.pos + t.text.length ≤ L.length
  text : (L.drop t.pos).take t.text.length = t.text
  kind : t.kind ≤ 3
  last : t.kind = 0 ↔ i + 1 = ts.length
  some_ : t.kind ≠ 0 → 1 ≤ t.text.length

theorem endOf_cons (a b : Nat) (x : Tok) (us : List Tok) (i : Nat) (hb : b = x.pos + x.text.length) : endOf a (x :: us) (i + 1) = endOf b us i := by
  subst hb
  cases i with
  | zero => rfl
  | succ i => rfl

theorem lexA_places (n : Nat) (L : List UInt8) (a : Nat) (ha : a ≤ L.length) (hn : L.length - a ≤ n) (ts : List Tok) (h : lexA a (L.drop a) = .ok ts) :
    (∀ i t, ts[i]? = some t → Stands L a ts i t) ∧ ts[ts.length - 1]? = some ⟨0, L.length, []⟩ := by
  induction n generalizing a ts with
  | zero =>
    have : a = L.length := by omega
    subst this
    rw [List.drop_of_length_le (Nat.le_refl _), lexA_nil] at h
    cases h
    refine ⟨?_, rfl⟩
    intro i t hi
    cases i with
    | zero =>
      simp at hi
      subst hi
      exact ⟨Nat.le_refl _, Nat.le_refl _, rfl, Nat.zero_le _, ⟨fun _ => rfl, fun _ => rfl⟩, fun h => absurd rfl h⟩
    | succ i => simp at hi
  | succ n ih =>
    by_cases hlt : a < L.length
    · have hd : L.drop a = L[a] :: L.drop (a + 1) := List.drop_eq_getElem_cons hlt
      have hs := step_len L[a] (L.drop (a + 1))
      rw [List.length_drop] at hs
      rw [hd, lexA_cons, ← hd] at h
      cases hst : step L[a] (L.drop (a + 1)) with
      | skip m =>
        rw [hst] at h hs
        simp only [Step.len] at hs
        simp only at h
        rw [List.drop_drop] at h
        have := ih (a + m) (by omega) (by omega) ts h
        refine ⟨fun i t hi => ?_, this.2⟩
        have h1 := this.1 i t hi
        refine ⟨?_, h1.hi, h1.text, h1.kind, h1.last, h1.some_⟩
        cases i with
        | zero => have := h1.lo; simp only [endOf] at this ⊢; omega
        | succ i => exact h1.lo
      | tok k m =>
        have hk := step_kind _ _ _ _ hst
        rw [hst] at h hs
        simp only [Step.len] at hs
        simp only at h
        rw [List.drop_drop] at h
        cases hr : lexA (a + m) (L.drop (a + m)) with
        | err _ _ => rw [hr] at h; simp [Res.pre] at h
        | ok us =>
          rw [hr] at h
          simp only [Res.pre] at h
          cases h
          have hu := ih (a + m) (by omega) (by omega) us hr
          have hne := lexA_ne _ _ (Nat.le_refl _) _ _ hr
          have hlen : ((L.drop a).take m).length = m := by rw [List.length_take, List.length_drop]; omega
          refine ⟨fun i t hi => ?_, ?_⟩
          · cases i with
            | zero =>
              simp at hi
              subst hi
              refine ⟨Nat.le_refl _, ?_, ?_, hk.2, ?_, ?_⟩
              · show a + ((L.drop a).take m).length ≤ _; omega
              · show (L.drop a).take ((L.drop a).take m).length = (L.drop a).take m; rw [hlen]
              · show k = 0 ↔ 0 + 1 = ([_] ++ us).length
                rw [List.length_append, List.length_singleton]; omega
              · intro _
                show 1 ≤ ((L.drop a).take m).length
                omega
            | succ i =>
              have h1 := hu.1 i t (by simpa using hi)
              refine ⟨?_, h1.hi, h1.text, h1.kind, ?_, h1.some_⟩
              · show endOf a (_ :: us) (i + 1) ≤ _
                rw [endOf_cons a (a + m) _ us i (by show a + m = a + ((L.drop a).take m).length; omega)]
                exact h1.lo
              · rw [List.length_append, List.length_singleton]
                rw [h1.last]
                omega
          · have e : ([(⟨k, a, (L.drop a).take m⟩ : Tok)] ++ us).length - 1 = (us.length - 1) + 1 := by rw [List.length_append, List.length_singleton]; omega
            rw [e]
            exact hu.2
      | bad e => rw [hst] at h; cases h
    · exact ih a ha (by omega) ts h

theorem lexA_size (n : Nat) (l : List UInt8) (hn : l.length ≤ n) (a : Nat) (ts : List Tok) (h : lexA a l = .ok ts) : ts.length ≤ l.length + 1 := by
  induction n generalizing l a ts with
  | zero =>
    obtain rfl := List.eq_nil_of_length_eq_zero (by omega : l.length = 0)
    rw [lexA_nil] at h
    cases h
    simp
  | succ n ih =>
    cases l with
    | nil =>
      rw [lexA_nil] at h
      cases h
      simp
    | cons c l =>
      have hs := step_len c l
      rw [lexA_cons] at h
      simp only [List.length_cons] at hn
      cases hst : step c l with
      | skip m =>
        rw [hst] at hs h
        simp only [Step.len] at hs
        have := ih _ (by rw [List.length_drop, List.length_cons]; omega) _ _ h
        rw [List.length_drop, List.length_cons] at this
        rw [List.length_cons]; omega
      | tok k m =>
        rw [hst] at hs h
        simp only [Step.len] at hs
        simp only at h
        cases hr : lexA (a + m) ((c :: l).drop m) with
        | ok us =>
          rw [hr] at h
          simp only [Res.pre] at h
          cases h
          have := ih _ (by rw [List.length_drop, List.length_cons]; omega) _ _ hr
          rw [List.length_drop, List.length_cons] at this
          rw [List.length_append, List.length_singleton, List.length_cons]; omega
        | err _ _ => rw [hr] at h; simp [Res.pre] at h
      | bad e => rw [hst] at h; cases h

theorem lexA_code (n : Nat) (l : List UInt8) (hn : l.length ≤ n) (a p e : Nat) (h : lexA a l = .err p e) : (e = 13 ∨ e = 22) ∧ a ≤ p ∧ p ≤ a + l.length := by
  induction n generalizing l a with
  | zero =>
    obtain rfl := List.eq_nil_of_length_eq_zero (by omega : l.length = 0)
    rw [lexA_nil] at h
    cases h
  | succ n ih =>
    cases l with
    | nil => rw [lexA_nil] at h; cases h
    | cons c l =>
      have hs := step_len c l
      rw [lexA_cons] at h
      simp only [List.length_cons] at hn ⊢
      cases hst : step c l with
      | skip m =>
        rw [hst] at hs h
        simp only [Step.len] at hs
        have := ih _ (by rw [List.length_drop, List.length_cons]; omega) _ h
        rw [List.length_drop, List.length_cons] at this
        exact ⟨this.1, by omega⟩
      | tok k m =>
        rw [hst] at hs h
        simp only [Step.len] at hs
        simp only at h
        cases hr : lexA (a + m) ((c :: l).drop m) with
        | ok us => rw [hr] at h; simp [Res.pre] at h
        | err p' e' =>
          rw [hr] at h
          simp only [Res.pre] at h
          cases h
          have := ih _ (by rw [List.length_drop, List.length_cons]; omega) _ hr
          rw [List.length_drop, List.length_cons] at this
          exact ⟨this.1, by omega⟩
      | bad e' =>
        rw [hst] at h
        cases h
        exact ⟨step_bad _ _ _ hst, by omega⟩

end Go.Proofs.Ytdhjelilmccmbaa
