/-
  A voter's state, and what its three procedures make of it.
-/
import Derived.Test.YtcjijafmfomohaaVotAwake
import Derived.Test.YtcjijafmfomohaaVotArg
namespace Go.Proofs.Ytcjijafmfomohaa
open Go.RowKit
set_option maxRecDepth 100000

/-- What a voter holds. -/
structure VtN where
  pr : Int
  pn : Int
  ar : Int
  an : Int
  x : En
  s : Bool

def VtN.zero : VtN := ⟨0, 0, 0, 0, En.zero, false⟩
def VtN.accept (st : VtN) (r n : Int) (y : En) : VtN := if blt r n st.pr st.pn then st else ⟨r, n, r, n, y, true⟩
def VtN.promise (st : VtN) (r n : Int) : VtN := if blt st.pr st.pn r n then { st with pr := r, pn := n } else st

def EnSmall (x : En) : Prop := x.l.length ≤ 4000 ∧ x.m.length ≤ 1000

/-- The voter in block b. -/
def VtS (w : World) (b : Nat) (st : VtN) : Prop :=
  ∃ v u, w.heap[b]? = some (oVr st.pr st.pn st.ar st.an st.x.k st.x.t st.x.n st.x.p v u st.s) ∧ ES w st.x v u ∧ Away b st.x v u ∧ EnSmall st.x

theorem VtS.fr {w w' : World} {b : Nat} {st : VtN} (h : VtS w b st) (f : Fr (fun _ => False) w w') : VtS w' b st := by
  obtain ⟨v, u, h1, h2, h3, h4⟩ := h
  exact ⟨v, u, crow_kept h1 f (fun h => h), h2.fr f, h3, h4⟩

theorem VtS.lt {w : World} {b : Nat} {st : VtN} (h : VtS w b st) : b < w.heap.size := by
  obtain ⟨v, u, h1, _⟩ := h
  exact lt_of h1

theorem vts_new (w : World) : VtS (w.alloc (oVr 0 0 0 0 0 0 0 0 nilS nilS false)) w.heap.size VtN.zero :=
  ⟨nilS, nilS, heap_alloc_new w _, es_zero _, ⟨.inl rfl, .inl rfl⟩, by decide, by decide⟩

theorem acceptS (b : Nat) (st : VtN) (r n : Int) (y : En) (v' u' : Value) (w : World) (h : VtS w b st) (hy : ES w y v' u') (ha : Away b y v' u') (hsm : EnSmall y) :
    Calls Try.prog 16 #[.pointer (some ⟨b, 0, none⟩), ball r n, y.val v' u'] w fun e w' =>
      e = .returned (.bool (!blt r n st.pr st.pn)) ∧ Fr (fun k => k = b) w w' ∧ VtS w' b (st.accept r n y) := by
  obtain ⟨v, u, h1, h2, h3, h4⟩ := h
  refine (accept_any b st.pr st.pn st.ar st.an st.x v u st.s r n y v' u' w h1 hy).mono ?_
  rintro e w' ⟨rfl, f, hv⟩
  refine ⟨rfl, f, ?_⟩
  unfold VotAfter at hv
  unfold VtN.accept
  by_cases hb : blt r n st.pr st.pn = true
  · rw [if_pos hb] at hv ⊢
    exact ⟨v, u, hv, h2.keep h3 f, h3, h4⟩
  · rw [if_neg hb] at hv ⊢
    exact ⟨v', u', hv, hy.keep ha f, ha, hsm⟩

/-- What Promise returns. -/
def PromRet (b : Nat) (st : VtN) (r n : Int) (e : Ending) (w' : World) : Prop :=
  (blt st.pr st.pn r n = false → e = .returned (.tuple #[ball 0 0, eZ, .bool false, .bool false])) ∧
  (blt st.pr st.pn r n = true → ∃ v' u', e = .returned (.tuple #[ball st.ar st.an, st.x.val v' u', .bool st.s, .bool true]) ∧ ES w' st.x v' u' ∧ Away b st.x v' u')

theorem promiseS (b : Nat) (st : VtN) (r n : Int) (w : World) (h : VtS w b st) :
    Calls Try.prog 13 #[.pointer (some ⟨b, 0, none⟩), ball r n] w fun e w' =>
      PromRet b st r n e w' ∧ Fr (fun k => k = b) w w' ∧ VtS w' b (st.promise r n) := by
  obtain ⟨v, u, h1, h2, h3, h4⟩ := h
  refine (promise_any b st.pr st.pn st.ar st.an st.x v u st.s r n w h1 h2 h3 h4.1 h4.2).mono ?_
  rintro e w' ⟨f, hno, hyes⟩
  cases hb : blt st.pr st.pn r n with
  | false =>
    obtain ⟨rfl, hv⟩ := hno hb
    refine ⟨⟨fun _ => rfl, fun h => (by rw [hb] at h; cases h)⟩, f, ?_⟩
    unfold VtN.promise
    rw [if_neg (by rw [hb]; decide)]
    exact ⟨v, u, hv, h2.keep h3 f, h3, h4⟩
  | true =>
    obtain ⟨⟨v', u', rfl, he⟩, hv⟩ := hyes hb
    refine ⟨⟨fun h => (by rw [hb] at h; cases h), fun _ => ⟨v', u', rfl, he⟩⟩, f, ?_⟩
    unfold VtN.promise
    rw [if_pos hb]
    exact ⟨v, u, hv, h2.keep h3 f, h3, h4⟩

theorem promisedS (b : Nat) (st : VtN) (w : World) (h : VtS w b st) :
    Calls Try.prog 8 #[.pointer (some ⟨b, 0, none⟩)] w fun e w' => e = .returned (ball st.pr st.pn) ∧ Fr (fun _ => False) w w' := by
  obtain ⟨v, u, h1, _⟩ := h
  exact promised_any b st.pr st.pn st.ar st.an st.x.k st.x.t st.x.n st.x.p v u st.s w h1

/-- What lies in memory below B only, or is empty. -/
def SmAt (B : Nat) (w : World) (s : Sm) (v : Value) : Prop := (∃ a c, v = s.sl a c) ∧ Sees w v s.c.l ∧ (s.c.l = [] ∨ ∀ k, v.ownBlock = some k → k < B) ∧ s.ok ∧ s.c.l.length ≤ 4000

theorem SmAt.keep {B : Nat} {S : Nat → Prop} {w w' : World} {s : Sm} {v : Value} (h : SmAt B w s v) (f : Fr S w w') (hS : ∀ k, S k → B ≤ k) : SmAt B w' s v :=
  ⟨h.1, h.2.1.keep f (h.2.2.1.imp id (fun h k hk hs => by have := h k hk; have := hS k hs; omega)), h.2.2.1, h.2.2.2⟩

/-- Small's Entry, away from a block that is newer than its argument's. -/
theorem sentryS (B : Nat) (s : Sm) (v : Value) (w : World) (h : SmAt B w s v) :
    Calls Try.prog 12 #[smV s v] w fun e w' =>
      ∃ v' u', e = .returned (s.en.val v' u') ∧ ES w' s.en v' u' ∧ Fr (fun _ => False) w w' ∧ (∀ b, B ≤ b → b < w.heap.size → Away b s.en v' u') ∧ EnSmall s.en := by
  obtain ⟨_, h2, h3, h4, h5⟩ := h
  refine (sentry_any s v w h4 h2).mono ?_
  rintro e w' ⟨y, rfl, v', u', rfl, he, f, hv, hu⟩
  refine ⟨v', u', rfl, he, f, fun b hb hlt => ⟨?_, ?_⟩, ?_⟩
  · rcases hv with e | e
    · subst e
      unfold Sm.en
      by_cases hk : s.kind % 3 = 1
      · rw [if_pos hk]
        exact h3.imp id (fun h hb2 => by have := h b hb2; omega)
      · rw [if_neg hk]
        left
        by_cases hk2 : s.kind % 3 = 2
        · rw [if_pos hk2]
        · rw [if_neg hk2]; rfl
    · subst e; exact .inr (by simp [Value.ownBlock])
  · exact .inr (fun hb2 => by have := hu b hb2; omega)
  · have hb := bitsL_len s.mb h4.m1
    unfold Sm.en EnSmall
    by_cases hk : s.kind % 3 = 1
    · rw [if_pos hk]; exact ⟨h5, by show (0 : Nat) ≤ 1000; omega⟩
    · rw [if_neg hk]
      by_cases hk2 : s.kind % 3 = 2
      · rw [if_pos hk2]; exact ⟨by show (0 : Nat) ≤ 4000; omega, by show (bitsL s.mb).length ≤ 1000; omega⟩
      · rw [if_neg hk2]; exact ⟨by decide, by decide⟩

theorem sm_small {B : Nat} {w : World} {s : Sm} {v : Value} (h : SmAt B w s v) : EnSmall s.en := by
  obtain ⟨_, _, _, h4, h5⟩ := h
  have hb := bitsL_len s.mb h4.m1
  unfold Sm.en EnSmall
  by_cases hk : s.kind % 3 = 1
  · rw [if_pos hk]; exact ⟨h5, by show (0 : Nat) ≤ 1000; omega⟩
  · rw [if_neg hk]
    by_cases hk2 : s.kind % 3 = 2
    · rw [if_pos hk2]; exact ⟨by show (0 : Nat) ≤ 4000; omega, by show (bitsL s.mb).length ≤ 1000; omega⟩
    · rw [if_neg hk2]; exact ⟨by decide, by decide⟩

/-- The region 'v.Accept(b, s.Entry())': what has been done. -/
def AcS (b : Nat) (st : VtN) (r n : Int) (s : Sm) (w4 : World) : List Value → World → Prop
  | [], wx => Fr (fun _ => False) w4 wx
  | [y], wx => ∃ v' u', y = s.en.val v' u' ∧ ES wx s.en v' u' ∧ Away b s.en v' u' ∧ EnSmall s.en ∧ Fr (fun _ => False) w4 wx
  | [_, z], wx => z = .bool (!blt r n st.pr st.pn) ∧ Fr (fun k => k = b) w4 wx ∧ VtS wx b (st.accept r n s.en)
  | _, _ => False

theorem AcS.fr {b : Nat} {st : VtN} {r n : Int} {s : Sm} {w4 wx : World} : ∀ {c : List Value}, AcS b st r n s w4 c wx → Fr (fun k => k = b) w4 wx
  | [], h => Fr.mono h (fun _ _ h => h.elim)
  | [_], ⟨_, _, _, _, _, _, h⟩ => h.mono (fun _ _ h => h.elim)
  | [_, _], ⟨_, h, _⟩ => h
  | _ :: _ :: _ :: _, h => h.elim

/-- Specs of values in a region: a known value; an entry. -/
inductive VE where
  | is (v : Value)
  | en (x : En)
def VE.holds : VE → Value → World → Prop
  | .is v, y, _ => y = v
  | .en x, y, w => ∃ v u, y = x.val v u ∧ ES w x v u
def veV (l : List VE) (i : Nat) (v : Value) (w : World) : Prop := (l.getD i (.is undef)).holds v w
theorem veV_mono (l : List VE) : ∀ i v w w', Fr (fun _ => False) w w' → veV l i v w → veV l i v w' := by
  intro i v w w' f h
  unfold veV at *
  cases hx : l.getD i (.is undef) with
  | is u => rw [hx] at h; exact h
  | en x =>
    rw [hx] at h
    obtain ⟨a, b, e, he⟩ := h
    exact ⟨a, b, e, he.fr f⟩

end Go.Proofs.Ytcjijafmfomohaa
