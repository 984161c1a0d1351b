/-
  Post: its methods as the laws use them: told without its memory; what else lies in memory (the blocks K) stays.
-/
import Derived.Test.YtojfabhbkdddpaaPoAwake
namespace Go.Proofs.Ytojfabhbkdddpaa
open Go.RowKit
set_option maxRecDepth 100000
set_option linter.unusedSimpArgs false
set_option linter.unusedVariables false

/-- A post of these flights, made since w0, and blocks K, made since w0, that are not its own. -/
def PW (w0 w : World) (b : Nat) (R : List PF) (K : Nat → Prop) : Prop :=
  ∃ v L, PostIn w w0.heap.size b v L ∧ L.map Fl.p = R ∧ Fr (fun _ => False) w0 w ∧ ∀ k, K k → w0.heap.size ≤ k ∧ k < w.heap.size ∧ ¬ Pb b v L k

section
variable {w0 w w' : World} {b : Nat} {R R' : List PF} {K K' S : Nat → Prop}

theorem PW.fr (h : PW w0 w b R K) : Fr (fun _ => False) w0 w := by
  obtain ⟨v, L, h1, h2, h3, h4⟩ := h
  exact h3

theorem PW.new (f : Fr (fun _ => False) w0 w) : PW w0 (w.alloc (oPo nilS)) w.heap.size [] (fun _ => False) :=
  ⟨nilS, [], post_new w _ f.size, rfl, f.alloc _, fun k hk => hk.elim⟩

theorem PW.blt (h : PW w0 w b R K) : w0.heap.size ≤ b ∧ b < w.heap.size := by
  obtain ⟨v, L, h1, h2, h3, h4⟩ := h
  exact h1.lt b (.inl rfl)
theorem PW.ne (h : PW w0 w b R K) {k : Nat} (hk : K k) : k ≠ b ∧ w0.heap.size ≤ k ∧ k < w.heap.size := by
  obtain ⟨v, L, h1, h2, h3, h4⟩ := h
  exact ⟨fun e => (h4 k hk).2.2 (.inl e), (h4 k hk).1, (h4 k hk).2.1⟩

/-- What is done beside the post. -/
theorem PW.other (h : PW w0 w b R K) (f : Fr S w w') (hS : ∀ k, k < w.heap.size → S k → K k) (hK : ∀ k, K' k → K k ∨ (w.heap.size ≤ k ∧ k < w'.heap.size)) : PW w0 w' b R K' := by
  obtain ⟨v, L, h1, h2, h3, h4⟩ := h
  refine ⟨v, L, h1.fr f (fun k hk hs => ?_), h2, h3.trans f (fun k hk hs => ?_), fun k hk => ?_⟩
  · exact (h4 k (hS k (h1.lt k hk).2 hs)).2.2 hk
  · have := (h4 k (hS k (Nat.lt_of_lt_of_le hk h3.size) hs)).1
    omega
  · rcases hK k hk with e | e
    · obtain ⟨a1, a2, a3⟩ := h4 k e
      exact ⟨a1, Nat.lt_of_lt_of_le a2 f.size, a3⟩
    · exact ⟨Nat.le_trans h3.size e.1, e.2, fun hp => by have := (h1.lt k hp).2; omega⟩

theorem PW.fr0 (h : PW w0 w b R K) (f : Fr (fun _ => False) w w') : PW w0 w' b R K := h.other f (fun _ _ h => h.elim) (fun _ h => .inl h)
theorem PW.less (h : PW w0 w b R K) (hK : ∀ k, K' k → K k) : PW w0 w b R K' := h.other (Fr.refl (fun _ => False) w) (fun _ _ h => h.elim) (fun k h => .inl (hK k h))

theorem pw_step {v v' : Value} {L L' : List Fl} (h3 : Fr (fun _ => False) w0 w) (h4 : ∀ k, K k → w0.heap.size ≤ k ∧ k < w.heap.size ∧ ¬ Pb b v L k) (h1 : PostIn w w0.heap.size b v L) (n : PNew w w' w0.heap.size b v L v' L') (e : L'.map Fl.p = R') : PW w0 w' b R' K ∧ Fr (fun k => w0.heap.size ≤ k ∧ ¬ K k) w w' := by
  refine ⟨⟨v', L', n.inn, e, h3.trans n.fr (fun k hk hp => ?_), fun k hk => ?_⟩, n.fr.mono (fun k _ hp => ⟨(h1.lt k hp).1, fun hk => (h4 k hk).2.2 hp⟩)⟩
  · have := (h1.lt k hp).1; omega
  · obtain ⟨a1, a2, a3⟩ := h4 k hk
    refine ⟨a1, Nat.lt_of_lt_of_le a2 n.fr.size, fun hp => ?_⟩
    rcases n.new k hp with e | e
    · exact a3 e
    · omega

theorem len_pw (h : PW w0 w b R K) : Calls Try.prog 12 #[ptr b] w fun e w' => e = .returned (.int .i64 R.length) ∧ w = w' := by
  obtain ⟨v, L, h1, rfl, h3, h4⟩ := h
  rw [List.length_map]
  exact len_any h1

theorem send_pw (h : PW w0 w b R K) (t : Int) (l : List UInt8) (v0 : Value) (hs : Sees w v0 l) (hl : l.length ≤ 100000) : Calls Try.prog 8 #[ptr b, .int .i64 t, v0] w fun e w' =>
    e = .returned (.bool (decide (R.length < 400))) ∧ PW w0 w' b (sendP R (t, l, false)) K ∧ Fr (fun k => w0.heap.size ≤ k ∧ ¬ K k) w w' := by
  obtain ⟨v, L, h1, rfl, h3, h4⟩ := h
  refine (send_any h1 t l v0 hs hl).mono ?_
  rintro e w1 ⟨rfl, v', L', n, e⟩
  rw [List.length_map]
  exact ⟨rfl, pw_step h3 h4 h1 n e⟩

theorem copy_pw (h : PW w0 w b R K) (i : Int) : Calls Try.prog 10 #[ptr b, .int .i64 i] w fun e w' =>
    e = .returned (.bool (copyB i R.length)) ∧ PW w0 w' b (copyP R i) K ∧ Fr (fun k => w0.heap.size ≤ k ∧ ¬ K k) w w' := by
  obtain ⟨v, L, h1, rfl, h3, h4⟩ := h
  refine (copy_any h1 i).mono ?_
  rintro e w1 ⟨rfl, v', L', n, e⟩
  rw [List.length_map]
  exact ⟨rfl, pw_step h3 h4 h1 n e⟩

theorem spoil_pw (h : PW w0 w b R K) (i from_ : Int) (hfr : -9223372036854775808 ≤ from_ ∧ from_ ≤ 9223372036854775807) (m : Nat) (hm : m < 4294967296) : Calls Try.prog 11 #[ptr b, .int .i64 i, .int .i64 from_, .int .u32 m] w fun e w' =>
    e = .returned (.bool (spoilB R i m)) ∧ PW w0 w' b (spoilP R i from_ m) K ∧ Fr (fun k => w0.heap.size ≤ k ∧ ¬ K k) w w' := by
  obtain ⟨v, L, h1, rfl, h3, h4⟩ := h
  refine (spoil_any h1 i from_ hfr m hm).mono ?_
  rintro e w1 ⟨rfl, v', L', n, e⟩
  exact ⟨rfl, pw_step h3 h4 h1 n e⟩

theorem look_pw (h : PW w0 w b R K) (i : Int) : Calls Try.prog 13 #[ptr b, .int .i64 i] w fun e w' =>
    ∃ u, e = .returned (.tuple #[flv (lookP R i).1 u (lookP R i).2.2, .bool (hasB i R.length)]) ∧ Made u (lookP R i).2.1 w w' ∧ PW w0 w' b R (fun k => K k ∨ u.ownBlock = some k) := by
  have h0 := h
  obtain ⟨v, L, h1, rfl, h3, h4⟩ := h
  rw [List.length_map]
  refine (look_any h1 i).mono ?_
  rintro e w1 ⟨u, rfl, hm⟩
  refine ⟨u, rfl, hm, h0.other hm.2.1 (fun _ _ h => h.elim) (fun k hk => ?_)⟩
  rcases hk with e | e
  · exact .inl e
  · exact .inr ⟨hm.2.2 k e, hm.1.lt k e⟩

theorem take_pw (h : PW w0 w b R K) (i : Int) : Calls Try.prog 9 #[ptr b, .int .i64 i] w fun e w' =>
    ∃ u, e = .returned (.tuple #[flv (lookP R i).1 u (lookP R i).2.2, .bool (hasB i R.length)]) ∧ Sees w' u (lookP R i).2.1 ∧ PW w0 w' b (takeP R i) K ∧ Fr (fun k => w0.heap.size ≤ k ∧ ¬ K k) w w' := by
  obtain ⟨v, L, h1, rfl, h3, h4⟩ := h
  rw [List.length_map]
  refine (take_any h1 i).mono ?_
  rintro e w1 ⟨u, rfl, hs, hu, v', L', n, hnu, e⟩
  exact ⟨u, rfl, hs, pw_step h3 h4 h1 n e⟩
end
end Go.Proofs.Ytojfabhbkdddpaa
