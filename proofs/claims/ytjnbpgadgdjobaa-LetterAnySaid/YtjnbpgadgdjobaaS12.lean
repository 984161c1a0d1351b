/-
  LetAny, part 12 of what it rests on: LetOf, LetFrom.
-/
import Derived.Test.YtjnbpgadgdjobaaS11
set_option linter.unusedVariables false
set_option linter.unusedSimpArgs false
set_option maxHeartbeats 64000000
namespace Go.Proofs.Ytjnbpgadgdjobaa
open Go.RowKit
open Go.Lib (hid)
section
set_option maxRecDepth 100000

def Cl (st : St) : Prop := st.2 ≠ 0 → st.1 = []
/-- From st to st': the bytes B were taken, and P; or there is an error. -/
def Ok1 (st st' : St) (B : List UInt8) (P : Prop) : Prop := (st'.2 = 0 ∧ st.2 = 0 ∧ st.1 = B ++ st'.1 ∧ P) ∨ (st'.2 ≠ 0 ∧ st'.1 = [])

theorem Ok1.cl {st st' : St} {B : List UInt8} {P : Prop} (h : Ok1 st st' B P) : Cl st' := by
  rcases h with h | h
  · exact fun e => absurd h.1 e
  · exact fun _ => h.2

theorem Ok1.seq {st st' st'' : St} {B B' : List UInt8} {P P' : Prop} (h : Ok1 st st' B P) (h' : Cl st' → Ok1 st' st'' B' P') : Ok1 st st'' (B ++ B') (P ∧ P') := by
  rcases h' h.cl with h2 | h2
  · rcases h with h1 | h1
    · exact .inl ⟨h2.1, h1.2.1, by rw [h1.2.2.1, h2.2.2.1, List.append_assoc], h1.2.2.2, h2.2.2.2⟩
    · exact absurd h2.2.1 h1.1
  · exact .inr h2

theorem Ok1.mono {st st' : St} {B : List UInt8} {P P' : Prop} (h : Ok1 st st' B P) (hp : P → P') : Ok1 st st' B P' := h.imp (fun h => ⟨h.1, h.2.1, h.2.2.1, hp h.2.2.2⟩) id
theorem Ok1.bytes {st st' : St} {B B' : List UInt8} {P : Prop} (h : Ok1 st st' B P) (hp : P → B = B') : Ok1 st st' B' P := by
  rcases h with ⟨h1, h2, h3, h4⟩ | h
  · exact .inl ⟨h1, h2, by rw [h3, hp h4], h4⟩
  · exact .inr h
theorem Ok1.refl {st : St} (h : Cl st) : Ok1 st st [] True := by
  by_cases e : st.2 = 0
  · exact .inl ⟨e, e, rfl, trivial⟩
  · exact .inr ⟨e, h e⟩

theorem ok_num2 (st : St) (h : Cl st) : Ok1 st (numS st 2).2 (be2 (numS st 2).1) True := by
  rcases numS_two st.1 st.2 2 h with ⟨h1, h2, h3, h4, h5⟩ | ⟨h1, h2, h3, h4⟩
  · refine .inl ⟨h1, h2, ?_, trivial⟩
    rw [show numS st 2 = numS (st.1, st.2) 2 from rfl, h4, h5, be2_beNum _ (by rw [List.length_take]; omega), List.take_append_drop]
  · exact .inr ⟨h1, h2⟩
theorem ok_num4 (st : St) (h : Cl st) : Ok1 st (numS st 4).2 (be4 (numS st 4).1) True := by
  rcases numS_two st.1 st.2 4 h with ⟨h1, h2, h3, h4, h5⟩ | ⟨h1, h2, h3, h4⟩
  · refine .inl ⟨h1, h2, ?_, trivial⟩
    rw [show numS st 4 = numS (st.1, st.2) 4 from rfl, h4, h5, be4_beNum _ (by rw [List.length_take]; omega), List.take_append_drop]
  · exact .inr ⟨h1, h2⟩

theorem ok_fail (st : St) (c : Int) (h : Cl st) : Ok1 st (failS st c) [] (c = 0) := by
  unfold failS
  by_cases e : st.2 = 0
  · by_cases hc : c = 0
    · rw [if_pos (.inl hc)]; exact .inl ⟨e, e, rfl, hc⟩
    · rw [if_neg (by rintro (h | h); exact hc h; exact h e)]; exact .inr ⟨hc, rfl⟩
  · rw [if_pos (.inr e)]; exact .inr ⟨e, h e⟩

theorem ok_kind (st : St) (h : Cl st) : Ok1 st (kindS st).2 (be2 (kindS st).1) ((kindS st).1 ≤ 7) := by
  have h1 := ok_num2 st h
  unfold kindS
  by_cases h8 : 8 ≤ (numS st 2).1
  · rw [if_pos h8]
    have h2 := ok_fail (numS st 2).2 5 h1.cl
    rcases h2 with h2 | h2
    · exact absurd h2.2.2.2 (by decide)
    · exact .inr h2
  · rw [if_neg h8]
    exact h1.mono (fun _ => by omega)

theorem ok_words : ∀ (n : Nat) (st : St), Cl st → Ok1 st (wordsS n st).2 (memE (wordsS n st).1) True
  | 0, st, h => Ok1.refl h
  | n + 1, st, h => by
    have h1 := ok_words n st h
    have h2 := h1.seq (ok_num2 (wordsS n st).2)
    refine (h2.mono (fun _ => trivial)).bytes (fun _ => ?_)
    rw [show (wordsS (n + 1) st).1 = (wordsS n st).1 ++ [((numS (wordsS n st).2 2).1 : Int)] from rfl, memE_append]
    show _ = _ ++ (be2 ((numS (wordsS n st).2 2).1 : Int).toNat ++ [])
    rw [List.append_nil, Int.toNat_natCast]

theorem ok_within (st : St) (m : Int) (h : Cl st) : Ok1 st (withinS st m).2 (be2 (withinS st m).1) (((withinS st m).1 : Int) ≤ m) := by
  rcases withinS_two st.1 st.2 m h with ⟨h1, h2, h3, h4, h5, h6⟩ | ⟨h1, h2, h3, h4⟩
  · refine .inl ⟨h1, h2, ?_, h5⟩
    rw [show withinS st m = withinS (st.1, st.2) m from rfl, h4, h6, be2_beNum _ (by rw [List.length_take]; omega), List.take_append_drop]
  · exact .inr ⟨h1, h2⟩

theorem ok_memb (st : St) (h : Cl st) : Ok1 st (membS st).2 (be2 (membS st).1.length ++ memE (membS st).1) (chkM (membS st).1 = 0) := by
  have h1 := ok_within st 16 h
  have h2 := h1.seq (ok_words (withinS st 16).1 (withinS st 16).2)
  have h3 := h2.seq (ok_fail _ (chkM (wordsS (withinS st 16).1 (withinS st 16).2).1))
  refine (h3.mono (fun h => h.2)).bytes (fun _ => ?_)
  rw [List.append_nil]
  show _ = be2 (wordsS (withinS st 16).1 (withinS st 16).2).1.length ++ _
  rw [wordsS_length]
  rfl

theorem ok_view (st : St) (h : Cl st) : Ok1 st (viewS st).2 (viewB (viewS st).1.1 (viewS st).1.2) True := by
  have h1 := ok_num4 st h
  have h2 := h1.seq (ok_within (numS st 4).2 16)
  have h3 := h2.seq (ok_words (withinS (numS st 4).2 16).1 (withinS (numS st 4).2 16).2)
  refine (h3.mono (fun _ => trivial)).bytes (fun _ => ?_)
  show _ = be4 ((numS st 4).1 : Int).toNat ++ be2 (wordsS (withinS (numS st 4).2 16).1 (withinS (numS st 4).2 16).2).1.length ++ memE _
  rw [wordsS_length, Int.toNat_natCast]
  rfl

theorem ok_ballot (st : St) (h : Cl st) : Ok1 st (ballotS st).2 (be4 (ballotS st).1.1.toNat ++ be2 (ballotS st).1.2.toNat) True :=
  ((ok_num4 st h).seq (ok_num2 (numS st 4).2)).mono (fun _ => trivial)

theorem ok_text (st : St) (h : Cl st) : Ok1 st (textS st 4000).2 (txt (textS st 4000).1) ((textS st 4000).1.length ≤ 4000) := by
  rcases textS_two st.1 st.2 4000 h with ⟨h1, h2, h3, h4, h5⟩ | ⟨h1, h2, h3, h4⟩
  · exact .inl ⟨h1, h2, h3, by have := h4; rw [show textS (st.1, st.2) 4000 = textS st 4000 from rfl] at this; omega⟩
  · exact .inr ⟨h1, h2⟩

theorem ok_call (st : St) (h : Cl st) : Ok1 st (takeS st).2 (callB (takeS st).1.1 (takeS st).1.2.1 (takeS st).1.2.2.1 (takeS st).1.2.2.2) ((takeS st).1.2.2.2.length ≤ 4000) := by
  have h1 := ok_num2 st h
  have h2 := h1.seq (ok_num2 (numS st 2).2)
  have h3 := h2.seq (ok_num2 (numS (numS st 2).2 2).2)
  have h4 := h3.seq (ok_text (numS (numS (numS st 2).2 2).2 2).2)
  unfold takeS callB
  simp only [Int.toNat_natCast]
  exact h4.mono (fun h => h.2)

theorem ok_ans (st : St) (h : Cl st) : Ok1 st (takeAS st).2 (ansB (takeAS st).1.1 (takeAS st).1.2.1 (takeAS st).1.2.2) ((takeAS st).1.2.2.length ≤ 4000) := by
  have h1 := ok_num2 st h
  have h2 := h1.seq (ok_num2 (numS st 2).2)
  have h4 := h2.seq (ok_text (numS (numS st 2).2 2).2)
  unfold takeAS ansB
  simp only [Int.toNat_natCast]
  exact h4.mono (fun h => h.2)

theorem ok_callC (st : St) (h : Cl st) : Ok1 st (takeS st).2 (callB (callC st).1 (callC st).2.1 (callC st).2.2.1 (callC st).2.2.2) True := by
  have h1 := ok_call st h
  by_cases h0 : (takeS st).2.2 = 0
  · unfold callC
    rw [if_pos h0]
    dsimp only
    exact h1.mono (fun _ => trivial)
  · rcases h1 with h1 | h1
    · exact absurd h1.1 h0
    · exact .inr h1

theorem ok_ansC (st : St) (h : Cl st) : Ok1 st (takeAS st).2 (ansB (ansC st).1 (ansC st).2.1 (ansC st).2.2) True := by
  have h1 := ok_ans st h
  by_cases h0 : (takeAS st).2.2 = 0
  · unfold ansC
    rw [if_pos h0]
    dsimp only
    exact h1.mono (fun _ => trivial)
  · rcases h1 with h1 | h1
    · exact absurd h1.1 h0
    · exact .inr h1

theorem entAS_ok (st : St) (h : Cl st) : Ok1 st (entAS st).2 (entB (entAS st).1) True := by
  have h1 := ok_num2 st h
  unfold entAS
  by_cases e0 : (numS st 2).1 = 0
  · rw [if_pos e0]
    refine (h1.mono (fun _ => trivial)).bytes (fun _ => ?_)
    rw [e0]; rfl
  rw [if_neg e0]
  by_cases e1 : (numS st 2).1 = 1
  · rw [if_pos e1]
    dsimp only
    have h2 := h1.seq (ok_call (numS st 2).2)
    by_cases h0 : (takeS (numS st 2).2).2.2 = 0
    · refine (h2.mono (fun _ => trivial)).bytes (fun _ => ?_)
      have e : callT (numS st 2).2 = ⟨1, (takeS (numS st 2).2).1.1, (takeS (numS st 2).2).1.2.1, (takeS (numS st 2).2).1.2.2.1, (takeS (numS st 2).2).1.2.2.2, []⟩ := by unfold callT; rw [if_pos h0]
      rw [e, e1]
      generalize (takeS (numS st 2).2).1 = z
      unfold entB
      dsimp only
      rw [if_pos rfl]
      rfl
    · rcases h2 with h2 | h2
      · exact absurd h2.1 h0
      · exact .inr h2
  rw [if_neg e1]
  by_cases e2 : (numS st 2).1 = 2
  · rw [if_pos e2]
    dsimp only
    have h2 := h1.seq (ok_memb (numS st 2).2)
    refine (h2.mono (fun _ => trivial)).bytes (fun _ => ?_)
    rw [e2]
    generalize (membS (numS st 2).2).1 = z
    unfold entB
    dsimp only
    rw [if_neg (by decide), if_pos rfl]
    rfl
  rw [if_neg e2]
  have h2 := ok_fail (numS st 2).2 5 h1.cl
  rcases h2 with h2 | h2
  · exact absurd h2.2.2.2 (by decide)
  · exact .inr h2

theorem ok_ent (st : St) (h : Cl st) : Ok1 st (entS st).2 (entB (entS st).1) True := by
  have h1 := entAS_ok st h
  by_cases h0 : (entAS st).2.2 = 0
  · unfold entS; rw [if_pos h0]; exact h1
  · rcases h1 with h1 | h1
    · exact absurd h1.1 h0
    · refine .inr ?_
      unfold entS; rw [if_neg h0]; exact h1

/-! The letter. -/
theorem has_of (k : Int) (s v : Bool) : hasE k s 1 = hasE k v 1 ∧ hasE k s 2 = hasE k v 2 ∧ hasE k s 4 = hasE k v 4 := by
  obtain ⟨a1, a2, a3⟩ := has_small k s
  obtain ⟨b1, b2, b3⟩ := has_small k v
  exact ⟨a1.trans b1.symm, a2.trans b2.symm, a3.trans b3.symm⟩

theorem ok_rd0 (st : St) (h : Cl st) : Ok1 st (rdS 0 st).2 (ltU (rdS 0 st).1 0) True := by
  have h1 := ok_kind st h
  have h2 := h1.seq (ok_num2 (kindS st).2)
  have h3 := h2.seq (ok_num2 (numS (kindS st).2 2).2)
  refine (h3.mono (fun _ => trivial)).bytes (fun _ => ?_)
  rfl

theorem ok_next {st : St} {i : Nat} {Y Y' : Lt} {T T' : St} (e : rdS i st = (Y, T)) (e' : rdS (i + 1) st = (Y', T')) (h : Ok1 st (rdS i st).2 (ltU (rdS i st).1 i) True) (hu : ltU Y' i = ltU Y i) (hs : Cl T → Ok1 T T' (ltP Y' (i + 1)) True) : Ok1 st (rdS (i + 1) st).2 (ltU (rdS (i + 1) st).1 (i + 1)) True := by
  rw [e] at h
  rw [e']
  refine ((h.seq hs).mono (fun _ => trivial)).bytes (fun _ => ?_)
  show ltU Y i ++ ltP Y' (i + 1) = ltU Y' i ++ ltP Y' (i + 1)
  rw [hu]

theorem ok_rd1 (st : St) (h : Cl st) : Ok1 st (rdS 1 st).2 (ltU (rdS 1 st).1 1) True := by
  have h0 := ok_rd0 st h
  obtain ⟨q, hq⟩ : ∃ q, q = rdS 0 st := ⟨_, rfl⟩
  have e1 : rdS 1 st = rdP 1 q := by rw [hq]; rfl
  by_cases hh : hasE q.1.k q.1.s 1 = true
  · rw [rdP, if_pos hh] at e1
    exact ok_next hq.symm e1 h0 rfl (fun hc => by rw [ltP, if_pos hh]; (try dsimp only); exact ok_num4 q.2 hc)
  · rw [rdP, if_neg hh] at e1
    exact ok_next hq.symm e1 h0 rfl (fun hc => by rw [ltP, if_neg hh]; exact Ok1.refl hc)
theorem ok_rd2 (st : St) (h : Cl st) : Ok1 st (rdS 2 st).2 (ltU (rdS 2 st).1 2) True := by
  have h0 := ok_rd1 st h
  obtain ⟨q, hq⟩ : ∃ q, q = rdS 1 st := ⟨_, rfl⟩
  have e1 : rdS 2 st = rdP 2 q := by rw [hq]; rfl
  by_cases hh : hasE q.1.k q.1.s 2 = true
  · rw [rdP, if_pos hh] at e1
    exact ok_next hq.symm e1 h0 rfl (fun hc => by rw [ltP, if_pos hh]; (try dsimp only); exact ok_ballot q.2 hc)
  · rw [rdP, if_neg hh] at e1
    exact ok_next hq.symm e1 h0 rfl (fun hc => by rw [ltP, if_neg hh]; exact Ok1.refl hc)
theorem ok_rd3 (st : St) (h : Cl st) : Ok1 st (rdS 3 st).2 (ltU (rdS 3 st).1 3) True := by
  have h0 := ok_rd2 st h
  obtain ⟨q, hq⟩ : ∃ q, q = rdS 2 st := ⟨_, rfl⟩
  have e1 : rdS 3 st = rdP 3 q := by rw [hq]; rfl
  by_cases hh : hasE q.1.k q.1.s 4 = true
  · rw [rdP, if_pos hh] at e1
    obtain ⟨v, hv⟩ : ∃ v, v = ((withinS q.2 1).1 : Int) := ⟨_, rfl⟩
    have hu : ltU { q.1 with s := v == 1 } 2 = ltU q.1 2 := by
      obtain ⟨a1, a2, a3⟩ := has_of q.1.k (v == 1) q.1.s
      simp only [ltU, ltP, a1, a2]
    rw [← hv] at e1
    refine ok_next hq.symm e1 h0 hu (fun hc => ?_)
    rw [ltP, if_pos (by rw [(has_of q.1.k (v == 1) q.1.s).2.2]; exact hh)]
    refine ((ok_within q.2 1 hc).bytes (fun hle => ?_)).mono (fun _ => trivial)
    unfold boolB
    show _ = be2 (if (v == 1) = true then 1 else 0)
    rw [hv]
    rcases (show (withinS q.2 1).1 = 0 ∨ (withinS q.2 1).1 = 1 by omega) with e | e
    · rw [e]; rfl
    · rw [e]; rfl
  · rw [rdP, if_neg hh] at e1
    exact ok_next hq.symm e1 h0 rfl (fun hc => by rw [ltP, if_neg hh]; exact Ok1.refl hc)
theorem ok_rd4 (st : St) (h : Cl st) : Ok1 st (rdS 4 st).2 (ltU (rdS 4 st).1 4) True := by
  have h0 := ok_rd3 st h
  obtain ⟨q, hq⟩ : ∃ q, q = rdS 3 st := ⟨_, rfl⟩
  have e1 : rdS 4 st = rdP 4 q := by rw [hq]; rfl
  by_cases hh : hasE q.1.k q.1.s 8 = true
  · rw [rdP, if_pos hh] at e1
    exact ok_next hq.symm e1 h0 rfl (fun hc => by rw [ltP, if_pos hh]; (try dsimp only); exact ok_ballot q.2 hc)
  · rw [rdP, if_neg hh] at e1
    exact ok_next hq.symm e1 h0 rfl (fun hc => by rw [ltP, if_neg hh]; exact Ok1.refl hc)
theorem ok_rd5 (st : St) (h : Cl st) : Ok1 st (rdS 5 st).2 (ltU (rdS 5 st).1 5) True := by
  have h0 := ok_rd4 st h
  obtain ⟨q, hq⟩ : ∃ q, q = rdS 4 st := ⟨_, rfl⟩
  have e1 : rdS 5 st = rdP 5 q := by rw [hq]; rfl
  by_cases hh : hasE q.1.k q.1.s 16 = true
  · rw [rdP, if_pos hh] at e1
    exact ok_next hq.symm e1 h0 rfl (fun hc => by rw [ltP, if_pos hh]; (try dsimp only); exact ok_ent q.2 hc)
  · rw [rdP, if_neg hh] at e1
    exact ok_next hq.symm e1 h0 rfl (fun hc => by rw [ltP, if_neg hh]; exact Ok1.refl hc)
theorem ok_rd6 (st : St) (h : Cl st) : Ok1 st (rdS 6 st).2 (ltU (rdS 6 st).1 6) True := by
  have h0 := ok_rd5 st h
  obtain ⟨q, hq⟩ : ∃ q, q = rdS 5 st := ⟨_, rfl⟩
  have e1 : rdS 6 st = rdP 6 q := by rw [hq]; rfl
  by_cases hh : hasE q.1.k q.1.s 32 = true
  · rw [rdP, if_pos hh] at e1
    exact ok_next hq.symm e1 h0 (by simp only [ltU, ltP]) (fun hc => by rw [ltP, if_pos hh]; (try dsimp only); exact ok_callC q.2 hc)
  · rw [rdP, if_neg hh] at e1
    exact ok_next hq.symm e1 h0 rfl (fun hc => by rw [ltP, if_neg hh]; exact Ok1.refl hc)
theorem ok_rd7 (st : St) (h : Cl st) : Ok1 st (rdS 7 st).2 (ltB (rdS 7 st).1) True := by
  have h0 := ok_rd6 st h
  obtain ⟨q, hq⟩ : ∃ q, q = rdS 6 st := ⟨_, rfl⟩
  have e1 : rdS 7 st = rdP 7 q := by rw [hq]; rfl
  by_cases hh : hasE q.1.k q.1.s 64 = true
  · rw [rdP, if_pos hh] at e1
    refine ok_next hq.symm e1 h0 (by simp only [ltU, ltP]) (fun hc => ?_)
    rw [ltP, if_pos hh]
    dsimp only
    have h1 := ok_num2 q.2 hc
    have h2 := h1.seq (ok_num2 (numS q.2 2).2)
    have h3 := h2.seq (ok_view (numS (numS q.2 2).2 2).2)
    have h4 := h3.seq (ok_ansC (viewS (numS (numS q.2 2).2 2).2).2)
    exact h4.mono (fun _ => trivial)
  · rw [rdP, if_neg hh] at e1
    exact ok_next hq.symm e1 h0 rfl (fun hc => by rw [ltP, if_neg hh]; exact Ok1.refl hc)
end
section
set_option maxRecDepth 100000

theorem words_memE (m : List Int) (R : List UInt8) (h : In16 m) : ∀ n, n ≤ m.length → wordsS n (memE m ++ R, 0) = (m.take n, (memE (m.drop n) ++ R, 0))
  | 0, _ => rfl
  | n + 1, hn => by
    have ih := words_memE m R h n (by omega)
    have hx := h _ (List.getElem_mem (show n < m.length by omega))
    show ((wordsS n (memE m ++ R, 0)).1 ++ [((numS (wordsS n (memE m ++ R, 0)).2 2).1 : Int)], (numS (wordsS n (memE m ++ R, 0)).2 2).2) = _
    rw [ih]
    dsimp only
    rw [memE_drop m n (by omega), List.append_assoc, numS_be2 _ (by omega), List.take_succ_eq_append_getElem (by omega)]
    dsimp only
    rw [Int.toNat_of_nonneg hx.1]

theorem memb_memE (m : List Int) (R : List UInt8) (h : In16 m) (hl : m.length ≤ 16) (hc : chkM m = 0) : membS (be2 m.length ++ memE m ++ R, 0) = (m, (R, 0)) := by
  unfold membS
  rw [List.append_assoc, withinS_be2 m.length (by omega) _ 16 (by omega)]
  dsimp only
  rw [words_memE m R h _ (Nat.le_refl _), List.take_length, List.drop_length]
  dsimp only
  rw [hc, failS_ok]
  rfl

theorem view_of (n : Int) (m : List Int) (R : List UInt8) (h0 : 0 ≤ n) (h1 : n ≤ 4294967295) (h : In16 m) (hl : m.length ≤ 16) : viewS (viewB n m ++ R, 0) = ((n, m), (R, 0)) := by
  unfold viewS viewB
  rw [List.append_assoc, List.append_assoc, numS_be4 _ (by omega)]
  dsimp only
  rw [withinS_be2 m.length (by omega) _ 16 (by omega)]
  dsimp only
  rw [words_memE m R h _ (Nat.le_refl _), List.take_length, List.drop_length, Int.toNat_of_nonneg h0]
  rfl

theorem ballot_of (r n : Int) (R : List UInt8) (h0 : 0 ≤ r) (h1 : r ≤ 4294967295) (h2 : 0 ≤ n) (h3 : n ≤ 65535) : ballotS (be4 r.toNat ++ be2 n.toNat ++ R, 0) = ((r, n), (R, 0)) := by
  unfold ballotS
  rw [List.append_assoc, numS_be4 _ (by omega)]
  dsimp only
  rw [numS_be2 _ (by omega)]
  dsimp only
  rw [Int.toNat_of_nonneg h0, Int.toNat_of_nonneg h2]

theorem kind_of (k : Int) (R : List UInt8) (h0 : 0 ≤ k) (h1 : k ≤ 7) : kindS (be2 k.toNat ++ R, 0) = (k.toNat, (R, 0)) := by
  unfold kindS
  rw [numS_be2 _ (by omega)]
  dsimp only
  rw [if_neg (by omega)]

theorem ent_of (x : En) (R : List UInt8) (h : EnOk x) : entS (entB x ++ R, 0) = (x, (R, 0)) := by
  have key : entAS (entB x ++ R, 0) = (x, (R, 0)) := by
    obtain ⟨k0, k1, t0, t1, n0, n1, p0, p1, l1, m1, mb, ck, nc, nm⟩ := h
    unfold entAS entB
    rw [List.append_assoc, numS_be2 _ (by omega)]
    dsimp only
    rcases (show x.k = 0 ∨ x.k = 1 ∨ x.k = 2 by omega) with h | h | h
    · rw [h]
      obtain ⟨a1, a2, a3, a4⟩ := nc (by omega)
      have a5 := nm (by omega)
      cases x
      simp only at *
      subst a1 a2 a3 a4 a5 h
      rfl
    · rw [h, if_neg (show ¬ Int.toNat 1 = 0 by decide), if_pos (show Int.toNat 1 = 1 by decide), if_pos (show (1 : Int) = 1 from rfl)]
      have e := takeS_call x.t x.n x.p x.l R t0 t1 n0 n1 p0 p1 l1
      have a5 := nm (by omega)
      unfold callT
      rw [e]
      dsimp only
      rw [if_pos rfl, Int.toNat_of_nonneg t0, Int.toNat_of_nonneg n0, Int.toNat_of_nonneg p0]
      cases x
      simp only at *
      subst a5 h
      rfl
    · rw [h, if_neg (show ¬ Int.toNat 2 = 0 by decide), if_neg (show ¬ Int.toNat 2 = 1 by decide), if_pos (show Int.toNat 2 = 2 by decide), if_neg (show ¬ (2 : Int) = 1 by decide), if_pos (show (2 : Int) = 2 from rfl)]
      obtain ⟨a1, a2, a3, a4⟩ := nc (by omega)
      have hck : chkM x.m = 0 := by
        have := ck
        unfold En.chk at this
        rw [if_neg (by omega), if_neg, if_neg (by omega), if_pos h] at this
        · exact this
        · rintro (⟨_, hh⟩ | ⟨hh, _⟩)
          · exact hh ⟨a1, a2, a3, a4⟩
          · exact hh h
      rw [memb_memE x.m R mb m1 hck]
      cases x
      simp only at *
      subst a1 a2 a3 a4 h
      rfl
  unfold entS
  rw [key]
  rfl

theorem bool_of (s : Bool) (R : List UInt8) : withinS (boolB s ++ R, 0) 1 = ((if s = true then 1 else 0), (R, 0)) := by
  unfold boolB
  cases s
  · exact withinS_be2 0 (by decide) R 1 (by decide) 0
  · exact withinS_be2 1 (by decide) R 1 (by decide) 0

theorem mask_s (x : Lt) (hx : x.only = x) (i : Nat) (h : 3 ≤ i) : (x.mask i).s = x.s := by
  have e := congrArg Lt.s hx
  rw [only_s] at e
  unfold Lt.mask
  simp only [h, decide_true, Bool.true_and]
  exact e

/-- One part, read of its bytes. -/
theorem rd_part1 (x : Lt) (ok : LtOk x) (R : List UInt8) : rdP 1 (x.mask 0, (ltP x 1 ++ R, 0)) = (x.mask 1, (R, 0)) := by
  have hh : hasE (x.mask 0).k (x.mask 0).s 1 = hasE x.k x.s 1 := (has_of x.k (x.mask 0).s x.s).1
  by_cases h : hasE x.k x.s 1 = true
  · obtain ⟨h0, h1⟩ := ok.p h
    rw [rdP, ltP, if_pos (hh.trans h), if_pos h]
    dsimp only
    rw [numS_be4 _ (by omega), mask_yes1 x h]
    dsimp only
    rw [Int.toNat_of_nonneg h0]
  · rw [rdP, ltP, if_neg (by rw [hh]; exact h), if_neg h, mask_no1 x (by simpa using h)]
    rfl
theorem rd_part2 (x : Lt) (ok : LtOk x) (R : List UInt8) : rdP 2 (x.mask 1, (ltP x 2 ++ R, 0)) = (x.mask 2, (R, 0)) := by
  have hh : hasE (x.mask 1).k (x.mask 1).s 2 = hasE x.k x.s 2 := (has_of x.k (x.mask 1).s x.s).2.1
  by_cases h : hasE x.k x.s 2 = true
  · obtain ⟨⟨h0, h1⟩, h2, h3⟩ := ok.b h
    rw [rdP, ltP, if_pos (hh.trans h), if_pos h]
    dsimp only
    rw [ballot_of _ _ _ h0 h1 h2 (by omega), mask_yes2 x h]
  · rw [rdP, ltP, if_neg (by rw [hh]; exact h), if_neg h, mask_no2 x (by simpa using h)]
    rfl
theorem rd_part3 (x : Lt) (R : List UInt8) : rdP 3 (x.mask 2, (ltP x 3 ++ R, 0)) = (x.mask 3, (R, 0)) := by
  have hh : hasE (x.mask 2).k (x.mask 2).s 4 = hasE x.k x.s 4 := (has_of x.k (x.mask 2).s x.s).2.2
  by_cases h : hasE x.k x.s 4 = true
  · rw [rdP, ltP, if_pos (hh.trans h), if_pos h]
    dsimp only
    rw [bool_of, mask_yes3 x h]
    dsimp only
    have e : ((((if x.s = true then 1 else 0) : Nat) : Int) == 1) = x.s := by cases x.s <;> rfl
    rw [e]
  · rw [rdP, ltP, if_neg (by rw [hh]; exact h), if_neg h, mask_no3 x (by simpa using h)]
    rfl
theorem rd_part4 (x : Lt) (ok : LtOk x) (hx : x.only = x) (R : List UInt8) : rdP 4 (x.mask 3, (ltP x 4 ++ R, 0)) = (x.mask 4, (R, 0)) := by
  have hh : hasE (x.mask 3).k (x.mask 3).s 8 = hasE x.k x.s 8 := by rw [mask_s x hx 3 (by omega)]; rfl
  by_cases h : hasE x.k x.s 8 = true
  · obtain ⟨⟨h0, h1⟩, h2, h3⟩ := ok.w h
    rw [rdP, ltP, if_pos (hh.trans h), if_pos h]
    dsimp only
    rw [ballot_of _ _ _ h0 h1 h2 (by omega), mask_yes4 x h]
  · rw [rdP, ltP, if_neg (by rw [hh]; exact h), if_neg h, mask_no4 x (by simpa using h)]
    rfl
theorem rd_part5 (x : Lt) (ok : LtOk x) (hx : x.only = x) (R : List UInt8) : rdP 5 (x.mask 4, (ltP x 5 ++ R, 0)) = (x.mask 5, (R, 0)) := by
  have hh : hasE (x.mask 4).k (x.mask 4).s 16 = hasE x.k x.s 16 := by rw [mask_s x hx 4 (by omega)]; rfl
  by_cases h : hasE x.k x.s 16 = true
  · rw [rdP, ltP, if_pos (hh.trans h), if_pos h]
    dsimp only
    rw [ent_of _ _ (ok.e h), mask_yes5 x h]
  · rw [rdP, ltP, if_neg (by rw [hh]; exact h), if_neg h, mask_no5 x (by simpa using h)]
    rfl
theorem rd_part6 (x : Lt) (ok : LtOk x) (hx : x.only = x) (R : List UInt8) : rdP 6 (x.mask 5, (ltP x 6 ++ R, 0)) = (x.mask 6, (R, 0)) := by
  have hh : hasE (x.mask 5).k (x.mask 5).s 32 = hasE x.k x.s 32 := by rw [mask_s x hx 5 (by omega)]; rfl
  by_cases h : hasE x.k x.s 32 = true
  · obtain ⟨⟨⟨t0, t1⟩, n0, n1⟩, hp, hl⟩ := ok.c h
    obtain ⟨p0, p1⟩ := ok_bounds hp
    have e := takeS_call x.ct x.cn x.cp x.cl R t0 t1 n0 n1 p0 p1 hl
    rw [rdP, ltP, if_pos (hh.trans h), if_pos h]
    dsimp only
    unfold callC
    rw [e, mask_yes6 x h]
    dsimp only
    rw [if_pos rfl]
    dsimp only
    rw [Int.toNat_of_nonneg t0, Int.toNat_of_nonneg n0, Int.toNat_of_nonneg p0]
  · rw [rdP, ltP, if_neg (by rw [hh]; exact h), if_neg h, mask_no6 x (by simpa using h)]
    rfl
theorem rd_part7 (x : Lt) (ok : LtOk x) (hx : x.only = x) (R : List UInt8) : rdP 7 (x.mask 6, (ltP x 7 ++ R, 0)) = (x.mask 7, (R, 0)) := by
  have hh : hasE (x.mask 6).k (x.mask 6).s 64 = hasE x.k x.s 64 := by rw [mask_s x hx 6 (by omega)]; rfl
  by_cases h : hasE x.k x.s 64 = true
  · obtain ⟨⟨⟨⟨t0, t1⟩, n0, n1⟩, ⟨v0, v1⟩, hck, h16, hlen⟩, hae, har, hal⟩ := ok.a h
    obtain ⟨a0, a1⟩ := ok_bounds hae
    obtain ⟨r0, r1⟩ := ok_bounds har
    have e := takeAS_ans x.ae x.ar x.al R a0 a1 r0 r1 hal
    rw [rdP, ltP, if_pos (hh.trans h), if_pos h]
    dsimp only
    rw [List.append_assoc, List.append_assoc, List.append_assoc, numS_be2 _ (by omega)]
    dsimp only
    rw [numS_be2 _ (by omega)]
    dsimp only
    rw [view_of _ _ _ v0 v1 h16 hlen]
    dsimp only
    unfold ansC
    rw [e, mask_yes7 x h]
    dsimp only
    rw [if_pos rfl]
    dsimp only
    rw [Int.toNat_of_nonneg t0, Int.toNat_of_nonneg n0, Int.toNat_of_nonneg a0, Int.toNat_of_nonneg r0]
  · rw [rdP, ltP, if_neg (by rw [hh]; exact h), if_neg h, mask_no7 x (by simpa using h)]
    rfl

/-- Of a letter's bytes the letter is read. -/
theorem rd_of (x : Lt) (ok : LtOk x) (hx : x.only = x) (R : List UInt8) : rdS 7 (ltB x ++ R, 0) = (x, (R, 0)) := by
  have hb : ltB x ++ R = ltP x 0 ++ (ltP x 1 ++ (ltP x 2 ++ (ltP x 3 ++ (ltP x 4 ++ (ltP x 5 ++ (ltP x 6 ++ (ltP x 7 ++ R))))))) := by
    simp only [ltB, ltU, List.append_assoc]
  have h0 : ∀ Z, rdS 0 (ltP x 0 ++ Z, 0) = (x.mask 0, (Z, 0)) := by
    intro Z
    rw [rdS, ltP, List.append_assoc, List.append_assoc, kind_of _ _ ok.k0 ok.k1]
    have := ok.f1
    have := ok.t1
    dsimp only
    rw [numS_be2 _ (by omega)]
    dsimp only
    rw [numS_be2 _ (by omega), ← mask_zero]
    dsimp only
    rw [Int.toNat_of_nonneg ok.k0, Int.toNat_of_nonneg ok.f0, Int.toNat_of_nonneg ok.t0]
  rw [hb]
  show rdP 7 (rdP 6 (rdP 5 (rdP 4 (rdP 3 (rdP 2 (rdP 1 (rdS 0 _))))))) = _
  rw [h0, rd_part1 x ok, rd_part2 x ok, rd_part3 x, rd_part4 x ok hx, rd_part5 x ok hx, rd_part6 x ok hx, rd_part7 x ok hx]
  show (x.only, _) = _
  rw [hx]

/-! What is read is of its types. -/
theorem num16 (st : St) : 0 ≤ ((numS st 2).1 : Int) ∧ ((numS st 2).1 : Int) ≤ 65535 := by
  have : (numS st 2).1 < 65536 := numS_small st 2
  omega
theorem kindS_le (st : St) : (kindS st).1 ≤ 7 := by
  unfold kindS
  split
  · exact Nat.zero_le _
  · omega

/-- A letter of the types that Go gives it, with lists that are not long. -/
structure LtT (x : Lt) : Prop where
  l : x.lens
  t : LtTy x

theorem callC_ty (st : St) (h : Cl st) : (0 ≤ (callC st).1 ∧ (callC st).1 ≤ 65535) ∧ (0 ≤ (callC st).2.1 ∧ (callC st).2.1 ≤ 65535) ∧ (callC st).2.2.2.length ≤ 4000 := by
  unfold callC
  by_cases h0 : (takeS st).2.2 = 0
  · rw [if_pos h0]
    have e1 : (takeS st).1.1 = (numS st 2).1 := by unfold takeS; dsimp only
    have e2 : (takeS st).1.2.1 = (numS (numS st 2).2 2).1 := by unfold takeS; dsimp only
    dsimp only
    rcases ok_call st h with h1 | h1
    · rw [e1, e2]
      exact ⟨num16 _, num16 _, h1.2.2.2⟩
    · exact absurd h0 h1.1
  · rw [if_neg h0]
    exact ⟨by decide, by decide, Nat.zero_le _⟩
theorem ansC_ty (st : St) (h : Cl st) : (ansC st).2.2.length ≤ 4000 := by
  unfold ansC
  by_cases h0 : (takeAS st).2.2 = 0
  · rw [if_pos h0]
    dsimp only
    rcases ok_ans st h with h1 | h1
    · exact h1.2.2.2
    · exact absurd h0 h1.1
  · rw [if_neg h0]
    exact Nat.zero_le _

def EnT (x : En) : Prop := ((0 ≤ x.k ∧ x.k ≤ 255) ∧ (0 ≤ x.t ∧ x.t ≤ 65535) ∧ (0 ≤ x.n ∧ x.n ≤ 65535)) ∧ x.l.length ≤ 4000 ∧ x.m.length ≤ 16

theorem EnT.zero : EnT En.zero := ⟨⟨by decide, by decide, by decide⟩, Nat.zero_le _, Nat.zero_le _⟩

theorem EnT.mk2 (m : List Int) (h : m.length ≤ 16) : EnT ⟨2, 0, 0, 0, [], m⟩ :=
  ⟨⟨⟨by show (0 : Int) ≤ 2; decide, by show (2 : Int) ≤ 255; decide⟩, ⟨by show (0 : Int) ≤ 0; decide, by show (0 : Int) ≤ 65535; decide⟩, ⟨by show (0 : Int) ≤ 0; decide, by show (0 : Int) ≤ 65535; decide⟩⟩, Nat.zero_le _, h⟩
theorem EnT.mk1 {t n p : Int} {l : List UInt8} (ht : 0 ≤ t ∧ t ≤ 65535) (hn : 0 ≤ n ∧ n ≤ 65535) (hl : l.length ≤ 4000) : EnT ⟨1, t, n, p, l, []⟩ :=
  ⟨⟨⟨by show (0 : Int) ≤ 1; decide, by show (1 : Int) ≤ 255; decide⟩, ht, hn⟩, hl, Nat.zero_le _⟩

theorem callT_ty (st : St) (h : Cl st) : EnT (callT st) := by
  have h1 := callC_ty st h
  unfold callC at h1
  unfold callT
  by_cases h0 : (takeS st).2.2 = 0
  · rw [if_pos h0] at h1 ⊢
    dsimp only at h1
    exact EnT.mk1 h1.1 h1.2.1 h1.2.2
  · rw [if_neg h0]
    exact EnT.mk1 ⟨by decide, by decide⟩ ⟨by decide, by decide⟩ (Nat.zero_le _)

theorem membS_le (st : St) : (membS st).1.length ≤ 16 := by
  unfold membS
  dsimp only
  rw [wordsS_length]
  exact withinS_16 _

theorem entAS_ty (st : St) (h : Cl st) : EnT (entAS st).1 := by
  have hc := (ok_num2 st h).cl
  unfold entAS
  by_cases e0 : (numS st 2).1 = 0
  · rw [if_pos e0]; exact EnT.zero
  rw [if_neg e0]
  by_cases e1 : (numS st 2).1 = 1
  · rw [if_pos e1]
    dsimp only
    exact callT_ty _ hc
  rw [if_neg e1]
  by_cases e2 : (numS st 2).1 = 2
  · rw [if_pos e2]
    dsimp only
    exact EnT.mk2 _ (membS_le _)
  rw [if_neg e2]
  exact EnT.zero

theorem ent_ty (st : St) (h : Cl st) : EnT (entS st).1 := by
  unfold entS
  by_cases e0 : (entAS st).2.2 = 0
  · rw [if_pos e0]; exact entAS_ty st h
  · rw [if_neg e0]; exact EnT.zero

def Lt.ty (x : Lt) : Prop := ((0 ≤ x.k ∧ x.k ≤ 255) ∧ EnT x.e) ∧ ((0 ≤ x.ct ∧ x.ct ≤ 65535) ∧ (0 ≤ x.cn ∧ x.cn ≤ 65535) ∧ x.cl.length ≤ 4000) ∧ ((0 ≤ x.it ∧ x.it ≤ 65535) ∧ (0 ≤ x.iN ∧ x.iN ≤ 65535) ∧ x.vm.length ≤ 16 ∧ x.al.length ≤ 4000)

theorem Lt.ty.lt {x : Lt} (h : x.ty) : LtT x := by
  obtain ⟨⟨h1, h2⟩, ⟨h3, h4, h5⟩, h6, h7, h8, h9⟩ := h
  exact ⟨⟨by have := h2.2.1; omega, by have := h2.2.2; omega, by omega, by omega, by omega, h2.1.1.1, h2.1.1.2⟩, ⟨h1.1, h1.2, h2.1.1.1, h2.1.1.2, h2.1.2.1, h2.1.2.2, h3, h4, h6, h7⟩⟩

theorem rd_cl (st : St) (h : Cl st) : Cl (rdS 0 st).2 ∧ Cl (rdS 1 st).2 ∧ Cl (rdS 2 st).2 ∧ Cl (rdS 3 st).2 ∧ Cl (rdS 4 st).2 ∧ Cl (rdS 5 st).2 ∧ Cl (rdS 6 st).2 :=
  ⟨(ok_rd0 st h).cl, (ok_rd1 st h).cl, (ok_rd2 st h).cl, (ok_rd3 st h).cl, (ok_rd4 st h).cl, (ok_rd5 st h).cl, (ok_rd6 st h).cl⟩

theorem viewS_le (st : St) : (viewS st).1.2.length ≤ 16 := by
  unfold viewS
  dsimp only
  rw [wordsS_length]
  exact withinS_16 _

theorem Lt.ty.up5 {Y : Lt} (h : Y.ty) {e : En} (he : EnT e) : ({ Y with e := e } : Lt).ty := ⟨⟨h.1.1, he⟩, h.2⟩
theorem Lt.ty.up6 {Y : Lt} (h : Y.ty) {a b c : Int} {l : List UInt8} (hc : (0 ≤ a ∧ a ≤ 65535) ∧ (0 ≤ b ∧ b ≤ 65535) ∧ l.length ≤ 4000) : ({ Y with ct := a, cn := b, cp := c, cl := l } : Lt).ty := ⟨h.1, hc, h.2.2⟩
theorem Lt.ty.up7 {Y : Lt} (h : Y.ty) {a b n c d : Int} {m : List Int} {l : List UInt8} (ha : 0 ≤ a ∧ a ≤ 65535) (hb : 0 ≤ b ∧ b ≤ 65535) (hm : m.length ≤ 16) (hl : l.length ≤ 4000) : ({ Y with it := a, iN := b, vn := n, vm := m, ae := c, ar := d, al := l } : Lt).ty := ⟨h.1, h.2.1, ha, hb, hm, hl⟩

theorem ty_next1 {q : Lt × St} (h : q.1.ty) : (rdP 1 q).1.ty := by rw [rdP]; split <;> exact h
theorem ty_next2 {q : Lt × St} (h : q.1.ty) : (rdP 2 q).1.ty := by rw [rdP]; split <;> exact h
theorem ty_next3 {q : Lt × St} (h : q.1.ty) : (rdP 3 q).1.ty := by rw [rdP]; split <;> exact h
theorem ty_next4 {q : Lt × St} (h : q.1.ty) : (rdP 4 q).1.ty := by rw [rdP]; split <;> exact h
theorem ty_next5 {q : Lt × St} (h : q.1.ty) (hc : Cl q.2) : (rdP 5 q).1.ty := by
  rw [rdP]
  split
  · exact h.up5 (ent_ty q.2 hc)
  · exact h
theorem ty_next6 {q : Lt × St} (h : q.1.ty) (hc : Cl q.2) : (rdP 6 q).1.ty := by
  rw [rdP]
  split
  · exact h.up6 (callC_ty q.2 hc)
  · exact h
theorem ty_next7 {q : Lt × St} (h : q.1.ty) (hc : Cl q.2) : (rdP 7 q).1.ty := by
  rw [rdP]
  split
  · exact h.up7 (num16 _) (num16 _) (viewS_le _) (ansC_ty _ (((ok_num2 q.2 hc).seq (ok_num2 (numS q.2 2).2)).seq (ok_view (numS (numS q.2 2).2 2).2)).cl)
  · exact h

theorem ty_zero {k f t : Int} (h : 0 ≤ k ∧ k ≤ 255) : ({ Lt.zero with k := k, f := f, t := t } : Lt).ty :=
  ⟨⟨h, EnT.zero⟩, ⟨(show (0 : Int) ≤ 0 ∧ (0 : Int) ≤ 65535 by decide), (show (0 : Int) ≤ 0 ∧ (0 : Int) ≤ 65535 by decide), Nat.zero_le _⟩, (show (0 : Int) ≤ 0 ∧ (0 : Int) ≤ 65535 by decide), (show (0 : Int) ≤ 0 ∧ (0 : Int) ≤ 65535 by decide), Nat.zero_le _, Nat.zero_le _⟩

theorem rd_ty (st : St) (h : Cl st) : LtT (rdS 7 st).1 := by
  obtain ⟨c0, c1, c2, c3, c4, c5, c6⟩ := rd_cl st h
  have h0 : (rdS 0 st).1.ty := ty_zero ⟨Int.natCast_nonneg _, by have := kindS_le st; omega⟩
  have h1 : (rdS 1 st).1.ty := ty_next1 h0
  have h2 : (rdS 2 st).1.ty := ty_next2 h1
  have h3 : (rdS 3 st).1.ty := ty_next3 h2
  have h4 : (rdS 4 st).1.ty := ty_next4 h3
  have h5 : (rdS 5 st).1.ty := ty_next5 h4 c4
  have h6 : (rdS 6 st).1.ty := ty_next6 h5 c5
  have h7 : (rdS 7 st).1.ty := ty_next7 h6 c6
  exact h7.lt
end
end Go.Proofs.Ytjnbpgadgdjobaa
