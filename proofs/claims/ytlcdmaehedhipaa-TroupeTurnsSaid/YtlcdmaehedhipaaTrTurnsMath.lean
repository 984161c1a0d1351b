/-
  Pure: a number's bits, less one and with one.
-/
import Derived.Test.YtlcdmaehedhipaaTrWith
namespace Go.Proofs.Ytlcdmaehedhipaa
open Go.RowKit
set_option maxRecDepth 100000

theorem insL_mem (l : List Int) (i : Nat) (n x : Int) : x ∈ insL l i n ↔ x ∈ l ∨ x = n := by
  unfold insL
  conv => rhs; rw [← List.take_append_drop i l]
  simp only [List.mem_append, List.mem_cons]
  constructor
  · rintro (h | h | h)
    · exact .inl (.inl h)
    · exact .inr h
    · exact .inl (.inr h)
  · rintro ((h | h) | h)
    · exact .inl h
    · exact .inr (.inr h)
    · exact .inr (.inl h)

theorem wiL_mem (l : List Int) (n x : Int) : x ∈ wiL l n ↔ x ∈ l ∨ x = n := by
  unfold wiL
  split
  · rename_i h
    constructor
    · exact .inl
    · rintro (h' | rfl)
      · exact h'
      · exact h
  · exact insL_mem _ _ _ _

theorem wiL_sorted (l : List Int) (n : Int) (h : l.Pairwise (· < ·)) : (wiL l n).Pairwise (· < ·) := by
  unfold wiL
  split
  · exact h
  rename_i hn
  obtain ⟨i, hi, hA, hB⟩ : ∃ i, (if l.any (fun x => decide (n < x)) then l.findIdx (fun x => decide (n < x)) else l.length) = i ∧ (∀ x ∈ l.take i, x < n) ∧ (∀ x ∈ l.drop i, n < x) := by
    refine ⟨_, rfl, ?_, ?_⟩
    · intro x hx
      obtain ⟨j, hj, rfl⟩ := List.mem_take_iff_getElem.1 hx
      have hne : l[j] ≠ n := fun e => hn (e ▸ List.getElem_mem _)
      have hnot : ¬ n < l[j] := by
        intro hlt
        have hjl : j < l.length := by omega
        have ha : l.any (fun x => decide (n < x)) = true := List.any_eq_true.2 ⟨_, List.getElem_mem hjl, by simpa using hlt⟩
        rw [if_pos ha] at hj
        have hj2 : j < l.findIdx (fun x => decide (n < x)) := by omega
        have := List.not_of_lt_findIdx hj2
        simp at this
        omega
      omega
    · intro x hx
      by_cases ha : l.any (fun x => decide (n < x)) = true
      · rw [if_pos ha] at hx
        obtain ⟨y, hy, hp⟩ := List.any_eq_true.1 ha
        have hlt := List.findIdx_lt_length_of_exists (p := fun x => decide (n < x)) ⟨y, hy, hp⟩
        have h1 := List.findIdx_getElem (xs := l) (p := fun x => decide (n < x)) (w := hlt)
        simp only [decide_eq_true_eq] at h1
        rw [List.drop_eq_getElem_cons hlt, List.mem_cons] at hx
        rcases hx with rfl | hx
        · exact h1
        · have h2 : (l.drop (l.findIdx (fun x => decide (n < x)))).Pairwise (· < ·) := List.Pairwise.sublist (List.drop_sublist _ _) h
          rw [List.drop_eq_getElem_cons hlt, List.pairwise_cons] at h2
          have := h2.1 x hx
          omega
      · rw [if_neg ha, List.drop_length] at hx
        cases hx
  rw [hi]
  unfold insL
  rw [List.pairwise_append, List.pairwise_cons]
  refine ⟨List.Pairwise.sublist (List.take_sublist _ _) h, ⟨hB, List.Pairwise.sublist (List.drop_sublist _ _) h⟩, ?_⟩
  intro x hx y hy
  rw [List.mem_cons] at hy
  rcases hy with rfl | hy
  · exact hA x hx
  · have := hA x hx; have := hB y hy; omega

theorem mask_bit (k i : Nat) (hk : k < 16) (hi : i < 16) : (65535 - 2 ^ k).testBit i = !decide (i = k) := by
  have : ∀ k i : Fin 16, (65535 - 2 ^ k.val).testBit i.val = !decide (i.val = k.val) := by decide +kernel
  exact this ⟨k, hk⟩ ⟨i, hi⟩

theorem mem_bits_iff (m : Nat) (hm : 0 < m) (x : Int) : x ∈ bitsL m ↔ ∃ i : Nat, i < 16 ∧ m.testBit i = true ∧ x = i := by
  unfold bitsL
  rw [nz_of hm]
  exact mem_memP m 16 x

theorem less_bits (A k : Nat) (hA : 0 < A) (hk : k < 16) (h0 : A &&& (65535 - 2 ^ k) ≠ 0) : (bitsL A).filter (fun x => decide (x ≠ (k : Int))) = bitsL (A &&& (65535 - 2 ^ k)) := by
  refine sorted_ext _ _ (List.Pairwise.filter _ (memP_sorted _ _)) (memP_sorted _ _) (fun x => ?_)
  rw [List.mem_filter, mem_bits_iff A hA, mem_bits_iff _ (Nat.pos_of_ne_zero h0)]
  simp only [decide_eq_true_eq, Nat.testBit_and, Bool.and_eq_true]
  constructor
  · rintro ⟨⟨i, h1, h2, rfl⟩, h3⟩
    exact ⟨i, h1, ⟨h2, by rw [mask_bit k i hk h1]; simp; omega⟩, rfl⟩
  · rintro ⟨i, h1, ⟨h2, h3⟩, rfl⟩
    rw [mask_bit k i hk h1] at h3
    simp at h3
    exact ⟨⟨i, h1, h2, rfl⟩, by omega⟩

theorem less_none (A k : Nat) (hA : 0 < A) (hk : k < 16) (h0 : A &&& (65535 - 2 ^ k) = 0) : (bitsL A).filter (fun x => decide (x ≠ (k : Int))) = [] := by
  rw [List.filter_eq_nil_iff]
  intro x hx hp
  obtain ⟨i, h1, h2, rfl⟩ := (mem_bits_iff A hA x).1 hx
  simp only [decide_eq_true_eq] at hp
  have : (A &&& (65535 - 2 ^ k)).testBit i = true := by
    rw [Nat.testBit_and, h2, mask_bit k i hk h1]
    simp
    omega
  rw [h0] at this
  simp at this

theorem pow_bit (k i : Nat) : (2 ^ k).testBit i = decide (k = i) := Nat.testBit_two_pow

theorem more_bits (A k : Nat) (hA : 0 < A) (hk : k < 16) : wiL (bitsL A) (k : Int) = bitsL (A ||| 2 ^ k) := by
  have hp : 0 < A ||| 2 ^ k := Nat.lt_of_lt_of_le hA Nat.left_le_or
  refine sorted_ext _ _ (wiL_sorted _ _ (memP_sorted _ _)) (memP_sorted _ _) (fun x => ?_)
  rw [wiL_mem, mem_bits_iff A hA, mem_bits_iff _ hp]
  simp only [Nat.testBit_or, Bool.or_eq_true, pow_bit, decide_eq_true_eq]
  constructor
  · rintro (⟨i, h1, h2, rfl⟩ | rfl)
    · exact ⟨i, h1, .inl h2, rfl⟩
    · exact ⟨k, hk, .inr rfl, rfl⟩
  · rintro ⟨i, h1, h2 | h2, rfl⟩
    · exact .inl ⟨i, h1, h2, rfl⟩
    · exact .inr (by rw [h2])

end Go.Proofs.Ytlcdmaehedhipaa
