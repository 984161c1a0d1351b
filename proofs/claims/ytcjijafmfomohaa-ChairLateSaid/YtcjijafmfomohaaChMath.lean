/-
  Members below six; those that were heard.
-/
import Derived.Test.YtcjijafmfomohaaChair5
namespace Go.Proofs.Ytcjijafmfomohaa
open Go.RowKit
set_option maxRecDepth 100000

theorem bits63 (m : Nat) (h : m < 65536) : bits .and .u16 (m : Int) 63 = ((m % 64 : Nat) : Int) := by
  have := Go.u16_and_nat m 63 h (by omega)
  rw [show ((63 : Nat) : Int) = 63 from rfl] at this
  rw [this, show (63 : Nat) = 2 ^ 6 - 1 from rfl, Nat.and_two_pow_sub_one_eq_mod]

/-- The members of a law's bits. -/
def mem6 (m : Nat) : List Int := bitsL (m % 64)

theorem mem6_len (m : Nat) : 1 ≤ (mem6 m).length ∧ (mem6 m).length ≤ 16 := bitsL_len _ (by omega)
theorem mem6_range (m : Nat) (x : Int) (h : x ∈ mem6 m) : 0 ≤ x ∧ x ≤ 5 := by
  obtain ⟨i, hi, rfl, hb⟩ := mem_bitsL_range _ x h
  refine ⟨by omega, ?_⟩
  by_cases h6 : i < 6
  · omega
  · exfalso
    have hlt : nz (m % 64) < 2 ^ i := by
      have h1 : nz (m % 64) < 64 := by unfold nz; split <;> omega
      have h2 : (2 : Nat) ^ 6 ≤ 2 ^ i := Nat.pow_le_pow_right (by omega) (by omega)
      omega
    rw [Nat.testBit_lt_two_pow hlt] at hb
    cases hb
theorem mem6_nd (m : Nat) : (mem6 m).Nodup := by
  unfold mem6 bitsL
  exact (memP_sorted _ _).imp (fun h => by omega)

theorem inC_take (ms : List Int) (hn : ms.Nodup) (k : Nat) (hk : k ≤ ms.length) : inC ms (ms.take k) = k := by
  unfold inC
  conv => lhs; rw [← List.take_append_drop k ms]
  rw [List.countP_append]
  have h1 : (ms.take k).countP (fun x => decide (x ∈ (ms.take k ++ ms.drop k).take k)) = k := by
    rw [List.take_append_drop]
    rw [List.countP_eq_length.2 (fun a ha => by simpa using ha), List.length_take]
    omega
  have h2 : (ms.drop k).countP (fun x => decide (x ∈ (ms.take k ++ ms.drop k).take k)) = 0 := by
    rw [List.take_append_drop]
    rw [List.countP_eq_zero]
    intro a ha
    have hd : (ms.take k ++ ms.drop k).Nodup := by rw [List.take_append_drop]; exact hn
    have := (List.nodup_append.1 hd).2.2
    simp only [decide_eq_true_eq]
    intro h
    exact this a h a ha rfl
  omega

/-- ChairLate's chair, where k members were heard. -/
def ltN (x : En) (ms : List Int) (k : Nat) : ChN := ⟨1, 7, 2, x, 0, 0, false, ms.take k⟩

theorem ltN_zero (x : En) (ms : List Int) : ChN.open 7 2 x = ltN x ms 0 := rfl
theorem ltN_exp (x : En) (ms : List Int) (hn : ms.Nodup) (k : Nat) (hk : k < ms.length) : expB ms (ltN x ms k) 1 ms[k] 7 2 = true := by
  unfold expB ltN
  have h1 : ms[k] ∈ ms := List.getElem_mem hk
  have h2 : ms[k] ∉ ms.take k := by
    intro h
    obtain ⟨i, hi, e⟩ := List.getElem_of_mem h
    rw [List.getElem_take] at e
    rw [List.length_take] at hi
    have := (List.getElem_inj hn).1 e
    omega
  simp [h1, h2, beq2]
theorem ltN_rep (x : En) (ms : List Int) (k : Nat) : (ltN x ms k).report 0 0 En.zero false = ltN x ms k := rfl
theorem ltN_enough (x : En) (ms : List Int) (hn : ms.Nodup) (k : Nat) (hk : k < ms.length) : (ltN x ms k).enough ms ms[k] = decide ((ms.length : Int) < 2 * ((k + 1 : Nat) : Int)) := by
  unfold ChN.enough ltN
  show decide ((ms.length : Int) < 2 * ((inC ms (ms.take k ++ [ms[k]]) : Nat) : Int)) = _
  rw [← List.take_succ_eq_append_getElem hk, inC_take ms hn (k + 1) (by omega)]
theorem ltN_hear_no (x : En) (ms : List Int) (hn : ms.Nodup) (k : Nat) (hk : k < ms.length) (h : ¬ (ms.length : Int) < 2 * ((k + 1 : Nat) : Int)) : (ltN x ms k).hear ms ms[k] = ltN x ms (k + 1) := by
  have he := ltN_enough x ms hn k hk
  unfold ChN.enough at he
  unfold ChN.hear
  rw [decide_eq_decide] at he
  rw [if_neg (fun h' => h (he.1 h'))]
  unfold ltN
  rw [List.take_succ_eq_append_getElem hk]
theorem ltN_hear_yes (x : En) (ms : List Int) (hn : ms.Nodup) (k : Nat) (hk : k < ms.length) (h : (ms.length : Int) < 2 * ((k + 1 : Nat) : Int)) : ((ltN x ms k).hear ms ms[k]).ph = 2 ∧ ((ltN x ms k).hear ms ms[k]).x = x := by
  have he := ltN_enough x ms hn k hk
  unfold ChN.enough at he
  unfold ChN.hear
  rw [decide_eq_decide] at he
  rw [if_pos (he.2 h)]
  exact ⟨rfl, rfl⟩

/-- What it doesn't record. -/
theorem ltN_old (x : En) (ms : List Int) (k : Nat) (p n r m : Int) (h : r < 7) : expB ms (ltN x ms k) p n r m = false := by
  unfold expB ltN beq2
  have : (7 == r) = false := by simp; omega
  simp [this]
theorem ltN_acc (x : En) (ms : List Int) (k : Nat) (n r m : Int) : expB ms (ltN x ms k) 2 n r m = false := by
  unfold expB ltN
  simp
theorem ltN_heard (x : En) (ms : List Int) (n r m : Int) (h : ms[0]? = some n) : expB ms (ltN x ms 1) 1 n r m = false := by
  cases ms with
  | nil => cases h
  | cons a t =>
    cases h
    unfold expB ltN
    simp
theorem ltN_other (x : En) (ms : List Int) (k : Nat) (n r m : Int) (h : n ∉ ms) : expB ms (ltN x ms k) 1 n r m = false := by
  unfold expB ltN
  simp [h]

end Go.Proofs.Ytcjijafmfomohaa
