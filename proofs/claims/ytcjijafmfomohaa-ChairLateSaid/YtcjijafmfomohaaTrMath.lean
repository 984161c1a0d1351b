/-
  Pure: lists of the bits of a number; how many bits two have in common; ascending lists.
-/
import Derived.Test.YtcjijafmfomohaaTrMem
import Derived.Laws.BitsAllLaws
namespace Go.Proofs.Ytcjijafmfomohaa
open Go.RowKit

def nz (m : Nat) : Nat := if m = 0 then 1 else m
theorem nz_pos (m : Nat) : 0 < nz m := by unfold nz; split <;> omega
theorem nz_lt {m : Nat} (h : m < 65536) : nz m < 65536 := by unfold nz; split <;> omega
theorem nz_of {m : Nat} (h : 0 < m) : nz m = m := by unfold nz; rw [if_neg (by omega)]

/-- The numbers of the bits of m below k. -/
def memP (m k : Nat) : List Int := ((List.range k).filter (fun i => m.testBit i)).map (fun (i : Nat) => (i : Int))
def bitsL (m : Nat) : List Int := memP (nz m) 16

theorem memP_step (m k : Nat) : memP m (k + 1) = memP m k ++ (if m.testBit k then [(k : Int)] else []) := by
  unfold memP
  rw [List.range_succ, List.filter_append, List.map_append]
  congr 1
  by_cases h : m.testBit k <;> simp [h]

theorem memP_le (m k : Nat) : (memP m k).length ≤ k := by
  unfold memP
  rw [List.length_map]
  exact Nat.le_trans (List.length_filter_le _ _) (by simp)

theorem mem_memP (m k : Nat) (x : Int) : x ∈ memP m k ↔ ∃ i : Nat, i < k ∧ m.testBit i = true ∧ x = i := by
  unfold memP
  simp only [List.mem_map, List.mem_filter, List.mem_range]
  constructor
  · rintro ⟨i, ⟨h1, h2⟩, rfl⟩; exact ⟨i, h1, h2, rfl⟩
  · rintro ⟨i, h1, h2, rfl⟩; exact ⟨i, ⟨h1, h2⟩, rfl⟩

theorem mem_bitsL (m i : Nat) (hi : i < 16) : (i : Int) ∈ bitsL m ↔ (nz m).testBit i = true := by
  unfold bitsL
  rw [mem_memP]
  constructor
  · rintro ⟨j, _, h2, h3⟩
    have : i = j := by omega
    subst this; exact h2
  · intro h; exact ⟨i, hi, h, rfl⟩

theorem mem_bitsL_range (m : Nat) (x : Int) (h : x ∈ bitsL m) : ∃ i : Nat, i < 16 ∧ x = i ∧ (nz m).testBit i = true := by
  obtain ⟨i, h1, h2, h3⟩ := (mem_memP _ _ _).1 h
  exact ⟨i, h1, h3, h2⟩

theorem memP_ne (m : Nat) (h0 : 0 < m) (h1 : m < 65536) : memP m 16 ≠ [] := by
  intro h
  have hz : m = 0 := by
    apply Nat.eq_of_testBit_eq
    intro i
    rw [Nat.zero_testBit]
    by_cases hi : i < 16
    · cases hb : m.testBit i with
      | false => rfl
      | true =>
        have : (i : Int) ∈ memP m 16 := (mem_memP _ _ _).2 ⟨i, hi, hb, rfl⟩
        rw [h] at this
        cases this
    · exact Nat.testBit_lt_two_pow (Nat.lt_of_lt_of_le h1 (Nat.pow_le_pow_right (n := 2) (by omega) (show 16 ≤ i by omega)))
  omega

theorem memP_zero : memP 0 16 = [] := by
  unfold memP
  simp

theorem bitsL_of (m : Nat) (h1 : m < 65536) : bitsL m = if memP m 16 = [] then [0] else memP m 16 := by
  unfold bitsL
  by_cases h : m = 0
  · subst h
    rw [if_pos memP_zero]
    decide
  · rw [if_neg (memP_ne m (by omega) h1), nz_of (by omega)]

theorem asc_iff (p : Int) (l : List Int) : asc p l = true ↔ (∀ x ∈ l, p < x ∧ x < 16) ∧ l.Pairwise (· < ·) := by
  induction l generalizing p with
  | nil => simp [asc]
  | cons y l ih =>
    simp only [asc, Bool.and_eq_true, decide_eq_true_eq, ih, List.mem_cons, forall_eq_or_imp, List.pairwise_cons]
    constructor
    · rintro ⟨⟨h1, h2⟩, h3, h4⟩
      exact ⟨⟨⟨h1, h2⟩, fun x hx => ⟨by have := (h3 x hx).1; omega, (h3 x hx).2⟩⟩, fun x hx => (h3 x hx).1, h4⟩
    · rintro ⟨⟨⟨h1, h2⟩, h3⟩, h4, h5⟩
      exact ⟨⟨h1, h2⟩, fun x hx => ⟨h4 x hx, (h3 x hx).2⟩, h5⟩

theorem memP_sorted (m k : Nat) : (memP m k).Pairwise (· < ·) := by
  unfold memP
  rw [List.pairwise_map]
  refine List.Pairwise.imp (R := (· < ·)) (fun h => by omega) ?_
  exact List.Pairwise.filter _ List.pairwise_lt_range

/-- Two ascending lists with the same members are the same. -/
theorem sorted_ext : ∀ (l m : List Int), l.Pairwise (· < ·) → m.Pairwise (· < ·) → (∀ x, x ∈ l ↔ x ∈ m) → l = m
  | [], [], _, _, _ => rfl
  | [], y :: m, _, _, h => by have := (h y).2 (by simp); cases this
  | x :: l, [], _, _, h => by have := (h x).1 (by simp); cases this
  | x :: l, y :: m, hl, hm, h => by
    rw [List.pairwise_cons] at hl hm
    have hxy : x = y := by
      have h1 := (h x).1 (by simp)
      have h2 := (h y).2 (by simp)
      rw [List.mem_cons] at h1 h2
      rcases h1 with h1 | h1
      · exact h1
      · rcases h2 with h2 | h2
        · exact h2.symm
        · have := hl.1 y h2; have := hm.1 x h1; omega
    subst hxy
    rw [sorted_ext l m hl.2 hm.2 (fun z => ?_)]
    constructor
    · intro hz
      have := (h z).1 (by simp [hz])
      rw [List.mem_cons] at this
      rcases this with rfl | h'
      · have := hl.1 z hz; omega
      · exact h'
    · intro hz
      have := (h z).2 (by simp [hz])
      rw [List.mem_cons] at this
      rcases this with rfl | h'
      · have := hm.1 z hz; omega
      · exact h'

theorem bitsL_len (m : Nat) (h1 : m < 65536) : 1 ≤ (bitsL m).length ∧ (bitsL m).length ≤ 16 := by
  have h2 := memP_le (nz m) 16
  refine ⟨?_, h2⟩
  rw [Nat.one_le_iff_ne_zero]
  intro h
  exact memP_ne (nz m) (nz_pos m) (nz_lt h1) (List.eq_nil_of_length_eq_zero h)

theorem bitsL_asc (m : Nat) : asc (-1) (bitsL m) = true := by
  rw [asc_iff]
  refine ⟨fun x hx => ?_, memP_sorted _ _⟩
  obtain ⟨i, h1, h2, _⟩ := mem_bitsL_range m x hx
  omega

theorem bitsL_chk (m : Nat) (h1 : m < 65536) : chkM (bitsL m) = 0 := by
  unfold chkM
  rw [if_pos (bitsL_len m h1), if_pos (bitsL_asc m)]

/-- How many bits below k. -/
def cnt (k m : Nat) : Nat := (List.range k).countP (fun i => m.testBit i)
def pc (m : Nat) : Nat := cnt 16 m

theorem cnt_step (k m : Nat) : cnt (k + 1) m = (if m.testBit 0 then 1 else 0) + cnt k (m / 2) := by
  unfold cnt
  rw [List.range_succ_eq_map, List.countP_cons, List.countP_map]
  rw [Nat.add_comm]
  congr 1
  apply List.countP_congr
  intro i _
  simp [Nat.testBit_succ]

theorem cnt_zero (k : Nat) : cnt k 0 = 0 := by
  unfold cnt
  rw [List.countP_eq_zero]
  simp

theorem cnt_le (k m : Nat) : cnt k m ≤ k := by
  unfold cnt
  exact Nat.le_trans List.countP_le_length (by simp)

theorem and_half (a b : Nat) : (a &&& b) / 2 = a / 2 &&& b / 2 := by
  apply Nat.eq_of_testBit_eq
  intro i
  rw [← Nat.testBit_succ, Nat.testBit_and, Nat.testBit_and, Nat.testBit_succ, Nat.testBit_succ]

theorem cnt_drop : ∀ (k x : Nat), 0 < x → x < 2 ^ k → cnt k (x &&& (x - 1)) + 1 = cnt k x
  | 0, x, h0, h1 => by simp at h1; omega
  | k + 1, x, h0, h1 => by
    rw [cnt_step, cnt_step, and_half, Nat.testBit_and]
    rw [Nat.pow_succ] at h1
    by_cases ho : x % 2 = 1
    · have b0 : x.testBit 0 = true := by simp [Nat.testBit_zero, ho]
      have b1 : (x - 1).testBit 0 = false := by simp [Nat.testBit_zero]; omega
      have e : (x - 1) / 2 = x / 2 := by omega
      rw [b0, b1, e, Nat.and_self]
      simp
      omega
    · have b0 : x.testBit 0 = false := by simp [Nat.testBit_zero]; omega
      have e : (x - 1) / 2 = x / 2 - 1 := by omega
      rw [b0, e]
      have := cnt_drop k (x / 2) (by omega) (by omega)
      simp
      exact this

theorem and_pred_lt (x : Nat) (h : 0 < x) : x &&& (x - 1) < x := by
  have := @Nat.and_le_right x (x - 1)
  omega

theorem pc_drop (x : Nat) (h : 0 < x) (h1 : x < 65536) : pc (x &&& (x - 1)) + 1 = pc x := cnt_drop 16 x h (by simpa using h1)

theorem bitsL_length (m : Nat) : (bitsL m).length = pc (nz m) := by
  unfold bitsL memP pc cnt
  rw [List.length_map, List.countP_eq_length_filter]

theorem inC_bits (a b : Nat) : inC (bitsL a) (bitsL b) = pc (nz a &&& nz b) := by
  unfold inC
  rw [show bitsL a = ((List.range 16).filter (fun i => (nz a).testBit i)).map (fun (i : Nat) => (i : Int)) from rfl]
  rw [List.countP_map, List.countP_filter]
  unfold pc cnt
  apply List.countP_congr
  intro i hi
  rw [List.mem_range] at hi
  simp only [Function.comp, Nat.testBit_and, Bool.and_eq_true, decide_eq_true_eq, mem_bitsL b i hi]
  exact And.comm

theorem inC_self (l : List Int) : inC l l = l.length := by
  unfold inC
  rw [List.countP_eq_length]
  simp

theorem inC_twice (l m : List Int) : inC l (m ++ m) = inC l m := by
  unfold inC
  simp

/-- The bit k, as the program asks for it. -/
theorem bit_and (m k : Nat) (h : m < 65536) : bits .and .u16 ((m : Int) / 2 ^ k) 1 = if m.testBit k then 1 else 0 := by
  have e : ((m : Int) / 2 ^ k) = ((m / 2 ^ k : Nat) : Int) := by simp
  have hl : m / 2 ^ k < 65536 := Nat.lt_of_le_of_lt (Nat.div_le_self _ _) h
  rw [e]
  have := Go.u16_and_nat (m / 2 ^ k) 1 hl (by omega)
  rw [show ((1 : Nat) : Int) = 1 from rfl] at this
  rw [this, Nat.and_one_is_mod, Nat.testBit_eq_decide_div_mod_eq]
  by_cases hb : m / 2 ^ k % 2 = 1
  · simp [hb]
  · simp [hb]; omega

end Go.Proofs.Ytcjijafmfomohaa
